import PyProof.Rows.All
import Wide.All
import OpenK.AllK
import Wide.FinOn
import Lean
import PyProof.EqAt
import PyProof.EqKinds
import PyProof.TupleCall
import PySem.Challenge.RW_paperwright_k18_what_is_no_text
set_option Elab.async false
set_option linter.all false
set_option maxRecDepth 100000
set_option maxHeartbeats 4000000
set_option hygiene false in
local macro_rules | `(tactic| walk_at "lo") => `(tactic| first | exact False.elim h | (obtain ⟨rfl, _⟩ := h; rfl) | (obtain ⟨_, h⟩ := h; walk_at "lo"))
set_option hygiene false in
local macro_rules | `(tactic| walk_at "l") => `(tactic| (intro _ _ _ h; walk_at "lo"))
set_option hygiene false in
local macro_rules | `(tactic| fin2) => `(tactic| first | dsimp only [↓RG, yP, wSs, wS, wE, wA, RH, Au, Rg, wP, CD, yQ, GV, bI, setAt, List.getElem?_cons_zero, List.getElem?_cons_succ, look, List.set, bH, bR, cj, au, List.map_cons, List.map_nil, List.nil_append, List.cons_append, x_len, CF, CG, Kq, Kr, Ks, CH, yR, yS, vf, Ku, Kv, Kw, Ky, Kz, KA, CI, KC, KD, KG, RI, RJ, x_lt, RK, RM, RN, KH, KI, yT, RO, KJ, KL, KN, RP, KO, KQ, KR, KU, yU, vg, Mz, KW, KY, RQ, CJ, CK, CL, CM, CN, CO, KZ, K0, K1, K2, K3, K4, K5, K6, K7, K8, K9, La, iZ, oU, CP, yV, fall, List.replicate, if_true, Bool.not_true, Bool.not_false] | simp only [List.getElem?_cons_zero, List.getElem?_cons_succ, List.map_cons, List.map_nil, List.nil_append, List.cons_append, x_len, CF, CG, Kq, Kr, Ks, CH, yR, yS, vf, Ku, Kv, Kw, Ky, Kz, KA, CI, KC, KD, KG, RI, RJ, x_lt, RK, RM, RN, KH, KI, yT, RO, KJ, KL, KN, RP, KO, KQ, KR, KU, yU, vg, Mz, KW, KY, RQ, CJ, CK, CL, CM, CN, CO, KZ, K0, K1, K2, K3, K4, K5, K6, K7, K8, K9, La, iZ, oU, CP, yV, fall, List.replicate, if_true, Bool.not_true, Bool.not_false] | skip)
set_option hygiene false in
local macro_rules | `(tactic| walk_at "hd") => `(tactic| (refine' Lb.RS ?ka ?kl ?kc ?kk; (case ka => k_is); (case kl => k_is); (case kc => k_is); (case kk => k_is)))
set_option hygiene false in
local macro_rules | `(tactic| walk_at "hm") => `(tactic| (refine' Lb.RT ?ka ?ki ?kl ?kc ?kk; (case ka => k_is); (case ki => k_is); (case kl => k_is); (case kc => k_is); (case kk => k_is)))
set_option hygiene false in
local macro_rules | `(tactic| walk_at "bn") => `(tactic| first | exact Lb.tH fun _ _ _ _ _ _ _ => rfl | exact Lb.CQ fun _ _ _ _ _ _ _ _ => rfl | exact Lb.VW fun _ _ _ _ _ _ _ _ _ => rfl | exact Lb.VY fun _ _ _ _ _ _ _ _ _ _ => rfl)
set_option hygiene false in
local macro_rules | `(tactic| walk_at "ah") => `(tactic| (refine' And.intro (And.intro ?h1 ?h2) ?_; (case h1 => walk_at "hd"); (case h2 => walk_at "bn")))
set_option hygiene false in
local macro_rules | `(tactic| walk_at "az") => `(tactic| (refine' And.intro ?h1 ?_; (case h1 => k_is)))
open Bool renaming and_eq_true->AC,false_ne_true->GE,and_eq_true_iff->Ki,or_false->QR,not_eq_true->Qb,and_false->Qr,eq_iff_iff->RF,eq_false_iff->SC,or_eq_true->Ta,not_eq_true'->W1,or_eq_false_iff->cx,true_and->V0,false_eq_true->XJ,false_or->ZW,and_true->Zb,true_or->Zc
open List renaming length_append->AN,mem_cons_of_mem->B1,mem_cons_self->BM,getElem?_eq_getElem->Ee,mem_cons->FC,mem_append_right->FK,mem_singleton->FR,mem_append->Fh,length_map->Fk,size_toArray->Fn,isEmpty_iff->Fs,append_assoc->Fu,getElem?_eq_some_iff->GT,getElem?_append_right->Gc,mem_append_left->He,getElem?_set_ne->Hk,map_cons->Hn,getElem?_map->IH,all_eq_true->IR,nodup_cons->Jn,mem_map->Kb,getElem?_set_self->Kj,map_append->Kk,mem_of_getElem?->Kx,length_set->L9,length_eq_zero_iff->Mo,getElem_mem->N0,append_nil->NA,getElem?_append_left->On,nodup_append->Pm,cons_ne_nil->QP,mem_filter->QQ,getD_eq_getElem?_getD->SU,not_mem_nil->Sr,length_take->T1,length_pos_iff->T2,take_of_length_le->U2,mem_range->UF,drop_left->UV,getElem_of_mem->Xt,nodup_nil->Yf,isPrefixOf_iff_prefix->ae,drop_eq_getElem_cons->ag,reverse_cons->ar,set_comm->bc,getElem?_replicate->c0,any_eq_true->cb,map_nil->cf,eq_nil_or_concat->cw,length_cons->A0,replicate->C8,all_cons->CB,length_nil->CC,lookup_cons->Cr,length->Dr,isPrefixOf->El,replicate_succ->G1,length_singleton->G2,zip_cons_cons->HA,flatten_cons->HN,range->L0,any_cons->LR,find?_cons->Lo,lookup->MG,filterMap_cons->MS,range'->N2,mem_filterMap->Nb,mem_range'_1->Nj,length_drop->Rj,cons_append->SN,of_mem_zip->T9,nil_append->TZ,foldl_cons->Tq,take_left->UM,drop_zero->UN,zipWith->VF,map_map->VG,length_replicate->Vq,dropLast_eq_take->Vw,contains_iff_mem->W2,map_congr_left->W9,getElem?_range->WI,set_cons_succ->WX,foldl->XA,contains_cons->XH,take_sublist->XR,length_range->XS,getElem?_set->Xe,any_eq_false->Xk,range'_succ->Y7,drop_length->Y8,sum_cons->ZV,map->d5
open Nat renaming le_refl->Bn,lt_of_lt_of_le->FM,le_trans->FV,ne_of_lt->KM,zero_le->NM,lt_irrefl->PQ,add_sub_cancel_left->Pl,succ_le_succ->Q1,le_of_lt->Ts,lt_of_le_of_lt->Y1,eq_zero_or_pos->Y2,add_sub_cancel->Ya,zero_add->RC,ne_of_gt->RD,lt_succ_of_lt->RW,lt_or_ge->RZ,le_of_eq->Rh,sub_zero->Vh,sub_self->Vn,log2_lt->W3,lt_succ_self->Z2,le_of_not_lt->Z3,mul_le_mul->ZU,toDigits->Zh,mul_comm->Zi,add_comm->Zy,one_mul->ck,le_succ->cv
open PySem renaming wpAny_bind->Da,wpAny_pure->GM,mem_of_lookup->Nw,wpAny_mono->Oy,wpAny_truthy_bool->Pt,wpAny_newObj_type->Pv,wpAny_Call_Name_kw->SF,wpAny_passesOwn->SL,wpAny_execs_nil->Wp,codeAny_mono->aw,wpAny_bindName->bp,wpAny_standAt->cm,wpAny_holding->cq
open PySem.Heap renaming get?_push_of_some->Dx,lt_size->Fm,get?_push_size->KE
open Option.some renaming inj->Ha
open Int renaming eq_ofNat_of_zero_le->Iy,fdiv_eq_ediv_of_nonneg->SZ,toNat_natCast->I0,mul_nonneg->Uq,fdiv_nonneg->Z7,mul_one->d3
open PySem.W renaming mg_of->KB,kia_one->Os,callWith_K->Tb,methodCall_KW->X2,looks_findIn->X9,looks_mroIn->XB
open Option renaming map_eq_some_iff->Kt,isSome_iff_exists->PP,getD_some->L3,map_some->Lm,getD_none->WW,none->Z8
open Ne renaming symm->OF
open PySem.F renaming plainAttrs_list->Pi,type_list_append->TC,slot_list_append->TK
open PyProof.Rows renaming callWith_type1->Re,assignInOrder_cons->TB,slot_tuple_getitem->X1,tDigits_len_ge->a7,sortedS->ax,digits10_le->b0,digit_range->bM,callWith_builtin1->ba
open False renaming elim->FP
open Sum renaming inr->HK,inl->OK
open Array renaming length_toList->J9,toList->V2,getElem?_toList->VO,append_assoc->WM,toList_inj->Xv
open True renaming intro->Kd
open ForInStep renaming yield->Lf
open List.cons renaming inj->Ml,injEq->d6
open PyProof renaming noPylong_small->Ul
open Nat.succ renaming inj->Xx
open Iff renaming rfl->YP
open List.Pairwise renaming nil->a6
open Or renaming inr->d4
open Decidable renaming not_not->dA
noncomputable def Ap:=@of_decide_eq_true
noncomputable def Bi:=@if_neg
noncomputable def Bz:=@decide_eq_true
noncomputable def DL:=@decide_eq_false
noncomputable def Do:=@if_pos
noncomputable def HI:=@beq_iff_eq
noncomputable def Hb:=@congrArg
noncomputable def P2:=@decide_eq_true_eq
noncomputable def P3:=@beq_eq_false_iff_ne
noncomputable def PH:=@beq_self_eq_true
noncomputable def bo:=@decide_eq_decide
noncomputable def cc:=@if_true
open PySem.W(instObj methodObj hideAll_get Frag lookIn plainGet hasDictIn findIn plainGet_of isFn plainOver takerIn makesIn emptyDict keepIn mroIn kitOne fnOf codeIn excIn callWith_K0 nsIn)
noncomputable section
set_option bootstrap.genMatcherCode false
namespace L2
open PySem PySem.Spec PyProof.Rows
abbrev Key:=Sum Int Str
noncomputable def oV:Key->Value->Bool
 |.inl k,v=>Value.isInt k v
 |.inr x,v=>Value.isStrOf x v
noncomputable def VZ(w:World):Key->Int
 |.inl k=>hashInt k
 |.inr x=>hashStr w x
theorem bu:∀{k:Key}{v:Value},oV k v=true->(∃i t,k=OK i/\v=Value.int i t)\/(∃x t,k=HK x/\v=Value.str x t)
 |.inl i,v,h=>by obtain⟨t,e⟩:=Value.isInt_shape (k:=i) (v:=v) h;exact .inl ⟨i,t,rfl,e⟩
 |.inr x,v,h=>by obtain⟨t,e⟩:=Value.isStrOf_shape (x:=x) (v:=v) h;exact .inr ⟨x,t,rfl,e⟩
theorem Av(i:Int)(t:Tok):oV (.inl i) (.int i t)=true:=by simp[oV,Value.isInt]
theorem Aw(x:Str)(t:Tok):oV (.inr x) (.str x t)=true:=by simp[oV,Value.isStrOf]
theorem MA(a b:Int):decide ((OK a:Key)=OK b)=(a==b):=by
 by_cases e:a=b
 .subst e;simp
 .have h:¬(OK a:Key)=OK b:=λq=>e (Sum.inl.inj q);rw[DL h];exact(P3.mpr e).symm
theorem MB(a b:Str):decide ((HK a:Key)=HK b)=decide (a=b):=by
 by_cases e:a=b
 .subst e;simp
 .have h:¬(HK a:Key)=HK b:=λq=>e (Sum.inr.inj q);rw[DL h,DL e]
theorem MC(a:Int)(b:Str):decide ((OK a:Key)=HK b)=false:=DL (λq=>nomatch q)
theorem MD(a:Str)(b:Int):decide ((HK a:Key)=OK b)=false:=DL (λq=>nomatch q)
noncomputable def bE(prog:Program)(w:World):PySem.KeyKind prog w Key where
 is:=oV
 hash:=VZ w
 inj:=λv a b g d=>by
  rcases bu g with⟨i,t,rfl,rfl⟩|⟨x,t,rfl,rfl⟩
  .rcases bu d with⟨j,u,rfl,e⟩|⟨y,u,rfl,e⟩
   .injection e with e1 _;rw[e1]
   .exact nomatch e
  .rcases bu d with⟨j,u,rfl,e⟩|⟨y,u,rfl,e⟩
   .exact nomatch e
   .injection e with e1 _;rw[e1]
 byValue:=λk v h=>by rcases bu h with⟨i,t,rfl,rfl⟩|⟨x,t,rfl,rfl⟩<;>rfl
 pyHash:=λc h=>by
  rcases bu c with⟨i,t,rfl,rfl⟩|⟨x,t,rfl,rfl⟩
  .exact wpAny_pyHash_int h
  .exact wpAny_pyHash_str h
 eqBool:=λf c h=>by
  rcases bu f with⟨i,t,rfl,rfl⟩|⟨x,t,rfl,rfl⟩
  .rcases bu c with⟨j,u,rfl,rfl⟩|⟨y,u,rfl,rfl⟩
   .rw[MA]at h;exact wpAny_eqBool_int h
   .rw[MC]at h;exact SeqAt.EqAt.int_str i t y u _ _ _ _ h
  .rcases bu c with⟨j,u,rfl,rfl⟩|⟨y,u,rfl,rfl⟩
   .rw[MD]at h;exact SeqAt.EqAt.str_int x t j u _ _ _ _ h
   .rw[MB]at h;exact wpAny_eqBool_str h
 «strs»:=λk x t v h=>by
  rcases bu h with⟨i,u,rfl,e⟩|⟨y,u,rfl,e⟩
  .exact nomatch e
  .injection e with e1 _;subst e1;cases v<;>rfl
theorem vh(prog:Program)(w:World)(i:Int)(t:Tok):(bE prog w).is (.inl i) (.int i t)=true:=Av i t
theorem vj(prog:Program)(w:World)(x:Str)(t:Tok):(bE prog w).is (.inr x) (.str x t)=true:=Aw x t
inductive V where
 |aG|bl (b:Bool)|int (i:Int)|str (x:Str)|Cq (b:Array UInt8)|ME (b:UInt64)|ref (a:Addr)|ty (n:String)
 deriving DecidableEq
noncomputable def RelV:V->Value->Prop
 |.aG,u=>u=Value.none
 |.bl b,u=>u=Value.bool b
 |.int i,u=>∃t,u=Value.int i t
 |.str x,u=>∃t,u=Value.str x t
 |.Cq b,u=>∃t,u=Value.bytes b t
 |.ME b,u=>∃t,u=Value.float b t
 |.ref a,u=>u=Value.ref a
 |.ty n,u=>u=Value.type n
abbrev Vals:List V->List Value->Prop:=Paired RelV
theorem Vals.length{a:List V}{us:List Value}(r:Vals a us):a.length=us.length:=Paired.length r
theorem Vals.get:∀{a:List V}{us:List Value}{i:Nat}{x:V},Vals a us->a[i]?=some x->∃u,us[i]?=some u/\RelV x u
 |_,_,_,_,.nil,e=>by simp at e
 |_,_,0,_,.cons r _,e=>by simp at e;subst e;exact⟨_,rfl,r⟩
 |_,_,i+1,x,.cons _ t,e=>by obtain⟨u,c,b⟩:=Vals.get (i:=i) (x:=x) t (by simpa using e);exact⟨u,by simpa using c,b⟩
theorem Vals.set{x:V}{u:Value}(r:RelV x u):∀{a:List V}{us:List Value}(i:Nat),Vals a us->Vals (a.set i x) (us.set i u)
 |_,_,_,.nil=>.nil
 |_,_,0,.cons _ t=>.cons r t
 |_,_,i+1,.cons q t=>.cons q (Vals.set r i t)
theorem Vals.append:∀{b a:List V}{us c:List Value},Vals b us->Vals a c->Vals (b++a) (us++c)
 |_,_,_,_,.nil,s=>s
 |_,_,_,_,.cons r t,s=>.cons r (Vals.append t s)
theorem Vals.take:∀{a:List V}{us:List Value}(n:Nat),Vals a us->Vals (a.take n) (us.take n)
 |_,_,0,_=>.nil
 |_,_,_+1,.nil=>.nil
 |_,_,n+1,.cons r t=>.cons r (Vals.take n t)
theorem Vals.drop:∀{a:List V}{us:List Value}(n:Nat),Vals a us->Vals (a.drop n) (us.drop n)
 |_,_,0,r=>r
 |_,_,_+1,.nil=>.nil
 |_,_,n+1,.cons _ t=>Vals.drop n t
noncomputable def iQ:Option V->Option Value->Prop
 |some v,some u=>RelV v u
 |none,none=>True
 |_,_=>False
noncomputable def KV{a:Type}:List (a×V)->List (a×Value)->Prop:=Paired λ(p:a×V)(q:a×Value)=>p.1=q.1/\RelV p.2 q.2
noncomputable def kV:Key->V
 |.inl i=>.int i
 |.inr x=>.str x
inductive HO where
 |lst (xs:List V)
 |tup (xs:List V)
 |dK (kvs:List (Key×V))|dT (kvs:List (List Key×V))
 |set (S:Int->Bool) (n:Nat)
 |ins (C dx:Addr) (fs:List (Str×V))
 |own (x:Addr)
 |xd (fs:List (Str×V))
 |met (f x:Addr)
 |rB (lo hi:Int)
 |xm (o:Obj) (u:HO)
 |Lc (ps:Array Value)
 |ext (φ:Heap->Prop)
abbrev Hp:=Addr->Option HO
noncomputable def upd(H:Hp)(a:Addr)(o:HO):Hp:=λb=>if b=a then some o else H b
theorem aD{H:Hp}{a:Addr}{o:HO}:upd H a o a=some o:=by unfold upd;rw[Do rfl]
theorem ay{H:Hp}{a b:Addr}{o:HO}(h:b≠a):upd H a o b=H b:=by unfold upd;rw[Bi h]
theorem GW{H:Hp}{a:Addr}{o u:HO}:upd (upd H a o) a u=upd H a u:=by funext b;unfold upd;split<;>rfl
theorem RU{H:Hp}{a b:Addr}{o u:HO}(h:H a=some o)(h':H b=some u)(d:o≠u):a≠b:=by intro e;subst e;rw[h]at h';exact d (Ha h')
theorem bx{H:Hp}{a b:Addr}{o:HO}(h:H a=some o)(h':H b=none):a≠b:=by intro e;subst e;rw[h]at h';cases h'
section
variable(P:Program)(w:World)
noncomputable def bC(H:Hp)(h:Heap)(a:Addr):HO->Prop
 |.lst c=>c.length<=sizeLine/\∃(b:List Value)(n:Nat),Vals c b/\h.get? a=some {cls:=.type "list",data:=.seq b.toArray n}
 |.tup c=>c.length<=sizeLine/\∃b:List Value,Vals c b/\IsTup h a b.toArray
 |.dK kvs=>kvs.length<=sizeLine/\(a==sysModules)=false/\∃vs,KV kvs vs/\h.DictOf (bE P w) a vs
 |.dT kvs=>kvs.length<=sizeLine/\(a==sysModules)=false/\∃c:List (List Key×Addr×Value),
   Paired (λ(p:List Key×V)(q:List Key×Addr×Value)=>p.1=q.1/\H q.2.1=some (.tup (p.1.map kV))/\RelV p.2 q.2.2) kvs c/\
   ∃o es ep,h.get? a=some o/\o.ExactDict/\o.data=.dict es ep/\es.toList=c.map (entryOfKey (tupleKind (bE P w)))/\(c.map (·.1)).Nodup
 |.set S n=>h.SetOf (intKind P w) a S n
 |.ins C g e=>H g=some (.own a)/\e.length<=1000/\g≠a/\h.get? a=some (instObj C g)/\
   ∃d,h.Ns1 g d/\(∀f,iQ (e.lookup f) (d f))/\PySem.Within d (e.map (·.1))
 |.own _=>∃o,h.get? a=some o
 |.xd e=>∃d,h.Ns1 a d/\∀f,iQ (e.lookup f) (d f)
 |.rB l m=>∃t u v,h.get? a=some {cls:=.type "range",data:=.fields #[.int l t,.int m u,.int 1 v]}
 |.xm o u=>h.get? a=some o/\bC H h a u
 |.Lc ps=>h.get? a=some {cls:=.none,data:=.fields ps}
 |.met f x=>h.get? a=some (methodObj (.ref f) (.ref x))
 |.ext i=>i h/\(∃o,h.get? a=some o)/\∀k j:Heap,i k->(∀o,k.get? a=some o->j.get? a=some o)->i j
noncomputable def iX(H:Hp)(h:Heap):Prop:=∀a o,H a=some o->bC P w H h a o
end
section
variable{P:Program}{w:World}{H H':Hp}{h h':Heap}{a:Addr}{o:HO}
theorem bC.lt(x:bC P w H h a o):a<h.objs.size:=by
 cases o with
 |lst c=>obtain⟨_,_,_,_,e⟩:=x;exact Fm e
 |tup c=>obtain⟨_,_,_,p⟩:=x;exact p.lt
 |dK b=>obtain⟨_,_,_,_,o,_,_,e,_⟩:=x;exact Fm e
 |dT b=>obtain⟨_,_,_,_,o,_,_,e,_⟩:=x;exact Fm e
 |set S n=>obtain⟨o,_,_,_,e,_⟩:=x;exact Fm e
 |ins C l d=>obtain⟨_,_,_,e,_⟩:=x;exact Fm e
 |own y=>obtain⟨_,e⟩:=x;exact Fm e
 |xd d=>obtain⟨_,⟨_,_,_,e,_⟩,_⟩:=x;exact Fm e
 |rB j k=>obtain⟨_,_,_,e⟩:=x;exact Fm e
 |xm i u=>obtain⟨e,_⟩:=x;exact Fm e
 |Lc g=>exact Fm (show h.get? a=some _ from x)
 |met f y=>exact Fm (show h.get? a=some _ from x)
 |ext φ=>obtain⟨_,⟨_,e⟩,_⟩:=x;exact Fm e
theorem Paired.MF{α e:Type}{F G:α->e->Prop}:∀{d:List α}{c:List e},Paired F d c->(∀a b,F a b->G a b)->Paired G d c
 |_,_,.nil,_=>.nil
 |_,_,.cons r t,f=>.cons (f _ _ r) (Paired.MF t f)
theorem bC.stay(x:bC P w H h a o)(k:∀b u,(b=a\/H b=some (.own a))->h.get? b=some u->h'.get? b=some u)
 (L:∀b,H b=some (.own a)->H' b=some (.own a))(K:∀b m,H b=some (.tup m)->H' b=some (.tup m)):bC P w H' h' a o:=by
 induction o with
 |lst m=>obtain⟨z,l,n,r,e⟩:=x;exact⟨z,l,n,r,k _ _ (.inl rfl) e⟩
 |tup m=>obtain⟨z,l,r,g,e,c⟩:=x;exact⟨z,l,r,g,k _ _ (.inl rfl) e,c⟩
 |dK B=>obtain⟨z,y,F,r,g,i,j,e,c⟩:=x;exact⟨z,y,F,r,g,i,j,k _ _ (.inl rfl) e,c⟩
 |dT B=>obtain⟨z,y,m,r,g,i,j,e,c⟩:=x;exact⟨z,y,m,Paired.MF r λp q z=>⟨z.1,K _ _ z.2.1,z.2.2⟩,g,i,j,k _ _ (.inl rfl) e,c⟩
 |set S n=>obtain⟨g,i,j,t,e,c⟩:=x;exact⟨g,i,j,t,k _ _ (.inl rfl) e,c⟩
 |ins C R M=>obtain⟨d,z,I,e,A,⟨s,i,j,N,c⟩,r⟩:=x;exact⟨L _ d,z,I,k _ _ (.inl rfl) e,A,⟨s,i,j,k _ _ (.inr d) N,c⟩,r⟩
 |own y=>obtain⟨g,e⟩:=x;exact⟨g,k _ _ (.inl rfl) e⟩
 |xd M=>obtain⟨A,⟨s,i,j,e,c⟩,r⟩:=x;exact⟨A,⟨s,i,j,k _ _ (.inl rfl) e,c⟩,r⟩
 |rB O Q=>obtain⟨t,u,v,e⟩:=x;exact⟨t,u,v,k _ _ (.inl rfl) e⟩
 |xm g u J=>obtain⟨e,q⟩:=x;exact⟨k _ _ (.inl rfl) e,J q⟩
 |Lc E=>have e:h.get? a=some {cls:=.none,data:=.fields E}:=x;show h'.get? a=some {cls:=.none,data:=.fields E};exact k a _ (.inl rfl) e
 |met f y=>have e:h.get? a=some (methodObj (.ref f) (.ref y)):=x;show h'.get? a=some (methodObj (.ref f) (.ref y));exact k a _ (.inl rfl) e
 |ext φ=>obtain⟨p,⟨o,e⟩,D⟩:=x;exact⟨D _ _ p λo q=>k _ _ (.inl rfl) q,⟨o,k _ _ (.inl rfl) e⟩,D⟩
theorem iX.lt(x:iX P w H h)(e:H a=some o):a<h.objs.size:=(x a o e).lt
theorem iX.fresh(x:iX P w H h)(e:h.objs.size<=a):H a=none:=by
 cases q:H a with
 |none=>rfl
 |some u=>exact absurd (FM (x.lt q) e) (PQ _)
theorem iX.kept(x:iX P w H h)(k:∀b u,h.get? b=some u->h'.get? b=some u):iX P w H h':=λa o e=>(x a o e).stay (λb u _ q=>k b u q) (λ_ q=>q) λ_ _ q=>q
theorem iX.laid(x:iX P w H h)(k:∀b u,h.get? b=some u->h'.get? b=some u)(i:h.objs.size<=a)(d:bC P w (upd H a o) h' a o):iX P w (upd H a o) h':=λb u e=>by
 have f:=x.fresh i;by_cases g:b=a
 .subst g;rw[aD]at e;cases e;exact d
 .rw[ay g]at e;exact(x b u e).stay (λc v _ q=>k c v q) (λc q=>by rw[ay (bx q f)];exact q) λc j q=>by rw[ay (bx q f)];exact q
end
noncomputable def Rd(H:Hp)(a:Addr)(u:HO):Prop:=H a=some u\/∃o,H a=some (.xm o u)
theorem Rd.ok{P:Program}{w:World}{H:Hp}{h:Heap}{a:Addr}{u:HO}(r:Rd H a u)(x:iX P w H h):bC P w H h a u:=by
 rcases r with r|⟨o,r⟩
 .exact x a u r
 .obtain⟨_,q⟩:=x a _ r;exact q
noncomputable def RV:Option HO->Prop
 |some (.lst _)=>True
 |some (.dK _)=>True
 |some (.dT _)=>True
 |some (.set _ _)=>True
 |some (.ins _ _ _)=>True
 |some (.ext _)=>True
 |_=>False
section
variable{P:Program}{w:World}{H:Hp}{h h':Heap}{x e:Addr}{o':HO}
theorem iX.write(n:iX P w H h)(d:RV (H x))(he:e=x\/H e=some (.own x))(k:∀b u,b≠e->h.get? b=some u->h'.get? b=some u)(s:∃u,h'.get? e=some u)
 (j:bC P w (upd H x o') h' x o'):iX P w (upd H x o') h':=λb u q=>by
 have m:∀c y,H c=some (.own y)->c≠x:=λc y r z=>by subst z;rw[r]at d;exact d
 have p:∀c a,H c=some (.tup a)->c≠x:=λc a r z=>by subst z;rw[r]at d;exact d
 by_cases g:b=x
 .subst g;rw[aD]at q;cases q;exact j
 .rw[ay g]at q;by_cases i:b=e
  .have l:H b=some (.own x):=by
    rcases he with z|z
    .exact absurd (i.trans z) g
    .rw[i];exact z
   rw[q]at l;cases l;obtain⟨v,o⟩:=s;exact⟨v,by rw[i];exact o⟩
  .refine(n b u q).stay (λc v f r=>k c v ?_ r) (λc r=>by rw[ay (m c b r)];exact r) λc a r=>by rw[ay (p c a r)];exact r
   rcases f with rfl|f
   .exact i
   .rintro rfl;rcases he with z|z
    .exact m c b f z
    .rw[f]at z;cases z;exact g rfl
end
structure Un(fs ex:List Addr)(H H':Hp)(h h':Heap):Prop where
 keep:∀b o,h.get? b=some o->H b=none->b∉fs->b∉ex->h'.get? b=some o
 slot:∀b o,h.get? b=some o->H b=none->b∈fs->b∉ex->∃sl,h'.get? b=some {o with slots:=sl}
 free:∀b o,h.get? b=some o->H b=none->b∉ex->H' b=none
 there:∀b o,h.get? b=some o->b∉ex->∃o',h'.get? b=some o'
 tups:∀b xs,H b=some (.tup xs)->H' b=some (.tup xs)
 jZ:∀b o u,H b=some (.xm o u)->H' b=some (.xm o u)
 kN:∀b ps,H b=some (.Lc ps)->∃more,H' b=some (.Lc (ps++more))
section
variable{fs fs' ex ex':List Addr}{H H1 H2:Hp}{h h1 h2 h':Heap}{a x e:Addr}{o:HO}
theorem Un.any(u:Un fs ex H H1 h h1){b:Addr}{c:Obj}(q:h.get? b=some c)(n:H b=none)(d:b∉ex):∃g,h1.get? b=some {c with slots:=g}:=by
 by_cases f:b∈fs
 .exact u.slot b c q n f d
 .exact⟨c.slots,u.keep b c q n f d⟩
theorem Un.kept(k:∀b u,h.get? b=some u->h'.get? b=some u):Un fs ex H H h h':=
 ⟨λb c q _ _ _=>k b c q,λb c q _ _ _=>⟨c.slots,k b c q⟩,λ_ _ _ n _=>n,λb c q _=>⟨c,k b c q⟩,λ_ _ q=>q,λ_ _ _ q=>q,λ_ d q=>⟨#[],by rw[q];simp⟩⟩
theorem Un.refl:Un fs ex H H h h:=Un.kept λ_ _ q=>q
theorem Un.laid(k:∀b u,h.get? b=some u->h'.get? b=some u)(f:h.objs.size<=a)(c:H a=none):Un fs ex H (upd H a o) h h' where
 keep:=λb u q _ _ _=>k b u q
 slot:=λb u q _ _ _=>⟨u.slots,k b u q⟩
 free:=λb u q n _=>by rw[ay (KM (FM (Fm q) f))];exact n
 there:=λb u q _=>⟨u,k b u q⟩
 tups:=λb d q=>by rw[ay (bx q c)];exact q
 jZ:=λb u d q=>by rw[ay (bx q c)];exact q
 kN:=λb g q=>⟨#[],by rw[ay (bx q c),q];simp⟩
theorem Un.write(c:RV (H x))(he:e=x\/H e=some (.own x))(k:∀b u,b≠e->h.get? b=some u->h'.get? b=some u)(m:∃u,h'.get? e=some u):Un fs ex H (upd H x o) h h':=by
 have f:∀b,H b=none->b≠x:=λb n z=>by subst z;rw[n]at c;exact c
 have g:∀b,H b=none->b≠e:=λb n z=>by
  subst z;rcases he with r|r
  .exact f b n r
  .rw[n]at r;cases r
 have d:∀b u,H b=some u->¬RV (some u)->b≠x:=λb u q l z=>by subst z;rw[q]at c;exact l c
 refine⟨λb u q n _ _=>k b u (g b n) q,λb u q n _ _=>⟨u.slots,k b u (g b n) q⟩,λb u q n _=>by rw[ay (f b n)];exact n,λb u q _=>?_,
  λb j q=>by rw[ay (d b _ q λz=>z)];exact q,λb u j q=>by rw[ay (d b _ q λz=>z)];exact q,λb p q=>⟨#[],by rw[ay (d b _ q λz=>z),q];simp⟩⟩
 by_cases i:b=e
 .subst i;exact m
 .exact⟨u,k b u i q⟩
end
noncomputable def Vf(h:Heap)(H:Hp):List Addr:=(L0 h.objs.size).filter λa=>(H a).isSome
noncomputable def tK(h:Heap)(H:Hp):Heap:=PySem.W.hideAll h (Vf h H)
theorem Ax(h:Heap)(H:Hp):(tK h H).objs.size=h.objs.size:=PySem.W.hideAll_size _ _
theorem CT{h:Heap}{H:Hp}{b:Addr}{o:Obj}(e:h.get? b=some o)(n:H b=none):(tK h H).get? b=some o:=
 hideAll_get _ e λa=>by have q:(H b).isSome=true:=(QQ.mp a).2;rw[n]at q;simp at q
theorem GX{h:Heap}{H:Hp}{b:Addr}{o:Obj}(e:(tK h H).get? b=some o):h.get? b=some o/\H b=none:=by
 have a:h.get? b=some o:=PySem.W.of_hideAll (Vf h H) e;refine⟨a,?_⟩;cases q:H b with
 |none=>rfl
 |some x=>have c:b∈Vf h H:=QQ.mpr ⟨UF.mpr (Fm a),by simp[q]⟩;have z:(tK h H).get? b=none:=PySem.W.hideAll_none (Vf h H) c;rw[z]at e;cases e
noncomputable def GY(g h:Heap)(L:Addr):List (Addr×Obj):=(L0 h.objs.size).filterMap λa=>if a=L\/(g.get? a).isSome=true then none else(h.get? a).map λo=>(a,o)
noncomputable def rest(g h:Heap)(L d:Addr):List (Addr×Obj):=(GY g h L).filter λp=>decide (p.1≠d)
structure Mod(K:Frag)(mg:Str->Option Value)(base:Heap):Prop where
 Ld:K.In base
 glob:base.Ns mainGlobals mg
 blt:∃mb,base.Ns builtinsNs mb/\∀x:Str,x≠"__name__"->mb x=bootBuiltins x
 nolimit:base.NoLimit
 seer:base.NoSeer
set_option genInjectivity false in
set_option genSizeOf false in
structure Cx where
 prog:Program
 w:World
 K:Frag
 mg:Str->Option Value
 base:Heap
 A:Around
 N:List Str
 s₀:Shared
 H₀:Hp
 env:Env
 outer:List Env
 stack:List Env
 ex:List Addr
 fn:Str->Bool
 calm:Bool
 pn:List (Addr×Obj)
 xe:Value->Shared->Prop
noncomputable def frs(l:List Env):List Addr:=l.filterMap (·.frame)
abbrev Cx.fs(X:Cx):List Addr:=frs X.outer
noncomputable def RX(sc:Scope)(x:Str):Prop:=sc.names.lookup x=some .local\/sc.names.lookup x=some .cell\/sc.names.lookup x=some .free
noncomputable def Loc(sc:Scope)(x:Str):Prop:=sc.names.lookup x=some .local\/sc.names.lookup x=some .cell
noncomputable def Look(env:Env)(h:Heap)(m:Str->Option Value)(x:Str)(u:Value):Prop:=
 (env.kindOf x=some .local/\m x=some u)\/((env.kindOf x=some .cell\/env.kindOf x=some .free)/\∃c,env.cells.lookup x=some c/\h.IsCell c (some u))
structure Cx.Ok(X:Cx):Prop where
 mod:Mod X.K X.mg X.base
 kind:X.env.scope.kind=.function
 glob:X.env.globals=mainGlobals
 blt:X.env.builtins=builtinsNs
 above:X.s₀.heap.objs.size<=X.env.locals
 inj:∀x y c,X.env.cells.lookup x=some c->X.env.cells.lookup y=some c->x=y
 has:∀x,(X.env.kindOf x=some .cell\/X.env.kindOf x=some .free)->∃c,X.env.cells.lookup x=some c
 Ri:∀x c,X.fn x=true->X.env.cells.lookup x=some c->X.s₀.heap.objs.size<=c
 hd:X.calm=true->X.A.handled=none
 frames:X.A.frames=some X.stack
 stk:X.stack=X.outer\/(X.stack=X.env::X.outer/\X.env.frame=some X.env.locals)
 Vg:∀b∈X.ex,b≠X.env.locals/\∀x c,X.env.cells.lookup x=some c->c≠b
 bs:∀b o,X.base.get? b=some o->X.s₀.heap.get? b=some o/\X.H₀ b=none
 GH:X.base.objs.size<=X.s₀.heap.objs.size
 Ay:∀b o,X.base.get? b=some o->b∉X.ex
 Az:∀b∈X.ex,b∉X.fs
 lU:X.s₀.heap.FunFrames X.base X.outer
 Le:∀b∈X.fs,X.H₀ b=none
 tree:X.prog.given.tree=none
 RY:∀(A:Around)(s:Shared),A.frames=X.A.frames->A.depth=X.A.depth->(∀b o,X.base.get? b=some o->s.heap.get? b=some o)->PylongRoom (model X.prog X.w) A s
structure Inv(X:Cx)(pins:List (Addr×Obj))(σ:List (Option V))(H:Hp)(s:Shared):Prop where
 ok:X.Ok
 os:s.os=X.s₀.os
 bare:AllBare s.gens
 base:Un X.fs X.ex X.H₀ H X.s₀.heap s.heap
 loc:∃m,s.heap.Ns X.env.locals m/\∀(i:Nat)(x:Str)(v:V),X.N[i]?=some x->σ[i]?=some (some v)->RX X.env.scope x->∃u,RelV v u/\Look X.env s.heap m x u
 cell:∀x c,X.env.cells.lookup x=some c->∃v,s.heap.IsCell c v
 free:H X.env.locals=none
 eW:∀x c,X.env.cells.lookup x=some c->H c=none
 pin:∀p∈X.pn++pins,s.heap.get? p.1=some p.2/\H p.1=none/\p.1≠X.env.locals/\p.1∉X.fs/\∀v,p.2.data≠.cell v
 hok:iX X.prog X.w H s.heap
 len:σ.length=X.N.length
section
variable{X:Cx}{pins:List (Addr×Obj)}{σ:List (Option V)}{H H':Hp}{s:Shared}{h':Heap}
theorem Cx.Ok.AA(a:X.Ok){b:Addr}{o:Obj}(e:X.base.get? b=some o):b∉X.fs:=λc=>by have:=(a.lU.mem c).1;rw[e]at this;cases this
theorem Inv.bs(I:Inv X pins σ H s):∀b o,X.base.get? b=some o->s.heap.get? b=some o/\H b=none:=λb o e=>⟨I.base.keep b o (I.ok.bs b o e).1 (I.ok.bs b o e).2 (I.ok.AA e) (I.ok.Ay b o e),I.base.free b o (I.ok.bs b o e).1 (I.ok.bs b o e).2 (I.ok.Ay b o e)⟩
theorem Inv.bk(I:Inv X pins σ H s):∀b o,X.base.get? b=some o->s.heap.get? b=some o:=λb o e=>(I.bs b o e).1
theorem Inv.mod(I:Inv X pins σ H s):Mod X.K X.mg X.base:=I.ok.mod
theorem Inv.jT(I:Inv X pins σ H s):X.K.In s.heap:=I.ok.mod.Ld.keeps I.bk
theorem Inv.lt(I:Inv X pins σ H s):X.env.locals<s.heap.objs.size:=let⟨_,hn,_⟩:=I.loc;hn.lt
theorem Inv.sz(I:Inv X pins σ H s):X.s₀.heap.objs.size<=s.heap.objs.size:=FV I.ok.above (Ts I.lt)
theorem Inv.V1(I:Inv X pins σ H s){a:Addr}(h:s.heap.objs.size<=a):a∉X.fs:=λc=>by obtain⟨_,o,b,_⟩:=I.ok.lU.mem c;exact absurd (FM (Fm b) (FV I.sz h)) (PQ _)
theorem Inv.CU(I:Inv X pins σ H s):∀x c,X.env.cells.lookup x=some c->c≠X.env.locals:=λx c e z=>by obtain⟨v,o,d,hd⟩:=I.cell x c e;obtain⟨m,⟨f,g,h,a,b,_⟩,_⟩:=I.loc;rw[z,a]at d;cases d;rw[b]at hd;cases hd
theorem Inv.lU(I:Inv X pins σ H s):s.heap.FunFrames X.base X.outer:=by
 have f:∀(l:List Env),(∀b∈frs l,b∈X.fs)->X.s₀.heap.FunFrames X.base l->s.heap.FunFrames X.base l:=by
  intro l
  induction l with
  |nil=>intro _ _;trivial
  |cons env r h=>intro g m;obtain⟨n,⟨L,o,a,k,j,hd⟩,i⟩:=m;have d:L∈X.fs:=g L (by unfold frs;rw[MS,a];exact BM);obtain⟨p,e⟩:=I.base.slot L o j (I.ok.Le L d) d λz=>I.ok.Az L z d;exact⟨n,⟨L,_,a,k,e,hd⟩,h (λb c=>g b (by unfold frs;rw[MS,a];exact B1 _ c)) i⟩
 exact f X.outer (λ_ c=>c) I.ok.lU
theorem Inv.stack(I:Inv X pins σ H s):s.heap.FunFrames X.base X.stack:=by
 rcases I.ok.stk with e|⟨e,b⟩
 .rw[e];exact I.lU
 .rw[e];obtain⟨m,a,_⟩:=I.loc;refine .cons (by rw[I.ok.kind];decide) b a ?_ I.lU;exact Heap.get?_none_of_le (FV I.ok.GH I.ok.above)
theorem Inv.xA(I:Inv X pins σ H s):∀b∈frs X.stack,b∈X.env.locals::X.fs:=λb a=>by
 rcases I.ok.stk with e|⟨e,c⟩
 .rw[e]at a;exact B1 _ a
 .rw[e]at a;unfold frs at a;rw[MS,c]at a;exact a
theorem Inv.jB(I:Inv X pins σ H s):∀b∈frs X.stack,H b=none:=λb a=>by
 rcases FC.mp (I.xA b a)with e|a
 .rw[e];exact I.free
 .obtain⟨_,o,c,_⟩:=I.ok.lU.mem a;exact I.base.free b o c (I.ok.Le b a) λz=>I.ok.Az b z a
theorem Inv.step{g':Array GenState}{t':Nat}{d':Drawn}{ch:List Addr}(I:Inv X pins σ H s)
 (f:∀b∈ch,(b∈X.ex\/X.s₀.heap.objs.size<=b)/\b≠X.env.locals/\(∀x c,X.env.cells.lookup x=some c->c≠b)/\∀p∈X.pn++pins,p.1≠b)
 (keep:∀b o,b≠X.env.locals->b∉X.fs->b∉ch->s.heap.get? b=some o->H b=none->h'.get? b=some o)
 (slot:∀b o,b≠X.env.locals->b∈X.fs->b∉ch->s.heap.get? b=some o->H b=none->∃F,h'.get? b=some {o with slots:=F})(free:∀b o,b∉ch->s.heap.get? b=some o->H b=none->H' b=none)
 (there:∀b o,b∉ch->s.heap.get? b=some o->∃A,h'.get? b=some A)
 (tups:∀b j,H b=some (.tup j)->H' b=some (.tup j))(jZ:∀b o u,H b=some (.xm o u)->H' b=some (.xm o u))(kN:∀b ps,H b=some (.Lc ps)->∃B,H' b=some (.Lc (ps++B)))
 (P:∀m,s.heap.Ns X.env.locals m->h'.Ns X.env.locals m)(J:iX X.prog X.w H' h')(U:AllBare g'):
 Inv X pins σ H' {s with heap:=h',gens:=g',drawn:=d',toks:=t'}:=by
 have O:∀b o,X.s₀.heap.get? b=some o->b≠X.env.locals:=λb o e=>KM (FM (Fm e) I.ok.above);have E:∀b o,X.s₀.heap.get? b=some o->b∉X.ex->b∉ch:=λb o e a t=>by
  rcases(f b t).1 with z|z
  .exact a z
  .exact absurd (FM (Fm e) z) (PQ _)
 have g:∀x c,X.env.cells.lookup x=some c->∀v,s.heap.IsCell c v->h'.IsCell c v:=λx c e v ⟨o,y,hd⟩=>by
  have D:c∉ch:=λz=>(f c z).2.2.1 x c e rfl;by_cases N:c∈X.fs
  .obtain⟨F,q⟩:=slot c o (I.CU x c e) N D y (I.eW x c e);exact⟨_,q,hd⟩
  .exact⟨o,keep c o (I.CU x c e) N D y (I.eW x c e),hd⟩
 refine⟨I.ok,I.os,U,⟨λb o e n t a=>?_,λb o e n t a=>?_,λb o e n a=>?_,λb o e a=>?_,λb j e=>tups b j (I.base.tups b j e),λb o j e=>jZ b o j (I.base.jZ b o j e),λb ps e=>?_⟩,?_,λx c e=>?_,?_,λx c e=>?_,λp M=>?_,J,I.len⟩
 .exact keep b o (O b o e) t (E b o e a) (I.base.keep b o e n t a) (I.base.free b o e n a)
 .obtain⟨F,h⟩:=I.base.slot b o e n t a;obtain⟨Z,C⟩:=slot b _ (O b o e) t (E b o e a) h (I.base.free b o e n a);exact⟨Z,C⟩
 .obtain⟨A,h⟩:=I.base.there b o e a;exact free b A (E b o e a) h (I.base.free b o e n a)
 .obtain⟨A,h⟩:=I.base.there b o e a;exact there b A (E b o e a) h
 .obtain⟨R,h⟩:=I.base.kN b ps e;obtain⟨Q,C⟩:=kN b _ h;exact⟨R++Q,by rw[C,WM]⟩
 .obtain⟨m,S,T⟩:=I.loc;refine⟨m,P m S,λi x v h C Y=>?_⟩;obtain⟨u,r,l⟩:=T i x v h C Y;refine⟨u,r,?_⟩;rcases l with l|⟨k,c,e,z⟩
  .exact .inl l
  .exact .inr ⟨k,c,e,g x c e _ z⟩
 .obtain⟨v,z⟩:=I.cell x c e;exact⟨v,g x c e v z⟩
 .obtain⟨m,⟨o,_,_,y,_⟩,_⟩:=I.loc;exact free _ o (λz=>(f _ z).2.1 rfl) y I.free
 .obtain⟨v,o,y,hd⟩:=I.cell x c e;exact free c o (λz=>(f c z).2.2.1 x c e rfl) y (I.eW x c e)
 .obtain⟨e,n,L,K,d⟩:=I.pin p M;have D:p.1∉ch:=λz=>(f p.1 z).2.2.2 p M rfl;exact⟨keep p.1 p.2 L K D e n,free p.1 p.2 D e n,L,K,d⟩
theorem Inv.un{t':Nat}(I:Inv X pins σ H s)(u:Un X.fs [] H H' s.heap h')(c:iX X.prog X.w H' h'):Inv X pins σ H' {s with heap:=h',toks:=t'}:=by obtain⟨m,⟨o,t,v,g,r⟩,_⟩:=id I.loc;obtain⟨l,j⟩:=u.any g I.free (by simp);exact I.step (g':=s.gens) (d':=s.drawn) (ch:=[]) (λ_ z=>nomatch z) (λb o _ d _ e n=>u.keep b o e n d (by simp)) (λb o _ d _ e n=>u.slot b o e n d (by simp)) (λb o _ e n=>u.free b o e n (by simp)) (λb o _ e=>u.there b o e (by simp)) u.tups u.jZ u.kN (λq i=>by obtain⟨p,f,k,a,h⟩:=i;rw[g]at a;cases a;exact⟨_,f,k,j,h⟩) c I.bare
theorem Inv.call{g':Array GenState}{t':Nat}{d':Drawn}{ch:List Addr}(I:Inv X pins σ H s)(u:Un (frs X.stack) ch H H' s.heap h')(g:iX X.prog X.w H' h')(q:AllBare g')
 (f:∀b∈ch,(b∈X.ex\/X.s₀.heap.objs.size<=b)/\b≠X.env.locals/\(∀x c,X.env.cells.lookup x=some c->c≠b)/\∀p∈X.pn++pins,p.1≠b):
 Inv X pins σ H' {s with heap:=h',gens:=g',drawn:=d',toks:=t'}:=by
 obtain⟨m,⟨o,C,D,j,r⟩,_⟩:=id I.loc;obtain⟨y,h⟩:=u.any j I.free λz=>(f _ z).2.1 rfl;exact I.step (ch:=ch) f (λb o h t a e n=>u.keep b o e n (λz=>(FC.mp (I.xA b z)).elim h t) a) (λb o _ _ a e n=>u.any e n a) (λb o a e n=>u.free b o e n a) (λb o a e=>u.there b o e a) u.tups u.jZ u.kN (λB l=>by obtain⟨A,i,v,d,k⟩:=l;rw[j]at d;cases d;exact⟨_,i,v,h,k⟩) g q
theorem Inv.turned{t':Nat}{a:Addr}(I:Inv X pins σ H s)(k:∀b o,b≠a->s.heap.get? b=some o->h'.get? b=some o)(i:H a=none)(f:a≠X.env.locals)
 (y:a∈X.ex\/X.s₀.heap.objs.size<=a)(w:∀x c,X.env.cells.lookup x=some c->c≠a)(t:∀p∈X.pn++pins,p.1≠a):Inv X pins σ H {s with heap:=h',toks:=t'}:=by
 have g:∀b u,H b=some u->b≠a:=λb u e z=>by rw[z,i]at e;cases e
 refine I.step (g':=s.gens) (d':=s.drawn) (ch:=[a]) (λb l=>?_) (λb o _ _ d e _=>k b o (λz=>d (by simp[z])) e) (λb o _ _ d e _=>⟨o.slots,k b o (λz=>d (by simp[z])) e⟩) (λ_ _ _ _ n=>n)
  (λb o d e=>⟨o,k b o (λz=>d (by simp[z])) e⟩) (λ_ _ e=>e) (λ_ _ _ e=>e) (λb C e=>⟨#[],by rw[e];simp⟩) (λm j=>?_) (λb u e=>?_) I.bare
 .have e:b=a:=by simpa using l
  subst e;exact⟨y,f,w,t⟩
 .obtain⟨o,A,B,h,r⟩:=j;exact⟨o,A,B,k _ o (OF f) h,r⟩
 .refine(I.hok b u e).stay (λc v d q=>k c v ?_ q) (λ_ q=>q) λ_ _ q=>q;rcases d with z|z
  .rw[z];exact g b u e
  .exact g c _ z
theorem Inv.tok(I:Inv X pins σ H s)(t:Nat):Inv X pins σ H {s with toks:=t}:=I.un (h':=s.heap) (t':=t) Un.refl I.hok
theorem Inv.kept{t':Nat}(I:Inv X pins σ H s)(k:∀b u,s.heap.get? b=some u->h'.get? b=some u):Inv X pins σ H {s with heap:=h',toks:=t'}:=I.un (Un.kept k) (I.hok.kept k)
theorem Inv.laid{a:Addr}{o:HO}{t':Nat}(I:Inv X pins σ H s)(k:∀b u,s.heap.get? b=some u->h'.get? b=some u)(d:s.heap.objs.size<=a)(c:bC X.prog X.w (upd H a o) h' a o):
 Inv X pins σ (upd H a o) {s with heap:=h',toks:=t'}:=I.un (Un.laid k d (I.hok.fresh d)) (I.hok.laid k d c)
theorem Inv.write{x e:Addr}{o:HO}{t':Nat}(I:Inv X pins σ H s)(c:RV (H x))(he:e=x\/H e=some (.own x))(k:∀b u,b≠e->s.heap.get? b=some u->h'.get? b=some u)(d:∃u,h'.get? e=some u)
 (a:bC X.prog X.w (upd H x o) h' x o):Inv X pins σ (upd H x o) {s with heap:=h',toks:=t'}:=I.un (Un.write c he k d) (I.hok.write c he k d a)
theorem Inv.yW{a:List (Addr×Obj)}(I:Inv X pins σ H s)(h:∀p∈a,s.heap.get? p.1=some p.2/\H p.1=none/\p.1≠X.env.locals/\p.1∉X.fs/\∀v,p.2.data≠.cell v):Inv X a σ H s:=
 ⟨I.ok,I.os,I.bare,I.base,I.loc,I.cell,I.free,I.eW,λp b=>(Fh.mp b).elim (λz=>I.pin p (He _ z)) (h p),I.hok,I.len⟩
theorem oW{N:List Str}(c:N.Nodup){i j:Nat}{x:Str}(a:N[i]?=some x)(b:N[j]?=some x):i=j:=by obtain⟨g,e⟩:=GT.mp a;obtain⟨f,d⟩:=GT.mp b;exact(List.getElem_inj c).mp (e.trans d.symm)
theorem sf{M:Model}{A:Around}{E:Value->Shared->Prop}{i:Nat}{x:Str}{v:V}{u:Value}{Q:Unit->Shared->Prop}(I:Inv X pins σ H s)(hN:X.N.Nodup)(P:X.N[i]?=some x)(B:Loc X.env.scope x)(r:RelV v u)
 (h:∀s',Inv X pins (σ.set i (some v)) H s'->(∃a,Heap.SameBut a s.heap s'.heap/\(a=X.env.locals\/X.env.cells.lookup x=some a))->Q () s')(hf:X.fn x=true\/X.env.scope.names.lookup x=some .local:=by first|exact .inl rfl|exact .inr rfl|assumption):wpAny M A (storeName X.env x u) Q E s:=by
 obtain⟨m,hn,hl⟩:=id I.loc;have R:(X.env.scope.kind==.class||(X.env.scope.kind==.module&&X.env.locals !=X.env.globals))=false:=by rw[I.ok.kind];rfl
 have GZ:i<σ.length:=by rw[I.len];exact(GT.mp P).1
 have CU:=I.CU;have g:∀{a:Addr}{h':Heap},(∃o,s.heap.get? a=some o/\H a=none)->Heap.SameBut a s.heap h'->iX X.prog X.w H h':=λ{a h'} ha f b ob e=>by
  obtain⟨_,_,C⟩:=ha;refine(I.hok b ob e).stay (λc U t q=>(f.2 c ?_).trans q) (λ_ q=>q) λ_ _ q=>q;rintro rfl;rcases t with rfl|t
  .rw[C]at e;cases e
  .rw[C]at t;cases t
 rcases B with F|F
 .refine wpAny_storeName_local F hn (λh' hn' f=>?_) R;obtain⟨oL,_,_,Y9,_⟩:=id hn;refine h _ ⟨I.ok,I.os,I.bare,⟨λb o e n L B=>?_,λb o e n L B=>?_,I.base.free,λb o e B=>?_,I.base.tups,I.base.jZ,I.base.kN⟩,⟨_,hn',λj y v' l D e3=>?_⟩,λy c e=>?_,I.free,I.eW,λp hp=>?_,g ⟨oL,Y9,I.free⟩ f,by simpa using I.len⟩ ⟨_,f,.inl rfl⟩
  .exact(f.2 b (KM (FM (Fm e) I.ok.above))).trans (I.base.keep b o e n L B)
  .obtain⟨sl,l⟩:=I.base.slot b o e n L B;exact⟨sl,(f.2 b (KM (FM (Fm e) I.ok.above))).trans l⟩
  .obtain⟨o',l⟩:=I.base.there b o e B;exact⟨o',(f.2 b (KM (FM (Fm e) I.ok.above))).trans l⟩
  .by_cases J:j=i
   .subst J;rw[P]at l;cases l;rw[Kj GZ]at D;cases D;exact⟨u,r,.inl ⟨F,by simp⟩⟩
   .rw[Hk (OF J)]at D;obtain⟨u',r',q⟩:=hl j y v' l D e3;refine⟨u',r',?_⟩;rcases q with⟨k,e⟩|⟨k,c,e,z⟩
    .refine .inl ⟨k,?_⟩;have:y≠x:=λe=>J (oW hN l (e▸P));simp[this,e]
    .exact .inr ⟨k,c,e,z.sameBut f (CU y c e)⟩
  .obtain⟨U,z⟩:=I.cell y c e;exact⟨U,z.sameBut f (CU y c e)⟩
  .obtain⟨e,n,Y,nf,d⟩:=I.pin p hp;exact⟨(f.2 p.1 Y).trans e,n,Y,nf,d⟩
 .have K:X.fn x=true:=by
   rcases hf with z|z
   .exact z
   .rw[z]at F;cases F
  obtain⟨c,t⟩:=I.ok.has x (.inl F);obtain⟨U,z⟩:=I.cell x c t;refine wpAny_storeName_cell I.ok.kind F t z (λh' T f=>?_);obtain⟨oc,O,V3⟩:=id z;refine h {s with heap:=h'} ⟨I.ok,I.os,I.bare,⟨λb o e n L B=>?_,λb o e n L B=>?_,I.base.free,λb o e B=>?_,I.base.tups,I.base.jZ,I.base.kN⟩,⟨m,hn.sameBut f (OF (CU x c t)),λj y v' l D e3=>?_⟩,λy Z e=>?_,I.free,I.eW,λp hp=>?_,g ⟨oc,O,I.eW x c t⟩ f,by simpa using I.len⟩ ⟨c,f,.inr t⟩
  .exact(f.2 b (KM (FM (Fm e) (I.ok.Ri x c K t)))).trans (I.base.keep b o e n L B)
  .obtain⟨sl,l⟩:=I.base.slot b o e n L B;exact⟨sl,(f.2 b (KM (FM (Fm e) (I.ok.Ri x c K t)))).trans l⟩
  .obtain⟨o',l⟩:=I.base.there b o e B;exact⟨o',(f.2 b (KM (FM (Fm e) (I.ok.Ri x c K t)))).trans l⟩
  .by_cases J:j=i
   .subst J;rw[P]at l;cases l;rw[Kj GZ]at D;cases D;exact⟨u,r,.inr ⟨.inl F,c,t,T⟩⟩
   .rw[Hk (OF J)]at D;obtain⟨u',r',q⟩:=hl j y v' l D e3;refine⟨u',r',?_⟩;rcases q with q|⟨k,Z,e,z'⟩
    .exact .inl q
    .refine .inr ⟨k,Z,e,z'.sameBut f ?_⟩;rintro rfl;exact J (oW hN l (I.ok.inj _ _ _ e t▸P))
  .by_cases S:Z=c
   .subst S;exact⟨_,T⟩
   .obtain⟨w2,z2⟩:=I.cell y Z e;exact⟨w2,z2.sameBut f S⟩
  .obtain⟨e,n,Y,nf,d⟩:=I.pin p hp;refine⟨(f.2 p.1 ?_).trans e,n,Y,nf,d⟩;intro q;rw[q,O]at e;have q':oc=p.2:=Ha e;exact d U (by rw[<-q'];exact V3)
theorem cW{M:Model}{A:Around}{E:Value->Shared->Prop}{i:Nat}{x:Str}{v:V}{u:Value}{Q:Unit->Shared->Prop}(I:Inv X pins σ H s)(d:X.N.Nodup)(b:X.N[i]?=some x)(a:Loc X.env.scope x)(r:RelV v u)
 (h:∀s',Inv X pins (σ.set i (some v)) H s'->Q () s')(c:X.fn x=true\/X.env.scope.names.lookup x=some .local:=by first|exact .inl rfl|exact .inr rfl|assumption):wpAny M A (storeName X.env x u) Q E s:=
 sf I d b a r (λs' e _=>h s' e) c
theorem Inv.CV{s':Shared}{ch:List Addr}(I:Inv X pins σ H s)(g:s'.os=s.os)(u:Un (frs X.stack) ch H H' s.heap s'.heap)(a:iX X.prog X.w H' s'.heap)(h:AllBare s'.gens)
 (d:∀b∈ch,(b∈X.ex\/X.s₀.heap.objs.size<=b)/\b≠X.env.locals/\(∀x c,X.env.cells.lookup x=some c->c≠b)/\∀p∈X.pn++pins,p.1≠b):Inv X pins σ H' s':=by
 obtain⟨h',g',d',t',f⟩:=s';have e:f=s.os:=g;subst e;exact I.call (g':=g') (t':=t') (d':=d') u a h d
end
abbrev XK:=Value->Option Addr->Hp->Prop
abbrev St:=List (Option V)
abbrev VK:=V->Hp->Prop
abbrev TE:=St->Hp->VK->Prop
abbrev TT:=St->Hp->(Bool->Hp->Prop)->Prop
abbrev TA:=St->Hp->(List V->Hp->Prop)->Prop
set_option genInjectivity false in
set_option genSizeOf false in
structure Ends where
 nx:St->Hp->Prop
 rt:VK
 bk:St->Hp->Prop:=λ_ _=>False
 ct:St->Hp->Prop:=λ_ _=>False
abbrev TS:=Ends->St->Hp->Prop
noncomputable def EP(X:Cx)(a:List (Addr×Obj))(c:St)(Q:VK)(u:Value)(s':Shared):Prop:=∃v b,Inv X a c b s'/\RelV v u/\Q v b
noncomputable def TP(X:Cx)(a:List (Addr×Obj))(d:St)(Q:Bool->Hp->Prop)(b:Bool)(s':Shared):Prop:=∃c,Inv X a d c s'/\Q b c
noncomputable def AP(X:Cx)(a:List (Addr×Obj))(d:St)(Q:List V->Hp->Prop)(us:List Value)(s':Shared):Prop:=∃b c,Inv X a d c s'/\Vals b us/\Q b c
noncomputable def SP(X:Cx)(b:List (Addr×Obj))(D:Ends)(f:Flow)(s':Shared):Prop:=
 match f with
 |.next=>∃a c,Inv X b a c s'/\D.nx a c
 |.brk=>∃a c,Inv X b a c s'/\D.bk a c
 |.cont=>∃a c,Inv X b a c s'/\D.ct a c
 |.ret u=>∃v a c,Inv X b a c s'/\RelV v u/\D.rt v c
noncomputable def PE(X:Cx)(e:Expr)(t:TE):Prop:=
 ∀(a:List (Addr×Obj))(s:Shared)(b:St)(H:Hp)(Q:VK),Inv X a b H s->t b H Q->wpAny (model X.prog X.w) X.A (eval e X.env) (EP X a b Q) X.xe s
noncomputable def PT(X:Cx)(e:Expr)(t:TT):Prop:=
 ∀(a:List (Addr×Obj))(s:Shared)(b:St)(H:Hp)(Q:Bool->Hp->Prop),Inv X a b H s->t b H Q->wpAny (model X.prog X.w) X.A (isTrue e X.env (eval e X.env)) (TP X a b Q) X.xe s
noncomputable def PW(X:Cx)(e:Expr)(t:TT):Prop:=
 ∀(b:Sem Value)(a:List (Addr×Obj))(s:Shared)(c:St)(H:Hp)(Q:Bool->Hp->Prop),Inv X a c H s->t c H Q->wpAny (model X.prog X.w) X.A (isTrue e X.env b) (TP X a c Q) X.xe s
theorem PW.pt{X:Cx}{e:Expr}{t:TT}(h:PW X e t):PT X e t:=h _
noncomputable def PA(X:Cx)(es:List Expr)(t:TA):Prop:=
 ∀(c:Pos)(a:List (Addr×Obj))(s:Shared)(b:St)(H:Hp)(Q:List V->Hp->Prop),Inv X a b H s->t b H Q->wpAny (model X.prog X.w) X.A (spliced (backTo c (starEach es X.env))) (AP X a b Q) X.xe s
noncomputable def PS(X:Cx)(st:Stmt)(t:TS):Prop:=
 ∀(a:List (Addr×Obj))(s:Shared)(b:St)(H:Hp)(D:Ends),Inv X a b H s->t D b H->wpAny (model X.prog X.w) X.A (exec st X.env) (SP X a D) X.xe s
noncomputable def vd(X:Cx)(st:List Stmt)(t:TS):Prop:=
 ∀(a:List (Addr×Obj))(s:Shared)(b:St)(H:Hp)(D:Ends),Inv X a b H s->t D b H->wpAny (model X.prog X.w) X.A (execs st X.env) (SP X a D) X.xe s
theorem bD{α:Type}{t:Sem α}{Q b:α->Shared->Prop}{M:Model}{A:Around}{E:Value->Shared->Prop}{s:Shared}(h:wpAny M A t Q E s)(c:∀a s,Q a s->b a s):wpAny M A t b E s:=Oy h c λ_ _ x=>x
section
variable{X:Cx}
theorem bin{a b:Expr}{ta j:TE}(r:PE X a ta)(q:PE X b j){c:List (Addr×Obj)}{s:Shared}{d:St}{H:Hp}{R:V->V->Hp->Prop}(I:Inv X c d H s)(h:ta d H λx H1=>j d H1 λy e=>R x y e)
 {α:Type}{Q:α->Shared->Prop}{f:Value->Value->Sem α}
 (p:∀v u s2 x y e,Inv X c d e s2->RelV x v->RelV y u->R x y e->wpAny (model X.prog X.w) X.A (f v u) Q X.xe s2):
 wpAny (model X.prog X.w) X.A (eval a X.env) (λv i=>wpAny (model X.prog X.w) X.A (eval b X.env) (λu g=>wpAny (model X.prog X.w) X.A (f v u) Q X.xe g) X.xe i) X.xe s:=by
 refine bD (r c s d H _ I h) λv k ⟨x,H1,z,m,o⟩=>?_;refine bD (q c k d H1 _ z o) λu s2 ⟨y,e,t,l,n⟩=>?_;exact p v u s2 x y e t m l n
noncomputable def i6(i:Nat):TE:=λa H Q=>∃v,a[i]?=some (some v)/\Q v H
noncomputable def tC(v:V):TE:=λ_ H Q=>Q v H
theorem xB{i:Nat}{x:Str}{pos:Pos}(t:X.N[i]?=some x)(n:RX X.env.scope x)(hd:(x==("__debug__":Str))=false:=by decide)(g:(x==("__classdict__":Str))=false:=by decide):PE X (.Name x pos) (i6 i):=by
 intro f s k H Q I h;obtain⟨v,e,h⟩:=h;obtain⟨m,o,q⟩:=I.loc;obtain⟨u,r,l⟩:=q i x v t e n;have d:EP X f k Q u s:=⟨v,H,I,r,h⟩;rcases l with⟨b,p⟩|⟨b,c,j,a⟩
 .exact wpAny_Name (wpAny_loadName_local I.ok.kind b o p d) hd
 .rcases b with b|b
  .exact wpAny_Name (wpAny_loadName_cell I.ok.kind b j a d) hd
  .exact wpAny_Name (wpAny_loadName_free I.ok.kind b j a d g) hd
theorem oX{i j pos}:PE X (.Constant (.int i) j pos) (tC (.int i)):=λ_ _ _ H _ I h=>wpAny_Constant_int ⟨.int i,H,I.tok _,⟨_,rfl⟩,h⟩
theorem R0{b j pos}:PE X (.Constant (.bool b) j pos) (tC (.bl b)):=λ_ _ _ H _ I h=>Constant_bool ⟨.bl b,H,I,rfl,h⟩
theorem MH{j pos}:PE X (.Constant .none j pos) (tC .aG):=λ_ _ _ H _ I h=>Constant_none ⟨.aG,H,I,rfl,h⟩
theorem CW{x j pos}:PE X (.Constant (.str x) j pos) (tC (.str x)):=λ_ _ _ H _ I h=>Calls.Constant_str ⟨.str x,H,I.tok _,⟨_,rfl⟩,h⟩
noncomputable def Gl(X:Cx)(x:Str):Prop:=X.env.kindOf x=some .globalImplicit
theorem jC{E:Value->Shared->Prop}{a:List (Addr×Obj)}{s:Shared}{b:St}{H:Hp}{x:Str}{u:Value}{pos:Pos}{Q:Value->Shared->Prop}(I:Inv X a b H s)(d:Gl X x)(c:X.mg x=some u)(h:Q u s)
 (hd:(x==("__debug__":Str))=false:=by decide):wpAny (model X.prog X.w) X.A (eval (.Name x pos) X.env) Q E s:=
 Calls.Name_function_global I.ok.kind d (Calls.loadGlobal_global (by rw[I.ok.glob];exact I.mod.glob.keeps I.bk) c h) hd
theorem lV{E:Value->Shared->Prop}{a:List (Addr×Obj)}{s:Shared}{b:St}{H:Hp}{x:Str}{u:Value}{pos:Pos}{Q:Value->Shared->Prop}(I:Inv X a b H s)(f:Gl X x)(e:X.mg x=none)(c:bootBuiltins x=some u)(h:Q u s)
 (d:x≠"__name__":=by decide)(hd:(x==("__debug__":Str))=false:=by decide):wpAny (model X.prog X.w) X.A (eval (.Name x pos) X.env) Q E s:=by
 obtain⟨j,i,g⟩:=I.mod.blt;exact Calls.Name_function_global I.ok.kind f (Calls.loadGlobal_builtin (by rw[I.ok.glob];exact I.mod.glob.keeps I.bk) e (by rw[I.ok.blt];exact i.keeps I.bk) ((g x d).trans c) h) hd
theorem G0{x:Str}{v:V}{u:Value}{pos:Pos}(b:Gl X x)(a:X.mg x=some u)(r:RelV v u)(hd:(x==("__debug__":Str))=false:=by decide):PE X (.Name x pos) (tC v):=
 λ_ _ _ H _ I h=>jC I b a ⟨v,H,I,r,h⟩ hd
theorem yX{x:Str}{v:V}{u:Value}{pos:Pos}(d:Gl X x)(c:X.mg x=none)(a:bootBuiltins x=some u)(r:RelV v u)(b:x≠"__name__":=by decide)(hd:(x==("__debug__":Str))=false:=by decide):PE X (.Name x pos) (tC v):=
 λ_ _ _ H _ I h=>lV I d c a ⟨v,H,I,r,h⟩ b hd
variable{a b:Expr}{ta tb:TE}{pos:Pos}
noncomputable def tB(t:TE):TT:=λd H Q=>t d H λx e=>∃c,x=.bl c/\Q c e
theorem CY{e:Expr}{t:TE}(h:PE X e t)(he:∀c,isTrue e X.env c=(do let v<-c;standAt e.pos;holding [v] (truthy v)):=by intro _;rfl):PT X e (tB t):=by intro f s g H Q I k;refine isTrue_plain (bD (h f s g H _ I k) λv n ⟨x,m,l,i,j⟩=>?_) (he _);obtain⟨d,rfl,q⟩:=j;cases i;exact Pt ⟨m,l,q⟩
variable{tA Vi:TT}{rest:List Expr}
noncomputable def V4(t u:TT):TT:=λd H Q=>t d H λc e=>if c=true then u d e Q else Q false e
noncomputable def Z9(t u:TT):TT:=λd H Q=>t d H λc e=>if c=true then Q true e else u d e Q
noncomputable def V5(t:TT):TT:=λd H Q=>t d H λc e=>Q (!c) e
theorem yY(g:PT X a tA):PW X (.BoolOp .And [a] pos) tA:=by
 intro i d s f H Q I h;refine isTrue_and (bD (g d s f H Q I h) λc j e=>?_);cases c with
 |true=>exact isTrue_and_nil e
 |false=>exact e
theorem CZ(g:PT X a tA):PW X (.BoolOp .Or [a] pos) tA:=by
 intro i d s f H Q I h;refine isTrue_or (bD (g d s f H Q I h) λc j e=>?_);cases c with
 |false=>exact isTrue_or_nil e
 |true=>exact e
theorem C0(m:PT X a tA)(l:PW X (.BoolOp .And (b::rest) pos) Vi):PW X (.BoolOp .And (a::b::rest) pos) (V4 tA Vi):=by
 intro j d s e H Q I h;refine isTrue_and (bD (m d s e H _ I h) λc k ⟨i,g,f⟩=>?_);cases c with
 |true=>exact l j d k e i Q g f
 |false=>exact⟨i,g,f⟩
theorem Lg(m:PT X a tA)(l:PW X (.BoolOp .Or (b::rest) pos) Vi):PW X (.BoolOp .Or (a::b::rest) pos) (Z9 tA Vi):=by
 intro j d s e H Q I h;refine isTrue_or (bD (m d s e H _ I h) λc k ⟨i,g,f⟩=>?_);cases c with
 |true=>exact⟨i,g,f⟩
 |false=>exact l j d k e i Q g f
theorem C1(f:PT X a tA):PT X (.UnaryOp .Not a pos) (V5 tA):=by intro d s e H Q I h;exact isTrue_not (f d s e H (λc g=>Q (!c) g) I h)
noncomputable def R1(ta tb:TE):TE:=λd H Q=>ta d H λx e=>∃c,x=.bl c/\if c=true then tb d e Q else Q (.bl false) e
noncomputable def V6(ta tb:TE):TE:=λd H Q=>ta d H λx e=>∃c,x=.bl c/\if c=true then Q (.bl true) e else tb d e Q
noncomputable def R3(ta:TE):TE:=λd H Q=>ta d H λx e=>∃c,x=.bl c/\Q (.bl (!c)) e
theorem C2{op}{t:TE}(h:PE X a t):PE X (.BoolOp op [a] pos) t:=λc s d H Q I e=>BoolOp_one (h c s d H Q I e)
theorem MI(m:PE X a ta)(l:PE X (.BoolOp .And (b::rest) pos) tb):PE X (.BoolOp .And (a::b::rest) pos) (R1 ta tb):=by
 intro d s f H Q I h;refine BoolOp_and (bD (m d s f H _ I h) λv j ⟨x,i,g,k,e⟩=>?_);obtain⟨c,rfl,e⟩:=e;cases k;refine Pt ?_;cases c with
 |true=>exact l d j f i Q g e
 |false=>exact⟨.bl false,i,g,rfl,e⟩
theorem R4(m:PE X a ta)(l:PE X (.BoolOp .Or (b::rest) pos) tb):PE X (.BoolOp .Or (a::b::rest) pos) (V6 ta tb):=by
 intro d s f H Q I h;refine BoolOp_or (bD (m d s f H _ I h) λv j ⟨x,i,g,k,e⟩=>?_);obtain⟨c,rfl,e⟩:=e;cases k;refine Pt ?_;cases c with
 |false=>exact l d j f i Q g e
 |true=>exact⟨.bl true,i,g,rfl,e⟩
theorem MJ(i:PE X a ta):PE X (.UnaryOp .Not a pos) (R3 ta):=by intro d s f H Q I h;refine UnaryOp_ (bD (i d s f H _ I h) λv l ⟨x,k,j,g,e⟩=>?_);obtain⟨c,rfl,e⟩:=e;cases g;exact not_of (Pt ⟨.bl (!c),k,j,rfl,e⟩)
noncomputable def tIf(t:TT)(ta tb:TE):TE:=λd H Q=>t d H λc e=>if c=true then ta d e Q else tb d e Q
theorem C3{c:Expr}(l:PT X c tA)(n:PE X a ta)(m:PE X b tb):PE X (.IfExp c a b pos) (tIf tA ta tb):=by
 intro e s f H Q I h;refine wpAny_IfExp (bD (l e s f H _ I h) λd g ⟨k,j,i⟩=>?_);cases d with
 |true=>exact n e g f k Q j i
 |false=>exact m e g f k Q j i
end
noncomputable def j3(K:Frag)(H:Hp)(a:Addr)(c:List V):Prop:=
 Rd H a (.lst c)\/
  ∃(o:Obj)(b:Array Value)(n:Nat),K.lookup a=some o/\o.cls=.type "list"/\o.dict=none/\o.data=.seq b n/\b.size<=sizeLine/\Vals c b.toList
noncomputable def jU(K:Frag)(H:Hp)(a:Addr)(c:List V):Prop:=
 Rd H a (.tup c)\/
  ∃(o:Obj)(b:Array Value)(n:Nat),K.lookup a=some o/\o.cls=.type "tuple"/\o.data=.seq b n/\b.size<=sizeLine/\Vals c b.toList
noncomputable def V7:Value->Option V
 |.none=>some .aG
 |.bool b=>some (.bl b)
 |.int i _=>some (.int i)
 |.str x _=>some (.str x)
 |.bytes b _=>some (.Cq b)
 |.float b _=>some (.ME b)
 |.ref a=>some (.ref a)
 |.type n=>some (.ty n)
 |_=>none
theorem RelV.abs{x:V}{u:Value}(r:RelV x u):V7 u=some x:=by
 cases x with
 |aG=>cases r;rfl
 |bl _=>cases r;rfl
 |int _=>obtain⟨t,rfl⟩:=r;rfl
 |str _=>obtain⟨t,rfl⟩:=r;rfl
 |Cq _=>obtain⟨t,rfl⟩:=r;rfl
 |ME _=>obtain⟨t,rfl⟩:=r;rfl
 |ref _=>cases r;rfl
 |ty _=>cases r;rfl
theorem RelV.inj{x y:V}{u:Value}(r:RelV x u)(q:RelV y u):x=y:=Ha (r.abs.symm.trans q.abs)
theorem Vals.inj:∀{b a:List V}{us:List Value},Vals b us->Vals a us->b=a
 |_,_,_,.nil,.nil=>rfl
 |_,_,_,.cons r t,.cons c t'=>by rw[r.inj c,Vals.inj t t']
section
variable{X:Cx}{pins:List (Addr×Obj)}{σ:St}{H:Hp}{s:Shared}{a:Addr}{xs ys:List V}
theorem j3.of{K:Frag}(h:H a=some (.lst xs)):j3 K H a xs:=.inl (.inl h)
theorem jU.of{K:Frag}(h:H a=some (.tup xs)):jU K H a xs:=.inl (.inl h)
theorem Inv.list(I:Inv X pins σ H s)(h:j3 X.K H a xs):∃b:List Value,Vals xs b/\PlainL s.heap a b.toArray/\xs.length<=sizeLine:=by
 rcases h with h|⟨o,b,n,d,f,hd,c,hz,r⟩
 .obtain⟨z,b,n,r,e⟩:=h.ok I.hok;exact⟨b,r,⟨_,n,e,rfl,rfl,rfl⟩,z⟩
 .refine⟨b.toList,r,⟨o,n,I.jT a o d,f,hd,by simpa using c⟩,?_⟩;have e:=r.length;simp only[J9]at e;lia
theorem Inv.tuple(I:Inv X pins σ H s)(h:jU X.K H a xs):∃b:List Value,Vals xs b/\IsTup s.heap a b.toArray/\xs.length<=sizeLine:=by
 rcases h with h|⟨o,b,n,d,f,c,hz,r⟩
 .obtain⟨z,b,r,p⟩:=h.ok I.hok;exact⟨b,r,p,z⟩
 .refine⟨b.toList,r,⟨o,I.jT a o d,f,n,by simpa using c⟩,?_⟩;have e:=r.length;simp only[J9]at e;lia
theorem Inv.C4(I:Inv X pins σ H s)(h:j3 X.K H a xs)(h':j3 X.K H a ys):xs=ys:=by
 obtain⟨c,r,⟨o,n,e,_,_,d⟩,_⟩:=I.list h;obtain⟨b,i,⟨j,k,f,_,_,g⟩,_⟩:=I.list h';rw[e]at f;cases f;rw[d]at g;injection g with d1 _;have:c=b:=by simpa using Hb V2 d1
 subst this;exact r.inj i
theorem Inv.AB(I:Inv X pins σ H s)(h:jU X.K H a xs)(h':jU X.K H a ys):xs=ys:=by
 obtain⟨c,r,⟨o,e,_,n,d⟩,_⟩:=I.tuple h;obtain⟨b,i,⟨j,f,_,k,g⟩,_⟩:=I.tuple h';rw[e]at f;cases f;rw[d]at g;injection g with d1 _;have:c=b:=by simpa using Hb V2 d1
 subst this;exact r.inj i
end
abbrev Cx.iR(X:Cx)(E:Value->Shared->Prop):Cx:={X with xe:=E}
abbrev Cx.G3(X:Cx):Cx:=X.iR λ_ _=>False
theorem Cx.Ok.iR{X:Cx}(a:X.Ok)(E:Value->Shared->Prop):(X.iR E).Ok:=
 ⟨a.mod,a.kind,a.glob,a.blt,a.above,a.inj,a.has,a.Ri,a.hd,a.frames,a.stk,a.Vg,a.bs,a.GH,a.Ay,a.Az,a.lU,a.Le,a.tree,a.RY⟩
theorem Cx.Ok.eX{X:Cx}{E:Value->Shared->Prop}(a:(X.iR E).Ok):X.Ok:=
 ⟨a.mod,a.kind,a.glob,a.blt,a.above,a.inj,a.has,a.Ri,a.hd,a.frames,a.stk,a.Vg,a.bs,a.GH,a.Ay,a.Az,a.lU,a.Le,a.tree,a.RY⟩
section
variable{X:Cx}{pins:List (Addr×Obj)}{σ:St}{H:Hp}{s:Shared}{E:Value->Shared->Prop}
theorem Inv.iR(I:Inv X pins σ H s)(E:Value->Shared->Prop):Inv (X.iR E) pins σ H s:=⟨I.ok.iR E,I.os,I.bare,I.base,I.loc,I.cell,I.free,I.eW,I.pin,I.hok,I.len⟩
theorem Inv.eX(I:Inv (X.iR E) pins σ H s):Inv X pins σ H s:=⟨I.ok.eX,I.os,I.bare,I.base,I.loc,I.cell,I.free,I.eW,I.pin,I.hok,I.len⟩
theorem SP.eX{D:Ends}{f:Flow}{s':Shared}(h:SP (X.iR E) pins D f s'):SP X pins D f s':=by
 cases f with
 |next=>obtain⟨a,b,I,q⟩:=h;exact⟨a,b,I.eX,q⟩
 |brk=>obtain⟨a,b,I,q⟩:=h;exact⟨a,b,I.eX,q⟩
 |cont=>obtain⟨a,b,I,q⟩:=h;exact⟨a,b,I.eX,q⟩
 |ret u=>obtain⟨v,a,b,I,r,q⟩:=h;exact⟨v,a,b,I.eX,r,q⟩
end
section
variable{X:Cx}{st:Stmt}{rest:List Stmt}{t u:TS}{e:Expr}{te:TE}{pos:Pos}
noncomputable def R5:TS:=λD a H=>D.nx a H
noncomputable def V8(t u:TS):TS:=λD a H=>t {D with nx:=u D} a H
theorem G4:vd X [] R5:=λ_ _ a H _ I h=>Wp ⟨a,H,I,h⟩
theorem kO(i:PS X st t)(g:vd X rest u):vd X (st::rest) (V8 t u):=by
 intro a s c H D I h;refine wpAny_execs_cons (bD (i a s c H {D with nx:=u D} I h) λf d q=>?_);cases f with
 |next=>obtain⟨b,k,j,q⟩:=q;exact g a d b k D j q
 |ret v=>exact q
 |brk=>exact q
 |cont=>exact q
theorem n8(c:PS X st t):vd X [st] t:=by
 intro a s b H D I h;refine wpAny_execs_cons (bD (c a s b H D I h) λf d q=>?_);cases f with
 |next=>exact Wp q
 |ret v=>exact q
 |brk=>exact q
 |cont=>exact q
noncomputable def MK:TS:=λD a H=>D.bk a H
theorem C5:PS X (.Break pos) MK:=λ_ _ a H _ I h=>wpAny_Break ⟨a,H,I,h⟩
theorem Inv.quiet{a:List (Addr×Obj)}{b:St}{H:Hp}{s:Shared}(I:Inv X a b H s):interactive X.env=false:=by simp[interactive,I.ok.kind]
noncomputable def oY(te:TE):TS:=λD a H=>te a H λ_ b=>D.nx a b
theorem jD(he:PE X e te)(d:swapsWith e none pos.line X.env=pure false:=by rfl):PS X (.Expr e pos) (oY te):=by intro a s b H D I h;exact wpAny_Expr_any (bD (he a s b H _ I h) λv i ⟨x,g,f,j,c⟩=>⟨b,g,f,c⟩) I.quiet d
noncomputable def V9(te:TE):TS:=λD a H=>te a H D.rt
theorem lW(he:PE X e te):PS X (.Return (some e) pos) (V9 te):=by intro a s b H D I h;exact wpAny_Return_some (bD (he a s b H _ I h) λv i ⟨x,g,f,c,d⟩=>⟨x,b,g,f,c,d⟩)
noncomputable def R6:TS:=λD _ H=>D.rt .aG H
theorem yZ:PS X (.Return none pos) R6:=λ_ _ a H _ I h=>wpAny_Return_none ⟨.aG,a,H,I,rfl,h⟩
noncomputable def Wa(c:TT)(t u:TS):TS:=λD a H=>c a H λb d=>if b=true then t D a d else u D a d
theorem Lh{c:Expr}{a b:List Stmt}{tc:TT}(m:PT X c tc)(o:vd X a t)(n:vd X b u):PS X (.If c a b pos) (Wa tc t u):=by
 intro f s g H D I h;refine wpAny_If (bD (m f s g H _ I h) λd i ⟨l,k,j⟩=>?_);cases d with
 |true=>exact o f i g l D k j
 |false=>exact n f i g l D k j
end
abbrev TG:=V->St->Hp->(St->Hp->Prop)->Prop
abbrev Li:=List V->St->Hp->(St->Hp->Prop)->Prop
noncomputable def PG(X:Cx)(a:Expr)(t:TG):Prop:=
 ∀(b:List (Addr×Obj))(s:Shared)(d:St)(H:Hp)(v:V)(u:Value)(Q:St->Hp->Prop),Inv X b d H s->RelV v u->t v d H Q->
  wpAny (model X.prog X.w) X.A (assign a X.env u) (λ_ f=>∃c e,Inv X b c e f/\Q c e) X.xe s
noncomputable def R7(X:Cx)(g:List Expr)(t:Li):Prop:=
 ∀(a:List (Addr×Obj))(s:Shared)(c:St)(H:Hp)(d:List V)(e:List Value)(Q:St->Hp->Prop),Inv X a c H s->Vals d e->t d c H Q->
  wpAny (model X.prog X.w) X.A (assignInOrder ((assignEach g X.env).map (·.2)) e) (λ_ h=>∃b f,Inv X a b f h/\Q b f) X.xe s
abbrev ML:=V->V->V->Hp->(Hp->Prop)->Prop
noncomputable def R8(X:Cx)(t:ML):Prop:=
 ∀(a:List (Addr×Obj))(s:Shared)(b:St)(H:Hp)(o i v:V)(c d u:Value)(Q:Hp->Prop),Inv X a b H s->RelV o c->RelV i d->RelV v u->t o i v H Q->
  wpAny (model X.prog X.w) X.A (setItem c d u) (λ_ f=>∃e,Inv X a b e f/\Q e) X.xe s
section
variable{X:Cx}{pos:Pos}
noncomputable def gx(i:Nat):TG:=λv a H Q=>Q (a.set i (some v)) H
theorem G5{i:Nat}{x:Str}(e:X.N.Nodup)(c:X.N[i]?=some x)(b:Loc X.env.scope x)(d:X.fn x=true\/X.env.scope.names.lookup x=some .local:=by first|exact .inl rfl|exact .inr rfl|assumption):PG X (.Name x pos) (gx i):=by intro a s g H v u Q I r h;exact wpAny_assign_Name (cW I e c b r (λj f=>⟨_,H,f,h⟩) d)
noncomputable def R9:Li:=λb a H Q=>b=[]/\Q a H
noncomputable def Lj(t:TG)(u:Li):Li:=λc b H Q=>∃v r,c=v::r/\t v b H λa d=>u r a d Q
theorem G6:R7 X [] R9:=by intro a s b H c d Q I r h;obtain⟨e,h⟩:=h;subst e;cases r;exact assignInOrder_nil ⟨b,H,I,h⟩
theorem C6{e:Expr}{es:List Expr}{t:TG}{u:Li}(k:PG X e t)(j:R7 X es u)
 (i:(assignEach (e::es) X.env).map (·.2)=assign e X.env::(assignEach es X.env).map (·.2):=by rfl):R7 X (e::es) (Lj t u):=by
 intro a s c H o q Q I r h;obtain⟨v,p,l,h⟩:=h;subst l;cases r with
 |cons r f=>rw[i];refine TB (bD (k a s c H _ _ _ I r h) λ_ d ⟨b,n,m,g⟩=>?_);exact j a d b n _ _ Q m f g
noncomputable def MM(K:Frag)(n:Nat)(t:Li):TG:=λv c H Q=>∃a b,v=.ref a/\jU K H a b/\b.length=n/\t b c H Q
theorem MN{es:List Expr}{k:Nat}{t:Li}{n:Nat}(x:X.calm=true)(h:R7 X es t)
 (q:(assignEach es X.env).length=n:=by rfl)(f:(assignEach es X.env).findIdx? (·.1)=none:=by rfl):PG X (.Tuple es k pos) (MM X.K n t):=by
 intro c s g H v u Q I r d;obtain⟨a,i,z,p,w,d⟩:=d;subst z;cases r;obtain⟨j,rv,m,hz⟩:=I.tuple p;refine assign_Tuple_tuple (I.ok.hd x) m (by simp[q,<-w,rv.length]) f λy l=>?_;have A:Inv X c g H {s with heap:=y}:=I.kept (t':=s.toks) λb o e=>l b o (KM (Fm e)) e;exact h c _ g H i _ Q A (by simpa using rv) d
noncomputable def Sa(b ti:TE)(t:ML):TG:=λv a H Q=>b a H λo e=>ti a e λi d=>t o i v d λc=>Q a c
theorem MO{o i:Expr}{e ti:TE}{t:ML}(p:PE X o e)(q:PE X i ti)(n:R8 X t)
 (w:∀v,assign (.Subscript o i pos) X.env v=(do
   let b<-holding [v] (eval o X.env)
   let c<-holding [v,b] (eval i X.env)
   standAt pos
   holding [v,b,c] (setItem b c v)
   release [v,b,c] []):=by intro _;rfl):PG X (.Subscript o i pos) (Sa e ti t):=by
 intro a s d H v u Q I r h;rw[w];refine Da (cq (bD (p a s d H _ I h) λb f ⟨x,E,B,j,m⟩=>?_));refine Da (cq (bD (q a f d E _ B m) λc s2 ⟨y,D,A,g,l⟩=>?_));refine Da (cm (Da (cq (bD (n a s2 d D x y v b c u _ A j g r l) λ_ s3 ⟨C,z,k⟩=>?_))));exact wpAny_release ⟨d,C,z,k⟩
noncomputable def oZ(te:TE)(g:TG):TS:=λD a H=>te a H λx b=>g x a b D.nx
theorem C7{tg e:Expr}{te:TE}{g:TG}(he:PE X e te)(k:PG X tg g)(j:swapsWithSole [tg] e pos.line X.env=pure false:=by rfl)(i:swappedStores [tg] e X.env=pure none:=by rfl)
 (l:(assignEach [tg] X.env).map (·.2)=[assign tg X.env]:=by rfl):PS X (.Assign [tg] e pos) (oZ te g):=by
 intro a s b H D I h;refine wpAny_Assign_stores (bD (he a s b H _ I h) λv c ⟨x,n,m,d,f⟩=>?_) j i;rw[l];exact bD (k a c b n x v _ m d f) λ_ s2 q=>q
theorem pA{i:Nat}{x:Str}{e:Expr}{te:TE}{a:Pos}(m:X.N.Nodup)(k:X.N[i]?=some x)(g:Loc X.env.scope x)(he:PE X e te)(j:swapsWith e (some (.Name x a)) pos.line X.env=pure false:=by rfl)(l:X.fn x=true\/X.env.scope.names.lookup x=some .local:=by first|exact .inl rfl|exact .inr rfl|assumption):
 PS X (.Assign [.Name x a] e pos) (oZ te (gx i)):=by
 intro b s c H D I h;refine wpAny_Assign_Name (bD (he b s c H _ I h) λv q ⟨y,p,o,d,f⟩=>?_) j;exact cW o m k g d (λs2 n=>⟨_,p,n,f⟩) l
noncomputable def Wb(i j:Nat)(ta:TA):TS:=λD a H=>ta a H λb c=>∃v w,b=[v,w]/\D.nx ((a.set i (some v)).set j (some w)) c
theorem MP{i j:Nat}{x y:Str}{a b:Expr}{ta:TA}{n m r:Pos}{t k2 B}(Y:X.calm=true)(J:X.N.Nodup)(U:X.N[i]?=some x)(T:X.N[j]?=some y)(z:i≠j)
 (F:X.env.scope.names.lookup x=some .local)(E:X.env.scope.names.lookup y=some .local)(Z:PA X [a,b] ta)
 (R:swappedStores [.Tuple [.Name x n,.Name y m] t r] (.Tuple [a,b] k2 B) X.env=pure (some [x,y]))
 (S:swapsWithSole [.Tuple [.Name x n,.Name y m] t r] (.Tuple [a,b] k2 B) pos.line X.env=pure false:=by rfl):
 PS X (.Assign [.Tuple [.Name x n,.Name y m] t r] (.Tuple [a,b] k2 B) pos) (Wb i j ta):=by
 intro c s C H D I h;rw[exec_Assign_arm];refine Da (cm ?_);rw[S];refine Da (GM ?_);rw[Bi (by decide)];refine Da (Tuple_ (bD (Z _ c s C H _ I h) λM g ⟨vs,L,I1,O,l⟩=>?_));obtain⟨v,w,e1,l⟩:=l;subst e1;obtain⟨f,d,rfl,rv,k⟩:∃f d,M=[f,d]/\RelV v f/\RelV w d:=by
  cases O with
  |cons p q=>
   cases q with
   |cons Q P=>
    cases P;exact⟨_,_,rfl,p,Q⟩
 refine Pv ?_ (by show 2<=sizeLine;decide);have I2:Inv X c C L {g with heap:=g.heap.push {cls:=.type "tuple",data:=.seq [f,d].toArray}}:=I1.kept (t':=g.toks) λb o e=>Dx _ e;rw[R];refine Da (GM ?_);show wpAny (model X.prog X.w) X.A (do rule "assign.swapped-stores";let items<-unpackItems (.ref g.heap.objs.size) 2 none;assignInOrder [λv=>bindName X.env y v,λv=>bindName X.env x v] items.reverse;pure Flow.next) _ _ _;refine Da (wpAny_rule (Da (unpackItems_tuple (items:= #[f,d]) (I.ok.hd Y) (IsTup.new g.heap _) λh' u=>?_)));have I3:=I2.kept (h':=h') (t':=g.toks) λb o e=>u b o (KM (Fm e)) e;show wpAny _ _ (assignInOrder [λv=>bindName X.env y v,λv=>bindName X.env x v] [d,f]>>=λ_=>pure Flow.next) _ _ _;refine Da (TB (bp (cW I3 J T (.inl E) k (λs2 I4=>?_) (.inr E))));refine TB (bp (cW I4 J U (.inl F) rv (λs3 K=>assignInOrder_nil (GM ?_)) (.inr F)));rw[bc _ _ (OF z)]at K;exact⟨_,L,K,l⟩
noncomputable def MQ(c:TT)(h:TS):TS:=λD a H=>∃W:Nat->St->Hp->Prop,(∃m,W m a H)/\∀m a H,W m a H->
 c a H λb f=>if b=true then∃N:St->Hp->Prop,(∀d g,N d g->∃e,e<m/\W e d g)/\h {D with nx:=N,ct:=N,bk:=D.nx} a f else D.nx a f
theorem vm{c:Expr}{g:List Stmt}{tc:TT}{u:TS}(x:PassesOwn (model X.prog X.w) X.A X.env X.xe)(P:PT X c tc)(Q:vd X g u):PS X (.While c g [] pos) (MQ tc u):=by
 intro d s F H D I h;obtain⟨W,⟨O,K⟩,j⟩:=h;refine wpAny_While (codeAny_whileLoop (λn M=>∃i E,Inv X d i E M/\W n i E) ?_ O ⟨F,H,I,K⟩);rintro n L ⟨e,C,R,J⟩;refine SL x (bD (P d L e C _ R (j n e C J)) λb s2 ⟨B,z,m⟩=>?_);cases b with
 |true=>
  obtain⟨N,y,m⟩:=m;rw[Do rfl];refine SL x (bD (Q d s2 e B _ z m) λf s3 l=>?_);cases f with
  |next=>obtain⟨a,k,t,p⟩:=l;obtain⟨q,r,o⟩:=y a k p;exact⟨q,r,a,k,t,o⟩
  |cont=>obtain⟨a,k,t,p⟩:=l;obtain⟨q,r,o⟩:=y a k p;exact⟨q,r,a,k,t,o⟩
  |brk=>exact l
  |ret v=>exact l
 |false=>rw[Bi GE];exact Wp ⟨e,B,z,m⟩
end
set_option genInjectivity false in
set_option genSizeOf false in
structure It where
 go:Nat->Hp->Prop
 Sb:Nat->Hp->V->Hp->Prop
 stop:Nat->Hp->Prop
noncomputable def rE(X:Cx)(a:List (Addr×Obj))(H:Hp)(b:Addr):Prop:=
 H b=none/\b≠X.env.locals/\b∉X.fs/\(b∈X.ex\/X.s₀.heap.objs.size<=b)/\(∀x c,X.env.cells.lookup x=some c->c≠b)/\∀p∈X.pn++a,p.1≠b
theorem Inv.G7{X:Cx}{a:List (Addr×Obj)}{f:St}{H H':Hp}{s:Shared}{b:Addr}(I:Inv X a f H s)(d:s.heap.objs.size<=b)(h:H' b=none):rE X a H' b:=by
 refine⟨h,RD (FM I.lt d),I.V1 d,.inr (FV I.sz d),λx c e z=>?_,λp g z=>?_⟩
 .obtain⟨v,q⟩:=I.cell x c e;exact absurd (FM q.lt (by rw[z];exact d)) (PQ _)
 .exact absurd (FM (Fm (I.pin p g).1) (by rw[z];exact d)) (PQ _)
structure Turn(P:Program)(w:World)(K:Frag)(tg:Expr)(J:It)(fp:List Addr)(it:Addr)(tn:Nat->Heap->Prop):Prop where
 mem:it∈fp
 obj:∀i h,tn i h->∀b∈fp,∃o,h.get? b=some o/\∀v,o.data≠.cell v
 keep:∀i h h',tn i h->(∀b∈fp,∀o,h.get? b=some o->h'.get? b=some o)->tn i h'
 item:∀(X:Cx),X.prog=P->X.w=w->X.K=K->X.calm=true->∀(i:Nat)(pins:List (Addr×Obj))(s:Shared)(σ:St)(H:Hp)(E:Value->Shared->Prop),Inv X pins σ H s->(∀b∈fp,rE X pins H b)->tn i s.heap->J.go i H->
  wpAny (model P w) X.A (pyNext (.ref it)) (λr s1=>∃u,r=some u/\
   wpAny (model P w) X.A (letOwnedTupleGo tg (.ref it) u) (λ_ s2=>∃x H',Inv X pins σ H' s2/\RelV x u/\J.Sb i H x H'/\tn (i+1) s2.heap/\∀b∈fp,H' b=none) E s1) E s
 done:∀(X:Cx),X.prog=P->X.w=w->X.K=K->X.calm=true->∀(i:Nat)(pins:List (Addr×Obj))(s:Shared)(σ:St)(H:Hp)(E:Value->Shared->Prop),Inv X pins σ H s->(∀b∈fp,rE X pins H b)->tn i s.heap->J.stop i H->
  wpAny (model P w) X.A (pyNext (.ref it)) (λr s1=>r=none/\Inv X pins σ H s1) E s
 self:∀(A:Around)(i:Nat)(s:Shared)(Q:Value->Shared->Prop)(E:Value->Shared->Prop),tn i s.heap->Q (.ref it) s->wpAny (model P w) A (pyIter (.ref it)) Q E s
abbrev TI:=St->Hp->(It->Hp->Prop)->Prop
noncomputable def Wc(X:Cx)(a:List (Addr×Obj))(h:St)(tg:Expr)(R:It->Hp->Prop)(c:Value)(s2:Shared):Prop:=
 ∃(f:Addr)(g:List Addr)(e:Nat->Heap->Prop)(J:It)(d:Hp),c=.ref f/\Inv X a h d s2/\Turn X.prog X.w X.K tg J g f e/\e 0 s2.heap/\(∀b∈g,rE X a d b)/\R J d
noncomputable def PI(X:Cx)(tg b:Expr)(d:TI):Prop:=
 ∀(a:List (Addr×Obj))(s:Shared)(c:St)(H:Hp)(R:It->Hp->Prop),Inv X a c H s->d c H R->
  wpAny (model X.prog X.w) X.A (eval b X.env) (λv e=>wpAny (model X.prog X.w) X.A (pyIter v) (Wc X a c tg R) X.xe e) X.xe s
theorem y9{M:Model}{A:Around}{E:Value->Shared->Prop}{s:Shared}{tg:Expr}{b:Addr}{u:Value}{o:Obj}{n:String}{vs:Array Value}{Q:Unit->Shared->Prop}(c:s.heap.get? b=some o)(e:o.cls=.type n)(hd:o.data=.fields vs)
 (d:["enumerate","zip","dict_itemiterator","dict_reverseitemiterator","odict_iterator","itertools.zip_longest","itertools.pairwise"].contains n=false)(a:Q () s):wpAny M A (letOwnedTupleGo tg (.ref b) u) Q E s:=by
 unfold letOwnedTupleGo;cases tg<;>first
  |exact GM a
  |(cases u<;>first
     |exact GM a
     |(refine Da (wpAny_load c ?_)
       rw[e,hd];show wpAny M A (if(["enumerate","zip","dict_itemiterator","dict_reverseitemiterator","odict_iterator","itertools.zip_longest","itertools.pairwise"].contains n&&vs[0]?==some (rawInt _))=true then _ else _) Q E s;rw[Bi (by intro h;rw[d,Bool.false_and]at h;cases h)];exact GM a))
noncomputable def Wd(K:Frag)(a:Addr):It:=
 ⟨λi H=>∃b x,j3 K H a b/\b[i]?=some x,λi H x c=>c=H/\∀b,j3 K H a b->b[i]?=some x,λi H=>∃b,j3 K H a b/\b.length<=i⟩
noncomputable def We(K:Frag)(a:Addr):It:=
 ⟨λi H=>∃b x,jU K H a b/\b[i]?=some x,λi H x c=>c=H/\∀b,jU K H a b->b[i]?=some x,λi H=>∃b,jU K H a b/\b.length<=i⟩
noncomputable def Sd(a:Int)(n:Nat):It:=⟨λi _=>i<n,λi H x b=>b=H/\x=.int (a+i),λi _=>n<=i⟩
theorem AD{P:Program}{w:World}{K:Frag}{tg:Expr}(a j:Addr):Turn P w K tg (Wd K a) [j] j (λi h=>h.IsListIter j a i)where
 mem:=by simp
 obj:=λi h f b l=>by
  have e:b=j:=by simpa using l
  subst e;obtain⟨o,e,c,d⟩:=f;exact⟨o,e,λv z=>by rw[d]at z;cases z⟩
 keep:=λi h r f k=>f.at λo e=>k j (by simp) o e
 item:=by intro X C A D Q i g s O H E I q f B;subst C A D;obtain⟨R,x,n,y⟩:=B;obtain⟨t,rv,p,hz⟩:=I.list n;obtain⟨u,Y,T⟩:=rv.get y;obtain⟨N,M,Z,L,J,F⟩:=q j (by simp);refine wpAny_pyNext_list_item f p.isList (x:=u) (by simpa using Y) λr m S=>?_;have I1:Inv X g O H {s with heap:=r}:=I.turned (t':=s.toks) (λb o l e=>(S.2 b l).trans e) N M L J F;obtain⟨o,e,c,d⟩:=id m;exact⟨u,rfl,y9 (s:={s with heap:=r}) e c d (by decide) ⟨x,H,I1,T,⟨rfl,λys U=>by rw[I.C4 U n];exact y⟩,m,λb l=>(q b l).1⟩⟩
 done:=by intro X C A D Q i g s O H E I q f B;subst C A D;obtain⟨R,n,y⟩:=B;obtain⟨t,rv,p,hz⟩:=I.list n;obtain⟨N,M,Z,L,J,F⟩:=q j (by simp);have hl:=rv.length;exact wpAny_pyNext_list_end (I.ok.hd Q) f p.isList (by simp;lia) λr eb=>⟨rfl,I.turned (t':=s.toks) (λb o l e=>eb b o l e) N M L J F⟩
 self:=λ_ _ _ _ _ f h=>wpAny_pyIter_listiter f h
theorem xC{P:Program}{w:World}{K:Frag}{tg:Expr}(a l:Addr):Turn P w K tg (We K a) [l] l (λi h=>h.IsTupleIter l a i)where
 mem:=by simp
 obj:=λi h f b m=>by
  have e:b=l:=by simpa using m
  subst e;obtain⟨o,e,c,d⟩:=f;exact⟨o,e,λv z=>by rw[d]at z;cases z⟩
 keep:=λi h t f k=>f.at λo e=>k l (by simp) o e
 item:=by intro X C A D Q i g s O H E I r f B;subst C A D;obtain⟨R,x,q,y⟩:=B;obtain⟨j,rv,p,hz⟩:=I.tuple q;obtain⟨u,Y,T⟩:=rv.get y;obtain⟨N,M,Z,L,J,F⟩:=r l (by simp);refine wpAny_pyNext_tuple_item f (show s.heap.IsTuple a j.toArray from p) (x:=u) (by simpa using Y) λt n S=>?_;have I1:Inv X g O H {s with heap:=t}:=I.turned (t':=s.toks) (λb o m e=>(S.2 b m).trans e) N M L J F;obtain⟨o,e,c,d⟩:=id n;exact⟨u,rfl,y9 (s:={s with heap:=t}) e c d (by decide) ⟨x,H,I1,T,⟨rfl,λys U=>by rw[I.AB U q];exact y⟩,n,λb m=>(r b m).1⟩⟩
 done:=by intro X C A D Q i g s O H E I r f B;subst C A D;obtain⟨R,q,y⟩:=B;obtain⟨j,rv,p,hz⟩:=I.tuple q;obtain⟨N,M,Z,L,J,F⟩:=r l (by simp);have hl:=rv.length;exact wpAny_pyNext_tuple_end (I.ok.hd Q) f (show s.heap.IsTuple a j.toArray from p) (by simp;lia) λt eb=>⟨rfl,I.turned (t':=s.toks) (λb o m e=>eb b o m e) N M L J F⟩
 self:=λ_ _ _ _ _ f h=>wpAny_pyIter_tupleiter f h
theorem xD{P:Program}{w:World}{K:Frag}{tg:Expr}(d:Addr)(j:Int)(n:Nat):Turn P w K tg (Sd j n) [d] d (λi h=>IsRangeIter h d (j+(i:Nat)*1) ((n:Int) -(i:Nat)) 1)where
 mem:=by simp
 obj:=λi h a b f=>by
  have e:b=d:=by simpa using f
  subst e;exact⟨_,a,λv z=>by have L:Data.fields _=Data.cell v:=z;cases L⟩
 keep:=λi h m a k=>k d (by simp) _ a
 item:=by intro X u p x r i c s F H E I l a q;subst u p x;obtain⟨D,C,O,B,A,y⟩:=l d (by simp);have W:=Walks.range (prog:=X.prog) (w:=X.w) (I.ok.hd r) d j 1 n;refine W.item i s _ _ q a λv m J N g M=>?_;obtain⟨t,rfl⟩:=N;have R:Inv X c F H {s with heap:=m,toks:=J}:=I.turned (λb o f e=>M b o (by simpa using f) e) D C B A y;refine⟨_,rfl,y9 (s:={s with heap:=m,toks:=J}) (n:="range_iterator") g rfl rfl (by decide) ⟨.int (j+i),H,R,⟨t,?_⟩,⟨rfl,rfl⟩,g,λb f=>(l b f).1⟩⟩;rw[d3]
 done:=by intro X u p x r i c s F H E I l a q;subst u p x;obtain⟨D,C,O,B,A,y⟩:=l d (by simp);exact wpAny_pyNext_range_end (I.ok.hd r) a (by have:n<=i:=q;lia) λm Q=>⟨rfl,I.turned (t':=s.toks) (λb o f e=>Q b o f e) D C B A y⟩
 self:=λ_ _ _ _ _ a h=>wpAny_pyIter_rangeiter a h
section
variable{X:Cx}{tg:Expr}
theorem vn{d:List (Addr×Obj)}{f:St}{H:Hp}{s:Shared}{R:It->Hp->Prop}{E:Value->Shared->Prop}{a c:Int}{t u v:Tok}{g:Nat}(I:Inv X d f H s)(m: -(2^62)<=a)(l:a<2^62)(k: -(2^62)<=c)(j:c<2^62)
 (q:R (Sd a (c -a).toNat) H):wpAny (model X.prog X.w) X.A (pyIter (.ref s.heap.objs.size)) (Wc X d f tg R) E {s with heap:=s.heap.push {cls:=.type "range",data:=.fields #[.int a t,.int c u,.int 1 v]},toks:=g}:=by
 refine wpAny_pyIter_range (IsRange.new ..) (small_one m l k j) ?_;have h:Inv X d f H {s with heap:=s.heap.push {cls:=.type "range",data:=.fields #[.int a t,.int c u,.int 1 v]},toks:=g}:=I.kept λb o e=>Dx _ e;refine⟨(s.heap.push {cls:=.type "range",data:=.fields #[.int a t,.int c u,.int 1 v]}).objs.size,[(s.heap.push {cls:=.type "range",data:=.fields #[.int a t,.int c u,.int 1 v]}).objs.size],_,_,H,rfl,
  h.kept (t':=g) λb o e=>Dx _ e,xD _ a (c -a).toNat,?_,λb i=>?_,q⟩
 .have p:a+((0:Nat):Int)*1=a:=by simp
  have n:(((c -a).toNat:Nat):Int) -((0:Nat):Int)=Builtin.Range.rangeSize a c 1:=by rw[rangeSize_one];split<;>lia
  show IsRangeIter _ _ (a+((0:Nat):Int)*1) ((((c -a).toNat:Nat):Int) -((0:Nat):Int)) 1;rw[p,n];exact KE _ rfl
 .have e:b=(s.heap.push {cls:=.type "range",data:=.fields #[.int a t,.int c u,.int 1 v]}).objs.size:=by simpa using i
  subst e;exact h.G7 (Bn _) (h.hok.fresh (Bn _))
noncomputable def Se(ta:TA):TI:=λa H R=>ta a H λb c=>∃j:Int,b=[.int j]/\-(2^62)<=j/\j<2^62/\R (Sd 0 j.toNat) c
noncomputable def Sg(ta:TA):TI:=λa H R=>ta a H λb c=>∃i j:Int,b=[.int i,.int j]/\(-(2^62)<=i/\i<2^62/\-(2^62)<=j/\j<2^62)/\R (Sd i (j -i).toNat) c
theorem AE{a:Expr}{ta:TA}{p pos:Pos}(m:Gl X "range")(l:X.mg "range"=none)(n:PA X [a] ta)(k:starEach [a] X.env=[(false,eval a X.env)]:=by rfl):PI X tg (.Call (.Name "range" p) [a] [] pos) (Se ta):=by
 intro b s d H R I h;refine Call_ (lV I m l boot_range (Re (bD (n pos b s d H _ I h) λv w ⟨u,x,o,g,c⟩=>?_) k rfl));obtain⟨j,e,c,i,q⟩:=c;subst e;cases g with
 |cons r f=>
  cases f;obtain⟨t,rfl⟩:=r;exact call_range_1 (vn o (by lia) (by lia) c i (by simpa using q))
theorem AF{a b:Expr}{ta:TA}{p pos:Pos}(x:Gl X "range")(w:X.mg "range"=none)(y:PA X [a,b] ta)(v:starEach [a,b] X.env=[(false,eval a X.env),(false,eval b X.env)]:=by rfl)(d:starEach [b] X.env=[(false,eval b X.env)]:=by rfl):
 PI X tg (.Call (.Name "range" p) [a,b] [] pos) (Sg ta):=by
 intro c s k H R I h;refine Call_ (lV I x w boot_range (Re (bD (y pos c s k H _ I h) λB D ⟨A,E,z,l,g⟩=>?_) (by rw[v,d]) (by rw[d];rfl)));obtain⟨i,j,e,⟨g,u,o,n⟩,q⟩:=g;subst e;cases l with
 |cons r f=>
  cases f with
  |cons m f=>
   cases f;obtain⟨t,rfl⟩:=r;obtain⟨C,rfl⟩:=m;exact call_range_2 (vn z g u o n q)
noncomputable def Wf(f:TI)(g:TG)(h:TS):TS:=λD a H=>f a H λJ k=>∃W:Nat->Nat->St->Hp->Prop,(∃m,W 0 m a k)/\∀i m a H,W i m a H->
 (J.stop i H/\D.nx a H)\/(J.go i H/\∃N:St->Hp->Prop,(∀b c,N b c->∃e,e<m/\W (i+1) e b c)/\∀x c,J.Sb i H x c->g x a c λd j=>h {D with nx:=N,ct:=N,bk:=D.nx} d j)
noncomputable def pC(a:List Addr)(h:Heap):List (Addr×Obj):=a.filterMap λb=>(h.get? b).map λo=>(b,o)
theorem ic{a:List Addr}{h:Heap}{b:Addr}{o:Obj}(c:b∈a)(e:h.get? b=some o):(b,o)∈pC a h:=Nb.mpr ⟨b,c,by rw[e];rfl⟩
theorem AG{a:List Addr}{h:Heap}{p:Addr×Obj}(c:p∈pC a h):p.1∈a/\h.get? p.1=some p.2:=by
 obtain⟨b,d,e⟩:=Nb.mp c;cases q:h.get? b with
 |none=>rw[q]at e;cases e
 |some o=>rw[q]at e;have f:(b,o)=p:=Ha e;subst f;exact⟨d,q⟩
theorem Inv.pinned{a:List (Addr×Obj)}{f:St}{H:Hp}{s:Shared}{c:List Addr}(I:Inv X a f H s)(k:∀b∈c,rE X a H b)(j:∀b∈c,∃o,s.heap.get? b=some o/\∀v,o.data≠.cell v):Inv X (a++pC c s.heap) f H s:=
 I.yW λp i=>(Fh.mp i).elim (λz=>I.pin p (FK _ z)) λz=>by obtain⟨g,e⟩:=AG z;obtain⟨n,m,l,_⟩:=k p.1 g;obtain⟨o,h,d⟩:=j p.1 g;rw[e]at h;cases h;exact⟨e,n,m,l,d⟩
theorem Inv.kP{a pl:List (Addr×Obj)}{b:St}{H:Hp}{s:Shared}(I:Inv X (a++pl) b H s):Inv X a b H s:=I.yW λp c=>I.pin p (FK _ (He _ c))
theorem MR{k:Expr}{C:List Stmt}{wi:TI}{g:TG}{tb:TS}{pos:Pos}(M:PassesOwn (model X.prog X.w) X.A X.env X.xe)(hc:X.calm=true)(hi:PI X tg k wi)(hg:PG X tg g)(l:vd X C tb)
 (hs:∀x,foldedSetIterable k X.env x=pure x:=by intro _;rfl):PS X (.For tg k C [] pos) (Wf wi g tb):=by
 intro a s σ H D I h;refine wpAny_For (bD (hi a s σ H _ I h) λv s1 h1=>bD h1 λitv s2 h2=>?_) hs;obtain⟨it,O,tn,J,H2,e,I2,T,st2,f2,W,⟨m0,w0⟩,E⟩:=h2;subst e;have Y:∀{z:Hp},(∀b∈O,z b=none)->∀b∈O,rE X a z b:=λhn b l=>⟨hn b l,(f2 b l).2⟩;refine codeAny_forLoop_any (λn s'=>∃i j z,Inv X a j z s'/\tn i s'.heap/\(∀b∈O,z b=none)/\W i n j z) ?_ m0 ⟨0,σ,H2,I2,st2,λb l=>(f2 b l).1,w0⟩;rintro n s3 ⟨i,c,P,I3,st3,Za,w3⟩;rcases E i n c P w3 with⟨F,qn⟩|⟨go,N,hN,K⟩
 .refine SL M (bD (T.done X rfl rfl rfl hc i a s3 c P X.xe I3 (Y Za) st3 F) λr s4 ⟨S,I4⟩=>?_);subst S;exact Wp ⟨c,P,I4,qn⟩
 .refine SL M (bD (T.item X rfl rfl rfl hc i a s3 c P X.xe I3 (Y Za) st3 go) λr s4 ⟨u,S,h4⟩=>?_);subst S;refine SL M (bD h4 λ_ s5 ⟨x,H5,I5,r5,y5,U,Vj⟩=>?_);have Z:=I5.pinned (Y Vj) (T.obj _ _ U);refine SL M (bD (hg _ s5 c H5 x u _ Z r5 (K x H5 y5)) λ_ s6 ⟨Q,H6,I6,q6⟩=>?_);refine SL M (bD (l _ s6 Q H6 _ I6 q6) λf R B=>?_);have p:∀{y:St}{t:Hp},Inv X (a++pC O s5.heap) y t R->N y t->∃m,m<n/\∃i j z,Inv X a j z R/\tn i R.heap/\(∀b∈O,z b=none)/\W i m j z:=λ{y t} q L=>by obtain⟨m',hm,w7⟩:=hN y t L;refine⟨m',hm,i+1,y,t,q.kP,T.keep _ _ _ U λb l o e=>(q.pin (b,o) (FK _ (FK _ (ic l e)))).1,λb l=>?_,w7⟩;obtain⟨o,e,d⟩:=T.obj _ _ U b l;exact(q.pin (b,o) (FK _ (FK _ (ic l e)))).2.1
  cases f with
  |next=>obtain⟨y,t,q,L⟩:=B;exact p q L
  |cont=>obtain⟨y,t,q,L⟩:=B;exact p q L
  |brk=>obtain⟨y,t,q,B⟩:=B;exact⟨y,t,q.kP,B⟩
  |ret v=>obtain⟨x7,y,t,q,r7,B⟩:=B;exact⟨x7,y,t,q.kP,r7,B⟩
end
abbrev R2:=V->V->Hp->VK->Prop
noncomputable def kL(X:Cx)(f:Value->Value->Sem Value)(r:R2):Prop:=
 ∀(a:List (Addr×Obj))(s:Shared)(b:St)(H:Hp)(x y:V)(v u:Value)(Q:VK),Inv X a b H s->RelV x v->RelV y u->r x y H Q->
  wpAny (model X.prog X.w) X.A (f v u) (EP X a b Q) X.xe s
noncomputable def Wg(X:Cx)(f:Value->Sem Value)(r:V->Hp->VK->Prop):Prop:=
 ∀(a:List (Addr×Obj))(s:Shared)(b:St)(H:Hp)(x:V)(v:Value)(Q:VK),Inv X a b H s->RelV x v->r x H Q->
  wpAny (model X.prog X.w) X.A (f v) (EP X a b Q) X.xe s
noncomputable def bF(X:Cx)(f:Value)(r:List V->Hp->VK->Prop):Prop:=
 ∀(a:List (Addr×Obj))(s:Shared)(b:St)(H:Hp)(c:List V)(d:List Value)(Q:VK),Inv X a b H s->Vals c d->r c H Q->
  wpAny (model X.prog X.w) X.A (call f d) (EP X a b Q) X.xe s
noncomputable def tOp(r:R2)(ta b:TE):TE:=λa H Q=>ta a H λx d=>b a d λy c=>r x y c Q
noncomputable def tUn(r:V->Hp->VK->Prop)(ta:TE):TE:=λa H Q=>ta a H λx b=>r x b Q
noncomputable def rI(C:Int->Int->Prop)(g:Int->Int->V):R2:=λx y H Q=>∃i j,x=.int i/\y=.int j/\C i j/\Q (g i j) H
noncomputable def G8(g:Int->Int->V):R2:=λx y H Q=>∃i j,x=.int i/\y=.int j/\Q (g i j) H
noncomputable def rU(g:Int->V):V->Hp->VK->Prop:=λx H Q=>∃i,x=.int i/\Q (g i) H
section
variable{X:Cx}{a b c:Expr}{ta tb tc:TE}{pos:Pos}
theorem Wh(r:PE X a ta)(q:PE X b tb){d:List (Addr×Obj)}{s:Shared}{e:St}{H:Hp}{R:V->V->Hp->Prop}(I:Inv X d e H s)
 (h:ta e H λx H1=>tb e H1 λy g=>R x y g){Q:Value->Shared->Prop}{f:Value->Value->Sem Value}
 (p:∀v u s2 x y g,Inv X d e g s2->RelV x v->RelV y u->R x y g->wpAny (model X.prog X.w) X.A (f v u) Q X.xe s2):
 wpAny (model X.prog X.w) X.A (eval a X.env) (λv j=>wpAny (model X.prog X.w) X.A (eval b X.env) (λu i=>wpAny (model X.prog X.w) X.A (f v u) Q X.xe i) X.xe j) X.xe s:=by
 refine bD (r d s e H _ I h) λv k ⟨x,H1,z,m,o⟩=>?_;refine bD (q d k e H1 _ z o) λu s2 ⟨y,g,t,l,n⟩=>?_;exact p v u s2 x y g t m l n
theorem Sh{op:UnaryOp}{r:V->Hp->VK->Prop}(j:Wg X (unaryOp op) r)(k:PE X a ta):PE X (.UnaryOp op a pos) (tUn r ta):=by intro d s e H Q I h;exact UnaryOp_ (bD (k d s e H _ I h) λv f ⟨x,m,l,g,i⟩=>j d f e m x v Q l g i)
theorem Si{f:Value->Value->Sem Value}{C:Int->Int->Prop}{g:Int->Int->Int}
 (d:∀(i j:Int)(t u:Tok)(s:Shared)(Q:Value->Shared->Prop)(E:Value->Shared->Prop),C i j->Q (.int (g i j) s.toks) {s with toks:=s.toks+1}->wpAny (model X.prog X.w) X.A (f (.int i t) (.int j u)) Q E s):
 kL X f (rI C λi j=>.int (g i j)):=by
 intro e s o H x y v u Q I m l h;obtain⟨i,j,rfl,rfl,n,q⟩:=h;obtain⟨t,rfl⟩:=m;obtain⟨k,rfl⟩:=l;exact d i j t k s _ _ n ⟨.int (g i j),H,I.tok _,⟨_,rfl⟩,q⟩
theorem Sj{f:Value->Value->Sem Value}{g:Int->Int->Int}
 (d:∀(i j:Int)(t u:Tok)(s:Shared)(Q:Value->Shared->Prop)(E:Value->Shared->Prop),Q (.int (g i j) s.toks) {s with toks:=s.toks+1}->wpAny (model X.prog X.w) X.A (f (.int i t) (.int j u)) Q E s):
 kL X f (G8 λi j=>.int (g i j)):=by
 intro e s n H x y v u Q I m l h;obtain⟨i,j,rfl,rfl,q⟩:=h;obtain⟨t,rfl⟩:=m;obtain⟨k,rfl⟩:=l;exact d i j t k s _ _ ⟨.int (g i j),H,I.tok _,⟨_,rfl⟩,q⟩
theorem G9{f:Value->Value->Sem Value}{g:Int->Int->Bool}
 (d:∀(i j:Int)(t u:Tok)(s:Shared)(Q:Value->Shared->Prop)(E:Value->Shared->Prop),Q (.bool (g i j)) s->wpAny (model X.prog X.w) X.A (f (.int i t) (.int j u)) Q E s):
 kL X f (G8 λi j=>.bl (g i j)):=by
 intro e s n H x y v u Q I m l h;obtain⟨i,j,rfl,rfl,q⟩:=h;obtain⟨t,rfl⟩:=m;obtain⟨k,rfl⟩:=l;exact d i j t k s _ _ ⟨.bl (g i j),H,I,rfl,q⟩
noncomputable def Wi(i j:Int):Prop:=0<j/\j<1073741824
noncomputable def xE(i j:Int):Prop:=0<=j/\j<=1000000/\i.natAbs<2^64
theorem xF(k:Nat):(0:Int)<=2^k:=by rw[two_pow_cast];exact Int.natCast_nonneg _
theorem MT:kL X (binaryOp .Add) (G8 λi j=>.int (i+j)):=Sj λ_ _ _ _ _ _ _ q=>add_int q
theorem MU:kL X (binaryOp .Sub) (G8 λi j=>.int (i -j)):=Sj λ_ _ _ _ _ _ _ q=>sub_int q
theorem Hf:kL X (binaryOp .Mod) (rI (λ_ j=>j≠0) λi j=>.int (i.fmod j)):=Si λ_ _ _ _ _ _ _ d q=>mod_int' d q
theorem MV:kL X (binaryOp .Pow) (rI xE λi j=>.int (i^j.toNat)):=Si λ_ _ _ _ _ _ _ d q=>pow_int_small d.1 d.2.1 d.2.2 q
theorem MW:kL X (binaryOp .LShift) (rI xE λi j=>.int (i*2^j.toNat)):=Si λ_ _ _ _ _ _ _ d q=>lshift_int_small d.1 d.2.1 d.2.2 q
theorem MX:kL X (binaryOp .RShift) (rI (λ_ j=>0<=j) λi j=>.int (i/2^j.toNat)):=Si λi j _ _ _ _ _ d q=>rshift_int d (by rw[SZ i (xF _)];exact q)
theorem unI{f:Value->Sem Value}{g:Int->Int}
 (d:∀(i:Int)(t:Tok)(s:Shared)(Q:Value->Shared->Prop)(E:Value->Shared->Prop),Q (.int (g i) s.toks) {s with toks:=s.toks+1}->wpAny (model X.prog X.w) X.A (f (.int i t)) Q E s):
 Wg X f (rU λi=>.int (g i)):=by
 intro e s k H x v Q I j h;obtain⟨i,rfl,q⟩:=h;obtain⟨t,rfl⟩:=j;exact d i t s _ _ ⟨.int (g i),H,I.tok _,⟨_,rfl⟩,q⟩
theorem MY:Wg X (unaryOp .USub) (rU λi=>.int (-i)):=unI λ_ _ _ _ _ q=>neg_int q
end
noncomputable def MZ:V->V->Bool
 |.aG,.aG=>true|.aG,.int _=>true|.int _,.aG=>true|.aG,.bl _=>true|.bl _,.aG=>true|.aG,.str _=>true|.str _,.aG=>true
 |.int _,.int _=>true|.bl _,.bl _=>true|.str _,.str _=>true|.Cq _,.Cq _=>true
 |.int _,.str _=>true|.str _,.int _=>true|.bl _,.str _=>true|.str _,.bl _=>true
 |_,_=>false
noncomputable def rEq:R2:=λx y H Q=>MZ x y=true/\Q (.bl (decide (x=y))) H
noncomputable def rNe:R2:=λx y H Q=>MZ x y=true/\Q (.bl (!decide (x=y))) H
theorem zc{i j:Int}:decide (V.int i=V.int j)=(i==j):=by rw[RF];simp
theorem C9{i j:Bool}:decide (V.bl i=V.bl j)=(i==j):=by rw[RF];simp
theorem zd{i j:Str}:decide (V.str i=V.str j)=(i==j):=by rw[RF];simp
theorem ze{i j:Array UInt8}:decide (V.Cq i=V.Cq j)=(i.toList==j.toList):=by rw[RF];cases i;cases j;simp
section
variable{X:Cx}{a b c:Expr}{ta tb tc:TE}{pos:Pos}
theorem aP{d:List (Addr×Obj)}{f:St}{H:Hp}{s:Shared}{Q:VK}{k g:Bool}(I:Inv X d f H s)(q:Q (.bl k) H)(e:k=g):EP X d f Q (.bool g) s:=by subst e;exact⟨.bl k,H,I,rfl,q⟩
theorem Sk:kL X (compareOp .Eq) rEq:=by
 intro k s l H x y v u Q I g d h;obtain⟨f,q⟩:=h;cases x with
 |aG=>
  cases g;cases y with
  |aG=>cases d;exact PySem.EqNone.eq_none_none (aP I q (by simp))
  |bl j=>cases d;exact PySem.EqNone.eq_none_bool (aP I q (by simp))
  |int j=>obtain⟨e,rfl⟩:=d;exact PySem.EqNone.eq_none_int (aP I q (by simp))
  |str j=>obtain⟨e,rfl⟩:=d;exact PySem.EqNone.eq_none_str (aP I q (by simp))
  |_=>exact absurd (show false=true from f) GE
 |bl i=>
  cases g;cases y with
  |aG=>cases d;exact PySem.EqNone.eq_bool_none (aP I q (by simp))
  |bl j=>cases d;exact eq_bool (aP I q C9)
  |str j=>obtain⟨e,rfl⟩:=d;exact PySem.EqMixed.eq_bool_str (aP I q (by simp))
  |_=>exact absurd (show false=true from f) GE
 |int i=>
  obtain⟨t,rfl⟩:=g;cases y with
  |aG=>cases d;exact PySem.EqNone.eq_int_none (aP I q (by simp))
  |int j=>obtain⟨e,rfl⟩:=d;exact eq_int (aP I q zc)
  |str j=>obtain⟨e,rfl⟩:=d;exact PySem.EqMixed.eq_int_str (aP I q (by simp))
  |_=>exact absurd (show false=true from f) GE
 |str i=>
  obtain⟨t,rfl⟩:=g;cases y with
  |aG=>cases d;exact PySem.EqNone.eq_str_none (aP I q (by simp))
  |bl j=>cases d;exact PySem.EqMixed.eq_str_bool (aP I q (by simp))
  |int j=>obtain⟨e,rfl⟩:=d;exact PySem.EqMixed.eq_str_int (aP I q (by simp))
  |str j=>obtain⟨e,rfl⟩:=d;exact eq_str (aP I q zd)
  |_=>exact absurd (show false=true from f) GE
 |Cq i=>
  obtain⟨t,rfl⟩:=g;cases y with
  |Cq j=>obtain⟨e,rfl⟩:=d;exact PySem.W.eq_bytes (aP I q ze)
  |_=>exact absurd (show false=true from f) GE
 |_=>cases y<;>exact absurd (show false=true from f) GE
theorem Sl:kL X (compareOp .NotEq) rNe:=by
 intro k s l H x y v u Q I g d h;obtain⟨f,q⟩:=h;cases x with
 |aG=>
  cases g;cases y with
  |aG=>cases d;exact PySem.EqNone.ne_none_none (aP I q (by simp))
  |bl j=>cases d;exact PySem.EqNone.ne_none_bool (aP I q (by simp))
  |int j=>obtain⟨e,rfl⟩:=d;exact PySem.EqNone.ne_none_int (aP I q (by simp))
  |str j=>obtain⟨e,rfl⟩:=d;exact PySem.EqNone.ne_none_str (aP I q (by simp))
  |_=>exact absurd (show false=true from f) GE
 |bl i=>
  cases g;cases y with
  |aG=>cases d;exact PySem.EqNone.ne_bool_none (aP I q (by simp))
  |bl j=>cases d;exact ne_bool (aP I q (Hb not C9))
  |str j=>obtain⟨e,rfl⟩:=d;exact PySem.EqMixed.ne_bool_str (aP I q (by simp))
  |_=>exact absurd (show false=true from f) GE
 |int i=>
  obtain⟨t,rfl⟩:=g;cases y with
  |aG=>cases d;exact PySem.EqNone.ne_int_none (aP I q (by simp))
  |int j=>obtain⟨e,rfl⟩:=d;exact ne_int (aP I q (Hb not zc))
  |str j=>obtain⟨e,rfl⟩:=d;exact PySem.EqMixed.ne_int_str (aP I q (by simp))
  |_=>exact absurd (show false=true from f) GE
 |str i=>
  obtain⟨t,rfl⟩:=g;cases y with
  |aG=>cases d;exact PySem.EqNone.ne_str_none (aP I q (by simp))
  |bl j=>cases d;exact PySem.EqMixed.ne_str_bool (aP I q (by simp))
  |int j=>obtain⟨e,rfl⟩:=d;exact PySem.EqMixed.ne_str_int (aP I q (by simp))
  |str j=>obtain⟨e,rfl⟩:=d;exact ne_str (aP I q (Hb not zd))
  |_=>exact absurd (show false=true from f) GE
 |Cq i=>
  obtain⟨t,rfl⟩:=g;cases y with
  |Cq j=>obtain⟨e,rfl⟩:=d;exact PySem.W.ne_bytes (aP I q (Hb not ze))
  |_=>exact absurd (show false=true from f) GE
 |_=>cases y<;>exact absurd (show false=true from f) GE
theorem Sm:kL X (compareOp .Lt) (G8 λi j=>.bl (decide (i<j))):=G9 λ_ _ _ _ _ _ _ q=>lt_int q
theorem Sn:kL X (compareOp .LtE) (G8 λi j=>.bl (decide (i<=j))):=G9 λ_ _ _ _ _ _ _ q=>le_int q
theorem So:kL X (compareOp .Gt) (G8 λi j=>.bl (decide (j<i))):=G9 λ_ _ _ _ _ _ _ q=>gt_int q
theorem Sq:kL X (compareOp .GtE) (G8 λi j=>.bl (decide (j<=i))):=G9 λ_ _ _ _ _ _ _ q=>ge_int q
theorem AH:kL X (compareOp .In) (λx y H Q=>∃i j,x=.str i/\y=.str j/\Q (.bl (!(Builtin.Str.occurrences j i 0 j.length 1).isEmpty)) H):=by intro d s g H x y v u Q I f e h;obtain⟨i,j,rfl,rfl,q⟩:=h;obtain⟨t,rfl⟩:=f;obtain⟨k,rfl⟩:=e;exact in_str (aP I q rfl)
theorem M0:kL X (compareOp .Is) (λx y H Q=>y=.aG/\Q (.bl (decide (x=.aG))) H):=by
 intro e s g H x y v u Q I d f h;obtain⟨rfl,q⟩:=h;cases f;refine is_none_gen (aP I q ?_);cases x<;>first
  |(cases d;rfl)
  |(obtain⟨t,rfl⟩:=d;rfl)
theorem Hg:kL X (compareOp .IsNot) (λx y H Q=>y=.aG/\Q (.bl (!decide (x=.aG))) H):=by
 intro e s g H x y v u Q I d f h;obtain⟨rfl,q⟩:=h;cases f;refine isnot_none_gen (aP I q ?_);cases x<;>first
  |(cases d;rfl)
  |(obtain⟨t,rfl⟩:=d;rfl)
theorem Dc(b:Expr){op:CmpOp}(h:op≠.In:=by decide)(d:op≠.NotIn:=by decide):behindInMarks op b=false:=by
 have f:(op==CmpOp.In)=false:=by cases op<;>first|rfl|exact absurd rfl h
 have e:(op==CmpOp.NotIn)=false:=by cases op<;>first|rfl|exact absurd rfl d
 cases b<;>simp[behindInMarks,f,e]
theorem pD:(sizeLine:Nat)<2^63:=by rw[sizeLine_eq];decide
theorem xG:kL X (binaryOp .Add) (λx y H Q=>∃i j,x=.str i/\y=.str j/\i.length+j.length<=sizeLine/\Q (.str (i++j)) H):=by intro d s k H x y v u Q I g f h;obtain⟨i,j,rfl,rfl,hz,q⟩:=h;obtain⟨t,rfl⟩:=g;obtain⟨e,rfl⟩:=f;exact add_str (λe l=>⟨.str (i++j),H,I.tok _,⟨_,rfl⟩,q⟩) hz
theorem vals1{x:V}{us:List Value}(r:Vals [x] us):∃u,us=[u]/\RelV x u:=by
 cases r with
 |cons e d=>cases d;exact⟨_,rfl,e⟩
theorem vals2{x y:V}{us:List Value}(r:Vals [x,y] us):∃u w',us=[u,w']/\RelV x u/\RelV y w':=by
 cases r with
 |cons g f=>
  cases f with
  |cons e d=>cases d;exact⟨_,_,rfl,g,e⟩
theorem Dd:bF X (.builtin "abs") (λd H Q=>∃i,d=[.int i]/\Q (.int (if i<0 then-i else i)) H):=by intro e s f H d g Q I r h;obtain⟨i,rfl,q⟩:=h;obtain⟨u,rfl,t,rfl⟩:=vals1 r;exact call_abs_int λu j=>⟨.int (if i<0 then-i else i),H,I.tok _,⟨_,rfl⟩,q⟩
theorem AI(g:X.calm=true):bF X (.builtin "max") (λe H Q=>∃i j,e=[.int i,.int j]/\Q (.int (if j>i then j else i)) H):=by
 intro f s l H e n Q I r h;obtain⟨i,j,rfl,q⟩:=h;obtain⟨u,m,rfl,⟨t,rfl⟩,⟨p,rfl⟩⟩:=vals2 r;refine max_two_ints (I.ok.hd g) λv o k=>⟨_,H,I.kept k,?_,q⟩;by_cases d:j>i
 .rw[Do d,Do d];exact⟨_,rfl⟩
 .rw[Bi d,Bi d];exact⟨_,rfl⟩
theorem AJ(g:X.calm=true):bF X (.builtin "min") (λe H Q=>∃i j,e=[.int i,.int j]/\Q (.int (if j<i then j else i)) H):=by
 intro f s l H e n Q I r h;obtain⟨i,j,rfl,q⟩:=h;obtain⟨u,m,rfl,⟨t,rfl⟩,⟨p,rfl⟩⟩:=vals2 r;refine min_two_ints (I.ok.hd g) λv o k=>⟨_,H,I.kept k,?_,q⟩;by_cases d:j<i
 .rw[Do d,Do d];exact⟨_,rfl⟩
 .rw[Bi d,Bi d];exact⟨_,rfl⟩
theorem AK:bF X (.type "int") (λd H Q=>(∃i,d=[.int i]/\Q (.int i) H)\/∃k,d=[.bl k]/\Q (.int (if k then 1 else 0)) H):=by
 intro e s g H d j Q I r h;rcases h with⟨i,rfl,q⟩|⟨k,rfl,q⟩
 .obtain⟨u,rfl,t,rfl⟩:=vals1 r;exact call_int_int ⟨.int i,H,I,⟨_,rfl⟩,q⟩
 .obtain⟨u,rfl,f⟩:=vals1 r;cases f;exact call_int_bool ⟨.int (if k then 1 else 0),H,I.tok _,⟨_,rfl⟩,q⟩
theorem tM:bF X (.type "str") (λd H Q=>∃i,d=[.int i]/\i.natAbs.log2<1920/\Q (.str (toString i)) H):=by intro e s f H d g Q I r h;obtain⟨i,rfl,hz,q⟩:=h;obtain⟨u,rfl,t,rfl⟩:=vals1 r;exact PySem.P.str_of_int hz ⟨.str _,H,I.tok _,⟨_,rfl⟩,q⟩
theorem vo:bF X (.builtin "divmod") (λd H Q=>∃i j,d=[.int i,.int j]/\Wi i j/\∀p,H p=none->Q (.ref p) (upd H p (.tup [.int (i/j),.int (i%j)]))):=by intro f s k H d m Q I r h;obtain⟨i,j,rfl,⟨w,v⟩,q⟩:=h;obtain⟨u,l,rfl,⟨t,rfl⟩,⟨n,rfl⟩⟩:=vals2 r;refine divmod_int (by lia) ?_ (.inl (Ul (by lia)));rw[SZ i (by lia),Int.fmod_eq_emod_of_nonneg i (by lia)];have g:H s.heap.objs.size=none:=I.hok.fresh (Bn _);refine⟨.ref s.heap.objs.size,_,?_,rfl,q _ g⟩;refine I.laid (λb o e=>Dx _ e) (Bn _) ⟨by simp only[A0,CC];rw[sizeLine_eq];decide,[.int (i/j) s.toks,.int (i%j) (s.toks+1)],.cons ⟨_,rfl⟩ (.cons ⟨_,rfl⟩ .nil),?_⟩;exact⟨_,KE s.heap rfl,rfl,0,rfl⟩
end
structure xH(h:Heap)(x dx C:Addr)(mA:Str->Option Value):Prop where
 obj:h.get? x=some (instObj C dx)
 ns:h.Ns1 dx mA
 ne:dx≠x
theorem AL{h:Heap}{g:Addr}{d:Str->Option Value}(n:h.Ns1 g d):∃c,h.get? g=some c/\∀name,lookIn name c=some (d name):=by
 obtain⟨o,f,p,j,hd,l,_,k⟩:=n;refine⟨o,j,λname=>?_⟩;have e:=k name;unfold nsFind findBy at e;rw[<-Array.find?_toList]at e;unfold lookIn;rw[hd];dsimp only;split
 .rename_i y q
  rw[q]at e;exact Hb some e
 .rename_i q
  rw[q]at e;have a:f.toList.any (·.refKey)=false:=by rw[Xk];intro y i;obtain⟨z,t,b⟩:=l y (Array.mem_toList_iff.mp i);simp[DictEntry.refKey,b]
  have m:¬f.toList.any (·.refKey)=true:=by rw[a];exact GE
  rw[Bi m];exact Hb some e
theorem xH.look{h:Heap}{x c C:Addr}{b:Str->Option Value}(I:xH h x c C b):∃a,PySem.W.InstAt h x (instObj C c) C (some a)/\∀name,lookIn name a=some (b name):=
 let⟨a,ho,hl⟩:=AL I.ns
 ⟨a,⟨I.obj,rfl,rfl,ho⟩,hl⟩
section
variable{prog:Program}{w:World}{A:Around}{E:Value->Shared->Prop}{s:Shared}{K:Frag}{x dx C f:Addr}{mA:Str->Option Value}{name:Str}{v:Value}
theorem get_map{a:Bool}{Q:Value->Shared->Prop}(X:K.In s.heap)(I:xH s.heap x dx C mA)(g:plainGet K C name=true)(e:hasDictIn K C=true)
 (i:findIn K (.ref C) name=some none)(c:mA name=some v)(b:PySem.W.handedIn v=true)(h:Q v {s with toks:=s.toks+1}):
 wpAny (model prog w) A (getAttr (.ref x) name a) Q E s:=by
 obtain⟨j,J,d⟩:=I.look;exact PySem.W.get_value X J (plainGet_of g).1 (PySem.W.findObj_own e i rfl (by rw[d,c])) b h
theorem De{pl:Sem Bool}{Q:Value×List Value->Shared->Prop}(X:K.In s.heap)(I:xH s.heap x dx C mA)(a:plainGet K C name=true)
 (g:findIn K (.ref C) name=some (some (.ref f)))(d:isFn K (.ref f)=true)(c:mA name=none)(h:Q (.ref f,[.ref x]) s):
 wpAny (model prog w) A (getMethod (.ref x) name pl) Q E s:=by
 obtain⟨b,J,e⟩:=I.look;exact PySem.W.method_fn X J (plainGet_of a).1 (plainGet_of a).2 g (HI.mp d) (by show(lookIn name b).map (·.isSome)=some false;rw[e,c];rfl) h
theorem Hh{ns:List Str}{Q:Unit->Shared->Prop}(X:K.In s.heap)(I:xH s.heap x dx C mA)
 (n:findIn K (.ref C) "__setattr__"=some (some (.builtin "object.__setattr__")))(o:plainOver K C=true)(m:takerIn K C name=some none)(p:hasDictIn K C=true)
 (l:PySem.Within mA ns)(hsz:ns.length<=sizeLine)
 (h:∀h',xH h' x dx C (λy=>if y=name then some v else mA y)->Heap.SameBut dx s.heap h'->Q () {s with heap:=h',toks:=s.toks+2}):
 wpAny (model prog w) A (setAttr (.ref x) name v) Q E s:=by
 obtain⟨z,J,D⟩:=I.look;refine PySem.W.set_plain X J n (PySem.W.osa_open (s:={s with toks:=s.toks+1}) (r:=none) X J o m λb=>?_);obtain⟨F,q,i⟩:=PySem.W.any_some p;have k:s.heap.get? x=some ⟨.ref C,some dx,.plain,#[]⟩:=I.obj;refine Da (GM (Da (Da (wpAny_loadPart k (Da (PySem.W.Looks.here (s:={s with toks:=s.toks+1}) (PySem.W.looks_clsIn X q) ?_))))));rw[i];refine GM (a:=some dx) (Da (GM (Da ?_)));refine wpAny_nsSet1 (s:={s with toks:=s.toks+1}) I.ns λh' d c=>?_;obtain⟨B,t,u,e,g,j⟩:=d.count (PySem.Within.cons name v l);refine Da (wpAny_lookBehind e (by rw[g];exact pastItsLine_dict (FV j (by rw[A0];lia))) ?_);exact GM (h _ ⟨(c.2 _ (OF I.ne)).trans I.obj,d,I.ne⟩ c)
theorem Dg{R:Result->Shared->Prop}{vs:List Value}{b:List (Str×Value)}(X:K.In s.heap)(c:makesIn K C=true)
 (e:findIn K (.ref C) "__init__"=some (some (.ref f)))(i:PySem.W.typeIn K (.ref f)=some (.type "function"))
 (h:codeAny (model prog w) (A.under (.builtin "type.__call__" ⟨.ref C::vs,b⟩)) (.call (.ref f) ⟨.ref (s.heap.objs.size+1)::vs,b⟩) (PySem.W.InitBack (s.heap.objs.size+1) R)
   {s with heap:=(s.heap.push emptyDict).push (instObj C s.heap.objs.size)}):
 codeAny (model prog w) A (.call (.ref C) ⟨vs,b⟩) R s:=by
 obtain⟨k,g,d,t,j⟩:=s;exact PySem.W.make_core (PySem.W.makes_of X c) (X9 X e) (λa=>PySem.W.bind_fn X a i) (.inl rfl) h
end
noncomputable def ie(f:Str)(v:V):List (Str×V)->List (Str×V)
 |[]=>[(f,v)]
 |(g,x)::r=>if g=f then(g,v)::r else(g,x)::ie f v r
theorem mW(f g:Str)(v:V):∀c:List (Str×V),(ie f v c).lookup g=if g=f then some v else c.lookup g
 |[]=>by
  show MG g [(f,v)]=_;by_cases h:g=f
  .have a:(g==f)=true:=HI.mpr h;simp only[MG,a,Do h]
  .have a:(g==f)=false:=P3.mpr h;simp only[MG,a,Bi h]
 |(k,x)::r=>by
  have d:=mW f g v r;rw[show ie f v ((k,x)::r)=(if k=f then(k,v)::r else(k,x)::ie f v r)from rfl];by_cases b:k=f
  .rw[Do b];by_cases h:g=k
   .have a:(g==k)=true:=HI.mpr h;simp only[MG,a,Do (h.trans b)]
   .have a:(g==k)=false:=P3.mpr h;simp only[MG,a,Bi (λe:g=f=>h (e.trans b.symm))]
  .rw[Bi b];by_cases h:g=k
   .have a:(g==k)=true:=HI.mpr h;simp only[MG,a,Bi (λe:g=f=>b (h.symm.trans e))]
   .have a:(g==k)=false:=P3.mpr h;simp only[MG,a];exact d
theorem lX(f:Str)(v:V):∀b:List (Str×V),f∈(ie f v b).map (·.1)/\∀g,g∈b.map (·.1)->g∈(ie f v b).map (·.1)
 |[]=>⟨by simp[ie],λg h=>by simp at h⟩
 |(k,x)::r=>by
  obtain⟨i1,c⟩:=lX f v r;rw[show ie f v ((k,x)::r)=(if k=f then(k,v)::r else(k,x)::ie f v r)from rfl];by_cases a:k=f
  .rw[Do a];subst a;exact⟨by simp,λg h=>by simpa using h⟩
  .rw[Bi a];refine⟨?_,λg h=>?_⟩
   .rw[Hn];exact B1 _ i1
   .rw[Hn]at h⊢;rcases FC.mp h with e|e
    .exact FC.mpr (.inl e)
    .exact B1 _ (c g e)
theorem mX(f:Str)(v:V):∀b:List (Str×V),(ie f v b).length<=b.length+1
 |[]=>by simp[ie]
 |(k,x)::r=>by
  have ih:=mX f v r;rw[show ie f v ((k,x)::r)=(if k=f then(k,v)::r else(k,x)::ie f v r)from rfl];by_cases a:k=f
  .rw[Do a,A0,A0];lia
  .rw[Bi a,A0,A0];lia
theorem iQ.some_of{v:V}{o:Option Value}(r:iQ (some v) o):∃u,o=some u/\RelV v u:=by
 cases o with
 |none=>exact(show False from r).elim
 |some u=>exact⟨u,rfl,r⟩
theorem iQ.none_of{o:Option Value}(r:iQ none o):o=none:=by
 cases o with
 |none=>rfl
 |some u=>exact(show False from r).elim
theorem AM{v:V}{u:Value}(r:RelV v u):PySem.W.handedIn u=true:=by
 cases v with
 |aG=>cases(show u=Value.none from r);rfl
 |bl b=>cases(show u=Value.bool b from r);rfl
 |int i=>obtain⟨t,e⟩:=(show∃t,u=Value.int i t from r);cases e;rfl
 |str x=>obtain⟨t,e⟩:=(show∃t,u=Value.str x t from r);cases e;rfl
 |Cq b=>obtain⟨t,e⟩:=(show∃t,u=Value.bytes b t from r);cases e;rfl
 |ME b=>obtain⟨t,e⟩:=(show∃t,u=Value.float b t from r);cases e;rfl
 |ref a=>cases(show u=Value.ref a from r);rfl
 |ty n=>cases(show u=Value.type n from r);rfl
section
variable{P:Program}{w:World}{H H':Hp}{h h':Heap}{a C dx:Addr}{fs fs':List (Str×V)}
theorem n9(c:iX P w H h)(e:H a=some (.ins C dx fs)):∃b,xH h a dx C b/\(∀f,iQ (fs.lookup f) (b f))/\PySem.Within b (fs.map (·.1))/\fs.length<=1000/\H dx=some (.own a):=by obtain⟨d,z,i,g,b,n,r,q⟩:=(show bC P w H h a (.ins C dx fs)from c a _ e);exact⟨b,⟨g,n,i⟩,r,q,z,d⟩
end
structure Hi(K:Frag)(C:Addr):Prop where
 pg:plainGet K C Str.empty=true
 hd:hasDictIn K C=true
 po:plainOver K C=true
 sa:findIn K (.ref C) "__setattr__"=some (some (.builtin "object.__setattr__"))
theorem Hi.get{K:Frag}{C:Addr}(c:Hi K C)(f:Str):plainGet K C f=true:=c.pg
noncomputable def i7(K:Frag)(C:Addr)(f:Str):Prop:=findIn K (.ref C) f=some none
theorem i7.Su{K:Frag}{C:Addr}{f:Str}(n:i7 K C f):takerIn K C f=some none:=by unfold takerIn;rw[show findIn K (.ref C) f=some none from n];rfl
structure Meth(K:Frag)(C:Addr)(m:Str)(f:Addr):Prop where
 at_:findIn K (.ref C) m=some (some (.ref f))
 fn:isFn K (.ref f)=true
 kp:keepIn K (.ref f)=true
section
variable{X:Cx}{pins:List (Addr×Obj)}{σ:St}{H:Hp}{s:Shared}{a C dx:Addr}{fs:List (Str×V)}{f:Str}{v:V}{A:Around}{E:Value->Shared->Prop}
theorem xJ{b:Bool}{Q:Value->Shared->Prop}(I:Inv X pins σ H s)(e:H a=some (.ins C dx fs))(c:Hi X.K C)(n:i7 X.K C f)(l:fs.lookup f=some v)
 (h:∀u s',Inv X pins σ H s'->RelV v u->Q u s'):wpAny (model X.prog X.w) A (getAttr (.ref a) f b) Q E s:=by
 obtain⟨g,O,r,_,_,_⟩:=n9 I.hok e;obtain⟨u,i,d⟩:=iQ.some_of (v:=v) (o:=g f) (by rw[<-l];exact r f);exact get_map I.jT O (c.get f) c.hd n i (AM d) (h u _ (I.tok _) d)
theorem ig{m:Str}{g:Addr}{pl:Sem Bool}{Q:Value×List Value->Shared->Prop}(I:Inv X pins σ H s)(e:H a=some (.ins C dx fs))(c:Hi X.K C)(k:Meth X.K C m g)(l:fs.lookup m=none)
 (h:Q (.ref g,[.ref a]) s):wpAny (model X.prog X.w) A (getMethod (.ref a) m pl) Q E s:=by
 obtain⟨b,O,r,_,_,_⟩:=n9 I.hok e;have d:b m=none:=iQ.none_of (by rw[<-l];exact r m);exact De I.jT O (c.get m) k.at_ k.fn d h
theorem xK{y:V}{u:Value}{Q:Unit->Shared->Prop}(I:Inv X pins σ H s)(e:H a=some (.ins C dx fs))(c:Hi X.K C)(n:i7 X.K C f)(D:fs.length<1000)(m:RelV y u)
 (h:∀s',Inv X pins σ (upd H a (.ins C dx (ie f y fs))) s'->Q () s'):wpAny (model X.prog X.w) A (setAttr (.ref a) f u) Q E s:=by
 obtain⟨j,O,r,i,_,k⟩:=n9 I.hok e;have hz:(fs.map (·.1)).length<=sizeLine:=by rw[Fk,sizeLine_eq];lia
 refine Hh I.jT O c.sa c.po n.Su c.hd i hz λB d l=>h _ ?_;have hd:∃o,B.get? dx=some o:=let⟨o,_,_,e',_⟩:=d.ns;⟨o,e'⟩
 refine I.write (x:=a) (e:=dx) (by rw[e];exact Kd) (.inr k) (λb q t z=>(l.2 b t).trans z) hd ?_;refine⟨by rw[ay O.ne];exact k,?_,O.ne,d.obj,_,d.ns,λg=>?_,λg p=>?_⟩
 .have:=mX f y fs;lia
 .show iQ ((ie f y fs).lookup g) (if g=f then some u else j g);rw[mW];by_cases q:g=f
  .rw[Do q,Do q];exact m
  .rw[Bi q,Bi q];exact r g
 .by_cases q:g=f
  .rw[q];exact(lX f y fs).1
  .refine(lX f y fs).2 g (i g λz=>p ?_);show(if g=f then some u else j g)=none;rw[Bi q];exact z
theorem Inv.made(I:Inv X pins σ H s):Inv X pins σ (upd (upd H s.heap.objs.size (.own (s.heap.objs.size+1))) (s.heap.objs.size+1) (.ins C s.heap.objs.size []))
 {s with heap:=(s.heap.push emptyDict).push (instObj C s.heap.objs.size)}:=by
 have d:(s.heap.push emptyDict).get? s.heap.objs.size=some emptyDict:=KE s.heap rfl;have j:((s.heap.push emptyDict).push (instObj C s.heap.objs.size)).get? (s.heap.objs.size+1)=some (instObj C s.heap.objs.size):=by have:=KE (s.heap.push emptyDict) (o:=instObj C s.heap.objs.size) rfl;rwa [Heap.size_push]at this
 have i:(s.heap.push emptyDict).Ns s.heap.objs.size (λ_=>none):=⟨emptyDict,#[],_,d,rfl,(λe h=>absurd h (by simp)),λ_=>rfl⟩;have k:=I.laid (a:=s.heap.objs.size) (o:=.own (s.heap.objs.size+1)) (h':=s.heap.push emptyDict) (t':=s.toks) (λb u q=>Dx _ q) (Bn _) ⟨_,d⟩;refine k.laid (a:=s.heap.objs.size+1) (o:=.ins C s.heap.objs.size []) (t':=s.toks) (λb u q=>Dx _ q) (Rh (Heap.size_push _ _)) ?_;have c:s.heap.objs.size≠s.heap.objs.size+1:=KM (Z2 _);refine⟨by rw[ay c,aD],NM _,c,j,λ_=>none,(Heap.Ns1.of_empty i).at λo q=>Dx _ q,λ_=>Kd,λy g=>absurd rfl g⟩
theorem Hj{prog:Program}{w:World}{env:Env}{e:Expr}{f:Str}{pos:Pos}{s:Shared}{Q:Value->Shared->Prop}(c:attributeBase e f env (eval e env)=eval e env)
 (h:wpAny (model prog w) A (eval e env) (λo b=>wpAny (model prog w) A (getAttr o f true) Q E b) E s):wpAny (model prog w) A (eval (.Attribute e f pos) env) Q E s:=
 Attribute_any_ h (by rw[arm_eval_Attribute,c])
end
noncomputable def Wj(K:Frag)(ta:TE)(f:Str):TE:=λd H Q=>ta d H λx c=>∃a C e b v,x=.ref a/\c a=some (.ins C e b)/\Hi K C/\i7 K C f/\b.lookup f=some v/\Q v c
noncomputable def Sv(K:Frag)(ta g:TE)(f:Str):TS:=λD b H=>g b H λy h=>ta b h λx e=>∃a C d c,x=.ref a/\e a=some (.ins C d c)/\Hi K C/\i7 K C f/\c.length<1000/\
 D.nx b (upd e a (.ins C d (ie f y c)))
section
variable{X:Cx}{o e value:Expr}{f:Str}{pos pos' tpos:Pos}{ta tv:TE}
theorem Dh(he:PE X e ta)(j:attributeBase e f X.env (eval e X.env)=eval e X.env):PE X (.Attribute e f pos) (Wj X.K ta f):=by intro b s d H Q I h;refine Hj j (bD (he b s d H _ I h) λu w hz=>?_);obtain⟨x,r,p,g,a,C,z,y,v,ex,k,c,n,l,q⟩:=hz;subst ex;obtain rfl:u=Value.ref a:=g;exact xJ p k c n l λt s2 m i=>⟨v,r,m,i,q⟩
theorem lY(t:PE X o ta)(p:PE X value tv)(r:swapsWith value (some (.Attribute o f pos')) pos.line X.env=pure false):PS X (.Assign [.Attribute o f pos'] value pos) (Sv X.K ta tv f):=by intro b s d H D I h;refine plainObj_wpAny_Assign_Attribute (bD (p b s d H _ I h) λu g ⟨y,B,A,i,q⟩=>bD (t b g d B _ A q) λm s2 hz=>?_) r;obtain⟨x,J,z,j,a,C,F,E,ex,v,c,n,l,k⟩:=hz;subst ex;obtain rfl:m=Value.ref a:=j;exact xK z v c n l i λs3 w=>⟨d,_,w,k⟩
end
section
variable{X:Cx}{pins:List (Addr×Obj)}{σ:St}{H:Hp}{s:Shared}{A:Around}{E:Value->Shared->Prop}{Q:Value->Shared->Prop}{c:Value}{b:Bool}
inductive ni(K:Frag)(H:Hp):V->Value->Prop where
 |aG:ni K H .aG (.type "NoneType")
 |bl (x:Bool):ni K H (.bl x) (.type "bool")
 |int (i:Int):ni K H (.int i) (.type "int")
 |str (x:Str):ni K H (.str x) (.type "str")
 |ME (x:UInt64):ni K H (.ME x) (.type "float")
 |lst {a:Addr} {xs:List V} (e:H a=some (.lst xs)):ni K H (.ref a) (.type "list")
 |xm {a:Addr} {o:Obj} {xs:List V} (e:H a=some (.xm o (.lst xs))):ni K H (.ref a) (.type "list")
 |tup {a:Addr} {xs:List V} (e:H a=some (.tup xs)):ni K H (.ref a) (.type "tuple")
 |dK {a:Addr} {kvs:List (Key×V)} (e:H a=some (.dK kvs)):ni K H (.ref a) (.type "dict")
 |dT {a:Addr} {kvs:List (List Key×V)} (e:H a=some (.dT kvs)):ni K H (.ref a) (.type "dict")
 |ins {a C dx:Addr} {fs:List (Str×V)} (e:H a=some (.ins C dx fs)) (cl:Hi K C) (ha:findIn K (.ref C) "__class__"=some (some (.builtin "object.__class__")))
   (hn:PySem.W.specialIn K (.builtin "object.__class__") "__get__"=some (some (.builtin "getset_descriptor.__get__"))) (htk:PySem.W.takesIn K (.builtin "object.__class__")=some true)
   (hm:mroIn K C (.type "object")=some true):ni K H (.ref a) (.ref C)
theorem gy{x:V}{u t:Value}(I:Inv X pins σ H s)(d:RelV x u)(v:ni X.K H x t)(e:kitOne X.K t c=some b)(h:∀B,Q (.bool b) {s with toks:=B}):
 wpAny (model X.prog X.w) A (call (.builtin "isinstance") [u,c]) Q E s:=by
 cases v with
 |aG=>cases(show u=Value.none from d);exact Os PySem.W.kitx_none I.jT Kd e (λz=>nomatch z) h
 |bl y=>cases(show u=Value.bool y from d);exact Os PySem.W.kitx_bool I.jT Kd e (λz=>nomatch z) h
 |int i=>obtain⟨t,q⟩:=(show∃t,u=Value.int i t from d);cases q;exact Os PySem.W.kitx_int I.jT Kd e (λz=>nomatch z) h
 |str y=>obtain⟨t,q⟩:=(show∃t,u=Value.str y t from d);cases q;exact Os PySem.W.kitx_str I.jT Kd e (λz=>nomatch z) h
 |ME y=>obtain⟨t,q⟩:=(show∃t,u=Value.float y t from d);cases q;exact Os PySem.W.kitx_float I.jT Kd e (λz=>nomatch z) h
 |@lst a k f=>
  cases(show u=Value.ref a from d);obtain⟨_,_,n,_,g⟩:=(show bC X.prog X.w H s.heap a (.lst k)from I.hok a _ f);exact Os PySem.W.kitx_list I.jT ⟨_,g,rfl⟩ e (λz=>nomatch z) h
 |@xm a D k f=>
  cases(show u=Value.ref a from d);obtain⟨_,_,_,n,_,g⟩:=(show bC X.prog X.w H s.heap a (.xm D (.lst k))from I.hok a _ f);exact Os PySem.W.kitx_list I.jT ⟨_,g,rfl⟩ e (λz=>nomatch z) h
 |@tup a k f=>
  cases(show u=Value.ref a from d);obtain⟨_,_,_,p⟩:=(show bC X.prog X.w H s.heap a (.tup k)from I.hok a _ f);obtain⟨o,g,l,_⟩:=p;exact Os PySem.W.kitx_tuple I.jT ⟨o,g,l⟩ e (λz=>nomatch z) h
 |@dK a j f=>
  cases(show u=Value.ref a from d);obtain⟨_,_,R,_,p⟩:=(show bC X.prog X.w H s.heap a (.dK j)from I.hok a _ f);obtain⟨o,N,P,g,l,_⟩:=p;exact Os PySem.W.kitx_dict I.jT ⟨o,g,l.1⟩ e (λz=>nomatch z) h
 |@dT a j f=>
  cases(show u=Value.ref a from d);obtain⟨_,_,k,_,o,N,P,g,l,_⟩:=(show bC X.prog X.w H s.heap a (.dT j)from I.hok a _ f);exact Os PySem.W.kitx_dict I.jT ⟨o,g,l.1⟩ e (λz=>nomatch z) h
 |@ins a C Y U f r M F m L=>
  cases(show u=Value.ref a from d);obtain⟨T,O,_⟩:=n9 I.hok f;obtain⟨S,J,_⟩:=O.look;exact Os (PySem.W.kitx_own (r.get _) r.hd M F m L) I.jT J e (λz=>nomatch z) h
end
structure cC(k:Nat)(A:Around):Prop where
 hd:A.handled=none
 dp:A.depth+k+120<recursionLimit
 un:A.units+8*k+200<cLine
theorem cC.mono{j k:Nat}{A:Around}(r:cC k A)(h:j<=k):cC j A:=⟨r.hd,by have:=r.dp;lia,by have:=r.un;lia⟩
theorem cC.deeper{k:Nat}{A:Around}(r:cC (k+1) A)(env:Env):cC k (A.deeper env):=
 ⟨r.hd,by have:=r.dp;show A.depth+1+k+120<_;lia,by have:=r.un;show A.units+3+8*k+200<_;lia⟩
theorem xM{A:Around}{C:Addr}{us:List Value}{a:List (Str×Value)}:(A.under (.builtin "type.__call__" ⟨.ref C::us,a⟩)).depth=A.depth+1:=by first|rfl|simp[Around.under,Code.weight,Code.isCreation,Code.isGuard,Code.isCaller,Code.frames,Code.isFrame,guardIds]
theorem xN{A:Around}{C:Addr}{us:List Value}{a:List (Str×Value)}:(A.under (.builtin "type.__call__" ⟨.ref C::us,a⟩)).units=A.units+1:=by first|rfl|simp[Around.under,Code.cUnits,Code.frames,Code.isFrame]
theorem cC.make{k:Nat}{A:Around}(r:cC (k+1) A)(C:Addr)(us:List Value)(a:List (Str×Value)):cC k (A.under (.builtin "type.__call__" ⟨.ref C::us,a⟩)):=
 ⟨r.hd,by have:=r.dp;rw[xM];lia,by have:=r.un;rw[xN];lia⟩
theorem cC.depth{k:Nat}{A:Around}(r:cC k A):A.depth<recursionLimit:=by have:=r.dp;lia
theorem cC.units{k:Nat}{A:Around}(r:cC k A):A.units+64<cLine:=by have:=r.un;lia
noncomputable def AO:TA:=λ_ H Q=>Q [] H
noncomputable def sj(ta:TE)(c:TA):TA:=λa H Q=>ta a H λx e=>c a e λb d=>Q (x::b) d
section
variable{X:Cx}{e:Expr}{es:List Expr}{te:TE}{t:TA}{pos:Pos}
theorem bS:PA X [] AO:=λ_ _ _ _ H Q I h=>Calls.spliced_nil ⟨[],H,I,.nil,h⟩
theorem aR(m:PE X e te)(l:PA X es t)(k:starEach (e::es) X.env=(false,eval e X.env)::starEach es X.env:=by rfl):PA X (e::es) (sj te t):=by intro pos a s b H Q I h;rw[k];show wpAny _ _ (spliced ((false,eval e X.env)::backTo pos (starEach es X.env))) _ _ s;refine Calls.spliced_cons (bD (m a s b H _ I h) λu d ⟨x,q,o,g,j⟩=>?_);exact bD (l pos a d b q _ o j) λr s2 ⟨c,p,n,f,i⟩=>⟨x::c,p,n,.cons g f,i⟩
noncomputable def Wk(t:TA):TE:=λc H Q=>t c H λa b=>a.length<=sizeLine/\∀p,b p=none->Q (.ref p) (upd b p (.tup a))
noncomputable def Wl(t:TA):TE:=λc H Q=>t c H λa b=>a.length<=sizeLine/\∀p,b p=none->Q (.ref p) (upd b p (.lst a))
theorem xO{j}(h:PA X es t):PE X (.Tuple es j pos) (Wk t):=by intro a s g H Q I l;refine wpAny_Tuple_spliced (bD (h pos a s g H _ I l) λk c ⟨i,f,d,r,z,q⟩=>⟨by rw[<-r.length];exact z,?_⟩);have m:f c.heap.objs.size=none:=d.hok.fresh (Bn _);refine⟨.ref c.heap.objs.size,upd f c.heap.objs.size (.tup i),d.laid (t':=c.toks) (λb u e=>Dx _ e) (Bn _) ?_,rfl,q _ m⟩;exact⟨z,k,r,⟨_,KE _ rfl,rfl,_,rfl⟩⟩
theorem xP(h:PA X es t):PE X (.List es pos) (Wl t):=by intro a s g H Q I k;refine wpAny_List_spliced (bD (h pos a s g H _ I k) λj c ⟨i,f,d,r,z,q⟩=>⟨by rw[<-r.length];exact z,?_⟩);have l:f c.heap.objs.size=none:=d.hok.fresh (Bn _);refine⟨.ref c.heap.objs.size,upd f c.heap.objs.size (.lst i),d.laid (t':=c.toks) (λb u e=>Dx _ e) (Bn _) ?_,rfl,q _ l⟩;exact⟨z,j,0,r,KE _ rfl⟩
end
abbrev Sp:=List V->Hp->VK->XK->Prop
abbrev AQ:=List Env->Hp->Shared->XK->Value->Shared->Prop
structure xQ(P:Program)(w:World)(K:Frag)(mg:Str->Option Value)(base:Heap)(A:Around)(outer:List Env)(s:Shared)(H:Hp):Prop where
 frames:A.frames=some outer
 mod:Mod K mg base
 bs:∀b o,base.get? b=some o->s.heap.get? b=some o/\H b=none
 GH:base.objs.size<=s.heap.objs.size
 lU:s.heap.FunFrames base outer
 Le:∀b∈frs outer,H b=none
 hok:iX P w H s.heap
 bare:AllBare s.gens
 tree:P.given.tree=none
noncomputable def CE(a:List Env)(P:Program)(w:World)(H:Hp)(s:Shared)(Q:VK)(u:Value)(s':Shared):Prop:=
 ∃v b,s'.os=s.os/\AllBare s'.gens/\Un (frs a) [] H b s.heap s'.heap/\iX P w b s'.heap/\RelV v u/\Q v b
noncomputable def CR(CX:AQ)(a:List Env)(P:Program)(w:World)(H:Hp)(s:Shared)(Q:VK)(E:XK)(r:Result)(s':Shared):Prop:=
 match r with
 |.ok (.ret u)=>CE a P w H s Q u s'
 |.ok _=>False
 |.error e=>CX a H s E e s'
structure bJ(P:Program)(w:World)(K:Frag)(mg:Str->Option Value)(base:Heap)(CX:AQ)(k:Nat)(f:Addr)(fd:FuncData)(ps:List Str)(sp:Sp):Prop where
 len:∀vs H Q E,sp vs H Q E->vs.length=ps.length
 run:∀(A:Around)(outer:List Env)(s:Shared)(H:Hp)(args:Args)(us:List Value)(vs:List V)(Q:VK)(E:XK),cC k A->xQ P w K mg base A outer s H->BindsTo s fd args (ps.zip us)->Vals vs us->sp vs H Q E->
  codeAny (model P w) A (.call (.ref f) args) (CR CX outer P w H s Q E) s
theorem bJ.imp{P:Program}{w:World}{K:Frag}{c:Str->Option Value}{base:Heap}{CX:AQ}{k:Nat}{f:Addr}{d:FuncData}{ps:List Str}{sp e:Sp}(F:bJ P w K c base CX k f d ps sp)
 (h:∀vs H Q E,e vs H Q E->sp vs H Q E):bJ P w K c base CX k f d ps e:=
 ⟨λvs H Q E q=>F.len vs H Q E (h _ _ _ _ q),λA a s H b g vs Q E l m n i j=>F.run A a s H b g vs Q E l m n i (h _ _ _ _ j)⟩
theorem xQ.make{P:Program}{w:World}{K:Frag}{b:Str->Option Value}{base:Heap}{A:Around}{a:List Env}{s:Shared}{H:Hp}(e:xQ P w K b base A a s H)(C:Addr)(us:List Value)(c:List (Str×Value)):
 xQ P w K b base (A.under (.builtin "type.__call__" ⟨.ref C::us,c⟩)) a s H:=⟨by first|exact e.frames|(simpa[Around.under,Code.envs,Code.isFrame,pushEnvs]using e.frames),e.mod,e.bs,e.GH,e.lU,e.Le,e.hok,e.bare,e.tree⟩
section
variable{X:Cx}{pins:List (Addr×Obj)}{σ:St}{H:Hp}{s s':Shared}
theorem Inv.Sw(I:Inv X pins σ H s):xQ X.prog X.w X.K X.mg X.base X.A X.stack s H:=
 ⟨I.ok.frames,I.ok.mod,I.bs,FV I.ok.GH I.sz,I.stack,I.jB,I.hok,I.bare,I.ok.tree⟩
theorem Inv.after{Q:VK}{u:Value}(I:Inv X pins σ H s)(h:CE X.stack X.prog X.w H s Q u s'):EP X pins σ Q u s':=by obtain⟨v,j,os,a,f,e,r,q⟩:=h;obtain⟨i,g,d,t,c⟩:=s';obtain rfl:c=s.os:=os;exact⟨v,j,I.call (h':=i) (g':=g) (d':=d) (t':=t) (ch:=[]) f e a (λb z=>absurd z (by simp)),r,q⟩
end
noncomputable def Binds(K:Frag)(b:FuncData)(ps:List Str)(ds:List Value):Prop:=
 ∀(s:Shared)(a:List Value),K.In s.heap->(a++ds).length=ps.length->BindsTo s b ⟨a,[]⟩ (ps.zip (a++ds))
theorem Binds.all{K:Frag}{b:FuncData}{ps:List Str}(h:∀us:List Value,us.length=ps.length->bindArgs b ⟨us,[]⟩=pure (ps.zip us)):Binds K b ps []:=λs us _ a=>by rw[NA]at a⊢;exact .of_eq (h us a)
noncomputable def Passes(CX:AQ)(X:Cx)(E:XK):Prop:=∀(a:List (Addr×Obj))(c:St)(H:Hp)(s:Shared)(e:Value)(b:Shared),Inv X a c H s->CX X.stack H s E e b->X.xe e b
section
variable{X:Cx}{CX:AQ}{k:Nat}{f C:Addr}{fd:FuncData}{ps:List Str}{sp:Sp}{AR:List V}{ds:List Value}{E:XK}{x m:Str}{p pos apos:Pos}{e o:Expr}{es:List Expr}{ta:TE}{t:TA}
theorem pG{a:List (Addr×Obj)}{c:St}{H:Hp}{s:Shared}{Q:VK}{us:List Value}{vs:List V}(F:bJ X.prog X.w X.K X.mg X.base CX k f fd ps sp)(i:cC k X.A)(l:Binds X.K fd ps ds)(hd:Vals AR ds)(g:∀H s e s',Inv X a c H s->CX X.stack H s E e s'->X.xe e s')
 (I:Inv X a c H s)(r:Vals vs us)(h:sp (vs++AR) H Q E):wpAny (model X.prog X.w) X.A (call (.ref f) us) (EP X a c Q) X.xe s:=by
 have d:Vals (vs++AR) (us++ds):=r.append hd;have j:(us++ds).length=ps.length:=by rw[<-d.length];exact F.len _ _ _ _ h
 refine wpAny_call (aw (F.run X.A X.stack s H ⟨us,[]⟩ (us++ds) (vs++AR) Q E i I.Sw (l s us I.jT j) d h) λr s' b=>?_);cases r with
 |error e=>exact g H s e s' I b
 |ok n=>
  cases n with
  |ret u=>exact I.after b
  |next=>exact FP b
  |brk=>exact FP b
  |cont=>exact FP b
structure Mk(K:Frag)(C f:Addr):Prop where
 makes:makesIn K C=true
 init:findIn K (.ref C) "__init__"=some (some (.ref f))
 fn:isFn K (.ref f)=true
 kp:keepIn K (.ref C)=true
theorem Di{a:List (Addr×Obj)}{g:St}{H:Hp}{s:Shared}{Q:VK}{us:List Value}{vs:List V}(M:Mk X.K C f)(F:bJ X.prog X.w X.K X.mg X.base CX k f fd ps sp)(q:cC (k+1) X.A)(z:Binds X.K fd ps ds)(hd:Vals AR ds)
 (n:∀H s e s',Inv X a g H s->CX X.stack H s E e s'->X.xe e s')(I:Inv X a g H s)(r:Vals vs us)
 (h:∀x c,H x=none->H c=none->c≠x->sp (.ref x::(vs++AR)) (upd (upd H c (.own x)) x (.ins C c [])) (λv J=>v=.aG/\Q (.ref x) J) E):
 wpAny (model X.prog X.w) X.A (call (.ref C) us) (EP X a g Q) X.xe s:=by
 have j:=h (s.heap.objs.size+1) s.heap.objs.size (I.hok.fresh (cv _)) (I.hok.fresh (Bn _)) (KM (Z2 _));have d:=Inv.made (C:=C) I;have i:Vals (V.ref (s.heap.objs.size+1)::(vs++AR)) (Value.ref (s.heap.objs.size+1)::(us++ds)):=.cons rfl (r.append hd);have y:(Value.ref (s.heap.objs.size+1)::us++ds).length=ps.length:=by have e:=i.length;rw[F.len _ _ _ _ j]at e;exact e.symm
 refine wpAny_call (Dg (f:=f) I.jT M.makes M.init (HI.mp M.fn) (aw (F.run _ X.stack _ _ ⟨Value.ref (s.heap.objs.size+1)::us,[]⟩ (Value.ref (s.heap.objs.size+1)::(us++ds)) _ _ E (q.make C us [])
  (d.Sw.make C us []) (z _ (Value.ref (s.heap.objs.size+1)::us) d.jT y) i j) λr s' b=>?_))
 cases r with
 |error e=>exact n _ _ e s' d b
 |ok B=>
  cases B with
  |ret u=>obtain⟨v,L,D,rv,ev,l⟩:=d.after b;subst ev;exact⟨rv,⟨V.ref (s.heap.objs.size+1),L,D,rfl,l⟩⟩
  |next=>exact FP b
  |brk=>exact FP b
  |cont=>exact FP b
end
section
variable{X:Cx}{CX:AQ}{k:Nat}{f C:Addr}{fd:FuncData}{ps ks:List Str}{sp:Sp}{E:XK}{x m:Str}{p pos apos kpos:Pos}{e o:Expr}{es:List Expr}{kws:List Keyword}{te ta:TE}{t tk:TA}{nm:Option Str}
variable{g:List Value->List Value->List Value}{gV:List V->List V->List V}
end
structure fT(N P:List Str)(sc:Scope):Prop where
 kind:sc.kind=.function
 co:sc.isCoroutine=false
 gen:sc.isGenerator=false
 nd:N.Nodup
 pre:N.take P.length=P
 par:∀x∈P,sc.names.lookup x=some .local\/sc.names.lookup x=some .cell
 M1:∀y∈sc.names,y.2≠.free
theorem sq{b:Str->Option NameKind}{x:Str}:∀{a:List (Str×Value)}{m:Str->Option Value},(∀v,(x,v)∉a)->bindL b a m x=m x
 |[],_,_=>rfl
 |(n,v)::r,m,h=>by
  unfold bindL;rw[sq λw c=>h w (B1 _ c)];split
  .have:x≠n:=by rintro rfl;exact h v BM
   simp[this]
  .rfl
theorem sD{b:Str->Option NameKind}{x:Str}:∀{a:List (Str×Value)}{m:Str->Option Value},(∀v,(x,v)∉a)->bindC b a m x=m x
 |[],_,_=>rfl
 |(n,v)::r,m,h=>by
  unfold bindC;rw[sD λw c=>h w (B1 _ c)];split
  .rfl
  .have:x≠n:=by rintro rfl;exact h v BM
   simp[this]
theorem sE{a:Str->Option NameKind}{x:Str}{v:Value}:∀{P:List Str}{vs:List Value}{i:Nat}{m:Str->Option Value},P.Nodup->P[i]?=some x->vs[i]?=some v->a x=some .local->
 bindL a (P.zip vs) m x=some v
 |[],_,_,_,_,h,_,_=>by simp at h
 |_::_,[],_,_,_,_,h,_=>by simp at h
 |p::P,w::vs,0,m,d,c,b,e=>by simp at c b;subst c;subst b;show bindL a ((p,w)::P.zip vs) m p=_;unfold bindL;rw[sq λv f=>(Jn.mp d).1 (T9 f).1,Do e];simp
 |p::P,w::vs,i+1,m,d,c,b,e=>by show bindL a ((p,w)::P.zip vs) m x=_;unfold bindL;exact sE (i:=i) (Jn.mp d).2 (by simpa using c) (by simpa using b) e
theorem sF{a:Str->Option NameKind}{x:Str}{v:Value}:∀{P:List Str}{vs:List Value}{i:Nat}{m:Str->Option Value},P.Nodup->P[i]?=some x->vs[i]?=some v->a x≠some .local->
 bindC a (P.zip vs) m x=some v
 |[],_,_,_,_,h,_,_=>by simp at h
 |_::_,[],_,_,_,_,h,_=>by simp at h
 |p::P,w::vs,0,m,d,c,b,e=>by simp at c b;subst c;subst b;show bindC a ((p,w)::P.zip vs) m p=_;unfold bindC;rw[sD λv f=>(Jn.mp d).1 (T9 f).1,Bi e];simp
 |p::P,w::vs,i+1,m,d,c,b,e=>by show bindC a ((p,w)::P.zip vs) m x=_;unfold bindC;exact sF (i:=i) (Jn.mp d).2 (by simpa using c) (by simpa using b) e
noncomputable def start(N:List Str)(vs:List V):St:=vs.map some++C8 (N.length -vs.length) none
noncomputable def AS(CX:AQ)(P:Program)(w:World)(K:Frag)(mg:Str->Option Value)(base:Heap)(N:List Str)(b:Str)(a:Scope)(f:Addr)(d:Value)(A:Around)(outer:List Env)(s:Shared)(H:Hp)(E:XK):Cx where
 prog:=P
 w:=w
 K:=K
 mg:=mg
 base:=base
 A:=A.deeper (envOfC b a s.heap.objs.size f d)
 N:=N
 s₀:=s
 H₀:=H
 env:=envOfC b a s.heap.objs.size f d
 outer:=outer
 stack:=envOfC b a s.heap.objs.size f d::outer
 ex:=[]
 calm:=true
 fn:=λ_=>true
 pn:=[]
 xe:=λe g=>wpAny (model P w) (A.deeper (envOfC b a s.heap.objs.size f d)) (leaving (envOfC b a s.heap.objs.size f d) e) (λ_ c=>CX outer H s E e c) (λh c=>CX outer H s E h c) g
theorem vp{sc:Scope}{n:Nat}{x:Str}(h:sc.names.lookup x=some .cell):∃c,(cellsFrom n sc.names []).lookup x=some c:=by have q:=PySem.W.cellsFrom_some sc.names n [] (.inl h);exact PP.mp q
theorem AU{CX:AQ}{P:Program}{w:World}{K:Frag}{I:Str->Option Value}{base:Heap}{N ps:List Str}{l:Str}{d:Scope}{f:Addr}{F:Value}{A:Around}{g:List Env}{s M:Shared}{H:Hp}{E:XK}{us:List Value}{vs:List V}
 (S:fT N ps d)(hd:A.handled=none)(U:A.depth+110<recursionLimit)(j:xQ P w K I base A g s H)(hl:vs.length=ps.length)(r:Vals vs us)
 (x:InCallC s s.heap.objs.size (bindL (envOfC l d s.heap.objs.size f F).kindOf (ps.zip us) λ_=>none) (cellsFrom (s.heap.objs.size+1) d.names []) (bindC (envOfC l d s.heap.objs.size f F).kindOf (ps.zip us) λ_=>none) M):
 Inv (AS CX P w K I base N l d f F A g s H E) [] (start N vs) H M:=by
 have R:ps.length<=N.length:=by have:=Hb Dr S.pre;rw[T1]at this;lia
 obtain⟨D,Y,rfl,B⟩:=x.done;have L:∀b:Addr,b∉(AS CX P w K I base N l d f F A g s H E).ex:=λb z=>absurd (show b∈([]:List Addr)from z) (by simp);refine⟨⟨j.mod,S.kind,rfl,rfl,Bn _,λy z c D m=>?_,λy o=>?_,λy c _ h=>?_,λ_=>hd,Around.frames_deeper j.frames,.inr ⟨rfl,rfl⟩,λb z=>absurd z (L b),j.bs,j.GH,λb _ _=>L b,λb z=>absurd z (L b),j.lU,j.Le,j.tree,λA' Z T J B=>PylongRoom.of (j.mod.nolimit.keeps B) (by rw[J];show A.depth+1+100<_;lia) (SeerAt.of (j.mod.seer.keeps B) j.tree (T.trans (Around.frames_deeper j.frames)) S.gen S.co rfl rfl)⟩,
  rfl,j.bare,Un.kept B,⟨_,x.toInCall.ns,λi y v D m h3=>?_⟩,λy c h=>⟨_,x.cell y c h⟩,j.hok.fresh (Bn _),λy c h=>?_,λp t=>absurd (show p∈([]:List (Addr×Obj))from t) (by simp),j.hok.kept B,?_⟩
 .exact name_of_addr x.apart (Nw D) (Nw m)
 .have o:d.names.lookup y=some .cell\/d.names.lookup y=some .free:=o;rcases o with o|o
  .exact vp o
  .exact absurd rfl (S.M1 _ (Nw o))
 .exact Ts (x.above y c (Nw h))
 .have C:i<vs.length:=by
   unfold start at m;by_cases C:i<vs.length
   .exact C
   .rw[Gc (by simpa using C)]at m;rw[c0]at m;split at m<;>cases m
  have X:vs[i]?=some v:=by
   unfold start at m;rw[On (by simpa using C),IH]at m;cases e:vs[i]? with
   |none=>rw[e]at m;cases m
   |some a=>rw[e]at m;cases m;rfl
  obtain⟨u,O,rv⟩:=r.get X;have t:ps[i]?=some y:=by rw[<-S.pre,List.getElem?_take_of_lt (by lia)];exact D
  have Q:ps.Nodup:=by rw[<-S.pre];exact S.nd.sublist (XR _ _)
  refine⟨u,rv,?_⟩;rcases S.par y (Kx t)with k|k
  .exact .inl ⟨k,sE Q t O k⟩
  .obtain⟨c,e⟩:=vp (n:=s.heap.objs.size+1) k;refine .inr ⟨.inl k,c,e,?_⟩;have q:=x.cell y c e;rw[sF Q t O (by show d.names.lookup y≠_;rw[k];decide)]at q;exact q
 .exact j.hok.fresh (Ts (x.above y c (Nw h)))
 .unfold start;show _=N.length;rw[AN,Fk,Vq];lia
theorem Sy{CX:AQ}{P:Program}{w:World}{K:Frag}{F:Str->Option Value}{base:Heap}{k:Nat}{f:Addr}{name d:Str}{h:Arguments}{i:List Stmt}{a:Scope}{Z kV D Y g ct oc:Value}{an od:Option Addr}
 {O:Array (Option Value)}{N ps:List Str}{sp:Sp}(lk:K.lookup f=some ⟨oc,od,.func (fnOf name d h i a Z kV D Y an g ct),O⟩)(T:codeIn K g d=true)(S:fT N ps a)
 (z:∀vs H Q E,sp vs H Q E->vs.length=ps.length)
 (m:∀(A:Around)(c:List Env)(s:Shared)(H:Hp)(vs:List V)(Q:VK)(E:XK),cC k (A.deeper (envOfC d a s.heap.objs.size f g))->sp vs H Q E->
   ∃t,vd (AS CX P w K F base N d a f g A c s H E) i t/\t {nx:=λ_ H'=>Q .aG H',rt:=Q} (start N vs) H):
 bJ P w K F base CX (k+1) f (fnOf name d h i a Z kV D Y an g ct) ps sp:=by
 refine⟨z,λA c s H args us vs Q E L C hb r X=>?_⟩;have hl:=z _ _ _ _ X;have KX:K.In s.heap:=C.mod.Ld.keeps λb o e=>(C.bs b o e).1;have R:s.heap.NoLimit:=C.mod.nolimit.keeps λb o e=>(C.bs b o e).1;have l:∀y∈ps.zip us,a.names.lookup y.1=some .local\/(a.names.lookup y.1=some .cell/\((cellsFrom (s.heap.objs.size+1) a.names []).lookup y.1).isSome=true):=λ⟨n,v⟩ hy=>by
  rcases S.par n (T9 hy).1 with q|q
  .exact .inl q
  .exact .inr ⟨q,PySem.W.cellsFrom_some _ _ _ (.inl q)⟩
 refine codeAny_call_function L.depth (KX _ _ lk) rfl S.co S.gen rfl (PySem.W.codeRec_of KX T) (hb _ _ _ _ ?_);refine wpAny_newFunctionEnv_cells S.kind l λenv he U x=>?_;subst he;refine⟨R.keeps x.toInCall.keep,codeAny_func ?_⟩;obtain⟨t,ht,hq⟩:=m A c s H vs Q E (L.deeper _) X;have I:Inv (AS CX P w K F base N d a f g A c s H E) [] (start N vs) H U:=AU S L.hd (by have:=L.dp;lia) C hl r x;refine Oy (ht [] U (start N vs) H _ I hq) (λfl M p=>?_) λe M p=>p;have B:∀{j:St}{H':Hp}{v:V}{u:Value},Inv (AS CX P w K F base N d a f g A c s H E) [] j H' M->RelV v u->Q v H'->CE c P w H s Q u M:=
  λ{j H' v u} J rv q=>⟨v,H',J.os,J.bare,J.base,J.hok,rv,q⟩
 cases fl with
 |ret u=>obtain⟨v,j,H',J,rv,q⟩:=p;exact B J rv q
 |next=>obtain⟨j,H',J,q⟩:=p;exact B (v:=V.aG) (u:=Value.none) J rfl q
 |brk=>obtain⟨_,_,_,q⟩:=p;exact FP q
 |cont=>obtain⟨_,_,_,q⟩:=p;exact FP q
section
variable{X:Cx}{x:Str}{p pos:Pos}{e:Expr}{es:List Expr}{t:TA}{id T:String}{r:List V->Hp->VK->Prop}
noncomputable def Zd(r:List V->Hp->VK->Prop)(t:TA):TE:=λa H Q=>t a H λb c=>r b c Q
theorem gz(q:bF X (.builtin id) r)(o:Gl X x)(n:X.mg x=none)(l:bootBuiltins x=some (.builtin id))(u:PA X (e::es) t)(m:x≠"__name__":=by decide)(c:(x==("__debug__":Str))=false:=by decide)
 (he:starEach (e::es) X.env=(false,eval e X.env)::starEach es X.env:=by rfl)(b:(backTo pos (starEach es X.env)).any (·.1)=false:=by rfl):PE X (.Call (.Name x p) (e::es) [] pos) (Zd r t):=by
 intro a s d H Q I h;refine SF (lV I o n l ?_ m c);exact ba (bD (u pos a s d H _ I h) λg i ⟨f,w,v,j,k⟩=>q a i d w f g Q v j k) he b
theorem lZ(q:bF X (.type T) r)(o:Gl X x)(n:X.mg x=none)(l:bootBuiltins x=some (.type T))(u:PA X (e::es) t)(m:x≠"__name__":=by decide)(c:(x==("__debug__":Str))=false:=by decide)
 (he:starEach (e::es) X.env=(false,eval e X.env)::starEach es X.env:=by rfl)(b:(backTo pos (starEach es X.env)).any (·.1)=false:=by rfl):PE X (.Call (.Name x p) (e::es) [] pos) (Zd r t):=by
 intro a s d H Q I h;refine SF (lV I o n l ?_ m c);exact Re (bD (u pos a s d H _ I h) λg i ⟨f,w,v,j,k⟩=>q a i d w f g Q v j k) he b
end
end L2
namespace HT
open PySem PyProof.Rows
section
open PySem.SeqAt
open PySem.AutoSeq1 (wpAny_loadPart')
open PySem.MeetsSeq PySem.MeetsSeq2 PySem.MeetsSeq3
end
section
variable{prog:Program}{w:World}{A:Around}{E:Value->Shared->Prop}{s:Shared}
theorem Hl{t b:Addr}{vs a:List Value}{Q:Value->Shared->Prop}(r:IsTup s.heap t vs.toArray)(u:IsTup s.heap b a.toArray)(o:vs≠[])
 (x:a=[]->Q (.ref t) s)(v:a≠[]->Q (.ref s.heap.objs.size) {s with heap:=s.heap.push {cls:=.type "tuple",data:=.seq (vs++a).toArray}})
 (hsz:vs.length+a.length<=sizeLine):wpAny (model prog w) A (binaryOp .Add (.ref t) (.ref b)) Q E s:=by
 obtain⟨⟨cls,q,data,l⟩,j,p,n,hd⟩:=id r;obtain⟨⟨y,h,k,d⟩,c,g,m,f⟩:=id u;simp only at p hd g f;subst p hd g f;have e:vs.toArray++a.toArray=(vs++a).toArray:=by simp
 by_cases i:a=[]
 .exact concat_meets ⟨_,j,rfl⟩ ⟨_,c,rfl⟩ noFill_tuple_add seq_tuple_add PySem.F.slot_tuple_add PySem.F.entry_tuple_add (PySem.F.args_tuple_add_2 _ _)
   (tuple_addW1 t b vs.toArray a.toArray n m q h l d (by simpa using o) (by simp[i])) ⟨j,c,x i⟩
 .refine concat_meets ⟨_,j,rfl⟩ ⟨_,c,rfl⟩ noFill_tuple_add seq_tuple_add PySem.F.slot_tuple_add PySem.F.entry_tuple_add (PySem.F.args_tuple_add_2 _ _)
   (tuple_addW2 t b vs.toArray a.toArray n m q h l d (by simpa using o) (by simpa using i) (by rw[Fn,Fn];exact hsz)) ⟨j,c,?_⟩
  rw[e];exact v i
noncomputable def bX(n d:Nat):Option Int->Nat
 |none=>d
 |some v=>if v<0 then(v+(n:Int)).toNat else min v.toNat n
theorem M3(n d:Nat)(hd:d<=n)(o:Option Int):bX n d o<=n:=by
 cases o with
 |none=>exact hd
 |some v=>
  show(if v<0 then(v+(n:Int)).toNat else min v.toNat n)<=n;by_cases a:v<0
  .rw[Do a];lia
  .rw[Bi a];exact Nat.min_le_right _ _
theorem zf(v:Int)(n d:Nat):(if v<0 then max (v+(n:Int)) 0 else min v (n:Int))=((bX n d (some v):Nat):Int):=by
 show(if v<0 then max (v+(n:Int)) 0 else min v (n:Int))=(((if v<0 then(v+(n:Int)).toNat else min v.toNat n):Nat):Int);by_cases a:v<0
 .simp only[Do a];lia
 .simp only[Bi a];lia
theorem xR(a b:Option Int)(n:Nat):Builtin.Slice.sliceAdjust a b 1 (n:Int)=(((bX n 0 a:Nat):Int),((bX n n b:Nat):Int)):=by
 have c:¬((1:Int)<0):=by lia
 unfold Builtin.Slice.sliceAdjust;simp only[c,if_false];refine Prod.ext ?_ ?_
 .cases a with
  |none=>rfl
  |some v=>exact zf v n 0
 .cases b with
  |none=>rfl
  |some v=>exact zf v n n
theorem xS(i j:Nat):Builtin.Slice.slicePlaces (i:Int) (j:Int) 1=j -i:=by
 unfold Builtin.Slice.slicePlaces;have a:(1:Int)>0:=by lia
 simp only[a,cc,Int.ediv_one];split<;>lia
theorem pH{v:Value}{o:Option Int}{Q:Option Int->Shared->Prop}(p:IsPart v o)(h:Q o s):wpAny (model prog w) A (Builtin.Slice.slicePartIndex v) Q E s:=by
 cases p with
 |none=>exact slicePart_none h
 |int i t=>exact slicePart_int h
theorem l7{g:Addr}{f e:Value}{a c:Option Int}{n:Nat}{Q:Int×Int×Nat->Shared->Prop}(j:s.heap.IsSliceOf g f e .none)(pl:IsPart f a)(i:IsPart e c)
 (h:Q (((bX n 0 a:Nat):Int),1,bX n n c -bX n 0 a) s):wpAny (model prog w) A (Builtin.Slice.sliceApplied (.ref g) (pure (n:Int))) Q E s:=by
 obtain⟨l,b,k,d⟩:=id j;unfold Builtin.Slice.sliceApplied Builtin.Slice.sliceFields;refine Da (Da (wpAny_field b d (x:=f) rfl (Da (wpAny_field b d (x:=e) rfl (Da (wpAny_field b d (x:=.none) rfl (GM ?_)))))));refine Da (slicePart_none ?_);show wpAny _ _ (if((1:Int)==0)=true then _ else _) _ _ s;rw[Bi (by decide)];refine Da (pH pl (Da (pH i (Da (GM ?_)))));show wpAny _ _ (match Builtin.Slice.sliceAdjust a c 1 (n:Int)with|(a,c)=>pure (a,(1:Int),Builtin.Slice.slicePlaces a c 1)) _ _ s;rw[xR a c n];show wpAny _ _ (pure (((bX n 0 a:Nat):Int),(1:Int),Builtin.Slice.slicePlaces ((bX n 0 a:Nat):Int) ((bX n n c:Nat):Int) 1)) _ _ s;rw[xS];exact GM h
theorem Dj(a:Array Value)(i k:Nat):((L0 k).filterMap λ(m:Nat)=>a[((i:Int)+(m:Int)*1).toNat]?).toArray=((a.toList.drop i).take k).toArray:=by
 have e:(λ(m:Nat)=>a[((i:Int)+(m:Int)*1).toNat]?)=λm=>a[i+m]?:=by
  funext m;have:((i:Int)+(m:Int)*1).toNat=i+m:=by lia
  rw[this]
 rw[e];have:=pick_run a i k;rw[List.filterMap_map]at this;have b:((λx=>a[x]?)∘λx=>i+x)=λm=>a[i+m]?:=rfl;rw[b]at this;rw[this]
theorem kQ{t e:Addr}{items:Array Value}{l k:Value}{a b:Option Int}{Q:Value->Shared->Prop}(d:IsTup s.heap t items)(n:s.heap.IsSliceOf e l k .none)(pl:IsPart l a)(o:IsPart k b)
 (r:¬(bX items.size 0 a=0/\bX items.size items.size b=items.size))
 (h:Q (.ref s.heap.objs.size) {s with heap:=s.heap.push {cls:=.type "tuple",data:=.seq ((items.toList.drop (bX items.size 0 a)).take (bX items.size items.size b -bX items.size 0 a)).toArray}})
 (hsz:items.size<=sizeLine):wpAny (model prog w) A (getItem (.ref t) (.ref e)) Q E s:=by
 have c:sizeOk (.seq ((items.toList.drop (bX items.size 0 a)).take (bX items.size items.size b -bX items.size 0 a)).toArray):=by show((items.toList.drop (bX items.size 0 a)).take (bX items.size items.size b -bX items.size 0 a)).toArray.size<=sizeLine;rw[Fn,T1,Rj,J9];lia
 have y:bX items.size items.size b<=items.size:=M3 _ _ (Bn _) b;obtain⟨p,f,i,u⟩:=id n;have j:s.TypeIs (.ref e) "slice":=⟨p,f,i⟩;unfold getItem
 try with_reducible refine cq ?_
 first|refine Da (GM ?_)|skip
 refine Da (wpAny_sequenceKey d.typeIs (by decide) ?_);refine Da (wpAny_callSpecial?_slot (name:=Str.ofString "__getitem__") d.typeIs X1
  (wpAny_call_entry X1 d.typeIs entry_tuple_getitem ?_ (args_tuple_getitem _ _)))
 show wpAny _ _ (Builtin.Tuple.tupleItemsOf (.ref t)>>=_) _ _ s;refine Da (tupleItemsOf_ d ?_);refine Da (wpAny_typeOf j ?_);rw[Do (by decide)];refine Da (l7 n pl o ?_);have g:¬((((bX items.size 0 a:Nat):Int)==0&&(1:Int)==1&&(bX items.size items.size b -bX items.size 0 a)==items.size)=true):=by intro q;rw[AC,AC]at q;have x:((bX items.size 0 a:Nat):Int)=0:=eq_of_beq q.1.1;have v:bX items.size items.size b -bX items.size 0 a=items.size:=eq_of_beq q.2;exact r ⟨by lia,by lia⟩
 show wpAny _ _ (if(((bX items.size 0 a:Nat):Int)==0&&(1:Int)==1&&(bX items.size items.size b -bX items.size 0 a)==items.size)=true then _ else _) _ _ s;rw[Bi g,Dj]
 first
  |exact Da (m:=Builtin.Tuple.tupleExact _) (Pv (GM ⟨_,rfl,GM h⟩) c)
  |exact Da (m:=Builtin.Tuple.tupleExact _) (Pv (Da (GM (GM ⟨_,rfl,GM h⟩))) c)
  |exact Da (Da (m:=Builtin.Tuple.tupleExact _) (Pv (GM (GM ⟨_,rfl,GM h⟩)) c))
  |exact Da (Da (m:=Builtin.Tuple.tupleExact _) (Pv (GM ⟨_,rfl,GM h⟩) c))
end
end HT
namespace L2
open PySem PySem.Spec PyProof.Rows
abbrev TO:=St->Hp->(Option Int->Hp->Prop)->Prop
noncomputable def PO(X:Cx)(e:Option Expr)(t:TO):Prop:=
 ∀(a:List (Addr×Obj))(s:Shared)(b:St)(H:Hp)(Q:Option Int->Hp->Prop),Inv X a b H s->t b H Q->
  wpAny (model X.prog X.w) X.A (evalPart e X.env) (λu d=>∃o c,Inv X a b c d/\IsPart u o/\Q o c) X.xe s
noncomputable def Ho:TO:=λ_ H Q=>Q none H
noncomputable def Sz(t:TE):TO:=λa H Q=>t a H λx b=>∃i,x=.int i/\Q (some i) b
theorem intsAre_of{a:List Int}:∀{us:List Value},Vals (a.map V.int) us->IntsAre us a:=by
 induction a with
 |nil=>intro us r;rw[cf]at r;cases r;exact .nil
 |cons n a d=>
  intro us r;rw[Hn]at r;cases r with
  |cons c b=>obtain⟨t,e⟩:=c;subst e;exact .cons n t (d b)
section
variable{X:Cx}{e:Expr}{te:TE}{lo hi:Option Expr}{tl th:TO}{pos p2:Pos}
theorem Hq:PO X none Ho:=by intro a s b H Q I h;rw[evalPart_none];exact GM ⟨none,H,I,.none,h⟩
theorem Hr(h:PE X e te):PO X (some e) (Sz te):=by intro a s b H Q I f;rw[evalPart_some];refine bD (h a s b H _ I f) λu k ⟨x,j,g,c,d⟩=>?_;obtain⟨i,rfl,q⟩:=d;obtain⟨t,rfl⟩:=c;exact⟨some i,j,g,.int i t,q⟩
noncomputable def Lk(X:Cx)(r:V->Option Int->Option Int->Hp->VK->Prop):Prop:=
 ∀(a:List (Addr×Obj))(s:Shared)(b:St)(H:Hp)(x:V)(v d c:Value)(lo hi:Option Int)(f:Addr)(Q:VK),Inv X a b H s->RelV x v->s.heap.IsSliceOf f d c .none->IsPart d lo->IsPart c hi->r x lo hi H Q->
  ∃T g,typeLookup (.type T) "__getitem__"=pure (some (.builtin g))/\s.TypeIs v T/\wpAny (model X.prog X.w) X.A (getItem v (.ref f)) (EP X a b Q) X.xe s
theorem Lk.or{r i:V->Option Int->Option Int->Hp->VK->Prop}(h:Lk X r)(h':Lk X i):Lk X (λx lo hi H Q=>r x lo hi H Q\/i x lo hi H Q):=by
 intro a s b H x v d c lo hi f Q I g l k j q;rcases q with q|q
 .exact h a s b H x v d c lo hi f Q I g l k j q
 .exact h' a s b H x v d c lo hi f Q I g l k j q
noncomputable def tSl(r:V->Option Int->Option Int->Hp->VK->Prop)(te:TE)(tl th:TO):TE:=λa H Q=>te a H λx d=>tl a d λl c=>th a c λu b=>r x l u b Q
theorem vq{r:V->Option Int->Option Int->Hp->VK->Prop}(z:Lk X r)(he:PE X e te)(B:PO X lo tl)(t:PO X hi th):PE X (.Subscript e (.Slice lo hi none p2) pos) (tSl r te tl th):=by intro a s c H Q I h;refine Subscript_ (bD (he a s c H _ I h) λv i ⟨x,M,K,j,n⟩=>?_);refine wpAny_Slice (bD (B a i c M _ K n) λf s2 ⟨l,L,J,p,m⟩=>bD (t a s2 c L _ J m) λd s3 ⟨u,g,F,o,k⟩=>?_);rw[evalPart_none];refine GM ?_;have E:Inv X a c g {s3 with heap:=s3.heap.push {cls:=.type "slice",data:=.fields #[f,d,.none]}}:=F.kept (t':=s3.toks) λb N q=>Dx _ q;obtain⟨T,O,D,y,C⟩:=z a {s3 with heap:=s3.heap.push {cls:=.type "slice",data:=.fields #[f,d,.none]}} c g x v f d l u s3.heap.objs.size Q E j (Heap.IsSliceOf.new ..) p o k;show wpAny (model X.prog X.w) X.A (subscriptTail e (.Slice lo hi none p2) v (.ref s3.heap.objs.size)) (EP X a c Q) X.xe {s3 with heap:=s3.heap.push {cls:=.type "slice",data:=.fields #[f,d,.none]}};exact tail_any (ops:=[.ref s3.heap.objs.size,v]) y D C (by with_unfolding_all rfl)
noncomputable def vt(a:List V)(lo hi:Option Int):List V:=(a.drop (HT.bX a.length 0 lo)).take (HT.bX a.length a.length hi -HT.bX a.length 0 lo)
theorem mY(a:List V)(lo hi:Option Int):(vt a lo hi).length<=a.length:=by unfold vt;rw[T1,Rj];lia
noncomputable def Wm(K:Frag):V->Option Int->Option Int->Hp->VK->Prop:=λx lo hi H Q=>∃a b,x=.ref a/\jU K H a b/\
 ¬(HT.bX b.length 0 lo=0/\HT.bX b.length b.length hi=b.length)/\∀p,H p=none->Q (.ref p) (upd H p (.tup (vt b lo hi)))
theorem M4:Lk X (Wm X.K):=by
 intro g s t H x v w u lo hi y Q I j p l k h;obtain⟨a,d,rfl,m,n,q⟩:=h;cases j;obtain⟨f,r,i,hz⟩:=I.tuple m;have c:f.toArray.size=d.length:=by rw[Fn];exact r.length.symm
 refine⟨"tuple",_,X1.lookup,i.typeIs,?_⟩;refine HT.kQ i p l k (by rw[c];exact n) ?_ (by rw[c];exact hz);rw[c];refine⟨.ref s.heap.objs.size,_,I.laid (t':=s.toks) (o:=.tup (vt d lo hi)) (λb z q=>Dx _ q) (Bn _) ?_,rfl,q _ (I.hok.fresh (Bn _))⟩;exact⟨FV (mY d lo hi) hz,_,(r.drop (HT.bX d.length 0 lo)).take (HT.bX d.length d.length hi -HT.bX d.length 0 lo),IsTup.new _ _⟩
noncomputable def SA(K:Frag):R2:=λx y H Q=>∃a b d c,x=.ref a/\y=.ref b/\jU K H a d/\jU K H b c/\d≠[]/\d.length+c.length<=sizeLine/\
 (c=[]->Q (.ref a) H)/\(c≠[]->∀p,H p=none->Q (.ref p) (upd H p (.tup (d++c))))
theorem Vals.tN{a:List V}{us:List Value}(r:Vals a us):us=[]↔a=[]:=by
 cases r with
 |nil=>simp
 |cons _ _=>simp
theorem Ht:kL X (binaryOp .Add) (SA X.K):=by intro f s C H x y v u Q I l k h;obtain⟨a,b,j,i,rfl,rfl,B,A,t,hz,n,m⟩:=h;cases l;cases k;obtain⟨r,d,p,_⟩:=I.tuple B;obtain⟨g,c,p2,_⟩:=I.tuple A;refine HT.Hl p p2 (λz=>t (d.tN.mp z)) (λz=>⟨.ref a,H,I,rfl,n (c.tN.mp z)⟩) (λz=>?_) (by rw[<-d.length,<-c.length];exact hz);refine⟨.ref s.heap.objs.size,_,I.laid (t':=s.toks) (o:=.tup (j++i)) (λb D q=>Dx _ q) (Bn _) ?_,rfl,m (λw=>z (c.tN.mpr w)) _ (I.hok.fresh (Bn _))⟩;exact⟨by rw[AN];exact hz,_,d.append c,IsTup.new _ _⟩
end
noncomputable def Dk(n:Nat)(i:Int):Option Nat:=if 0<=i then(if i<n then some i.toNat else none)else if-(n:Int)<=i then some (i+n).toNat else none
noncomputable def iS{α:Type}(a:List α)(i:Int):Option α:=(Dk a.length i).bind λj=>a[j]?
theorem Hu{n:Nat}{i:Int}{j:Nat}(h:Dk n i=some j):seqIndex? i n=some j/\j<n/\-(n:Int)<=i/\i<n:=by
 unfold Dk at h;by_cases b:0<=i
 .rw[Do b]at h;by_cases a:i<n
  .rw[Do a]at h;have e:i.toNat=j:=Ha h;exact⟨by rw[seqIndex_of b a,e],by lia,by lia,a⟩
  .rw[Bi a]at h;cases h
 .rw[Bi b]at h;by_cases a: -(n:Int)<=i
  .rw[Do a]at h;have e:(i+n).toNat=j:=Ha h;exact⟨by rw[seqIndex_neg (by lia) a,e],by lia,a,by lia⟩
  .rw[Bi a]at h;cases h
theorem tO{α:Type}{a:List α}{i:Int}{v:α}(h:iS a i=some v):∃j,seqIndex? i a.length=some j/\a[j]?=some v/\j<a.length/\-(a.length:Int)<=i/\i<a.length:=by
 unfold iS at h;cases e:Dk a.length i with
 |none=>rw[e]at h;cases h
 |some j=>rw[e]at h;obtain⟨f,d,c,b⟩:=Hu e;exact⟨j,f,h,d,c,b⟩
theorem tQ{α:Type}{a:List α}{j:Nat}{v:α}(h:a[j]?=some v):iS a (j:Int)=some v:=by
 have b:j<a.length:=(GT.mp h).1;have e:Dk a.length (j:Int)=some j:=by unfold Dk;rw[Do (by lia),Do (by lia)];simp
 unfold iS;rw[e];exact h
noncomputable def kR(b:Expr):Prop:=∀o i,subscripted b false o i=operate [o,i] (getItem o i)
noncomputable def Hv(X:Cx)(r:R2):Prop:=
 ∀(c a:Expr)(b:List (Addr×Obj))(s:Shared)(d:St)(H:Hp)(x y:V)(v u:Value)(Q:VK),Inv X b d H s->RelV x v->RelV y u->r x y H Q->
  subscripted a false v u=operate [v,u] (getItem v u)->wpAny (model X.prog X.w) X.A (subscriptTail c a v u) (EP X b d Q) X.xe s
noncomputable def Wn(X:Cx)(e:String)(r:V->List V->Hp->VK->Prop):Prop:=
 ∀(a:List (Addr×Obj))(s:Shared)(b:St)(H:Hp)(x:V)(c:List V)(v:Value)(d:List Value)(Q:VK),Inv X a b H s->RelV x v->Vals c d->r x c H Q->
  wpAny (model X.prog X.w) X.A (call (.builtin e) (v::d)) (EP X a b Q) X.xe s
section
variable{X:Cx}{a b:Expr}{ta tb:TE}{pos:Pos}
theorem Hv.or{r j:R2}(h:Hv X r)(h':Hv X j):Hv X (λx y H Q=>r x y H Q\/j x y H Q):=by
 intro c d e s f H x y v u Q I i g q k;rcases q with q|q
 .exact h c d e s f H x y v u Q I i g q k
 .exact h' c d e s f H x y v u Q I i g q k
theorem Dl{r:R2}(i:Hv X r)(k:PE X a ta)(j:PE X b tb)(g:kR b):PE X (.Subscript a b pos) (tOp r ta tb):=by intro c s d H Q I h;exact Subscript_ (Wh k j I h λv u s2 x y m l f e q=>i a b c s2 d m x y v u Q l f e q (g _ _))
noncomputable def SD(K:Frag):R2:=λx y H Q=>∃p c i v,x=.ref p/\y=.int i/\j3 K H p c/\iS c i=some v/\Q v H
noncomputable def SG(K:Frag):R2:=λx y H Q=>∃p c i v,x=.ref p/\y=.int i/\jU K H p c/\iS c i=some v/\Q v H
noncomputable def SH:R2:=λx y H Q=>∃z i c,x=.str z/\y=.int i/\z.length<=sizeLine/\iS z.cps.toList i=some c/\Q (.str ⟨#[c]⟩) H
theorem Hw:Hv X (SD X.K):=by
 intro f g c s o H x y v u Q I F E h A;obtain⟨p,R,i,z,rfl,rfl,J,M,q⟩:=h;cases F;obtain⟨t,rfl⟩:=E;obtain⟨m,r,l,hz⟩:=I.list J;obtain⟨j,e,P,T,O,N⟩:=tO M;obtain⟨w,C,k⟩:=r.get P;have L:=r.length;have S:=pD;have d:EP X c o Q w s:=⟨z,H,I,k,q⟩;by_cases B:0<=i
 .have n:i.toNat=j:=by rw[seqIndex_of B N]at e;exact Ha e
  exact item_listR l.isList B (by lia) (by rw[n];simpa using C) d A
 .have n:(i+(m.toArray.size:Int)).toNat=j:=by rw[seqIndex_neg (by lia) O]at e;rw[Fn,<-L];exact Ha e
  exact subscriptTail_builtinR (x:=w) l.isList.typeIs slot_list_getitem.lookup
   (wpAny_getItem_list_neg (Q:=λr D=>r=w/\EP X c o Q r D) l.isList (by lia) (by rw[Fn]<;>lia) (by lia) (by rw[n];simpa using C) ⟨rfl,d⟩) A
theorem M5:Hv X (SG X.K):=by
 intro d e c s k H x y v u Q I o n h B;obtain⟨p,M,i,z,rfl,rfl,C,E,q⟩:=h;cases o;obtain⟨t,rfl⟩:=n;obtain⟨A,r,l,hz⟩:=I.tuple C;obtain⟨j,J,F,R,P,O⟩:=tO E;obtain⟨w,L,f⟩:=r.get F;have D:=r.length;have N:=pD;have g:EP X c k Q w s:=⟨z,H,I,f,q⟩;exact subscriptTail_builtinR (x:=w) l.typeIs slot_tuple_getitem.lookup
  (getItem_tuple (j:=j) (Q:=λr m=>r=w/\EP X c k Q r m) l (by lia) (by lia) (by rw[Fn,<-D];exact J) (by simpa using L) ⟨rfl,g⟩) B
theorem M6:Hv X SH:=by
 intro d e f s C H x y v u Q I l k h m;obtain⟨z,i,c,rfl,rfl,hz,o,q⟩:=h;obtain⟨t,rfl⟩:=l;obtain⟨D,rfl⟩:=k;obtain⟨j,g,w,F,r,p⟩:=tO o;have n:z.cps.toList.length=z.length:=by simp[Str.length]
 rw[n]at g r p;have E:=pD;exact tail_any (typeIs_str s z t) slot_str_getitem.lookup (getItem_str (c:=c) (by have B:decide (i< -(2^63:Int))=false:=DL (by lia);have A:decide (i>=2^63)=false:=DL (by lia);rw[B,A,QR]) (by rw[g];simpa using w) ⟨.str ⟨#[c]⟩,H,I.tok _,⟨_,rfl⟩,q⟩) m
noncomputable def rIx(K:Frag):R2:=λx y H Q=>SD K x y H Q\/SG K x y H Q\/SH x y H Q
theorem xT:Hv X (rIx X.K):=Hw.or (M5.or M6)
theorem Inv.lst{d:List (Addr×Obj)}{g:St}{H:Hp}{s:Shared}{p:Addr}{f:List V}(I:Inv X d g H s)(h:H p=some (.lst f)):
 ∃(c:List Value)(n:Nat),Vals f c/\s.heap.get? p=some {cls:=.type "list",data:=.seq c.toArray n}/\f.length<=sizeLine:=by
 obtain⟨z,c,n,r,e⟩:=I.hok p _ h;exact⟨c,n,r,e,z⟩
theorem kT(c d:Option Int)(n:Nat):(sliceBounds c d none n).1=((HT.bX n 0 c:Nat):Int)/\(sliceBounds c d none n).2.1=((HT.bX n n d:Nat):Int)/\(sliceBounds c d none n).2.2=1:=by
 refine⟨?_,?_,rfl⟩
 .cases c with
  |none=>simp[sliceBounds,HT.bX]
  |some i=>
   simp only[sliceBounds,HT.bX,WW,show(1:Int)>0 by decide,cc];by_cases h:i<0
   .simp only[h,cc]<;>lia
   .simp only[h,if_false]<;>lia
 .cases d with
  |none=>simp[sliceBounds,HT.bX]
  |some i=>
   simp only[sliceBounds,HT.bX,WW,show(1:Int)>0 by decide,cc];by_cases h:i<0
   .simp only[h,cc]<;>lia
   .simp only[h,if_false]<;>lia
theorem rG(c:List Value)(d e:Option Int):slicePick c.toArray d e none=((c.drop (HT.bX c.length 0 d)).take (HT.bX c.length c.length e -HT.bX c.length 0 d)).toArray:=by obtain⟨h,g,f⟩:=kT d e c.toArray.size;unfold slicePick;rw[h,g,f];simp only[sliceRange_one,pick_run,Fn]<;>rfl
noncomputable def Wo(K:Frag):V->Option Int->Option Int->Hp->VK->Prop:=λx d e H Q=>∃a c,x=.ref a/\j3 K H a c/\∀p,H p=none->Q (.ref p) (upd H p (.lst (vt c d e)))
theorem Hx:Lk X (Wo X.K):=by intro g s t H x v w u e f y Q I j p l k h;obtain⟨a,c,rfl,n,q⟩:=h;cases j;obtain⟨m,r,i,hz⟩:=I.list n;have d:=r.length;refine⟨"list",_,slot_list_getitem.lookup,i.isList.typeIs,?_⟩;refine wpAny_getItem_list_slice i.isList p l k .none (by simp) ?_ (by rw[Fn]<;>lia);rw[rG,<-d];refine⟨.ref s.heap.objs.size,_,I.laid (t':=s.toks) (o:=.lst (vt c e f)) (λb z q=>Dx _ q) (Bn _) ?_,rfl,q _ (I.hok.fresh (Bn _))⟩;exact⟨FV (mY c e f) hz,_,0,(r.drop (HT.bX c.length 0 e)).take (HT.bX c.length c.length f -HT.bX c.length 0 e),KE _ rfl⟩
noncomputable def kU:V->Bool
 |.aG=>true
 |.bl _=>true
 |.int _=>true
 |.str _=>true
 |_=>false
noncomputable def Ll:V->V->Bool
 |.aG,.aG=>true
 |.bl a,.bl b=>a==b
 |.bl a,.int b=>(if a then 1 else 0)==b
 |.int a,.bl b=>a==(if b then 1 else 0)
 |.int a,.int b=>a==b
 |.str a,.str b=>a==b
 |_,_=>false
theorem M7{A:Around}{s:Shared}{y x:V}{u v:Value}(e:RelV y u)(c:RelV x v)(g:kU y=true)(f:kU x=true):SeqAt.EqAt A s u v (Ll y x):=by
 cases y with
 |aG=>
  cases e;cases x with
  |aG=>cases c;exact SeqAt.EqAt.same _
  |bl b=>cases c;exact SeqAt.EqAt.none_bool b
  |int b=>obtain⟨t,rfl⟩:=c;exact SeqAt.EqAt.none_int b t
  |str b=>obtain⟨t,rfl⟩:=c;exact SeqAt.EqAt.none_str b t
  |_=>exact absurd (show false=true from f) GE
 |bl a=>
  cases e;cases x with
  |aG=>cases c;exact SeqAt.EqAt.bool_none a
  |bl b=>cases c;exact SeqAt.EqAt.bool_bool a b
  |int b=>obtain⟨t,rfl⟩:=c;exact SeqAt.EqAt.bool_int a b t
  |str b=>obtain⟨t,rfl⟩:=c;exact SeqAt.EqAt.bool_str a b t
  |_=>exact absurd (show false=true from f) GE
 |int a=>
  obtain⟨d,rfl⟩:=e;cases x with
  |aG=>cases c;exact SeqAt.EqAt.int_none a d
  |bl b=>cases c;exact SeqAt.EqAt.int_bool a d b
  |int b=>obtain⟨t,rfl⟩:=c;exact SeqAt.EqAt.int_int a d b t
  |str b=>obtain⟨t,rfl⟩:=c;exact SeqAt.EqAt.int_str a d b t
  |_=>exact absurd (show false=true from f) GE
 |str a=>
  obtain⟨d,rfl⟩:=e;cases x with
  |aG=>cases c;exact SeqAt.EqAt.str_none a d
  |bl b=>cases c;exact SeqAt.EqAt.str_bool a d b
  |int b=>obtain⟨t,rfl⟩:=c;exact SeqAt.EqAt.str_int a d b t
  |str b=>obtain⟨t,rfl⟩:=c;exact SeqAt.EqAt.str_str a d b t
  |_=>exact absurd (show false=true from f) GE
 |_=>exact absurd (show false=true from g) GE
noncomputable def Hy(x:V)(u:Value):Bool:=match u with
 |.none=>Ll .aG x
 |.bool b=>Ll (.bl b) x
 |.int i _=>Ll (.int i) x
 |.str z _=>Ll (.str z) x
 |_=>false
theorem Dp{x y:V}{u:Value}(r:RelV y u)(f:kU y=true):Hy x u=Ll y x:=by
 cases y with
 |aG=>cases r;rfl
 |bl b=>cases r;rfl
 |int i=>obtain⟨t,rfl⟩:=r;rfl
 |str z=>obtain⟨t,rfl⟩:=r;rfl
 |_=>exact absurd (show false=true from f) GE
theorem tR{x:V}:∀{c:List V}{us:List Value},Vals c us->c.all kU=true->us.any (Hy x)=c.any λy=>Ll y x
 |_,_,.nil,_=>rfl
 |y::c,u::us,.cons r t,f=>by rw[CB,AC]at f;rw[LR,LR,Dp r f.1,tR t f.2]
theorem pI{A:Around}{s:Shared}{x:V}{v:Value}(e:RelV x v)(g:kU x=true):∀{d:List V}{us:List Value},Vals d us->d.all kU=true->∀u∈us,SeqAt.EqAt A s u v (Hy x u)
 |_,_,.nil,_=>λu c=>by cases c
 |y::d,u::us,.cons r t,f=>λh c=>by
  rw[CB,AC]at f;rcases FC.mp c with rfl|c
  .rw[Dp r f.1];exact M7 r e f.1 g
  .exact pI e g t f.2 h c
noncomputable def Vk(x:V)(c:List V):Bool:=c.any λy=>Ll y x
noncomputable def rIn(K:Frag)(d:Bool):R2:=λx y H Q=>∃p c,y=.ref p/\(j3 K H p c\/jU K H p c)/\kU x=true/\c.all kU=true/\Q (.bl (if d then !Vk x c else Vk x c)) H
theorem sG:kL X (compareOp .In) (rIn X.K false):=by
 intro j s m H x y v u Q I i l h;obtain⟨p,n,rfl,d,k,e,q⟩:=h;cases l;rcases d with d|d
 .obtain⟨c,r,f,hz⟩:=I.list d;refine SeqAt.in_listAt (Hy x) f.isList (λw g=>pI i k r e w (by simpa using g)) ⟨.bl _,H,I,rfl,?_⟩;rw[show c.toArray.any (Hy x)=c.any (Hy x) by simp,tR r e];exact q
 .obtain⟨c,r,f,hz⟩:=I.tuple d;refine SeqAt.in_tupleAt (Hy x) f (λw g=>pI i k r e w (by simpa using g)) ⟨.bl _,H,I,rfl,?_⟩;rw[show c.toArray.any (Hy x)=c.any (Hy x) by simp,tR r e];exact q
theorem ir:bF X (.builtin "len") (λj H Q=>∃p d,j=[.ref p]/\(j3 X.K H p d\/jU X.K H p d)/\Q (.int d.length) H):=by
 intro k s m H j n Q I r h;obtain⟨p,d,rfl,e,q⟩:=h;obtain⟨u,rfl,l⟩:=vals1 r;cases l;have o:=pD;rcases e with e|e
 .obtain⟨i,f,g,hz⟩:=I.list e;have c:=f.length;exact Calls.call_len_list g.isList (by simp only[Fn]<;>lia) ⟨.int d.length,H,I.tok _,⟨s.toks+1,by rw[Fn,c]⟩,q⟩
 .obtain⟨i,f,g,hz⟩:=I.tuple e;have c:=f.length;exact len_tuple g (by simp only[Fn]<;>lia) ⟨.int d.length,H,I.tok _,⟨s.toks+1,by rw[Fn,c]⟩,q⟩
theorem tS:bF X (.builtin "len") (λc H Q=>∃z,c=[.str z]/\z.length<=sizeLine/\Q (.int z.length) H):=by intro d s e H c f Q I r h;obtain⟨z,rfl,hz,q⟩:=h;obtain⟨u,rfl,t,rfl⟩:=vals1 r;have g:=pD;exact len_str (by lia) ⟨.int z.length,H,I.tok _,⟨_,rfl⟩,q⟩
theorem kW:bF X (.type "list") (λA H Q=>∃p f,A=[.ref p]/\(j3 X.K H p f\/jU X.K H p f)/\∀l,H l=none->Q (.ref l) (upd H l (.lst f))):=by
 intro j s C H A E Q I r h;obtain⟨p,f,rfl,m,q⟩:=h;obtain⟨u,rfl,D⟩:=vals1 r;cases D;have v:∀(c:List Value),Vals f c->f.length<=sizeLine->∀(d:Heap)(i:Nat),(∀b B,s.heap.get? b=some B->d.get? b=some B)->
  d.get? s.heap.objs.size=some {cls:=.type "list",dict:=none,data:=.seq c.toArray i,slots:= #[]}->EP X j C Q (.ref s.heap.objs.size) {s with heap:=d}:=λc g hz d i k e=>
  ⟨.ref s.heap.objs.size,_,I.laid (t':=s.toks) k (Bn _) (show bC X.prog X.w _ d _ (.lst f)from⟨hz,c,i,g,e⟩),rfl,q _ (I.hok.fresh (Bn _))⟩
 rcases m with m|m
 .obtain⟨c,g,x,hz⟩:=I.list m;have t:=g.length;obtain⟨o,y,z,n,hd⟩:=x.isList;exact call_list_seq p (.inl rfl) y z hd (λd i k e=>v c g hz d i k e) (by simp only[Fn]<;>lia)
 .obtain⟨c,g,x,hz⟩:=I.tuple m;have t:=g.length;obtain⟨o,y,z,n,hd⟩:=x;exact call_list_seq p (.inr rfl) y z hd (λd i k e=>v c g hz d i k e) (by simp only[Fn]<;>lia)
theorem gh:bF X (.type "tuple") (λn H Q=>∃p f,n=[.ref p]/\((j3 X.K H p f/\∀l,H l=none->Q (.ref l) (upd H l (.tup f)))\/(jU X.K H p f/\Q (.ref p) H))):=by
 intro c s m H n A Q I r h;obtain⟨p,f,rfl,h⟩:=h;obtain⟨u,rfl,x⟩:=vals1 r;cases x;rcases h with⟨k,q⟩|⟨k,q⟩
 .obtain⟨d,i,j,hz⟩:=I.list k;have t:=i.length;refine call_tuple_list j.isList (λg y=>?_) (by simp only[Fn]<;>lia);have v:Inv X c m H {s with heap:=g}:=I.kept (t':=s.toks) y;have z:Inv X c m (upd H g.objs.size (.tup f)) {s with heap:=g.push {cls:=.type "tuple",data:=.seq d.toArray}}:=
   v.laid (t':=s.toks) (λb o e=>Dx _ e) (Bn _) (show bC X.prog X.w _ _ _ (.tup f)from⟨hz,d,i,IsTup.new _ _⟩)
  exact⟨.ref g.objs.size,_,z,rfl,q _ (v.hok.fresh (Bn _))⟩
 .obtain⟨d,i,j,hz⟩:=I.tuple k;exact call_tuple_same j ⟨.ref p,H,I,rfl,q⟩
noncomputable def Wq(K:Frag)(T:String)(x:V)(H:Hp):Prop:=match x with
 |.str _=>T="str"
 |.int _=>T="int"
 |.ref p=>(T="list"/\∃d,j3 K H p d)\/(T="tuple"/\∃o,K.lookup p=some o/\o.cls=.type "tuple"/\o.dict=none)\/
   (T="dict"/\((∃c,H p=some (.dK c))\/∃c,H p=some (.dT c)))\/(T="set"/\∃S n,H p=some (.set S n))
 |_=>False
theorem Dq{f:List (Addr×Obj)}{m:St}{H:Hp}{s:Shared}{T:String}{x:V}{v:Value}(I:Inv X f m H s)(r:RelV x v)(g:Wq X.K T x H):
 s.TypeIs v T/\∀a,v=.ref a->∃l,s.heap.get? a=some l/\l.dict=none:=by
 cases x with
 |str z=>obtain⟨t,rfl⟩:=r;cases(show T="str"from g);exact⟨typeIs_str s z t,λ_ e=>nomatch e⟩
 |int i=>obtain⟨t,rfl⟩:=r;cases(show T="int"from g);exact⟨typeIs_int s i t,λ_ e=>nomatch e⟩
 |ref p=>
  cases r;rcases g with⟨rfl,y,u⟩|⟨rfl,o,d,w,hd⟩|⟨rfl,d⟩|⟨rfl,S,n,d⟩
  .obtain⟨q,_,k,_⟩:=I.list u;refine⟨k.isList.typeIs,λa e=>?_⟩;cases e;obtain⟨o,n,e,c,hd,_⟩:=k;exact⟨o,e,hd⟩
  .refine⟨⟨o,I.jT p o d,w⟩,λa e=>?_⟩;cases e;exact⟨o,I.jT _ o d,hd⟩
  .have z:∃o,s.heap.get? p=some o/\o.ExactDict:=by
    rcases d with⟨h,d⟩|⟨h,d⟩
    .obtain⟨_,_,_,_,o,_,_,e,ex,_⟩:=I.hok p _ d;exact⟨o,e,ex⟩
    .obtain⟨_,_,_,_,o,_,_,e,ex,_⟩:=I.hok p _ d;exact⟨o,e,ex⟩
   obtain⟨o,e,ex⟩:=z;refine⟨⟨o,e,ex.1⟩,λa j=>?_⟩;cases j;exact⟨o,e,ex.2.1⟩
  .obtain⟨o,_,_,_,e,ex,_⟩:=I.hok p _ d;refine⟨⟨o,e,ex.1⟩,λa j=>?_⟩;cases j;exact⟨o,e,ex.2.1⟩
 |_=>exact FP g
noncomputable def Wr(K:Frag)(T:String)(r:V->List V->Hp->VK->Prop)(e:TE):TE:=λd H Q=>e d H λx c=>Wq K T x c/\r x [] c Q
noncomputable def Rl(K:Frag)(T:String)(r:V->List V->Hp->VK->Prop)(f:TE)(t:TA):TE:=λc H Q=>f c H λx d=>Wq K T x d/\t c d λe g=>r x e g Q
variable{o e:Expr}{es:List Expr}{to:TE}{t:TA}{name:Str}{apos cpos:Pos}{T id:String}{r:V->List V->Hp->VK->Prop}
theorem M8(q:PlainAttrs T)(g:Slot T name id)(i:typeOf (.builtin id)=pure (.type "method_descriptor"))(w:Wn X id r)(u:PE X o to)
 (f:attributeBase o name X.env (eval o X.env)=eval o X.env:=by rfl)(d:(apos.endLine==cpos.line)=true:=by rfl):PE X (.Call (.Attribute o name apos) [] [] cpos) (Wr X.K T r to):=by
 intro c s j H Q I h;refine wpAny_Call_method0_late f d (bD (u c s j H _ I h) λv n ⟨x,A,l,k,m,p⟩=>?_);obtain⟨z,y⟩:=Dq l k m;exact⟨T,id,q,g,i,z,y,Calls.callWith_builtin rfl (PySem.evalArgs_none (w c n j A x [] v [] Q l k .nil p))⟩
theorem sH(C:PlainAttrs T)(i:Slot T name id)(l:typeOf (.builtin id)=pure (.type "method_descriptor"))(F:Wn X id r)(E:PE X o to)(J:PA X (e::es) t)
 (g:attributeBase o name X.env (eval o X.env)=eval o X.env:=by rfl)
 (j:((backTo cpos (starEach (e::es) X.env)).all (λx=>!x.1)&&(backToKw cpos (keywordEach [] X.env)).all (λx=>x.1.isSome)
   &&decide ((e::es).length+([]:List Keyword).length+(if([]:List Keyword).isEmpty then 0 else 1)<30))=true:=by rfl)
 (f:(apos.endLine==cpos.line)=true:=by rfl)(D:starEach (e::es) X.env=(false,eval e X.env)::starEach es X.env:=by rfl)(d:(backTo cpos (starEach es X.env)).any (·.1)=false:=by rfl):
 PE X (.Call (.Attribute o name apos) (e::es) [] cpos) (Rl X.K T r to t):=by
 intro c s k H Q I h;refine wpAny_Call_method_late g j f rfl (bD (E c s k H _ I h) λv y ⟨x,P,p,m,w,B⟩=>?_);obtain⟨M,L⟩:=Dq p m w;refine⟨T,id,C,i,l,M,L,?_⟩;have n:=J cpos c y k P _ p B;rw[D]at n⊢;refine Calls.callWith_builtin (by show(false||(backTo cpos (starEach es X.env)).any (·.1))=false;rw[d]<;>rfl) (Calls.evalArgs_plain ?_);exact bD n λu s2 ⟨q,O,N,z,A⟩=>F c s2 k O x q v u Q N m z A
end
noncomputable def Ws(X:Cx)(e:String)(r:V->List V->Hp->VK->Prop):Prop:=
 ∀(a:List (Addr×Obj))(s:Shared)(b:St)(H:Hp)(x:V)(c:List V)(v:Value)(d:List Value)(Q:VK),Inv X a b H s->RelV x v->Vals c d->r x c H Q->
  wpAny (model X.prog X.w) X.A (call (.builtin e) (v::d)) (EP X a b Q) X.xe s
theorem Vals.one{x:V}{us:List Value}(h:Vals [x] us):∃u,us=[u]/\RelV x u:=by
 cases h with
 |cons r h=>
  cases h;exact⟨_,rfl,r⟩
theorem Vals.zero:∀{us:List Value},Vals [] us->us=[]
 |_,.nil=>rfl
theorem Vals.dropLast{a:List V}{us:List Value}(h:Vals a us):Vals a.dropLast us.dropLast:=by
 induction h with
 |nil=>exact .nil
 |cons r t b=>
  cases t with
  |nil=>exact .nil
  |cons q c=>exact .cons r b
theorem Vals.reverse{a:List V}{us:List Value}(h:Vals a us):Vals a.reverse us.reverse:=by
 induction h with
 |nil=>exact .nil
 |cons r t b=>rw[ar,ar];exact Vals.append b (.cons r .nil)
theorem Vals.rep{a:List V}{us:List Value}(h:Vals a us):∀k:Nat,Vals (C8 k a).flatten (C8 k us).flatten
 |0=>.nil
 |k+1=>by rw[G1,G1,HN,HN];exact Vals.append h (Vals.rep h k)
theorem xU{α:Type}(l:List α):l.eraseIdx (l.length -1)=l.dropLast:=by
 induction l with
 |nil=>rfl
 |cons a r c=>
  cases r with
  |nil=>rfl
  |cons b r=>
   have e:(a::b::r).length -1=((b::r).length -1)+1:=by have f:(a::b::r).length=r.length+2:=rfl;have d:(b::r).length=r.length+1:=rfl;lia
   rw[e,List.eraseIdx_cons_succ,c]
   all_goals rfl
theorem foldl_rep(a:List Value):∀(k:Nat)(b:List Value),
 XA (λd c=>d++c) b.toArray (C8 k a.toArray)=(b++(C8 k a).flatten).toArray
 |0,b=>by simp
 |k+1,b=>by
  have e:b.toArray++a.toArray=(b++a).toArray:=by simp
  have f:(b++a)++(C8 k a).flatten=b++(C8 (k+1) a).flatten:=by rw[G1,HN,Fu]
  rw[<-f,<-foldl_rep a k (b++a),<-e,G1,Tq]
section
variable{X:Cx}{pins:List (Addr×Obj)}{σ:St}{H:Hp}{s:Shared}{l b:Addr}{xs ys zs:List V}
theorem Inv.M9{a its':List Value}{n:Nat}{f:Array Value->Array Value}{t':Nat}(I:Inv X pins σ H s)(i:H l=some (.lst xs))
 (e:s.heap.get? l=some {cls:=.type "list",data:=.seq a.toArray n})(g:f a.toArray=its'.toArray)(c:Vals ys its')(hz:ys.length<=sizeLine):
 Inv X pins σ (upd H l (.lst ys)) {s with heap:=s.heap.update l (Obj.mapSeq f),toks:=t'}:=by
 have q:=PySem.IsL.update e f;rw[g]at q;refine I.write (x:=l) (e:=l) (by rw[i];exact trivial) (.inl rfl) (λj u h d=>(Heap.get?_update_other s.heap (Obj.mapSeq f) (OF h)).trans d) ⟨_,q⟩ ?_;exact⟨hz,its',_,c,q⟩
theorem Inv.SI{a:List Value}{t':Nat}(I:Inv X pins σ H s)(c:Vals ys a)(hz:ys.length<=sizeLine):
 Inv X pins σ (upd H s.heap.objs.size (.lst ys)) {s with heap:=s.heap.push {cls:=.type "list",data:=.seq a.toArray},toks:=t'}:=
 I.laid (λ_ _ q=>Dx _ q) (Bn _) ⟨hz,a,0,c,KE _ rfl⟩
theorem Inv.fresh(I:Inv X pins σ H s):H s.heap.objs.size=none:=I.hok.fresh (Bn _)
theorem Inv.Hz(I:Inv X pins σ H s)(c:H l=some (.lst xs)):xs.length<=sizeLine/\∃(a:List Value)(n:Nat),Vals xs a/\xs.length=a.length/\s.heap.get? l=some {cls:=.type "list",data:=.seq a.toArray n}:=by obtain⟨z,a,n,r,e⟩:=I.hok l _ c;exact⟨z,a,n,r,r.length,e⟩
theorem vv{n:Nat}(h:n<=sizeLine):Builtin.List.listTooLong n=false:=by unfold Builtin.List.listTooLong;exact DL (by lia)
end
section
variable{X:Cx}
noncomputable def kX:V->List V->Hp->VK->Prop:=λx b H Q=>∃l a y,x=.ref l/\b=[y]/\H l=some (.lst a)/\a.length<sizeLine/\Q .aG (upd H l (.lst (a++[y])))
theorem gA:Ws X "list.append" kX:=by intro b s g H x j v k Q I d rv h;obtain⟨l,i,y,rfl,rfl,c,hz,q⟩:=h;cases d;obtain⟨u,rfl,f⟩:=rv.one;obtain⟨z,a,n,r,m,e⟩:=I.Hz c;refine call_meets F.slot_list_append ⟨_,e,rfl⟩ F.entry_list_append (F.args_list_append_2 _ _) (PySem.list_append l a.toArray n u (by rw[Fn];lia)) ⟨e,?_⟩;refine⟨.aG,_,I.M9 (its':=a++[u]) c e (by simp) (r.append (.cons f .nil)) ?_,rfl,q⟩;rw[AN,G2];lia
noncomputable def zh:V->List V->Hp->VK->Prop:=λx d H Q=>∃l b c a,x=.ref l/\d=[.ref b]/\H l=some (.lst c)/\H b=some (.lst a)/\c.length+a.length<=sizeLine/\Q .aG (upd H l (.lst (c++a)))
theorem AV:Ws X "list.extend" zh:=by
 intro f s y H x D v E Q I i rv h;obtain⟨l,b,C,A,rfl,rfl,g,p,hz,q⟩:=h;cases i;obtain⟨u,rfl,j⟩:=rv.one;cases j;obtain⟨z,c,n,r,J,e⟩:=I.Hz g;obtain⟨B,a,m,k,o,t⟩:=I.Hz p;have d:c.toArray.size+a.toArray.size<=sizeLine:=by rw[Fn,Fn];lia
 have w:¬(!c.toArray.isEmpty&&Builtin.List.listTooLong (c.toArray.size+a.toArray.size))=true:=by rw[vv d,Qr];exact GE
 refine call_meets F.slot_list_extend ⟨_,e,rfl⟩ F.entry_list_extend (F.args_list_extend_2 _ _)
  (AutoSeq1.list_extend_list_list_0 l c.toArray n b a.toArray m w (by rw[Fn];lia) (by lia)) ⟨e,t,?_⟩
 refine⟨.aG,_,I.M9 (its':=c++a) g e (by simp) (r.append k) ?_,rfl,q⟩;rw[AN];lia
noncomputable def Wt:V->List V->Hp->VK->Prop:=λx b H Q=>∃l a y,x=.ref l/\b=[]/\H l=some (.lst a)/\a[a.length -1]?=some y/\Q y (upd H l (.lst a.dropLast))
theorem Na:Ws X "list.pop" Wt:=by
 intro d s o H x t v w Q I g rv h;obtain⟨l,p,y,rfl,rfl,f,j,q⟩:=h;cases g;have c:=rv.zero;subst c;obtain⟨z,a,n,r,m,e⟩:=I.Hz f;obtain⟨u,k,i⟩:=r.get j;have b:a.toArray[a.toArray.size -1]?=some u:=by show a.toArray[a.length -1]?=some u;rw[<-VO,<-m];exact k
 refine call_meets F.slot_list_pop ⟨_,e,rfl⟩ F.entry_list_pop (F.args_list_pop_1 _) (MeetsSeq.list_pop_last l a.toArray n u b (by rw[Fn];lia)) ⟨e,?_⟩;refine⟨y,_,I.M9 (its':=a.dropLast) f e ?_ r.dropLast ?_,i,q⟩
 .show a.toArray.eraseIdxIfInBounds (a.toArray.size -1)=a.dropLast.toArray;rw[Fn,List.eraseIdxIfInBounds_toArray,xU]
 .rw[List.length_dropLast];lia
theorem len_rep{α:Type}(a:List α)(k:Nat):(C8 k a).flatten.length=k*a.length:=by
 induction k with
 |zero=>simp
 |succ k b=>rw[G1,HN,AN,b,Nat.succ_mul,Zy]
end
section
variable{prog:Program}{w:World}{A:Around}{E:Value->Shared->Prop}{s:Shared}
end
section
variable{X:Cx}
end
end L2
namespace Ze
open PySem PySem.W PySem.Calls PyProof.Rows
theorem nj{P:Params}{h:Heap}:∀(c:List Int)(vs:List Value),WellAll P h vs (c.map WData.int)->IntsAre vs c:=by
 intro c
 induction c with
 |nil=>intro vs w;rw[cf]at w;cases w;exact .nil
 |cons n c d=>
  intro vs w;rw[Hn]at w;cases w with
  |cons a b=>
   cases a;exact .cons _ _ (d _ b)
theorem AW{l:OpenLaw}{n:Nat}(v:l.most=some n){P:Params}{h:Heap}{args:List WData}{c:List Value}
 (e:l.row.toRowW.claim.pre args=true)(k:WellAll P h c args):
 ∃a vs b,c=[Value.ref a]/\args=[WData.list (b.map WData.int)]/\h.get? a=some {cls:=.type "list",data:=.seq vs.toArray}/\IntsAre vs b/\b.length<=n:=by
 have m:WShape.hasAll [] args [.list .int]=true:=(pre_splitW e).1;have o:l.pre.holds [] {args:=args}=true:=(pre_splitW e).2;obtain⟨d,r,rfl,y,x⟩:=hasAllW_cons m;obtain rfl:=hasAllW_nil x;obtain⟨z,rfl,w⟩:=hasW_list y;obtain⟨b,rfl⟩:=items_int w;have f:b.length<=n:=by
  unfold OpenLaw.pre at o;have j:(WTm.not (.lt (.lit (.int (n:Int))) (.len (.arg 0)))).holds [] {args:=[.list (b.map .int)]}=true:=by have j:=(holds_andW o).1;rw[v]at j;exact j
  have i:=condW_of j (w_not (w_lt w_lit (w_len_list (w_arg rfl))));rw[Fk]at i;refine Z3 λq=>?_;have t:(n:Int)<((b.length:Nat):Int):=by lia
  first
   |(rw[Bz t]at i;exact absurd i (by decide))
   |(simp at i;lia)
 cases k with
 |cons s p=>
  cases p;cases s with
  |list u g=>exact⟨_,_,b,rfl,rfl,u,nj b _ g,f⟩
theorem AX(l:OpenLaw)(args:List WData):l.row.toRowW.claim.post args (.bool true) args=true:=
 postW_of (r:=l.row.toRowW) (X:=(true==true))
  (show WShape.has [] (.bool true) .bool=true by first|rfl|decide|simp[WShape.has,WShape.arms,WShape.armsAll])
  (show(WTm.eq .res (.lit (.bool true))).value [] {args:=args,res:=some (.bool true),after:=args}=some (.bool (true==true))from w_eq_bool (w_res rfl) w_lit) rfl
theorem vA{l:OpenLaw}{n:Nat}{q:Program}{e:List Str}{H:(Str->Option Value)->Heap->Prop}{F:World->Heap->Prop}{d:DefRec}
 (L:l.most=some n)(z:d.params.defaults=[])
 (call:∀(w:World)(c b:Shared)(s v:Str->Option Value)(m:Addr)(o:Obj)(u t h:Value)(a:Addr)(vs:List Value)(p:List Int),
   Ground q e [] H w c s v b.heap->F w b.heap->
   b.heap.get? m=some o->o.data=.func (docDef d.name d.params d.body d.scope u t h)->b.heap.CodeRec t d.name->s d.name=some (.ref m)->
   b.heap.get? a=some {cls:=.type "list",data:=.seq vs.toArray}->IntsAre vs p->p.length<=n->b.gens= #[]->
   codeAny (model l.prog w) callerA (.call (.ref m) ⟨[.ref a],[]⟩) (λr s'=>r=.ok (.ret (.bool true))/\OldK b.heap s'.heap/\s'.os=b.os/\AllBare s'.gens) b):
 WalkO q e H F l.row.toRowW d [] (λf vs=>PySem.call f vs):=by
 intro w c b s v G Y m o u t h S kV K hd A D y O E B T i C I x N;obtain rfl:S=.none:=Dflts.none D z;obtain rfl:kV=.none:=Dflts.noKw D;obtain⟨a,vs,p,rfl,rfl,j,g,k⟩:=AW L i x;refine enter_call (aw (call w c b s v m o u t h a vs p G Y K (fd_plain hd) A y j g k O) λr s' J=>?_);obtain⟨rfl,R,Q,P⟩:=J;exact⟨.inl ⟨.bool true,.bool true,[],rfl,λ_=>rfl,.bool true,AX l _,λ_=>⟨a6,λ_ M=>(nomatch M)⟩⟩,R,Q,P⟩
section
variable{prog:Program}{w:World}{A:Around}{E:Value->Shared->Prop}{s:Shared}{K:Frag}
end
end Ze
namespace L2
open PySem PySem.Spec PyProof.Rows
theorem sI:∀{vs:List Value}{a:List Int},IntsAre vs a->Vals (a.map V.int) vs
 |_,_,.nil=>.nil
 |_,_,.cons n t h=>.cons ⟨t,rfl⟩ (sI h)
noncomputable def Ds(H:Hp):Prop:=∀b,H b=none\/∃o a,H b=some (.xm o (.lst a))
theorem Du{P:Program}{w:World}{K:Frag}{t Q:Str->Option Value}{CX:AQ}{k:Nat}{T a:Addr}{fd:FuncData}{x:Str}{sp:Sp}{c:Shared}{vs:List Value}{p:List Int}
 (KX:K.In c.heap)(A:c.heap.Ns mainGlobals t)(f:c.heap.Ns builtinsNs Q)(GI:∀x:Str,x≠"__name__"->Q x=bootBuiltins x)(B:c.heap.NoLimit)(L:c.heap.NoSeer)(SJ:P.given.tree=none)(hg:c.gens= #[])
 (C:c.heap.get? a=some {cls:=.type "list",data:=.seq vs.toArray})(Z:IntsAre vs p)(Y:p.length<=sizeLine)(hr:cC k callerA)
 (F:∀base:Heap,K.In base->base.Ns mainGlobals t->bJ P w K t base CX k T fd [x] sp)(j:∀(s:Shared)(u:Value),BindsTo s fd ⟨[u],[]⟩ [(x,u)])
 (rF:∀H:Hp,Ds H->j3 K H a (p.map V.int)->sp [.ref a] H (λv _=>v=.bl true) λ_ _ _=>False)
 (Wu:∀H e s',CX [] H c (λ_ _ _=>False) e s'->False):
 codeAny (model P w) callerA (.call (.ref T) ⟨[.ref a],[]⟩) (λr s'=>r=.ok (.ret (.bool true))/\OldK c.heap s'.heap/\s'.os=c.os/\AllBare s'.gens) c:=by
 have rv:=sI Z;have Wv:=Z.length;have g:∀H:Hp,Ds H->j3 K H a (p.map V.int)->iX P w H c.heap->(∀b,H b≠none->b=a)->(H a≠none->K.lookup a=none)->
  codeAny (model P w) callerA (.call (.ref T) ⟨[.ref a],[]⟩) (λr s'=>r=.ok (.ret (.bool true))/\OldK c.heap s'.heap/\s'.os=c.os/\AllBare s'.gens) c:=by
  intro H hO hS y S hK;have M:∀{b:Addr}{o:Obj},c.heap.get? b=some o->H b=none->(tK c.heap H).get? b=some o:=λe n=>CT e n;have Sx:∀{b:Addr}{o:Obj}{D:Array DictEntry}{E:Nat},c.heap.get? b=some o->o.data=.dict D E->H b=none:=λ{b o D E} e d=>by
   cases q:H b with
   |none=>rfl
   |some u=>have I:b=a:=S b (by rw[q];simp);subst I;rw[C]at e;cases e;have U:Data.seq vs.toArray _=Data.dict D E:=d;cases U
  have i:∀{b:Addr}{m:Str->Option Value},c.heap.Ns b m->(tK c.heap H).Ns b m:=λ{b m} ⟨o,D,E,e,d,r⟩=>⟨o,D,E,M e (Sx e d),d,r⟩;have Zf:K.In (tK c.heap H):=λb o e=>M (KX b o e) (by
   cases q:H b with
   |none=>rfl
   |some u=>have I:b=a:=S b (by rw[q];simp);subst I;rw[hK (by rw[q];simp)]at e;cases e)
  have O:∀{b:Addr}{o:Obj},c.heap.get? b=some o->o.cls=.type "module"->H b=none:=λ{b o} e d=>by
   cases q:H b with
   |none=>rfl
   |some u=>have I:b=a:=S b (by rw[q];simp);subst I;rw[C]at e;cases e;have U:Value.type "list"=Value.type "module":=d;exact absurd U (by decide)
  have hM:Mod K t (tK c.heap H):=⟨Zf,i A,⟨Q,i f,GI⟩,let⟨mc,h1,h2⟩:=B;⟨mc,i h1,h2⟩,⟨let⟨m,h1,h2⟩:=L.statics;⟨m,i h1,h2⟩,let⟨m,h1,h2⟩:=L.mods;⟨m,i h1,h2⟩,let⟨m,h1,h2⟩:=L.imp;⟨m,i h1,h2⟩,let⟨m,bm,N,h1,h2,h3,h4,h5⟩:=L.main;⟨m,bm,N,i h1,h2,M h3 (O h3 h4),h4,h5⟩⟩⟩;have e0:xQ P w K t (tK c.heap H) callerA [] c H:=⟨rfl,hM,λb o e=>GX e,Rh (Ax _ _),trivial,λb f=>absurd (show b∈([]:List Addr)from f) (by simp),y,.of_eq hg,SJ⟩;refine aw ((F _ Zf (i A)).run callerA [] c H ⟨[.ref a],[]⟩ [.ref a] [.ref a] _ _ hr e0 (j c (.ref a)) (.cons rfl .nil) (rF H hO hS)) λr s' h=>?_;cases r with
  |error e=>exact(Wu H e s' h).elim
  |ok fl=>
   cases fl with
   |next=>exact FP h
   |brk=>exact FP h
   |cont=>exact FP h
   |ret u=>
    obtain⟨v,H',os,J,X,Ww,r',q⟩:=h;have q':v=.bl true:=q;subst q';obtain rfl:u=Value.bool true:=r';refine⟨rfl,OldK.of_keep λb o e=>?_,os,J⟩;cases q:H b with
    |none=>exact X.keep b o e q (by intro z;exact absurd (show b∈([]:List Addr)from z) (by simp)) (by simp)
    |some u=>
     rcases hO b with z|⟨N,xs,z⟩
     .rw[q]at z;cases z
     .have z2:=X.jZ b N _ z;obtain⟨e1,_⟩:=y b _ z;obtain⟨e2,_⟩:=Ww b _ z2;rw[e]at e1;cases e1;exact e2
 cases R:K.lookup a with
 |some o=>have e:=KX a o R;rw[C]at e;cases e;refine g (λ_=>none) (λ_=>.inl rfl) (.inr ⟨_,vs.toArray,_,R,rfl,rfl,rfl,by rw[Fn,Wv];exact Y,by simpa using rv⟩) (λb u z=>by have l:(none:Option HO)=some u:=z;cases l) (λb z=>absurd rfl z) λz=>absurd rfl z
 |none=>
  refine g (λb=>if b=a then some (.xm {cls:=.type "list",data:=.seq vs.toArray} (.lst (p.map V.int)))else none) (λb=>?_) (.inl (.inr ⟨{cls:=.type "list",data:=.seq vs.toArray},Do rfl⟩)) (λb u z=>?_) (λb z=>?_) λ_=>R
  .by_cases f:b=a
   .exact .inr ⟨_,_,Do f⟩
   .exact .inl (Bi f)
  .by_cases f:b=a
   .have l:=(Do f).symm.trans z;cases l;subst f;exact⟨C,by rw[Fk];exact Y,vs,_,rv,C⟩
   .have l:=(Bi f).symm.trans z;cases l
  .by_cases f:b=a
   .exact f
   .exact absurd (Bi f) z
theorem HB{l:PySem.W.OpenLaw}{n k:Nat}{q:Program}{i:List Str}{XP:(Str->Option Value)->Heap->Prop}{I:World->Heap->Prop}{d:DefRec}{K:Params->Frag}{CX:World->AQ}{sp:World->Sp}{x:Str}
 (N:l.most=some n)(A:n<=sizeLine)(C:d.params.defaults=[])(M:cC k callerA)(Wx:importsNone q=true)(z:l.prog.given.tree=none)
 (R:∀(w:World)(h:Heap),I w h->(K w.params).In h)
 (F:∀(w:World)(m:Str->Option Value)(y:Addr)(h:Heap),(K w.params).In h->h.Ns mainGlobals m->m d.name=some (.ref y)->
   ∃D:FuncData,(∀(s:Shared)(u:Value),BindsTo s D ⟨[u],[]⟩ [(x,u)])/\
    ∀base:Heap,(K w.params).In base->base.Ns mainGlobals m->bJ l.prog w (K w.params) m base (CX w) k y D [x] (sp w))
 (L:∀(w:World)(H:Hp)(a:Addr)(t:List Int),t.length<=n->Ds H->j3 (K w.params) H a (t.map V.int)->sp w [.ref a] H (λv _=>v=.bl true) λ_ _ _=>False)
 (Wu:∀(w:World)(H:Hp)(s:Shared)(e:Value)(s':Shared),CX w [] H s (λ_ _ _=>False) e s'->False):
 PySem.W.WalkO q i XP I l.row.toRowW d [] (λf vs=>PySem.call f vs):=by
 refine Ze.vA N C λw E p m mb y o pm cd Z a vs t G Y ho hd P B r j c O=>?_;have J:=R w _ Y;obtain⟨D,Q,X⟩:=F w m y _ J G.T.g B;exact Du J G.T.g G.T.b G.T.builtins G.T.nolimit (G.T.seer Wx) z O r j (FV c A) M X Q (λH U S=>L w H a t c U S) λH e s'=>Wu w H p e s'
noncomputable def inClass(s:Stmt)(j:Nat):Stmt:=match s with
 |.ClassDef _ _ _ body _ _ _ _ _ _ _=>body.getD j (.Pass ⟨0,0,0,0⟩)
 |_=>.Pass ⟨0,0,0,0⟩
noncomputable def bY(s:Stmt):Arguments:=match s with
 |.FunctionDef _ a _ _ _ _ _ _ _ _=>a
 |_=>{posonlyargs:=[],args:=[],vararg:=none,kwonlyargs:=[],kw_defaults:=[],kwarg:=none,defaults:=[]}
noncomputable def aZ(s:Stmt):List Stmt:=match s with
 |.FunctionDef _ _ b _ _ _ _ _ _ _=>b
 |_=>[]
noncomputable def aq(s:Stmt):Scope:=match s with
 |.FunctionDef _ _ _ _ _ _ sc _ _ _=>sc
 |_=>{kind:=.function,names:=[],isGenerator:=false,isCoroutine:=false}
abbrev SK:AQ:=λ_ _ _ _ _ _=>False
abbrev E0:XK:=λ_ _ _=>False
structure Dv(K:Frag)(x qual:Str)(st:Stmt)(f:Addr)(fd:FuncData):Prop where
 ex:∃(oc:Value)(od:Option Addr)(kV doc pm:Value)(an:Option Addr)(cdv ct:Value)(osl:Array (Option Value)),
  fd=fnOf x qual (bY st) (aZ st) (aq st) .none kV doc pm an cdv ct/\K.lookup f=some ⟨oc,od,.func fd,osl⟩/\codeIn K cdv qual=true
 kp:keepIn K (.ref f)=true
section
variable{P:Program}{w:World}{K:Frag}{mg:Str->Option Value}{base:Heap}
theorem Dv.binds{x a:Str}{st:Stmt}{f:Addr}{i:FuncData}{ps:List Str}(F:Dv K x a st f i)
 (h:∀(kV b d:Value)(g:Option Addr)(c e:Value)(us:List Value),us.length=ps.length->bindArgs (fnOf x a (bY st) (aZ st) (aq st) .none kV b d g c e) ⟨us,[]⟩=pure (ps.zip us)):Binds K i ps []:=by
 obtain⟨m,l,kV,b,d,g,c,e,j,rfl,n,k⟩:=F.ex;exact .all (h kV b d g c e)
theorem Dw{x a:Str}{st:Stmt}{f:Addr}{m:Value}{j i:Option Addr}{e:Array (Option Value)}{kV d g b h:Value}(l:K.lookup f=some ⟨m,j,.func (fnOf x a (bY st) (aZ st) (aq st) .none kV d g i b h),e⟩)
 (c:codeIn K b a=true)(k:keepIn K (.ref f)=true):Dv K x a st f (fnOf x a (bY st) (aZ st) (aq st) .none kV d g i b h):=⟨⟨m,j,kV,d,g,i,b,h,e,rfl,l,c⟩,k⟩
end
section
variable{X:Cx}
theorem pv(i:Nat){x:Str}{pos:Pos}(c:X.N[i]?=some x:=by rfl)(b:RX X.env.scope x:=by first|exact Or.inl rfl|exact d4 (Or.inl rfl)|exact d4 (d4 rfl))(hd:(x==("__debug__":Str))=false:=by decide)
 (a:(x==("__classdict__":Str))=false:=by decide):PE X (.Name x pos) (i6 i):=xB c b hd a
end
noncomputable def aA(H H':Hp):Prop:=∀b o,H b=some o->H' b=some o
theorem aA.refl(H:Hp):aA H H:=λ_ _ h=>h
theorem aA.trans{H H1 d:Hp}(a:aA H H1)(b:aA H1 d):aA H d:=λc o h=>b c o (a c o h)
theorem aA.free{H H':Hp}(e:aA H H'){l:Addr}(h:H' l=Z8):H l=Z8:=by
 cases q:H l with
 |none=>rfl
 |some o=>rw[e l o q]at h;cases h
theorem bits_le{x:Int}{n:Nat}(h:x.natAbs<2^n):Builtin.Int.intBits x<=n:=by
 unfold Builtin.Int.intBits;split
 .exact NM _
 .rename_i hx
  have a:x.natAbs≠0:=λe=>hx (by simp[Int.natAbs_eq_zero.mp e]);have:=(W3 a).mpr h;omega
theorem xV{i j:Int}(h:Builtin.Int.intBits i+Builtin.Int.intBits j<=134217728):IntMulOk i j:=by
 unfold IntMulOk Builtin.Int.intTooBig;have a:¬((Builtin.Int.intBits i:Int)+(Builtin.Int.intBits j:Int)>((bitsLine:Nat):Int)):=by rw[bitsLine_eq];omega
 intro z;rw[AC]at z;exact a (Ap z.2)
section
variable{X:Cx}
theorem HC:kL X (binaryOp .Mult) (rI IntMulOk λi j=>.int (i*j)):=Si λ_ _ _ _ _ _ _ a q=>mul_int q a
noncomputable def vB(_ j:Int):Prop:=j≠0/\j.natAbs.log2<1000000000
theorem Dy:kL X (binaryOp .FloorDiv) (rI vB λi j=>.int (i.fdiv j)):=λa s e H x y v u Q I c b h=>by obtain⟨i,j,rfl,rfl,d,q⟩:=h;obtain⟨t,rfl⟩:=c;obtain⟨f,rfl⟩:=b;exact floordiv_int d.1 ⟨.int (i.fdiv j),H,I.tok _,⟨_,rfl⟩,q⟩ (.inr (I.ok.RY X.A s rfl rfl I.bk))
end
theorem aK{H:Hp}{p:Addr}(h:H p=none)(o:HO):aA H (upd H p o):=λb u q=>by rw[ay (bx q h)];exact q
theorem aA.tup{K:Frag}{H H':Hp}{a:Addr}{b:List V}(e:aA H H')(h:jU K H a b):jU K H' a b:=by
 rcases h with(h|⟨o,h⟩)|h
 .exact .inl (.inl (e _ _ h))
 .exact .inl (.inr ⟨o,e _ _ h⟩)
 .exact .inr h
theorem AY{n:Nat}(h:n<=100000):n<=sizeLine:=FV h (by decide)
end L2
namespace L2
theorem eY{i j:Int}(c:0<=j)(b:j<=1000000)(a:i.natAbs<2^64):xE i j:=⟨c,b,a⟩
end L2
namespace L2
open PySem PySem.Spec PyProof.Rows
theorem vC{H:Hp}{p q:Addr}{o u:HO}(a:H q=some u)(b:H p=none):upd H p o q=some u:=by rw[ay (bx a b)];exact a
theorem bC.thing{P:Program}{w:World}{H:Hp}{h:Heap}{a:Addr}{o:HO}(x:bC P w H h a o):∃b,h.get? a=some b:=by
 cases o with
 |lst d=>obtain⟨_,_,_,_,e⟩:=x;exact⟨_,e⟩
 |tup d=>obtain⟨_,_,_,b,e,_⟩:=x;exact⟨_,e⟩
 |dK c=>obtain⟨_,_,_,_,b,_,_,e,_⟩:=x;exact⟨_,e⟩
 |dT c=>obtain⟨_,_,_,_,b,_,_,e,_⟩:=x;exact⟨_,e⟩
 |set S n=>obtain⟨b,_,_,_,e,_⟩:=x;exact⟨_,e⟩
 |ins C l g=>obtain⟨_,_,_,e,_⟩:=x;exact⟨_,e⟩
 |own y=>exact x
 |xd g=>obtain⟨_,⟨_,_,_,e,_⟩,_⟩:=x;exact⟨_,e⟩
 |rB j k=>obtain⟨_,_,_,e⟩:=x;exact⟨_,e⟩
 |xm b u=>obtain⟨e,_⟩:=x;exact⟨_,e⟩
 |Lc i=>exact⟨_,x⟩
 |met f y=>exact⟨_,x⟩
 |ext φ=>obtain⟨_,e,_⟩:=x;exact e
theorem iX.gone{P:Program}{w:World}{H:Hp}{h:Heap}{a:Addr}(x:iX P w H h)(e:h.get? a=none):H a=none:=by
 cases q:H a with
 |none=>rfl
 |some u=>obtain⟨b,z⟩:=(x a u q).thing;rw[e]at z;cases z
theorem iX.tracked{P:Program}{w:World}{H:Hp}{h h':Heap}(x:iX P w H h)(k:∀b u c,H b=some u->h.get? b=some c->h'.get? b=some c):iX P w H h':=λa o e=>
 (x a o e).stay (λb u z q=>by
   rcases z with rfl|z
   .exact k b o u e q
   .exact k b _ u z q) (λ_ q=>q) λ_ _ q=>q
structure Zg(P:Program)(w:World)(outer:List Env)(H:Hp)(s:Shared)(H':Hp)(a C:Addr)(s':Shared):Prop where
 os:s'.os=s.os
 bare:AllBare s'.gens
 un:Un (frs outer) [] H H' s.heap s'.heap
 hok:iX P w H' s'.heap
 new:H' a=none
 old:s.heap.get? a=none
 SM:∃(B:Heap)(a0:Value),Heap.FlyingW B outer a (.ref C) a0 s'.heap/\∀b o,s'.heap.get? b=some o->b∉frs outer->((∃o',s.heap.get? b=some o')\/∃u,H' b=some u)->B.get? b=some o
noncomputable def iY(P:Program)(w:World):AQ:=λb H s E e d=>∃a C c,e=.ref a/\Zg P w b H s c a C d/\E (.ref C) none c
section
variable{P:Program}{w:World}{K:Frag}{mg:Str->Option Value}{base:Heap}{N:List Str}{qual:Str}{scope:Scope}{f:Addr}{cd:Value}{A:Around}{outer:List Env}{s:Shared}{H:Hp}{E:XK}
abbrev kM(P:Program)(w:World)(K:Frag)(mg:Str->Option Value)(base:Heap)(N:List Str)(qual:Str)(scope:Scope)(f:Addr)(cd:Value)(A:Around)(outer:List Env)(s:Shared)(H:Hp)(E:XK):Cx:=
 AS (iY P w) P w K mg base N qual scope f cd A outer s H E
theorem pJ{e:Env}{l:List Env}{L b:Addr}(a:e.frame=some L):b∈frs (e::l)↔b=L\/b∈frs l:=by unfold frs;rw[MS,a];exact FC
theorem vD{g:List (Addr×Obj)}{x:St}{H1 t:Hp}{i:Shared}{r:Heap}(I:Inv (kM P w K mg base N qual scope f cd A outer s H E) g x H1 i)
 (u:Un (frs (kM P w K mg base N qual scope f cd A outer s H E).stack) [] H1 t i.heap r):Un (frs outer) [] H t s.heap r:=by
 have D:(kM P w K mg base N qual scope f cd A outer s H E).env.frame=some s.heap.objs.size:=rfl;have p:∀b,b∈frs (kM P w K mg base N qual scope f cd A outer s H E).stack↔b=s.heap.objs.size\/b∈frs outer:=λb=>pJ D;have c:Un (frs outer) [] H H1 s.heap i.heap:=I.base;have k:∀b o,s.heap.get? b=some o->b∉frs outer->b∉frs (kM P w K mg base N qual scope f cd A outer s H E).stack:=λb o q d z=>by
  rcases(p b).mp z with z|z
  .exact absurd (Fm q) (by rw[z];exact PQ _)
  .exact d z
 refine⟨λb o q n d a=>?_,λb o q n d a=>?_,λb o q n a=>?_,λb o q a=>?_,λb m q=>u.tups b m (c.tups b m q),λb o v q=>u.jZ b o v (c.jZ b o v q),λb y q=>?_⟩
 .exact u.keep b o (c.keep b o q n d a) (c.free b o q n a) (k b o q d) a
 .obtain⟨F,e⟩:=c.slot b o q n d a;obtain⟨h,l⟩:=u.slot b _ e (c.free b o q n a) ((p b).mpr (.inr d)) a;exact⟨h,l⟩
 .obtain⟨j,e⟩:=c.there b o q a;exact u.free b j e (c.free b o q n a) a
 .obtain⟨j,e⟩:=c.there b o q a;exact u.there b j e a
 .obtain⟨C,e⟩:=c.kN b y q;obtain⟨B,l⟩:=u.kN b _ e;exact⟨C++B,by rw[l,WM]⟩
theorem xW{l:List Env}{H1 t:Hp}{p g h:Heap}(u:Un (frs l) [] H1 t p g)(k:∀b o,g.get? b=some o->b∉frs l->((∃c,p.get? b=some c)\/∃u,t b=some u)->h.get? b=some o)
 (ff:∀b,b∈frs l->∃o,g.get? b=some o/\∀vs,o.data≠.fields vs)(up:g.UpToSlots h):Un (frs l) [] H1 t p h:=by
 have v:∀b o,b∈frs l->g.get? b=some o->∃m,h.get? b=some {o with slots:=m}:=λb o a q=>by obtain⟨c,e,x⟩:=ff b a;rw[q]at e;cases e;exact up b o q x
 refine⟨λb o q n a d=>k b o (u.keep b o q n a d) a (.inl ⟨o,q⟩),λb o q n a d=>?_,u.free,λb o q d=>?_,u.tups,u.jZ,u.kN⟩
 .obtain⟨m,i⟩:=u.slot b o q n a d;obtain⟨j,r⟩:=v b _ a i;exact⟨j,r⟩
 .obtain⟨c,i⟩:=u.there b o q d;by_cases a:b∈frs l
  .obtain⟨m,r⟩:=v b c a i;exact⟨_,r⟩
  .exact⟨c,k b c i a (.inl ⟨o,q⟩)⟩
theorem Dz{b:List (Addr×Obj)}{d:St}{H1:Hp}{c:Shared}{a:Addr}(I:Inv (kM P w K mg base N qual scope f cd A outer s H E) b d H1 c)(e:c.heap.get? a=none):s.heap.get? a=none:=by
 have g:Un (frs outer) [] H H1 s.heap c.heap:=I.base;cases q:s.heap.get? a with
 |none=>rfl
 |some o=>obtain⟨h,z⟩:=g.there a o q (by simp);rw[e]at z;cases z
theorem xX{d:List (Addr×Obj)}{L:St}{H1:Hp}{c:Shared}{h':Heap}{a C:Addr}{j:List Value}(I:Inv (kM P w K mg base N qual scope f cd A outer s H E) d L H1 c)
 (k:Heap.MadeExcOf c.heap h' a (.ref C) j)(q:E (.ref C) none H1):(kM P w K mg base N qual scope f cd A outer s H E).xe (.ref a) {c with heap:=h'}:=by
 have B:(kM P w K mg base N qual scope f cd A outer s H E).env.frame=some s.heap.objs.size:=rfl;have S:∀b,b∈frs (kM P w K mg base N qual scope f cd A outer s H E).stack↔b=s.heap.objs.size\/b∈frs outer:=λb=>pJ B;have ff:=I.stack;have n:∀env∈(kM P w K mg base N qual scope f cd A outer s H E).stack,∀b,env.frame=some b->b∈frs (kM P w K mg base N qual scope f cd A outer s H E).stack:=λenv U b p=>Nb.mpr ⟨env,U,p⟩;have F:=PySem.W.funFrames_hide ff n;refine wpAny_leaves_madeW (base:=PySem.W.hideAll c.heap (frs (kM P w K mg base N qual scope f cd A outer s H E).stack)) (h:=c.heap) I.ok.frames B (λb o z=>PySem.W.of_hideAll _ z) F k λl t x Z Y O=>?_;have r:∀b o,c.heap.get? b=some o->b∉frs (kM P w K mg base N qual scope f cd A outer s H E).stack->l.get? b=some o:=λb o z g=>x.1 b o (hideAll_get _ z g);have fm:∀b,b∈frs (kM P w K mg base N qual scope f cd A outer s H E).stack->∃o,c.heap.get? b=some o/\∀Q,o.data≠.fields Q:=λb p=>(F.mem p).2;have up:c.heap.UpToSlots l:=(Heap.UpToSlots.of_keeps k.keeps).trans O;have R:Un (frs (kM P w K mg base N qual scope f cd A outer s H E).stack) [] H1 H1 c.heap l:=xW Un.refl (λb o z g _=>r b o z g) fm up;refine⟨a,C,H1,rfl,⟨I.os,I.bare,vD I R,I.hok.tracked λb u T z M=>r b T M λm=>?_,I.hok.gone k.new,Dz I k.new,_,_,x,λb o z g i=>?_⟩,q⟩
 .have:=I.jB b m;rw[z]at this;cases this
 .have J:b∉frs (kM P w K mg base N qual scope f cd A outer s H E).stack:=λm=>by
   rcases i with⟨y,e⟩|⟨u,e⟩
   .rcases(S b).mp m with m|m
    .exact absurd (Fm e) (by rw[m];exact PQ _)
    .exact g m
   .have:=I.jB b m;rw[e]at this;cases this
  have:∃o1,c.heap.get? b=some o1:=by
   rcases i with⟨y,e⟩|⟨u,e⟩
   .exact Un.there (show Un (frs outer) [] H H1 s.heap c.heap from I.base) b y e (by simp)
   .exact(I.hok b u e).thing
  obtain⟨o1,D⟩:=this;have X:=r b o1 D J;have v:l.get? b=some o:=z;rw[X]at v;cases v;exact hideAll_get _ D J
theorem DA{g:List (Addr×Obj)}{J:St}{H1:Hp}{i s':Shared}{e:Value}(I:Inv (kM P w K mg base N qual scope f cd A outer s H E) g J H1 i)
 (T:iY P w (kM P w K mg base N qual scope f cd A outer s H E).stack H1 i E e s'):(kM P w K mg base N qual scope f cd A outer s H E).xe e s':=by
 obtain⟨a,C,n,rfl,F,q⟩:=T;obtain⟨B,Z,x,k⟩:=F.SM;have t:(kM P w K mg base N qual scope f cd A outer s H E).env.frame=some s.heap.objs.size:=rfl;have R:∀b,b∈frs (kM P w K mg base N qual scope f cd A outer s H E).stack↔b=s.heap.objs.size\/b∈frs outer:=λb=>pJ t;refine wpAny_leaves_onW I.ok.frames t x λX h M=>?_;have fm:∀b,b∈frs (kM P w K mg base N qual scope f cd A outer s H E).stack->∃o,s'.heap.get? b=some o/\∀O,o.data≠.fields O:=λb U=>(x.2.2.1.mem U).2;have D:∀b u,n b=some u->b∉frs (kM P w K mg base N qual scope f cd A outer s H E).stack:=λb u z m=>by have l:=I.jB b m;obtain⟨o,S,_⟩:=I.stack.mem m|>.2;rw[F.un.free b o S l (by simp)]at z;cases z
 have Q:=xW F.un (λb o z j c=>h.1 b o (k b o z j c)) fm M;refine⟨a,C,n,rfl,⟨F.os.trans I.os,F.bare,vD I Q,F.hok.tracked λb u r z L=>h.1 b r (k b r L (D b u z) (.inr ⟨u,z⟩)),F.new,Dz I F.old,B,Z,h,λb o z j c=>?_⟩,q⟩;have Vl:b∉frs (kM P w K mg base N qual scope f cd A outer s H E).stack:=λm=>by
  rcases c with⟨d,e⟩|⟨u,e⟩
  .rcases(R b).mp m with m|m
   .exact absurd (Fm e) (by rw[m];exact PQ _)
   .exact j m
  .exact D b u e m
 have y:(∃d,i.heap.get? b=some d)\/∃u,n b=some u:=by
  rcases c with⟨d,e⟩|z
  .exact .inl (Un.there (show Un (frs outer) [] H H1 s.heap i.heap from I.base) b d e (by simp))
  .exact .inr z
 have:∃o1,s'.heap.get? b=some o1:=by
  rcases y with⟨d,e⟩|⟨u,e⟩
  .exact F.un.there b d e (by simp)
  .exact(F.hok b u e).thing
 obtain⟨o1,l⟩:=this;have v:=k b o1 l Vl y;have Y:=h.1 b o1 v;have p:X.get? b=some o:=z;rw[Y]at p;cases p;exact v
theorem Ln:Passes (iY P w) (kM P w K mg base N qual scope f cd A outer s H E) E:=λ_ _ _ _ _ _ I h=>DA I h
end
abbrev Wy:List Value:=[.type "ValueError",.type "Exception",.type "BaseException",.type "object"]
structure pK(K:Frag)(C:Addr):Prop where
 exc:excIn K C Wy "ValueError.__new__"=true
 ga:findIn K (.ref C) "__getattribute__"=some (some (.builtin "BaseException.__getattribute__"))
 gt:findIn K (.ref C) "__getattr__"=some none
 cl:findIn K (.ref C) "__class__"=some (some (.builtin "object.__class__"))
 ob:mroIn K C (.type "object")=some true
 bs:mroIn K C (.type "BaseException")=some true
theorem HD{p:Prop}(h:false=true):p:=nomatch h
theorem HE{o:Option Obj}{F:Option Addr->ClassData->Array (Option Value)->Bool}(q:PySem.W.excIn.match_6 (λ_=>Bool) o F (λ_=>false)=true):∃d c l,o=some ⟨.type "type",d,.cls c,l⟩/\F d c l=true:=by
 rcases o with _|⟨b,g,a,f⟩
 .exact HD q
 cases b with
 |type s=>
  by_cases e:s="type"
  .subst e;cases a with
   |cls h=>exact⟨_,_,_,rfl,q⟩
   |_=>exact HD q
  .delta PySem.W.excIn.match_6 at q
   exact HD ((dif_neg e).symm.trans q)
 |_=>exact HD q
theorem exB{m:List Value}{l:List (Option Value)}{F:Addr->List Value->Option Value->Option Value->Option Value->Option Value->String->Option Value->Bool}(q:PySem.W.excIn.match_1 (λ_ _=>Bool) m l F (λ_ _=>false)=true):∃a b k0 k1 k2 k3 n k5,m=.ref a::b/\l=[k0,k1,k2,k3,some (.builtin n),k5]/\F a b k0 k1 k2 k3 n k5=true:=by
 rcases m with _|⟨v,d⟩
 .exact HD q
 cases v with
 |ref e=>
  rcases l with _|⟨k0,_|⟨k1,_|⟨k2,_|⟨k3,_|⟨_|v,r⟩⟩⟩⟩⟩<;>try exact HD q
  cases v with
  |builtin n=>
   rcases r with _|⟨k5,_|⟨c,r⟩⟩<;>try exact HD q
   exact⟨_,_,_,_,_,_,_,_,rfl,rfl,q⟩
  |_=>exact HD q
 |_=>exact HD q
theorem oh{K:Frag}{h:Heap}{C:Addr}{b:List Value}{a:String}(X:K.In h)(q:excIn K C b a=true):
 ∃bm N nm c bs hdct sn sub ab col dd k0 k1 k2 k3 k5 mN,h.get? C=some (excClassObj nm c C N bs bm hdct sn sub ab col dd k0 k1 k2 k3 k5 a)/\h.Ns N mN/\mN "__init__"=none/\OwnTail h b bm:=by
 obtain⟨dd,u,d,i,q⟩:=HE q;have s:=X _ _ i;clear i;obtain⟨v,bm,k0,k1,k2,k3,n,k5,g,f,q⟩:=exB q;obtain⟨nm,bs,r,p,c,hd,sn,sub,ab,col,t⟩:=u;obtain⟨d⟩:=d;dsimp only at g f q;subst g f;simp only[AC,HI,W1]at q;obtain⟨⟨⟨⟨⟨o,m⟩,l⟩,k⟩,e⟩,j⟩:=q;subst o m l;exact⟨bm,p,nm,c,bs,hd,sn,sub,ab,col,dd,k0,k1,k2,k3,k5,_,s,Heap.Ns.of_isNs (PySem.W.isNs_of_in X e),PySem.W.nsMap_none_of_in X e j,PySem.W.tail_of_in X k⟩
noncomputable def xY(X:Cx)(R:Addr->Hp->Prop):Prop:=∀(b:List (Addr×Obj))(e:St)(H:Hp)(s:Shared)(d:Heap)(a C:Addr)(c:List Value),Inv X b e H s->Heap.MadeExcOf s.heap d a (.ref C) c->R C H->X.xe (.ref a) {s with heap:=d}
theorem zj{P:Program}{w:World}{K:Frag}{d:Str->Option Value}{base:Heap}{N:List Str}{c:Str}{a:Scope}{f:Addr}{g:Value}{A:Around}{b:List Env}{s:Shared}{H:Hp}{E:XK}:
 xY (kM P w K d base N c a f g A b s H E) (λC H'=>E (.ref C) none H'):=λ_ _ _ _ _ _ _ _ I e q=>xX I e q
noncomputable def Nc(R:Addr->Hp->Prop)(C:Addr)(t:TA):TS:=λ_ a H=>t a H λb c=>b.length<=sizeLine/\R C c
section
variable{X:Cx}{x:Str}{C:Addr}{e:Expr}{t:TA}{np cpos pos:Pos}{R:Addr->Hp->Prop}
theorem DB(v:xY X R)(p:X.calm=true)(o:Gl X x)(m:X.mg x=some (.ref C))(q:pK X.K C)(u:PA X [e] t)(g:starEach [e] X.env=[(false,eval e X.env)]:=by rfl)
 (hd:(x==("__debug__":Str))=false:=by decide):PS X (.Raise (some (.Call (.Name x np) [e] [] cpos)) none pos) (Nc R C t):=by
 intro b s f H D I h;obtain⟨bm,N,nm,j,bs,hdct,sn,sub,ab,col,dd,k0,k1,k2,k3,k5,mN,y,w,d,T⟩:=oh I.ok.mod.Ld q.exc;refine wpAny_Raise_call_subT (C:=C) (bm:=bm) (mN:=mN) (nm:=nm) (q:=j) (N:=N) (bs:=bs) (hdct:=hdct) (sn:=sn) (sub:=sub) (ab:=ab) (col:=col) (dd:=dd) (k0:=k0) (k1:=k1) (k2:=k2) (k3:=k3) (k5:=k5) (F:=PySem.F.excBase_ValueError) (T.hasType PySem.F.excBase_ValueError.hasBase) (I.ok.hd p) (by rw[g];rfl) d (jC I o m ⟨rfl,?_⟩ hd);have i:=u cpos b s f H _ I h;rw[g]at i⊢;refine Calls.evalArgs_plain (bD i λJ s2 z=>?_);obtain⟨E,B,c,r,n,k⟩:=z;refine⟨rfl,by rw[<-r.length];exact n,c.bk _ _ y,w.keeps c.bk,T.keeps c.bk,λA a l=>v b f B s2 A a C _ c l k⟩
end
theorem PS.G3{X:Cx}{st:Stmt}{t:TS}(h:PS X.G3 st t):PS X st t:=λa s b H D I c=>Oy (h a s b H D (I.iR _) c) (λ_ _ q=>q.eX) λ_ _ z=>FP z
theorem Dv.Vm{P:Program}{w:World}{K:Frag}{i:Str->Option Value}{base:Heap}{x b:Str}{st:Stmt}{f:Addr}{j:FuncData}{N ps:List Str}{k:Nat}{sp:Sp}(F:Dv K x b st f j)(S:fT N ps (aq st))
 (d:∀vs H Q E,sp vs H Q E->vs.length=ps.length)
 (o:∀(c:Value)(A:Around)(a:List Env)(s:Shared)(H:Hp)(vs:List V)(Q:VK)(E:XK),cC k (A.deeper (envOfC b (aq st) s.heap.objs.size f c))->sp vs H Q E->
   ∃t,vd (kM P w K i base N b (aq st) f c A a s H E) (aZ st) t/\t {nx:=λ_ H'=>Q .aG H',rt:=Q} (start N vs) H):bJ P w K i base (iY P w) (k+1) f j ps sp:=by
 obtain⟨u,r,kV,p,q,y,c,v,l,e,m,g⟩:=F.ex;subst e;exact Sy m g S d λA a s H vs Q E n h=>o c A a s H vs Q E n h
theorem bJ.SO{P:Program}{w:World}{K:Frag}{c:Str->Option Value}{base:Heap}{k:Nat}{f:Addr}{d:FuncData}{ps:List Str}{sp:Sp}(F:bJ P w K c base (iY P w) k f d ps sp):
 bJ P w K c base SK k f d ps (λvs H Q _=>sp vs H Q E0):=
 ⟨λvs H Q E h=>F.len vs H Q E0 h,λA a s H b g vs Q E i m j r h=>aw (F.run A a s H b g vs Q E0 i m j r h) λr n z=>by
   cases r with
   |error e=>obtain⟨_,_,_,_,_,q⟩:=z;exact q.elim
   |ok l=>cases l<;>exact z⟩
noncomputable def FX(X:Cx)(a:List (Addr×Obj))(d:St)(E:XK)(e:Value)(s':Shared):Prop:=∃c b,Inv X a d c b/\iY X.prog X.w X.stack c b E e s'
abbrev TX:=St->Hp->VK->XK->Prop
noncomputable def PX(X:Cx)(e:Expr)(t:TX):Prop:=
 ∀(a:List (Addr×Obj))(s:Shared)(b:St)(H:Hp)(Q:VK)(E:XK),Inv X a b H s->t b H Q E->wpAny (model X.prog X.w) X.A (eval e X.env) (EP X a b Q) (FX X a b E) s
section
variable{X:Cx}{k:Nat}{f:Addr}{fd:FuncData}{ps:List Str}{sp:Sp}{x:Str}{p pos:Pos}{e:Expr}{es:List Expr}{t:TA}
end
noncomputable def jV(a C:Addr)(h:Heap):Prop:=∃b c,h.get? a=some b/\b.cls=.ref C/\b.data=.fields c
noncomputable def DC(a C:Addr):HO:=.ext (jV a C)
section
variable{X:Cx}{pins:List (Addr×Obj)}{σ:St}{H:Hp}{s:Shared}
abbrev iu(X:Cx)(a:Addr):Cx:={X with A:=X.A.mark (some (.ref a)),calm:=false,xe:=λ_ _=>False}
theorem Inv.suite(I:Inv X pins σ H s)(a:Addr):Inv (iu X a) pins σ H s:=
 ⟨⟨I.ok.mod,I.ok.kind,I.ok.glob,I.ok.blt,I.ok.above,I.ok.inj,I.ok.has,I.ok.Ri,(λz=>by cases z),I.ok.frames,I.ok.stk,I.ok.Vg,I.ok.bs,I.ok.GH,I.ok.Ay,I.ok.Az,I.ok.lU,I.ok.Le,I.ok.tree,I.ok.RY⟩,I.os,I.bare,I.base,I.loc,I.cell,I.free,I.eW,I.pin,I.hok,I.len⟩
theorem Inv.om{a:Addr}(b:X.Ok)(I:Inv (iu X a) pins σ H s):Inv X pins σ H s:=
 ⟨b,I.os,I.bare,I.base,I.loc,I.cell,I.free,I.eW,I.pin,I.hok,I.len⟩
theorem Inv.adopt{H1:Hp}{j:Shared}{a:Addr}{f:Heap->Prop}(i:Inv X pins σ H1 j)(M:j.heap.get? a=none)(I:Inv X pins σ H s)(n:H a=none)(p:f s.heap)(K:∃o,s.heap.get? a=some o)
 (st:∀y w:Heap,f y->(∀o,y.get? a=some o->w.get? a=some o)->f w):Inv X pins σ (upd H a (.ext f)) s:=by
 have h:∀b o,j.heap.get? b=some o->b≠a:=λb o z e=>by rw[e,M]at z;cases z
 have g:∀b u,H b=some u->upd H a (.ext f) b=some u:=λb u z=>by rw[ay (bx z n)];exact z
 refine⟨I.ok,I.os,I.bare,⟨I.base.keep,I.base.slot,λb o q m l=>?_,I.base.there,λb k q=>g b _ (I.base.tups b k q),λb o v q=>g b _ (I.base.jZ b o v q),λb E q=>?_⟩,I.loc,I.cell,?_,λx c e=>?_,λp r=>?_,λb u z=>?_,I.len⟩
 .obtain⟨F,d⟩:=i.base.there b o q l;rw[ay (h b F d)];exact I.base.free b o q m l
 .obtain⟨J,d⟩:=I.base.kN b E q;exact⟨J,g b _ d⟩
 .obtain⟨m,L,_⟩:=i.loc;obtain⟨o,_,_,d,_⟩:=L;rw[ay (h _ o d)];exact I.free
 .obtain⟨v,o,d,_⟩:=i.cell x c e;rw[ay (h _ o d)];exact I.eW x c e
 .obtain⟨D,C,B⟩:=I.pin p r;refine⟨D,?_,B⟩;obtain⟨A,_⟩:=i.pin p r;rw[ay (h _ _ A)];exact C
 .by_cases t:b=a
  .subst t;rw[aD]at z;cases z;exact⟨p,K,st⟩
  .rw[ay t]at z;exact(I.hok b u z).stay (λ_ _ _ q=>q) (λc q=>g c _ q) λc k q=>g c _ q
theorem name_goes{M:Model}{A:Around}{E:Value->Shared->Prop}{i:Nat}{n:Str}{pos:Pos}{Q:Unit->Shared->Prop}(I:Inv X pins σ H s)(hN:X.N.Nodup)(K:X.N[i]?=some n)(hl:X.env.scope.names.lookup n=some .local)
 (h:∀s',Inv X pins (σ.set i none) H s'->Q () s'):wpAny M A (do bindName X.env n .none;unbindBehindTheSuite X.env n pos) Q E s:=by
 obtain⟨m,J,w⟩:=id I.loc;have l:(X.env.scope.kind==.class||(X.env.scope.kind==.module&&X.env.locals !=X.env.globals))=false:=by rw[I.ok.kind];rfl
 have GZ:i<σ.length:=by rw[I.len];exact(GT.mp K).1
 have CU:=I.CU;refine wpAny_nameGoes_keeps hl J l λh' v t a=>?_;obtain⟨oL,_,_,Y9,_⟩:=id J;have C:∀b o,X.s₀.heap.get? b=some o->b≠X.env.locals:=λb o e=>KM (FM (Fm e) I.ok.above);refine h _ ⟨I.ok,I.os,I.bare,⟨λb o e n B g=>?_,λb o e n B g=>?_,I.base.free,λb o e g=>?_,I.base.tups,I.base.jZ,I.base.kN⟩,⟨_,t,λj y P f r e3=>?_⟩,λy c e=>?_,I.free,I.eW,λp Z=>?_,?_,by simpa using I.len⟩
 .exact(a.2 b (C b o e)).trans (I.base.keep b o e n B g)
 .obtain⟨R,f⟩:=I.base.slot b o e n B g;exact⟨R,(a.2 b (C b o e)).trans f⟩
 .obtain⟨T,f⟩:=I.base.there b o e g;exact⟨T,(a.2 b (C b o e)).trans f⟩
 .by_cases x:j=i
  .subst x;rw[Kj GZ]at r;cases r
  .rw[Hk (OF x)]at r;obtain⟨D,S,q⟩:=w j y P f r e3;refine⟨D,S,?_⟩;rcases q with⟨k,e⟩|⟨k,c,e,z⟩
   .refine .inl ⟨k,?_⟩;have:y≠n:=λe=>x (oW hN f (e▸K));show(if y=n then v else m y)=some D;rw[Bi this];exact e
   .exact .inr ⟨k,c,e,z.sameBut a (CU y c e)⟩
 .obtain⟨O,z⟩:=I.cell y c e;exact⟨O,z.sameBut a (CU y c e)⟩
 .obtain⟨e,Y,F,U,d⟩:=I.pin p Z;exact⟨(a.2 p.1 F).trans e,Y,F,U,d⟩
 .exact I.hok.tracked λb u ob z L=>(a.2 b λe=>by rw[e,I.free]at z;cases z).trans L
end
theorem xZ{M:Model}{A:Around}{E:Value->Shared->Prop}{K:Frag}{s:Shared}{a C D:Addr}{i:Obj}{Q:Bool->Shared->Prop}(X:K.In s.heap)(v:pK K C)(e:pK K D)(he:s.heap.get? a=some i)(c:i.cls=.ref C)
 (b:mroIn K C (.ref D)=some true)(l:Q true s):wpAny M A (excMatches (.ref a) (.ref D)) Q E s:=by
 obtain⟨h,g,d,t,w⟩:=s;obtain⟨O,N,x,u,bs,j,r,k,P,o,L,I,H,F,B,z,y,n,J,m,T⟩:=oh X e.exc;have q:=XB (M:=M) X b;have p:=XB (M:=M) X e.bs;have f:=tc_notTuple;unfold excMatches
 repeat (first|(with_reducible refine wpAny_loadPart_at he ?_;rw[c])|with_reducible refine wpAny_loadPart_at n ?_|exact l|with_reducible refine q.at ?_|with_reducible refine p.at ?_|wp_step)
abbrev Ends.past(D:Ends)(i:Nat):Ends:={nx:=λσ' H'=>D.nx (σ'.set i none) H',rt:=D.rt,bk:=λσ' H'=>D.bk (σ'.set i none) H',ct:=λσ' H'=>D.ct (σ'.set i none) H'}
theorem Inv.SM{X:Cx}{c:List (Addr×Obj)}{i:St}{H1 d:Hp}{e s2 s3:Shared}{a C:Addr}{B:Heap}{v:Value}(I:Inv X c i H1 e)(F:Zg X.prog X.w X.stack H1 e d a C s2)
 (l:∀b o,s2.heap.get? b=some o->b∉frs X.stack->((∃q,e.heap.get? b=some q)\/∃u,d b=some u)->B.get? b=some o)(x:Heap.FlyingW B X.stack a (.ref C) v s2.heap)(j:B.StaysIn s3.heap)(up:s2.heap.UpToSlots s3.heap)
 (h:s3.os=s2.os)(t:s3.gens=s2.gens):Inv X c i d s3:=by
 have fm:∀b,b∈frs X.stack->∃o,s2.heap.get? b=some o/\∀p,o.data≠.fields p:=λb g=>(x.2.2.1.mem g).2;have y:∀b u,d b=some u->b∉frs X.stack:=λb u z m=>by have h:=I.jB b m;obtain⟨o,s,_⟩:=I.stack.mem m|>.2;rw[F.un.free b o s h (by simp)]at z;cases z
 refine I.CV (ch:=[]) (h.trans F.os) (xW F.un (λb o z r f=>j b o (l b o z r f)) fm up) (F.hok.tracked λb u k z n=>j b k (l b k n (y b u z) (.inr ⟨u,z⟩))) (by rw[t];exact F.bare) λb g=>absurd g (by simp)
section
variable{prog:Program}{w:World}{A:Around}{E:Value->Shared->Prop}{s:Shared}{K:Frag}{a C:Addr}
theorem i8{M:Model}{h:Heap}(p:jV a C h):PySem.W.Looks M h (typeOf (.ref a)) (.ref C):=by obtain⟨o,d,c,b,e⟩:=p;exact b▸(PySem.W.Looks.ld c).andThen .now
theorem HF{c:Value}{R:Result->Shared->Prop}(X:K.In s.heap)(p:jV a C s.heap)(q:pK K C)(h:R (.ok (.ret (.ref C))) s):
 codeAny (model prog w) A (.call (.builtin "getset_descriptor.__get__") ⟨[.builtin "object.__class__",.ref a,c],[]⟩) R s:=by
 obtain⟨e,g,f,t,d⟩:=s;have j:=i8 (M:=model prog w) p;have i:=XB (M:=model prog w) X q.ob;have b:=PySem.W.KF.slot_gs;refine codeAny_call_builtin b.plain PySem.W.KF.entry_gs (b.check _ _ _ _ _ _ _ _ PySem.W.KF.type_class (PySem.W.KF.args_gs _ _ _) ?_);unfold Builtin.«getset_descriptor.__get__»;unfold Builtin.Getset_descriptor.descrGet;rw[PySem.W.dga_obj];apply Da;apply GM;unfold Builtin.Getset_descriptor.descrGetter;unfold Builtin.Getset_descriptor.descrCheckInstance;unfold Builtin.Getset_descriptor.descrNameAndClass;unfold isInstance;simp only[PySem.W.KF.owner_class]
 repeat lk
 refine⟨Code.quiet_builtin _ (by decide+kernel),codeAny_builtin PySem.W.KF.entry_class ?_⟩;unfold Builtin.«object.__class__»;unfold shownTypeOf
 repeat lk
 exact h
theorem AZ{b:Tok}{Q:Fin->Shared->Prop}(X:K.In s.heap)(p:jV a C s.heap)(q:pK K C)(h:Q (.done (.ret (.ref C))) s):
 wpAny (model prog w) A (Builtin.«object.__getattribute__» ⟨[.ref a,.str "__class__" b],[]⟩) Q E s:=by
 obtain⟨d,g,f,t,c⟩:=s;have j:=i8 (M:=model prog w) p;have i:=X9 (M:=model prog w) X q.cl;have e:(⟨d,g,f,t,c⟩:Shared).TypeIs (.builtin "object.__class__") "getset_descriptor":=F.typeOf_object_class;have m:=F.typeOf_object_class;have l:=F.slot_gs_get.lookup;have k:=F.slot_gs_set.lookup
 repeat (any_goals (first|assumption|with_reducible refine j.at ?_|with_reducible refine i.at ?_|wp_step))
 refine HF X p q ?_
 repeat (any_goals (first|assumption|wp_step))
theorem A3{M:Model}{b:Value}{Q:Unit->Shared->Prop}(X:K.In s.heap)(p:jV a C s.heap)(q:pK K C)(h:Q () s):wpAny M A (checkBuiltinCall "BaseException.__getattribute__" ⟨[.ref a,b],[]⟩) Q E s:=by
 obtain⟨k,g,l,t,i⟩:=s;have f:=i8 (M:=M) p;have e:=XB (M:=M) X q.bs;have d:builtinKind "BaseException.__getattribute__"=some .slot:=by decide+kernel
 have c:splitId "BaseException.__getattribute__"=some ("BaseException","__getattribute__"):=by decide+kernel
 have j:=F.args_bexc_ga (.ref a) b;simp only[checkBuiltinCall,d,c];apply Da;unfold isInstance
 repeat (first|with_reducible refine f.at ?_|with_reducible refine e.at ?_|wp_step)
 exact h
theorem DE{b:Tok}{R:Result->Shared->Prop}(X:K.In s.heap)(p:jV a C s.heap)(q:pK K C)(h:R (.ok (.ret (.ref C))) s):
 codeAny (model prog w) A (.call (.builtin "BaseException.__getattribute__") ⟨[.ref a,.str "__class__" b],[]⟩) R s:=
 codeAny_call_builtin PySem.F.excAttr_ValueError.ga.plain F.entry_bexc_ga (A3 X p q (AZ X p q h))
theorem Nd{e:Tok}{c b:Bool}{Q:Value->Shared->Prop}(X:K.In s.heap)(p:jV a C s.heap)(q:pK K C)(h:Q (.ref C) s):wpAny (model prog w) A (getAttrBy (.ref a) (.str "__class__" e) c b) Q E s:=by
 obtain⟨n,g,r,t,m⟩:=s;have j:=i8 (M:=model prog w) p;have i:=X9 (M:=model prog w) X q.ga;have f:=X9 (M:=model prog w) X q.gt;have o:=PySem.F.excAttr_ValueError.ga.bind (.ref a);have l:(b&&onTheHeap (Value.builtin "BaseException.__getattribute__"))=false:=by
  cases b<;>rfl
 have d:(Value.builtin "BaseException.__getattribute__"==Value.builtin "object.__getattribute__")=false:=by decide+kernel
 have k:(onTheHeap (Value.ref C)&&Value.builtin "BaseException.__getattribute__"==Value.builtin "object.__getattribute__")=false:=by rw[d];rfl
 repeat (any_goals (first|assumption|with_reducible refine j.at ?_|with_reducible refine i.at ?_|with_reducible refine f.at ?_|wp_step))
 refine DE X p q ?_
 repeat (any_goals (first|assumption|wp_step))
theorem A4{Q:Option Value->Shared->Prop}(X:K.In s.heap)(p:jV a C s.heap)(q:pK K C)(h:Q (some (.ref C)) {s with toks:=s.toks+1}):wpAny (model prog w) A (getAttr? (.ref a) "__class__") Q E s:=by obtain⟨c,g,d,t,b⟩:=s;unfold getAttr?;unfold getAttrBy?;refine Da (wpAny_mkText (Da (wpAny_attempt (Nd (s:=⟨c,g,d,t+1,b⟩) X p q ?_))));exact GM h
theorem DF(q:pK K C):PySem.W.KitX K (.ref a) (.ref C) (jV a C)where
 ty:=λM h X p=>i8 p
 it:=λM h X p=>by obtain⟨H,N,o,m,F,c,l,d,I,g,D,y,x,v,u,t,r,f,_⟩:=oh X q.exc;intro R O Q L k z;unfold isType;unfold loadHead;exact Da (wpAny_loadPart (k _ _ f) (GM z))
 ne:=λh j D B n J X b=>by obtain⟨H,N,o,m,F,c,l,d,I,g,P,y,x,v,u,t,r,f,_⟩:=oh X q.exc;refine SC.mpr λz=>?_;have e:C=j:=Value.ref.inj (HI.mp z);subst e;rw[f]at b;have i:=Hb Obj.data (Ha b);exact nomatch i
 ca:=λX p h=>A4 X p q h
end
inductive Nf:V->Value->Prop where
 |own (D:Addr):Nf (.ref D) (.ref D)
 |ty (n:String):Nf (.ty n) (.type n)
theorem pL{X:Cx}:bF X (.builtin "isinstance") (λf H Q=>∃a C c d b,f=[.ref a,c]/\H a=some (DC a C)/\pK X.K C/\Nf c d/\kitOne X.K (.ref C) d=some b/\Q (.bl b) H):=by
 intro i s u H f v Q I r h;obtain⟨a,C,c,d,b,rfl,o,q,m,e,z⟩:=h;obtain⟨k,j,rfl,l,g⟩:=vals2 r;cases(show k=Value.ref a from l);have t:j=d:=by
  cases m with
  |own D=>exact g
  |ty n=>exact g
 subst t;obtain⟨p,_,_⟩:=(show bC X.prog X.w H s.heap a (.ext (jV a C))from I.hok a _ o);exact Os (DF q) I.jT p e (λz=>nomatch z) λx=>⟨.bl b,H,I.tok _,rfl,z⟩
noncomputable def SQ(K:Frag)(j i:Nat)(D:Addr)(te:TX)(e:TS):TS:=λW d H=>te d H (λv b=>W.nx (d.set j (some v)) b) (λc _ b=>∃C,c=.ref C/\pK K C/\mroIn K C (.ref D)=some true/\
 ∀a,b a=none->e (W.past i) (d.set i (some (.ref a))) (upd b a (DC a C)))
theorem HG{X:Cx}{e:Expr}{y n x:Str}{j i:Nat}{D:Addr}{c:Stmt}{suite:List Stmt}{te:TX}{th:TS}{p0 p1 p2 np pos:Pos}(g:X.stack=X.env::X.outer/\X.env.frame=some X.env.locals)(o:X.N.Nodup)(hj:X.N[j]?=some y)(hy:Loc X.env.scope y)(w:X.N[i]?=some n)
 (m:X.env.scope.names.lookup n=some .local)(hg:Gl X x)(hm:X.mg x=some (.ref D))(qD:pK X.K D)(he:PX X e te)(hs:∀a,vd (iu X a) (c::suite) th)(O:swapsWith e (some (.Name y p0)) p1.line X.env=pure false:=by rfl)
 (hd:(x==("__debug__":Str))=false:=by decide)(Q:X.fn y=true\/X.env.scope.names.lookup y=some .local:=by first|exact .inl rfl|exact .inr rfl|assumption):PS X (.Try [.Assign [.Name y p0] e p1] [.ExceptHandler (some (.Name x np)) (some n) (c::suite) p2] [] [] pos) (SQ X.K j i D te th):=by
 intro b s E H W I h;refine wpAny_Try_except (wpAny_execs_cons (wpAny_Assign_Name (Oy (he b s E H _ _ I h) (λv p z=>?_) λev p z=>?_) O))
 .obtain⟨u,H1,I1,r1,q1⟩:=z;exact cW I1 o hj hy r1 (λs2 I2=>Wp (Wp ⟨_,H1,I2,q1⟩)) Q
 obtain⟨H1,s0,U,a,C,Y,rfl,F,C',R,qC,t,q⟩:=z;cases R;obtain⟨B,a0,T,kB⟩:=F.SM;have fr:X.A.frames=some (X.env::X.outer):=by rw[I.ok.frames,g.1]
 have S:Heap.FlyingW B (X.env::X.outer) a (.ref C) a0 p.heap:=by rw[<-g.1];exact T
 refine wpAny_looks_onW fr g.2 S λh4 y4 u4=>wpAny_landsW y4 λh5 L u5=>?_;have I5:Inv X b E Y {p with heap:=h5}:=U.SM F kB T L.1 (u4.trans u5) rfl rfl;obtain⟨ob,P,Wz⟩:=L.there;refine wpAny_handleBy_cons (codeAny_handlers_test (jC (X:=iu X a) (I5.suite a) hg hm ?_ hd)) (by intro z;cases z);refine xZ (K:=X.K) I5.jT qC qD P Wz t (codeAny_handlers_suite_as ?_);refine lands_againW L λh6 y6 u6=>?_;have I6:Inv X b E Y {p with heap:=h6}:=U.SM F kB T y6.1 ((u4.trans u5).trans u6) rfl rfl;obtain⟨oe,vs,g1,g2,g3,_⟩:=y6.first
 have I7:Inv X b E (upd Y a (DC a C)) {p with heap:=h6}:=Inv.adopt U F.old I6 F.new ⟨oe,vs,g1,g2,g3⟩ ⟨oe,g1⟩ λh1 h2 z k=>by obtain⟨o1,v1,z1,z2,z3⟩:=z;exact⟨o1,v1,k _ z1,z2,z3⟩
 refine cW (X:=iu X a) (v:=.ref a) (I7.suite a) o w (.inl m) rfl (λs7 I8=>?_) (.inr m);refine Oy (hs a b s7 _ _ _ I8 (q a F.new)) (λf s8 z=>?_) λ_ _ z=>FP z;cases f with
 |next=>obtain⟨d,Z,J,z⟩:=z;exact name_goes (J.om I.ok) o w m λM l=>⟨_,_,l,z⟩
 |brk=>obtain⟨d,Z,J,z⟩:=z;exact name_goes (J.om I.ok) o w m λM l=>⟨_,_,l,z⟩
 |cont=>obtain⟨d,Z,J,z⟩:=z;exact name_goes (J.om I.ok) o w m λM l=>⟨_,_,l,z⟩
 |ret u=>obtain⟨v,d,Z,J,r,z⟩:=z;exact name_goes (J.om I.ok) o w m λM l=>⟨_,_,_,l,r,z⟩
section
variable{κ:Type}[DecidableEq κ]
noncomputable def l8(kvs:List (κ×V))(k:κ):Option V:=(kvs.find? λa=>decide (a.1=k)).map (·.2)
noncomputable def putK(kvs:List (κ×V))(k:κ)(v:V):List (κ×V):=
 if(kvs.any λa=>decide (a.1=k))=true then kvs.map (λa=>if a.1=k then(a.1,v)else a)else kvs++[(k,v)]
theorem kY{p:κ×V}{r:List (κ×V)}{k:κ}(e:p.1=k):l8 (p::r) k=some p.2:=by simp[l8,Lo,e]
theorem kZ{p:κ×V}{r:List (κ×V)}{k:κ}(e:¬p.1=k):l8 (p::r) k=l8 r k:=by simp[l8,Lo,e]
theorem vF(k:κ):∀kvs:List (κ×V),(kvs.any λa=>decide (a.1=k))=(l8 kvs k).isSome
 |[]=>rfl
 |p::r=>by
  rw[LR];by_cases e:p.1=k
  .simp only[kY e,Bz e,Zc,Option.isSome_some]
  .rw[kZ e,DL e,ZW];exact vF k r
theorem i9(kvs:List (κ×V))(k:κ)(v:V):(putK kvs k v).length<=kvs.length+1:=by
 unfold putK;split
 .rw[Fk];omega
 .rw[AN,A0,CC];omega
theorem iQ.A5{o:Option V}{u:Option Value}(r:iQ o u):o.isSome=u.isSome:=by
 cases o with
 |none=>cases u with
  |none=>rfl
  |some _=>exact(show False from r).elim
 |some _=>cases u with
  |none=>exact(show False from r).elim
  |some _=>rfl
theorem iQ.getD{o:Option V}{u:Option Value}{d:V}{d':Value}(r:iQ o u)(a:RelV d d'):RelV (o.getD d) (u.getD d'):=by
 cases o with
 |none=>cases u with
  |none=>exact a
  |some _=>exact(show False from r).elim
 |some _=>cases u with
  |none=>exact(show False from r).elim
  |some _=>exact r
theorem KV.val{kvs:List (κ×V)}{vs:List (κ×Value)}(r:KV kvs vs)(k:κ):iQ (l8 kvs k) (valueAt vs k):=by
 unfold KV at r
 induction r with
 |nil=>exact Kd
 |@cons p q i a h t f=>
  obtain⟨d,g⟩:=h;by_cases e:p.1=k
  .have c:q.1=k:=d.symm.trans e;have b:valueAt (q::a) k=some q.2:=by simp[valueAt,Lo,c]
   rw[kY e,b];exact g
  .have c:¬q.1=k:=λz=>e (d.trans z);have b:valueAt (q::a) k=valueAt a k:=by simp[valueAt,Lo,c]
   rw[kZ e,b];exact f
theorem KV.any{kvs:List (κ×V)}{vs:List (κ×Value)}(r:KV kvs vs)(k:κ):(kvs.any λa=>decide (a.1=k))=vs.any λa=>decide (a.1=k):=by
 unfold KV at r
 induction r with
 |nil=>rfl
 |cons h t b=>rw[LR,LR,b,h.1]
theorem KV.repl{kvs:List (κ×V)}{vs:List (κ×Value)}(r:KV kvs vs)(k:κ){y:V}{u:Value}(c:RelV y u):
 KV (kvs.map λa=>if a.1=k then(a.1,y)else a) (vs.map λa=>if a.1=k then(a.1,u)else a):=by
 unfold KV at r⊢
 induction r with
 |nil=>exact .nil
 |@cons p q i g h t d=>
  rw[Hn,Hn];refine .cons ?_ d;obtain⟨b,f⟩:=h;by_cases e:p.1=k
  .rw[Do e,Do (b.symm.trans e)];exact⟨b,c⟩
  .rw[Bi e,Bi (λz=>e (b.trans z))];exact⟨b,f⟩
theorem KV.put{kvs:List (κ×V)}{vs:List (κ×Value)}(r:KV kvs vs)(k:κ){y:V}{u:Value}(a:RelV y u):KV (putK kvs k y) (stored vs k u):=by
 unfold putK stored;rw[r.any k];by_cases e:(vs.any λb=>decide (b.1=k))=true
 .rw[Do e,Do e];exact r.repl k a
 .rw[Bi e,Bi e];exact Paired.snoc r ⟨rfl,a⟩
theorem KV.keys{kvs:List (κ×V)}{vs:List (κ×Value)}(r:KV kvs vs):kvs.map (·.1)=vs.map (·.1):=by
 unfold KV at r
 induction r with
 |nil=>rfl
 |cons h t a=>rw[Hn,Hn,a,h.1]
theorem KV.length{kvs:List (κ×V)}{vs:List (κ×Value)}(r:KV kvs vs):kvs.length=vs.length:=Paired.length r
end
theorem zk{P:Program}{w:World}{k:Key}{u:Value}(r:RelV (kV k) u):(bE P w).is k u=true:=by
 cases k with
 |inl i=>obtain⟨t,e⟩:=(show∃t,u=Value.int i t from r);subst e;exact vh P w i t
 |inr x=>obtain⟨t,e⟩:=(show∃t,u=Value.str x t from r);subst e;exact vj P w x t
theorem sJ{P:Program}{w:World}:∀{a:List Key}{us:List Value},Vals (a.map kV) us->ItemsAre (bE P w) a us
 |[],_,r=>by rw[cf]at r;cases r;exact .nil
 |k::a,_,r=>by
  rw[Hn]at r;cases r with
  |cons h t=>exact .cons (zk h) (sJ t)
abbrev KT(H:Hp):List (List Key×V)->List (List Key×Addr×Value)->Prop:=Paired λp q=>p.1=q.1/\H q.2.1=some (.tup (p.1.map kV))/\RelV p.2 q.2.2
theorem KT.val{H:Hp}{kvs:List (List Key×V)}{d:List (List Key×Addr×Value)}(r:KT H kvs d)(k:List Key):iQ (l8 kvs k) ((atKey d k).map (·.2)):=by
 induction r with
 |nil=>exact Kd
 |@cons p q j a h t g=>
  obtain⟨f,_,i⟩:=h;by_cases e:p.1=k
  .have c:q.1=k:=f.symm.trans e;have b:atKey (q::a) k=some q.2:=by simp[atKey,Lo,c]
   rw[kY e,b];exact i
  .have c:¬q.1=k:=λz=>e (f.trans z);have b:atKey (q::a) k=atKey a k:=by simp[atKey,Lo,c]
   rw[kZ e,b];exact g
theorem KT.repl{H:Hp}{kvs:List (List Key×V)}{c:List (List Key×Addr×Value)}(r:KT H kvs c)(k:List Key){y:V}{u:Value}(f:RelV y u):
 KT H (kvs.map λb=>if b.1=k then(b.1,y)else b) (c.map (putAt k u)):=by
 induction r with
 |nil=>exact .nil
 |@cons p q l j h t g=>
  rw[Hn,Hn];refine .cons ?_ g;obtain⟨a,d,i⟩:=h;unfold putAt;by_cases e:p.1=k
  .rw[Do e,Do (a.symm.trans e)];exact⟨a,d,f⟩
  .rw[Bi e,Bi (λz=>e (a.trans z))];exact⟨a,d,i⟩
theorem KT.put{H:Hp}{kvs:List (List Key×V)}{a:List (List Key×Addr×Value)}(r:KT H kvs a)(k:List Key){b:Addr}{y:V}{u:Value}(f:H b=some (.tup (k.map kV)))(c:RelV y u):
 KT H (putK kvs k y) (storedH a k b u):=by
 have e:(kvs.any λd=>decide (d.1=k))=(atKey a k).isSome:=by rw[vF,(r.val k).A5,Option.isSome_map]
 unfold putK storedH;rw[e];by_cases q:(atKey a k).isSome=true
 .rw[Do q,Do q];exact r.repl k c
 .rw[Bi q,Bi q];exact Paired.snoc r ⟨rfl,f,c⟩
theorem KT.keeps{H H':Hp}{kvs:List (List Key×V)}{c:List (List Key×Addr×Value)}(r:KT H kvs c)(d:∀b a,H b=some (.tup a)->H' b=some (.tup a)):KT H' kvs c:=
 Paired.MF r λ_ _ z=>⟨z.1,d _ _ z.2.1,z.2.2⟩
section
variable{P:Program}{w:World}{H:Hp}{h:Heap}{a:Addr}
theorem Lp{u:HO}(ok:iX P w H h)(e:Rd H a u):bC P w H h a u:=e.ok ok
theorem zl{kvs:List (Key×V)}(b:iX P w H h)(e:Rd H a (.dK kvs)):kvs.length<=sizeLine/\(a==sysModules)=false/\∃vs,KV kvs vs/\h.DictOf (bE P w) a vs:=
 show bC P w H h a (.dK kvs)from Lp b e
theorem Lq{kvs:List (Key×V)}(b:iX P w H h)(e:H a=some (.dK kvs)):kvs.length<=sizeLine/\(a==sysModules)=false/\∃vs,KV kvs vs/\h.DictOf (bE P w) a vs:=zl b (.inl e)
theorem x6{b:List Key}(d:iX P w H h)(e:H a=some (.tup (b.map kV))):(tupleKind (bE P w)).is h b a:=by obtain⟨_,c,r,o,i,g,n,f⟩:=(show bC P w H h a (.tup (b.map kV))from d a _ e);exact⟨o,c.toArray,n,i,g,f,by simpa using sJ r⟩
theorem DG{kvs:List (List Key×V)}(f:iX P w H h)(e:Rd H a (.dT kvs)):kvs.length<=sizeLine/\(a==sysModules)=false/\
 ∃c,KT H kvs c/\h.DictOfH (tupleKind (bE P w)) a c:=by
 obtain⟨z,y,c,r,o,v,A,u,s,n,k,j⟩:=(show bC P w H h a (.dT kvs)from Lp f e);refine⟨z,y,c,r,o,v,A,u,s,n,k,λx b=>?_,j⟩;have d:∀{l:List (List Key×V)}{m:List (List Key×Addr×Value)},KT H l m->∀x∈m,(tupleKind (bE P w)).is h x.1 x.2.1:=by
  intro l m q
  induction q with
  |nil=>intro x b;exact nomatch b
  |@cons p q C B g t i=>
   intro x b;rcases FC.mp b with e|b
   .subst e;exact x6 f (by rw[<-g.1];exact g.2.1)
   .exact i x b
 exact d r x b
theorem SV{kvs:List (List Key×V)}(c:iX P w H h)(e:H a=some (.dT kvs)):kvs.length<=sizeLine/\(a==sysModules)=false/\
 ∃b,KT H kvs b/\h.DictOfH (tupleKind (bE P w)) a b:=DG c (.inl e)
end
noncomputable def A6(H:Hp)(a:Addr)(y:V)(r:Option V):Prop:=
 (∃c k,Rd H a (.dK c)/\y=kV k/\r=l8 c k)\/∃c k b,Rd H a (.dT c)/\y=.ref b/\H b=some (.tup (k.map kV))/\r=l8 c k
noncomputable def DH(H:Hp)(a:Addr)(y v:V)(H':Hp):Prop:=
 (∃c k,H a=some (.dK c)/\y=kV k/\c.length<sizeLine/\H'=upd H a (.dK (putK c k v)))\/
 ∃c k b,H a=some (.dT c)/\y=.ref b/\H b=some (.tup (k.map kV))/\c.length<sizeLine/\H'=upd H a (.dT (putK c k v))
theorem A6.k{H:Hp}{a:Addr}{kvs:List (Key×V)}{k:Key}(e:H a=some (.dK kvs)):A6 H a (kV k) (l8 kvs k):=.inl ⟨kvs,k,.inl e,rfl,rfl⟩
theorem DH.k{H:Hp}{a:Addr}{kvs:List (Key×V)}{k:Key}{v:V}(e:H a=some (.dK kvs))(b:kvs.length<sizeLine):DH H a (kV k) v (upd H a (.dK (putK kvs k v))):=.inl ⟨kvs,k,e,rfl,b,rfl⟩
section
variable{X:Cx}{pins:List (Addr×Obj)}{σ:St}{H:Hp}{s:Shared}{a:Addr}{y v:V}{u r:Value}{o:Option V}{A:Around}{E:Value->Shared->Prop}
theorem Inv.big(I:Inv X pins σ H s):sysModules<s.heap.objs.size:=by have h:mainGlobals<s.heap.objs.size:=(I.mod.glob.keeps I.bk).lt;exact Nat.lt_trans (by decide) h
theorem A7{Q:Value->Shared->Prop}(B:A.units+1<cLine)(I:Inv X pins σ H s)(g:A6 H a y (some v))(q:RelV y u)(h:∀w' s',Inv X pins σ H s'->RelV v w'->Q w' s'):
 wpAny (model X.prog X.w) A (getItem (.ref a) u) Q E s:=by
 rcases g with⟨f,k,e,m,l⟩|⟨f,k,b,e,m,D,l⟩
 .subst m;obtain⟨z,hd,x,d,n⟩:=zl I.hok e;obtain⟨w',i,c⟩:=iQ.some_of (v:=v) (o:=valueAt x k) (by rw[l];exact d.val k);exact wpAny_getItem_of (zk q) n.mapOf i (h w' _ (I.tok _) c)
 .subst m;cases(show u=Value.ref b from q);obtain⟨z,hd,t,d,n⟩:=DG I.hok e;obtain⟨w',i,c⟩:=iQ.some_of (v:=v) (o:=(atKey t k).map (·.2)) (by rw[l];exact d.val k);obtain⟨p,C,j⟩:=Kt.mp i;refine wpAny_getItem_heap (tupleKind_room_in1 B) (x6 I.hok D) n C ?_;rw[j];exact h w' _ (I.tok _) c
theorem tU{h':Heap}{t':Nat}{c:HO}(I:Inv X pins σ H s)(f:RV (H a))(g:Heap.SameBut a s.heap h')(he:∃q,h'.get? a=some q)(d:bC X.prog X.w (upd H a c) h' a c):
 Inv X pins σ (upd H a c) {s with heap:=h',toks:=t'}:=
 I.write (x:=a) (e:=a) f (.inl rfl) (λb q h z=>(g.2 b h).trans z) he d
theorem DI{P:Program}{w:World}{H':Hp}{h':Heap}{kvs:List (Key×V)}{vs:List (Key×Value)}(z:kvs.length<=sizeLine)(hd:(a==sysModules)=false)(b:KV kvs vs)(dd:h'.DictOf (bE P w) a vs):
 bC P w H' h' a (.dK kvs):=⟨z,hd,vs,b,dd⟩
theorem A8{H':Hp}{Q:Unit->Shared->Prop}(L:A.units+1<cLine)(I:Inv X pins σ H s)(g:DH H a y v H')(B:RelV y u)(rv:RelV v r)(h:∀s',Inv X pins σ H' s'->Q () s'):
 wpAny (model X.prog X.w) A (setItem (.ref a) u r) Q E s:=by
 rcases g with⟨f,k,e,p,l,t⟩|⟨f,k,b,e,p,F,l,t⟩
 .subst p t;obtain⟨z,hd,K,d,x⟩:=Lq I.hok e;have hz:K.length<=sizeLine:=by rw[<-d.length];exact z
  have n:(putK f k v).length<=sizeLine:=by have:=i9 f k v;omega
  refine wpAny_setItem_pairs (hsz:=hz) (zk B) x λC j m=>h _ ?_;have M:∃q,C.get? a=some q:=let⟨q,_,_,i,_⟩:=j;⟨q,i⟩
  exact tU I (by rw[e];exact Kd) m M (DI n hd (d.put k rv) j)
 .subst p t;cases(show u=Value.ref b from B);obtain⟨z,hd,J,d,x⟩:=SV I.hok e;have hz:J.length<=sizeLine:=by rw[<-Paired.length d];exact z
  have n:(putK f k v).length<=sizeLine:=by have:=i9 f k v;omega
  refine wpAny_setItem_heap (hsz:=hz) (tupleKind_room_in1 L) (x6 I.hok F) x λC j m=>h _ ?_;obtain⟨q,S,T,i,R,P,O,_,N⟩:=j;refine tU I (by rw[e];exact Kd) m ⟨q,i⟩ ⟨n,hd,_,(d.put k F rv).keeps λc U D=>?_,q,S,T,i,R,P,O,N⟩;rw[ay (RU D e (λz=>nomatch z))];exact D
end
section
variable{X:Cx}{pins:List (Addr×Obj)}{σ:St}{H:Hp}{s:Shared}{a:Addr}{kvs:List (Key×V)}{k:Key}{u:Value}{A:Around}{E:Value->Shared->Prop}
end
noncomputable def Ng(i:Expr):Prop:=∀a b,subscripted i false a b=operate [a,b] (getItem a b)
theorem HH{prog:Program}{w:World}{A:Around}{E:Value->Shared->Prop}{s:Shared}{env:Env}{b a:Expr}{pos:Pos}{T m:String}{Q:Value->Shared->Prop}
 (p:typeLookup (.type T) "__getitem__"=pure (some (.builtin m)))(n:Ng a)
 (h:wpAny (model prog w) A (eval b env) (λo f=>wpAny (model prog w) A (eval a env) (λi c=>c.TypeIs o T/\wpAny (model prog w) A (getItem o i) Q E c) E f) E s):
 wpAny (model prog w) A (eval (.Subscript b a pos) env) Q E s:=by
 refine Subscript_ (Oy h (λo f k=>Oy k (λi c d=>?_) λ_ _ x=>x) λ_ _ x=>x);obtain⟨l,d⟩:=d;unfold subscriptTail;refine Da ?_;rw[getitemInPython_of_ne l.not_modules];refine Da (wpAny_specialOf l p ?_);have g:wpAny (model prog w) A (subscripted a false o i) (λr e=>wpAny (model prog w) A (letTemporaryGo b o r>>=λ_=>pure r) Q E e) E c:=by rw[n o i];exact wpAny_operating (Oy d (λr e j=>Da (wpAny_letTemporaryGo (GM j))) λ_ _ x=>x)
 first
  |exact GM (Da g)
  |exact Da (GM (Da g))
  |exact Da g
theorem vG{X:Cx}{c:List (Addr×Obj)}{h:St}{H:Hp}{s:Shared}{a:Addr}{y:V}{o:Option V}(I:Inv X c h H s)(g:A6 H a y o):s.TypeIs (.ref a) "dict":=by
 rcases g with⟨d,k,e,_,_⟩|⟨d,k,b,e,_,_,_⟩
 .obtain⟨_,_,j,_,f⟩:=zl I.hok e;exact f.typeIs
 .obtain⟨_,_,i,_,f⟩:=DG I.hok e;exact f.typeIs
noncomputable def SW(e d:TE):TE:=λb H Q=>e b H λx f=>d b f λy c=>∃a v,x=.ref a/\A6 c a y (some v)/\Q v c
section
variable{X:Cx}{o i e value:Expr}{pos pos' tpos:Pos}{td ty tv:TE}
theorem HJ(p:X.A.units+1<cLine)(r:PE X o td)(t:PE X i ty)(q:Ng i):PE X (.Subscript o i pos) (SW td ty):=by intro b s d H Q I h;refine HH PySem.F.slot_dict_getitem.lookup q (bD (r b s d H _ I h) λu j ⟨x,C,z,l,n⟩=>bD (t b j d C _ z n) λE s2 ⟨y,B,f,k,a,v,ex,g,m⟩=>?_);subst ex;obtain rfl:u=Value.ref a:=l;exact⟨vG f g,A7 p f g k λD s3 w c=>⟨v,B,w,c,m⟩⟩
end
theorem vH{P:Program}{w:World}{H:Hp}(h:Heap)(a:sysModules<h.objs.size):bC P w H (h.push {cls:=.type "dict",data:=.dict #[]}) h.objs.size (.dK []):=
 ⟨NM _,P3.mpr (OF (KM a)),[],.nil,Heap.DictOf.new h⟩
noncomputable def Nh:TE:=λ_ H Q=>∀p,H p=none->Q (.ref p) (upd H p (.dK []))
section
variable{X:Cx}{pos:Pos}
theorem DJ:PE X (.Dict [] [] pos) Nh:=λb s c H Q I h=>wpAny_Dict_empty ⟨.ref s.heap.objs.size,_,I.laid (a:=s.heap.objs.size) (o:=.dK []) (t':=s.toks) (λ_ _ q=>Dx _ q) (Bn _) (vH s.heap I.big),rfl,h _ (I.hok.fresh (Bn _))⟩
end
noncomputable def tW:List (TE×TE)->St->Hp->(List (V×V)->Hp->Prop)->Prop
 |[],_,H,Q=>Q [] H
 |(tk,tv)::r,σ,H,Q=>tk σ H λx H1=>tv σ H1 λy b=>tW r σ b λps a=>Q ((x,y)::ps) a
abbrev VV:List (V×V)->List (Value×Value)->Prop:=Paired λp q=>RelV p.1 q.1/\RelV p.2 q.2
noncomputable def SX(X:Cx)(pos:Pos)(c:List (Option Expr))(a:List Expr)(i:List (TE×TE)):Prop:=
 ∀(b:List (Addr×Obj))(s:Shared)(d:St)(H:Hp)(Q:List (V×V)->Hp->Prop),Inv X b d H s->tW i d H Q->
  wpAny (model X.prog X.w) X.A (evalPairs (pairTrees c a X.env pos)) (λg h=>∃e f,Inv X b d f h/\VV e g/\Q e f) X.xe s
theorem HL{X:Cx}{pos:Pos}:SX X pos [] [] []:=λa s b H Q I h=>pairTrees_nil_walk ⟨[],H,I,.nil,h⟩
theorem DK{X:Cx}{pos:Pos}{k v:Expr}{f:List (Option Expr)}{vs:List Expr}{e d:TE}{g:List (TE×TE)}(t:PE X k e)(q:PE X v d)(r:SX X pos f vs g):
 SX X pos (some k::f) (v::vs) ((e,d)::g):=λa s b H Q I h=>
 pairTrees_cons_walk (bD (t a s b H _ I h) λu i ⟨x,D,A,l,o⟩=>bD (q a i b D _ A o) λF s2 ⟨y,C,z,j,n⟩=>bD (r a s2 b C _ z n) λE s3 ⟨p,B,w,c,m⟩=>⟨(x,y)::p,B,w,.cons ⟨l,j⟩ c,m⟩)
noncomputable def j4(kvs a:List (Key×V)):List (Key×V):=a.foldl (λb c=>putK b c.1 c.2) kvs
theorem KV.merge:∀{a:List (Key×V)}{rs:List (Key×Value)}{kvs:List (Key×V)}{vs:List (Key×Value)},KV a rs->KV kvs vs->KV (j4 kvs a) (merged vs rs):=by
 intro a rs kvs vs r;unfold KV at r
 induction r generalizing kvs vs with
 |nil=>intro q;exact q
 |@cons p q f d h t c=>
  intro b;have e:KV (putK kvs p.1 p.2) (stored vs q.1 q.2):=by have:=b.put p.1 h.2;rw[<-h.1];exact this
  exact c e
theorem jW:∀(a kvs:List (Key×V)),(j4 kvs a).length<=kvs.length+a.length
 |[],kvs=>by show kvs.length<=kvs.length+0;omega
 |p::r,kvs=>by have h1:=jW r (putK kvs p.1 p.2);have b:=i9 kvs p.1 p.2;show(j4 (putK kvs p.1 p.2) r).length<=_;rw[A0];omega
theorem pM{P:Program}{w:World}:∀{kvs:List (Key×V)}{d:List (Value×Value)},VV (kvs.map λe=>(kV e.1,e.2)) d->∃rs,Carries (bE P w) d rs/\KV kvs rs
 |[],_,r=>by rw[cf]at r;cases r;exact⟨[],Kd,.nil⟩
 |p::kvs,_,r=>by
  rw[Hn]at r;cases r with
  |@cons a b i bs h t=>obtain⟨rs,c,q⟩:=pM (P:=P) (w:=w) t;obtain⟨g,f⟩:=b;exact⟨(p.1,f)::rs,⟨zk h.1,rfl,c⟩,.cons ⟨rfl,h.2⟩ q⟩
noncomputable def SY(f:List (TE×TE)):TE:=λd H Q=>∀p,H p=none->tW f d (upd H p (.dK [])) λe c=>c p=some (.dK [])/\∃a:List (Key×V),e=a.map (λb=>(kV b.1,b.2))/\a.length<=15/\Q (.ref p) (upd c p (.dK (j4 [] a)))
theorem HM{X:Cx}{pos:Pos}{b:List (Option Expr)}{d:List Expr}{m:List (TE×TE)}(h:SX X pos b d m)(i:b.all (·.isSome)=true)(x:b.length=d.length)(B:b≠[])
 (E:b.length<=15):PE X (.Dict b d pos) (SY m):=by
 intro f s n H Q I q;have v:=I.hok.fresh (Bn s.heap.objs.size);have F:=I.laid (a:=s.heap.objs.size) (o:=.dK []) (h':=s.heap.push {cls:=.type "dict",data:=.dict #[]}) (t':=s.toks) (λ_ _ q=>Dx _ q) (Bn _) (vH s.heap I.big);refine wpAny_Dict_walk (knd:=bE X.prog X.w) i x B E (bD (h f _ n _ _ F (q _ v)) λJ s2 ⟨K,N,l,j,e,g,C,L,t⟩=>?_);subst C;obtain⟨rs,c,p⟩:=pM (P:=X.prog) (w:=X.w) j;obtain⟨z,hd,M,r,D⟩:=Lq l.hok e;cases r;refine⟨rs,c,D,λh' k u=>⟨.ref s.heap.objs.size,_,?_,rfl,t⟩⟩;have hz:(j4 [] g).length<=sizeLine:=by have A:=jW g [];rw[CC]at A;rw[sizeLine_eq];omega
 have y:∃q,h'.get? s.heap.objs.size=some q:=let⟨q,_,_,hq,_⟩:=k;⟨q,hq⟩
 exact tU l (by rw[e];exact Kd) u y (DI hz hd (p.merge .nil) k)
structure M2(X:Cx)(o:Expr)(m:Str)(apos:Pos)(e f:Expr)(cpos:Pos):Prop where
 base:attributeBase o m X.env (eval o X.env)=eval o X.env
 few:((backTo cpos (starEach [e,f] X.env)).all (λx=>!x.1)&&(backToKw cpos (keywordEach [] X.env)).all (λx=>x.1.isSome)
  &&decide (([e,f]:List Expr).length+([]:List Keyword).length+(if([]:List Keyword).isEmpty then 0 else 1)<30))=true
 line:(apos.endLine==cpos.line)=true
 trees:backTo cpos (starEach [e,f] X.env)=[(false,eval e X.env),(false,eval f X.env)]
section
variable{X:Cx}{pins:List (Addr×Obj)}{σ:St}{H:Hp}{s:Shared}{a:Addr}{y d:V}{u r:Value}{o:Option V}{A:Around}{E:Value->Shared->Prop}
end
section
variable{X:Cx}{o e f:Expr}{apos cpos:Pos}{td ty tx:TE}
end
section
variable{X:Cx}{pins:List (Addr×Obj)}{σ:St}{H:Hp}{s:Shared}{a:Addr}{kvs:List (Key×V)}{A:Around}{E:Value->Shared->Prop}
end
section
variable{X:Cx}{pins:List (Addr×Obj)}{σ:St}{H:Hp}{s:Shared}{a:Addr}{y:V}{u:Value}{A:Around}{E:Value->Shared->Prop}
end
end L2
namespace L2
open PySem PySem.Spec PyProof.Rows PySem.W
variable{X:Cx}
theorem DM{prog:Program}{w:World}{A:Around}{E:Value->Shared->Prop}{s:Shared}{T:String}{r d:Addr}{n:Nat}{P:Nat->Value->Prop}{z:Heap->Prop}{R:List Value->Shared->Prop}(K:KdlSrc prog w T r d n P z)(C:A.handled=none)(p:z s.heap)(B:n<=sizeLine)
 (h:∀(g:Heap)(i:Nat)(a:Array Value),s.heap.objs.size<g.objs.size->(∀b o,s.heap.get? b=some o->g.get? b=some o)->ItemsOf P a n->R a.toList {s with heap:=g,toks:=i}):wpAny (model prog w) A (collect (.ref r)) R E s:=by
 have v:=K.there _ p;unfold collect;refine Da (wpAny_runValue (codeAny_builtin entry_proto_collect' ?_));rw[Around.under_plainId PySem.F.plain_proto_collect _];show wpAny _ A.in1 (newList []>>=λl=>again (.builtin "list.__iadd__" ⟨[l,.ref r],[]⟩)) _ _ s;refine Da (Pv ?_);refine GM ⟨plainId_quiet PySem.F.plain_list_iadd _,codeAny_builtin entry_list_iadd' ?_⟩;rw[Around.under_plainId PySem.F.plain_list_iadd _];have u:(s.heap.push {cls:=.type "list",data:=.seq ([]:List Value).toArray}).get? s.heap.objs.size=some {cls:=.type "list",data:=.seq #[]}:=KE _ rfl;show wpAny _ A.in1 (Builtin.List.listExtendWith (.ref s.heap.objs.size) (.ref r) (.ref s.heap.objs.size)) _ _ _;have m:=kdl_extend (A:=A) (s:={s with heap:=s.heap.push {cls:=.type "list",data:=.seq ([]:List Value).toArray}}) (R:=λ(q:Result)(t:Shared)=>∃(g:Heap)(i:Nat)(a:Array Value)(c:Nat),q=.ok (.ret (.ref s.heap.objs.size))/\t={s with heap:=g,toks:=i}/\
  (∀b o,s.heap.get? b=some o->g.get? b=some o)/\g.get? s.heap.objs.size=some {cls:=.type "list",dict:=none,data:=.seq a c,slots:= #[]}/\ItemsOf P a n) K C (K.keep _ _ p λb _ o e=>Dx _ e) s.heap.objs.size (RD v.1) (RD v.2) (.ref s.heap.objs.size) 0 u
  (λg i a c k j a2=>⟨g,i,a,c,rfl,rfl,λb o e=>k b o (KM (Fm e)) (Dx _ e),j,a2⟩) B
 refine Oy m (λf t x=>?_) λe t x=>?_
 .cases f with
  |done f=>
   obtain⟨g,i,a,c,e,rfl,k,j,a2⟩:=x;cases e;show wpAny _ A (load s.heap.objs.size>>=_) _ _ _
   exact Da (wpAny_load j (GM (h g i a (Fm j) k a2)))
  |again H=>refine⟨x.1,aw x.2 λq s2 y=>?_⟩;obtain⟨g,i,a,c,rfl,rfl,k,j,a2⟩:=y;show wpAny _ A (load s.heap.objs.size>>=_) _ _ _;exact Da (wpAny_load j (GM (h g i a (Fm j) k a2)))
 .obtain⟨_,_,_,_,D,_⟩:=x;cases D
end L2
namespace L2
open PySem PySem.Spec PyProof.Rows
noncomputable def mh(cells:List (Str×Addr)):List (Str×NameKind)->List (Str×Addr)->List (Str×Addr)
 |[],acc=>acc
 |(n,k)::r,acc=>mh cells r (if k=.free then(n,(cells.lookup n).getD 0)::acc else acc)
theorem pN{env:Env}:∀(l:List (Str×NameKind))(a:List (Str×Addr)),(∀p∈l,p.2=.free->∃c,env.cells.lookup p.1=some c)->
 (forIn l a λ(x:Str×NameKind)(cs:List (Str×Addr))=>if(x.2==NameKind.free)=true then(do let c<-cellOf env x.1;pure (Lf ((x.1,c)::cs)))else(pure (Lf cs):Sem _))=pure (mh env.cells l a)
 |[],a,_=>rfl
 |(n,k)::r,a,h=>by
  have ih:=λa=>pN (env:=env) r a λp g=>h p (B1 _ g);rw[List.forIn_cons];by_cases b:k=.free
  .obtain⟨c,i⟩:=h (n,k) BM b;have d:env.cells.lookup n=some c:=i;have e:cellOf env n=pure c:=by unfold cellOf;rw[d]
   have f:(k==NameKind.free)=true:=by simp[b]
   simp only[f,cc,e,pure_bind,ih];simp only[mh,b,cc,d,L3]
  .have f:(k==NameKind.free)=false:=by simpa using b
   simp only[f,XJ,if_false,pure_bind,ih];simp only[mh,b,if_false]
theorem pO{a:Scope}{env:Env}(h:∀p∈a.names,p.2=.free->∃c,env.cells.lookup p.1=some c):closureFor a env=pure (mh env.cells a.names []):=by have:=pN (env:=env) a.names [] h;unfold closureFor;simp only[bind_pure];exact this
theorem vI{cells:List (Str×Addr)}:∀(l:List (Str×NameKind))(a:List (Str×Addr)),(∀p∈l,p.2=.free->∃c,cells.lookup p.1=some c)->(∀y c,a.lookup y=some c->cells.lookup y=some c)->
 ∀y c,(mh cells l a).lookup y=some c->cells.lookup y=some c
 |[],_,_,ha,y,c,h=>ha y c h
 |(n,k)::r,a,hl,ha,y,c,h=>by
  refine vI r _ (λp i=>hl p (B1 _ i)) (λz d hz=>?_) y c h;by_cases b:k=.free
  .rw[Do b,Cr]at hz;obtain⟨m,g⟩:=hl (n,k) BM b;have f:cells.lookup n=some m:=g;split at hz
   .rename_i e
    have j:z=n:=by simpa using e
    subst j;rw[f]at hz⊢;exact hz
   .exact ha z d hz
  .rw[Bi b]at hz;exact ha z d hz
theorem pP{cells:List (Str×Addr)}:∀(l:List (Str×NameKind))(a:List (Str×Addr))(y:Str),((a.lookup y).isSome=true\/(y,NameKind.free)∈l)->((mh cells l a).lookup y).isSome=true
 |[],_,_,h=>h.elim id λz=>nomatch z
 |(n,k)::r,a,y,h=>by
  refine pP r _ y ?_;by_cases b:k=.free
  .rw[Do b,Cr];by_cases e:(y==n)=true
   .left;rw[e];rfl
   .rw[Qb]at e;rw[e];rcases h with h|h
    .exact .inl h
    .rcases FC.mp h with h|h
     .have:y=n:=Hb Prod.fst h;subst this;simp at e
     .exact .inr h
  .rw[Bi b];rcases h with h|h
   .exact .inl h
   .rcases FC.mp h with h|h
    .have:NameKind.free=k:=Hb Prod.snd h;exact absurd this.symm b
    .exact .inr h
theorem sL{cells:List (Str×Addr)}:∀(l:List (Str×NameKind))(a:List (Str×Addr))(y:Str)(c:Addr),(mh cells l a).lookup y=some c->(∃b,a.lookup y=some b)\/(y,NameKind.free)∈l
 |[],_,y,c,h=>.inl ⟨c,h⟩
 |(n,k)::r,a,y,c,h=>by
  rcases sL r _ y c h with⟨b,h'⟩|h'
  .by_cases d:k=.free
   .rw[Do d,Cr]at h';split at h'
    .rename_i e
     have f:y=n:=by simpa using e
     subst f;subst d;exact .inr BM
    .exact .inl ⟨b,h'⟩
   .rw[Bi d]at h';exact .inl ⟨b,h'⟩
  .exact .inr (B1 _ h')
theorem jc{env:Env}(d:env.scope.kind=.function):∀(l:List (Str×NameKind))(y:Str),
 (l.map λ(n,k)=>if(k==NameKind.free&&env.scope.kind==.function&&env.kindOf n==some .cell)then(n,NameKind.cell)else(n,k)).lookup y=(l.lookup y).map λk=>if(k==NameKind.free&&env.kindOf y==some .cell)=true then NameKind.cell else k
 |[],_=>rfl
 |(n,k)::r,y=>by
  have ih:=jc d r y;have b:(env.scope.kind==ScopeKind.function)=true:=by rw[d];rfl
  rw[Hn,Cr];by_cases e:(y==n)=true
  .have f:y=n:=by simpa using e
   subst f;by_cases c:(k==NameKind.free&&env.kindOf y==some .cell)=true
   .have a:(k==NameKind.free&&env.scope.kind==.function&&env.kindOf y==some .cell)=true:=by rw[b,Zb];exact c
    simp only[a,cc,Cr,PH,Lm,c]
   .have a:¬(k==NameKind.free&&env.scope.kind==.function&&env.kindOf y==some .cell)=true:=by rw[b,Zb];exact c
    rw[Bi a];simp only[Cr,PH,Lm];rw[Bi c]
  .rw[Qb]at e;by_cases a:(k==NameKind.free&&env.scope.kind==.function&&env.kindOf n==some .cell)=true
   .simp only[a,cc,e,Cr];exact ih
   .rw[Qb]at a;simp only[a,XJ,if_false,e,Cr];exact ih
noncomputable def dO(sc c:Scope)(N a b:List Str):Bool:=
 sc.kind==.function&&b.all (λx=>sc.names.lookup x==some .local&&!a.contains x)&&
 sc.names.all (λp=>p.2 !=.cell&&(p.2 !=.local||sc.names.lookup p.1==some .local)&&(p.2 !=.free||(c.names.lookup p.1==some .cell&&sc.names.lookup p.1==some .free)))&&
 a.all (λy=>sc.names.lookup y !=some .local)&&(N.length==a.length&&(N.zip a).all (λp=>p.1==p.2||sc.names.lookup p.2==none))
structure gi(sc Rm:Scope)(N N' xs:List Str):Prop where
 kind:sc.kind=.function
 own:∀x∈xs,sc.names.lookup x=some .local/\x∉N'
 x8:∀p∈sc.names,p.2≠.cell
 loc:∀p∈sc.names,p.2=.local->sc.names.lookup p.1=some .local
 free:∀p∈sc.names,p.2=.free->Rm.names.lookup p.1=some .cell/\sc.names.lookup p.1=some .free
 out:∀y∈N',sc.names.lookup y≠some .local
 len:N.length=N'.length
 pair:∀(i:Nat)(y:Str),N'[i]?=some y->sc.names.lookup y≠none->N[i]?=some y
theorem gi.of{sc l:Scope}{N b d:List Str}(h:dO sc l N b d=true):gi sc l N b d:=by
 unfold dO at h;simp only[AC,IR,Ta,bne_iff_ne,HI,W1,ne_eq]at h;obtain⟨⟨⟨⟨s,k⟩,c⟩,r⟩,q,o⟩:=h;refine⟨s,λx g=>⟨(k x g).1,λz=>?_⟩,λp a=>(c p a).1.1,λp a e=>?_,λp a e=>?_,r,q,λi y f m=>?_⟩
 .have:=(k x g).2;rw[List.contains_eq_mem]at this;simp[z]at this
 .rcases(c p a).1.2 with z|z
  .exact absurd e z
  .exact z
 .rcases(c p a).2 with z|z
  .exact absurd e z
  .exact z
 .have t:i<b.length:=(GT.mp f).1;have j:N[i]?=some (N[i]'(by lia)):=Ee (by lia);have n:(N[i]'(by lia),y)∈N.zip b:=by refine Kx (i:=i) ?_;rw[List.getElem?_zip_eq_some];exact⟨j,f⟩
  rcases o _ n with z|z
  .rw[j];exact Hb some z
  .exact absurd z m
noncomputable def aU(X:Cx)(a:Scope)(C:Addr)(b d:List Str)(s:Shared)(H:Hp)(c:List Addr):Cx:=
 {X with N:=b++d,s₀:=s,H₀:=H,env:=compEnvC a (mh X.env.cells a.names []) C X.env,outer:=X.stack,stack:=X.stack,ex:=c,fn:=λy=>b.contains y,pn:=[],xe:=λ_ _=>False}
section
variable{X:Cx}{pins:List (Addr×Obj)}{σ:St}{H:Hp}{s:Shared}{scope:Scope}{xs N':List Str}{fp:List Addr}
theorem j5(I:Inv X pins σ H s)(O:gi scope X.env.scope X.N N' xs):∀p∈scope.names,p.2=.free->∃c,X.env.cells.lookup p.1=some c:=λp a e=>I.ok.has p.1 (.inl (O.free p a e).1)
theorem gB(I:Inv X pins σ H s)(O:gi scope X.env.scope X.N N' xs)(y:Str):(relabel scope X.env).names.lookup y=(scope.names.lookup y).map λk=>if k=.free then NameKind.cell else k:=by
 unfold relabel;show(d5 _ scope.names).lookup y=_;rw[jc I.ok.kind];cases e:scope.names.lookup y with
 |none=>rfl
 |some k=>
  rw[Lm,Lm];by_cases a:k=.free
  .subst a;have:=(O.free (y,.free) (Nw e) rfl).1;have b:X.env.kindOf y=some .cell:=this;rw[b];rfl
  .rw[Bi a,Bi (by simp[a])]
theorem DN{n:Heap}{T:Nat}(I:Inv X pins σ H s)(O:gi scope X.env.scope X.N N' xs)(A:∀b∈fp,rE X pins H b)(E:∀b∈fp,b<s.heap.objs.size){P:Str->Option Value}
 (hn:n.Ns s.heap.objs.size P)(g:∀b o,s.heap.get? b=some o->n.get? b=some o):
 Inv (aU X scope s.heap.objs.size xs N' s H fp) [] (xs.map (λ_=>none)++σ) H {s with heap:=n,toks:=T}:=by
 have f:=vI (cells:=X.env.cells) scope.names [] (j5 I O) (λy c z=>nomatch z);refine⟨⟨I.ok.mod,?_,I.ok.glob,I.ok.blt,Bn _,λx y c n J=>I.ok.inj x y c (f x c n) (f y c J),λy C=>?_,λy c n J=>?_,I.ok.hd,I.ok.frames,.inl rfl,λb j=>⟨KM (E b j),λx c e=>(A b j).2.2.2.2.1 x c (f x c e)⟩,
  I.bs,FV I.ok.GH I.sz,λb o e j=>?_,λb j z=>?_,I.stack,I.jB,I.ok.tree,I.ok.RY⟩,rfl,I.bare,Un.kept g,⟨P,hn,λi y v e1 h e3=>?_⟩,λy c e=>?_,I.hok.fresh (Bn _),λy c e=>I.eW y c (f y c e),λp Y=>absurd (show p∈([]:List (Addr×Obj))from Y) (by simp),I.hok.kept g,?_⟩
 .show scope.kind=_;exact O.kind
 .have d:(relabel scope X.env).names.lookup y=some .cell\/(relabel scope X.env).names.lookup y=some .free:=C;rw[gB I O]at d;have a:scope.names.lookup y=some .free:=by
   cases e:scope.names.lookup y with
   |none=>rw[e]at d;rcases d with z|z<;>cases z
   |some k=>
    rw[e]at d;by_cases g:k=.free
    .rw[g]
    .rw[Lm,Bi g]at d;rcases d with z|z
     .have:k=.cell:=Ha z;exact absurd this (O.x8 (y,k) (Nw e))
     .exact absurd (Ha z) g
  exact PP.mp (pP scope.names [] y (.inr (Nw a)))
 .have F:(mh X.env.cells scope.names []).lookup y=some c:=J;have C:y∈xs:=by have Vo:xs.contains y=true:=n;simpa using Vo
  rcases sL scope.names [] y c F with⟨_,z⟩|z
  .cases z
  .have M:=(O.free (y,.free) z rfl).2;rw[(O.own y C).1]at M;cases M
 .have R:X.base.get? b=some o:=e;rcases(A b j).2.2.2.1 with z|z
  .exact I.ok.Ay b o R z
  .exact absurd (FM (Fm R) (FV I.ok.GH z)) (PQ _)
 .rcases FC.mp (I.xA b z)with q|q
  .exact(A b j).2.1 q
  .exact(A b j).2.2.1 q
 .have L:(xs++N')[i]?=some y:=e1;by_cases Q:i<xs.length
  .rw[On (by simpa using Q),IH]at h;cases q:xs[i]? with
   |none=>rw[q]at h;cases h
   |some z=>rw[q]at h;cases h
  .rw[Gc (by simpa using Q)]at h;rw[Gc (by lia)]at L;rw[Fk]at h;have B:y∈N':=Kx L;have t:RX (relabel scope X.env) y:=e3;unfold RX at t;rw[gB I O]at t;have a:scope.names.lookup y=some .free:=by
    cases e:scope.names.lookup y with
    |none=>rw[e]at t;rcases t with z|z|z<;>cases z
    |some k=>
     rw[e]at t;by_cases g:k=.free
     .rw[g]
     .rw[Lm,Bi g]at t;rcases t with z|z|z
      .have:k=.local:=Ha z;subst this;exact absurd e (O.out y B)
      .have:k=.cell:=Ha z;exact absurd this (O.x8 (y,k) (Nw e))
      .exact absurd (Ha z) g
   have S:=(O.free (y,.free) (Nw a) rfl).1;obtain⟨m,Z,hl⟩:=I.loc;have K:=O.pair _ y L (by rw[a];simp);obtain⟨u,r,l⟩:=hl _ y v K h (.inr (.inl S));refine⟨u,r,?_⟩;rcases l with⟨U,_⟩|⟨_,c,hc,o,D,hd⟩
   .have:X.env.scope.names.lookup y=some .local:=U;rw[S]at this;cases this
   .refine .inr ⟨.inl ?_,c,?_,o,g c o D,hd⟩
    .show(relabel scope X.env).names.lookup y=_;rw[gB I O,a];rfl
    .obtain⟨c',w⟩:=PP.mp (pP (cells:=X.env.cells) scope.names [] y (.inr (Nw a)));have q:=f y c' w;rw[hc]at q;show(mh X.env.cells scope.names []).lookup y=some c;rw[w,<-Ha q]
 .obtain⟨v,o,D,hd⟩:=I.cell y c (f y c e);exact⟨v,o,g c o D,hd⟩
 .show(xs.map (λ_=>none)++σ).length=(xs++N').length;rw[AN,AN,Fk,I.len,O.len]
end
noncomputable def PF(X:Cx)(d:List Expr)(t:TT):Prop:=
 ∀(a:List (Addr×Obj))(s:Shared)(b:St)(H:Hp)(Q:Bool->Hp->Prop),Inv X a b H s->t b H Q->
  wpAny (model X.prog X.w) X.A (forIn d true λc r=>if r=true then do let ok<-isTrue c X.env (eval c X.env);pure (Lf ok)else pure (Lf r)) (TP X a b Q) X.xe s
noncomputable def WA:TT:=λ_ H Q=>Q true H
theorem Nk{X:Cx}:PF X [] WA:=λ_ _ _ H _ I h=>wpAny_tests_nil ⟨H,I,h⟩
theorem Nl{X:Cx}{c:Expr}{t:TT}(h:PT X c t):PF X [c] t:=λa s b H Q I q=>wpAny_tests_one (h a s b H Q I q)
noncomputable def DO(k:Nat)(q:TI)(g:TG)(tc:TT)(te:TE):TE:=λe H Q=>q e H λJ p=>∀D,p D=none->∃W:Nat->Nat->Hp->Prop,(∃m,W 0 m (upd p D (.lst [])))/\∀i m d,W i m d->
 (J.stop i d/\Q (.ref D) d)\/(J.go i d/\∀x o,J.Sb i d x o->∀j:List (Option V),j.length=k->g x (j++e) o λa r=>∃h:List (Option V),h.length=k/\a=h++e/\
   tc a r λb n=>if b=true then te a n λy l=>∃f,l D=some (.lst f)/\f.length<sizeLine/\∃c,c<m/\W (i+1) c (upd l D (.lst (f++[y])))else∃c,c<m/\W (i+1) c n)
theorem tY{prog:Program}{w:World}{A:Around}{R:Result->Shared->Prop}{s:Shared}{u a l:Expr}{q:List Expr}{f:Scope}{pos:Pos}{E y:Value}{env:Env}(I:Nat->Shared->Prop)
 (z:∀n s,I n s->wpAny (model prog w) A (pyNext E) (λr e=>match r with
   |none=>R (.ok .next) e
   |some v=>wpAny (model prog w) A (letOwnedTupleGo a E v) (λ_ d=>wpAny (model prog w) A (assign a env v) (λ_ k=>
     wpAny (model prog w) A (forIn q true λc r=>if r=true then do let ok<-isTrue c env (eval c env);pure (Lf ok)else pure (Lf r)) (λok b=>
      if ok=true then wpAny (model prog w) A (eval u env) (λx j=>wpAny (model prog w) A (call (.builtin "list.append") [y,x]) (λ_ i=>∃m,m<n/\I m i) (λ_ _=>False) j) (λ_ _=>False) b
      else∃m,m<n/\I m b) (λ_ _=>False) k) (λ_ _=>False) d) (λ_ _=>False) e) (λ_ _=>False) s)
 (n:Nat)(h:I n s):
 codeAny (model prog w) A (.compLoop (.ListComp u [⟨a,l,q,0⟩] f pos) 0 E y env) R s:=by
 refine codeAny_loop rfl I (λn s F=>?_) n h;show wpAny _ A ((compTurn (.ListComp u [⟨a,l,q,0⟩] f pos) 0 E y env).onRaise (λx=>do noteFrame x env;theTreesLotGoes x)) _ _ s;refine wpAny_noted ?_;rw[compTurn_list];refine Da (cm (Da (Oy (z n s F) (λr e p=>?_) λ_ _ g=>g.elim)));cases r with
 |none=>exact GM p
 |some v=>
  refine Da (Oy p (λ_ d t=>?_) λ_ _ g=>g.elim);refine Da (Oy t (λ_ k D=>Da (Oy D (λok b o=>?_) λ_ _ g=>g.elim)) λ_ _ g=>g.elim);cases ok with
  |false=>exact GM ⟨rfl,o⟩
  |true=>exact Da (Da (Oy o (λx j C=>Da (Oy C (λ_ i B=>GM (GM ⟨rfl,B⟩)) λ_ _ g=>g.elim)) λ_ _ g=>g.elim))
section
variable{X:Cx}
theorem pQ{tg M Y:Expr}{S:List Expr}{scope:Scope}{l F:List Str}{pos:Pos}{g:TG}{tc:TT}{te:TE}(hc:X.calm=true)(O:gi scope X.env.scope X.N F l)
 (hg:∀C s0 H0 j,PG (aU X scope C l F s0 H0 j) tg g)(hf:∀C s0 H0 j,PF (aU X scope C l F s0 H0 j) S tc)(he:∀C s0 H0 j,PE (aU X scope C l F s0 H0 j) Y te)
 {s:List (Addr×Obj)}{t:St}{H1:Hp}{s2:Shared}{it:Addr}{j:List Addr}{tn:Nat->Heap->Prop}{J:It}{Q:VK}{E:Value->Shared->Prop}{RR:Value->Addr->Result->Shared->Prop}
 (I2:Inv X s t H1 s2)(T:Turn X.prog X.w X.K tg J j it tn)(st2:tn 0 s2.heap)(f2:∀b∈j,rE X s H1 b)
 (h:∀D,H1 D=none->∃W:Nat->Nat->Hp->Prop,(∃m,W 0 m (upd H1 D (.lst [])))/\∀i m H2,W i m H2->
   (J.stop i H2/\Q (.ref D) H2)\/(J.go i H2/\∀x H3,J.Sb i H2 x H3->∀v:List (Option V),v.length=l.length->g x (v++t) H3 λR H4=>∃I:List (Option V),I.length=l.length/\R=I++t/\
     tc R H4 λb H=>if b=true then te R H λy H6=>∃ys,H6 D=some (.lst ys)/\ys.length<sizeLine/\∃B,B<m/\W (i+1) B (upd H6 D (.lst (ys++[y])))else∃B,B<m/\W (i+1) B H))
 (hRR:∀D C s' H',(∃m,s'.heap.Ns C m)->(∀h',Heap.SameBut C s'.heap h'->Inv X s t H' {s' with heap:=h'})->s2.heap.objs.size<=D->s2.heap.objs.size<=C->H' C=none->Q (.ref D) H'->RR (.ref D) C (.ok .next) s'):
 wpAny (model X.prog X.w) X.A (newList []) (λacc s₃=>wpAny (model X.prog X.w) X.A (newFunctionEnv scope X.env.globals (mh X.env.cells scope.names []) [] X.env.qual none .none (some X.env)) (λP s₄=>codeAny (model X.prog X.w) X.A (.compStart (.ListComp Y [⟨tg,M,S,0⟩] scope pos) 0 (.ref it) acc {P with scope:=relabel scope X.env}) (RR acc P.locals) s₄) E s₃) E s2:=by
 refine Pv (wpAny_newFunctionEnv O.x8 (by intro y hy;simp at hy) (λk DP DQ=>?_) O.kind);dsimp only at DP DQ⊢;have hD:H1 s2.heap.objs.size=none:=I2.hok.fresh (Bn _);obtain⟨W,⟨m0,w0⟩,turn⟩:=h s2.heap.objs.size hD;have I3:Inv X s t (upd H1 s2.heap.objs.size (.lst [])) {s2 with heap:=s2.heap.push {cls:=.type "list",dict:=none,data:=.seq ([]:List Value).toArray}}:=
  I2.laid (t':=s2.toks) (λb u e=>Dx _ e) (Bn _) ⟨NM _,[],0,.nil,KE _ rfl⟩
 have WB:∀b∈j,b<s2.heap.objs.size:=λb f=>by obtain⟨o,e,_⟩:=T.obj _ _ st2 b f;exact Fm e
 have f3:∀b∈j,rE X s (upd H1 s2.heap.objs.size (.lst [])) b:=λb f=>by obtain⟨q0,q⟩:=f2 b f;exact⟨by rw[ay (KM (WB b f))];exact q0,q⟩
 generalize Rn:({s2 with heap:=s2.heap.push {cls:=.type "list",dict:=none,data:=.seq ([]:List Value).toArray}}:Shared)=s3 at I3;have sM:s3.heap=s2.heap.push {cls:=.type "list",dict:=none,data:=.seq ([]:List Value).toArray}:=by rw[<-Rn]
 have U:s3.heap.objs.size=s2.heap.objs.size+1:=by rw[sM,Heap.size_push]
 have old:∀b o,s3.heap.get? b=some o->k.get? b=some o:=λb o e=>DQ.extBut b o (by rw[<-sM];exact KM (Fm e)) (Dx _ (by rw[<-sM];exact e));have J4:Inv (aU X scope s3.heap.objs.size l F s3 (upd H1 s2.heap.objs.size (.lst [])) j) [] (l.map (λ_=>none)++t) (upd H1 s2.heap.objs.size (.lst [])) {s3 with heap:=k,toks:=s2.toks+([]:List (Str×Value)).length}:=
  DN I3 O f3 (λb f=>by rw[U];exact RW (WB b f)) (by rw[sM];exact DP) old
 have es4:({s3 with heap:=k,toks:=s2.toks+([]:List (Str×Value)).length}:Shared)={s2 with heap:=k,toks:=s2.toks+([]:List (Str×Value)).length}:=by rw[<-Rn]
 rw[es4]at J4;have Zj:tn 0 k:=T.keep _ _ _ st2 λb f o e=>old b o (by rw[sM];exact Dx _ e);have hC:(s2.heap.push {cls:=.type "list",dict:=none,data:=.seq ([]:List Value).toArray}).objs.size=s3.heap.objs.size:=by rw[sM]
 have WC:∀{H':Hp},(∀b∈j,H' b=none)->∀b∈j,rE (aU X scope s3.heap.objs.size l F s3 (upd H1 s2.heap.objs.size (.lst [])) j) [] H' b:=λhn b f=>⟨hn b f,KM (by rw[U];exact RW (WB b f)),J4.ok.Az b f,.inl f,λx c e=>((J4.ok.Vg b f).2 x c e),λp hp=>absurd (show p∈([]:List (Addr×Obj))from hp) (by simp)⟩;have L:codeAny (model X.prog X.w) X.A (.compLoop (.ListComp Y [⟨tg,M,S,0⟩] scope pos) 0 (.ref it) (.ref s2.heap.objs.size) (compEnvC scope (mh X.env.cells scope.names []) s3.heap.objs.size X.env))
  (RR (.ref s2.heap.objs.size) s3.heap.objs.size) {s2 with heap:=k,toks:=s2.toks+([]:List (Str×Value)).length}:=by
  refine tY (λn s'=>∃(i:Nat)(v:List (Option V))(H':Hp),v.length=l.length/\Inv (aU X scope s3.heap.objs.size l F s3 (upd H1 s2.heap.objs.size (.lst [])) j) [] (v++t) H' s'/\tn i s'.heap/\(∀b∈j,H' b=none)/\W i n H') ?_ m0
   ⟨0,l.map (λ_=>none),_,Fk _,J4,Zj,λb f=>(f3 b f).1,w0⟩
  rintro n s5 ⟨i,v,H,hv0,I5,Rk,Vj,w5⟩;rcases turn i n H w5 with⟨stop,qn⟩|⟨go,step⟩
  .refine bD (T.done (aU X scope s3.heap.objs.size l F s3 (upd H1 s2.heap.objs.size (.lst [])) j) rfl rfl rfl hc i [] s5 (v++t) H _ I5 (WC Vj) Rk stop) ?_;rintro r s6 ⟨hr,Z⟩;subst hr;obtain⟨m,hnm,_⟩:=Z.loc;refine hRR _ _ s6 H ⟨m,hnm⟩ (λh' Lr=>?_) (Bn _) (by rw[U];exact cv _) Z.free qn;have WD:∀b o,s3.heap.get? b=some o->b≠s3.heap.objs.size:=λb o e=>KM (Fm e);have u:=Z.base;have I3':=I3.CV (s':={s6 with heap:=h'}) (H':=H) (ch:=j) Z.os ⟨λb o e n f hx=>Lr.extBut b _ (WD b o e) (u.keep b o e n f hx),λb o e n f hx=>by
    obtain⟨sl,q⟩:=u.slot b o e n f hx;exact⟨sl,Lr.extBut b _ (WD b o e) q⟩,u.free,λb o e hx=>by
    obtain⟨o',q⟩:=u.there b o e hx;exact⟨o',Lr.extBut b _ (WD b o e) q⟩,u.tups,u.jZ,u.kN⟩ (λa o e=>?_) Z.bare (λb f=>?_)
   .exact I3'
   .have Zk:∀b u,H b=some u->b≠s3.heap.objs.size:=λb u e z=>by subst z;have:=Z.free;have e2:H s3.heap.objs.size=none:=this;rw[e2]at e;cases e
    refine(Z.hok a o e).stay (λb u f q=>Lr.extBut b u ?_ q) (λ_ q=>q) λ_ _ q=>q;rcases f with rfl|f
    .exact Zk _ _ e
    .exact Zk _ _ f
   .obtain⟨q0,q1,q2,q3,q4,q5⟩:=f3 b f;exact⟨q3,q1,q4,q5⟩
  .refine bD (T.item (aU X scope s3.heap.objs.size l F s3 (upd H1 s2.heap.objs.size (.lst [])) j) rfl rfl rfl hc i [] s5 (v++t) H _ I5 (WC Vj) Rk go) ?_;rintro r s6 ⟨u,hr,h6⟩;subst hr;refine bD h6 ?_;rintro _ s7 ⟨x,H7,I7,r7,y7,WE,fr7⟩;have I7':=I7.pinned (WC fr7) (T.obj _ _ WE);refine bD (hg _ _ _ _ _ s7 (v++t) H7 x u _ I7' r7 (step x H7 y7 v hv0)) ?_;rintro _ s8 ⟨σ8,H8,I8,I,hv1,e8,q8⟩;subst e8;have fin:∀{s9:Shared}{H9:Hp},Inv (aU X scope s3.heap.objs.size l F s3 (upd H1 s2.heap.objs.size (.lst [])) j) ([]++pC j s7.heap) (I++t) H9 s9->(∃B,B<n/\W (i+1) B H9)->
    ∃m,m<n/\∃(i:Nat)(v:List (Option V))(H':Hp),v.length=l.length/\Inv (aU X scope s3.heap.objs.size l F s3 (upd H1 s2.heap.objs.size (.lst [])) j) [] (v++t) H' s9/\tn i s9.heap/\(∀b∈j,H' b=none)/\W i m H':=λ{s9 H9} I9 ⟨B,hm,w9⟩=>by
    refine⟨B,hm,i+1,I,H9,hv1,I9.kP,T.keep _ _ _ WE λb f o e=>(I9.pin (b,o) (FK _ (FK _ (ic f e)))).1,λb f=>?_,w9⟩;obtain⟨o,e,d⟩:=T.obj _ _ WE b f;exact(I9.pin (b,o) (FK _ (FK _ (ic f e)))).2.1
   refine bD (hf _ _ _ _ _ s8 (I++t) H8 _ I8 q8) ?_;rintro ok s9 ⟨H9,I9,q9⟩;cases ok with
   |false=>exact fin I9 q9
   |true=>show wpAny _ _ _ _ _ _;refine bD (he _ _ _ _ _ s9 (I++t) H9 _ I9 q9) ?_;rintro y WG ⟨vy,H10,I10,r10,ys,hys,hl,q10⟩;refine bD (gA (X:=aU X scope s3.heap.objs.size l F s3 (upd H1 s2.heap.objs.size (.lst [])) j) _ WG (I++t) H10 (.ref s2.heap.objs.size) [vy] _ [y] (λ_ H'=>∃B,B<n/\W (i+1) B H') I10 rfl (.cons r10 .nil) ⟨_,ys,vy,rfl,rfl,hys,hl,q10⟩) ?_;rintro _ Zl ⟨_,H11,I11,_,q11⟩;exact fin I11 q11
 rw[hC];exact codeAny_compStart_list L (T.self X.A 0 _ _ _ Zj L)
theorem HP{tg a j:Expr}{i:List Expr}{scope:Scope}(d l:List Str){pos:Pos}{p:TI}{g:TG}{tc:TT}{te:TE}(K:X.calm=true)(x:dO scope X.env.scope X.N l d=true)(B:PI X tg a p)
 (E:∀C f k c,PG (aU X scope C d l f k c) tg g)(F:∀C f k c,PF (aU X scope C d l f k c) i tc)(he:∀C f k c,PE (aU X scope C d l f k c) j te)
 (t:∀z,foldedSetIterable a X.env z=pure z:=by intro _;rfl):PE X (.ListComp j [⟨tg,a,i,0⟩] scope pos) (DO d.length p g tc te):=by
 intro b s o H Q I h;have O:=gi.of x;rw[eval_ListComp];refine wpAny_comprehension_free (use:=none) rfl t (pO (j5 I O)) O.kind O.loc (bD (B b s o H _ I h) λv s1 P=>bD P λr s2 M=>?_);obtain⟨it,c,tn,J,H2,e,Y,T,st2,S,u⟩:=M;subst e;refine pQ (RR:=λn C=>compPost (model X.prog X.w) X.A X.xe none (EP X b o Q) n C) K O E F he Y T st2 S u ?_;rintro D C s' Z ⟨m,y⟩ L _ _ _ q;exact⟨m,y,λR U=>⟨.ref D,Z,L R U,rfl,q⟩⟩
end
theorem sN{bs:List Bool}:∀{us:List Value},Vals (bs.map V.bl) us->us=bs.map Value.bool:=by
 induction bs with
 |nil=>intro us r;rw[cf]at r;cases r;rfl
 |cons b bs d=>
  intro us r;rw[Hn]at r;cases r with
  |cons c a=>have e:_=Value.bool b:=c;rw[e,d a];rfl
theorem x9(bs:List Bool):((L0 bs.length).all λi=>(bs[i]?).getD true)=bs.all id:=by
 rw[RF,IR,IR];constructor
 .intro h b d;obtain⟨i,c,rfl⟩:=Xt d;have:=h i (UF.mpr c);simp only[Ee c,L3]at this;exact this
 .intro h i c;have a:=UF.mp c;simp only[Ee a,L3];exact h _ (N0 a)
section
variable{X:Cx}
theorem A9(l:X.calm=true):bF X (.builtin "sum") (λa H Q=>∃(p:Addr)(b:List Int),a=[.ref p]/\j3 X.K H p (b.map V.int)/\Q (.int b.sum) H):=by
 intro e s t H a v Q I r h;obtain⟨p,b,rfl,m,q⟩:=h;obtain⟨u,rfl,i⟩:=Vals.one r;cases(show u=Value.ref p from i);obtain⟨c,rv,j,_⟩:=I.list m;have g:=intsAre_of rv;obtain⟨a,f⟩:=g.allInts.items;have d:s.heap.IsList p (intItems a):=f▸j.isList;refine sum_intListG (I.ok.hd l) d λy w x k=>?_;have o:b=a.toList.map (·.1):=by rw[<-nums_intItems,<-f];exact(show numsOf c.toArray.toList=b from g.numsOf).symm
 have n:preSum (numAt a) a.size=b.sum:=by rw[preSum_eq,U2 (by simp),o]
 rw[n];exact⟨.int b.sum,H,I.kept k,⟨_,rfl⟩,q⟩
theorem Ba(x:X.calm=true):bF X (.builtin "all") (λg H Q=>∃(p:Addr)(bs:List Bool),g=[.ref p]/\j3 X.K H p (bs.map V.bl)/\Q (.bl (bs.all id)) H):=by
 intro j s D H g E Q I r h;obtain⟨p,bs,rfl,y,q⟩:=h;obtain⟨u,rfl,m⟩:=Vals.one r;cases(show u=Value.ref p from m);obtain⟨a,rv,n,_⟩:=I.list y;have k:=sN rv;have f:=n.isList;have d:p<s.heap.objs.size:=by obtain⟨_,e,_⟩:=f;exact Fm e
 refine call_all_walk (wpAny_pyIter_list f ?_);refine⟨s.heap.objs.size,[s.heap.objs.size,p],[s.heap.objs.size],a.toArray.size,_,_,λi=>(bs[i]?).getD true,rfl,Walks.list (A:=X.A.in1) (I.ok.hd x) _ p (KM d) a.toArray,
  ⟨⟨_,KE _ rfl,rfl,rfl⟩,f.push _⟩,λi v J M N B l=>?_,λL F w=>?_⟩
 .have c:a[i]?=some v:=by simpa using B
  rw[k,IH]at c;cases e:bs[i]? with
  |none=>rw[e]at c;cases c
  |some b=>rw[e]at c;simp only[e,L3]at l;have:v=Value.bool b:=(Ha c).symm;subst this;exact Pt l
 .have e:((L0 a.toArray.size).all λi=>(bs[i]?).getD true)=bs.all id:=by
   have C:a.toArray.size=bs.length:=by rw[Fn,k,Fk]
   rw[C];exact x9 bs
  rw[e];exact⟨.bl _,H,I.kept λb o z=>w b o (λt=>by rw[FR.mp t]at z;exact PQ _ (Fm z)) (Dx _ z),rfl,q⟩
theorem HQ{i:Nat}{x:Str}{tg f r:Expr}{k:List Expr}{scope:Scope}{d pos t:Pos}(F R:List Str){wi:TI}{g:TG}{tc:TT}{te:TE}(hN:X.N.Nodup)(hi:X.N[i]?=some x)(B:Loc X.env.scope x)(hc:X.calm=true)(ho:dO scope X.env.scope X.N R F=true)(S0:PI X tg f wi)
 (hg:∀C L P K,PG (aU X scope C F R L P K) tg g)(hf:∀C L P K,PF (aU X scope C F R L P K) k tc)(he:∀C L P K,PE (aU X scope C F R L P K) r te)
 (Z:swapsWith (.ListComp r [⟨tg,f,k,0⟩] scope pos) (some (.Name x d)) t.line X.env=pure true:=by rfl)
 (hs:∀z,foldedSetIterable f X.env z=pure z:=by intro _;rfl)(hfn:X.fn x=true\/X.env.scope.names.lookup x=some .local:=by first|exact .inl rfl|exact .inr rfl|assumption):
 PS X (.Assign [.Name x d] (.ListComp r [⟨tg,f,k,0⟩] scope pos) t) (oZ (DO F.length wi g tc te) (gx i)):=by
 intro j s S H W I h;have O:=gi.of ho;rw[exec_Assign_Name_used _ _ _ _ Z];refine Da (cm (Da ?_));show wpAny _ X.A (do let _<-comprehension (.ListComp r [⟨tg,f,k,0⟩] scope pos) scope X.env _ (newList []) false (eval f X.env) (some (assign (.Name x d) X.env))) _ _ s;refine Da (Oy (wpAny_comprehension_free (use:=some (assign (.Name x d) X.env)) (Q:=λ_ s'=>SP X j W .next s') rfl hs (pO (j5 I O)) O.kind O.loc (bD (S0 j s S H _ I h) λv s1 h1=>bD h1 λitv s2 h2=>?_)) (λ_ s' hq=>GM (GM hq)) λ_ _ e=>e);obtain⟨it,K,tn,J,H2,e,M,T,st2,f2,hq⟩:=h2;subst e;refine pQ (Q:=λx H1=>gx i x S H1 W.nx) (RR:=λacc C=>compPost (model X.prog X.w) X.A X.xe (some (assign (.Name x d) X.env)) (λ_ s'=>SP X j W .next s') acc C) hc O hg hf he M T st2 f2 hq ?_;rintro D C s' H' ⟨m,hm⟩ hI _ hC fC q;have I':Inv X j S H' s':=hI s'.heap ⟨rfl,λ_ _=>rfl⟩;have Y:∀b o,s2.heap.get? b=some o->b≠C:=λb o e=>KM (FM (Fm e) hC);have nL:C≠X.env.locals:=λe=>by obtain⟨m2,hn2,_⟩:=M.loc;obtain⟨o,_,_,ho2,_⟩:=hn2;exact Y _ o ho2 e.symm
 have nC:∀y c,X.env.cells.lookup y=some c->c≠C:=λy c e z=>by obtain⟨v,o,e1,_⟩:=M.cell y c e;exact Y _ o e1 z
 have nP:∀p∈X.pn++j,p.1≠C:=λp hp z=>Y _ _ (M.pin p hp).1 z;show wpAny _ X.A (assign (.Name x d) X.env (.ref D)) _ _ _;refine wpAny_assign_Name (sf I' hN hi B (v:=.ref D) rfl (λU WH hsm=>?_) hfn);obtain⟨a,Lr,ha⟩:=hsm;have aC:a≠C:=by
  rcases ha with rfl|ha
  .exact OF nL
  .exact nC x a ha
 refine⟨m,hm.sameBut Lr (OF aC),λh' l=>⟨_,H',?_,q⟩⟩;refine WH.CV (s':={U with heap:=h'}) (H':=H') (ch:=[C]) rfl ⟨λb o e n E B=>l.extBut b o (λz=>B (by rw[z];exact FR.mpr rfl)) e,λb o e n E B=>⟨o.slots,l.extBut b o (λz=>B (by rw[z];exact FR.mpr rfl)) e⟩,λb o e n B=>n,λb o e B=>⟨o,l.extBut b o (λz=>B (by rw[z];exact FR.mpr rfl)) e⟩,λb F q=>q,λb o u q=>q,λb ps q=>⟨#[],by rw[Array.append_empty];exact q⟩⟩ (λa o e=>?_) WH.bare (λb E=>?_)
 .refine(WH.hok a o e).stay (λb u E q=>l.extBut b u ?_ q) (λ_ q=>q) λ_ _ q=>q;rintro rfl;rcases E with rfl|E
  .rw[fC]at e;cases e
  .rw[fC]at E;cases E
 .rw[FR.mp E];exact⟨.inr (FV M.sz hC),nL,λy c e z=>nC y c e z,nP⟩
end
end L2
namespace L2
open PySem PySem.Spec PyProof.Rows PySem.W
noncomputable def tx(l:List Nat):Str:=⟨l.toArray⟩
theorem gj(x:Str):tx x.cps.toList=x:=by unfold tx;rw[Array.toArray_toList]
theorem oU(l:List Nat):(tx l).length=l.length:=rfl
theorem iZ(l:List Nat):(tx l).cps.toList=l:=rfl
theorem j6{a b:List Nat}(h:tx a=tx b):a=b:=by have:=Hb (λx=>x.cps.toList) h;exact this
theorem bZ(a b:List Nat):tx a++tx b=tx (a++b):=by show Str.mk (a.toArray++b.toArray)=Str.mk (a++b).toArray;congr 1;exact List.append_toArray a b
theorem je(x:Str):x.length=x.cps.toList.length:=by unfold Str.length;exact(J9).symm
noncomputable def bT(l:List Nat)(a b:Option Int):List Nat:=(l.drop (HT.bX l.length 0 a)).take (HT.bX l.length l.length b -HT.bX l.length 0 a)
section
variable{X:Cx}
theorem Nm(a b:Option Int)(n:Nat):Builtin.Str.strSliceIndices a b 1 n=(L0 (HT.bX n n b -HT.bX n 0 a)).map (HT.bX n 0 a+·):=by obtain⟨d,c,f⟩:=kT a b n;have e:Builtin.Str.strSliceIndices a b 1 n=sliceRange (sliceBounds a b none n).1 (sliceBounds a b none n).2.1 1:=rfl;rw[e,d,c,sliceRange_one]
theorem DR(x:Str)(a c:Option Int):Txt.slice x a c=tx (bT x.cps.toList a c):=by
 unfold Txt.slice;rw[Nm,pick_run];have b:=je x;unfold bT;rw[<-b];split
 .rename_i h
  simp only[PH,V0,HI,Fk,XS]at h;rw[h];have z:HT.bX x.length 0 a=0\/x.length=0:=by
   have:HT.bX x.length x.length c<=x.length:=by
    unfold HT.bX;split
    .exact Bn _
    .split<;>omega
   omega
  rcases z with z|z
  .rw[z,UN,U2 (by rw[b];exact Bn _),gj]
  .have:x.cps.toList=[]:=Mo.mp (by rw[<-b,z]);rw[this,z];simp only[List.drop_nil,List.take_zero];rw[<-this,gj]
 .rfl
theorem Nn:Lk X (λx b c H Q=>∃z:Str,x=.str z/\z.length<=sizeLine/\Q (.str (tx (bT z.cps.toList b c))) H):=by
 intro a s m H x v o n b c p Q I r g y f h;obtain⟨z,rfl,hz,q⟩:=h;obtain⟨t,rfl⟩:=r;refine⟨"str",_,PySem.F.slot_str_getitem.lookup,typeIs_str _ _ _,?_⟩;have d:∀l u:Option (Int×Tok),o=partValue l->n=partValue u->b=l.map (·.1)->c=u.map (·.1)->wpAny (model X.prog X.w) X.A (getItem (.str z t) (.ref p)) (EP X a m Q) X.xe s:=λl u E D C B=>by
  refine wpAny_getItem_str_slice (l:=l) (u:=u) (st:=none) (by rw[E,D]at g;exact g) rfl ?_;refine post_val_or_str ?_;have e:(if((none:Option (Int×Tok)).map (·.1)).getD 1==1&&(slicePicked z l u none).length==z.length then z else⟨((slicePicked z l u none).filterMap (z.cps[·]?)).toArray⟩)=Txt.slice z b c:=by rw[C,B];rfl
  rw[e];exact⟨FV (Txt.slice_le z _ _) hz,λJ k=>⟨.str (Txt.slice z b c),H,I.tok _,⟨_,rfl⟩,by rw[DR];exact q⟩⟩
 cases y with
 |none=>
  cases f with
  |none=>exact d none none rfl rfl rfl rfl
  |int j u=>exact d none (some (j,u)) rfl rfl rfl rfl
 |int i w=>
  cases f with
  |none=>exact d (some (i,w)) none rfl rfl rfl rfl
  |int j u=>exact d (some (i,w)) (some (j,u)) rfl rfl rfl rfl
theorem Bb:bF X (.type "str") (λa H Q=>(∃x,a=[.str x]/\Q (.str x) H)):=by intro b s d H a e Q I r h;obtain⟨x,rfl,q⟩:=h;obtain⟨u,rfl,c⟩:=vals1 r;obtain⟨t,rfl⟩:=c;exact PySem.P.str_of_str ⟨.str x,H,I,⟨_,rfl⟩,q⟩
theorem Bc:bF X (.type "int") (λa H Q=>(∃x n,a=[.str x]/\PySem.intText? x=some n/\x.length<=640/\Q (.int n) H)):=by intro b s f H a g Q I r h;obtain⟨x,n,rfl,e,d,q⟩:=h;obtain⟨u,rfl,c⟩:=vals1 r;obtain⟨t,rfl⟩:=c;exact PySem.W.KIN.call_text e d ⟨.int n,H,I.tok _,⟨_,rfl⟩,q⟩
theorem Bd{α:Type}(l:List (Array α)):∀a:Array α,(l.foldl (·++·) a).toList=a.toList++(l.map V2).flatten:=by
 induction l with
 |nil=>intro a;simp
 |cons x l b=>intro a;rw[Tq,b];simp
theorem HR:kL X (binaryOp .Mult) (λx y H Q=>∃(z:Str)(k:Int),x=.str z/\y=.int k/\0<=k/\k<=1000/\z.length<=1000/\Q (.str (tx (C8 k.toNat z.cps.toList).flatten)) H):=by
 intro a s g H x y v u Q I d c h;obtain⟨z,k,rfl,rfl,f,l,b,q⟩:=h;obtain⟨t,rfl⟩:=d;obtain⟨j,rfl⟩:=c;obtain⟨n,rfl⟩:=Iy f;refine SB.mul ⟨?_,λm _=>?_,λ_ _=>?_⟩ λi k=>⟨.str _,H,I.tok _,⟨_,rfl⟩,?_⟩
 .rw[DL (by omega),DL (by omega)];rfl
 .have o:=ZU b (show n<=1000 by omega);have:((z.length:Nat):Int)<=(2^63 -1)/((n:Nat):Int):=Int.le_ediv_of_mul_le (by omega) (by rw[<-Int.natCast_mul];omega);omega
 .unfold Builtin.Str.tooLong;refine DL ?_;rw[sizeLine_eq];have:=ZU b (show n<=1000 by omega);show¬z.length*n>_;omega
 .have e:Txt.mul z ((n:Nat):Int)=tx (C8 n z.cps.toList).flatten:=by
   unfold Txt.mul;split
   .rw[show n=0 by omega];rfl
   .split
    .rename_i h
     rw[Ta,HI,HI]at h;rcases h with h|h
     .rw[show n=1 by omega,List.replicate_one,List.flatten_singleton,gj]
     .have:z.cps.toList=[]:=Mo.mp (by rw[<-je,h]);rw[this,show(C8 n ([]:List Nat)).flatten=[] by simp,<-this,gj]
    .unfold tx;congr 1;apply Xv.mp;rw[Bd];simp
  rw[I0]at q;rw[e];exact q
theorem Be:Wn X "str.startswith" (λx d H Q=>∃(z y:Str)(i:Nat),x=.str z/\d=[.str y,.int i]/\i<=z.length/\Q (.bl (y.cps.toList.isPrefixOf (z.cps.toList.drop i))) H):=by
 intro f s p H x d v u Q I k r h;obtain⟨z,y,i,rfl,rfl,n,q⟩:=h;obtain⟨t,rfl⟩:=k;obtain⟨A,w,rfl,m,l⟩:=vals2 r;obtain⟨j,rfl⟩:=m;obtain⟨g,rfl⟩:=l;refine call_gives PySem.F.slot_str_startswith (typeIs_str _ _ _) PySem.F.entry_str_startswith (PySem.F.args_str_startswith_3 _ _ _) (gives_str_startswith_from z y i t j g) ?_;refine⟨.bl _,H,I,rfl,?_⟩;have e:fromIndex z.length (i:Int)=i:=by unfold fromIndex;omega
 rw[e];have o:(decide (i+y.length<=z.length)&&Builtin.Str.subAt z y i)=y.cps.toList.isPrefixOf (z.cps.toList.drop i):=by
  rw[RF,AC,P2,ae,List.prefix_iff_eq_take];unfold Builtin.Str.subAt;rw[HI,<-Xv,Array.toList_extract,je y,je z];have hz:i<=z.cps.toList.length:=by rw[<-je];exact n
  generalize z.cps.toList=a at*;generalize y.cps.toList=b at*;rw[List.extract_eq_take_drop,Pl];constructor
  .rintro⟨B,c⟩;exact c.symm
  .intro c;refine⟨?_,c.symm⟩;have:=Hb Dr c;rw[T1,Rj]at this;omega
 rw[o];exact q
end
end L2
namespace pR
open L2 PySem
noncomputable def dg(m:Nat):List Nat:=(Zh 10 m).map Char.toNat
theorem tZ(m:Nat):(Str.ofString (toString ((m:Nat):Int)))=tx (dg m):=by have h:=PySem.W.KIN.signs_num m;have:tx (Str.ofString (toString ((m:Nat):Int))).cps.toList=Str.ofString (toString ((m:Nat):Int)):=gj _;rw[<-this,h];rfl
theorem Np(m:Nat):∀c∈dg m,48<=c/\c<=57:=by intro c b;obtain⟨d,a,e⟩:=Kb.mp b;have r:=bM (Nat.isDigit_of_mem_toDigits (by decide) (by decide) a);rw[<-e];exact r
theorem Nq(m:Nat):PySem.NumText.digitsVal (dg m)=m:=PySem.W.KIN.val_back m
theorem Ls(m:Nat):dg m≠[]:=by
 intro h;have:=Nq m;have b:(Zh 10 m).length=0:=by have:=Hb Dr h;unfold dg at this;rw[Fk]at this;exact this
 have a:=a7 10 m;omega
theorem pS{m k:Nat}(a:1<=k)(h:m<10^k):(dg m).length<=k:=by unfold dg;rw[Fk];exact b0 a h
end pR
namespace L2
open PySem PySem.Spec PyProof.Rows
section
variable{X:Cx}
noncomputable def Vp(a st:Int)(n:Nat):It:=⟨λi _=>i<n,λi H x b=>b=H/\x=.int (a+i*st),λi _=>n<=i⟩
theorem vJ{P:Program}{w:World}{K:Frag}{tg:Expr}(c:Addr)(g st:Int)(n:Nat):Turn P w K tg (Vp g st n) [c] c (λi h=>IsRangeIter h c (g+(i:Nat)*st) ((n:Int) -(i:Nat)) st)where
 mem:=by simp
 obj:=λi h st b d=>by
  have e:b=c:=by simpa using d
  subst e;exact⟨_,st,λv z=>by have L:Data.fields _=Data.cell v:=z;cases L⟩
 keep:=λi h l st k=>k c (by simp) _ st
 item:=by intro X r m u q i a s F H E I j D p;subst r m u;obtain⟨C,B,O,A,y,x⟩:=j c (by simp);have W:=Walks.range (prog:=X.prog) (w:=X.w) (I.ok.hd q) c g st n;refine W.item i s _ _ p D λv l J N f M=>?_;obtain⟨t,rfl⟩:=N;have R:Inv X a F H {s with heap:=l,toks:=J}:=I.turned (λb o d e=>M b o (by simpa using d) e) C B A y x;exact⟨_,rfl,y9 (s:={s with heap:=l,toks:=J}) (n:="range_iterator") f rfl rfl (by decide) ⟨.int (g+i*st),H,R,⟨t,rfl⟩,⟨rfl,rfl⟩,f,λb d=>(j b d).1⟩⟩
 done:=by intro X r m u q i a s F H E I j D p;subst r m u;obtain⟨C,B,O,A,y,x⟩:=j c (by simp);exact wpAny_pyNext_range_end (I.ok.hd q) D (by have:n<=i:=p;omega) λl Q=>⟨rfl,I.turned (t':=s.toks) (λb o d e=>Q b o d e) C B A y x⟩
 self:=λ_ _ _ _ _ st h=>wpAny_pyIter_rangeiter st h
theorem Bf{tg:Expr}{c:List (Addr×Obj)}{f:St}{H:Hp}{s:Shared}{R:It->Hp->Prop}{E:Value->Shared->Prop}{a d st:Int}{n:Nat}{t u v:Tok}{g:Nat}(I:Inv X c f H s)(i:Builtin.Range.small a d st=true)(j:Builtin.Range.rangeSize a d st=(n:Int))
 (q:R (Vp a st n) H):wpAny (model X.prog X.w) X.A (pyIter (.ref s.heap.objs.size)) (Wc X c f tg R) E {s with heap:=s.heap.push {cls:=.type "range",data:=.fields #[.int a t,.int d u,.int st v]},toks:=g}:=by
 refine wpAny_pyIter_range (IsRange.new ..) i ?_;have h:Inv X c f H {s with heap:=s.heap.push {cls:=.type "range",data:=.fields #[.int a t,.int d u,.int st v]},toks:=g}:=I.kept λb o e=>Dx _ e;refine⟨(s.heap.push {cls:=.type "range",data:=.fields #[.int a t,.int d u,.int st v]}).objs.size,[(s.heap.push {cls:=.type "range",data:=.fields #[.int a t,.int d u,.int st v]}).objs.size],_,_,H,rfl,
  h.kept (t':=g) λb o e=>Dx _ e,vJ _ a st n,?_,λb k=>?_,q⟩
 .have m:a+((0:Nat):Int)*st=a:=by simp
  have l:(n:Int) -((0:Nat):Int)=Builtin.Range.rangeSize a d st:=by rw[j];simp
  show IsRangeIter _ _ (a+((0:Nat):Int)*st) ((n:Int) -((0:Nat):Int)) st;rw[m,l];exact KE _ rfl
 .have e:b=(s.heap.push {cls:=.type "range",data:=.fields #[.int a t,.int d u,.int st v]}).objs.size:=by simpa using k
  subst e;exact h.G7 (Bn _) (h.hok.fresh (Bn _))
noncomputable def S5(ta:TA):TI:=λa H R=>ta a H λb c=>∃(i j k:Int)(n:Nat),b=[.int i,.int j,.int k]/\(k≠0/\k.natAbs<1073741824/\Builtin.Range.small i j k=true/\Builtin.Range.rangeSize i j k=(n:Int))/\R (Vp i k n) c
theorem Bg{tg a b c:Expr}{ta:TA}{p pos:Pos}(C:Gl X "range")(B:X.mg "range"=none)(D:PA X [a,b,c] ta)(A:starEach [a,b,c] X.env=[(false,eval a X.env),(false,eval b X.env),(false,eval c X.env)]:=by rfl)(g:starEach [b,c] X.env=[(false,eval b X.env),(false,eval c X.env)]:=by rfl):
 PI X tg (.Call (.Name "range" p) [a,b,c] [] pos) (S5 ta):=by
 intro f s o H R I h;refine Call_ (lV I C B boot_range (Re (bD (D pos f s o H _ I h) λJ L ⟨F,M,E,v,m⟩=>?_) (by rw[A,g]) (by rw[g];rfl)));obtain⟨i,j,k,n,e,⟨m,z,y,x⟩,q⟩:=m;subst e;cases v with
 |cons r d=>
  cases d with
  |cons w d=>
   cases d with
   |cons l d=>
    cases d;obtain⟨t,rfl⟩:=r;obtain⟨K,rfl⟩:=w;obtain⟨u,rfl⟩:=l;exact call_range_3 m (Bf E y x q) (.inl (Ul z))
end
end L2
namespace L2
open PySem
end L2
namespace L2
open PySem PySem.Spec PyProof.Rows
noncomputable def Dt(X:Cx)(H:Hp)(x:V)(d:PyData):Prop:=
 ∀(a:List (Addr×Obj))(b:St)(s:Shared)(u:Value),Inv X a b H s->RelV x u->∃c,Reads s.heap u d c
section
variable{X:Cx}{H:Hp}
theorem Nr(i:Int):Dt X H (.int i) (.int i):=λ_ _ s u _ r=>by obtain⟨t,rfl⟩:=r;exact⟨_,.int i t⟩
theorem S6(b:Bool):Dt X H (.bl b) (.bool b):=λ_ _ s u _ r=>by
 cases(show u=Value.bool b from r);exact⟨_,.bool b⟩
theorem Nt(x:Str):Dt X H (.str x) (.str x):=λ_ _ s u _ r=>by obtain⟨t,rfl⟩:=r;exact⟨_,.str x t⟩
theorem Nu:Dt X H .aG .none:=λ_ _ s u _ r=>by
 cases(show u=Value.none from r);exact⟨_,.none⟩
theorem ya{a:List (Addr×Obj)}{d:St}{s:Shared}(I:Inv X a d H s):∀{b:List V}{ds:List PyData}{us:List Value},Paired (Dt X H) b ds->Vals b us->∃c,ReadsAll s.heap us ds c
 |_,_,_,.nil,.nil=>⟨_,.nil⟩
 |_,_,_,.cons h t,.cons r e=>by obtain⟨c,q⟩:=h _ _ _ _ I r;obtain⟨g,f⟩:=ya I t e;exact⟨_,.cons q f⟩
theorem DS{a:Addr}{c:List V}{ds:List PyData}(h:j3 X.K H a c)(b:Paired (Dt X H) c ds):Dt X H (.ref a) (.list ds):=λ_ _ s u I r=>by
 cases(show u=Value.ref a from r);obtain⟨e,rv,d,_⟩:=I.list h;obtain⟨i,q⟩:=ya I b rv;obtain⟨o,f,g,n,hd⟩:=d.isList;exact⟨_,.list f g hd (by simpa using q)⟩
theorem Nv{a:Addr}{c:List V}{ds:List PyData}(h:jU X.K H a c)(b:Paired (Dt X H) c ds):Dt X H (.ref a) (.tuple ds):=λ_ _ s u I r=>by
 cases(show u=Value.ref a from r);obtain⟨d,rv,e,_⟩:=I.tuple h;obtain⟨i,q⟩:=ya I b rv;obtain⟨o,f,g,n,hd⟩:=e;exact⟨_,.tuple f g hd (by simpa using q)⟩
noncomputable def WJ(X:Cx):R2:=λx y H Q=>∃b a,Dt X H x b/\Dt X H y a/\(SeqAt.shaped b=true/\SeqAt.shaped a=true/\SeqAt.noMix b a=true)/\Q (.bl (PySem.Spec.same b a)) H
noncomputable def WK(X:Cx):R2:=λx y H Q=>∃b a,Dt X H x b/\Dt X H y a/\(SeqAt.shaped b=true/\SeqAt.shaped a=true/\SeqAt.noMix b a=true)/\Q (.bl (!PySem.Spec.same b a)) H
theorem Nx(j:X.A.units+64<cLine):kL X (compareOp .Eq) (WJ X):=by intro a s m H x y v u Q I c b h;obtain⟨o,n,l,k,⟨i,g,f⟩,q⟩:=h;obtain⟨r,e⟩:=l _ _ _ _ I c;obtain⟨p,d⟩:=k _ _ _ _ I b;exact eq_dataH_same e d i g j f ⟨.bl _,H,I,rfl,q⟩
theorem Ny(j:X.A.units+64<cLine):kL X (compareOp .NotEq) (WK X):=by intro a s m H x y v u Q I c b h;obtain⟨o,n,l,k,⟨i,g,f⟩,q⟩:=h;obtain⟨r,e⟩:=l _ _ _ _ I c;obtain⟨p,d⟩:=k _ _ _ _ I b;exact ne_dataH_same e d i g j f ⟨.bl _,H,I,rfl,q⟩
end
section
variable{X:Cx}
end
section
variable{X:Cx}{tg:Expr}
end
section
variable{prog:Program}{w:World}{A:Around}{E:Value->Shared->Prop}
end
theorem Bh{X:Cx}(D:X.calm=true):bF X (.builtin "min") (λb H Q=>∃(p:Addr)(a:List Int),b=[.ref p]/\j3 X.K H p (a.map V.int)/\a≠[]/\∀m∈a,(∀n∈a,m<=n)->Q (.int m) H):=by
 intro g s L H b M Q I r h;obtain⟨p,a,rfl,E,x,q⟩:=h;obtain⟨u,rfl,o⟩:=Vals.one r;cases(show u=Value.ref p from o);obtain⟨e,rv,w,_⟩:=I.list E;have k:=intsAre_of rv;obtain⟨b,i⟩:=k.allInts.items;have f:s.heap.IsList p (intItems b):=i▸w.isList;have l:a=b.toList.map (·.1):=by rw[<-nums_intItems,<-i];exact(show numsOf e.toArray.toList=a from k.numsOf).symm
 have B:a.length=b.size:=by rw[l,Fk,J9]
 have z:0<b.size:=by rw[<-B];exact T2.mpr x
 refine min_intList (I.ok.hd D) f z λv O N y C=>?_;obtain⟨t,rfl⟩:=intItems_at y;obtain⟨P,J⟩:=argBest_lt (numAt b) (b.size -1);have d:∀j,j<a.length->numAt b j=a.getD j 0:=λj _=>by rw[numAt_eq,<-l]
 have F:∀j,j<a.length->a.getD j 0∈a:=λj c=>by rw[SU,Ee c];exact N0 c
 refine⟨.int _,H,I.kept C,⟨_,rfl⟩,q _ ?_ λn A=>?_⟩
 .rw[d _ (by lia)];exact F _ (by lia)
 .obtain⟨j,c,rfl⟩:=Xt A;have:=J j (by lia);rw[d j c,SU,Ee c]at this;exact this
theorem Bj{X:Cx}(D:X.calm=true):bF X (.builtin "max") (λb H Q=>∃(p:Addr)(a:List Int),b=[.ref p]/\j3 X.K H p (a.map V.int)/\a≠[]/\∀m∈a,(∀n∈a,n<=m)->Q (.int m) H):=by
 intro g s L H b M Q I r h;obtain⟨p,a,rfl,E,x,q⟩:=h;obtain⟨u,rfl,o⟩:=Vals.one r;cases(show u=Value.ref p from o);obtain⟨e,rv,w,_⟩:=I.list E;have k:=intsAre_of rv;obtain⟨b,i⟩:=k.allInts.items;have f:s.heap.IsList p (intItems b):=i▸w.isList;have l:a=b.toList.map (·.1):=by rw[<-nums_intItems,<-i];exact(show numsOf e.toArray.toList=a from k.numsOf).symm
 have B:a.length=b.size:=by rw[l,Fk,J9]
 have z:0<b.size:=by rw[<-B];exact T2.mpr x
 refine max_intList (I.ok.hd D) f z λv O N y C=>?_;obtain⟨t,rfl⟩:=intItems_at y;obtain⟨P,J⟩:=argBest_gt (numAt b) (b.size -1);have d:∀j,j<a.length->numAt b j=a.getD j 0:=λj _=>by rw[numAt_eq,<-l]
 have F:∀j,j<a.length->a.getD j 0∈a:=λj c=>by rw[SU,Ee c];exact N0 c
 refine⟨.int _,H,I.kept C,⟨_,rfl⟩,q _ ?_ λn A=>?_⟩
 .rw[d _ (by lia)];exact F _ (by lia)
 .obtain⟨j,c,rfl⟩:=Xt A;have:=J j (by lia);rw[d j c,SU,Ee c]at this;exact this
end L2
namespace L2
open PySem
variable{r:List Expr}{env:Env}{pos:Pos}
inductive Nz:List Expr->List (Int×Int)->Prop where
 |nil:Nz [] []
 |cons {a b:Int} {j1 j2 k:Nat} {p1 p2 pos:Pos} {es:List Expr} {qs:List (Int×Int)} (h:Nz es qs):Nz (.Tuple [.Constant (.int a) j1 p1,.Constant (.int b) j2 p2] k pos::es) ((a,b)::qs)
end L2
namespace L2
open PySem PySem.Spec PyProof.Rows
section
variable{X:Cx}{H:Hp}
end
mutual
noncomputable def aN:PyData->Bool
 |.int _=>true
 |.list a=>eZ a
 |.tuple a=>eZ a
 |.none=>false
 |.bool _=>false
 |.str _=>false
 |.dict _=>false
noncomputable def eZ:List PyData->Bool
 |[]=>true
 |x::a=>aN x&&eZ a
end
mutual
theorem DU:∀d:PyData,aN d=true->d.canLay0=true
 |.int _,_=>by simp[PyData.canLay0]
 |.list a,h=>by rw[aN]at h;rw[PyData.canLay0];exact mj a h
 |.tuple a,h=>by rw[aN]at h;rw[PyData.canLay0];exact mj a h
 |.none,h=>by simp[aN]at h
 |.bool _,h=>by simp[aN]at h
 |.str _,h=>by simp[aN]at h
 |.dict _,h=>by simp[aN]at h
theorem mj:∀a:List PyData,eZ a=true->PyData.canLayAll0 a=true
 |[],_=>by simp[PyData.canLayAll0]
 |x::a,h=>by rw[eZ,AC]at h;rw[PyData.canLayAll0,DU x h.1,mj a h.2];rfl
end
mutual
theorem DV:∀d e:PyData,aN d=true->aN e=true->SeqAt.noMix d e=true
 |.int _,.int _,_,_=>by simp[SeqAt.noMix]
 |.int _,.list _,_,_=>by simp[SeqAt.noMix]
 |.int _,.tuple _,_,_=>by simp[SeqAt.noMix]
 |.list _,.int _,_,_=>by simp[SeqAt.noMix]
 |.list _,.tuple _,_,_=>by simp[SeqAt.noMix]
 |.tuple _,.int _,_,_=>by simp[SeqAt.noMix]
 |.tuple _,.list _,_,_=>by simp[SeqAt.noMix]
 |.list c,.list b,h,a=>by rw[aN]at h a;rw[SeqAt.noMix];exact mq c b h a
 |.tuple c,.tuple b,h,a=>by rw[aN]at h a;rw[SeqAt.noMix];exact mq c b h a
 |.none,_,h,_=>by simp[aN]at h
 |.bool _,_,h,_=>by simp[aN]at h
 |.str _,_,h,_=>by simp[aN]at h
 |.dict _,_,h,_=>by simp[aN]at h
 |.int _,.none,_,h=>by simp[aN]at h
 |.int _,.bool _,_,h=>by simp[aN]at h
 |.int _,.str _,_,h=>by simp[aN]at h
 |.int _,.dict _,_,h=>by simp[aN]at h
 |.list _,.none,_,h=>by simp[aN]at h
 |.list _,.bool _,_,h=>by simp[aN]at h
 |.list _,.str _,_,h=>by simp[aN]at h
 |.list _,.dict _,_,h=>by simp[aN]at h
 |.tuple _,.none,_,h=>by simp[aN]at h
 |.tuple _,.bool _,_,h=>by simp[aN]at h
 |.tuple _,.str _,_,h=>by simp[aN]at h
 |.tuple _,.dict _,_,h=>by simp[aN]at h
theorem mq:∀b a:List PyData,eZ b=true->eZ a=true->SeqAt.noMixAll b a=true
 |[],[],_,_=>by simp[SeqAt.noMixAll]
 |[],_::_,_,_=>by simp[SeqAt.noMixAll]
 |_::_,[],_,_=>by simp[SeqAt.noMixAll]
 |x::b,y::a,h,c=>by rw[eZ,AC]at h c;rw[SeqAt.noMixAll,DV x y h.1 c.1,mq b a h.2 c.2];rfl
end
mutual
theorem Bk:∀d e:PyData,aN d=true->aN e=true->(same d e=true↔d=e)
 |.int a,.int b,_,_=>by simp[same]
 |.int _,.list _,_,_=>by simp[same]
 |.int _,.tuple _,_,_=>by simp[same]
 |.list _,.int _,_,_=>by simp[same]
 |.list _,.tuple _,_,_=>by simp[same]
 |.tuple _,.int _,_,_=>by simp[same]
 |.tuple _,.list _,_,_=>by simp[same]
 |.list g,.list f,h,c=>by rw[aN]at h c;rw[same,j7 g f h c,PyData.list.injEq]
 |.tuple g,.tuple f,h,c=>by rw[aN]at h c;rw[same,j7 g f h c,PyData.tuple.injEq]
 |.none,_,h,_=>by simp[aN]at h
 |.bool _,_,h,_=>by simp[aN]at h
 |.str _,_,h,_=>by simp[aN]at h
 |.dict _,_,h,_=>by simp[aN]at h
 |.int _,.none,_,h=>by simp[aN]at h
 |.int _,.bool _,_,h=>by simp[aN]at h
 |.int _,.str _,_,h=>by simp[aN]at h
 |.int _,.dict _,_,h=>by simp[aN]at h
 |.list _,.none,_,h=>by simp[aN]at h
 |.list _,.bool _,_,h=>by simp[aN]at h
 |.list _,.str _,_,h=>by simp[aN]at h
 |.list _,.dict _,_,h=>by simp[aN]at h
 |.tuple _,.none,_,h=>by simp[aN]at h
 |.tuple _,.bool _,_,h=>by simp[aN]at h
 |.tuple _,.str _,_,h=>by simp[aN]at h
 |.tuple _,.dict _,_,h=>by simp[aN]at h
theorem j7:∀b a:List PyData,eZ b=true->eZ a=true->(sameAll b a=true↔b=a)
 |[],[],_,_=>by simp[sameAll]
 |[],_::_,_,_=>by simp[sameAll]
 |_::_,[],_,_=>by simp[sameAll]
 |x::b,y::a,h,c=>by rw[eZ,AC]at h c;rw[sameAll,AC,Bk x y h.1 c.1,j7 b a h.2 c.2,d6]
end
section
variable{X:Cx}
end
theorem vK{a:List PyData}{n:Nat}(h:∀x∈a,x.depth<=n):PyData.depthAll a<=n:=by
 induction a with
 |nil=>simp[PyData.depthAll]
 |cons x a b=>rw[PyData.depthAll];have:=h x (BM ..);have:=b λy c=>h y (B1 _ c);lia
theorem yb(bs:List Bool):((L0 bs.length).any λi=>(bs[i]?).getD false)=bs.any id:=by
 rw[RF,cb,cb];constructor
 .rintro⟨i,c,h⟩;have a:=UF.mp c;simp only[Ee a,L3]at h;exact⟨_,N0 a,h⟩
 .rintro⟨b,d,h⟩;obtain⟨i,c,rfl⟩:=Xt d;refine⟨i,UF.mpr c,?_⟩;simp only[Ee c,L3];exact h
section
variable{X:Cx}
theorem Bl(x:X.calm=true):bF X (.builtin "any") (λg H Q=>∃(p:Addr)(bs:List Bool),g=[.ref p]/\j3 X.K H p (bs.map V.bl)/\Q (.bl (bs.any id)) H):=by
 intro j s D H g E Q I r h;obtain⟨p,bs,rfl,y,q⟩:=h;obtain⟨u,rfl,m⟩:=Vals.one r;cases(show u=Value.ref p from m);obtain⟨a,rv,n,_⟩:=I.list y;have k:=sN rv;have f:=n.isList;have d:p<s.heap.objs.size:=by obtain⟨_,e,_⟩:=f;exact Fm e
 refine call_any_walk (wpAny_pyIter_list f ?_);refine⟨s.heap.objs.size,[s.heap.objs.size,p],[s.heap.objs.size],a.toArray.size,_,_,λi=>(bs[i]?).getD false,rfl,Walks.list (A:=X.A.in1) (I.ok.hd x) _ p (KM d) a.toArray,
  ⟨⟨_,KE _ rfl,rfl,rfl⟩,f.push _⟩,λi v J M N B l=>?_,λL F w=>?_⟩
 .have c:a[i]?=some v:=by simpa using B
  rw[k,IH]at c;cases e:bs[i]? with
  |none=>rw[e]at c;cases c
  |some b=>rw[e]at c;simp only[e,L3]at l;have:v=Value.bool b:=(Ha c).symm;subst this;exact Pt l
 .have e:((L0 a.toArray.size).any λi=>(bs[i]?).getD false)=bs.any id:=by
   have C:a.toArray.size=bs.length:=by rw[Fn,k,Fk]
   rw[C];exact yb bs
  rw[e];exact⟨.bl _,H,I.kept λb o z=>w b o (λt=>by rw[FR.mp t]at z;exact PQ _ (Fm z)) (Dx _ z),rfl,q⟩
end
end L2
set_option genSizeOf false
set_option genInjectivity false
namespace Num
noncomputable def ev(x:Rat):List Rat->Rat
 |[]=>0
 |r::rs=>r+x*ev x rs
noncomputable def sm(f:Nat->Int):Nat->Int
 |0=>0
 |n+1=>sm f n+f n
end Num
namespace Sub
abbrev Ix:=Bool×Nat
abbrev Vc:=Ix->Int
noncomputable def ex(D:List Vc->Int)(r:Ix):List Vc->List Vc->Int
 |_,[]=>0
 |pre,c::post=>c r*D (pre++post) -ex D r (pre++[c]) post
noncomputable def det:List Ix->List Vc->Int
 |[],[]=>1
 |[],_::_=>0
 |r::rs,cs=>ex (det rs) r [] cs
noncomputable def sg(n:Nat):Int:=(-1)^n
noncomputable def sh(j:Nat)(P:Vc):Vc:=λi=>if j<=i.2 then P (i.1,i.2 -j)else 0
noncomputable def WL(P:Vc):Nat->List Vc
 |0=>[]
 |n+1=>sh n P::WL P n
noncomputable def rws:Nat->Nat->List Ix
 |_,0=>[]
 |0,_+1=>[]
 |E+1,c+1=>(false,E)::rws E c
noncomputable def comb(c:Int)(a:Vc):List (Int×Vc)->Vc
 |[]=>λi=>c*a i+0*a i
 |z::L=>λi=>1*comb c a L i+z.1*z.2 i
noncomputable def SS(E:Nat)(A B:Vc)(a b:Nat)(c:Ix):Int:=det (rws E (a+b -1)++[c]) (WL A a++WL B b)
noncomputable def less(c:Int)(A B:Vc)(L:List (Int×Nat)):Vc:=comb c A (L.map λz=>(z.1,sh z.2 B))
noncomputable def Sgn(a:Int):Prop:=a=1\/a= -1
structure Ch(A B:Vc)(m n:Nat)(P Q:Vc)(p q:Nat)(lp lq h:Int):Prop where
 hpq:q<=p
 lp0:lp≠0
 h0:h≠0
 lq0:lq≠0
 lead:Q (false,q)=lq
 zero:∀t,q<t->Q (false,t)=0
 inv:∀k,k<=q->k<p->∃ε:Int,Sgn ε/\∀ρ,SS (p+q -k) P Q (q -k) (p -k) ρ=ε*(lp^(q -k)*h^(p -k -1))*SS (m+n -k) A B (n -k) (m -k) ρ
end Sub
namespace Sub
open Num
noncomputable def vc(r f:List Int):Vc:=λi=>if i.1 then f.getD i.2 0 else r.getD i.2 0
end Sub
namespace Num
end Num
namespace Sub
open Num
structure CS(ns ms f0 g0:List Int)(w E b1:Nat)(P Q fP fQ:List Int)(ld h:Int):Prop where
 ch:Ch (vc ns f0) (vc ms g0) (ns.length -1) (ms.length -1) (vc P fP) (vc Q fQ) (P.length -1) (Q.length -1) ld (Q.getD (Q.length -1) 0) h
 lq:0<Q.length
 lpq:Q.length<=P.length
 lp:P.length<=ns.length
 lqm:Q.length<=ms.length
 lf:fP.length+Q.length<=b1
 lf2:fQ=[]\/fQ.length+P.length<=b1
 bP:∀i,(vc P fP i).natAbs<=2^(w*(ns.length -1+(ms.length -1)+1))
 bQ:∀i,(vc Q fQ i).natAbs<=2^(w*(ns.length -1+(ms.length -1)+1))
 bl:ld.natAbs<=2^(w*(ns.length -1+(ms.length -1)+1))
 bh:h.natAbs<=2^(w*(ns.length -1+(ms.length -1) -2*(P.length -1)))
structure FX(ns ms f0 g0:List Int)(w E:Nat):Prop where
 l1:ms.length<=ns.length
 l2:ns.length<=50
 M:∃M:Nat,(∀i,(vc ns f0 i).natAbs<=M)/\(∀i,(vc ms g0 i).natAbs<=M)/\1<=M/\(ns.length -1+(ms.length -1)+1)*M<=2^w
 E1:∀p,(ns.length -1+(ms.length -1) -2*p)*p+(ns.length -1+(ms.length -1)+1)<=E
end Sub
namespace Num
abbrev co(a:List Int):Nat->Int:=λi=>a.getD i 0
end Num
namespace Sub
open Num
end Sub
namespace Num
noncomputable def wt:Nat->List Rat->List Rat
 |_,[]=>[]
 |k,r::rs=>((k:Int):Rat)*r::wt (k+1) rs
noncomputable def hz(t:Int):List Int->List Int
 |[]=>[]
 |r::rs=>(r+t*(hz t rs).headD 0)::hz t rs
noncomputable def cs(l:List Int):List Rat:=l.map λx:Int=>((x:Int):Rat)
noncomputable def sc(u b:Rat):List Rat->List Rat
 |[]=>[]
 |r::rs=>r*u*b^rs.length::sc u b rs
end Num
namespace VL
open PySem PySem.Spec PyProof.Rows L2
theorem ff{C:Prop}(h:false=true):C:=Bool.noConfusion h
theorem nn{α:Type}{a:α}{C:Prop}(h:none=some a):C:=Option.noConfusion rfl (heq_of_eq h)
inductive W where
 |aG|bl (b:Bool)|int (i:Int)|str (x:Str)|ty (n:String)|cls (C:Addr)|err (C:Addr)|fn (f:Addr)
 |tup (l:List W)|lst (l:List W)|dct (ks vs:List W)|obj (C:Addr) (fs:List Str) (vs:List W)|cX (ns:List Int)
 |dU (D:Addr) (ys ns:List Addr)
noncomputable def zm:HO->Bool
 |.lst _|.ins _ _ _|.dK _|.dT _|.set _ _=>true
 |_=>false
noncomputable def nq:Key->W
 |.inl i=>.int i
 |.inr x=>.str x
noncomputable def rH(K:Frag)(C:Addr)(a:List Str):Prop:=Hi K C/\a.length<1000/\a.Nodup/\∀x∈a,i7 K C x
noncomputable def Rz(H:Hp)(a:Addr)(u:HO):Prop:=H a=some u\/False
theorem Rz.rd{H:Hp}{a:Addr}{u:HO}(h:Rz H a u):Rd H a u:=h.elim .inl FP
theorem Rz.at{H:Hp}{a:Addr}{u:HO}(h:Rz H a u):H a=some u:=h.elim id FP
noncomputable def NB(K:Frag)(C:Addr):Prop:=pK K C/\kitOne K (.ref C) (.type "ValueError")=some true
noncomputable def S7(K:Frag)(D:Addr)(a b:List Addr):Prop:=(a≠[]->pK K D)/\(∀C∈a,NB K C/\kitOne K (.ref C) (.ref D)=some true/\mroIn K C (.ref D)=some true)/\∀C∈b,kitOne K (.ref C) (.ref D)=some false
mutual
noncomputable def Rep(K:Frag)(A:Addr->Prop)(H:Hp):W->V->Prop
 |.aG,v=>v=.aG
 |.bl b,v=>v=.bl b
 |.int i,v=>v=.int i
 |.str x,v=>v=.str x
 |.ty n,v=>v=.ty n
 |.cls C,v=>v=.ref C
 |.fn f,v=>v=.ref f
 |.err C,v=>∃a,v=.ref a/\H a=some (DC a C)/\¬A a/\NB K C
 |.tup l,v=>∃p vs,v=.ref p/\H p=some (.tup vs)/\aj K A H l vs
 |.lst l,v=>∃p vs,v=.ref p/\¬A p/\Rz H p (.lst vs)/\aj K A H l vs
 |.dct h d,v=>∃p kvs,v=.ref p/\¬A p/\H p=some (.dK kvs)/\h=kvs.map (λx=>nq x.1)/\aj K A H d (kvs.map (·.2))
 |.obj C e d,v=>∃p j vs,v=.ref p/\¬A p/\H p=some (.ins C j (e.zip vs))/\vs.length=e.length/\rH K C e/\aj K A H d vs
 |.dU D g c,v=>v=.ref D/\S7 K D g c
 |.cX c,v=>∃p,v=.ref p/\((∃o,H p=some (.xm o (.lst (c.map V.int))))\/j3 K (λ_=>none) p (c.map V.int))
noncomputable def aj(K:Frag)(A:Addr->Prop)(H:Hp):List W->List V->Prop
 |[],vs=>vs=[]
 |w::a,vs=>∃v r,vs=v::r/\Rep K A H w v/\aj K A H a r
end
section
variable{K:Frag}{A B:Addr->Prop}{H H':Hp}
theorem aA.rz{p:Addr}{u:HO}(s:aA H H')(h:Rz H p u):Rz H' p u:=.inl (s _ _ h.at)
theorem aA.rd{p:Addr}{u:HO}(s:aA H H')(h:Rd H p u):Rd H' p u:=by
 rcases h with h|⟨o,h⟩
 .exact .inl (s _ _ h)
 .exact .inr ⟨o,s _ _ h⟩
noncomputable def sO(B:Addr->Prop)(H H':Hp):Prop:=∀p o,H p=some o->(zm o=true/\B p)\/H' p=some o
theorem sO.un{p:Addr}{o:HO}(h:sO A H H')(e:H p=some o)(n:zm o=true->¬A p):H' p=some o:=by
 rcases h p o e with⟨z,y⟩|z
 .exact(n z y).elim
 .exact z
mutual
theorem Rep.chg(h:sO A H H')(d:∀p o,H p=some o->B p->A p):∀(w:W){v:V},Rep K A H w v->Rep K B H' w v
 |.aG,_,r=>by dsimp only[Rep]at r⊢;exact r
 |.bl _,_,r=>by dsimp only[Rep]at r⊢;exact r
 |.int _,_,r=>by dsimp only[Rep]at r⊢;exact r
 |.str _,_,r=>by dsimp only[Rep]at r⊢;exact r
 |.ty _,_,r=>by dsimp only[Rep]at r⊢;exact r
 |.cls _,_,r=>by dsimp only[Rep]at r⊢;exact r
 |.fn _,_,r=>by dsimp only[Rep]at r⊢;exact r
 |.err C,v,r=>by obtain⟨a,e,b,c,g⟩:=r;exact⟨a,e,h.un b (λz=>by cases z),λz=>c (d a _ b z),g⟩
 |.dU _ _ _,_,r=>by dsimp only[Rep]at r⊢;exact r
 |.tup l,v,r=>by obtain⟨p,f,e,b,c⟩:=r;exact⟨p,f,e,h.un b (λz=>by cases z),aj.chg h d l c⟩
 |.lst l,v,r=>by
  dsimp only[Rep]at r⊢;obtain⟨p,f,e,n,b,c⟩:=r;refine⟨p,f,e,λz=>?_,?_,aj.chg h d l c⟩
  .exact n (d p _ b.at z)
  .exact .inl (h.un b.at λ_=>n)
 |.dct s i,v,r=>by obtain⟨p,j,e,n,b,c,g⟩:=r;exact⟨p,j,e,λz=>n (d p _ b z),h.un b λ_=>n,c,aj.chg h d i g⟩
 |.obj C t i,v,r=>by obtain⟨p,m,f,e,n,b,c,k,g⟩:=r;exact⟨p,m,f,e,λz=>n (d p _ b z),h.un b λ_=>n,c,k,aj.chg h d i g⟩
 |.cX q,v,r=>by obtain⟨p,e,b⟩:=r;exact⟨p,e,b.imp (by rintro⟨o,z⟩;exact⟨o,h.un z λz=>by cases z⟩) id⟩
theorem aj.chg(h:sO A H H')(a:∀p o,H p=some o->B p->A p):∀(l:List W){vs:List V},aj K A H l vs->aj K B H' l vs
 |[],_,r=>by dsimp only[aj]at r⊢;exact r
 |w::l,vs,r=>by obtain⟨v,b,e,d,c⟩:=r;exact⟨v,b,e,Rep.chg h a w d,aj.chg h a l c⟩
end
theorem sO.same(s:aA H H'):sO A H H':=λ_ _ e=>.inr (s _ _ e)
theorem sO.put{p:Addr}{a o:HO}(b:H p=some a)(c:zm a=true)(d:A p):sO A H (upd H p o):=λq u e=>by
 by_cases n:q=p
 .subst n;rw[b]at e;cases e;exact .inl ⟨c,d⟩
 .exact .inr (by rw[ay n];exact e)
theorem Rep.mv(s:aA H H')(a:∀p o,H p=some o->B p->A p)(w:W){v:V}(h:Rep K A H w v):Rep K B H' w v:=Rep.chg (.same s) a w h
theorem aj.mv(s:aA H H')(a:∀p o,H p=some o->B p->A p)(l:List W){vs:List V}(h:aj K A H l vs):aj K B H' l vs:=aj.chg (.same s) a l h
theorem Rep.same{w:W}{v:V}(s:aA H H')(h:Rep K A H w v):Rep K A H' w v:=Rep.mv s (λ_ _ _ z=>z) w h
theorem aj.same{l:List W}{vs:List V}(s:aA H H')(h:aj K A H l vs):aj K A H' l vs:=aj.mv s (λ_ _ _ z=>z) l h
theorem Rep.less{w:W}{v:V}(a:∀p,B p->A p)(h:Rep K A H w v):Rep K B H w v:=Rep.mv (aA.refl H) (λp _ _ z=>a p z) w h
theorem aj.less{l:List W}{vs:List V}(a:∀p,B p->A p)(h:aj K A H l vs):aj K B H l vs:=aj.mv (aA.refl H) (λp _ _ z=>a p z) l h
theorem aj.put{p:Addr}{a:List V}{o:HO}(b:H p=some (.lst a))(c:A p)(l:List W){vs:List V}(h:aj K A H l vs):aj K A (upd H p o) l vs:=aj.chg (.put b rfl c) (λ_ _ _ z=>z) l h
theorem aj.nil:aj K A H [] []:=by dsimp only[aj]
theorem aj.cons{w:W}{v:V}{l:List W}{vs:List V}(b:Rep K A H w v)(a:aj K A H l vs):aj K A H (w::l) (v::vs):=by dsimp only[aj];exact⟨v,vs,rfl,b,a⟩
theorem aj.nil_inv{vs:List V}(h:aj K A H [] vs):vs=[]:=by dsimp only[aj]at h;exact h
theorem aj.cons_inv{w:W}{l:List W}{vs:List V}(h:aj K A H (w::l) vs):∃v r,vs=v::r/\Rep K A H w v/\aj K A H l r:=by dsimp only[aj]at h;exact h
theorem aj.len:∀{l:List W}{vs:List V},aj K A H l vs->vs.length=l.length
 |[],vs,h=>by rw[h.nil_inv];rfl
 |w::l,vs,h=>by obtain⟨v,r,rfl,_,a⟩:=h.cons_inv;rw[A0,A0,a.len]
theorem aj.app:∀{l m:List W}{vs us:List V},aj K A H l vs->aj K A H m us->aj K A H (l++m) (vs++us)
 |[],m,vs,us,h,k=>by rw[h.nil_inv];exact k
 |w::l,m,vs,us,h,k=>by obtain⟨v,r,rfl,b,a⟩:=h.cons_inv;exact .cons b (a.app k)
theorem aj.get:∀{l:List W}{vs:List V}{i:Nat}{w:W},aj K A H l vs->l[i]?=some w->∃v,vs[i]?=some v/\Rep K A H w v
 |[],_,_,_,_,e=>by simp at e
 |x::l,vs,0,w,h,e=>by obtain⟨v,r,rfl,b,a⟩:=h.cons_inv;simp at e;subst e;exact⟨v,rfl,b⟩
 |x::l,vs,i+1,w,h,e=>by obtain⟨v,r,rfl,b,a⟩:=h.cons_inv;obtain⟨u,d,c⟩:=a.get (i:=i) (by simpa using e);exact⟨u,by simpa using d,c⟩
theorem aj.set:∀{l:List W}{vs:List V}{i:Nat}{w:W}{v:V},aj K A H l vs->Rep K A H w v->aj K A H (l.set i w) (vs.set i v)
 |[],_,_,_,_,h,_=>by rw[h.nil_inv];exact .nil
 |x::l,vs,0,w,v,h,e=>by obtain⟨c,r,rfl,b,a⟩:=h.cons_inv;exact .cons e a
 |x::l,vs,i+1,w,v,h,e=>by obtain⟨c,r,rfl,b,a⟩:=h.cons_inv;exact .cons b (a.set e)
theorem aj.take:∀{l:List W}{vs:List V}(n:Nat),aj K A H l vs->aj K A H (l.take n) (vs.take n)
 |_,_,0,_=>.nil
 |[],vs,n+1,h=>by rw[h.nil_inv];exact .nil
 |x::l,vs,n+1,h=>by obtain⟨c,r,rfl,b,a⟩:=h.cons_inv;exact .cons b (a.take n)
theorem aj.drop:∀{l:List W}{vs:List V}(n:Nat),aj K A H l vs->aj K A H (l.drop n) (vs.drop n)
 |_,_,0,h=>h
 |[],vs,n+1,h=>by rw[h.nil_inv];exact .nil
 |x::l,vs,n+1,h=>by obtain⟨b,r,rfl,c,a⟩:=h.cons_inv;exact a.drop n
theorem aj.dropLast{l:List W}{vs:List V}(h:aj K A H l vs):aj K A H l.dropLast vs.dropLast:=by rw[Vw,Vw,h.len];exact h.take _
theorem aj.rep{l:List W}{vs:List V}(h:aj K A H l vs):∀n:Nat,aj K A H (C8 n l).flatten (C8 n vs).flatten
 |0=>.nil
 |n+1=>by rw[G1,G1,HN,HN];exact h.app (h.rep n)
theorem aj.ints{a:List Int}:∀{vs:List V},aj K A H (a.map W.int) vs->vs=a.map V.int:=by
 induction a with
 |nil=>intro vs h;exact h.nil_inv
 |cons n a c=>intro vs h;obtain⟨v,r,rfl,b,d⟩:=h.cons_inv;dsimp only[Rep]at b;rw[b,c d];rfl
theorem aj.HS(a:List Int):aj K A H (a.map W.int) (a.map V.int):=by
 induction a with
 |nil=>exact .nil
 |cons n a b=>exact .cons (by dsimp only[Rep]) b
theorem aj.Zm{bs:List Bool}:∀{vs:List V},aj K A H (bs.map W.bl) vs->vs=bs.map V.bl:=by
 induction bs with
 |nil=>intro vs h;exact h.nil_inv
 |cons n d b=>intro vs h;obtain⟨v,r,rfl,a,c⟩:=h.cons_inv;dsimp only[Rep]at a;rw[a,b c];rfl
end
end VL
set_option genSizeOf false
set_option genInjectivity false
namespace VL
open PySem PySem.Spec
open PyProof.Rows hiding St
open L2
inductive Md where
 |s|f|t (ms:List Md)|o (fs:List Str) (ms:List Md)
 |io (m:Md)
 |ls (m:Md)
 |d
noncomputable def gk(P:W->V->List Addr->Prop):List W->List V->List Addr->Prop
 |[],vs,F=>vs=[]/\F=[]
 |w::d,vs,F=>∃v a c b,vs=v::a/\F=c++b/\P w v c/\gk P d a b
mutual
noncomputable def Fp(K:Frag)(B:Addr->Prop)(H:Hp):Md->W->V->List Addr->Prop
 |.s,w,v,F=>F=[]/\Rep K B H w v
 |.f,w,v,F=>∃a p vs,w=.lst a/\v=.ref p/\F=[p]/\H p=some (.lst vs)/\aj K B H a vs
 |.t c,w,v,F=>∃a p vs,w=.tup a/\v=.ref p/\H p=some (.tup vs)/\dI K B H c a vs F
 |.o b c,w,v,F=>∃C g a p vs F',w=.obj C b a/\v=.ref p/\F=p::F'/\H p=some (.ins C g (b.zip vs))/\vs.length=b.length/\rH K C b/\dI K B H c a vs F'
 |.io _,_,_,_=>False
 |.d,w,v,F=>∃e a p kvs,w=.dct e a/\v=.ref p/\F=[p]/\H p=some (.dK kvs)/\e=kvs.map (λx=>nq x.1)/\aj K B H a (kvs.map (·.2))
 |.ls m,w,v,F=>∃a p vs F',w=.lst a/\v=.ref p/\F=p::F'/\H p=some (.lst vs)/\gk (Fp K B H m) a vs F'
noncomputable def dI(K:Frag)(B:Addr->Prop)(H:Hp):List Md->List W->List V->List Addr->Prop
 |[],b,vs,F=>b=[]/\vs=[]/\F=[]
 |m::f,b,vs,F=>∃w c v a e d,b=w::c/\vs=v::a/\F=e++d/\Fp K B H m w v e/\dI K B H f c a d
end
theorem gk.mono{P Q:W->V->List Addr->Prop}:∀{a:List W}{vs:List V}{F:List Addr},(∀w v F',(∀p∈F',p∈F)->P w v F'->Q w v F')->gk P a vs F->gk Q a vs F
 |[],_,_,_,h=>h
 |w::a,vs,F,k,⟨v,b,e,j,i,d,g,f⟩=>⟨v,b,e,j,i,d,k w v e (λp c=>by rw[d];exact He _ c) g,gk.mono (λw v F' h=>k w v F' λp c=>by rw[d];exact FK _ (h p c)) f⟩
theorem gk.len{P:W->V->List Addr->Prop}:∀{a:List W}{vs:List V}{F:List Addr},gk P a vs F->vs.length=a.length
 |[],_,_,h=>by rw[h.1];rfl
 |w::a,vs,F,⟨v,b,i,g,d,f,e,c⟩=>by rw[d,A0,A0,gk.len c]
theorem gk.app{P:W->V->List Addr->Prop}:∀{b us:List W}{vs a:List V}{F G:List Addr},gk P b vs F->gk P us a G->gk P (b++us) (vs++a) (F++G)
 |[],us,vs,a,F,G,⟨e,d⟩,k=>by rw[e,d];exact k
 |w::b,us,vs,a,F,G,⟨v,c,i,h,e,d,g,f⟩,k=>⟨v,c++a,i,h++G,by rw[e];rfl,by rw[d,Fu],g,gk.app f k⟩
noncomputable def nv(B G:Addr->Prop)(H H':Hp):Prop:=∀p o,H p=some o->(zm o=true/\B p/\¬G p)\/H' p=some o
section
variable{K:Frag}{A B G:Addr->Prop}{H H':Hp}
theorem nv.c(h:nv A G H H'):sO A H H':=λp o e=>(h p o e).imp (λz=>⟨z.1,z.2.1⟩) id
theorem nv.un{p:Addr}{o:HO}(h:nv A G H H')(e:H p=some o)(g:zm o=true->G p):H' p=some o:=by
 rcases h p o e with⟨z,_,y⟩|z
 .exact(y (g z)).elim
 .exact z
mutual
theorem Fp.chg(h:nv A G H H')(l:∀p o,H p=some o->B p->A p):∀(m:Md){w:W}{v:V}{F:List Addr},(∀p∈F,G p)->Fp K A H m w v F->Fp K B H' m w v F
 |.s,w,v,F,a,r=>by dsimp only[Fp]at r⊢;exact⟨r.1,Rep.chg h.c l w r.2⟩
 |.f,w,v,F,a,r=>by obtain⟨e,p,vs,k,j,b,i,g⟩:=r;exact⟨e,p,vs,k,j,b,h.un i (λ_=>a p (by rw[b];exact BM)),aj.chg h.c l e g⟩
 |.t n,w,v,F,a,r=>by obtain⟨e,p,vs,k,j,i,g⟩:=r;exact⟨e,p,vs,k,j,h.un i (λz=>by cases z),dI.chg h l n a g⟩
 |.o N n,w,v,F,a,r=>by obtain⟨C,M,e,p,vs,y,k,j,b,i,g,I,L⟩:=r;exact⟨C,M,e,p,vs,y,k,j,b,h.un i (λ_=>a p (by rw[b];exact BM)),g,I,dI.chg h l n (λq x=>a q (by rw[b];exact B1 _ x)) L⟩
 |.io _,w,v,F,a,r=>FP r
 |.d,w,v,F,a,r=>by obtain⟨D,e,p,u,k,j,b,i,E,g⟩:=r;exact⟨D,e,p,u,k,j,b,h.un i (λ_=>a p (by rw[b];exact BM)),E,aj.chg h.c l e g⟩
 |.ls m,w,v,F,a,r=>by obtain⟨e,p,vs,y,k,j,b,i,g⟩:=r;exact⟨e,p,vs,y,k,j,b,h.un i (λ_=>a p (by rw[b];exact BM)),g.mono λw v G J z=>Fp.chg h l m (λq x=>a q (by rw[b];exact B1 _ (J q x))) z⟩
theorem dI.chg(h:nv A G H H')(f:∀p o,H p=some o->B p->A p):∀(a:List Md){b:List W}{vs:List V}{F:List Addr},(∀p∈F,G p)->dI K A H a b vs F->dI K B H' a b vs F
 |[],_,_,_,_,r=>by dsimp only[dI]at r⊢;exact r
 |m::a,b,vs,F,g,r=>by obtain⟨w,n,v,c,s,q,l,k,e,j,i⟩:=r;exact⟨w,n,v,c,s,q,l,k,e,Fp.chg h f m (λp d=>g p (by rw[e];exact He _ d)) j,dI.chg h f a (λp d=>g p (by rw[e];exact FK _ d)) i⟩
end
theorem nv.same(s:aA H H'):nv A (λ_=>True) H H':=λ_ _ e=>.inr (s _ _ e)
theorem Fp.mv(s:aA H H')(a:∀p o,H p=some o->B p->A p)(m:Md){w:W}{v:V}{F:List Addr}(h:Fp K A H m w v F):Fp K B H' m w v F:=Fp.chg (.same s) a m (λ_ _=>trivial) h
theorem dI.mv(s:aA H H')(b:∀p o,H p=some o->B p->A p)(a:List Md){w:List W}{v:List V}{F:List Addr}(h:dI K A H a w v F):dI K B H' a w v F:=dI.chg (.same s) b a (λ_ _=>trivial) h
mutual
theorem Fp.rep(j:∀p,B p->A p):∀(m:Md){w:W}{v:V}{F:List Addr},(∀p∈F,¬B p)->Fp K A H m w v F->Rep K B H w v
 |.s,w,v,F,a,h=>by dsimp only[Fp]at h;exact h.2.less j
 |.f,w,v,F,a,h=>by obtain⟨b,p,vs,rfl,rfl,rfl,e,c⟩:=h;exact⟨p,vs,rfl,a p (FR.mpr rfl),.inl e,c.less j⟩
 |.t l,w,v,F,a,h=>by obtain⟨b,p,vs,rfl,rfl,e,c⟩:=h;exact⟨p,vs,rfl,e,dI.rep j l a c⟩
 |.o J l,w,v,F,a,h=>by obtain⟨C,D,b,p,vs,i,rfl,rfl,rfl,e,c,x,y⟩:=h;exact⟨p,D,vs,rfl,a p BM,e,c,x,dI.rep j l (λq g=>a q (B1 _ g)) y⟩
 |.io _,w,v,F,a,h=>FP h
 |.d,w,v,F,a,h=>by obtain⟨I,b,p,n,rfl,rfl,rfl,e,u,c⟩:=h;exact⟨p,n,rfl,a p (FR.mpr rfl),e,u,c.less j⟩
 |.ls m,w,v,F,a,h=>by
  obtain⟨b,p,vs,i,rfl,rfl,rfl,e,c⟩:=h;dsimp only[Rep];have z:∀(b:List W)(vs:List V)(i:List Addr),(∀q∈i,¬B q)->gk (Fp K A H m) b vs i->aj K B H b vs:=λb=>by
   induction b with
   |nil=>rintro vs i _ ⟨rfl,_⟩;exact .nil
   |cons w b r=>rintro vs i a ⟨v,k,L,E,rfl,rfl,e,c⟩;exact .cons (Fp.rep j m (λq g=>a q (He _ g)) e) (r k E (λq g=>a q (FK _ g)) c)
  exact⟨p,vs,rfl,a p BM,.inl e,z b vs i (λq g=>a q (B1 _ g)) c⟩
theorem dI.rep(e:∀p,B p->A p):∀(b:List Md){a:List W}{vs:List V}{F:List Addr},(∀p∈F,¬B p)->dI K A H b a vs F->aj K B H a vs
 |[],_,_,_,_,h=>by obtain⟨rfl,rfl,_⟩:=h;exact .nil
 |m::b,a,vs,F,d,h=>by obtain⟨w,j,v,f,l,k,rfl,rfl,rfl,i,g⟩:=h;exact .cons (Fp.rep e m (λp c=>d p (He _ c)) i) (dI.rep e b (λp c=>d p (FK _ c)) g)
end
mutual
theorem Fp.mu:∀(m:Md){w:W}{v:V}{F:List Addr},Fp K A H m w v F->∀p∈F,∃o,H p=some o/\zm o=true
 |.s,w,v,F,h,p,a=>by dsimp only[Fp]at h;rw[h.1]at a;cases a
 |.f,w,v,F,h,p,a=>by obtain⟨b,q,vs,_,_,rfl,c,_⟩:=h;rw[FR.mp a];exact⟨_,c,rfl⟩
 |.t i,w,v,F,h,p,a=>by obtain⟨b,q,vs,_,_,c,k⟩:=h;exact dI.mu i k p a
 |.o y i,w,v,F,h,p,a=>by
  obtain⟨C,z,b,q,vs,e,_,_,rfl,c,_,_,j⟩:=h;rcases FC.mp a with rfl|a
  .exact⟨_,c,rfl⟩
  .exact dI.mu i j p a
 |.io _,w,v,F,h,p,a=>FP h
 |.d,w,v,F,h,p,a=>by obtain⟨x,b,q,l,_,_,rfl,c,_⟩:=h;rw[FR.mp a];exact⟨_,c,rfl⟩
 |.ls m,w,v,F,h,p,a=>by
  obtain⟨b,q,vs,e,_,_,rfl,c,j⟩:=h;have r:∀(b:List W)(vs:List V)(e:List Addr),gk (Fp K A H m) b vs e->∀p∈e,∃o,H p=some o/\zm o=true:=λb=>by
   induction b with
   |nil=>rintro vs e ⟨_,rfl⟩ p a;cases a
   |cons w b n=>
    rintro vs e ⟨v,g,D,u,rfl,rfl,c,k⟩ p a;rcases Fh.mp a with a|a
    .exact Fp.mu m c p a
    .exact n g u k p a
  rcases FC.mp a with rfl|a
  .exact⟨_,c,rfl⟩
  .exact r b vs e j p a
theorem dI.mu:∀(b:List Md){c:List W}{vs:List V}{F:List Addr},dI K A H b c vs F->∀p∈F,∃o,H p=some o/\zm o=true
 |[],_,_,_,h,p,a=>by dsimp only[dI]at h;rw[h.2.2]at a;cases a
 |m::b,c,vs,F,h,p,a=>by
  obtain⟨w,g,v,d,j,i,_,_,rfl,f,e⟩:=h;rcases Fh.mp a with a|a
  .exact Fp.mu m f p a
  .exact dI.mu b e p a
end
inductive jE where
 |ix (n:Nat)|fl (n:Nat) (x:Str)
noncomputable def bI:W->List jE->Option W
 |w,[]=>some w
 |.tup l,.ix n::π=>match l[n]? with
  |some u=>bI u π
  |none=>none
 |.lst l,.ix n::π=>match l[n]? with
  |some u=>bI u π
  |none=>none
 |.obj _ _ l,.fl n _::π=>match l[n]? with
  |some u=>bI u π
  |none=>none
 |_,_=>none
noncomputable def setAt:W->List jE->W->W
 |_,[],u=>u
 |.tup l,.ix n::π,u=>match l[n]? with
  |some x=>.tup (l.set n (setAt x π u))
  |none=>.tup l
 |.lst l,.ix n::π,u=>match l[n]? with
  |some x=>.lst (l.set n (setAt x π u))
  |none=>.lst l
 |.obj C a l,.fl n _::π,u=>match l[n]? with
  |some x=>.obj C a (l.set n (setAt x π u))
  |none=>.obj C a l
 |w,_,_=>w
noncomputable def iT:Md->List jE->Option Md
 |m,[]=>some m
 |.t a,.ix n::π=>match a[n]? with
  |some m=>iT m π
  |none=>none
 |.o b a,.fl n x::π=>if b[n]?=some x then(match a[n]? with
  |some m=>iT m π
  |none=>none)else none
 |.ls m,.ix _::π=>iT m π
 |_,_=>none
noncomputable def ve(K:Frag)(H:Hp):V->List jE->V->Prop
 |v,[],u=>u=v
 |v,.ix n::π,u=>∃p vs x,v=.ref p/\(H p=some (.tup vs)\/H p=some (.lst vs))/\vs[n]?=some x/\ve K H x π u
 |v,.fl n f::π,u=>∃p vs x,v=.ref p/\(∃(C b:Addr)(a:List Str),H p=some (.ins C b (a.zip vs))/\vs.length=a.length/\rH K C a/\a[n]?=some f)/\vs[n]?=some x/\ve K H x π u
theorem jg{α:Type}:∀{l:List α}{n:Nat}{x:α},l[n]?=some x->l.set n x=l
 |[],_,_,e=>by cases e
 |y::l,0,x,e=>by cases e;rfl
 |y::l,n+1,x,e=>by rw[WX,jg (by simpa using e)]
theorem dI.at:∀(j:List Md){l:List W}{vs:List V}{F:List Addr}{n:Nat}{m:Md}{w:W},dI K A H j l vs F->j[n]?=some m->l[n]?=some w->
 ∃v d F' k,vs[n]?=some v/\F=d++F'++k/\Fp K A H m w v F'/\∀(H':Hp)(B:Addr->Prop) w' g i,Fp K B H' m w' g i->nv A (·∈d++k) H H'->(∀p o,H p=some o->B p->A p)->dI K B H' j (l.set n w') (vs.set n g) (d++i++k)
 |[],_,_,_,n,m,w,_,e,_=>by cases e
 |m0::j,l,vs,F,0,m,w,h,D,C=>by obtain⟨I,E,v,f,d,k,rfl,rfl,rfl,x,t⟩:=h;cases D;cases C;refine⟨v,[],d,k,rfl,by simp,x,λH' B w' g i y q r=>?_⟩;exact⟨w',E,g,f,i,k,rfl,rfl,by simp,y,dI.chg q r j (λp s=>by simpa using s) t⟩
 |m0::j,l,vs,F,n+1,m,w,h,D,C=>by obtain⟨I,E,v,f,d,k,rfl,rfl,rfl,x,t⟩:=h;obtain⟨u,L,P,J,O,rfl,N,M⟩:=dI.at j t (n:=n) (by simpa using D) (by simpa using C);refine⟨u,d++L,P,J,by simpa using O,by simp,N,λH' B w' g i y q r=>?_⟩;refine⟨I,E.set n w',v,f.set n g,d,L++i++J,rfl,rfl,by simp,Fp.chg q r m0 (λp s=>by simp[s]) x,M H' B w' g i y (λp o e=>(q p o e).imp (λ⟨a,b,c⟩=>⟨a,b,λz=>c ?_⟩) id) r⟩;rcases Fh.mp z with z|z<;>simp[z]
theorem gk.at{m:Md}:∀{q:List W}{vs:List V}{F:List Addr}{n:Nat}{w:W},gk (Fp K A H m) q vs F->q[n]?=some w->
 ∃v d F' j,vs[n]?=some v/\F=d++F'++j/\Fp K A H m w v F'/\∀(H':Hp)(B:Addr->Prop) w' g i,Fp K B H' m w' g i->nv A (·∈d++j) H H'->(∀p o,H p=some o->B p->A p)->gk (Fp K B H' m) (q.set n w') (vs.set n g) (d++i++j)
 |[],_,_,n,w,_,e=>by cases e
 |w0::M,vs,F,0,w,h,y=>by obtain⟨v,f,d,j,rfl,rfl,t,s⟩:=h;cases y;refine⟨v,[],d,j,rfl,by simp,t,λH' B w' g i x k l=>?_⟩;exact⟨g,f,i,j,rfl,by simp,x,s.mono λw v G L z=>Fp.chg k l m (λp r=>by simpa using L p r) z⟩
 |w0::M,vs,F,n+1,w,h,y=>by obtain⟨v,f,d,j,rfl,rfl,t,s⟩:=h;obtain⟨u,D,N,C,J,rfl,I,E⟩:=gk.at s (n:=n) (by simpa using y);refine⟨u,d++D,N,C,by simpa using J,by simp,I,λH' B w' g i x k l=>?_⟩;refine⟨v,f.set n g,d,D++i++C,rfl,by simp,Fp.chg k l m (λp r=>by simp[r]) t,E H' B w' g i x (λp o e=>(k p o e).imp (λ⟨a,b,c⟩=>⟨a,b,λz=>c ?_⟩) id) l⟩;rcases Fh.mp z with z|z<;>simp[z]
noncomputable def Pth(K:Frag)(A:Addr->Prop)(H:Hp)(m:Md)(w:W)(v:V)(F:List Addr)(π:List jE)(f:Md)(w':W):Prop:=
 ∃b d g c,F=d++g++c/\ve K H v π b/\Fp K A H f w' b g/\∀(H':Hp)(B:Addr->Prop) a e,Fp K B H' f a b e->nv A (·∈d++c) H H'->(∀p o,H p=some o->B p->A p)->Fp K B H' m (setAt w π a) v (d++e++c)
theorem Fp.path:∀(π:List jE)(m:Md){w:W}{v:V}{F:List Addr}{l:Md}{w':W},Fp K A H m w v F->iT m π=some l->bI w π=some w'->Pth K A H m w v F π l w'
 |[],m,w,v,F,l,w',h,g,i=>by dsimp only[iT]at g;dsimp only[bI]at i;cases g;cases i;refine⟨v,[],F,[],by simp,rfl,h,λH' B k x h' _ _=>?_⟩;dsimp only[setAt];simpa using h'
 |n::π,.s,w,v,F,l,w',h,g,i=>by cases n<;>exact nn g
 |n::π,.f,w,v,F,l,w',h,g,i=>by cases n<;>exact nn g
 |n::π,.io _,w,v,F,l,w',h,g,i=>by cases n<;>exact nn g
 |n::π,.d,w,v,F,l,w',h,g,i=>by cases n<;>exact nn g
 |.fl n _::π,.t y,w,v,F,l,w',h,g,i=>by cases g
 |.fl n _::π,.ls y,w,v,F,l,w',h,g,i=>by cases g
 |.ix n::π,.ls X,w,v,F,l,w',h,g,i=>by
  obtain⟨O,p,vs,F0,rfl,rfl,rfl,E,Z⟩:=h;dsimp only[iT]at g;dsimp only[bI]at i;cases j:O[n]? with
  |none=>rw[j]at i;exact nn i
  |some w1=>rw[j]at i;obtain⟨r,N,F',M,u,rfl,U,T⟩:=gk.at Z j;obtain⟨P,L,G',J,rfl,S,R,Q⟩:=Fp.path π X U g i;refine⟨P,p::N++L,G',J++M,by simp,⟨p,vs,r,rfl,.inr E,u,S⟩,R,λH' B k x h' q D=>?_⟩;dsimp only[setAt];rw[j];dsimp only[Fp];have a:=T H' B _ r _ (Q H' B k x h' (λp o e=>(q p o e).imp (by rintro⟨a,b,c⟩;exact⟨a,b,λz=>c (by rcases Fh.mp z with z|z<;>simp[z])⟩) id) D) (λp o e=>(q p o e).imp (by rintro⟨a,b,c⟩;exact⟨a,b,λz=>c (by rcases Fh.mp z with z|z<;>simp[z])⟩) id) D;rw[jg u]at a;exact⟨_,p,vs,N++(L++x++J)++M,rfl,rfl,by simp,q.un E (λ_=>by simp),a⟩
 |.ix n::π,.o fs y,w,v,F,l,w',h,g,i=>by cases g
 |.ix n::π,.t y,w,v,F,l,w',h,g,i=>by
  obtain⟨O,p,vs,rfl,rfl,E,Z⟩:=h;dsimp only[iT]at g;dsimp only[bI]at i;cases I:y[n]? with
  |none=>rw[I]at g;exact nn g
  |some X=>
   cases j:O[n]? with
   |none=>rw[j]at i;exact nn i
   |some w1=>rw[I]at g;rw[j]at i;obtain⟨r,N,F',M,u,rfl,U,T⟩:=dI.at y Z I j;obtain⟨P,L,G',J,rfl,S,R,Q⟩:=Fp.path π X U g i;refine⟨P,N++L,G',J++M,by simp,⟨p,vs,r,rfl,.inl E,u,S⟩,R,λH' B k x h' q D=>?_⟩;dsimp only[setAt];rw[j];dsimp only[Fp];have a:=T H' B _ r _ (Q H' B k x h' (λp o e=>(q p o e).imp (by rintro⟨a,b,c⟩;exact⟨a,b,λz=>c (by rcases Fh.mp z with z|z<;>simp[z])⟩) id) D) (λp o e=>(q p o e).imp (by rintro⟨a,b,c⟩;exact⟨a,b,λz=>c (by rcases Fh.mp z with z|z<;>simp[z])⟩) id) D;rw[jg u]at a;refine⟨_,p,vs,rfl,rfl,q.un E (λz=>by cases z),?_⟩;simpa using a
 |.fl n f::π,.o fs y,w,v,F,l,w',h,g,i=>by
  obtain⟨C,dx,O,p,vs,F0,rfl,rfl,rfl,E,hl,Y,Z⟩:=h;dsimp only[iT]at g;dsimp only[bI]at i;by_cases hf:fs[n]?=some f;rotate_left
  .rw[Bi hf]at g;cases g
  rw[Do hf]at g;cases I:y[n]? with
  |none=>rw[I]at g;exact nn g
  |some X=>
   cases j:O[n]? with
   |none=>rw[j]at i;exact nn i
   |some w1=>rw[I]at g;rw[j]at i;obtain⟨r,N,F',M,u,rfl,U,T⟩:=dI.at y Z I j;obtain⟨P,L,G',J,rfl,S,R,Q⟩:=Fp.path π X U g i;refine⟨P,p::N++L,G',J++M,by simp,⟨p,vs,r,rfl,⟨C,dx,fs,E,hl,Y,hf⟩,u,S⟩,R,λH' B k x h' q D=>?_⟩;dsimp only[setAt];rw[j];dsimp only[Fp];have a:=T H' B _ r _ (Q H' B k x h' (λp o e=>(q p o e).imp (by rintro⟨a,b,c⟩;exact⟨a,b,λz=>c (by rcases Fh.mp z with z|z<;>simp[z])⟩) id) D) (λp o e=>(q p o e).imp (by rintro⟨a,b,c⟩;exact⟨a,b,λz=>c (by rcases Fh.mp z with z|z<;>simp[z])⟩) id) D;rw[jg u]at a;refine⟨C,dx,_,p,vs,N++(L++x++J)++M,rfl,rfl,by simp,q.un E (λ_=>by simp),hl,Y,a⟩
end
noncomputable def cU(K:Frag)(A:Addr->Prop)(H H':Hp)(m:Md)(w:W)(v:V):Prop:=
 ∃F:List Addr,F.Nodup/\(∀p∈F,H p=none)/\Fp K (λq=>A q\/q∈F) H' m w v F
noncomputable def Dom(A:Addr->Prop)(H:Hp):Prop:=∀p,A p->∃o,H p=some o
theorem Dom.no{A:Addr->Prop}{H:Hp}(d:Dom A H){p:Addr}(h:H p=none):¬A p:=λz=>by obtain⟨o,e⟩:=d p z;rw[h]at e;cases e
theorem Dom.same{A:Addr->Prop}{H H':Hp}(d:Dom A H)(s:aA H H'):Dom A H':=λp z=>by obtain⟨o,e⟩:=d p z;exact⟨o,s _ _ e⟩
section
variable{K:Frag}{A B:Addr->Prop}{H H':Hp}{m:Md}{w:W}{v:V}
theorem cU.rep(d:Dom A H)(h:cU K A H H' m w v):Rep K A H' w v:=by obtain⟨F,c,a,h⟩:=h;exact Fp.rep (λp z=>.inl z) m (λp b=>d.no (a p b)) h
theorem cU.of(h:Rep K A H' w v):cU K A H H' .s w v:=⟨[],Yf,by simp,by dsimp only[Fp];exact⟨rfl,h.less λp z=>by simpa using z⟩⟩
theorem cU.s(d:Dom A H)(h:cU K A H H' m w v):cU K A H H' .s w v:=.of (h.rep d)
theorem cU.new{a:List W}{p:Addr}{vs:List V}(b:H p=none)(d:H' p=some (.lst vs))(e:aj K A H' a vs)(c:aj K (λq=>A q\/q=p) H' a vs):cU K A H H' .f (.lst a) (.ref p):=
 ⟨[p],(by simp),(by simpa using b),by dsimp only[Fp];exact⟨a,p,vs,rfl,rfl,rfl,d,c.less λq z=>by simpa using z⟩⟩
theorem cU.fresh{a:List W}{p:Addr}{vs:List V}{H1:Hp}(s:aA H H1)(b:H1 p=none)(h:aj K A H1 a vs):cU K A H (upd H1 p (.lst vs)) .f (.lst a) (.ref p):=by
 have sm:=aK b (.lst vs);refine .new (s.free b) aD (h.same sm) (aj.mv sm (λq o z y=>?_) a h);rcases y with y|y
 .exact y
 .rw[y,b]at z;cases z
theorem cU.Lu(h:cU K A H H' .f w v):∃a p vs,w=.lst a/\v=.ref p/\H p=none/\H' p=some (.lst vs)/\aj K (λq=>A q\/q=p) H' a vs:=by obtain⟨F,e,b,h⟩:=h;obtain⟨a,p,vs,rfl,rfl,rfl,d,c⟩:=h;exact⟨a,p,vs,rfl,rfl,b p (FR.mpr rfl),d,c.less λq z=>by simpa using z⟩
theorem cU.back{a:Hp}(s:aA a H)(e:∀p,B p->A p)(h:cU K A H H' m w v):cU K B a H' m w v:=by obtain⟨F,c,b,h⟩:=h;exact⟨F,c,λp d=>s.free (b p d),Fp.mv (aA.refl _) (λp o _ z=>z.imp (e p) id) m h⟩
end
abbrev Ev:=List (Option W)
noncomputable def look:Ev->Nat->Option W
 |[],_=>none
 |x::_,0=>x
 |_::l,n+1=>look l n
theorem aW:∀{a:Ev}{i:Nat}{w:W},look a i=some w↔a[i]?=some (some w)
 |[],i,w=>by simp[look]
 |x::l,0,w=>by simp[look]
 |x::l,i+1,w=>by rw[look,aW];simp
abbrev Ms:=List (Nat×Md)
noncomputable def aM(M:Ms)(i:Nat):Prop:=∃m,(i,m)∈M
structure Fz where
 ab:Addr->Prop
 B:Addr->Prop
 s0:Option V
abbrev FB(A:Fz)(M:Ms)(σ:St):Addr->Prop:=A.B
structure NC(K:Frag)(M:Ms)(A:Fz)(H0:Hp)(σ:St)(H:Hp)(ε:Ev)(F:Nat->List Addr):Prop where
 un:∀i m m',(i,m)∈M->(i,m')∈M->m=m'
 val:∀i m w,(i,m)∈M->look ε i=some w->∃v,σ[i]?=some (some v)/\Fp K A.B H m w v (F i)
 emp:∀i,aM M i->look ε i=none->F i=[]
 nd:∀i,aM M i->(F i).Nodup
 ds:∀i j p,aM M i->aM M j->p∈F i->p∈F j->i=j
 nw:∀i p,aM M i->p∈F i->H0 p=none
 na:∀i p,aM M i->p∈F i->¬A.ab p
 all:∀p,A.B p↔A.ab p\/∃i,aM M i/\p∈F i
structure SR(K:Frag)(M:Ms)(A:Fz)(H0:Hp)(σ:St)(H:Hp)(ε:Ev):Prop where
 len:σ.length=ε.length
 sh:∀i w,¬aM M i->look ε i=some w->∃v,σ[i]?=some (some v)/\Rep K A.B H w v
 sm:aA H0 H
 dm:Dom A.ab H
 sl:∀v,A.s0=some v->σ[0]?=some (some v)/\aM M 0
 ow:∃F,NC K M A H0 σ H ε F
theorem aF{a:Ev}{i j:Nat}{x:Option W}(h:i≠j):look (a.set i x) j=look a j:=by
 cases e:look a j with
 |none=>
  cases b:look (a.set i x) j with
  |none=>rfl
  |some w=>rw[aW,Hk h,<-aW,e]at b;cases b
 |some w=>rw[aW,Hk h,<-aW];exact e
theorem gC{a:Ev}{i:Nat}{w w':W}(h:look (a.set i (some w)) i=some w'):w'=w:=by
 rw[aW,Xe]at h;rw[Do rfl]at h;split at h
 .cases h;rfl
 .cases h
theorem lg{a:Ev}{i:Nat}{w:W}(h:look a i=some w):i<a.length:=by rw[aW]at h;exact(GT.mp h).1
section
variable{K:Frag}{M M':Ms}{A:Fz}{H0 H H1:Hp}{σ:St}{ε:Ev}{F:Nat->List Addr}
theorem NC.has(O:NC K M A H0 σ H ε F){i:Nat}{p:Addr}(c:aM M i)(a:p∈F i):∃o,H p=some o/\zm o=true:=by
 cases b:look ε i with
 |none=>rw[O.emp i c b]at a;cases a
 |some w=>obtain⟨m,d⟩:=c;obtain⟨v,_,h⟩:=O.val i m w d b;exact Fp.mu m h p a
theorem SR.dom(S:SR K M A H0 σ H ε):Dom A.B H:=λp z=>by
 obtain⟨F,O⟩:=S.ow;rcases(O.all p).mp z with z|⟨i,b,a⟩
 .exact S.dm p z
 .obtain⟨o,e,_⟩:=O.has b a;exact⟨o,e⟩
theorem SR.sub'(S:SR K M A H0 σ H ε):∀p,A.ab p->A.B p:=λp z=>by obtain⟨F,O⟩:=S.ow;exact(O.all p).mpr (.inl z)
theorem SR.same(S:SR K M A H0 σ H ε)(s:aA H H1):SR K M A H0 σ H1 ε:=by
 obtain⟨F,O⟩:=S.ow;exact⟨S.len,λi w b e=>let⟨v,h1,h2⟩:=S.sh i w b e;⟨v,h1,h2.same s⟩,S.sm.trans s,S.dm.same s,S.sl,F,
  ⟨O.un,λi m w a e=>let⟨v,h1,h2⟩:=O.val i m w a e;⟨v,h1,Fp.mv s (λ_ _ _ z=>z) m h2⟩,O.emp,O.nd,O.ds,O.nw,O.na,O.all⟩⟩
theorem SR.sub(S:SR K M A H0 σ H ε)(h:∀x∈M',x∈M)(s:Option V)(hz:∀v,s=some v->A.s0=some v/\aM M' 0):∃r,r.ab=A.ab/\r.s0=s/\(∀p,r.B p->A.B p)/\SR K M' r H0 σ H ε:=by
 obtain⟨F,O⟩:=S.ow;have d:∀i,aM M' i->aM M i:=by rintro i ⟨m,f⟩;exact⟨m,h _ f⟩
 have q:∀p,(A.ab p\/∃i,aM M' i/\p∈F i)->A.B p:=λp z=>(O.all p).mpr (z.imp id<|by rintro⟨i,c,n⟩;exact⟨i,d i c,n⟩);refine⟨⟨A.ab,λp=>A.ab p\/∃i,aM M' i/\p∈F i,s⟩,rfl,rfl,q,S.len,λi w t e=>?_,S.sm,S.dm,λv e=>⟨(S.sl v (hz v e).1).1,(hz v e).2⟩,F,⟨λi m u a b=>O.un i m u (h _ a) (h _ b),λi m w f e=>?_,λi c=>O.emp i (d i c),λi c=>O.nd i (d i c),λi j p c o=>O.ds i j p (d i c) (d j o),λi p c=>O.nw i p (d i c),λi p c=>O.na i p (d i c),λp=>YP⟩⟩
 .by_cases c:aM M i
  .have g:=c;obtain⟨m,f⟩:=c;obtain⟨v,l,k⟩:=O.val i m w f e;refine⟨v,l,Fp.rep q m (λp n z=>?_) k⟩;rcases z with z|⟨j,o,y⟩
   .exact O.na i p g n z
   .have:=O.ds i j p g (d j o) n y;subst this;exact t o
  .obtain⟨v,l,k⟩:=S.sh i w c e;exact⟨v,l,k.less q⟩
 .obtain⟨v,l,k⟩:=O.val i m w (h _ f) e;exact⟨v,l,Fp.mv (aA.refl _) (λp _ _ z=>q p z) m k⟩
theorem SR.go(S:SR K M A H0 σ H ε):SR K [] ⟨A.ab,A.ab,none⟩ H0 σ H ε:=by
 obtain⟨a,b,c,h,d⟩:=S.sub (M':=[]) (λx f=>by cases f) none (λv e=>by cases e);obtain⟨F,O⟩:=d.ow;have e:∀p,a.B p↔A.ab p:=λp=>by rw[O.all p,b];exact⟨λz=>z.elim id (by rintro⟨i,⟨m,g⟩,_⟩;cases g),.inl⟩
 have:a.B=A.ab:=funext λp=>propext (e p);have:a=⟨A.ab,A.ab,none⟩:=by
  cases a;simp only at b c this;rw[b,this,c]
 rw[<-this];exact d
theorem SR.set(S:SR K M A H0 σ H ε){i:Nat}{w:W}{v:V}(g:¬aM M i)(h:Rep K A.B H w v):SR K M A H0 (σ.set i (some v)) H (ε.set i (some w)):=by
 obtain⟨F,O⟩:=S.ow;refine⟨by rw[L9,L9];exact S.len,λj f d e=>?_,S.sm,S.dm,λu e=>?_,F,⟨O.un,λj m f k e=>?_,λj d e=>?_,O.nd,O.ds,O.nw,O.na,O.all⟩⟩
 .by_cases a:i=j
  .subst a;have l:i<σ.length:=by rw[S.len];have:=lg e;rwa [L9]at this
   have:=gC e;subst this;exact⟨v,Kj l,h⟩
  .rw[aF a]at e;obtain⟨u,c,b⟩:=S.sh j f d e;exact⟨u,by rw[Hk a];exact c,b⟩
 .obtain⟨c,b⟩:=S.sl u e;exact⟨by rw[Hk (by rintro rfl;exact g b)];exact c,b⟩
 .have a:i≠j:=by rintro rfl;exact g ⟨m,k⟩
  rw[aF a]at e;obtain⟨u,c,b⟩:=O.val j m f k e;exact⟨u,by rw[Hk a];exact c,b⟩
 .have a:i≠j:=by rintro rfl;exact g d
  rw[aF a]at e;exact O.emp j d e
theorem SR.own(S:SR K M' A H0 σ H ε){i:Nat}{m:Md}{w:W}{v:V}(y:∀x,x∈M↔x=(i,m)\/x∈M')(Q:¬aM M' i)(s:aA H H1)(h:cU K A.B H H1 m w v):
 ∃N,N.ab=A.ab/\N.s0=A.s0/\(∀p o,H p=some o->N.B p->A.B p)/\SR K M N H0 (σ.set i (some v)) H1 (ε.set i (some w)):=by
 obtain⟨F,O⟩:=S.ow;obtain⟨G,nd,nw,L⟩:∃G:List Addr,G.Nodup/\(∀p∈G,H p=none)/\(i<ε.length->Fp K (λq=>A.B q\/q∈G) H1 m w v G)/\(ε.length<=i->G=[]):=by
  by_cases g:i<ε.length
  .obtain⟨G,nd,nw,L⟩:=h;exact⟨G,nd,nw,λ_=>L,λz=>by lia⟩
  .exact⟨[],Yf,by simp,λz=>(g z).elim,λ_=>rfl⟩
 have f:∀j,aM M j↔j=i\/aM M' j:=λj=>by
  constructor
  .rintro⟨r,R⟩;rcases(y _).mp R with e|e
   .cases e;exact .inl rfl
   .exact .inr ⟨r,e⟩
  .rintro(rfl|⟨r,R⟩)
   .exact⟨m,(y _).mpr (.inl rfl)⟩
   .exact⟨r,(y _).mpr (.inr R)⟩
 have P:∀j,aM M' j->j≠i:=λj c e=>by subst e;exact Q c
 have E:∀j p,aM M' j->p∈F j->p∉G:=λj p c d z=>by obtain⟨o,e,_⟩:=O.has c d;rw[nw p z]at e;cases e
 have T:∀p o,H p=some o->(A.B p\/p∈G)->A.B p:=λp o e z=>by
  rcases z with z|z
  .exact z
  .rw[nw p z]at e;cases e
 refine⟨⟨A.ab,λp=>A.B p\/p∈G,A.s0⟩,rfl,rfl,T,by rw[L9,L9];exact S.len,λj J c e=>?_,S.sm.trans s,S.dm.same s,λu e=>?_,λj=>if j=i then G else F j,⟨λj Y X a b=>?_,λj r J c e=>?_,λj c e=>?_,λj c=>?_,λj k p c U a b=>?_,λj p c d=>?_,λj p c d=>?_,λp=>?_⟩⟩
 .have t:j≠i/\¬aM M' j:=⟨λz=>c ((f j).mpr (.inl z)),λz=>c ((f j).mpr (.inr z))⟩;rw[aF (OF t.1)]at e;obtain⟨u,I,D⟩:=S.sh j J t.2 e;exact⟨u,by rw[Hk (OF t.1)];exact I,Rep.mv s T J D⟩
 .obtain⟨I,D⟩:=S.sl u e;exact⟨by rw[Hk (OF (P 0 D))];exact I,(f 0).mpr (.inr D)⟩
 .rcases(y _).mp a with a|a
  .rcases(y _).mp b with b|b
   .cases a;cases b;rfl
   .cases a;exact(Q ⟨_,b⟩).elim
  .rcases(y _).mp b with b|b
   .cases b;exact(Q ⟨_,a⟩).elim
   .exact O.un j Y X a b
 .rcases(y _).mp c with a|a
  .cases a;have g:i<ε.length:=by have:=lg e;rwa [L9]at this
   have:=gC e;subst this;exact⟨v,Kj (by rw[S.len];exact g),by rw[Do rfl];exact L.1 g⟩
  .have n:=P j ⟨r,a⟩;rw[aF (OF n)]at e;obtain⟨u,I,D⟩:=O.val j r J a e;exact⟨u,by rw[Hk (OF n)];exact I,by rw[Bi n];exact Fp.mv s T r D⟩
 .by_cases n:j=i
  .subst n;rw[Do rfl];refine L.2 (Z3 λg=>?_);have:look (ε.set j (some w)) j=some w:=by rw[aW];exact Kj g
   rw[this]at e;cases e
  .rw[aF (OF n)]at e;rw[Bi n];exact O.emp j (((f j).mp c).resolve_left n) e
 .by_cases n:j=i
  .rw[Do n];exact nd
  .rw[Bi n];exact O.nd j (((f j).mp c).resolve_left n)
 .by_cases C:j=i
  .by_cases l:k=i
   .rw[C,l]
   .rw[Do C]at a;rw[Bi l]at b;exact(E k p (((f k).mp U).resolve_left l) b a).elim
  .by_cases l:k=i
   .rw[Bi C]at a;rw[Do l]at b;exact(E j p (((f j).mp c).resolve_left C) a b).elim
   .rw[Bi C]at a;rw[Bi l]at b;exact O.ds j k p (((f j).mp c).resolve_left C) (((f k).mp U).resolve_left l) a b
 .by_cases n:j=i
  .rw[Do n]at d;exact S.sm.free (nw p d)
  .rw[Bi n]at d;exact O.nw j p (((f j).mp c).resolve_left n) d
 .by_cases n:j=i
  .rw[Do n]at d;exact S.dm.no (nw p d)
  .rw[Bi n]at d;exact O.na j p (((f j).mp c).resolve_left n) d
 .constructor
  .rintro(z|z)
   .rcases(O.all p).mp z with z|⟨j,c,d⟩
    .exact .inl z
    .exact .inr ⟨j,(f j).mpr (.inr c),by rw[Bi (P j c)];exact d⟩
   .exact .inr ⟨i,(f i).mpr (.inl rfl),by rw[Do rfl];exact z⟩
  .rintro(z|⟨j,c,d⟩)
   .exact .inl ((O.all p).mpr (.inl z))
   .by_cases n:j=i
    .rw[Do n]at d;exact .inr d
    .rw[Bi n]at d;exact .inl ((O.all p).mpr (.inr ⟨j,((f j).mp c).resolve_left n,d⟩))
theorem NC.chg(S:SR K M A H0 σ H ε)(O:NC K M A H0 σ H ε F){i:Nat}{m:Md}{w w':W}{v:V}{F':List Addr}(N:(i,m)∈M)(R:look ε i=some w)(Q:σ[i]?=some (some v))
 (x:∀p o,H p=some o->(zm o=true/\p∈F i)\/H1 p=some o)(nd:F'.Nodup)(nw:∀p∈F',p∈F i\/H p=none)(h:Fp K (λp=>(A.B p/\p∉F i)\/p∈F') H1 m w' v F'):
 ∃s,s.ab=A.ab/\s.s0=A.s0/\(∀p,s.B p↔(A.B p/\p∉F i)\/p∈F')/\(∀p o,H p=some o->s.B p->A.B p)/\sO A.B H H1/\SR K M s H0 σ H1 (ε.set i (some w')):=by
 have f:aM M i:=⟨m,N⟩;have J:∀p,p∈F i->A.B p:=λp c=>(O.all p).mpr (.inr ⟨i,f,c⟩);have P:sO A.B H H1:=λp o e=>(x p o e).imp (λz=>⟨z.1,J p z.2⟩) id;have I:∀p o,H p=some o->((A.B p/\p∉F i)\/p∈F')->A.B p:=λp o e z=>by
  rcases z with z|z
  .exact z.1
  .rcases nw p z with z|z
   .exact J p z
   .rw[z]at e;cases e
 have C:∀j p,aM M j->j≠i->p∈F j->p∉F i/\p∉F':=λj p d n c=>by
  have a:p∉F i:=λz=>n (O.ds j i p d f c z);refine⟨a,λz=>?_⟩;rcases nw p z with z|z
  .exact a z
  .obtain⟨o,e,_⟩:=O.has d c;rw[z]at e;cases e
 refine⟨⟨A.ab,λp=>(A.B p/\p∉F i)\/p∈F',A.s0⟩,rfl,rfl,λ_=>YP,I,P,by rw[L9];exact S.len,λj g d e=>?_,λp o e=>?_,λp z=>?_,S.sl,λj=>if j=i then F' else F j,⟨O.un,λj t g d e=>?_,λj d e=>?_,λj d=>?_,λj k p d L a b=>?_,λj p d c=>?_,λj p d c=>?_,λp=>?_⟩⟩
 .have n:i≠j:=by rintro rfl;exact d f
  rw[aF n]at e;obtain⟨u,E,D⟩:=S.sh j g d e;exact⟨u,E,Rep.chg P I g D⟩
 .rcases x p o (S.sm p o e)with⟨_,z⟩|z
  .rw[O.nw i p f z]at e;cases e
  .exact z
 .obtain⟨o,e⟩:=S.dm p z;rcases x p o e with⟨_,y⟩|y
  .exact(O.na i p f y z).elim
  .exact⟨o,y⟩
 .by_cases n:j=i
  .subst n;have T:=O.un j m t N d;subst T;have:=gC e;subst this;exact⟨v,Q,by rw[Do rfl];exact h⟩
  .rw[aF (OF n)]at e;obtain⟨u,E,D⟩:=O.val j t g d e;refine⟨u,E,?_⟩;rw[Bi n];refine Fp.chg (G:=λp=>p∈F j) (λp o e=>?_) I t (λp c=>c) D;rcases x p o e with⟨z,y⟩|z
   .exact .inl ⟨z,J p y,λq=>(C j p ⟨t,d⟩ n q).1 y⟩
   .exact .inr z
 .by_cases n:j=i
  .subst n;have:look (ε.set j (some w')) j=some w':=by rw[aW];exact Kj (lg R)
   rw[this]at e;cases e
  .rw[aF (OF n)]at e;rw[Bi n];exact O.emp j d e
 .by_cases n:j=i
  .rw[Do n];exact nd
  .rw[Bi n];exact O.nd j d
 .by_cases r:j=i
  .by_cases l:k=i
   .rw[r,l]
   .rw[Do r]at a;rw[Bi l]at b;exact((C k p L l b).2 a).elim
  .by_cases l:k=i
   .rw[Bi r]at a;rw[Do l]at b;exact((C j p d r a).2 b).elim
   .rw[Bi r]at a;rw[Bi l]at b;exact O.ds j k p d L a b
 .by_cases n:j=i
  .rw[Do n]at c;rcases nw p c with z|z
   .exact O.nw i p f z
   .exact S.sm.free z
  .rw[Bi n]at c;exact O.nw j p d c
 .by_cases n:j=i
  .rw[Do n]at c;rcases nw p c with z|z
   .exact O.na i p f z
   .exact S.dm.no z
  .rw[Bi n]at c;exact O.na j p d c
 .constructor
  .rintro(⟨z,y⟩|z)
   .rcases(O.all p).mp z with z|⟨j,d,c⟩
    .exact .inl z
    .have n:j≠i:=by rintro rfl;exact y c
     exact .inr ⟨j,d,by rw[Bi n];exact c⟩
   .exact .inr ⟨i,f,by rw[Do rfl];exact z⟩
  .rintro(z|⟨j,d,c⟩)
   .exact .inl ⟨(O.all p).mpr (.inl z),λy=>O.na i p f y z⟩
   .by_cases n:j=i
    .rw[Do n]at c;exact .inr c
    .rw[Bi n]at c;exact .inl ⟨(O.all p).mpr (.inr ⟨j,d,c⟩),(C j p d n c).1⟩
end
end VL
namespace HT
open PySem PySem.Spec PyProof.Rows
section
open PySem.SeqAt
open PySem.AutoSeq1 (wpAny_loadPart')
open PySem.MeetsSeq PySem.MeetsSeq2 PySem.MeetsSeq3
end
section
variable{prog:Program}{w:World}{A:Around}{E:Value->Shared->Prop}{s:Shared}
end
end HT
namespace VL
open PySem PySem.Spec PySem.Calls PyProof.Rows
section
variable{A:Around}{s:Shared}
end
end VL
namespace HT
open PySem PySem.Spec PyProof.Rows
noncomputable def WO(A:Around)(s:Shared)(x y:Value)(c:Bool):Prop:=∀(a:Program)(w:World)(E:Value->Shared->Prop)(Q:Value->Shared->Prop),Q (.bool c) s->wpAny (model a w) A (richCompare .Lt x y) Q E s
inductive Bm(A:Around)(s:Shared):List Value->List Value->Bool->Prop where
 |nn:Bm A s [] [] false
 |nc {y ys}:Bm A s [] (y::ys) true
 |cn {x xs}:Bm A s (x::xs) [] false
 |eq {x y xs ys c} (h:SeqAt.EqAt A s x y true) (r:Bm A s xs ys c):Bm A s (x::xs) (y::ys) c
 |ne {x y xs ys c} (h:SeqAt.EqAt A s x y false) (r:WO A s x y c):Bm A s (x::xs) (y::ys) c
section
open PySem.SeqAt
open PySem.AutoSeq1 (wpAny_loadPart')
open PySem.MeetsSeq PySem.MeetsSeq2 PySem.MeetsSeq3
end
section
variable{prog:Program}{w:World}{A:Around}{E:Value->Shared->Prop}{s:Shared}
end
end HT
set_option genSizeOf false
set_option genInjectivity false
namespace VL
open PySem PySem.Spec
open PyProof.Rows hiding St
open L2
inductive BI where
 |len|abs|max2|min2|sum|all|any|list|tuple|DW|int|Vr|str
 deriving DecidableEq
inductive CE where
 |var (i:Nat)|int (i:Int)|bl (b:Bool)|str (x:Str)|aG|GJ (n:String)|glob (g:Nat)
 |bin (op:Operator) (a b:CE)|neg (a:CE)|not (a:CE)
 |cmp (op:CmpOp) (a b:CE)
 |and (as:List CE)|or (as:List CE)|ite (c a b:CE)
 |tup (as:List CE)|lst (as:List CE)
 |ix (a i:CE)|sl (a lo hi:CE)
 |call (f:Nat) (as:List CE)|blt (b:BI) (as:List CE)
 |comp (ts:List Nat) (one:Bool) (n:Nat) (it:CE) (c:CE) (e:CE)
 |rB (as:List CE)
 |pop (i:Nat)
 |own (i:Nat) (π:List jE)|gD (i g f:Nat) (as:List CE)
 |slt (a lo hi:CE)|Ro (a b c:CE)|ND (a:CE) (n:Nat) (x:Str)|oq (g f:Nat) (a:CE)
 |DX (i g f:Nat) (as:List CE)|fst (as:List CE)|fmt (a:CE)
 |Rp (i:Nat)|Rq (ks:List Str) (vs:List Int) (k:CE)
 |Bo (a:CE) (g:Nat)|Rr (a:CE)
inductive CS where
 |set (i:Nat) (e:CE)|Cs (ts:List Nat) (e:CE)|par (ts:List Nat) (es:List CE)
 |app (i:Nat) (e:CE)|mz (j:Nat) (e:CE)
 |ret (e:CE)|iff (c:CE) (a b:List CS)|Lw (c:CE) (b:List CS)
 |fr (ts:List Nat) (one:Bool) (it:CE) (b:List CS)
 |brk|raise (c:Nat) (e:CE)
 |GK (i:Nat) (π:List jE) (e:CE)|xo (i n:Nat) (e:CE)
 |HU (e:CE)|xq (e:CE)|Lx (c:CE) (a b:List CS)|S8 (c:CE) (b:List CS)|NF (i:Nat) (e:CE)
 |HV
 |NG (is:List Nat) (b:List CS)
 |Vs (i:Nat)
 |HE (i:Nat) (π:List jE) (e:CE)|Rt (i n:Nat) (e:CE)|Ru (c:CE) (a b:List CS)|S9 (e:CE)|Vt (i:Nat) (k e:CE)
 |Tc (j i g y:Nat) (e:CE)
noncomputable def Td:W->W->(W->Prop)->Prop
 |.int i,.int j,Q=>Q (.int (i+j))
 |.lst a,.lst b,Q=>a.length+b.length<=sizeLine/\Q (.lst (a++b))
 |.tup a,.tup b,Q=>a≠[]/\a.length+b.length<=sizeLine/\Q (.tup (a++b))
 |.str a,.str b,Q=>a.length+b.length<=sizeLine/\Q (.str (a++b))
 |_,_,_=>False
noncomputable def Te:W->W->(W->Prop)->Prop
 |.int i,.int j,Q=>IntMulOk i j/\Q (.int (i*j))
 |.lst a,.int k,Q=> -(2^63)<=k/\k<2^63/\a.length*k.toNat<=sizeLine/\Q (.lst (C8 k.toNat a).flatten)
 |.str a,.int k,Q=>(0<=k/\k<=1000)/\a.length<=1000/\Q (.str (tx (C8 k.toNat a.cps.toList).flatten))
 |_,_,_=>False
noncomputable def Rv(C:Int->Int->Prop)(g:Int->Int->Int):W->W->(W->Prop)->Prop
 |.int i,.int j,Q=>C i j/\Q (.int (g i j))
 |_,_,_=>False
noncomputable def Tf:W->W->(W->Prop)->Prop
 |.int i,.int j,Q=>Q (.int (i -j))
 |_,_,_=>False
noncomputable def cV:Operator->W->W->(W->Prop)->Prop
 |.Add=>Td
 |.Sub=>Tf
 |.Mult=>Te
 |.FloorDiv=>Rv vB λi j=>i.fdiv j
 |.Mod=>Rv (λ_ j=>j≠0) λi j=>i.fmod j
 |.Pow=>Rv xE λi j=>i^j.toNat
 |.LShift=>Rv xE λi j=>i*2^j.toNat
 |.RShift=>Rv (λ_ j=>0<=j) λi j=>i/2^j.toNat
 |_=>λ_ _ _=>False
noncomputable def ny:Nat->W->Bool
 |_,.int _=>true
 |_,.str x=>PyData.strOk x
 |_,.aG=>true
 |n+1,.lst l=>l.all (ny n)
 |n+1,.tup l=>l.all (ny n)
 |_,_=>false
noncomputable def Ly:Nat->W->Bool
 |_,.bl _=>true
 |_,.str x=>PyData.strOk x
 |_,.aG=>true
 |n+1,.lst l=>l.all (Ly n)
 |n+1,.tup l=>l.all (Ly n)
 |_,_=>false
noncomputable def WQ(a:Bool):W->W->(W->Prop)->Prop
 |.int i,.int j,Q=>Q (.bl (if a then !decide (i=j)else decide (i=j)))
 |.str i,.str j,Q=>Q (.bl (if a then !decide (i=j)else decide (i=j)))
 |.bl i,.bl j,Q=>Q (.bl (if a then !decide (i=j)else decide (i=j)))
 |x,y,Q=>((ny 9 x=true/\ny 9 y=true)\/(Ly 9 x=true/\Ly 9 y=true)\/(ny 60 x=true/\ny 60 y=true))/\∀b:Bool,(b=true↔x=y)->Q (.bl (if a then !b else b))
noncomputable def DY(p:Int->Int->Bool):W->W->(W->Prop)->Prop
 |.int i,.int j,Q=>Q (.bl (p i j))
 |_,_,_=>False
noncomputable def Zn:W->W->(W->Prop)->Prop
 |.int i,.int j,Q=>Q (.bl (decide (i<j)))
 |_,_,_=>False
noncomputable def WR(a:Bool):W->W->(W->Prop)->Prop
 |.aG,.aG,Q=>Q (.bl (!a))
 |.bl _,.aG,Q=>Q (.bl a)
 |.int _,.aG,Q=>Q (.bl a)
 |.str _,.aG,Q=>Q (.bl a)
 |.lst _,.aG,Q=>Q (.bl a)
 |.tup _,.aG,Q=>Q (.bl a)
 |.err _,.aG,Q=>Q (.bl a)
 |_,_,_=>False
noncomputable def Zo:W->W->(W->Prop)->Prop
 |.str i,.str j,Q=>∃c,i=tx [c]/\Q (.bl (decide (c∈j.cps.toList)))
 |.str i,.lst l,Q=>∃a:List Str,l=a.map W.str/\Q (.bl (decide (i∈a)))
 |.str i,.tup l,Q=>∃a:List Str,l=a.map W.str/\Q (.bl (decide (i∈a)))
 |_,_,_=>False
noncomputable def dJ:CmpOp->W->W->(W->Prop)->Prop
 |.Eq=>WQ false
 |.NotEq=>WQ true
 |.Lt=>Zn
 |.LtE=>DY λi j=>decide (i<=j)
 |.Gt=>DY λi j=>decide (j<i)
 |.GtE=>DY λi j=>decide (j<=i)
 |.Is=>WR false
 |.IsNot=>WR true
 |.In=>Zo
 |_=>λ_ _ _=>False
noncomputable def Lz:CmpOp->W->W->(W->Prop)->Prop
 |.Lt=>DY λi j=>decide (i<j)
 |o=>dJ o
noncomputable def HW:W->W->(W->Prop)->Prop
 |.lst l,.int i,Q=>∃w,iS l i=some w/\Q w
 |.tup l,.int i,Q=>∃w,iS l i=some w/\Q w
 |.cX a,.int i,Q=>∃n,iS a i=some n/\Q (.int n)
 |.str x,.int i,Q=>x.length<=sizeLine/\∃c,iS x.cps.toList i=some c/\Q (.str (tx [c]))
 |_,_,_=>False
noncomputable def Tg:W->Bool
 |.str _=>true
 |_=>false
noncomputable def NH:W->W->W->(W->Prop)->Prop
 |.str z,.str y,.int i,Q=>0<=i/\i<=z.length/\Q (.bl (y.cps.toList.isPrefixOf (z.cps.toList.drop i.toNat)))
 |_,_,_,_=>False
noncomputable def DZ:W->(W->Prop)->Prop
 |.str x,Q=>x.length<=1000/\Q (.str x)
 |.int i,Q=>i.natAbs.log2<1920/\Q (.str (toString i))
 |_,_=>False
noncomputable def NI(n:Nat)(x:Str):W->(W->Prop)->Prop
 |.obj _ b a,Q=>b[n]?=some x/\∃w,a[n]?=some w/\Q w
 |_,_=>False
noncomputable def mD(l:List W)(a b:Option Int):List W:=(l.drop (HT.bX l.length 0 a)).take (HT.bX l.length l.length b -HT.bX l.length 0 a)
noncomputable def iL:CE->Bool
 |.aG=>true
 |_=>false
noncomputable def prI:W->(Option Int->Prop)->Prop
 |.int i,Q=>Q (some i)
 |_,_=>False
noncomputable def Ct(c:CE)(y:W)(Q:Option Int->Prop):Prop:=cond (iL c) (Q none) (prI y Q)
noncomputable def Vu:W->Option Int->Option Int->(W->Prop)->Prop
 |.lst l,a,b,Q=>Q (.lst (mD l a b))
 |.cX c,a,b,Q=>Q (.lst (mD (c.map W.int) a b))
 |_,_,_,_=>False
noncomputable def HX:W->Option Int->Option Int->(W->Prop)->Prop
 |.str x,a,b,Q=>x.length<=sizeLine/\Q (.str (tx (bT x.cps.toList a b)))
 |.tup l,a,b,Q=>¬(HT.bX l.length 0 a=0/\HT.bX l.length l.length b=l.length)/\Q (.tup (mD l a b))
 |_,_,_,_=>False
noncomputable def HY:W->W->(W->Prop)->Prop
 |.err C,.dU _ a b,Q=>(C∈a/\Q (.bl true))\/(C∈b/\Q (.bl false))
 |_,_,_=>False
noncomputable def Th:W->(W->Prop)->Prop
 |.err _,Q=>Q (.bl true)
 |_,_=>False
noncomputable def Ti:W->W->(W->Prop)->Prop
 |.obj C b a,.cls D,Q=>D=C/\Q (.obj C b a)
 |_,_,_=>False
noncomputable def tyW:W->Option String
 |.aG=>some "NoneType"
 |.bl _=>some "bool"
 |.int _=>some "int"
 |.str _=>some "str"
 |.lst _=>some "list"
 |.tup _=>some "tuple"
 |_=>none
noncomputable def Bp(a b:String):Bool:=a==b||(a=="bool"&&b=="int")
noncomputable def nA:BI->List W->(W->Prop)->Prop
 |.len,[.lst l],Q=>Q (.int l.length)
 |.len,[.tup l],Q=>Q (.int l.length)
 |.len,[.cX c],Q=>Q (.int c.length)
 |.len,[.str x],Q=>x.length<=sizeLine/\Q (.int x.length)
 |.abs,[.int i],Q=>Q (.int (if i<0 then-i else i))
 |.max2,[.int i,.int j],Q=>Q (.int (if j>i then j else i))
 |.max2,[.lst l],Q=>∃c:List Int,l=c.map W.int/\c≠[]/\∀m∈c,(∀n∈c,n<=m)->Q (.int m)
 |.min2,[.int i,.int j],Q=>Q (.int (if j<i then j else i))
 |.min2,[.lst l],Q=>∃c:List Int,l=c.map W.int/\c≠[]/\∀m∈c,(∀n∈c,m<=n)->Q (.int m)
 |.sum,[.lst l],Q=>∃c:List Int,l=c.map W.int/\Q (.int c.sum)
 |.all,[.lst l],Q=>∃bs:List Bool,l=bs.map W.bl/\Q (.bl (bs.all id))
 |.any,[.lst l],Q=>∃bs:List Bool,l=bs.map W.bl/\Q (.bl (bs.any id))
 |.list,[.lst l],Q=>Q (.lst l)
 |.list,[.tup l],Q=>Q (.lst l)
 |.tuple,[.lst l],Q=>Q (.tup l)
 |.tuple,[.tup l],Q=>Q (.tup l)
 |.DW,[w,.ty n],Q=>∃a,tyW w=some a/\Q (.bl (Bp a n))
 |.int,[.bl b],Q=>Q (.int (if b then 1 else 0))
 |.int,[.str x],Q=>∃n,PySem.intText? x=some n/\x.length<=640/\Q (.int n)
 |.str,[.int i],Q=>i.natAbs.log2<1920/\Q (.str (toString i))
 |.str,[.str x],Q=>Q (.str x)
 |.Vr,[.int i,.int j],Q=>(0<j/\j<1073741824)/\Q (.tup [.int (i/j),.int (i%j)])
 |_,_,_=>False
noncomputable def Rw(j:Str):W->Bool
 |.str i=>decide (i=j)
 |_=>false
noncomputable def zo(j:Str)(a:List W):List W:=if a.any (Rw j)=true then a else a++[.str j]
noncomputable def zp(j:Str)(u:W)(b a:List W):List W:=if b.any (Rw j)=true then VF (λx w=>if Rw j x=true then u else w) b a else a++[u]
noncomputable def ly(j:Str):List Str->List Int->Option Int
 |x::b,w::a=>if x=j then some w else ly j b a
 |_,_=>none
noncomputable def cj(a:Ev):List Nat->List W->Ev
 |i::c,w::b=>cj (a.set i (some w)) c b
 |_,_=>a
noncomputable def wT(b:Bool)(a:List Nat)(w:W)(c:Ev)(Q:Ev->Prop):Prop:=
 match b,a,w with
 |true,[i],w=>Q (c.set i (some w))
 |false,a,.tup l=>l.length=a.length/\Q (cj c a l)
 |_,_,_=>False
noncomputable def pU(f:W->(Option W->Prop)->Prop):List W->List W->(List W->Prop)->Prop
 |[],acc,Q=>Q acc
 |w::a,acc,Q=>f w λr=>match r with
  |some y=>acc.length<sizeLine/\pU f a (acc++[y]) Q
  |none=>pU f a acc Q
noncomputable def truth:W->(Bool->Prop)->Prop
 |.bl b,Q=>Q b
 |_,_=>False
noncomputable def items:W->(List W->Prop)->Prop
 |.lst l,Q=>Q l
 |.tup l,Q=>Q l
 |_,_=>False
noncomputable def iU(a st:Int)(n:Nat):List W:=(L0 n).map λ(i:Nat)=>W.int (a+(i:Int)*st)
noncomputable def HZ:List W->(List W->Prop)->Prop
 |[.int j],Q=> -(2^62)<=j/\j<2^62/\Q (iU 0 1 j.toNat)
 |[.int i,.int j],Q=>(-(2^62)<=i/\i<2^62/\-(2^62)<=j/\j<2^62)/\Q (iU i 1 (j -i).toNat)
 |[.int i,.int j,.int k],Q=>∃n:Nat,(k≠0/\k.natAbs<1073741824/\Builtin.Range.small i j k=true/\Builtin.Range.rangeSize i j k=(n:Int))/\Q (iU i k n)
 |_,_=>False
mutual
noncomputable def GL:W->Bool
 |.aG=>true
 |.bl _=>true
 |.int _=>true
 |.str _=>true
 |.tup l=>Ea l
 |_=>false
noncomputable def Ea:List W->Bool
 |[]=>true
 |w::l=>GL w&&Ea l
end
mutual
noncomputable def flat:Md->W->Bool
 |.s,w=>GL w
 |.f,w=>match w with
  |.lst l=>Ea l
  |_=>false
 |.t a,w=>match w with
  |.tup l=>zq a l
  |_=>false
 |.o _ _,_=>false
 |.io _,_=>false
 |.d,_=>false
 |.ls _,_=>false
noncomputable def zq:List Md->List W->Bool
 |[],l=>l.isEmpty
 |m::a,l=>match l with
  |w::l=>flat m w&&zq a l
  |[]=>false
end
abbrev aV:=List W->(W->Prop)->(Addr->Prop)->Prop
section
variable(Φ:Nat->aV)(G:Nat->W)
mutual
noncomputable def wE(R:Addr->Prop):CE->Ev->(W->Prop)->Prop
 |.var i,d,Q=>match look d i with
  |some w=>Q w
  |none=>False
 |.int i,_,Q=>Q (.int i)
 |.bl b,_,Q=>Q (.bl b)
 |.str x,_,Q=>Q (.str x)
 |.aG,_,Q=>Q .aG
 |.GJ n,_,Q=>Q (.ty n)
 |.glob g,_,Q=>Q (G g)
 |.bin op a b,d,Q=>wE R a d λx=>wE R b d λy=>cV op x y Q
 |.neg a,d,Q=>wE R a d λx=>match x with
  |.int i=>Q (.int (-i))
  |_=>False
 |.not a,d,Q=>wE R a d λx=>truth x λb=>Q (.bl (!b))
 |.cmp op a b,d,Q=>wE R a d λx=>wE R b d λy=>dJ op x y Q
 |.and o,d,Q=>Au R o d Q
 |.or o,d,Q=>Rg R o d Q
 |.ite c a b,d,Q=>wE R c d λx=>truth x λk=>if k=true then wE R a d Q else wE R b d Q
 |.tup o,d,Q=>wA R o d λm=>m.length<=sizeLine/\Q (.tup m)
 |.lst o,d,Q=>wA R o d λm=>m.length<=sizeLine/\Q (.lst m)
 |.ix a i,d,Q=>wE R a d λx=>wE R i d λy=>HW x y Q
 |.sl a q r,d,Q=>wE R a d λx=>wE R q d λy=>Ct q y λl=>wE R r d λz=>Ct r z λh=>Vu x l h Q
 |.call f o,d,Q=>wA R o d λm=>Φ f m Q R
 |.blt b o,d,Q=>wA R o d λm=>nA b m Q
 |.comp A one n B c e,d,Q=>wE R B d λz=>items z λm=>pU (λw K=>wT one A w (C8 n none++d) λp=>wE (λ_=>False) c p λx=>truth x λk=>if k=true then wE (λ_=>False) e p λy=>K (some y)else K none) m [] λl=>Q (.lst l)
 |.rB o,d,Q=>wA R o d λm=>HZ m λl=>Q (.lst l)
 |.pop _,_,_=>False
 |.own i π,d,Q=>match look d i with
  |some w=>match bI w π with
   |some u=>Q u
   |none=>False
  |none=>False
 |.gD _ _ _ _,_,_=>False
 |.DX _ _ _ _,_,_=>False
 |.fst o,d,Q=>RH R o [] d Q
 |.fmt a,d,Q=>wE R a d λw=>DZ w Q
 |.slt a q r,d,Q=>wE R a d λx=>wE R q d λy=>Ct q y λl=>wE R r d λz=>Ct r z λh=>HX x l h Q
 |.Ro a b c,d,Q=>wE R a d λx=>Tg x=true/\wE R b d λy=>wE R c d λz=>NH x y z Q
 |.ND a n x,d,Q=>wE R a d λw=>NI n x w Q
 |.oq g f a,d,Q=>wE R a d λx=>match x with
  |.obj C D m=>G g=.cls C/\Φ f [.obj C D m] Q R
  |_=>False
 |.Rp i,d,Q=>match look d i with
  |some (.dct v vs)=>∃t:List Str,v=t.map W.str/\t.length<64/\∀s:List Str,s.Perm t->ax s=true->Q (.lst (s.map W.str))
  |_=>False
 |.Rq v vs k,d,Q=>wE R k d λx=>match x with
  |.str j=>∃n,ly j v vs=some n/\Q (.int n)
  |_=>False
 |.Bo a g,d,Q=>wE R a d λx=>HY x (G g) Q
 |.Rr a,d,Q=>wE R a d λx=>Th x Q
noncomputable def RH(R:Addr->Prop):List CE->List Nat->Ev->(W->Prop)->Prop
 |[],acc,_,Q=>Q (.str (tx acc))
 |a::c,acc,b,Q=>wE R a b λx=>match x with
  |.str y=>acc.length+y.length<=2000/\RH R c (acc++y.cps.toList) b Q
  |_=>False
noncomputable def wA(R:Addr->Prop):List CE->Ev->(List W->Prop)->Prop
 |[],_,Q=>Q []
 |a::d,b,Q=>wE R a b λx=>wA R d b λc=>Q (x::c)
noncomputable def Au(R:Addr->Prop):List CE->Ev->(W->Prop)->Prop
 |[],_,_=>False
 |a::d,c,Q=>match d with
  |[]=>wE R a c Q
  |b::bs=>wE R a c λx=>truth x λk=>if k=true then Au R (b::bs) c Q else Q (.bl false)
noncomputable def Rg(R:Addr->Prop):List CE->Ev->(W->Prop)->Prop
 |[],_,_=>False
 |a::d,c,Q=>match d with
  |[]=>wE R a c Q
  |b::bs=>wE R a c λx=>truth x λk=>if k=true then Q (.bl true)else Rg R (b::bs) c Q
end
noncomputable def Tj(R:Addr->Prop):CE->Ev->(W->Prop)->Prop
 |.call f c,a,Q=>wA Φ G (λ_=>False) c a λb=>Φ f b Q R
 |.oq g f (.call h c),a,Q=>wA Φ G (λ_=>False) c a λb=>Φ h b (λx=>Ti x (G g) λy=>Φ f [y] Q λ_=>False) R
 |_,_,_=>False
noncomputable def Zp:W->(List Addr->Prop)->Prop
 |.dU _ a _,Q=>a≠[]/\Q a
 |_,_=>False
structure Dn where
 nx:Ev->Prop
 rt:W->Prop
 bk:Ev->Prop
 ct:Ev->Prop
 ex:Addr->Prop
mutual
noncomputable def wP(R:Addr->Prop):CE->Ev->(W->Ev->Prop)->Prop
 |.pop i,c,Q=>match look c i with
  |some (.lst l)=>∃w,l[l.length -1]?=some w/\Q w (c.set i (some (.lst l.dropLast)))
  |_=>False
 |.DX i g f h,c,Q=>match look c i with
  |some (.fn a)=>G g=.fn a/\CD R h c λj d=>Φ f j (λw=>Q w d) R
  |_=>False
 |.gD i g f h,c,Q=>match look c i with
  |some (.obj C _ _)=>G g=.cls C/\CD R h c λj d=>match look d i with
   |some n=>Φ f (n::j) (λr=>∃w y,r=.tup [w,y]/\Q w (d.set i (some y))) R
   |none=>False
  |_=>False
 |.bin op a b,c,Q=>wP R a c λx m=>wP R b m λy k=>cV op x y λz=>Q z k
 |.cmp op a b,c,Q=>wP R a c λx m=>wP R b m λy k=>dJ op x y λz=>Q z k
 |.call f h,c,Q=>CD R h c λj d=>Φ f j (λw=>Q w d) R
 |.blt b h,c,Q=>CD R h c λj d=>nA b j λw=>Q w d
 |.ix a b,c,Q=>wP R a c λx m=>wP R b m λy k=>HW x y λz=>Q z k
 |.lst h,c,Q=>CD R h c λj d=>j.length<=sizeLine/\Q (.lst j) d
 |.tup h,c,Q=>CD R h c λj d=>j.length<=sizeLine/\Q (.tup j) d
 |.and h,c,Q=>yQ R h c Q
 |.or h,c,Q=>GV R h c Q
 |e,c,Q=>wE Φ G R e c λw=>Q w c
noncomputable def CD(R:Addr->Prop):List CE->Ev->(List W->Ev->Prop)->Prop
 |[],b,Q=>Q [] b
 |a::f,b,Q=>wP R a b λx e=>CD R f e λc d=>Q (x::c) d
noncomputable def yQ(R:Addr->Prop):List CE->Ev->(W->Ev->Prop)->Prop
 |[],_,_=>False
 |a::e,d,Q=>match e with
  |[]=>wP R a d Q
  |b::bs=>wP R a d λx c=>truth x λk=>if k=true then yQ R (b::bs) c Q else Q (.bl false) c
noncomputable def GV(R:Addr->Prop):List CE->Ev->(W->Ev->Prop)->Prop
 |[],_,_=>False
 |a::e,d,Q=>match e with
  |[]=>wP R a d Q
  |b::bs=>wP R a d λx c=>truth x λk=>if k=true then Q (.bl true) c else GV R (b::bs) c Q
end
noncomputable def fh(b:W->Dn->Ev->Prop)(D:Dn):List W->Ev->Prop
 |[],a=>D.nx a
 |w::c,a=>b w {nx:=fh b D c,rt:=D.rt,bk:=D.nx,ct:=fh b D c,ex:=D.ex} a
noncomputable def Tn(c:Ev->(Bool->Ev->Prop)->Prop)(b:Dn->Ev->Prop)(D:Dn)(d:Ev):Prop:=
 ∃J:Nat->Ev->Prop,(∃m,J m d)/\∀m d,J m d->c d λk f=>if k=true then∃N:Ev->Prop,(∀a,N a->∃e,e<m/\J e a)/\b {nx:=N,rt:=D.rt,bk:=D.nx,ct:=N,ex:=D.ex} f else D.nx f
noncomputable def NJ(c:Ev->(Bool->Prop)->Prop)(b:Dn->Ev->Prop)(D:Dn)(a:Ev):Prop:=
 ∃J:Nat->Ev->Prop,(∃m,J m a)/\∀m a,J m a->c a λk=>if k=true then∃N:Ev->Prop,(∀d,N d->∃e,e<m/\J e d)/\b {nx:=N,rt:=D.rt,bk:=D.nx,ct:=N,ex:=D.ex} a else D.nx a
mutual
noncomputable def wS:CS->Dn->Ev->Prop
 |.set i e,D,d=>wE Φ G D.ex e d λw=>D.nx (d.set i (some w))
 |.Cs o e,D,d=>wE Φ G D.ex e d λw=>match w with
  |.tup l=>l.length=o.length/\D.nx (cj d o l)
  |_=>False
 |.par o es,D,d=>wA Φ G D.ex es d λh=>h.length=o.length/\D.nx (cj d o h)
 |.app i e,D,d=>match look d i with
  |some (.lst l)=>wE Φ G D.ex e d λw=>l.length<sizeLine/\D.nx (d.set i (some (.lst (l++[w]))))
  |_=>False
 |.mz j e,D,d=>wP Φ G D.ex e d λw f=>D.nx (f.set j (some w))
 |.ret e,D,d=>wE Φ G D.ex e d D.rt
 |.iff c a b,D,d=>wE Φ G D.ex c d λx=>truth x λk=>if k=true then wSs a D d else wSs b D d
 |.Lw c b,D,d=>NJ (λd Q=>wE Φ G D.ex c d λx=>truth x Q) (wSs b) D d
 |.fr o one u b,D,d=>wE Φ G D.ex u d λz=>items z λh=>fh (λw A f=>wT one o w f λv=>wSs b A v) D h d
 |.brk,D,d=>D.bk d
 |.raise g e,D,d=>match G g with
  |.cls C=>wE Φ G D.ex e d λ_=>D.ex C
  |_=>False
 |.GK i π e,D,d=>match look d i with
  |some m=>match bI m π with
   |some (.lst l)=>wE Φ G D.ex e d λw=>l.length<sizeLine/\D.nx (d.set i (some (setAt m π (.lst (l++[w])))))
   |_=>False
  |none=>False
 |.xo i n e,D,d=>wE Φ G D.ex e d λw=>match look d i with
  |some (.obj C p h)=>n<h.length/\D.nx (d.set i (some (.obj C p (h.set n w))))
  |_=>False
 |.HU e,D,d=>wE Φ G D.ex e d λw=>match look d 0 with
  |some m=>D.rt (.tup [w,m])
  |none=>False
 |.xq e,D,d=>wP Φ G D.ex e d λ_ f=>D.nx f
 |.Lx c a b,D,d=>wP Φ G D.ex c d λx f=>truth x λk=>if k=true then wSs a D f else wSs b D f
 |.S8 c b,D,d=>Tn (λd Q=>wP Φ G D.ex c d λx f=>truth x λk=>Q k f) (wSs b) D d
 |.NF i e,D,d=>match look d i with
  |some (.lst _)=>wP Φ G D.ex e d λw f=>match look f i with
   |some (.lst l)=>l.length<sizeLine/\D.nx (f.set i (some (.lst (l++[w]))))
   |_=>False
  |_=>False
 |.HV,_,_=>False
 |.Vs i,D,d=>D.nx (d.set i (some (.dct [] [])))
 |.HE i π e,D,d=>match look d i with
  |some m=>match bI m π with
   |some (.lst l)=>wE Φ G D.ex e d λw=>match w with
    |.lst s=>l.length+s.length<=sizeLine/\D.nx (d.set i (some (setAt m π (.lst (l++s)))))
    |_=>False
   |_=>False
  |none=>False
 |.Rt i n e,D,d=>match look d i with
  |some (.obj C p h)=>∃l,h[n]?=some (.lst l)/\∀a:Addr,wP Φ G D.ex e (d.set i (some (.obj C p (h.set n (.cls a))))) λw f=>∃r,look f i=some (.obj C p r)/\r[n]?=some (.cls a)/\l.length<sizeLine/\D.nx (f.set i (some (.obj C p (r.set n (.lst (l++[w]))))))
  |_=>False
 |.S9 e,D,d=>wP Φ G D.ex e d λw _=>D.rt w
 |.Ru c a b,D,d=>wP Φ G D.ex c d λx f=>truth x λk=>if(!k)=true then wSs a D f else wSs b D f
 |.Vt i k e,D,d=>wE Φ G D.ex e d λw=>match look d i with
  |some (.dct q vs)=>wE Φ G D.ex k d λx=>match x with
   |.str j=>q.length<sizeLine/\D.nx (d.set i (some (.dct (zo j q) (zp j w q vs))))
   |_=>False
  |_=>False
 |.Tc j i g y e,D,d=>Zp (G g) λt=>Tj Φ G (λC=>C∈t/\D.nx ((d.set y (some (.err C))).set i none)) e d λw=>D.nx (d.set j (some w))
 |.NG _ b,D,d=>wSs b {D with nx:=λ_=>False,bk:=λ_=>False,ct:=λ_=>False} d
noncomputable def wSs:List CS->Dn->Ev->Prop
 |[],D,a=>D.nx a
 |s::c,D,a=>match c with
  |[]=>wS s D a
  |t::b=>wS s {D with nx:=wSs (t::b) D} a
end
end
noncomputable def bg(K:Frag)(B:Addr->Prop)(H:Hp)(w:W)(v:V):Prop:=
 match w with
 |.lst l=>∃p a,v=.ref p/\Rz H p (.lst a)/\aj K B H l a
 |w=>Rep K B H w v
section
variable{K:Frag}{A B:Addr->Prop}{H H':Hp}{w:W}{v:V}
theorem Rep.b(h:Rep K B H w v):bg K B H w v:=by
 cases w with
 |lst l=>obtain⟨p,a,e,_,d,c⟩:=h;exact⟨p,a,e,d,c⟩
 |_=>exact h
theorem bg.same(s:aA H H')(h:bg K B H w v):bg K B H' w v:=by
 cases w with
 |lst l=>obtain⟨p,a,e,c,b⟩:=h;exact⟨p,a,e,VL.aA.rz s c,b.same s⟩
 |_=>exact Rep.same s h
theorem bg.lst{l:List W}(h:bg K B H (.lst l) v):∃p vs,v=.ref p/\Rz H p (.lst vs)/\aj K B H l vs:=h
theorem bg.To{l:List W}(h:bg K B H (.tup l) v):∃p vs,v=.ref p/\H p=some (.tup vs)/\aj K B H l vs:=by have h:Rep K B H (.tup l) v:=h;dsimp only[Rep]at h;exact h
theorem bg.tup{l:List W}(h:bg K B H (.tup l) v):∃p vs,v=.ref p/\jU K H p vs/\aj K B H l vs:=by have h:Rep K B H (.tup l) v:=h;obtain⟨p,vs,e,b,a⟩:=h;exact⟨p,vs,e,jU.of b,a⟩
theorem bg.int{i:Int}(h:bg K B H (.int i) v):v=.int i:=by have h:Rep K B H (.int i) v:=h;dsimp only[Rep]at h;exact h
theorem bg.bl{i:Bool}(h:bg K B H (.bl i) v):v=.bl i:=by have h:Rep K B H (.bl i) v:=h;dsimp only[Rep]at h;exact h
theorem bg.str{i:Str}(h:bg K B H (.str i) v):v=.str i:=by have h:Rep K B H (.str i) v:=h;dsimp only[Rep]at h;exact h
theorem bg.aG(h:bg K B H .aG v):v=.aG:=by have h:Rep K B H .aG v:=h;dsimp only[Rep]at h;exact h
theorem bg.ty{n:String}(h:bg K B H (.ty n) v):v=.ty n:=by have h:Rep K B H (.ty n) v:=h;dsimp only[Rep]at h;exact h
theorem eK(i:Int):Rep K B H (.int i) (.int i):=by dsimp only[Rep]
theorem rC(i:Bool):Rep K B H (.bl i) (.bl i):=by dsimp only[Rep]
theorem mE(i:Str):Rep K B H (.str i) (.str i):=by dsimp only[Rep]
theorem Tp:Rep K B H .aG .aG:=by dsimp only[Rep]
theorem rTy(n:String):Rep K B H (.ty n) (.ty n):=by dsimp only[Rep]
theorem t6{l:List W}{p:Addr}{vs:List V}(b:H p=some (.tup vs))(a:aj K B H l vs):Rep K B H (.tup l) (.ref p):=by dsimp only[Rep];exact⟨p,vs,rfl,b,a⟩
end
abbrev KP:=W->Prop
noncomputable def Cont(K:Frag)(B:Addr->Prop)(H:Hp)(m:Md)(P:KP)(Q:VK):Prop:=∀w v a,P w->aA H a->cU K B H a m w v->Q v a
theorem Cont.now{K:Frag}{B:Addr->Prop}{H:Hp}{P:KP}{Q:VK}(c:Cont K B H .s P Q){w:W}{v:V}(p:P w)(h:Rep K B H w v):Q v H:=c w v H p (aA.refl H) (.of h)
theorem Cont.s{K:Frag}{B:Addr->Prop}{H:Hp}{m:Md}{P:KP}{Q:VK}(d:Dom B H)(c:Cont K B H .s P Q):Cont K B H m P Q:=λw v b p a h=>c w v b p a (h.s d)
noncomputable def Eb(X:Cx)(f:Value->Value->Sem Value)(r:W->W->KP->Prop)(m:W->W->Md):Prop:=
 ∀(a:List (Addr×Obj))(s:Shared)(b:St)(H:Hp)(B:Addr->Prop)(x y:W)(d c:V)(v u:Value)(P:KP)(Q:VK),Inv X a b H s->Dom B H->RelV d v->RelV c u->bg X.K B H x d->bg X.K B H y c->r x y P->Cont X.K B H (m x y) P Q->
  wpAny (model X.prog X.w) X.A (f v u) (EP X a b Q) X.xe s
section
variable{X:Cx}
theorem Ia:kL X (binaryOp .Add) (λx y H Q=>∃l b f d,x=.ref l/\y=.ref b/\Rd H l (.lst f)/\Rd H b (.lst d)/\f.length+d.length<=sizeLine/\∀p,H p=none->Q (.ref p) (upd H p (.lst (f++d)))):=by
 intro i s B H x y v u Q I k j h;obtain⟨l,b,f,d,rfl,rfl,o,t,hz,q⟩:=h;cases k;cases j;obtain⟨z,c,n,r,e⟩:=o.ok I.hok;obtain⟨C,a,D,g,A⟩:=t.ok I.hok;have E:=r.length;have m:=g.length;refine PySem.P.add_list e A ?_ (by rw[Fn,Fn];lia);have w:c.toArray++a.toArray=(c++a).toArray:=by simp
 rw[w];exact⟨.ref _,_,I.SI (t':=s.toks) (r.append g) (by rw[AN];lia),rfl,q _ I.fresh⟩
theorem Ib:kL X (binaryOp .Mult) (λx y H Q=>∃l k i,x=.ref l/\y=.int k/\Rd H l (.lst i)/\-(2^63)<=k/\k<2^63/\i.length*k.toNat<=sizeLine/\∀p,H p=none->Q (.ref p) (upd H p (.lst (C8 k.toNat i).flatten))):=by
 intro w s N H x y v u Q I C B h;obtain⟨l,k,i,rfl,rfl,E,K,J,hz,q⟩:=h;cases C;obtain⟨t,rfl⟩:=B;obtain⟨z,b,n,r,e⟩:=E.ok I.hok;have D:=r.length;have d:b.toArray.size*k.toNat<=sizeLine:=by rw[Fn,<-D];exact hz
 have g:¬b.toArray.size*k.toNat>(2^63 -1)/8:=by
  have:(sizeLine:Nat)<=(2^63 -1)/8:=by decide
  lia
 have f:¬(!Builtin.List.listFitsIndex k)=true:=by rw[fitsIndex_both K J];exact GE
 have M:¬Builtin.List.listTooLong (b.toArray.size*k.toNat)=true:=by rw[vv d];exact GE
 have c:XA (λo j=>o++j) #[] (C8 (if b.toArray.isEmpty=true then 0 else k.toNat) b.toArray)=(C8 k.toNat b).flatten.toArray:=by
  have L:∀m:Nat,XA (λo j=>o++j) #[] (C8 m b.toArray)=(C8 m b).flatten.toArray:=λm=>by have:=foldl_rep b m [];rw[TZ]at this;exact this
  rw[L];cases b with
  |nil=>simp
  |cons a O=>rw[Bi (by simp)]
 refine wpAny_binaryOp_repeat_ref (T:="list") (U:="int") (by decide) ⟨_,e,rfl⟩ (λA=>typeIs_int A k t) noFill_list_mul F.fills_int_mul F.slot_int_rmul repeat_list F.slot_int_index.lookup
  (call_meets F.slot_int_rmul (typeIs_int s k t) F.entry_int_rmul (F.args_int_rmul_2 _ _) (int___rmul___int_list k t l b.toArray n)
    ⟨e,rfl,⟨_,e,rfl⟩,call_meets F.slot_list_mul ⟨_,e,rfl⟩ F.entry_list_mul (F.args_list_mul_2 _ _) (AutoListH.list___mul___list_int_3 l b.toArray n k t f g M) ⟨e,?_⟩⟩)
 rw[c];exact⟨.ref _,_,I.SI (t':=s.toks) (r.rep k.toNat) (by rw[len_rep,Zi];exact hz),rfl,q _ I.fresh⟩
noncomputable def Ic:W->W->Md
 |.lst _,_=>.f
 |_,_=>.s
theorem NK:Eb X (binaryOp .Add) Td Ic:=by
 intro f s m H B x y N M v u P Q I d t o A w h c;cases x with
 |int i=>
  cases y with
  |int j=>
   cases A.int;cases w.int;exact MT f s m H _ _ v u Q I t o ⟨i,j,rfl,rfl,c.now h (eK _)⟩
  |_=>exact h.elim
 |str i=>
  cases y with
  |str j=>
   cases A.str;cases w.str;exact xG f s m H _ _ v u Q I t o ⟨i,j,rfl,rfl,h.1,c.now h.2 (mE _)⟩
  |_=>exact h.elim
 |lst a=>
  cases y with
  |lst b=>obtain⟨p,n,rfl,J,g⟩:=A.lst;obtain⟨q,C,rfl,D,k⟩:=w.lst;obtain⟨F,h⟩:=h;refine Ia f s m H _ _ v u Q I t o ⟨p,q,n,C,rfl,rfl,J.rd,D.rd,by rw[g.len,k.len];exact F,λr l=>?_⟩;exact c _ _ _ h (aK l _) (.fresh (aA.refl H) l (g.app k))
  |_=>exact h.elim
 |tup a=>
  cases y with
  |tup b=>
   obtain⟨p,n,rfl,L,g⟩:=A.To;have J:jU X.K H p n:=jU.of L;obtain⟨q,C,rfl,D,k⟩:=w.tup;obtain⟨E,F,h⟩:=h;refine Ht f s m H _ _ v u Q I t o ⟨p,q,n,C,rfl,rfl,J,D,λz=>E ?_,by rw[g.len,k.len];exact F,λz=>?_,λ_ r l=>?_⟩
   .have:=g.len;rw[z]at this;exact Mo.mp this.symm
   .have:=k.len;rw[z]at this;have e:b=[]:=Mo.mp this.symm;subst e;rw[NA]at h;exact c.now h (t6 L g)
   .exact c _ _ _ h (aK l _) (.of (t6 aD ((g.app k).same (aK l _))))
  |_=>exact h.elim
 |_=>exact h.elim
theorem NL:Eb X (binaryOp .Mult) Te Ic:=by
 intro b s e H B x y E D v u P Q I d g f m l h c;cases x with
 |int i=>
  cases y with
  |int j=>
   cases m.int;cases l.int;exact HC b s e H _ _ v u Q I g f ⟨i,j,rfl,rfl,h.1,c.now h.2 (eK _)⟩
  |_=>exact h.elim
 |lst a=>
  cases y with
  |int k=>obtain⟨p,w,rfl,n,t⟩:=m.lst;cases l.int;obtain⟨A,z,C,h⟩:=h;refine Ib b s e H _ _ v u Q I g f ⟨p,k,w,rfl,rfl,n.rd,A,z,by rw[t.len];exact C,λr o=>?_⟩;exact c _ _ _ h (aK o _) (.fresh (aA.refl H) o (t.rep _))
  |_=>exact h.elim
 |str a=>
  cases y with
  |int k=>
   cases m.str;cases l.int;obtain⟨q,n,h⟩:=h;exact HR b s e H _ _ v u Q I g f ⟨a,k,rfl,rfl,q.1,q.2,n,c.now h (mE _)⟩
  |_=>exact h.elim
 |_=>exact h.elim
noncomputable def mS:W->W->Md:=λ_ _=>.s
theorem NN:Eb X (binaryOp .Sub) Tf mS:=by
 intro a s b H B x y m l v u P Q I d f e k g h c;cases x with
 |int i=>
  cases y with
  |int j=>
   cases k.int;cases g.int;exact MU a s b H _ _ v u Q I f e ⟨i,j,rfl,rfl,c.now h (eK _)⟩
  |_=>exact h.elim
 |_=>exact h.elim
theorem vL{f:Value->Value->Sem Value}{C:Int->Int->Prop}{g:Int->Int->Int}(n:kL X f (rI C λi j=>.int (g i j))):Eb X f (Rv C g) mS:=by
 intro a s b H B x y p o v u P Q I d k e m l h c;cases x with
 |int i=>
  cases y with
  |int j=>
   cases m.int;cases l.int;exact n a s b H _ _ v u Q I k e ⟨i,j,rfl,rfl,h.1,c.now h.2 (eK _)⟩
  |_=>exact h.elim
 |_=>exact h.elim
noncomputable def Ie:Operator->W->W->Md
 |.Add=>Ic
 |.Mult=>Ic
 |_=>mS
theorem yc(op:Operator):Eb X (binaryOp op) (cV op) (Ie op):=by
 cases op with
 |Add=>exact NK
 |Sub=>exact NN
 |Mult=>exact NL
 |FloorDiv=>exact vL Dy
 |Mod=>exact vL Hf
 |Pow=>exact vL MV
 |LShift=>exact vL MW
 |RShift=>exact vL MX
 |_=>exact λa s b H B x y f e v u P Q I d i g k j h c=>h.elim
theorem t7{f:Value->Value->Sem Value}{p:Int->Int->Bool}(m:kL X f (G8 λi j=>.bl (p i j))):Eb X f (DY p) mS:=by
 intro a s b H B x y o n v u P Q I d g e l k h c;cases x with
 |int i=>
  cases y with
  |int j=>
   cases l.int;cases k.int;exact m a s b H _ _ v u Q I g e ⟨i,j,rfl,rfl,c.now h (rC _)⟩
  |_=>exact h.elim
 |_=>exact h.elim
end
mutual
noncomputable def toD:W->PyData
 |.aG=>.none
 |.bl b=>.bool b
 |.int i=>.int i
 |.str x=>.str x
 |.lst l=>.list (toDL l)
 |.tup l=>.tuple (toDL l)
 |_=>.none
noncomputable def toDL:List W->List PyData
 |[]=>[]
 |w::l=>toD w::toDL l
end
mutual
noncomputable def xr:W->Bool
 |.aG=>true
 |.bl _=>true
 |.int _=>true
 |.str x=>PyData.strOk x
 |.lst l=>t8 l
 |.tup l=>t8 l
 |_=>false
noncomputable def t8:List W->Bool
 |[]=>true
 |w::l=>xr w&&t8 l
end
section
variable{X:Cx}{B:Addr->Prop}{H:Hp}
mutual
theorem Tt:∀(w:W){v:V},xr w=true->Rep X.K B H w v->Dt X H v (toD w)
 |.aG,v,_,h=>by obtain rfl:=h;exact Nu
 |.bl b,v,_,h=>by obtain rfl:=h;exact S6 b
 |.int i,v,_,h=>by obtain rfl:=h;exact Nr i
 |.str x,v,_,h=>by obtain rfl:=h;exact Nt x
 |.lst l,v,d,h=>by obtain⟨p,e,rfl,_,c,a⟩:=h;exact DS (.inl c.rd) (zu l d a)
 |.tup l,v,d,h=>by obtain⟨p,e,rfl,c,a⟩:=h;exact Nv (jU.of c) (zu l d a)
 |.ty _,_,d,_=>ff d
 |.cls _,_,d,_=>ff d
 |.fn _,_,d,_=>ff d
 |.err _,_,d,_=>ff d
 |.dU _ _ _,_,d,_=>ff d
 |.dct _ _,_,d,_=>ff d
 |.obj _ _ _,_,d,_=>ff d
 |.cX _,_,d,_=>ff d
theorem zu:∀(l:List W){vs:List V},t8 l=true->aj X.K B H l vs->Paired (Dt X H) vs (toDL l)
 |[],vs,_,h=>by rw[h.nil_inv];exact .nil
 |w::l,vs,d,h=>by obtain⟨v,r,rfl,b,a⟩:=h.cons_inv;have d:=Ki.mp d;exact .cons (Tt w d.1 b) (zu l d.2 a)
end
theorem Ig{w:W}{v:V}(d:xr w=true)(h:bg X.K B H w v):Dt X H v (toD w):=by
 cases w with
 |lst l=>obtain⟨p,c,rfl,b,a⟩:=h.lst;exact DS (.inl b.rd) (zu l d a)
 |_=>exact Tt (B:=B) _ d h
end
mutual
theorem toD_lay:∀w:W,xr w=true->(toD w).canLay0=true
 |.aG,_=>rfl
 |.bl _,_=>rfl
 |.int _,_=>rfl
 |.str x,d=>d
 |.lst l,d=>toDL_lay l d
 |.tup l,d=>toDL_lay l d
 |.ty _,d=>ff d
 |.cls _,d=>ff d
 |.fn _,d=>ff d
 |.err _,d=>ff d
 |.dU _ _ _,d=>ff d
 |.dct _ _,d=>ff d
 |.obj _ _ _,d=>ff d
 |.cX _,d=>ff d
theorem toDL_lay:∀l:List W,t8 l=true->PyData.canLayAll0 (toDL l)=true
 |[],_=>rfl
 |w::l,d=>by have d:=Ki.mp d;exact Ki.mpr ⟨toD_lay w d.1,toDL_lay l d.2⟩
end
mutual
theorem toD_inj:∀x y:W,xr x=true->xr y=true->same (toD x) (toD y)=true->x=y
 |.aG,.aG,_,_,_=>rfl
 |.aG,.bl _,_,_,h=>ff h
 |.aG,.int _,_,_,h=>ff h
 |.aG,.str _,_,_,h=>ff h
 |.aG,.lst _,_,_,h=>ff h
 |.aG,.tup _,_,_,h=>ff h
 |.bl _,.aG,_,_,h=>ff h
 |.bl _,.int _,_,_,h=>ff h
 |.bl _,.str _,_,_,h=>ff h
 |.bl _,.lst _,_,_,h=>ff h
 |.bl _,.tup _,_,_,h=>ff h
 |.int _,.aG,_,_,h=>ff h
 |.int _,.bl _,_,_,h=>ff h
 |.int _,.str _,_,_,h=>ff h
 |.int _,.lst _,_,_,h=>ff h
 |.int _,.tup _,_,_,h=>ff h
 |.str _,.aG,_,_,h=>ff h
 |.str _,.bl _,_,_,h=>ff h
 |.str _,.int _,_,_,h=>ff h
 |.str _,.lst _,_,_,h=>ff h
 |.str _,.tup _,_,_,h=>ff h
 |.lst _,.aG,_,_,h=>ff h
 |.lst _,.bl _,_,_,h=>ff h
 |.lst _,.int _,_,_,h=>ff h
 |.lst _,.str _,_,_,h=>ff h
 |.lst _,.tup _,_,_,h=>ff h
 |.tup _,.aG,_,_,h=>ff h
 |.tup _,.bl _,_,_,h=>ff h
 |.tup _,.int _,_,_,h=>ff h
 |.tup _,.str _,_,_,h=>ff h
 |.tup _,.lst _,_,_,h=>ff h
 |.bl a,.bl b,_,_,h=>Hb _ (eq_of_beq h)
 |.int a,.int b,_,_,h=>Hb _ (eq_of_beq h)
 |.str a,.str b,_,_,h=>Hb _ (eq_of_beq h)
 |.lst a,.lst b,d,e,h=>Hb _ (toDL_inj a b d e h)
 |.tup a,.tup b,d,e,h=>Hb _ (toDL_inj a b d e h)
 |.ty _,_,d,_,_=>ff d
 |.cls _,_,d,_,_=>ff d
 |.fn _,_,d,_,_=>ff d
 |.err _,_,d,_,_=>ff d
 |.dU _ _ _,_,d,_,_=>ff d
 |.dct _ _,_,d,_,_=>ff d
 |.obj _ _ _,_,d,_,_=>ff d
 |.cX _,_,d,_,_=>ff d
 |_,.ty _,_,d,_=>ff d
 |_,.cls _,_,d,_=>ff d
 |_,.fn _,_,d,_=>ff d
 |_,.err _,_,d,_=>ff d
 |_,.dU _ _ _,_,d,_=>ff d
 |_,.dct _ _,_,d,_=>ff d
 |_,.obj _ _ _,_,d,_=>ff d
 |_,.cX _,_,d,_=>ff d
theorem toDL_inj:∀x y:List W,t8 x=true->t8 y=true->sameAll (toDL x) (toDL y)=true->x=y
 |[],[],_,_,_=>rfl
 |[],_::_,_,_,h=>ff h
 |_::_,[],_,_,h=>ff h
 |x::b,y::a,d,e,h=>by have d:=Ki.mp d;have e:=Ki.mp e;have h:=Ki.mp h;rw[toD_inj x y d.1 e.1 h.1,toDL_inj b a d.2 e.2 h.2]
end
mutual
theorem toD_refl:∀x:W,xr x=true->same (toD x) (toD x)=true
 |.aG,_=>rfl
 |.bl a,_=>PH a
 |.int a,_=>PH a
 |.str a,_=>PH a
 |.lst a,d=>toDL_refl a d
 |.tup a,d=>toDL_refl a d
 |.ty _,d=>ff d
 |.cls _,d=>ff d
 |.fn _,d=>ff d
 |.err _,d=>ff d
 |.dU _ _ _,d=>ff d
 |.dct _ _,d=>ff d
 |.obj _ _ _,d=>ff d
 |.cX _,d=>ff d
theorem toDL_refl:∀x:List W,t8 x=true->sameAll (toDL x) (toDL x)=true
 |[],_=>rfl
 |x::a,d=>by have d:=Ki.mp d;exact Ki.mpr ⟨toD_refl x d.1,toDL_refl a d.2⟩
end
theorem toD_same(x y:W)(d:xr x=true)(e:xr y=true):same (toD x) (toD y)=true↔x=y:=⟨toD_inj x y d e,by rintro rfl;exact toD_refl x d⟩
theorem toDL_map:∀l:List W,toDL l=l.map toD
 |[]=>rfl
 |w::l=>Hb (toD w::·) (toDL_map l)
theorem pV:∀l:List W,t8 l=l.all xr
 |[]=>rfl
 |w::l=>Hb (xr w&&·) (pV l)
theorem vM:∀(n:Nat)(w:W),(ny n w=true\/Ly n w=true)->xr w=true/\(toD w).depth<=n+1
 |n,.aG,_=>⟨rfl,NM _⟩
 |n,.bl _,_=>⟨rfl,NM _⟩
 |n,.int _,_=>⟨rfl,NM _⟩
 |n,.str x,h=>by
  have:PyData.strOk x=true:=by
   rcases h with h|h
   .cases n<;>exact h
   .cases n<;>exact h
  exact⟨this,NM _⟩
 |0,.lst l,h=>h.elim ff ff
 |0,.tup l,h=>h.elim ff ff
 |n+1,.lst l,h=>by
  have b:∀w∈l,xr w=true/\(toD w).depth<=n+1:=λw a=>by
   refine vM n w ?_;rcases h with h|h
   .exact .inl (IR.mp h w a)
   .exact .inr (IR.mp h w a)
  refine⟨(pV l).trans (IR.mpr λw a=>(b w a).1),?_⟩;dsimp only[toD];rw[toDL_map];exact Q1 (vK λx c=>by obtain⟨w,a,rfl⟩:=Kb.mp c;exact(b w a).2)
 |n+1,.tup l,h=>by
  have b:∀w∈l,xr w=true/\(toD w).depth<=n+1:=λw a=>by
   refine vM n w ?_;rcases h with h|h
   .exact .inl (IR.mp h w a)
   .exact .inr (IR.mp h w a)
  refine⟨(pV l).trans (IR.mpr λw a=>(b w a).1),?_⟩;dsimp only[toD];rw[toDL_map];exact Q1 (vK λx c=>by obtain⟨w,a,rfl⟩:=Kb.mp c;exact(b w a).2)
 |0,.ty _,h=>h.elim ff ff
 |0,.cls _,h=>h.elim ff ff
 |0,.fn _,h=>h.elim ff ff
 |0,.err _,h=>h.elim ff ff
 |0,.dU _ _ _,h=>h.elim ff ff
 |0,.dct _ _,h=>h.elim ff ff
 |0,.obj _ _ _,h=>h.elim ff ff
 |0,.cX _,h=>h.elim ff ff
 |n+1,.ty _,h=>h.elim ff ff
 |n+1,.cls _,h=>h.elim ff ff
 |n+1,.fn _,h=>h.elim ff ff
 |n+1,.err _,h=>h.elim ff ff
 |n+1,.dU _ _ _,h=>h.elim ff ff
 |n+1,.dct _ _,h=>h.elim ff ff
 |n+1,.obj _ _ _,h=>h.elim ff ff
 |n+1,.cX _,h=>h.elim ff ff
inductive zv(b:Bool):PyData->Prop where
 |none:zv b .none
 |str (x:Str):zv b (.str x)
 |bool (x:Bool) (h:b=true):zv b (.bool x)
 |int (x:Int) (h:b=false):zv b (.int x)
 |list {l:List PyData} (h:∀x∈l,zv b x):zv b (.list l)
 |tuple {l:List PyData} (h:∀x∈l,zv b x):zv b (.tuple l)
mutual
theorem ou{b:Bool}:∀d e:PyData,zv b d->zv b e->SeqAt.noMix d e=true
 |.list c,.list a,h,k=>by
  cases h with
  |list h=>
   cases k with
   |list k=>rw[SeqAt.noMix];exact pW c a h k
 |.tuple c,.tuple a,h,k=>by
  cases h with
  |tuple h=>
   cases k with
   |tuple k=>rw[SeqAt.noMix];exact pW c a h k
 |.bool _,.int _,h,k=>by
  cases h with
  |bool _ h=>
   cases k with
   |int _ k=>rw[h]at k;cases k
 |.int _,.bool _,h,k=>by
  cases h with
  |int _ h=>
   cases k with
   |bool _ k=>rw[h]at k;exact ff k
 |.dict _,_,h,_=>by cases h
 |.none,.none,_,_=>by simp[SeqAt.noMix]
 |.none,.bool _,_,_=>by simp[SeqAt.noMix]
 |.none,.int _,_,_=>by simp[SeqAt.noMix]
 |.none,.str _,_,_=>by simp[SeqAt.noMix]
 |.none,.list _,_,_=>by simp[SeqAt.noMix]
 |.none,.tuple _,_,_=>by simp[SeqAt.noMix]
 |.none,.dict _,_,_=>by simp[SeqAt.noMix]
 |.bool _,.none,_,_=>by simp[SeqAt.noMix]
 |.bool _,.bool _,_,_=>by simp[SeqAt.noMix]
 |.bool _,.str _,_,_=>by simp[SeqAt.noMix]
 |.bool _,.list _,_,_=>by simp[SeqAt.noMix]
 |.bool _,.tuple _,_,_=>by simp[SeqAt.noMix]
 |.bool _,.dict _,_,_=>by simp[SeqAt.noMix]
 |.int _,.none,_,_=>by simp[SeqAt.noMix]
 |.int _,.int _,_,_=>by simp[SeqAt.noMix]
 |.int _,.str _,_,_=>by simp[SeqAt.noMix]
 |.int _,.list _,_,_=>by simp[SeqAt.noMix]
 |.int _,.tuple _,_,_=>by simp[SeqAt.noMix]
 |.int _,.dict _,_,_=>by simp[SeqAt.noMix]
 |.str _,.none,_,_=>by simp[SeqAt.noMix]
 |.str _,.bool _,_,_=>by simp[SeqAt.noMix]
 |.str _,.int _,_,_=>by simp[SeqAt.noMix]
 |.str _,.str _,_,_=>by simp[SeqAt.noMix]
 |.str _,.list _,_,_=>by simp[SeqAt.noMix]
 |.str _,.tuple _,_,_=>by simp[SeqAt.noMix]
 |.str _,.dict _,_,_=>by simp[SeqAt.noMix]
 |.list _,.none,_,_=>by simp[SeqAt.noMix]
 |.list _,.bool _,_,_=>by simp[SeqAt.noMix]
 |.list _,.int _,_,_=>by simp[SeqAt.noMix]
 |.list _,.str _,_,_=>by simp[SeqAt.noMix]
 |.list _,.tuple _,_,_=>by simp[SeqAt.noMix]
 |.list _,.dict _,_,_=>by simp[SeqAt.noMix]
 |.tuple _,.none,_,_=>by simp[SeqAt.noMix]
 |.tuple _,.bool _,_,_=>by simp[SeqAt.noMix]
 |.tuple _,.int _,_,_=>by simp[SeqAt.noMix]
 |.tuple _,.str _,_,_=>by simp[SeqAt.noMix]
 |.tuple _,.list _,_,_=>by simp[SeqAt.noMix]
 |.tuple _,.dict _,_,_=>by simp[SeqAt.noMix]
theorem pW{b:Bool}:∀c a:List PyData,(∀x∈c,zv b x)->(∀y∈a,zv b y)->SeqAt.noMixAll c a=true
 |[],[],_,_=>by simp[SeqAt.noMixAll]
 |[],_::_,_,_=>by simp[SeqAt.noMixAll]
 |_::_,[],_,_=>by simp[SeqAt.noMixAll]
 |x::c,y::a,h,k=>by rw[SeqAt.noMixAll,ou x y (h x BM) (k y BM),pW c a (λz hz=>h z (B1 _ hz)) λz hz=>k z (B1 _ hz)];rfl
end
theorem mF:∀(n:Nat)(w:W),ny n w=true->zv false (toD w)
 |n,.aG,_=>.none
 |n,.int i,_=>.int i rfl
 |n,.str x,_=>.str x
 |n,.bl _,h=>by cases n<;>exact ff h
 |n+1,.lst l,h=>by dsimp only[toD];rw[toDL_map];exact .list λx a=>by obtain⟨w,b,rfl⟩:=Kb.mp a;exact mF n w (IR.mp h w b)
 |n+1,.tup l,h=>by dsimp only[toD];rw[toDL_map];exact .tuple λx a=>by obtain⟨w,b,rfl⟩:=Kb.mp a;exact mF n w (IR.mp h w b)
 |0,.lst l,h=>ff h
 |0,.tup l,h=>ff h
 |n,.ty _,h=>by cases n<;>exact ff h
 |n,.cls _,h=>by cases n<;>exact ff h
 |n,.fn _,h=>by cases n<;>exact ff h
 |n,.err _,h=>by cases n<;>exact ff h
 |n,.dU _ _ _,h=>by cases n<;>exact ff h
 |n,.dct _ _,h=>by cases n<;>exact ff h
 |n,.obj _ _ _,h=>by cases n<;>exact ff h
 |n,.cX _,h=>by cases n<;>exact ff h
theorem t9:∀(n:Nat)(w:W),Ly n w=true->zv true (toD w)
 |n,.aG,_=>.none
 |n,.bl i,_=>.bool i rfl
 |n,.str x,_=>.str x
 |n,.int _,h=>by cases n<;>exact ff h
 |n+1,.lst l,h=>by dsimp only[toD];rw[toDL_map];exact .list λx a=>by obtain⟨w,b,rfl⟩:=Kb.mp a;exact t9 n w (IR.mp h w b)
 |n+1,.tup l,h=>by dsimp only[toD];rw[toDL_map];exact .tuple λx a=>by obtain⟨w,b,rfl⟩:=Kb.mp a;exact t9 n w (IR.mp h w b)
 |0,.lst l,h=>ff h
 |0,.tup l,h=>ff h
 |n,.ty _,h=>by cases n<;>exact ff h
 |n,.cls _,h=>by cases n<;>exact ff h
 |n,.fn _,h=>by cases n<;>exact ff h
 |n,.err _,h=>by cases n<;>exact ff h
 |n,.dU _ _ _,h=>by cases n<;>exact ff h
 |n,.dct _ _,h=>by cases n<;>exact ff h
 |n,.obj _ _ _,h=>by cases n<;>exact ff h
 |n,.cX _,h=>by cases n<;>exact ff h
section
variable{X:Cx}
theorem ua(E:X.A.units+64<cLine)(j:Bool){a:List (Addr×Obj)}{s:Shared}{i:St}{H:Hp}{B:Addr->Prop}{x y:W}{m l:V}{v u:Value}{P:KP}{Q:VK}(I:Inv X a i H s)(r:RelV m v)(p:RelV l u)(D:bg X.K B H x m)(C:bg X.K B H y l)
 (h:((ny 9 x=true/\ny 9 y=true)\/(Ly 9 x=true/\Ly 9 y=true)\/(ny 60 x=true/\ny 60 y=true))/\∀b:Bool,(b=true↔x=y)->P (.bl (if j then !b else b)))(c:Cont X.K B H .s P Q):
 wpAny (model X.prog X.w) X.A (compareOp (if j then .NotEq else .Eq) v u) (EP X a i Q) X.xe s:=by
 obtain⟨k,h⟩:=h;have g:xr x=true/\(toD x).depth<=61:=by
  rcases k with h|h|h
  .exact(vM 9 x (.inl h.1)).imp id λz=>FV z (by decide)
  .exact(vM 9 x (.inr h.1)).imp id λz=>FV z (by decide)
  .exact vM 60 x (.inl h.1)
 have f:xr y=true/\(toD y).depth<=61:=by
  rcases k with h|h|h
  .exact(vM 9 y (.inl h.2)).imp id λz=>FV z (by decide)
  .exact(vM 9 y (.inr h.2)).imp id λz=>FV z (by decide)
  .exact vM 60 y (.inl h.2)
 have o:SeqAt.shaped (toD x)=true:=by unfold SeqAt.shaped;rw[toD_lay x g.1,Bz (FV g.2 (by decide))];rfl
 have n:SeqAt.shaped (toD y)=true:=by unfold SeqAt.shaped;rw[toD_lay y f.1,Bz (FV f.2 (by decide))];rfl
 have t:SeqAt.noMix (toD x) (toD y)=true:=by
  rcases k with⟨e,d⟩|⟨e,d⟩|⟨e,d⟩
  .exact ou _ _ (mF 9 x e) (mF 9 y d)
  .exact ou _ _ (t9 9 x e) (t9 9 y d)
  .exact ou _ _ (mF 60 x e) (mF 60 y d)
 have q:=h (same (toD x) (toD y)) (toD_same x y g.1 f.1);cases j with
 |true=>exact Ny E a s i H _ _ v u Q I r p ⟨_,_,Ig g.1 D,Ig f.1 C,⟨o,n,t⟩,c.now q (rC _)⟩
 |false=>exact Nx E a s i H _ _ v u Q I r p ⟨_,_,Ig g.1 D,Ig f.1 C,⟨o,n,t⟩,c.now q (rC _)⟩
theorem LA(p:X.A.units+64<cLine)(e:Bool):Eb X (compareOp (if e then .NotEq else .Eq)) (WQ e) mS:=by
 intro f s r H B x y E D v u P Q I d l g n m h c;have sc:∀a b:V,MZ a b=true->(∀k:Bool,k=decide (a=b)->Q (.bl (if e then !k else k)) H)->RelV a v->RelV b u->wpAny (model X.prog X.w) X.A (compareOp (if e then .NotEq else .Eq) v u) (EP X f r Q) X.xe s:=λa b C q z t=>by
  cases e with
  |true=>exact Sl f s r H _ _ v u Q I z t ⟨C,q _ rfl⟩
  |false=>exact Sk f s r H _ _ v u Q I z t ⟨C,q _ rfl⟩
 cases x with
 |int i=>
  cases y with
  |int j=>
   cases n.int;cases m.int;refine sc _ _ rfl (λk o=>c.now (w:=.bl (if e then !k else k)) ?_ (rC _)) l g;rw[o,show decide (V.int i=V.int j)=decide (i=j)from by simp];exact h
  |_=>exact ua p e I l g n m h c
 |str i=>
  cases y with
  |str j=>
   cases n.str;cases m.str;refine sc _ _ rfl (λk o=>c.now (w:=.bl (if e then !k else k)) ?_ (rC _)) l g;rw[o,show decide (V.str i=V.str j)=decide (i=j)from by simp];exact h
  |_=>exact ua p e I l g n m h c
 |bl i=>
  cases y with
  |bl j=>
   cases n.bl;cases m.bl;refine sc _ _ rfl (λk o=>c.now (w:=.bl (if e then !k else k)) ?_ (rC _)) l g;rw[o,show decide (V.bl i=V.bl j)=decide (i=j)from by simp];exact h
  |_=>exact ua p e I l g n m h c
 |_=>exact ua p e I l g n m h c
theorem LB(i:Bool):Eb X (compareOp (if i then .IsNot else .Is)) (WR i) mS:=by
 intro j s m H B x y n t v u P Q I d r o l C h c;have a:t=.aG->(∀k:Bool,k=decide (n=.aG)->P (.bl (if i then !k else k)))->wpAny (model X.prog X.w) X.A (compareOp (if i then .IsNot else .Is) v u) (EP X j m Q) X.xe s:=λe q=>by
  cases i with
  |true=>exact Hg j s m H _ _ v u Q I r o ⟨e,c.now (q _ rfl) (rC _)⟩
  |false=>exact M0 j s m H _ _ v u Q I r o ⟨e,c.now (q _ rfl) (rC _)⟩
 cases y with
 |aG=>
  have e:=C.aG;cases x with
  |aG=>have g:=l.aG;refine a e λk f=>?_;rw[f,g];cases i<;>exact h
  |bl b=>have g:=l.bl;refine a e λk f=>?_;rw[f,g];cases i<;>exact h
  |int b=>have g:=l.int;refine a e λk f=>?_;rw[f,g];cases i<;>exact h
  |str b=>have g:=l.str;refine a e λk f=>?_;rw[f,g];cases i<;>exact h
  |lst b=>obtain⟨p,z,g,_⟩:=l.lst;refine a e λk f=>?_;rw[f,g];cases i<;>exact h
  |tup b=>obtain⟨p,z,g,_⟩:=l.tup;refine a e λk f=>?_;rw[f,g];cases i<;>exact h
  |err b=>have l:Rep X.K B H (.err b) n:=l;obtain⟨p,g,_⟩:=l;refine a e λk f=>?_;rw[f,g];cases i<;>exact h
  |_=>exact h.elim
 |_=>
  exfalso
  cases x<;>exact h
theorem Tu(n:X.A.units+64<cLine):Eb X (compareOp .Lt) Zn mS:=by
 intro a s b H B x y f e v u P Q I d k g m l h c;cases x with
 |int i=>
  cases y with
  |int j=>exact t7 (p:=λi j=>decide (i<j)) Sm a s b H B (.int i) (.int j) f e v u P Q I d k g m l h c
  |_=>exact h.elim
 |_=>exact h.elim
theorem pX{K:Frag}{A:Addr->Prop}{H:Hp}:∀{l:List Str}{vs:List V},aj K A H (l.map W.str) vs->vs=l.map V.str
 |[],_,h=>h.nil_inv
 |i::l,vs,h=>by obtain⟨x,r,rfl,b,a⟩:=h.cons_inv;rw[pX a];have:x=.str i:=b;rw[this];rfl
theorem uc(i:Str):∀l:List Str,Vk (.str i) (l.map V.str)=decide (i∈l)
 |[]=>rfl
 |x::l=>by
  have ih:=uc i l;unfold Vk at ih⊢;rw[Hn,LR,ih];show((x==i)||_)=_;by_cases e:x=i
  .rw[HI.mpr e,Bz (show i∈x::l by rw[e];exact BM)];rfl
  .rw[P3.mpr e,ZW];exact bo.mpr ⟨B1 _,λz=>(FC.mp z).resolve_left λq=>e q.symm⟩
theorem pY:∀l:List Str,(l.map V.str).all kU=true
 |[]=>rfl
 |x::l=>pY l
theorem Tv:Eb X (compareOp .In) Zo mS:=by
 intro a s b H B x y z w v u P Q I d k g t m h c;cases x with
 |str i=>
  cases t.str;cases y with
  |str j=>
   cases m.str;obtain⟨n,rfl,h⟩:=h;refine AH a s b H _ _ v u Q I k g ⟨_,j,rfl,rfl,?_⟩;rw[show tx [n]=⟨#[n]⟩from rfl,PySem.StrLaws.found_one];exact c.now h (rC _)
  |lst l=>obtain⟨f,rfl,h⟩:=h;obtain⟨p,r,rfl,q,o⟩:=m.lst;have e:=pX o;subst e;refine sG a s b H _ _ v u Q I k g ⟨p,_,rfl,.inl (.inl q.rd),rfl,pY f,?_⟩;rw[uc];exact c.now h (rC _)
  |tup l=>obtain⟨f,rfl,h⟩:=h;obtain⟨p,r,rfl,q,o⟩:=m.tup;have e:=pX o;subst e;refine sG a s b H _ _ v u Q I k g ⟨p,_,rfl,.inr q,rfl,pY f,?_⟩;rw[uc];exact c.now h (rC _)
  |_=>exact h.elim
 |_=>exact h.elim
theorem ud(a:X.A.units+64<cLine)(op:CmpOp):Eb X (compareOp op) (dJ op) mS:=by
 cases op with
 |Eq=>exact LA a false
 |NotEq=>exact LA a true
 |Lt=>exact Tu a
 |LtE=>exact t7 Sn
 |Gt=>exact t7 So
 |GtE=>exact t7 Sq
 |Is=>exact LB false
 |IsNot=>exact LB true
 |In=>exact Tv
 |_=>exact λb s e H B x y g f v u P Q I d j i l k h c=>h.elim
end
noncomputable def ER(X:Cx)(b:Hp)(R:Addr->Prop):Prop:=∃E:XK,Passes (iY X.prog X.w) X E/\(∀C a,R C->aA b a->E (.ref C) none a)/\xY X (λC a=>R C/\aA b a)
theorem Bq{X:Cx}:Passes (iY X.prog X.w) X E0:=λ_ _ _ _ _ _ _ h=>by obtain⟨_,_,_,_,_,q⟩:=h;exact q.elim
theorem ER.none{X:Cx}{a:Hp}:ER X a λ_=>False:=⟨E0,Bq,λ_ _ z=>z.elim,λ_ _ _ _ _ _ _ _ _ _ z=>z.1.elim⟩
theorem ER.up{X:Cx}{d H1:Hp}{R:Addr->Prop}(s:aA d H1)(h:ER X d R):ER X H1 R:=by obtain⟨E,p,l,k⟩:=h;exact⟨E,p,λC n i g=>l C n i (s.trans g),λb e H f m a C c I j q=>k b e H f m a C c I j ⟨q.1,s.trans q.2⟩⟩
abbrev RL:=(Addr->Prop)->Hp->Hp->W->V->Prop
abbrev WT:=Ev->(W->Prop)->Prop
noncomputable def NO(K:Frag)(m:Md):RL:=λB H a w v=>cU K B H a m w v
noncomputable def Zq(K:Frag):RL:=λB _ a w v=>bg K B a w v
noncomputable def tV(X:Cx)(M:Ms)(R:Addr->Prop)(e:RL)(t:WT):TE:=λb H Q=>∃A d c P,SR X.K M A d b H c/\ER X d R/\t c P/\∀w v a,P w->aA H a->e (FB A M b) H a w v->Q v a
noncomputable def Zr(X:Cx)(M:Ms)(R:Addr->Prop)(t:WT):TT:=λe H Q=>∃A c a P,SR X.K M A c e H a/\ER X c R/\t a P/\∀x d,P x->aA H d->∃b,x=.bl b/\Q b d
abbrev WU:=(Addr->Prop)->Hp->List W->List V->Prop
noncomputable def Zs(X:Cx)(M:Ms)(R:Addr->Prop)(g:WU)(t:Ev->(List W->Prop)->Prop):TA:=λb H Q=>∃A f c P,SR X.K M A f b H c/\ER X f R/\t c P/\∀d e a,P d->aA H a->g (FB A M b) a d e->Q e a
abbrev VE(X:Cx)(M:Ms)(R:Addr->Prop)(m:Md)(e:Expr)(t:WT):Prop:=PE X e (tV X M R (NO X.K m) t)
abbrev VB(X:Cx)(M:Ms)(R:Addr->Prop)(e:Expr)(t:WT):Prop:=PE X e (tV X M R (Zq X.K) t)
abbrev VT(X:Cx)(M:Ms)(R:Addr->Prop)(e:Expr)(t:WT):Prop:=PT X e (Zr X M R t)
noncomputable def mZ(K:Frag)(B:Addr->Prop)(H:Hp):List W->List V->Prop
 |[],vs=>vs=[]
 |w::a,vs=>∃v r,vs=v::r/\bg K B H w v/\mZ K B H a r
noncomputable def ρL(K:Frag):WU:=λB H a b=>aj K B H a b
noncomputable def WV(K:Frag):WU:=λB H a b=>mZ K B H a b
abbrev VA(X:Cx)(M:Ms)(R:Addr->Prop)(es:List Expr)(t:Ev->(List W->Prop)->Prop):Prop:=PA X es (Zs X M R (ρL X.K) t)
abbrev Rx(X:Cx)(M:Ms)(R:Addr->Prop)(es:List Expr)(t:Ev->(List W->Prop)->Prop):Prop:=PA X es (Zs X M R (WV X.K) t)
theorem PE.imp{X:Cx}{e:Expr}{t t':TE}(h:PE X e t)(k:∀a H Q,t' a H Q->t a H Q):PE X e t':=λb s a H Q I w=>h b s a H Q I (k a H Q w)
theorem PT.imp{X:Cx}{e:Expr}{t t':TT}(h:PT X e t)(k:∀a H Q,t' a H Q->t a H Q):PT X e t':=λb s a H Q I w=>h b s a H Q I (k a H Q w)
theorem PW.imp{X:Cx}{e:Expr}{t t':TT}(h:PW X e t)(k:∀a H Q,t' a H Q->t a H Q):PW X e t':=λc b s a H Q I w=>h c b s a H Q I (k a H Q w)
theorem PA.imp{X:Cx}{e:List Expr}{t t':TA}(h:PA X e t)(k:∀a H Q,t' a H Q->t a H Q):PA X e t':=λc b s a H Q I w=>h c b s a H Q I (k a H Q w)
section
variable{X:Cx}{M:Ms}{R:Addr->Prop}{e a b c:Expr}{t ta tb tc:WT}{m:Md}{pos:Pos}
theorem Br(h:VE X M R m e t):VE X M R .s e t:=PE.imp h<|by rintro l H Q ⟨A,i,d,P,S,g,p,k⟩;exact⟨A,i,d,P,S,g,p,λw v j f s r=>k w v j f s (r.s S.dom)⟩
theorem Tw(h:VE X M R m e t):VB X M R e t:=PE.imp h<|by rintro l H Q ⟨A,i,d,P,S,g,p,k⟩;exact⟨A,i,d,P,S,g,p,λw v j f s r=>k w v j f s (r.rep S.dom).b⟩
theorem Ec{i:Nat}(h:PE X e (i6 i))(r:aM M i->(i,.f)∈M):VB X M R e (λd Q=>match look d i with|some w=>Q w|none=>False):=PE.imp h<|by
 rintro x H Q ⟨A,B,d,P,S,z,p,k⟩
 revert p
 cases l:look d i with
 |none=>exact λp=>p.elim
 |some w=>
  intro p;by_cases n:aM M i
  .obtain⟨F,O⟩:=S.ow;obtain⟨v,j,g⟩:=O.val i .f w (r n) l;obtain⟨y,q,o,rfl,rfl,_,u,s⟩:=g;exact⟨_,j,k _ _ H p (aA.refl H) ⟨q,o,rfl,.inl u,s⟩⟩
  .obtain⟨v,j,g⟩:=S.sh i w n l;exact⟨v,j,k _ _ H p (aA.refl H) g.b⟩
theorem NP{i:Nat}(h:PE X e (i6 i))(g:¬aM M i):VE X M R .s e (λd Q=>match look d i with|some w=>Q w|none=>False):=PE.imp h<|by
 rintro n H Q ⟨A,q,d,P,S,o,p,k⟩
 revert p
 cases f:look d i with
 |none=>exact λp=>p.elim
 |some w=>intro p;obtain⟨v,l,j⟩:=S.sh i w g f;exact⟨v,l,k _ _ H p (aA.refl H) (.of j)⟩
noncomputable def mG(K:Frag)(i:Nat)(π:List jE):TE:=λd H Q=>∃v u,d[i]?=some (some v)/\ve K H v π u/\Q u H
theorem Ed{i:Nat}{π:List jE}{m h:Md}{K:Frag}{A:Fz}{s H:Hp}{f:St}{g:Ev}{w u:W}(S:SR K M A s f H g)(l:(i,m)∈M)(k:iT m π=some h)(n:look g i=some w)(j:bI w π=some u):
 ∃v d F,f[i]?=some (some v)/\ve K H v π d/\Fp K A.B H h u d F:=by
 obtain⟨F,O⟩:=S.ow;obtain⟨v,p,o⟩:=O.val i m w l n;obtain⟨d,z,x,y,_,r,q,_⟩:=Fp.path π m o k j;exact⟨v,d,x,p,r,q⟩
theorem vN{d:Ev}{i:Nat}{π:List jE}{Q:W->Prop}(h:match look d i with|some w=>(match bI w π with|some u=>Q u|none=>False)|none=>False):∃w u,look d i=some w/\bI w π=some u/\Q u:=by
 cases g:look d i with
 |none=>rw[g]at h;exact h.elim
 |some w=>
  rw[g]at h;dsimp only at h;cases f:bI w π with
  |none=>rw[f]at h;exact h.elim
  |some u=>rw[f]at h;exact⟨w,u,rfl,f,h⟩
theorem NQ{i:Nat}{π:List jE}{j:Md}(h:PE X e (mG X.K i π))(r:(i,j)∈M)(o:iT j π=some .f):VB X M R e (λg Q=>match look g i with|some w=>(match bI w π with|some u=>Q u|none=>False)|none=>False):=PE.imp h<|by rintro C H Q ⟨A,J,g,P,S,I,p,k⟩;obtain⟨w,u,B,z,q⟩:=vN p;obtain⟨v,E,F,y,x,d⟩:=Ed S r o B z;obtain⟨D,n,l,rfl,rfl,_,d,s⟩:=d;exact⟨v,_,y,x,k _ _ H q (aA.refl H) ⟨n,l,rfl,.inl d,s⟩⟩
theorem NR{i:Nat}{π:List jE}{f:Md}(h:PE X e (mG X.K i π))(n:(i,f)∈M)(l:iT f π=some .s):VE X M R .s e (λd Q=>match look d i with|some w=>(match bI w π with|some u=>Q u|none=>False)|none=>False):=PE.imp h<|by rintro z H Q ⟨A,C,d,P,S,B,p,k⟩;obtain⟨w,u,y,x,q⟩:=vN p;obtain⟨v,j,F,r,o,g⟩:=Ed S n l y x;dsimp only[Fp]at g;exact⟨v,j,r,o,k _ _ H q (aA.refl H) (.of g.2)⟩
theorem Bs{v:V}{w:W}(h:PE X e (tC v))(d:∀B H,Rep X.K B H w v):VE X M R .s e (λ_ Q=>Q w):=PE.imp h<|by rintro f H Q ⟨A,j,g,P,S,i,p,k⟩;exact k _ _ H p (aA.refl H) (.of (d _ _))
theorem Ef{op:Operator}(U:VB X M R a ta)(T:VB X M R b tb)(O:∀x y,Ie op x y=m\/m=.s):VE X M R m (.BinOp a op b pos) (λi Q=>ta i λx=>tb i λy=>cV op x y Q):=by
 rintro j s g H Q I ⟨A,D,i,P,S,C,p,k⟩;refine wpAny_BinOp (bin U T I (R:=λn l f=>∃x y,cV op x y P/\aA H f/\bg X.K (FB A M g) f x n/\bg X.K (FB A M g) f y l) ⟨A,D,i,_,S,C,p,λx n H1 q B J=>⟨A,D,i,_,S.same B,C,q,λy l f o s2 F=>⟨x,y,o,B.trans s2,bg.same s2 J,F⟩⟩⟩ ?_);rintro v u s2 n l f Y rv L ⟨x,y,h,sm,q,o⟩;have d:=(S.same sm).dom;refine yc op j s2 g f (FB A M g) x y n l v u P Q Y d rv L q o h ?_;have c:Cont X.K (FB A M g) f m P Q:=λw z Z N E r=>k w z Z N (sm.trans E) (r.back sm λ_ z=>z);rcases O x y with e|e
 .rw[e];exact c
 .subst e;exact Cont.s d c
end
theorem aY{x:W}{Q:Bool->Prop}(h:truth x Q):∃b,x=.bl b/\Q b:=by
 cases x with
 |bl b=>exact⟨b,rfl,h⟩
 |_=>exact h.elim
theorem Rep.j8{K:Frag}{B:Addr->Prop}{H:Hp}{b:Bool}{v:V}(h:Rep K B H (.bl b) v):v=.bl b:=by dsimp only[Rep]at h;exact h
theorem Rep.int_inv{K:Frag}{B:Addr->Prop}{H:Hp}{b:Int}{v:V}(h:Rep K B H (.int b) v):v=.int b:=by dsimp only[Rep]at h;exact h
theorem cU.aS{K:Frag}{B:Addr->Prop}{H H':Hp}{w:W}{v:V}(h:cU K B H H' .s w v):Rep K B H' w v:=by obtain⟨F,_,_,h⟩:=h;obtain⟨rfl,h⟩:=h;exact h.less λp z=>.inl z
section
variable{X:Cx}{M:Ms}{R:Addr->Prop}{e a b c:Expr}{t ta tb tc:WT}{m:Md}{pos:Pos}{rest es:List Expr}
noncomputable def NS:W->Bool
 |.lst _=>true
 |_=>false
theorem NT{op:Operator}{x y:W}{P:W->Prop}(h:cV op x y P)(d:(op=.Add/\(NS x=true\/NS y=true))\/(op=.Mult/\NS x=true)):Ie op x y=.f:=by
 rcases d with⟨rfl,d⟩|⟨rfl,d⟩
 .cases x with
  |lst l=>rfl
  |_=>
   rcases d with d|d
   .cases d
   .cases y<;>first|exact h.elim|exact ff d
 .cases x<;>first|rfl|exact ff d
theorem yd{op:Operator}{F E:RL}(ha:PE X a (tV X M R F ta))(hb:PE X b (tV X M R E tb))(h1:∀B H H' w v,Dom B H->F B H H' w v->bg X.K B H' w v)(h2:∀B H H' w v,Dom B H->E B H H' w v->bg X.K B H' w v)
 (ho:∀B H H' w v B2 g J L Y,F B H H' w v->E B2 g J L Y->(op=.Add/\(NS w=true\/NS L=true))\/(op=.Mult/\NS w=true)):VE X M R .f (.BinOp a op b pos) (λi Q=>ta i λx=>tb i λy=>cV op x y Q):=by
 rintro j s l H Q I ⟨A,U,i,P,S,T,p,k⟩;refine wpAny_BinOp (bin ha hb I (R:=λo n g=>∃x y,cV op x y P/\aA H g/\bg X.K (FB A M l) g x o/\bg X.K (FB A M l) g y n/\Ie op x y=.f) ⟨A,U,i,_,S,T,p,λx o H1 D C O=>⟨A,U,i,_,S.same C,T,D,λy n g q s2 N=>⟨x,y,q,C.trans s2,bg.same s2 (h1 _ _ _ _ _ S.dom O),h2 _ _ _ _ _ (S.same C).dom N,NT q (ho _ _ _ _ _ _ _ _ _ _ O N)⟩⟩⟩ ?_);rintro v u s2 o n g I2 rv ru ⟨x,y,h,sm,D,q,em⟩;have d:=(S.same sm).dom;refine yc op j s2 l g (FB A M l) x y o n v u P Q I2 d rv ru D q h ?_;rw[em];exact λw z H' pw Z r=>k w z H' pw (sm.trans Z) (r.back sm λ_ z=>z)
theorem NU(j:VE X M R .s a ta):VE X M R .s (.UnaryOp .USub a pos) (λd Q=>ta d λx=>match x with|.int i=>Q (.int (-i))|_=>False):=PE.imp (Sh MY j)<|by
 rintro q H Q ⟨A,o,d,P,S,l,p,k⟩;refine⟨A,o,d,_,S,l,p,λx r n f g h=>?_⟩;cases x with
 |int i=>exact⟨i,h.aS.int_inv,k _ _ n f g (.of (eK _))⟩
 |_=>exact f.elim
theorem NV(i:VE X M R .s a ta):VE X M R .s (.UnaryOp .Not a pos) (λd Q=>ta d λx=>truth x λb=>Q (.bl (!b))):=PE.imp (MJ i)<|by rintro o H Q ⟨A,n,d,P,S,j,p,k⟩;refine⟨A,n,d,_,S,j,p,λx q l f g h=>?_⟩;obtain⟨b,rfl,f⟩:=aY f;exact⟨b,h.aS.j8,k _ _ l f g (.of (rC _))⟩
theorem NW{op:CmpOp}(N:X.A.units+64<cLine)(O:behindInMarks op b=false)(U:VB X M R a ta)(T:VB X M R b tb):VE X M R .s (.Compare a [op] [b] pos) (λf Q=>ta f λx=>tb f λy=>dJ op x y Q):=by rintro g s i H Q I ⟨A,C,f,P,S,B,p,k⟩;refine wpAny_Compare1 (bin U T I (R:=λl j d=>∃x y,dJ op x y P/\aA H d/\bg X.K (FB A M i) d x l/\bg X.K (FB A M i) d y j) ⟨A,C,f,_,S,B,p,λx l H1 o q F=>⟨A,C,f,_,S.same q,B,o,λy j d n s2 E=>⟨x,y,n,q.trans s2,bg.same s2 F,E⟩⟩⟩ ?_) O;rintro v u s2 l j d Y rv J ⟨x,y,h,sm,o,n⟩;exact ud N op g s2 i d (FB A M i) x y l j v u P Q Y (S.same sm).dom rv J o n h λw z Z L D r=>k w z Z L (sm.trans D) (r.back sm λ_ z=>z)
theorem NX{op:CmpOp}(hu:X.A.units+64<cLine)(hm:behindInMarks op b=false)(ha:VB X M R a ta)(hb:VB X M R b tb):VT X M R (.Compare a [op] [b] pos) (λj Q=>ta j λx=>tb j λy=>dJ op x y Q):=by
 rintro d s i H Q I ⟨A,F,j,P,S,E,p,k⟩;have q:=bin ha hb I (R:=λn l g=>∃x y,dJ op x y P/\aA H g/\bg X.K (FB A M i) g x n/\bg X.K (FB A M i) g y l) ⟨A,F,j,_,S,E,p,λx n H1 C o N=>⟨A,F,j,_,S.same o,E,C,λy l g B s2 L=>⟨x,y,B,o.trans s2,bg.same s2 N,L⟩⟩⟩
  (f:=compareOp op) (Q:=EP X d i λz D=>∃b,z=.bl b/\Q b D)<|by rintro v u s2 n l g I2 rv O ⟨x,y,h,sm,C,B⟩;refine ud hu op d s2 i g (FB A M i) x y n l v u _ _ I2 (S.same sm).dom rv O C B h λw z D pw J r=>?_;obtain⟨b,rfl,q⟩:=k w D pw (sm.trans J);exact⟨b,r.aS.j8,q⟩
 refine wpAny_isTrue_Compare1 (bD q λv o Z=>bD Z λu s2 Y=>bD Y λc s3 ⟨z,H3,I3,T,b,ez,U⟩=>?_) hm;subst ez;cases T;exact Pt ⟨H3,I3,U⟩
theorem NY(r:VE X M R .s a ta)(p:VE X M R .s (.BoolOp .And (b::rest) pos) tb):VE X M R .s (.BoolOp .And (a::b::rest) pos) (λd Q=>ta d λx=>truth x λk=>if k=true then tb d Q else Q (.bl false)):=
 PE.imp (MI r p)<|by
  rintro w H Q ⟨A,j,d,P,S,i,h,k⟩;refine⟨A,j,d,_,S,i,h,λx C v g f n=>?_⟩;obtain⟨q,rfl,g⟩:=aY g;refine⟨q,n.aS.j8,?_⟩;cases q with
  |true=>exact⟨A,j,d,_,S.same f,i,g,λy B u o s2 l=>k _ _ u o (f.trans s2) (l.back f λ_ z=>z)⟩
  |false=>exact k _ _ v g f (.of (rC _))
theorem Tz(r:VE X M R .s a ta)(p:VE X M R .s (.BoolOp .Or (b::rest) pos) tb):VE X M R .s (.BoolOp .Or (a::b::rest) pos) (λd Q=>ta d λx=>truth x λk=>if k=true then Q (.bl true)else tb d Q):=
 PE.imp (R4 r p)<|by
  rintro w H Q ⟨A,j,d,P,S,i,h,k⟩;refine⟨A,j,d,_,S,i,h,λx C v g f n=>?_⟩;obtain⟨q,rfl,g⟩:=aY g;refine⟨q,n.aS.j8,?_⟩;cases q with
  |false=>exact⟨A,j,d,_,S.same f,i,g,λy B u o s2 l=>k _ _ u o (f.trans s2) (l.back f λ_ z=>z)⟩
  |true=>exact k _ _ v g f (.of (rC _))
abbrev LC(X:Cx)(M:Ms)(R:Addr->Prop)(e:Expr)(t:WT):Prop:=PW X e (Zr X M R t)
theorem Ih(d:VT X M R a ta):LC X M R (.BoolOp .And [a] pos) ta:=yY d
theorem NZ(d:VT X M R a ta):LC X M R (.BoolOp .Or [a] pos) ta:=CZ d
theorem N4(o:VT X M R a ta)(n:LC X M R (.BoolOp .And (b::rest) pos) tb):LC X M R (.BoolOp .And (a::b::rest) pos) (λd Q=>ta d λx=>truth x λk=>if k=true then tb d Q else Q (.bl false)):=
 PW.imp (C0 o n)<|by
  rintro s H Q ⟨A,j,d,P,S,i,h,k⟩;refine⟨A,j,d,_,S,i,h,λx r f g=>?_⟩;obtain⟨q,rfl,f⟩:=aY f;refine⟨q,rfl,?_⟩;cases q with
  |true=>exact⟨A,j,d,P,S.same g,i,f,λy p l s2=>k _ p l (g.trans s2)⟩
  |false=>obtain⟨b,e,q⟩:=k _ r f g;cases e;exact q
theorem TF(o:VT X M R a ta)(n:LC X M R (.BoolOp .Or (b::rest) pos) tb):LC X M R (.BoolOp .Or (a::b::rest) pos) (λd Q=>ta d λx=>truth x λk=>if k=true then Q (.bl true)else tb d Q):=
 PW.imp (Lg o n)<|by
  rintro s H Q ⟨A,j,d,P,S,i,h,k⟩;refine⟨A,j,d,_,S,i,h,λx r f g=>?_⟩;obtain⟨q,rfl,f⟩:=aY f;refine⟨q,rfl,?_⟩;cases q with
  |false=>exact⟨A,j,d,P,S.same g,i,f,λy p l s2=>k _ p l (g.trans s2)⟩
  |true=>obtain⟨b,e,q⟩:=k _ r f g;cases e;exact q
theorem N5(i:VT X M R a ta):VT X M R (.UnaryOp .Not a pos) (λd Q=>ta d λx=>truth x λb=>Q (.bl (!b))):=PT.imp (C1 i)<|by rintro o H Q ⟨A,n,d,P,S,j,h,k⟩;refine⟨A,n,d,_,S,j,h,λx l f g=>?_⟩;obtain⟨q,rfl,f⟩:=aY f;obtain⟨b,e,z⟩:=k _ l f g;cases e;exact⟨q,rfl,z⟩
theorem yf(he:∀d,isTrue e X.env d=(do let v<-d;standAt e.pos;holding [v] (truthy v)))(h:VE X M R .s e t):VT X M R e t:=PT.imp (CY h he)<|by rintro p H Q ⟨A,o,f,P,S,l,h,k⟩;refine⟨A,o,f,P,S,l,h,λx q n j g i=>?_⟩;obtain⟨b,rfl,z⟩:=k _ n j g;exact⟨b,i.aS.j8,z⟩
theorem Eg(r:VT X M R c tc)(u:VE X M R m a ta)(s:VE X M R m b tb):VE X M R m (.IfExp c a b pos) (λd Q=>tc d λx=>truth x λk=>if k=true then ta d Q else tb d Q):=PE.imp (C3 r u s)<|by
 rintro v H Q ⟨A,o,d,P,S,l,h,k⟩;refine⟨A,o,d,_,S,l,h,λx w g f=>?_⟩;obtain⟨q,rfl,g⟩:=aY g;refine⟨q,rfl,?_⟩;cases q with
 |true=>exact⟨A,o,d,_,S.same f,l,g,λy p n j s2 i=>k _ _ n j (f.trans s2) (i.back f λ_ z=>z)⟩
 |false=>exact⟨A,o,d,_,S.same f,l,g,λy p n j s2 i=>k _ _ n j (f.trans s2) (i.back f λ_ z=>z)⟩
theorem N6:VA X M R [] (λ_ Q=>Q []):=PA.imp bS<|by rintro d H Q ⟨A,i,f,P,S,g,h,k⟩;exact k [] [] H h (aA.refl H) .nil
theorem Ii{i:Ev->(List W->Prop)->Prop}(q:starEach (a::es) X.env=(false,eval a X.env)::starEach es X.env)(u:VE X M R .s a ta)(r:VA X M R es i):VA X M R (a::es) (λd Q=>ta d λx=>i d λg=>Q (x::g)):=
 PA.imp (aR u r q)<|by rintro w H Q ⟨A,n,d,P,S,l,h,k⟩;refine⟨A,n,d,_,S,l,h,λx y B p j o=>⟨A,n,d,_,S.same j,l,p,λg z v f s2 rs=>?_⟩⟩;exact k _ _ v f (j.trans s2) (.cons (o.aS.same s2) rs)
theorem Ij:Rx X M R [] (λ_ Q=>Q []):=PA.imp bS<|by rintro d H Q ⟨A,i,f,P,S,g,h,k⟩;exact k [] [] H h (aA.refl H) rfl
theorem Eh{i:Ev->(List W->Prop)->Prop}(s:starEach (a::es) X.env=(false,eval a X.env)::starEach es X.env)(v:VB X M R a ta)(u:Rx X M R es i):Rx X M R (a::es) (λd Q=>ta d λx=>i d λg=>Q (x::g)):=
 PA.imp (aR v u s)<|by rintro y H Q ⟨A,n,d,P,S,l,h,k⟩;refine⟨A,n,d,_,S,l,h,λx o z r j q=>⟨A,n,d,_,S.same j,l,r,λg p w f s2 rs=>?_⟩⟩;exact k _ _ w f (j.trans s2) ⟨o,p,rfl,bg.same s2 q,rs⟩
theorem N7{i:Ev->(List W->Prop)->Prop}(h:VA X M R es i):VE X M R .f (.List es pos) (λd Q=>i d λg=>g.length<=sizeLine/\Q (.lst g)):=PE.imp (xP h)<|by rintro r H Q ⟨A,q,d,P,S,o,h,k⟩;refine⟨A,q,d,_,S,o,h,λg s u l j rs=>?_⟩;refine⟨by rw[aj.len rs];exact l.1,λp n=>?_⟩;exact k _ _ _ l.2 (j.trans (aK n _)) (.fresh j n rs)
theorem N8{g:Ev->(List W->Prop)->Prop}{l:Nat}(h:VA X M R es g):VE X M R .s (.Tuple es l pos) (λd Q=>g d λf=>f.length<=sizeLine/\Q (.tup f)):=PE.imp (xO h)<|by rintro r H Q ⟨A,q,d,P,S,o,h,k⟩;refine⟨A,q,d,_,S,o,h,λf u v i n rs=>?_⟩;refine⟨by rw[aj.len rs];exact i.1,λp j=>?_⟩;exact k _ _ _ i.2 (n.trans (aK j _)) (.of (t6 aD (aj.same (aK j _) rs)))
theorem zw{K:Frag}{B:Addr->Prop}{H:Hp}{l:List W}{vs:List V}{i:Int}{w:W}(h:aj K B H l vs)(e:iS l i=some w):∃v,iS vs i=some v/\Rep K B H w v:=by
 unfold iS at e⊢;rw[h.len];cases d:Dk l.length i with
 |none=>rw[d]at e;exact nn e
 |some j=>rw[d]at e;exact h.get e
theorem bg.cX{K:Frag}{B:Addr->Prop}{H:Hp}{d:List Int}{v:V}(h:bg K B H (.cX d) v):∃p,v=.ref p/\j3 K H p (d.map V.int):=by
 have h:Rep K B H (.cX d) v:=h;obtain⟨p,e,h⟩:=h;refine⟨p,e,?_⟩;rcases h with⟨o,h⟩|h
 .exact .inl (.inr ⟨o,h⟩)
 .rcases h with(h|⟨o,h⟩)|h
  .cases h
  .cases h
  .exact .inr h
theorem zx{d:List Int}{i n:Int}(e:iS d i=some n):iS (d.map V.int) i=some (.int n):=by
 unfold iS at e⊢;rw[Fk];cases f:Dk d.length i with
 |none=>rw[f]at e;exact nn e
 |some j=>rw[f]at e;show(d.map V.int)[j]?=_;have e:d[j]?=some n:=e;rw[IH,e];rfl
theorem TH(J:kR b)(L:VB X M R a ta)(K:VE X M R .s b tb):VE X M R .s (.Subscript a b pos) (λg Q=>ta g λx=>tb g λy=>HW x y Q):=PE.imp (Dl xT L K J)<|by
 rintro N H Q ⟨A,F,g,P,S,E,h,k⟩;refine⟨A,F,g,_,S,E,h,λx T Y I j f=>⟨A,F,g,_,S.same j,E,I,λy O r d s2 q=>?_⟩⟩;have f:=bg.same s2 f;cases x with
 |lst l=>
  cases y with
  |int i=>obtain⟨p,u,rfl,o,C⟩:=f.lst;obtain⟨w,e,d⟩:=d;obtain⟨v,D,B⟩:=zw C e;exact .inl ⟨p,u,i,v,rfl,q.aS.int_inv,.inl o.rd,D,k _ _ r d (j.trans s2) (.of B)⟩
  |_=>exact d.elim
 |tup l=>
  cases y with
  |int i=>obtain⟨p,u,rfl,o,C⟩:=f.tup;obtain⟨w,e,d⟩:=d;obtain⟨v,D,B⟩:=zw C e;exact .inr (.inl ⟨p,u,i,v,rfl,q.aS.int_inv,o,D,k _ _ r d (j.trans s2) (.of B)⟩)
  |_=>exact d.elim
 |cX U=>
  cases y with
  |int i=>obtain⟨p,rfl,o⟩:=f.cX;obtain⟨n,e,d⟩:=d;exact .inl ⟨p,_,i,_,rfl,q.aS.int_inv,o,zx e,k _ _ r d (j.trans s2) (.of (eK _))⟩
  |_=>exact d.elim
 |str z=>
  cases y with
  |int i=>
   cases f.str;obtain⟨hz,n,e,d⟩:=d;exact .inr (.inr ⟨z,i,n,rfl,q.aS.int_inv,hz,e,k _ _ r d (j.trans s2) (.of (mE _))⟩)
  |_=>exact d.elim
 |_=>exact d.elim
theorem Ei{K:Frag}{B:Addr->Prop}{H:Hp}{l:List W}{vs:List V}(h:aj K B H l vs)(d f:Option Int):aj K B H (mD l d f) (vt vs d f):=by unfold mD vt;rw[h.len];exact(h.drop _).take _
noncomputable def N9(X:Cx)(M:Ms)(R:Addr->Prop)(t:Ev->(Option Int->Prop)->Prop):TO:=λh H Q=>∃A f d P,SR X.K M A f h H d/\ER X f R/\t d P/\∀o g,P o->aA H g->Q o g
theorem PO.imp{e:Option Expr}{t t':TO}(h:PO X e t)(k:∀d H Q,t' d H Q->t d H Q):PO X e t':=λf s d H Q I w=>h f s d H Q I (k d H Q w)
theorem Ik:PO X none (N9 X M R λ_ Q=>Q none):=PO.imp Hq<|by rintro d H Q ⟨A,i,f,P,S,g,h,k⟩;exact k none H h (aA.refl H)
theorem Il(l:VE X M R .s a ta):PO X (some a) (N9 X M R λd Q=>ta d λy=>match y with|.int i=>Q (some i)|_=>False):=PO.imp (Hr l)<|by
 rintro q H Q ⟨A,p,d,P,S,n,h,k⟩;refine⟨A,p,d,_,S,n,h,λx r o f g j=>?_⟩;cases x with
 |int i=>exact⟨i,j.aS.int_inv,k _ o f g⟩
 |_=>exact f.elim
theorem TJ{w y:Option Expr}{p2:Pos}{tl v:Ev->(Option Int->Prop)->Prop}(D:VB X M R a ta)(o:PO X w (N9 X M R tl))(j:PO X y (N9 X M R v)):VE X M R .f (.Subscript a (.Slice w y none p2) pos) (λd Q=>ta d λx=>tl d λl=>v d λh=>Vu x l h Q):=
 PE.imp (vq Hx D o j)<|by
  rintro F H Q ⟨A,u,d,P,S,s,h,k⟩;refine⟨A,u,d,_,S,s,h,λx J N C g n=>⟨A,u,d,_,S.same g,s,C,λl L o s2=>⟨A,u,d,_,S.same (g.trans s2),s,o,λh K j s3=>?_⟩⟩⟩;have n:=bg.same (s2.trans s3) n;cases x with
  |lst I=>obtain⟨p,z,rfl,r,E⟩:=n.lst;refine⟨p,z,rfl,.inl r.rd,λq i=>?_⟩;exact k _ _ _ j (((g.trans s2).trans s3).trans (aK i _)) (.fresh ((g.trans s2).trans s3) i (Ei E l h))
  |cX B=>obtain⟨p,rfl,r⟩:=n.cX;refine⟨p,_,rfl,r,λq i=>?_⟩;exact k _ _ _ j (((g.trans s2).trans s3).trans (aK i _)) (.fresh ((g.trans s2).trans s3) i (Ei (aj.HS B) l h))
  |_=>exact j.elim
noncomputable def TM:BI->Md
 |.list=>.f
 |_=>.s
noncomputable def fU(X:Cx)(f:Value)(b:BI):Prop:=
 ∀(d:List (Addr×Obj))(s:Shared)(g:St)(H:Hp)(B:Addr->Prop)(h:List W)(i:List V)(j:List Value)(P:KP)(Q:VK),Inv X d g H s->Dom B H->Vals i j->mZ X.K B H h i->nA b h P->Cont X.K B H (TM b) P Q->
  wpAny (model X.prog X.w) X.A (call f j) (EP X d g Q) X.xe s
noncomputable def Oa(K:Frag)(b:BI):List V->Hp->VK->Prop:=λf H Q=>∃(B:Addr->Prop)(d:List W)(P:KP),Dom B H/\mZ K B H d f/\nA b d P/\Cont K B H (TM b) P Q
theorem fU.r{f:Value}{b:BI}(h:fU X f b):bF X f (Oa X.K b):=by rintro g s i H l n Q I r ⟨B,j,P,d,p,o,k⟩;exact h g s i H B j l n P Q I d r p o k
theorem cY{K:Frag}{B:Addr->Prop}{H:Hp}{w:W}{vs:List V}(h:mZ K B H [w] vs):∃v,vs=[v]/\bg K B H w v:=by obtain⟨v,r,rfl,f,d⟩:=h;cases(show r=[]from d);exact⟨v,rfl,f⟩
theorem zy{K:Frag}{B:Addr->Prop}{H:Hp}{w w':W}{vs:List V}(h:mZ K B H [w,w'] vs):∃v d,vs=[v,d]/\bg K B H w v/\bg K B H w' d:=by obtain⟨v,r,rfl,i,g⟩:=h;obtain⟨d,rfl,f⟩:=cY g;exact⟨v,d,rfl,i,f⟩
theorem cw_len:fU X (.builtin "len") .len:=by
 intro f s k H B q u n P Q I d r o h c
 match q,h with
 |[.lst l],h=>obtain⟨v,rfl,g⟩:=cY o;obtain⟨p,i,rfl,g,j⟩:=g.lst;exact ir f s k H _ n Q I r ⟨p,i,rfl,.inl (.inl g.rd),c.now (w:=.int i.length) (by rw[j.len];exact h) (eK _)⟩
 |[.tup l],h=>obtain⟨v,rfl,g⟩:=cY o;obtain⟨p,i,rfl,g,j⟩:=g.tup;exact ir f s k H _ n Q I r ⟨p,i,rfl,.inr g,c.now (w:=.int i.length) (by rw[j.len];exact h) (eK _)⟩
 |[.cX ns],h=>obtain⟨v,rfl,g⟩:=cY o;obtain⟨p,rfl,j⟩:=g.cX;exact ir f s k H _ n Q I r ⟨p,_,rfl,.inl j,c.now (w:=.int ns.length) h (by rw[Fk];exact eK _)⟩
 |[.str z],h=>obtain⟨v,rfl,g⟩:=cY o;cases g.str;exact tS f s k H _ n Q I r ⟨z,rfl,h.1,c.now h.2 (eK _)⟩
theorem cw_abs:fU X (.builtin "abs") .abs:=by
 intro f s g H B j o k P Q I d r l h c
 match j,h with
 |[.int i],h=>obtain⟨v,rfl,n⟩:=cY l;cases n.int;exact Dd f s g H _ k Q I r ⟨i,rfl,c.now h (eK _)⟩
theorem cw_max(q:X.calm=true):fU X (.builtin "max") .max2:=by
 intro f s n H B w D o P Q I d r u h c
 match w,h with
 |[.int i,.int j],h=>obtain⟨v,E,rfl,g,k⟩:=zy u;cases g.int;cases k.int;exact AI q f s n H _ o Q I r ⟨i,j,rfl,c.now h (eK _)⟩
 |[.lst l],h=>obtain⟨x,rfl,y,h⟩:=h;obtain⟨v,rfl,g⟩:=cY u;obtain⟨p,C,rfl,g,k⟩:=g.lst;have e:=aj.ints k;subst e;exact Bj q f s n H _ o Q I r ⟨p,x,rfl,.inl g.rd,y,λm A z=>c.now (h m A z) (eK _)⟩
theorem cw_dvm:fU X (.builtin "divmod") .Vr:=by
 intro f s g H B k w l P Q I d r o h c
 match k,h with
 |[.int i,.int j],h=>obtain⟨v,x,rfl,u,p⟩:=zy o;cases u.int;cases p.int;exact vo f s g H _ l Q I r ⟨i,j,rfl,h.1,λq n=>c _ _ _ h.2 (aK n _) (.of (t6 aD (.cons (eK _) (.cons (eK _) .nil))))⟩
theorem cw_min(q:X.calm=true):fU X (.builtin "min") .min2:=by
 intro f s n H B w D o P Q I d r u h c
 match w,h with
 |[.int i,.int j],h=>obtain⟨v,E,rfl,g,k⟩:=zy u;cases g.int;cases k.int;exact AJ q f s n H _ o Q I r ⟨i,j,rfl,c.now h (eK _)⟩
 |[.lst l],h=>obtain⟨x,rfl,y,h⟩:=h;obtain⟨v,rfl,g⟩:=cY u;obtain⟨p,C,rfl,g,k⟩:=g.lst;have e:=aj.ints k;subst e;exact Bh q f s n H _ o Q I r ⟨p,x,rfl,.inl g.rd,y,λm A z=>c.now (h m A z) (eK _)⟩
theorem cw_sum(o:X.calm=true):fU X (.builtin "sum") .sum:=by
 intro f s i H B j x k P Q I d r q h c
 match j,h with
 |[.lst l],h=>obtain⟨n,rfl,h⟩:=h;obtain⟨v,rfl,g⟩:=cY q;obtain⟨p,w,rfl,g,u⟩:=g.lst;have e:=aj.ints u;subst e;exact A9 o f s i H _ k Q I r ⟨p,n,rfl,.inl g.rd,c.now h (eK _)⟩
theorem cw_all(n:X.calm=true):fU X (.builtin "all") .all:=by
 intro f s i H B j x k P Q I d r o h c
 match j,h with
 |[.lst l],h=>obtain⟨u,rfl,h⟩:=h;obtain⟨v,rfl,g⟩:=cY o;obtain⟨p,w,rfl,g,q⟩:=g.lst;have e:=aj.Zm q;subst e;exact Ba n f s i H _ k Q I r ⟨p,u,rfl,.inl g.rd,c.now h (rC _)⟩
theorem cw_any(n:X.calm=true):fU X (.builtin "any") .any:=by
 intro f s i H B j x k P Q I d r o h c
 match j,h with
 |[.lst l],h=>obtain⟨u,rfl,h⟩:=h;obtain⟨v,rfl,g⟩:=cY o;obtain⟨p,w,rfl,g,q⟩:=g.lst;have e:=aj.Zm q;subst e;exact Bl n f s i H _ k Q I r ⟨p,u,rfl,.inl g.rd,c.now h (rC _)⟩
theorem cw_list:fU X (.type "list") .list:=by
 intro f s n H B w x o P Q I d r u h c
 match w,h with
 |[.lst l],h=>obtain⟨v,rfl,g⟩:=cY u;obtain⟨p,j,rfl,g,k⟩:=g.lst;exact kW f s n H _ o Q I r ⟨p,j,rfl,.inl (.inl g.rd),λq i=>c _ _ _ h (aK i _) (.fresh (aA.refl H) i k)⟩
 |[.tup l],h=>obtain⟨v,rfl,g⟩:=cY u;obtain⟨p,j,rfl,g,k⟩:=g.tup;exact kW f s n H _ o Q I r ⟨p,j,rfl,.inr g,λq i=>c _ _ _ h (aK i _) (.fresh (aA.refl H) i k)⟩
theorem cw_int:fU X (.type "int") .int:=by
 intro f s j H B o u k P Q I d r l h c
 match o,h with
 |[.bl i],h=>obtain⟨v,rfl,g⟩:=cY l;cases g.bl;exact AK f s j H _ k Q I r (.inr ⟨i,rfl,c.now h (eK _)⟩)
 |[.str z],h=>obtain⟨v,rfl,g⟩:=cY l;cases g.str;obtain⟨n,q,p,h⟩:=h;exact Bc f s j H _ k Q I r ⟨z,n,rfl,q,p,c.now h (eK _)⟩
theorem cw_str:fU X (.type "str") .str:=by
 intro f s j H B n o k P Q I d r l h c
 match n,h with
 |[.int i],h=>obtain⟨v,rfl,g⟩:=cY l;cases g.int;exact tM f s j H _ k Q I r ⟨i,rfl,h.1,c.now h.2 (mE _)⟩
 |[.str z],h=>obtain⟨v,rfl,g⟩:=cY l;cases g.str;exact Bb f s j H _ k Q I r ⟨z,rfl,c.now h (mE _)⟩
theorem cw_tuple:fU X (.type "tuple") .tuple:=by
 intro f s k H B x y n P Q I d r u h c
 match x,h with
 |[.lst l],h=>obtain⟨v,rfl,g⟩:=cY u;obtain⟨p,i,rfl,g,j⟩:=g.lst;exact gh f s k H _ n Q I r ⟨p,i,rfl,.inl ⟨.inl g.rd,λq o=>c _ _ _ h (aK o _) (.of (t6 aD (aj.same (aK o _) j)))⟩⟩
 |[.tup l],h=>obtain⟨v,rfl,g⟩:=cY u;obtain⟨p,i,rfl,w,j⟩:=g.To;have g:jU X.K H p i:=jU.of w;exact gh f s k H _ n Q I r ⟨p,i,rfl,.inr ⟨g,c.now h (t6 w j)⟩⟩
noncomputable def vO(K:Frag):Prop:=∀a∈["NoneType","bool","int","str","list","tuple"],∀b∈["int","bool","tuple","list","str","dict"],kitOne K (.type a) (.type b)=some (Bp a b)
theorem cw_isi(O:vO X.K):bF X (.builtin "isinstance") (λvs H Q=>∃(B:Addr->Prop)(w:W)(n:String)(P:KP),n∈["int","bool","tuple","list","str","dict"]/\mZ X.K B H [w,.ty n] vs/\nA .DW [w,.ty n] P/\Cont X.K B H .s P Q):=by
 rintro k s A H vs us Q I r ⟨B,w,n,P,N,S,h,c⟩;obtain⟨v,Z,rfl,i,T⟩:=zy S;cases T.ty;obtain⟨a,d,h⟩:=h;have x:Q (.bl (Bp a n)) H:=c.now h (rC _);obtain⟨E,D,rfl,f,F⟩:=vals2 r;cases(show D=Value.type n from F);have g:∀q,q∈["NoneType","bool","int","str","list","tuple"]->a=q->kitOne X.K (.type q) (.type n)=some (Bp a n):=λq m e=>by rw[e];exact O q m n N
 have j:∀y:Tok,EP X k A Q (.bool (Bp a n)) {s with toks:=y}:=λy=>⟨.bl _,H,I.tok _,rfl,x⟩;cases w with
 |aG=>
  cases i.aG;cases d;exact gy I f .aG (g _ (by simp) rfl) j
 |bl b=>
  cases i.bl;cases d;exact gy I f (.bl b) (g _ (by simp) rfl) j
 |int b=>
  cases i.int;cases d;exact gy I f (.int b) (g _ (by simp) rfl) j
 |str b=>
  cases i.str;cases d;exact gy I f (.str b) (g _ (by simp) rfl) j
 |lst l=>obtain⟨p,C,rfl,u,J⟩:=i.lst;cases d;exact gy I f (.lst u.at) (g _ (by simp) rfl) j
 |tup l=>obtain⟨p,C,rfl,u,J⟩:=i.tup;cases d;cases(show E=Value.ref p from f);obtain⟨L,r',⟨o,Y,U,_⟩,_⟩:=I.tuple u;exact Os PySem.W.kitx_tuple I.jT ⟨o,Y,U⟩ (g _ (by simp) rfl) (λz=>nomatch z) j
 |_=>exact nn d
end
noncomputable def xu(K:Frag)(n:Nat)(m:Md)(sp:aV):Sp:=λc H Q E=>∃A a P R,a.length=n/\aj K A H a c/\Dom A H/\sp a P R/\Cont K A H m P Q/\∀C b,R C->aA H b->E (.ref C) none b
noncomputable def TN(K:Frag)(n:Nat)(h:Md)(sp:aV):Sp:=λi H Q E=>∃(b:Addr->Prop)(F:List Addr)(g:W)(f:V)(e:List W)(c:List V)(P:W->Prop)(R:Addr->Prop),i=f::c/\e.length+1=n/\F.Nodup/\(∀p∈F,¬b p)/\Dom b H/\Fp K (λp=>b p\/p∈F) H h g f F/\aj K (λp=>b p\/p∈F) H e c/\sp (g::e) P R/\
 (∀w y v d a,P (.tup [w,y])->sO (·∈F) H a->d.Nodup->(∀p∈d,p∈F\/H p=none)->Fp K (λp=>b p\/p∈d) a h y f d->Rep K (λp=>b p\/p∈d) a w v->Q v a)/\(∀C a,R C->sO (·∈F) H a->E (.ref C) none a)
noncomputable def pZ(K:Frag)(n:Nat)(m:Md)(sp:aV):Sp:=
 match m with
 |.io a=>TN K n a sp
 |m=>xu K n m sp
inductive bU(P:Program)(w:World)(K:Frag)(mg:Str->Option Value)(base:Heap):Nat->Value->Nat->Sp->Prop where
 |fn {k:Nat} {f:Addr} {fd:FuncData} {ps:List Str} {sp:Sp} (kp:keepIn K (.ref f)=true) (b:Binds K fd ps []) (F:bJ P w K mg base (iY P w) k f fd ps sp):bU P w K mg base k (.ref f) ps.length sp
 |mk {k n:Nat} {C f:Addr} {fd:FuncData} {ps:List Str} {sp Zt:Sp} (M:Mk K C f) (b:Binds K fd ps []) (F:bJ P w K mg base (iY P w) k f fd ps Zt)
  (h:∀vs H Q E,sp vs H Q E->∀x dx,H x=none->H dx=none->dx≠x->Zt (.ref x::vs) (upd (upd H dx (.own x)) x (.ins C dx [])) (λv H2=>v=.aG/\Q (.ref x) H2) E):bU P w K mg base (k+1) (.ref C) n sp
theorem bU.keep{P:Program}{w:World}{K:Frag}{b:Str->Option Value}{base:Heap}{k n:Nat}{a:Value}{sp:Sp}(c:bU P w K b base k a n sp):keepIn K a=true:=by
 cases c with
 |fn kp _ _=>exact kp
 |mk M _ _ _=>exact M.kp
theorem bU.run{X:Cx}{k n:Nat}{i:Value}{sp:Sp}{a:List (Addr×Obj)}{d:St}{H:Hp}{s:Shared}{Q:VK}{E:XK}{us:List Value}{vs:List V}(c:bU X.prog X.w X.K X.mg X.base k i n sp)(g:cC k X.A)(f:∀H s e s',Inv X a d H s->iY X.prog X.w X.stack H s E e s'->X.xe e s')(I:Inv X a d H s)(r:Vals vs us)(h:sp vs H Q E):
 wpAny (model X.prog X.w) X.A (call i us) (EP X a d Q) X.xe s:=by
 cases c with
 |fn q b F=>exact pG (ds:=[]) (AR:=[]) F g b .nil f I r (by rw[NA];exact h)
 |mk M b F l=>exact Di (ds:=[]) (AR:=[]) M F g b .nil f I r (λx p o m j=>by rw[NA];exact l vs H Q E h x p o m j)
section
variable{X:Cx}{M:Ms}{R:Addr->Prop}{e a b c:Expr}{t ta tb tc:WT}{m:Md}{pos p:Pos}{es:List Expr}{x:Str}
theorem zA{B:Ev->(List W->Prop)->Prop}{k n:Nat}{O:Value}{sp:aV}(F:bU X.prog X.w X.K X.mg X.base k O n (xu X.K n m sp))(hr:cC k X.A)(hg:Gl X x)(hm:X.mg x=some O)
 (hn:∀d P R,sp d P R->d.length=n)(ha:VA X M R (e::es) B)(u:(x==("__debug__":Str))=false)(he:starEach (e::es) X.env=(false,eval e X.env)::starEach es X.env)(q:(backTo pos (starEach es X.env)).any (·.1)=false):
 VE X M R m (.Call (.Name x p) (e::es) [] pos) (λj Q=>B j λd=>sp d Q R):=by
 rintro f s i H Q I ⟨A,H0,j,P,S,er,h,kk⟩;obtain⟨E,L,N,hR⟩:=er;refine SF (jC I hg hm ?_ u);refine Tb (h₀:=X.base) I.ok.mod.Ld F.keep (bD (ha pos f s i H (λl g=>∃d,aA H g/\aj X.K (FB A M i) g d l/\sp d P R) I ⟨A,H0,j,_,S,⟨E,L,N,hR⟩,h,λd l g hw D rs=>⟨d,D,rs,hw⟩⟩) λus D ⟨l,g,T,r,d,sm,rs,J⟩=>⟨T.jT,?_⟩) he q;exact F.run hr (L _ _) T r ⟨FB A M i,d,P,R,hn _ _ _ J,rs,(S.same sm).dom,J,λw v y Z o Y=>kk w v y Z (sm.trans o) (Y.back sm λ_ z=>z),λC y U o=>N C y U (S.sm.trans (sm.trans o))⟩
theorem Oc{l:Ev->(List W->Prop)->Prop}{bi:BI}{n:String}(E:bF X (.builtin n) (Oa X.K bi))(D:Gl X x)(C:X.mg x=none)(y:bootBuiltins x=some (.builtin n))(F:Rx X M R (e::es) l)(B:x≠"__name__")(j:(x==("__debug__":Str))=false)
 (he:starEach (e::es) X.env=(false,eval e X.env)::starEach es X.env)(i:(backTo pos (starEach es X.env)).any (·.1)=false):VE X M R (TM bi) (.Call (.Name x p) (e::es) [] pos) (λd Q=>l d λf=>nA bi f Q):=
 PE.imp (gz E D C y F B j he i)<|by rintro o H Q ⟨A,J,d,P,S,I,h,k⟩;exact⟨A,J,d,_,S,I,h,λf N O u g rs=>⟨FB A M o,f,P,(S.same g).dom,rs,u,λw v L s q r=>k w v L s (g.trans q) (r.back g λ_ z=>z)⟩⟩
theorem Od{l:Ev->(List W->Prop)->Prop}{bi:BI}{n:String}(E:bF X (.type n) (Oa X.K bi))(D:Gl X x)(C:X.mg x=none)(y:bootBuiltins x=some (.type n))(F:Rx X M R (e::es) l)(B:x≠"__name__")(j:(x==("__debug__":Str))=false)
 (he:starEach (e::es) X.env=(false,eval e X.env)::starEach es X.env)(i:(backTo pos (starEach es X.env)).any (·.1)=false):VE X M R (TM bi) (.Call (.Name x p) (e::es) [] pos) (λd Q=>l d λf=>nA bi f Q):=
 PE.imp (lZ E D C y F B j he i)<|by rintro o H Q ⟨A,J,d,P,S,I,h,k⟩;exact⟨A,J,d,_,S,I,h,λf N O u g rs=>⟨FB A M o,f,P,(S.same g).dom,rs,u,λw v L s q r=>k w v L s (g.trans q) (r.back g λ_ z=>z)⟩⟩
theorem Oe{n:String}(T:vO X.K)(i:n∈["int","bool","tuple","list","str","dict"])(U:Gl X x)(O:X.mg x=none)(L:bootBuiltins x=some (.builtin "isinstance"))(Z:VB X M R a ta)(Y:VB X M R b (λ_ Q=>Q (.ty n)))(N:x≠"__name__")(j:(x==("__debug__":Str))=false)
 (he:starEach [a,b] X.env=(false,eval a X.env)::starEach [b] X.env)(TQ:starEach [b] X.env=(false,eval b X.env)::starEach [] X.env)(g:(backTo pos (starEach [b] X.env)).any (·.1)=false):
 VE X M R .s (.Call (.Name x p) [a,b] [] pos) (λd Q=>ta d λw=>nA .DW [w,.ty n] Q):=
 PE.imp (gz (cw_isi T) U O L (aR Z (aR Y bS TQ) he) N j he g)<|by rintro y H Q ⟨A,u,d,P,S,q,h,k⟩;refine⟨A,u,d,_,S,q,h,λw v H1 J f F=>⟨A,u,d,λl=>l=.ty n,S.same f,q,rfl,λl o H2 Cu s2 E=>?_⟩⟩;subst Cu;exact⟨FB A M y,w,n,P,i,⟨v,[o],rfl,bg.same s2 F,o,[],rfl,E,rfl⟩,J,λB C H' I D r=>k B C H' I ((f.trans s2).trans D) (r.back (f.trans s2) λ_ z=>z)⟩
end
inductive Ej(K:Frag)(br:Bool)(B:Addr->Prop)(H:Hp):It->List W->Prop where
 |lst {a:Addr} {vs:List V} {ws:List W} (h:Rz H a (.lst vs)) (n:br=false->¬B a) (r:aj K B H ws vs):Ej K br B H (Wd K a) ws
 |tup {a:Addr} {vs:List V} {ws:List W} (h:jU K H a vs) (r:aj K B H ws vs):Ej K br B H (We K a) ws
 |rB (lo:Int) (n:Nat):Ej K br B H (Sd lo n) (iU lo 1 n)
 |Im (lo st:Int) (n:Nat):Ej K br B H (Vp lo st n) (iU lo st n)
structure IW(K:Frag)(B:Addr->Prop)(Hs:Hp)(J:It)(ws:List W):Prop where
 go:∀i H,aA Hs H->i<ws.length->J.go i H
 yl:∀i H x H' w,aA Hs H->ws[i]?=some w->J.Sb i H x H'->aA H H'/\∀B':Addr->Prop,(∀p o,Hs p=some o->B' p->B p)->Rep K B' H' w x
 st:∀i H,aA Hs H->i=ws.length->J.stop i H
theorem jh(a st:Int)(n:Nat):(iU a st n).length=n:=by unfold iU;simp
theorem p8{b st:Int}{n i:Nat}{w:W}(h:(iU b st n)[i]?=some w):w=.int (b+i*st)/\i<n:=by
 unfold iU at h;rw[IH]at h;by_cases a:i<n
 .rw[WI a]at h;cases h;exact⟨rfl,a⟩
 .rw[List.getElem?_eq_none (by simpa using a)]at h;cases h
theorem Ej.iw{K:Frag}{br:Bool}{B:Addr->Prop}{g:Hp}{J:It}{o:List W}(h:Ej K br B g J o):IW K B g J o:=by
 cases h with
 |@lst a c _ h n r=>
  have q:∀H,aA g H->j3 K H a c:=λH s=>.inl (VL.aA.rd s h.rd);refine⟨λi H s b=>?_,λi H x l w s d y=>?_,λi H s b=>⟨c,q H s,by rw[r.len,b];exact Bn _⟩⟩
  .have f:i<c.length:=by rw[r.len];exact b
   exact⟨c,c[i],q H s,Ee f⟩
  .obtain⟨rfl,y⟩:=y;obtain⟨v,e,j⟩:=r.get d;have:=y c (q _ s);rw[e]at this;cases this;exact⟨aA.refl _,λm k=>Rep.mv s k w j⟩
 |@tup a c _ h r=>
  have q:∀H,aA g H->jU K H a c:=λH s=>L2.aA.tup s h;refine⟨λi H s b=>?_,λi H x l w s d y=>?_,λi H s b=>⟨c,q H s,by rw[r.len,b];exact Bn _⟩⟩
  .have f:i<c.length:=by rw[r.len];exact b
   exact⟨c,c[i],q H s,Ee f⟩
  .obtain⟨rfl,y⟩:=y;obtain⟨v,e,j⟩:=r.get d;have:=y c (q _ s);rw[e]at this;cases this;exact⟨aA.refl _,λm k=>Rep.mv s k w j⟩
 |rB p n=>refine⟨λi H s b=>by rw[jh]at b;exact b,λi H x l w s d y=>?_,λi H s b=>by rw[jh]at b;exact Rh b.symm⟩;obtain⟨rfl,rfl⟩:=y;obtain⟨rfl,_⟩:=p8 d;exact⟨aA.refl _,λm _=>by rw[d3];exact eK _⟩
 |Im p t n=>refine⟨λi H s b=>by rw[jh]at b;exact b,λi H x l w s d y=>?_,λi H s b=>by rw[jh]at b;exact Rh b.symm⟩;obtain⟨rfl,rfl⟩:=y;obtain⟨rfl,_⟩:=p8 d;exact⟨aA.refl _,λm _=>eK _⟩
noncomputable def itemsOf:W->Option (List W)
 |.lst l=>some l
 |.tup l=>some l
 |_=>none
theorem sP{z:W}{Q:List W->Prop}:items z Q↔∃a,itemsOf z=some a/\Q a:=by
 cases z<;>simp[items,itemsOf]
noncomputable def Io(X:Cx)(M:Ms)(R:Addr->Prop)(br:Bool)(t:WT):TI:=λb H Q=>∃A e c P,SR X.K M A e b H c/\ER X e R/\t c P/\∀z,P z->∃d,itemsOf z=some d/\∀J a,aA H a->Ej X.K br (FB A M b) a J d->Q J a
theorem PI.imp{X:Cx}{tg e:Expr}{t t':TI}(h:PI X tg e t)(k:∀a H Q,t' a H Q->t a H Q):PI X tg e t':=λb s a H Q I w=>h b s a H Q I (k a H Q w)
section
variable{X:Cx}{M:Ms}{R:Addr->Prop}{e a b c tg:Expr}{t ta tb tc:WT}{m:Md}{pos p:Pos}{es:List Expr}{x:Str}{br:Bool}
theorem Of{l:Expr}{tl:TE}(y:PE X l tl):PI X tg l (λk H Q=>tl k H λx H1=>∃a,x=.ref a/\(((∃g,j3 X.K H1 a g)/\Q (Wd X.K a) H1)\/((∃g,jU X.K H1 a g)/\Q (We X.K a) H1))):=by
 intro i s k H Q I h;refine bD (y i s k H _ I h) ?_;rintro v d ⟨x,H1,f,u,w⟩;obtain⟨a,e,q⟩:=w;subst e;cases u;rcases q with⟨⟨g,n⟩,q⟩|⟨⟨g,n⟩,q⟩
 .obtain⟨j,rv,p,hz⟩:=f.list n;refine wpAny_pyIter_list p.isList ?_;refine⟨d.heap.objs.size,[d.heap.objs.size],_,_,H1,rfl,f.kept (t':=d.toks) λb o e=>Dx _ e,AD a _,⟨_,KE _ rfl,rfl,rfl⟩,λb r=>?_,q⟩;have e:b=d.heap.objs.size:=by simpa using r
  subst e;exact f.G7 (Bn _) (f.hok.fresh (Bn _))
 .obtain⟨j,rv,p,hz⟩:=f.tuple n;refine wpAny_pyIter_tuple (show d.heap.IsTuple a j.toArray from p) ?_;refine⟨d.heap.objs.size,[d.heap.objs.size],_,_,H1,rfl,f.kept (t':=d.toks) λb o e=>Dx _ e,xC a _,⟨_,KE _ rfl,rfl,rfl⟩,λb r=>?_,q⟩;have e:b=d.heap.objs.size:=by simpa using r
  subst e;exact f.G7 (Bn _) (f.hok.fresh (Bn _))
noncomputable def TR(K:Frag)(br:Bool):RL:=λB _ d w v=>bg K B d w v/\(br=false->Rep K B d w v)
theorem m5(h:VE X M R m e t):PE X e (tV X M R (TR X.K br) t):=PE.imp h<|by rintro l H Q ⟨A,i,d,P,S,g,p,k⟩;exact⟨A,i,d,P,S,g,p,λw v j f s r=>k w v j f s ⟨(r.rep S.dom).b,λ_=>r.rep S.dom⟩⟩
theorem TU(h:VB X M R e t):PE X e (tV X M R (TR X.K true) t):=PE.imp h<|by rintro l H Q ⟨A,i,d,P,S,g,p,k⟩;exact⟨A,i,d,P,S,g,p,λw v j f s r=>k w v j f s ⟨r,λz=>by cases z⟩⟩
theorem TR.lst{K:Frag}{B:Addr->Prop}{H H':Hp}{l:List W}{v:V}(h:TR K br B H H' (.lst l) v):∃p vs,v=.ref p/\Rz H' p (.lst vs)/\(br=false->¬B p)/\aj K B H' l vs:=by obtain⟨p,vs,rfl,f,d⟩:=h.1.lst;refine⟨p,vs,rfl,f,λe=>?_,d⟩;have:=h.2 e;obtain⟨i,_,g,n,_⟩:=this;cases g;exact n
theorem gp(r:PE X a (tV X M R (TR X.K br) ta)):PI X tg a (Io X M R br ta):=PI.imp (Of r)<|by
 rintro y H Q ⟨A,w,q,P,S,u,h,k⟩;refine⟨A,w,q,P,S,u,h,λz v o hz j n=>?_⟩;obtain⟨B,g,k⟩:=k z hz;cases z with
 |lst l=>
  cases g;obtain⟨p,f,rfl,d,i,s⟩:=n.lst;exact⟨p,rfl,.inl ⟨⟨f,.inl d.rd⟩,k _ o j (.lst d i s)⟩⟩
 |tup l=>
  cases g;obtain⟨p,f,rfl,d,i⟩:=n.1.tup;exact⟨p,rfl,.inr ⟨⟨f,d⟩,k _ o j (.tup d i)⟩⟩
 |_=>exact nn g
theorem Ip(u:Gl X "range")(q:X.mg "range"=none)(v:VE X M R .s a ta)(f:starEach [a] X.env=(false,eval a X.env)::starEach [] X.env):
 PI X tg (.Call (.Name "range" p) [a] [] pos) (Io X M R br (λd Q=>ta d λx=>HZ [x] λl=>Q (.lst l))):=
 PI.imp (AE u q (aR v bS f) f)<|by
  rintro B H Q ⟨A,z,d,P,S,w,h,k⟩;refine⟨A,z,d,_,S,w,h,λx C y hz g i=>?_⟩;cases x with
  |int j=>obtain⟨o,n,hz⟩:=hz;obtain⟨D,r,k⟩:=k _ hz;cases r;cases i.aS.int_inv;exact⟨j,rfl,o,n,k _ y g (.rB 0 j.toNat)⟩
  |_=>exact hz.elim
theorem Iq(B:Gl X "range")(w:X.mg "range"=none)(D:VE X M R .s a ta)(C:VE X M R .s b tb)(n:starEach [a,b] X.env=(false,eval a X.env)::starEach [b] X.env)(d:starEach [b] X.env=(false,eval b X.env)::starEach [] X.env):
 PI X tg (.Call (.Name "range" p) [a,b] [] pos) (Io X M R br (λf Q=>ta f λx=>tb f λy=>HZ [x,y] λl=>Q (.lst l))):=
 PI.imp (AF B w (aR D (aR C bS d) n) (by rw[n,d];rfl) d)<|by
  rintro F H Q ⟨A,q,f,P,S,o,h,k⟩;refine⟨A,q,f,_,S,o,h,λx J L hz g u=>⟨A,q,f,_,S.same g,o,hz,λy I E hz s2 r=>?_⟩⟩;cases x with
  |int i=>
   cases y with
   |int j=>obtain⟨v,hz⟩:=hz;obtain⟨K,z,k⟩:=k _ hz;cases z;cases u.aS.int_inv;cases r.aS.int_inv;exact⟨i,j,rfl,v,k _ E (g.trans s2) (.rB i (j -i).toNat)⟩
   |_=>exact hz.elim
  |_=>exact hz.elim
theorem Ir(F:Gl X "range")(D:X.mg "range"=none)(K:VE X M R .s a ta)(J:VE X M R .s b tb)(I:VE X M R .s c tc)(u:starEach [a,b,c] X.env=(false,eval a X.env)::starEach [b,c] X.env)(f:starEach [b,c] X.env=(false,eval b X.env)::starEach [c] X.env)(q:starEach [c] X.env=(false,eval c X.env)::starEach [] X.env):
 PI X tg (.Call (.Name "range" p) [a,b,c] [] pos) (Io X M R br (λd Q=>ta d λx=>tb d λy=>tc d λz=>HZ [x,y,z] λl=>Q (.lst l))):=
 PI.imp (Bg F D (aR K (aR J (aR I bS q) f) u) (by rw[u,f,q];rfl) (by rw[f,q];rfl))<|by
  rintro N H Q ⟨A,r,d,P,S,o,h,k⟩;refine⟨A,r,d,_,S,o,h,λx U H1 hz g B=>⟨A,r,d,_,S.same g,o,hz,λy T Z hz s2 w=>⟨A,r,d,_,S.same (g.trans s2),o,hz,λz O L hz s3 v=>?_⟩⟩⟩;cases x with
  |int i=>
   cases y with
   |int j=>
    cases z with
    |int l=>obtain⟨n,C,hz⟩:=hz;obtain⟨Y,E,k⟩:=k _ hz;cases E;cases B.aS.int_inv;cases w.aS.int_inv;cases v.aS.int_inv;exact⟨i,j,l,n,rfl,C,k _ L ((g.trans s2).trans s3) (.Im i l n)⟩
    |_=>exact hz.elim
   |_=>exact hz.elim
  |_=>exact hz.elim
end
noncomputable def up(M:Ms)(n:Nat):Ms:=M.map λx=>(x.1+n,x.2)
section
variable{K:Frag}{M:Ms}{A:Fz}{H0 H H1:Hp}{σ v0:St}{ε δ:Ev}
theorem mH{n i:Nat}{m:Md}:(i,m)∈up M n↔n<=i/\(i -n,m)∈M:=by
 unfold up;rw[Kb];constructor
 .rintro⟨⟨j,b⟩,a,e⟩;cases e;exact⟨Nat.le_add_left _ _,by rw[Ya];exact a⟩
 .rintro⟨h,a⟩;exact⟨(i -n,m),a,by simp;omega⟩
theorem dP{n i:Nat}:aM (up M n) i↔n<=i/\aM M (i -n):=by
 constructor
 .rintro⟨m,h⟩;exact⟨(mH.mp h).1,m,(mH.mp h).2⟩
 .rintro⟨h,m,a⟩;exact⟨m,mH.mpr ⟨h,a⟩⟩
theorem p9{n i:Nat}(c:δ.length=n)(h:n<=i):look (δ++ε) i=look ε (i -n):=by
 have e:∀w,look (δ++ε) i=some w↔look ε (i -n)=some w:=λw=>by rw[aW,aW,Gc (by lia),c]
 cases b:look ε (i -n)with
 |none=>
  cases a:look (δ++ε) i with
  |none=>rfl
  |some w=>rw[e]at a;rw[b]at a;cases a
 |some w=>exact(e w).mpr b
theorem SR.block(S:SR K M A H0 σ H ε){n:Nat}(t:v0.length=n)(s:aA H H1){D:Addr}{o:HO}(y:H D=none)(r:H1 D=some o):SR K (up M n) ⟨λq=>A.ab q\/q=D,λq=>A.B q\/q=D,none⟩ H0 (v0++σ) H1 (C8 n none++ε):=by
 obtain⟨F,O⟩:=S.ow;have hd:(C8 n (none:Option W)).length=n:=by simp
 have C:∀{i:Nat},n<=i->(v0++σ)[i]?=σ[i -n]?:=λ{i} h=>by rw[Gc (by lia),t]
 have x:∀p o,H p=some o->(A.B p\/p=D)->A.B p:=λp o e z=>by
  rcases z with z|rfl
  .exact z
  .rw[y]at e;cases e
 refine⟨by rw[AN,AN,t,hd,S.len],λi w c e=>?_,S.sm.trans s,λp z=>?_,(λv e=>by cases e),λi=>F (i -n),⟨λi m E a b=>O.un _ m E (mH.mp a).2 (mH.mp b).2,λi m w I e=>?_,λi c e=>?_,λi c=>O.nd _ (dP.mp c).2,λi j p c u a b=>?_,λi p c d=>O.nw _ p (dP.mp c).2 d,λi p c d z=>?_,λp=>?_⟩⟩
 .by_cases f:n<=i
  .rw[p9 hd f]at e;rw[C f];obtain⟨v,k,g⟩:=S.sh (i -n) w (λz=>c (dP.mpr ⟨f,z⟩)) e;exact⟨v,k,Rep.mv s x w g⟩
  .rw[aW,On (by rw[hd];lia),c0,Do (by lia)]at e;cases e
 .rcases z with z|rfl
  .exact(S.dm.same s) p z
  .exact⟨_,r⟩
 .obtain⟨f,l⟩:=mH.mp I;rw[p9 hd f]at e;rw[C f];obtain⟨v,k,g⟩:=O.val _ m w l e;exact⟨v,k,Fp.mv s x m g⟩
 .obtain⟨f,l⟩:=dP.mp c;rw[p9 hd f]at e;exact O.emp _ l e
 .have:=O.ds _ _ p (dP.mp c).2 (dP.mp u).2 a b;have:=(dP.mp c).1;have:=(dP.mp u).1;lia
 .rcases z with z|rfl
  .exact O.na _ p (dP.mp c).2 d z
  .obtain⟨o,e,_⟩:=O.has (dP.mp c).2 d;rw[y]at e;cases e
 .constructor
  .rintro(z|rfl)
   .rcases(O.all p).mp z with z|⟨i,c,d⟩
    .exact .inl (.inl z)
    .exact .inr ⟨i+n,dP.mpr ⟨by lia,by rw[Ya];exact c⟩,by rw[Ya];exact d⟩
   .exact .inl (.inr rfl)
  .rintro((z|rfl)|⟨i,c,d⟩)
   .exact .inl ((O.all p).mpr (.inl z))
   .exact .inr rfl
   .exact .inl ((O.all p).mpr (.inr ⟨i -n,(dP.mp c).2,d⟩))
end
noncomputable def TV:List Nat->Li
 |[]=>R9
 |i::a=>Lj (gx i) (TV a)
noncomputable def gT(K:Frag)(b:Bool)(a:List Nat):TG:=
 match b,a with
 |true,[i]=>gx i
 |true,_=>λ_ _ _ _=>False
 |false,a=>MM K a.length (TV a)
noncomputable def cG(a:St):List Nat->List V->St
 |i::b,v::vs=>cG (a.set i (some v)) b vs
 |_,_=>a
theorem vP:∀(b:List Nat)(vs:List V)(a:St),(cG a b vs).length=a.length
 |[],vs,a=>by rw[cG];simp
 |i::b,[],a=>by rw[cG];simp
 |i::b,v::vs,a=>by rw[cG,vP b vs,L9]
theorem vQ{n:Nat}:∀(c:List Nat)(vs:List V)(b a:St),b.length=n->(∀i∈c,i<n)->cG (b++a) c vs=cG b c vs++a
 |[],vs,b,a,_,_=>by rw[cG,cG]<;>simp
 |i::c,[],b,a,_,_=>by rw[cG,cG]<;>simp
 |i::c,v::vs,b,a,d,h=>by have hi:=h i BM;rw[cG,cG,List.set_append_left _ _ (by lia),vQ c vs _ a (by rw[L9];exact d) λj e=>h j (B1 _ e)]
section
variable{K:Frag}{M:Ms}{A:Fz}{H0 H:Hp}
theorem Ek:∀(a:List Nat)(vs:List V)(b:St)(Q:St->Hp->Prop),vs.length=a.length->Q (cG b a vs) H->TV a vs b H Q
 |[],[],b,Q,_,q=>⟨rfl,q⟩
 |[],_::_,_,_,h,_=>by cases h
 |_::_,[],_,_,h,_=>by cases h
 |i::a,v::vs,b,Q,h,q=>⟨v,vs,rfl,Ek a vs _ Q (by simpa using h) (by rw[cG]at q;exact q)⟩
theorem SR.cj:∀(a:List Nat)(c:List W)(vs:List V){b:St}{d:Ev},(∀i∈a,¬aM M i)->SR K M A H0 b H d->aj K (FB A M b) H c vs->c.length=a.length->SR K M A H0 (cG b a vs) H (cj d a c)
 |[],c,vs,b,d,_,S,_,_=>by rw[cG,VL.cj]<;>first|exact S|simp
 |i::a,[],vs,b,d,_,S,_,h=>by cases h
 |i::a,w::c,vs,b,d,e,S,r,h=>by obtain⟨v,f,rfl,m,l⟩:=r.cons_inv;rw[cG,VL.cj];have k:=e i BM;exact SR.cj a c f (λj g=>e j (B1 _ g)) (S.set k m) l (by simpa using h)
theorem tgt{c:St}{e:Ev}{b:Bool}{a:List Nat}{w:W}{v:V}{P:Ev->Prop}{Q:St->Hp->Prop}(m:∀i∈a,¬aM M i)(S:SR K M A H0 c H e)(j:Rep K (FB A M c) H w v)(h:wT b a w e P)
 (k:∀vs d,P d->SR K M A H0 (cG c a vs) H d->Q (cG c a vs) H):gT K b a v c H Q:=by
 cases b with
 |true=>
  match a,h with
  |[i],h=>
   have:=k [v] (e.set i (some w)) h (by rw[cG,cG]<;>first|exact S.set (m i BM) j|simp);rw[cG,cG]at this
   .exact this
   .simp
 |false=>
  cases w with
  |tup l=>obtain⟨f,h⟩:=h;obtain⟨p,vs,rfl,n,g⟩:=j;exact⟨p,vs,rfl,jU.of n,by rw[g.len,f],Ek a vs c Q (by rw[g.len,f]) (k vs _ h (SR.cj a l vs m S g f))⟩
  |_=>exact h.elim
end
theorem PF.imp{X:Cx}{e:List Expr}{t t':TT}(h:PF X e t)(k:∀a H Q,t' a H Q->t a H Q):PF X e t':=λb s a H Q I w=>h b s a H Q I (k a H Q w)
noncomputable def WY(K:Frag)(M:Ms)(t:WT):TE:=λb H Q=>∃A d c P,SR K M A d b H c/\t c P/\∀w v a,P w->aA H a->Rep K (FB A M b) a w v->Q v a
noncomputable def WZ(K:Frag)(M:Ms)(t:WT):TT:=λd H Q=>∃A e a P,SR K M A e d H a/\t a P/\∀x c,P x->aA H c->∃b,x=.bl b/\Q b c
section
variable{X:Cx}{M:Ms}{R:Addr->Prop}{tg iter elt:Expr}{ifs:List Expr}{scope:Scope}{xs N':List Str}{pos:Pos}{ti tc te:WT}{one:Bool}{ts:List Nat}
theorem vR(I:∀i∈ts,i<xs.length)(n:St)(H:Hp)(Q:VK)
 (hh:tV X M R (NO X.K .f) (λt Q=>ti t λz=>items z λc=>pU (λw K=>wT one ts w (C8 xs.length none++t) λa=>tc a λx=>truth x λk=>if k=true then te a λy=>K (some y)else K none) c [] λl=>Q (.lst l)) n H Q):
 DO xs.length (Io X M R true ti) (gT X.K one ts) (WZ X.K (up M xs.length) tc) (WY X.K (up M xs.length) te) n H Q:=by
 obtain⟨A,H0,t,P,S,er,h,k⟩:=hh;refine⟨A,H0,t,_,S,er,h,λz hz=>?_⟩;obtain⟨c,ez,hw⟩:=sP.mp hz;refine⟨c,ez,λJ H1 s1 it D Y=>?_⟩;have iw:=it.iw;generalize N:(λ(w:W)(K:Option W->Prop)=>wT one ts w (C8 xs.length none++t) λa=>tc a λx=>truth x λk=>if k=true then te a λy=>K (some y)else K none)=f at hw;have Zu:H D=none:=s1.free Y;refine⟨λi m g=>∃d r,m=c.length -i/\i<=c.length/\aA H1 g/\g D=some (.lst r)/\aj X.K (λq=>FB A M n q\/q=D) g d r/\pU f (c.drop i) d (λl=>P (.lst l)),
  ⟨c.length,[],[],rfl,NM _,aK Y _,aD,.nil,hw⟩,?_⟩
 rintro i m g ⟨d,r,rfl,hi,s2,Vv,E,v⟩;by_cases T:i<c.length
 .refine .inr ⟨iw.go i g s2 T,λx O y u s=>?_⟩;have hwi:c[i]?=some c[i]:=Ee T;rw[ag T]at v;generalize c[i]=w at*;obtain⟨s3,F⟩:=iw.yl i g x O w s2 hwi y;have s13:aA H O:=s1.trans (s2.trans s3);have h3D:O D=some (.lst r):=s3 _ _ Vv;have S3:SR X.K (up M xs.length) ⟨λq=>A.ab q\/q=D,λq=>A.B q\/q=D,none⟩ H0 (u++n) O (C8 xs.length none++t):=S.block s s13 Zu h3D;have hr3:Rep X.K (λq=>A.B q\/q=D) O w x:=by
   refine F _ λp o e z=>?_;rcases z with z|rfl
   .exact z
   .rw[Y]at e;cases e
  have hM:∀j∈ts,¬aM (up M xs.length) j:=λj hj z=>by have:=(dP.mp z).1;have:=I j hj;lia
  rw[pU,<-N]at v;rw[N]at v;refine tgt hM S3 hr3 v λC a hp S4=>?_;have e4:cG (u++n) ts C=cG u ts C++n:=vQ ts C u n s I;rw[e4]at S4⊢;have hv1:(cG u ts C).length=xs.length:=by rw[vP];exact s
  refine⟨cG u ts C,hv1,rfl,⟨_,H0,a,_,S4,hp,λq H5 U s5=>?_⟩⟩;obtain⟨b,rfl,U⟩:=aY U;refine⟨b,rfl,?_⟩;have Z:aA g H5:=s3.trans s5;cases b with
  |false=>exact⟨c.length -(i+1),by lia,d,r,rfl,T,s2.trans Z,Z _ _ Vv,E.same Z,U⟩
  |true=>
   refine⟨_,H0,a,_,S4.same s5,U,λy vy H6 hy s6 ry=>?_⟩;obtain⟨L,hy⟩:=hy;have W0:=Z.trans s6;have Zv:=W0 _ _ Vv;refine⟨r,Zv,by rw[E.len];exact L,c.length -(i+1),by lia,d++[y],r++[vy],rfl,T,λb o e=>?_,aD,?_,hy⟩
   .rw[ay (bx e Y)];exact W0 _ _ (s2 _ _ e)
   .have ry2:Rep X.K (λq=>A.B q\/q=D) H6 y vy:=ry;exact aj.put Zv (.inr rfl) _ ((E.same W0).app (.cons ry2 .nil))
 .have e:i=c.length:=by lia
  subst e;refine .inl ⟨iw.st _ g s2 rfl,?_⟩;rw[Y8,pU]at v;exact k _ _ g v (s1.trans s2) (.new Zu Vv (E.less λp z=>.inl z) E)
theorem Iu(s:X.calm=true)(o:dO scope X.env.scope X.N N' xs=true)(e:∀i∈ts,i<xs.length)(p:PI X tg iter (Io X M R true ti))(q:∀C b d c,PG (aU X scope C xs N' b d c) tg (gT X.K one ts))
 (r:∀C b d c,PF (aU X scope C xs N' b d c) ifs (WZ X.K (up M xs.length) tc))(he:∀C b d c,PE (aU X scope C xs N' b d c) elt (WY X.K (up M xs.length) te))(n:∀z,foldedSetIterable iter X.env z=pure z):
 VE X M R .f (.ListComp elt [⟨tg,iter,ifs,0⟩] scope pos) (λg Q=>ti g λz=>items z λm=>pU (λw K=>wT one ts w (C8 xs.length none++g) λa=>tc a λx=>truth x λk=>if k=true then te a λy=>K (some y)else K none) m [] λl=>Q (.lst l)):=
 PE.imp (HP xs N' s o p q r he n) λj H Q h=>vR e j H Q h
end
section
variable{K:Frag}{M M':Ms}{A:Fz}{H0 H H1:Hp}{σ:St}{ε:Ev}
theorem SR.rb(S:SR K M A H0 σ H ε):∃f,SR K M A f σ H ε/\aA H0 f/\aA f H/\(∀p o,H p=some o->(zm o=true/\A.B p)\/f p=some o):=by
 classical
 obtain⟨F,O⟩:=S.ow;have d:∀p o,(if(∃i,aM M i/\p∈F i)then none else H p)=some o->H p=some o:=λp o z=>by
  split at z
  .cases z
  .exact z
 refine⟨λp=>if(∃i,aM M i/\p∈F i)then none else H p,⟨S.len,S.sh,d,S.dm,S.sl,F,⟨O.un,O.val,O.emp,O.nd,O.ds,λi p c a=>Do ⟨i,c,a⟩,O.na,O.all⟩⟩,λb o z=>?_,d,λp o z=>?_⟩
 .try dsimp only
  rw[Bi]
  .exact S.sm _ _ z
  .rintro⟨i,c,e⟩;rw[O.nw i b c e]at z;cases z
 .by_cases a:∃i,aM M i/\p∈F i
  .have g:=a;obtain⟨i,c,a⟩:=a;obtain⟨j,e,h⟩:=O.has c a;rw[z]at e;cases e;exact .inl ⟨h,(O.all p).mpr (.inr g)⟩
  .exact .inr ((Bi a).trans z)
end
section
variable{K:Frag}{B A:Addr->Prop}{H Hs:Hp}
theorem Ej.low{J:It}{f:List W}(h:∀p o,H p=some o->(zm o=true/\B p)\/Hs p=some o)(d:∀p,A p->B p)(i:Ej K false B H J f):Ej K false A Hs J f:=by
 have j:∀{a:Addr}{b:List V},Rz H a (.lst b)->¬B a->Rz Hs a (.lst b):=λ{a b} r n=>by
  rcases h a _ r.at with⟨_,z⟩|z
  .exact(n z).elim
  .exact .inl z
 cases i with
 |lst q n r=>exact .lst (j q (n rfl)) (λe z=>n e (d _ z)) (aj.chg h (λp _ _ z=>d p z) _ r)
 |@tup a b _ q r=>
  refine .tup ?_ (aj.chg h (λp _ _ z=>d p z) _ r);rcases q with(q|⟨o,q⟩)|q
  .rcases h a _ q with⟨z,_⟩|z
   .cases z
   .exact .inl (.inl z)
  .rcases h a _ q with⟨z,_⟩|z
   .cases z
   .exact .inl (.inr ⟨o,z⟩)
  .exact .inr q
 |rB c n=>exact .rB c n
 |Im c g n=>exact .Im c g n
end
abbrev WS:=Dn->Ev->Prop
noncomputable def dM:Md->Bool
 |.io _=>true
 |_=>false
noncomputable def yg(K:Frag)(ab:Addr->Prop)(f:Option V)(e H':Hp)(m:Md)(w:W)(v:V):Prop:=
 match m with
 |.io g=>∃b c d a,w=.tup [b,c]/\f=some d/\a.Nodup/\(∀p∈a,e p=none/\¬ab p)/\Fp K (λp=>ab p\/p∈a) H' g c d a/\Rep K (λp=>ab p\/p∈a) H' b v
 |m=>cU K ab e H' m w v
theorem yg.of{K:Frag}{ab:Addr->Prop}{b:Option V}{a H':Hp}{m:Md}{w:W}{v:V}(c:dM m=false)(h:cU K ab a H' m w v):yg K ab b a H' m w v:=by
 cases m with
 |io _=>cases c
 |_=>exact h
theorem yg.back{K:Frag}{ab:Addr->Prop}{a:Option V}{e d H':Hp}{m:Md}{w:W}{v:V}(s:aA e d)(h:yg K ab a d H' m w v):yg K ab a e H' m w v:=by
 cases m with
 |io q=>obtain⟨f,g,i,o,n,l,k,c,j⟩:=h;exact⟨f,g,i,o,n,l,k,λp b=>⟨s.free (c p b).1,(c p b).2⟩,j⟩
 |_=>exact cU.back s (λ_ z=>z) h
structure KS(X:Cx)(M:Ms)(m:Md)(ab:Addr->Prop)(s0:Option V)(H0:Hp)(d:Dn)(D:Ends):Prop where
 nx:∀A ε σ H,A.ab=ab->A.s0=s0->d.nx ε->SR X.K M A H0 σ H ε->D.nx σ H
 rt:∀w v H',d.rt w->aA H0 H'->yg X.K ab s0 H0 H' m w v->D.rt v H'
 bk:∀A ε σ H,A.ab=ab->A.s0=s0->d.bk ε->SR X.K M A H0 σ H ε->D.bk σ H
 ct:∀A ε σ H,A.ab=ab->A.s0=s0->d.ct ε->SR X.K M A H0 σ H ε->D.ct σ H
noncomputable def sV(X:Cx)(M:Ms)(m:Md)(t:WS):TS:=λD c H=>∃A a b d,SR X.K M A a c H b/\ER X a d.ex/\A.s0.isSome=dM m/\t d b/\KS X M m A.ab A.s0 a d D
abbrev VS(X:Cx)(M:Ms)(m:Md)(st:Stmt)(t:WS):Prop:=PS X st (sV X M m t)
abbrev zB(X:Cx)(M:Ms)(m:Md)(st:List Stmt)(t:WS):Prop:=vd X st (sV X M m t)
theorem PS.imp{X:Cx}{e:Stmt}{t t':TS}(h:PS X e t)(k:∀D a H,t' D a H->t D a H):PS X e t':=λb s a H D I w=>h b s a H D I (k D a H w)
theorem vd.imp{X:Cx}{e:List Stmt}{t t':TS}(h:vd X e t)(k:∀D a H,t' D a H->t D a H):vd X e t':=λb s a H D I w=>h b s a H D I (k D a H w)
section
variable{X:Cx}{M M':Ms}{R:Addr->Prop}{m mr m0:Md}{st:Stmt}{rest:List Stmt}{t u:WS}{e e1 e2 c:Expr}{te t1 t2 tc:(Addr->Prop)->WT}{pos pos':Pos}{x:Str}{i:Nat}{π:List jE}
theorem Iv:zB X M m [] (λd a=>d.nx a):=vd.imp G4<|by rintro D b H ⟨A,g,a,d,S,f,hz,h,k⟩;exact k.nx A a b H rfl rfl h S
theorem Iw(h:VS X M m st t):zB X M m [st] t:=n8 h
theorem Em(h:VS X M m st t)(k:zB X M m rest u):zB X M m (st::rest) (λd b=>t {d with nx:=u d} b):=
 vd.imp (kO h k)<|by rintro D r H ⟨A,j,b,d,S,f,hz,h,k⟩;exact⟨A,j,b,{d with nx:=u d},S,f,hz,h,λq a l s o g n p=>⟨q,j,a,d,p,f,(by rw[g];exact hz),n,by rw[o,g];exact k⟩,k.rt,k.bk,k.ct⟩
theorem Iz{st:List Stmt}(h:zB X M' m st t)(j:∀x∈M',x∈M)(g:dM m=true->aM M 0->aM M' 0):zB X M m st (λd a=>t {d with nx:=λ_=>False,bk:=λ_=>False,ct:=λ_=>False} a):=vd.imp h<|by rintro D B H ⟨A,p,a,d,S,l,hz,h,k⟩;obtain⟨y,n,b,_,o⟩:=S.sub (M':=M') j A.s0 (λv e=>⟨e,g (by rw[<-hz,e];rfl) (S.sl v e).2⟩);refine⟨y,p,a,{d with nx:=λ_=>False,bk:=λ_=>False,ct:=λ_=>False},o,l,by rw[b];exact hz,h,λ_ _ _ _ _ _ z=>z.elim,λw v q f s r=>k.rt w v q f s ?_,λ_ _ _ _ _ _ z=>z.elim,λ_ _ _ _ _ _ z=>z.elim⟩;rw[b,n]at r;exact r
theorem Og:VS X M m (.Break pos) (λd a=>d.bk a):=PS.imp C5<|by rintro D b H ⟨A,g,a,d,S,f,hz,h,k⟩;exact k.bk A a b H rfl rfl h S
theorem IA(f:∀{l:TE},PE X e l->PS X st (oZ l (gx i)))(j:∀x,x∈M↔x=(i,m0)\/x∈M')(E:¬aM M' i)(g:dM m=true->i≠0)(he:∀R,VE X M' R m0 e (te R)):VS X M m st (λd b=>te d.ex b λw=>d.nx (b.set i (some w))):=by
 rintro a s o H D I ⟨A,U,b,d,S,K,hz,h,k⟩;have J:∀v,A.s0=some v->A.s0=some v/\aM M' 0:=λv e=>by
  refine⟨e,?_⟩;have C:dM m=true:=by rw[<-hz,e];rfl
  obtain⟨q,F⟩:=(S.sl v e).2;rcases(j _).mp F with z|z
  .cases z;exact(g C rfl).elim
  .exact⟨q,z⟩
 obtain⟨Z,N,L,hb,n⟩:=S.sub (M':=M') (λx y=>(j x).mpr (.inr y)) A.s0 J;refine f (he d.ex) a s o H D I ⟨Z,U,b,_,n,K,h,λw v T B p r=>?_⟩;obtain⟨Y,P,O,_,Q⟩:=n.own j E p r;exact k.nx Y _ _ T (P.trans N) (O.trans L) B Q
theorem Oh{f:List Nat}(g:∀{j:TE},PE X e j->PS X st (oZ j (gT X.K false f)))(z:∀i∈f,¬aM M i)(he:∀R,VE X M R .s e (te R)):
 VS X M m st (λd b=>te d.ex b λw=>match w with|.tup l=>l.length=f.length/\d.nx (cj b f l)|_=>False):=by
 rintro a s o H D I ⟨A,F,b,d,S,B,hz,h,k⟩;refine g (he d.ex) a s o H D I ⟨A,F,b,_,S,B,h,λw v E n q r=>?_⟩;cases w with
 |tup l=>exact tgt (P:=d.nx) z (S.same q) r.aS n λJ p y C=>k.nx A _ _ E rfl rfl y C
 |_=>exact n.elim
theorem Oi{a:List Nat}{es:List Expr}{ta:(Addr->Prop)->Ev->(List W->Prop)->Prop}(n:∀{o:TA},PA X es o->PS X st (λD f H=>o f H λvs H1=>vs.length=a.length/\D.nx (cG f a vs) H1))(q:∀i∈a,¬aM M i)(he:∀R,VA X M R es (ta R)):
 VS X M m st (λd g=>ta d.ex g λj=>j.length=a.length/\d.nx (cj g a j)):=by
 rintro b s f H D I ⟨A,w,g,d,S,v,hz,h,k⟩;refine n (he d.ex) b s f H D I ⟨A,w,g,_,S,v,h,λj vs H1 l p r=>?_⟩;exact⟨by rw[aj.len r,l.1],k.nx A _ _ H1 rfl rfl l.2 (SR.cj a j vs q (S.same p) r l.1)⟩
theorem jF{K:Frag}{A:Fz}{L H:Hp}{C:St}{D:Ev}{w:W}{l:List W}(S:SR K M A L C H D)(b:(i,m0)∈M)(hp:iT m0 π=some .f)(N:look D i=some w)(hu:bI w π=some (.lst l)):
 ∃v p vs,C[i]?=some (some v)/\ve K H v π (.ref p)/\H p=some (.lst vs)/\aj K A.B H l vs/\A.B p/\∀H1,aA H H1->∀(d:List W)(a:List V),aj K A.B H1 d a->
  ∃h,h.ab=A.ab/\h.s0=A.s0/\(∀q o,H1 q=some o->h.B q->A.B q)/\sO A.B H1 (upd H1 p (.lst a))/\SR K M h L C (upd H1 p (.lst a)) (D.set i (some (setAt w π (.lst d)))):=by
 obtain⟨F,O⟩:=S.ow;obtain⟨v,g,j⟩:=O.val i m0 w b N;obtain⟨v',Z,F',Y,I,r,fp,y⟩:=Fp.path π m0 j hp hu;obtain⟨ws,p,vs,e1,rfl,rfl,E,h4⟩:=fp;cases e1;have U:p∈F i:=by rw[I];simp
 have J:A.B p:=(O.all p).mpr (.inr ⟨i,⟨m0,b⟩,U⟩);refine⟨v,p,vs,g,r,E,h4,J,λH1 s d a hr=>?_⟩;have T:=S.same s;obtain⟨F0,O0⟩:=T.ow;have O1:NC K M A L C H1 D F:=⟨O.un,λi m w b e=>let⟨v,g,j⟩:=O.val i m w b e;⟨v,g,Fp.mv s (λ_ _ _ z=>z) m j⟩,O.emp,O.nd,O.ds,O.nw,O.na,O.all⟩;have Q:=s _ _ E;have P:sO A.B H1 (upd H1 p (.lst a)):=.put Q rfl J;have W4:p∉Z++Y:=by
  have:=O.nd i ⟨m0,b⟩;rw[I]at this;intro z;have g:=Pm.mp this;rcases Fh.mp z with z|z
  .have j:=Pm.mp g.1;exact j.2.2 p z p (by simp) rfl
  .exact g.2.2 p (by simp) p z rfl
 have k:Fp K A.B (upd H1 p (.lst a)) m0 (setAt w π (.lst d)) v (Z++[p]++Y):=by
  refine y (upd H1 p (.lst a)) A.B (.lst d) [p] ?_ (λq o e=>?_) (λq _ _ z=>z)
  .exact⟨d,p,a,rfl,rfl,rfl,aD,aj.chg P (λ_ _ _ z=>z) d hr⟩
  .by_cases n:q=p
   .subst n;rw[E]at e;cases e;exact .inl ⟨rfl,J,W4⟩
   .exact .inr (by rw[ay n];exact s _ _ e)
 rw[<-I]at k;have hc:∀q o,H1 q=some o->(zm o=true/\q∈F i)\/upd H1 p (.lst a) q=some o:=λq o e=>by
  by_cases n:q=p
  .subst n;rw[Q]at e;cases e;exact .inl ⟨rfl,U⟩
  .exact .inr (by rw[ay n];exact e)
 have T3:Fp K (λq=>(A.B q/\q∉F i)\/q∈F i) (upd H1 p (.lst a)) m0 (setAt w π (.lst d)) v (F i):=Fp.mv (aA.refl _) (λq _ _ z=>by
  rcases z with z|z
  .exact z.1
  .exact(O.all q).mpr (.inr ⟨i,⟨m0,b⟩,z⟩)) m0 k
 obtain⟨h,a1,a2,_,a3,a4,a5⟩:=O1.chg (F':=F i) T b N g hc (O.nd i ⟨m0,b⟩) (λq hq=>.inl hq) T3;exact⟨h,a1,a2,a3,P,a5⟩
theorem ue{a:Ev}{P:List W->Prop}(h:match look a i with|some (.lst l)=>P l|_=>False):∃l,look a i=some (.lst l)/\P l:=by
 cases b:look a i with
 |none=>rw[b]at h;exact h.elim
 |some d=>
  rw[b]at h;cases d with
  |lst l=>exact⟨l,rfl,h⟩
  |_=>exact h.elim
theorem En{b:Ev}{P:W->List W->Prop}(h:match look b i with|some a=>(match bI a π with|some (.lst l)=>P a l|_=>False)|none=>False):∃a l,look b i=some a/\bI a π=some (.lst l)/\P a l:=by
 cases f:look b i with
 |none=>rw[f]at h;exact h.elim
 |some a=>
  rw[f]at h;dsimp only at h;cases d:bI a π with
  |none=>rw[d]at h;exact h.elim
  |some u=>
   rw[d]at h;cases u with
   |lst l=>exact⟨a,l,rfl,d,h⟩
   |_=>exact h.elim
theorem Vx:iT m0 []=some m0:=by cases m0<;>rfl
theorem IC{w:W}:bI w []=some w:=by cases w<;>rfl
theorem Oj{w u:W}:setAt w [] u=u:=by cases w<;>rfl
theorem Ol(q:∀{y:TE},PE X e y->PS X st (oY (Rl X.K "list" kX (mG X.K i π) (sj y AO))))(L:(i,m0)∈M)(J:iT m0 π=some .f)(he:∀R,VE X M R .s e (te R)):
 VS X M m st (λd a=>match look a i with|some j=>(match bI j π with|some (.lst l)=>te d.ex a λw=>l.length<sizeLine/\d.nx (a.set i (some (setAt j π (.lst (l++[w])))))|_=>False)|none=>False):=by
 rintro g s E H D I ⟨A,Y,a,d,S,P,hz,h,k⟩;obtain⟨j,l,e1,e2,h⟩:=En h;obtain⟨F,p,n,O,N,C,B,hB,b⟩:=jF S L J e1 e2;refine q (he d.ex) g s E H D I ⟨F,_,O,N,.inl ⟨rfl,n,.inl (.inl C)⟩,A,Y,a,_,S,P,h,λw v U z o r=>?_⟩;obtain⟨Z,Q,a2,_,_,T⟩:=b U o (l++[w]) (n++[v]) ((B.same o).app (.cons r.aS .nil));exact⟨p,n,v,rfl,rfl,o _ _ C,by rw[B.len];exact z.1,k.nx Z _ _ _ Q a2 z.2 T⟩
theorem Om(o:∀{q:TE},PE X e q->PS X st (oY (Rl X.K "list" kX (i6 i) (sj q AO))))(F:(i,.f)∈M)(he:∀R,VE X M R .s e (te R)):
 VS X M m st (λd a=>match look a i with|some (.lst l)=>te d.ex a λw=>l.length<sizeLine/\d.nx (a.set i (some (.lst (l++[w]))))|_=>False):=by
 rintro g s E H D I ⟨A,Q,a,d,S,N,hz,h,k⟩;obtain⟨l,e1,h⟩:=ue h;obtain⟨U,p,j,L,J,B,z,Y,b⟩:=jF (π:=[]) S F Vx e1 IC;cases J;refine o (he d.ex) g s E H D I ⟨_,L,.inl ⟨rfl,j,.inl (.inl B)⟩,A,Q,a,_,S,N,h,λw v P y n r=>?_⟩;obtain⟨T,O,a2,_,_,C⟩:=b P n (l++[w]) (j++[v]) ((z.same n).app (.cons r.aS .nil));rw[Oj]at C;exact⟨p,j,v,rfl,rfl,n _ _ B,by rw[z.len];exact y.1,k.nx T _ _ _ O a2 y.2 C⟩
theorem Eo(he:∀R,VE X [] R mr e (te R))(o:mr=m\/m=.s)(j:dM m=false):VS X M m (.Return (some e) pos) (λd b=>te d.ex b d.rt):=by
 rintro a s n H D I ⟨A,q,b,d,S,p,hz,h,k⟩;refine lW (he d.ex) a s n H D I ⟨_,q,b,_,S.go,p,h,λw v l g f r=>?_⟩;rcases o with rfl|rfl
 .exact k.rt w v l g (S.sm.trans f) (.of j (r.back S.sm λ_ z=>z))
 .exact k.rt w v l g (S.sm.trans f) (.of j ((r.s S.dm).back S.sm λ_ z=>z))
theorem ID(he:∀R,VE X M R .s e (te R)):VS X M .s (.Return (some e) pos) (λd b=>te d.ex b d.rt):=by rintro a s f H D I ⟨A,o,b,d,S,l,hz,h,k⟩;refine lW (he d.ex) a s f H D I ⟨A,o,b,_,S,l,h,λw v n j g r=>?_⟩;exact k.rt w v n j (S.sm.trans g) (.of rfl (cU.back S.sm S.sub' r))
theorem IE(he:∀R,VE X M R m e (te R))(l:dM m=false):VS X M m (.Return (some e) pos) (λd b=>te d.ex b d.rt):=by rintro a s f H D I ⟨A,p,b,d,S,n,hz,h,k⟩;refine lW (he d.ex) a s f H D I ⟨A,p,b,_,S,n,h,λw v o j g r=>?_⟩;exact k.rt w v o j (S.sm.trans g) (.of l (cU.back S.sm S.sub' r))
theorem IF(he:PE X e (i6 i))(b:(i,m)∈M)(n:dM m=false):VS X M m (.Return (some e) pos) (λd f=>match look f i with|some w=>d.rt w|none=>False):=by
 rintro a s j H D I ⟨A,B,f,d,S,y,hz,h,k⟩
 try dsimp only at h
 cases g:look f i with
 |none=>rw[g]at h;exact h.elim
 |some w=>
  rw[g]at h;obtain⟨F,O⟩:=S.ow;obtain⟨v,r,o⟩:=O.val i m w b g;refine lW he a s j H D I ⟨_,r,k.rt _ _ H h S.sm (.of n ⟨F i,O.nd i ⟨m,b⟩,λp l=>O.nw i p ⟨m,b⟩ l,Fp.mv (aA.refl _) (λq _ _ z=>?_) m o⟩)⟩;rcases z with z|z
  .exact(O.all q).mpr (.inl z)
  .exact(O.all q).mpr (.inr ⟨i,⟨m,b⟩,z⟩)
theorem uf{K:Frag}{A:Fz}{n H:Hp}{o:St}{h:Ev}{g b:W}{v:V}(S:SR K M A n o H h)(a:(0,m0)∈M)(q:look h 0=some b)(f:∃d,A.s0=some d)(r:Rep K A.B H g v):yg K A.ab A.s0 n H (.io m0) (.tup [g,b]) v:=by obtain⟨d,f⟩:=f;obtain⟨F,O⟩:=S.ow;obtain⟨u,l,s⟩:=O.val 0 m0 b a q;rw[(S.sl d f).1]at l;cases l;have k:∀p,(A.ab p\/p∈F 0)->A.B p:=λp z=>(O.all p).mpr (z.imp id λz=>⟨0,⟨m0,a⟩,z⟩);exact⟨g,b,d,F 0,rfl,f,O.nd 0 ⟨m0,a⟩,λp j=>⟨O.nw 0 p ⟨m0,a⟩ j,O.na 0 p ⟨m0,a⟩ j⟩,Fp.mv (aA.refl _) (λp _ _ z=>k p z) m0 s,r.less k⟩
theorem T4{a b:List Stmt}(r:∀R,VT X M R c (tc R))(w:zB X M m a t)(v:zB X M m b u):VS X M m (.If c a b pos) (λd f=>tc d.ex f λx=>truth x λk=>if k=true then t d f else u d f):=by
 rintro g s p H D I ⟨A,n,f,d,S,l,hz,h,k⟩;refine Lh (r d.ex) w v g s p H D I ⟨A,n,f,_,S,l,h,λx y j o=>?_⟩;obtain⟨q,rfl,j⟩:=aY j;refine⟨q,rfl,?_⟩;cases q with
 |true=>exact⟨A,n,f,d,S.same o,l,hz,j,k⟩
 |false=>exact⟨A,n,f,d,S.same o,l,hz,j,k⟩
end
section
variable{X:Cx}{M:Ms}{m:Md}{body:List Stmt}{tb:WS}{c iter tg:Expr}{tc:WT}{ti:(Addr->Prop)->WT}{pos:Pos}{one:Bool}{ts:List Nat}
theorem Oo(Z:PassesOwn (model X.prog X.w) X.A X.env X.xe){tc:(Addr->Prop)->WT}(hc:∀R,VT X M R c (tc R))(hb:zB X M m body tb):VS X M m (.While c body [] pos) (λd r=>NJ (λr Q=>tc d.ex r λx=>truth x Q) tb d r):=by
 rintro u s L H D I ⟨A,y,r,d,S,E,hz,h,k⟩;refine vm Z (hc d.ex) hb u s L H D I ?_;obtain⟨J,⟨O,U⟩,t⟩:=h;refine⟨λn b f=>∃e a,e.ab=A.ab/\e.s0=A.s0/\J n a/\SR X.K M e y b f a,⟨O,A,r,rfl,rfl,U,S⟩,?_⟩;rintro n F H1 ⟨C,z,v,p,T,B⟩;refine⟨C,y,z,_,B,E,t n z T,λx H2 o s2=>?_⟩;obtain⟨q,rfl,o⟩:=aY o;refine⟨q,rfl,?_⟩;cases q with
 |true=>obtain⟨N,hN,o⟩:=o;refine⟨λb f=>∃e a,e.ab=A.ab/\e.s0=A.s0/\N a/\SR X.K M e y b f a,λb f ⟨e,a,j,a2,i,g⟩=>?_,C,y,z,⟨N,d.rt,d.nx,N,d.ex⟩,B.same s2,E,(by rw[p];exact hz),o,⟨λe a b f j a2 i g=>⟨e,a,j.trans v,a2.trans p,i,g⟩,by rw[v,p];exact k.rt,λe a b f j a2 i g=>k.nx e a b f (j.trans v) (a2.trans p) i g,λe a b f j a2 i g=>⟨e,a,j.trans v,a2.trans p,i,g⟩⟩⟩;obtain⟨P,l,Y⟩:=hN a i;exact⟨P,l,e,a,j,a2,Y,g⟩
 |false=>exact k.nx C _ _ H2 v p o (B.same s2)
theorem Oq(hc:X.calm=true)(hM:∀i∈ts,¬aM M i)(hp:PassesOwn (model X.prog X.w) X.A X.env X.xe)(hi:∀R,PI X tg iter (Io X M R false (ti R)))(hg:PG X tg (gT X.K one ts))(hb:zB X M m body tb)(hs:∀x,foldedSetIterable iter X.env x=pure x):
 VS X M m (.For tg iter body [] pos) (λd P=>ti d.ex P λz=>items z λg=>fh (λw B a=>wT one ts w a λl=>tb B l) d g P):=by
 rintro Q s σ H D I ⟨A,H0,P,d,S,er,hz,h,k⟩;refine MR hp hc (hi d.ex) hg hb hs Q s σ H D I ?_;refine⟨A,H0,P,_,S,er,h,λz hz'=>?_⟩;obtain⟨g,ez,hw⟩:=sP.mp hz';refine⟨g,ez,λJ H1 s1 it=>?_⟩;have S1:=S.same s1;obtain⟨Y,Ss,U,b1,b2⟩:=S1.rb;have low:Ej X.K false A.ab Y J g:=it.low (λp o e=>b2 p o e) λp z=>S.sub' p z;have iw:=low.iw;refine⟨λi n f r=>n=g.length -i/\i<=g.length/\∃b a,b.ab=A.ab/\b.s0=A.s0/\SR X.K M b Y f r a/\fh (λw B a=>wT one ts w a λl=>tb B l) d (g.drop i) a,⟨g.length,rfl,NM _,A,P,rfl,rfl,Ss,hw⟩,?_⟩;have up:∀{b:Fz}{f:St}{r:Hp}{a:Ev},SR X.K M b Y f r a->SR X.K M b H0 f r a:=λ{b f r a} q=>by obtain⟨F,O⟩:=q.ow;exact⟨q.len,q.sh,U.trans q.sm,q.dm,q.sl,F,⟨O.un,O.val,O.emp,O.nd,O.ds,λi p hi e=>U.free (O.nw i p hi e),O.na,O.all⟩⟩
 rintro i n σ2 H2 ⟨rfl,hi2,A2,eG,L,E,N,Z⟩;by_cases v:i<g.length
 .refine .inr ⟨iw.go i H2 N.sm v,λf r=>∃b a,b.ab=A.ab/\b.s0=A.s0/\SR X.K M b Y f r a/\fh (λw B a=>wT one ts w a λl=>tb B l) d (g.drop (i+1)) a,by rintro f r ⟨b,a,C,a2,u,t⟩;exact⟨g.length -(i+1),by omega,rfl,v,b,a,C,a2,u,t⟩,λx H3 y=>?_⟩;have hwi:g[i]?=some g[i]:=Ee v;rw[ag v,fh]at Z;generalize g[i]=w at*;obtain⟨s3,T⟩:=iw.yl i H2 x H3 w N.sm hwi y;have hr:Rep X.K (FB A2 M σ2) H3 w x:=T _ λp o e z=>by
   obtain⟨F,O⟩:=N.ow;rcases(O.all p).mp z with z|⟨j,hj,e2⟩
   .rw[L]at z;exact z
   .rw[O.nw j p hj e2]at e;cases e
  refine tgt hM (N.same s3) hr Z λvs a hp S4=>?_;exact⟨A2,Y,a,⟨fh (λw B a=>wT one ts w a λl=>tb B l) d (g.drop (i+1)),d.rt,d.nx,fh (λw B a=>wT one ts w a λl=>tb B l) d (g.drop (i+1)),d.ex⟩,S4,er.up U,(by rw[E];exact hz),hp,⟨λb l T5 Zw C a2 u t=>⟨b,l,C.trans L,a2.trans E,t,u⟩,λw' v' r u t q3=>k.rt w' v' r u (U.trans t) (by rw[L,E]at q3;exact q3.back U),λb l T5 Zw C a2 u t=>k.nx b _ _ _ (C.trans L) (a2.trans E) u (up t),λb l T5 Zw C a2 u t=>⟨b,l,C.trans L,a2.trans E,t,u⟩⟩⟩
 .have e:i=g.length:=by omega
  subst e;refine .inl ⟨iw.st _ H2 N.sm rfl,?_⟩;rw[Y8,fh]at Z;exact k.nx A2 _ _ _ L E Z (up N)
end
structure Go(A:Fz)(H:Hp)(A':Fz)(H':Hp):Prop where
 ab:A'.ab=A.ab
 s0:A'.s0=A.s0
 B:∀p o,H p=some o->A'.B p->A.B p
 ch:sO A.B H H'
theorem Go.same{A:Fz}{H H':Hp}(s:aA H H'):Go A H A H':=⟨rfl,rfl,λ_ _ _ z=>z,.same s⟩
theorem Go.trans{A c b:Fz}{H H1 a:Hp}(g:Go A H c H1)(k:Go c H1 b a):Go A H b a:=by
 refine⟨k.ab.trans g.ab,k.s0.trans g.s0,λp o e z=>?_,λp o e=>?_⟩
 .rcases g.ch p o e with⟨_,y⟩|y
  .exact y
  .exact g.B p o e (k.B p o y z)
 .rcases g.ch p o e with y|y
  .exact .inl y
  .rcases k.ch p o y with⟨f,d⟩|h
   .exact .inl ⟨f,g.B p o e d⟩
   .exact .inr h
theorem Go.rep{K:Frag}{A a:Fz}{H H1:Hp}{w:W}{v:V}(g:Go A H a H1)(h:Rep K A.B H w v):Rep K a.B H1 w v:=Rep.chg g.ch g.B w h
theorem Go.W5{K:Frag}{A a:Fz}{H H1:Hp}{w:List W}{v:List V}(g:Go A H a H1)(h:aj K A.B H w v):aj K a.B H1 w v:=aj.chg g.ch g.B w h
abbrev vS:=Ev->(W->Ev->Prop)->Prop
abbrev LD:=Ev->(List W->Ev->Prop)->Prop
noncomputable def tP(X:Cx)(M:Ms)(R:Addr->Prop)(t:vS):TE:=λe H Q=>∃A c f P,SR X.K M A c e H f/\ER X c R/\t f P/\∀d w v b a,P w a->Go A H d b->SR X.K M d c e b a->Rep X.K d.B b w v->Q v b
noncomputable def Zx(X:Cx)(M:Ms)(R:Addr->Prop)(t:vS):TT:=λe H Q=>∃A c f P,SR X.K M A c e H f/\ER X c R/\t f P/\∀g x d a,P x a->Go A H g d->SR X.K M g c e d a->∃b,x=.bl b/\Q b d
noncomputable def tPA(X:Cx)(M:Ms)(R:Addr->Prop)(t:LD):TA:=λe H Q=>∃A c f P,SR X.K M A c e H f/\ER X c R/\t f P/\∀d g h b a,P g a->Go A H d b->SR X.K M d c e b a->aj X.K d.B b g h->Q h b
abbrev VP(X:Cx)(M:Ms)(R:Addr->Prop)(e:Expr)(t:vS):Prop:=PE X e (tP X M R t)
abbrev zC(X:Cx)(M:Ms)(R:Addr->Prop)(e:Expr)(t:vS):Prop:=PT X e (Zx X M R t)
abbrev LF(X:Cx)(M:Ms)(R:Addr->Prop)(e:Expr)(t:vS):Prop:=PW X e (Zx X M R t)
abbrev Ep(X:Cx)(M:Ms)(R:Addr->Prop)(es:List Expr)(t:LD):Prop:=PA X es (tPA X M R t)
section
variable{X:Cx}{M:Ms}{R:Addr->Prop}{m m0:Md}{e a b c:Expr}{es rest:List Expr}{t ta tb:vS}{tl:LD}{pos apos cpos p:Pos}{i j:Nat}{st:Stmt}{x:Str}{π:List jE}
theorem T6{t:WT}(h:VE X M R .s e t):VP X M R e (λd Q=>t d λw=>Q w d):=PE.imp h<|by rintro o H Q ⟨A,l,d,P,S,g,h,k⟩;exact⟨A,l,d,_,S,g,h,λw v n f s r=>k A w v n d f (.same s) (S.same s) r.aS⟩
theorem Ot{t:WT}(h:VT X M R e t):zC X M R e (λd Q=>t d λw=>Q w d):=PT.imp h<|by rintro o H Q ⟨A,l,d,P,S,g,h,k⟩;exact⟨A,l,d,_,S,g,h,λw n f s=>k A w n d f (.same s) (S.same s)⟩
theorem Ou(E:(i,.f)∈M)(C:PE X e (i6 i))(n:attributeBase e "pop" X.env (eval e X.env)=eval e X.env)(d:(apos.endLine==cpos.line)=true):
 VP X M R (.Call (.Attribute e "pop" apos) [] [] cpos) (λs Q=>match look s i with|some (.lst l)=>∃w,l[l.length -1]?=some w/\Q w (s.set i (some (.lst l.dropLast)))|_=>False):=
 PE.imp (M8 Pi PySem.F.slot_list_pop PySem.F.type_list_pop Na C n d)<|by rintro U H Q ⟨A,H0,s,P,S,er,h,k⟩;obtain⟨l,N,w,L,h⟩:=ue h;obtain⟨Y,q,r,J,I,y,u,Z,o⟩:=jF (π:=[]) S E Vx N IC;cases I;obtain⟨v,K,D⟩:=u.get L;obtain⟨B,T,a2,a3,O,z⟩:=o H (aA.refl H) l.dropLast r.dropLast u.dropLast;rw[Oj]at z;have g:Go A H B (upd H q (.lst r.dropLast)):=⟨T,a2,a3,O⟩;exact⟨_,J,.inl ⟨rfl,r,.inl (.inl y)⟩,q,r,v,rfl,rfl,y,by rw[u.len];exact K,k B w v _ _ h g z (g.rep D)⟩
theorem Ov{op:Operator}(ha:VP X M R a ta)(hb:VP X M R b tb):VP X M R (.BinOp a op b pos) (λD Q=>ta D λx J=>tb J λy f=>cV op x y λz=>Q z f):=by rintro n s N H Q I ⟨A,L,D,P,S,U,p,k⟩;refine wpAny_BinOp (bin ha hb I (R:=λC q l=>∃x y d f,cV op x y (λz=>P z f)/\Go A H d l/\SR X.K M d L N l f/\Rep X.K d.B l x C/\Rep X.K d.B l y q) ⟨A,L,D,_,S,U,p,λA1 x C H1 J F g1 S1 Z=>⟨A1,L,J,_,S1,U,F,λd y q l f E T o Y=>⟨x,y,d,f,E,g1.trans T,o,T.rep Z,Y⟩⟩⟩ ?_);rintro v u s2 C q l I2 rv ru ⟨x,y,d,f,h,g,o,F,E⟩;exact yc op n s2 N l d.B x y C q v u _ Q I2 o.dom rv ru F.b E.b h λw z H' pw O r=>k d w z H' f pw (g.trans (.same O)) (o.same O) (r.rep o.dom)
theorem Ow{op:CmpOp}(hu:X.A.units+64<cLine)(hm:behindInMarks op b=false)(ha:VP X M R a ta)(hb:VP X M R b tb):VP X M R (.Compare a [op] [b] pos) (λD Q=>ta D λx J=>tb J λy f=>dJ op x y λz=>Q z f):=by rintro n s N H Q I ⟨A,L,D,P,S,U,p,k⟩;refine wpAny_Compare1 (bin ha hb I (R:=λC q l=>∃x y d f,dJ op x y (λz=>P z f)/\Go A H d l/\SR X.K M d L N l f/\Rep X.K d.B l x C/\Rep X.K d.B l y q) ⟨A,L,D,_,S,U,p,λA1 x C H1 J F g1 S1 Z=>⟨A1,L,J,_,S1,U,F,λd y q l f E T o Y=>⟨x,y,d,f,E,g1.trans T,o,T.rep Z,Y⟩⟩⟩ ?_) hm;rintro v u s2 C q l I2 rv ru ⟨x,y,d,f,h,g,o,F,E⟩;exact ud hu op n s2 N l d.B x y C q v u _ Q I2 o.dom rv ru F.b E.b h λw z H' pw O r=>k d w z H' f pw (g.trans (.same O)) (o.same O) (r.rep o.dom)
theorem IG{op:CmpOp}(hu:X.A.units+64<cLine)(hm:behindInMarks op b=false)(ha:VP X M R a ta)(hb:VP X M R b tb):zC X M R (.Compare a [op] [b] pos) (λJ Q=>ta J λx O=>tb O λy n=>dJ op x y λz=>Q z n):=by
 rintro l s F H Q I ⟨A,T,J,P,S,er,p,k⟩;have q:=bin ha hb I (R:=λD C o=>∃x y d n,dJ op x y (λz=>P z n)/\Go A H d o/\SR X.K M d T F o n/\Rep X.K d.B o x D/\Rep X.K d.B o y C) ⟨A,T,J,_,S,er,p,λA1 x D H1 O N g1 S1 rx=>⟨A1,T,O,_,S1,er,N,λd y C o n L Z E ry=>⟨x,y,d,n,L,g1.trans Z,E,Z.rep rx,ry⟩⟩⟩
  (f:=compareOp op) (Q:=EP X l F λz U=>∃b,z=.bl b/\Q b U)<|by rintro v u s2 D C o I2 rv ru ⟨x,y,d,n,h,g,E,N,L⟩;refine ud hu op l s2 F o d.B x y D C v u _ _ I2 E.dom rv ru N.b L.b h λw z U pw Y r=>?_;obtain⟨b,rfl,q⟩:=k d w U n pw (g.trans (.same Y)) (E.same Y);exact⟨b,r.aS.j8,q⟩
 refine wpAny_isTrue_Compare1 (bD q λv s1 q1=>bD q1 λu s2 q2=>bD q2 λc s3 ⟨z,H3,I3,r3,b,ez,q3⟩=>?_) hm;subst ez;cases r3;exact Pt ⟨H3,I3,q3⟩
theorem zD(he:∀d,isTrue e X.env d=(do let v<-d;standAt e.pos;holding [v] (truthy v)))(h:VP X M R e t):zC X M R e t:=PT.imp (CY h he)<|by rintro y H Q ⟨A,u,f,P,S,o,h,k⟩;refine⟨A,u,f,P,S,o,h,λw x B s q l n r g=>?_⟩;obtain⟨b,rfl,z⟩:=k w _ s q l n r;exact⟨b,g.j8,z⟩
theorem Er(d:zC X M R a ta):LF X M R (.BoolOp .And [a] pos) ta:=yY d
theorem II(z:zC X M R a ta)(w:LF X M R (.BoolOp .And (b::rest) pos) tb):LF X M R (.BoolOp .And (a::b::rest) pos) (λg Q=>ta g λx d=>truth x λk=>if k=true then tb d Q else Q (.bl false) d):=
 PW.imp (C0 z w)<|by
  rintro J H Q ⟨A,s,g,P,S,n,h,k⟩;refine⟨A,s,g,_,S,n,h,λu x F o f l r=>?_⟩;obtain⟨q,rfl,f⟩:=aY f;refine⟨q,rfl,?_⟩;cases q with
  |true=>exact⟨u,s,o,P,r,n,f,λI y E C v B D=>k I _ E C v (l.trans B) D⟩
  |false=>obtain⟨b,e,q⟩:=k u _ F o f l r;cases e;exact q
theorem IJ(d:zC X M R a ta):LF X M R (.BoolOp .Or [a] pos) ta:=CZ d
theorem Ox(z:zC X M R a ta)(w:LF X M R (.BoolOp .Or (b::rest) pos) tb):LF X M R (.BoolOp .Or (a::b::rest) pos) (λg Q=>ta g λx d=>truth x λk=>if k=true then Q (.bl true) d else tb d Q):=
 PW.imp (Lg z w)<|by
  rintro J H Q ⟨A,s,g,P,S,n,h,k⟩;refine⟨A,s,g,_,S,n,h,λu x F o f l r=>?_⟩;obtain⟨q,rfl,f⟩:=aY f;refine⟨q,rfl,?_⟩;cases q with
  |false=>exact⟨u,s,o,P,r,n,f,λI y E C v B D=>k I _ E C v (l.trans B) D⟩
  |true=>obtain⟨b,e,q⟩:=k u _ F o f l r;cases e;exact q
theorem IK:Ep X M R [] (λd Q=>Q [] d):=PA.imp bS<|by rintro f H Q ⟨A,l,d,P,S,g,h,k⟩;exact k A [] [] H d h (.same (aA.refl H)) S .nil
theorem Es(v:starEach (a::es) X.env=(false,eval a X.env)::starEach es X.env)(y:VP X M R a ta)(w:Ep X M R es tl):Ep X M R (a::es) (λd Q=>ta d λx l=>tl l λn g=>Q (x::n) g):=
 PA.imp (aR y w v)<|by rintro I H Q ⟨A,r,d,P,S,q,h,k⟩;refine⟨A,r,d,_,S,q,h,λF x J L l u z C s=>⟨F,r,l,_,C,q,u,λE n K D g f o B rs=>?_⟩⟩;exact k E _ _ D g f (z.trans o) B (.cons (o.rep s) rs)
theorem T7(T:kR b)(Y:VP X M R a ta)(U:VP X M R b tb):VP X M R (.Subscript a b pos) (λD Q=>ta D λx K=>tb K λy g=>HW x y λz=>Q z g):=PE.imp (Dl xT Y U T)<|by
 rintro σ H Q ⟨A,N,D,P,S,L,h,k⟩;refine⟨A,N,D,_,S,L,h,λA1 x vx H1 K O s Z f=>⟨A1,N,K,_,Z,L,O,λC y vy B g d q u r=>?_⟩⟩;have f:=(q.rep f).b;cases x with
 |lst l=>
  cases y with
  |int i=>obtain⟨p,E,rfl,o,I⟩:=f.lst;obtain⟨w,e,d⟩:=d;obtain⟨v,J,F⟩:=zw I e;exact .inl ⟨p,E,i,v,rfl,r.int_inv,.inl o.rd,J,k C _ _ B g d (s.trans q) u F⟩
  |_=>exact d.elim
 |tup l=>
  cases y with
  |int i=>obtain⟨p,E,rfl,o,I⟩:=f.tup;obtain⟨w,e,d⟩:=d;obtain⟨v,J,F⟩:=zw I e;exact .inr (.inl ⟨p,E,i,v,rfl,r.int_inv,o,J,k C _ _ B g d (s.trans q) u F⟩)
  |_=>exact d.elim
 |cX ns=>
  cases y with
  |int i=>obtain⟨p,rfl,o⟩:=f.cX;obtain⟨n,e,d⟩:=d;exact .inl ⟨p,_,i,_,rfl,r.int_inv,o,zx e,k C _ _ B g d (s.trans q) u (eK _)⟩
  |_=>exact d.elim
 |str z=>
  cases y with
  |int i=>
   cases f.str;obtain⟨hz,n,e,d⟩:=d;exact .inr (.inr ⟨z,i,n,rfl,r.int_inv,hz,e,k C _ _ B g d (s.trans q) u (mE _)⟩)
  |_=>exact d.elim
 |_=>exact d.elim
theorem aj.bl{K:Frag}{B:Addr->Prop}{H:Hp}:∀{d:List W}{vs:List V},aj K B H d vs->mZ K B H d vs
 |[],_,h=>h.nil_inv
 |w::d,_,h=>by obtain⟨v,r,rfl,g,f⟩:=h.cons_inv;exact⟨v,r,rfl,g.b,f.bl⟩
theorem Oz{bi:BI}{s:String}(J:bF X (.builtin s) (Oa X.K bi))(I:Gl X x)(F:X.mg x=none)(D:bootBuiltins x=some (.builtin s))(L:Ep X M R (e::es) tl)(E:x≠"__name__")(n:(x==("__debug__":Str))=false)
 (he:starEach (e::es) X.env=(false,eval e X.env)::starEach es X.env)(l:(backTo pos (starEach es X.env)).any (·.1)=false):VP X M R (.Call (.Name x p) (e::es) [] pos) (λf Q=>tl f λg d=>nA bi g λw=>Q w d):=
 PE.imp (gz J I F D L E n he l)<|by rintro Y H Q ⟨A,T,f,P,S,O,h,k⟩;exact⟨A,T,f,_,S,O,h,λy g Z H1 u C N o rs=>⟨y.B,g,λw=>P w u,o.dom,rs.bl,C,λw v U z q r=>k y w v U u z (N.trans (.same q)) (o.same q) (r.rep o.dom)⟩⟩
theorem OA{bi:BI}{s:String}(J:bF X (.type s) (Oa X.K bi))(I:Gl X x)(F:X.mg x=none)(D:bootBuiltins x=some (.type s))(L:Ep X M R (e::es) tl)(E:x≠"__name__")(n:(x==("__debug__":Str))=false)
 (he:starEach (e::es) X.env=(false,eval e X.env)::starEach es X.env)(l:(backTo pos (starEach es X.env)).any (·.1)=false):VP X M R (.Call (.Name x p) (e::es) [] pos) (λf Q=>tl f λg d=>nA bi g λw=>Q w d):=
 PE.imp (lZ J I F D L E n he l)<|by rintro Y H Q ⟨A,T,f,P,S,O,h,k⟩;exact⟨A,T,f,_,S,O,h,λy g Z H1 u C N o rs=>⟨y.B,g,λw=>P w u,o.dom,rs.bl,C,λw v U z q r=>k y w v U u z (N.trans (.same q)) (o.same q) (r.rep o.dom)⟩⟩
theorem IL(o:∀{q:TE},PE X e q->PS X st (oZ q (gx j)))(z:¬aM M j){tt:(Addr->Prop)->vS}(he:∀R,VP X M R e (tt R)):VS X M m st (λd n=>tt d.ex n λw f=>d.nx (f.set j (some w))):=by rintro l s u H D I ⟨A,F,n,d,S,B,hz,h,k⟩;exact o (he d.ex) l s u H D I ⟨A,F,n,_,S,B,h,λJ w v E f y g C r=>k.nx J _ _ E g.ab g.s0 y (C.set z r)⟩
theorem IM{tt:(Addr->Prop)->vS}(o:∀R,PS X st (oY (tP X M R (tt R)))):VS X M m st (λd n=>tt d.ex n λw f=>d.nx f):=by rintro l s q H D I ⟨A,C,n,d,S,y,hz,h,k⟩;exact o d.ex l s q H D I ⟨A,C,n,_,S,y,h,λE w v B f u g z r=>k.nx E _ _ B g.ab g.s0 u z⟩
theorem Et{x y:List Stmt}{tx v:WS}{tt:(Addr->Prop)->vS}(E:∀R,zC X M R c (tt R))(J:zB X M m x tx)(F:zB X M m y v):VS X M m (.If c x y pos) (λd o=>tt d.ex o λx f=>truth x λk=>if k=true then tx d f else v d f):=by
 rintro l s C H D I ⟨A,u,o,d,S,r,hz,h,k⟩;refine Lh (E d.ex) J F l s C H D I ⟨A,u,o,_,S,r,h,λB x K w n g z=>?_⟩;obtain⟨q,rfl,n⟩:=aY n;refine⟨q,rfl,?_⟩;cases q with
 |true=>exact⟨B,u,w,d,z,r,(by rw[g.s0];exact hz),n,by rw[g.ab,g.s0];exact k⟩
 |false=>exact⟨B,u,w,d,z,r,(by rw[g.s0];exact hz),n,by rw[g.ab,g.s0];exact k⟩
theorem OB{v:List Stmt}{tb:WS}{tt:(Addr->Prop)->vS}(hp:PassesOwn (model X.prog X.w) X.A X.env X.xe)(hc:∀R,zC X M R c (tt R))(hb:zB X M m v tb):VS X M m (.While c v [] pos) (λd L=>Tn (λL Q=>tt d.ex L λx f=>truth x λk=>Q k f) tb d L):=by
 rintro P s σ H D I ⟨A,T,L,d,S,U,hz,h,k⟩;refine vm hp (hc d.ex) hb P s σ H D I ?_;obtain⟨J,⟨m0,j0⟩,O⟩:=h;refine⟨λn o y=>∃r f,r.ab=A.ab/\r.s0=A.s0/\J n f/\SR X.K M r T o y f,⟨m0,A,L,rfl,rfl,j0,S⟩,?_⟩;rintro n σ1 H1 ⟨A1,Y,C,u,j1,S1⟩;refine⟨A1,T,Y,_,S1,U,O n Y j1,λA2 x H2 eG F g Z=>?_⟩;obtain⟨q,rfl,F⟩:=aY F;refine⟨q,rfl,?_⟩;have C:=g.ab.trans C;have u:=g.s0.trans u;cases q with
 |true=>obtain⟨N,hN,F⟩:=F;refine⟨λo y=>∃r f,r.ab=A.ab/\r.s0=A.s0/\N f/\SR X.K M r T o y f,λo y ⟨r,f,E,a2,B,z⟩=>?_,A2,T,eG,⟨N,d.rt,d.nx,N,d.ex⟩,Z,U,(by rw[u];exact hz),F,⟨λr f o y E a2 B z=>⟨r,f,E.trans C,a2.trans u,B,z⟩,by rw[C,u];exact k.rt,λr f o y E a2 B z=>k.nx r f o y (E.trans C) (a2.trans u) B z,λr f o y E a2 B z=>⟨r,f,E.trans C,a2.trans u,B,z⟩⟩⟩;obtain⟨m',l,j'⟩:=hN f B;exact⟨m',l,r,f,E,a2,j',z⟩
 |false=>exact k.nx A2 _ _ H2 C u F Z
theorem OC(z:∀{F:TE},PE X e F->PS X st (oY (Rl X.K "list" kX (i6 i) (sj F AO))))(J:(i,.f)∈M){tt:(Addr->Prop)->vS}(he:∀R,VP X M R e (tt R)):
 VS X M m st (λd u=>match look u i with|some (.lst _)=>(tt d.ex u λw n=>match look n i with|some (.lst l)=>l.length<sizeLine/\d.nx (n.set i (some (.lst (l++[w]))))|_=>False)|_=>False):=by
 rintro q s T H D I ⟨A,H0,u,d,S,er,hz,h,k⟩;obtain⟨l0,e0,h⟩:=ue h;obtain⟨v0,U,Ni,L,Z,Y,h4,_,_⟩:=jF (π:=[]) S J Vx e0 IC;cases Z;refine z (he d.ex) q s T H D I ⟨_,L,.inl ⟨rfl,Ni,.inl (.inl Y)⟩,A,H0,u,_,S,er,h,λA1 w v Q bK y g S1 r=>?_⟩;obtain⟨l,e1,y⟩:=ue y;obtain⟨v1,p1,E,O,C,B,N,hB,o⟩:=jF (π:=[]) S1 J Vx e1 IC;cases C;rw[L]at O;cases O;obtain⟨A',a1,a2,_,_,P⟩:=o Q (aA.refl Q) (l++[w]) (E++[v]) (N.app (.cons r .nil));rw[Oj]at P;exact⟨U,E,v,rfl,rfl,B,by rw[N.len];exact y.1,k.nx A' _ _ _ (a1.trans g.ab) (a2.trans g.s0) y.2 P⟩
theorem OD{te:(Addr->Prop)->WT}(he:∀R,VE X M R .s e (te R))(y:(0,m0)∈M):VS X M (.io m0) (.Return (some e) pos) (λd f=>te d.ex f λw=>match look f 0 with|some o=>(d.rt (.tup [w,o]))|none=>False):=by
 rintro g s u H D I ⟨A,C,f,d,S,z,hz,h,k⟩;refine lW (he d.ex) g s u H D I ⟨A,C,f,_,S,z,h,λw v B l q r=>?_⟩;cases n:look f 0 with
 |none=>rw[n]at l;exact l.elim
 |some o=>rw[n]at l;exact k.rt _ v B l (S.sm.trans q) (uf (S.same q) y n (PP.mp hz) r.aS)
theorem OE(q:(0,m0)∈M):VS X M (.io m0) (.Return none pos) (λd g=>match look g 0 with|some n=>(d.rt (.tup [.aG,n]))|none=>False):=by
 rintro f s o H D I ⟨A,u,g,d,S,r,hz,h,k⟩
 try dsimp only at h
 cases l:look g 0 with
 |none=>rw[l]at h;exact h.elim
 |some n=>rw[l]at h;exact yZ f s o H D I (k.rt _ _ H h S.sm (uf S q l (PP.mp hz) Tp))
end
section
variable{X:Cx}{M:Ms}{R:Addr->Prop}{m m0:Md}{e o a b c:Expr}{es rest:List Expr}{t ta tb:vS}{tl:LD}{pos apos cpos p:Pos}{i j n:Nat}{st:Stmt}{x:Str}{π:List jE}
theorem IP{k n:Nat}{fv:Value}{sp:aV}(F:bU X.prog X.w X.K X.mg X.base k fv n (xu X.K n m sp))(hr:cC k X.A)(hg:Gl X x)(hm:X.mg x=some fv)
 (hn:∀d P R,sp d P R->d.length=n)(ha:Ep X M R (e::es) tl)(N:(x==("__debug__":Str))=false)(he:starEach (e::es) X.env=(false,eval e X.env)::starEach es X.env)(L:(backTo pos (starEach es X.env)).any (·.1)=false):
 VP X M R (.Call (.Name x p) (e::es) [] pos) (λD Q=>tl D λd z=>sp d (λw=>Q w z) R):=by
 rintro q s U H Q I ⟨A,H0,D,P,S,er,h,kk⟩;obtain⟨E,Z,hE,hR⟩:=er;refine SF (jC I hg hm ?_ N);refine Tb (h₀:=X.base) I.ok.mod.Ld F.keep (bD (ha pos q s U H (λJ u=>∃d f g,Go A H f u/\SR X.K M f H0 U u g/\aj X.K f.B u d J/\sp d (λw=>P w g) R) I ⟨A,H0,D,_,S,⟨E,Z,hE,hR⟩,h,λf d J u g hw O l rs=>⟨d,f,g,O,l,rs,hw⟩⟩) λus s1 ⟨J,u,I1,r,d,f,g,O,l,rs,Y⟩=>⟨I1.jT,?_⟩) he L;exact F.run hr (Z _ _) I1 r ⟨f.B,d,_,R,hn _ _ _ Y,rs,l.dom,Y,λw v T pw y r'=>kk f w v T g pw (O.trans (.same y)) (l.same y) (r'.rep l.dom),λC T rc y=>hE C T rc (l.sm.trans y)⟩
theorem LG{K:Frag}{A:Fz}{N H:Hp}{l:St}{q:Ev}{k:W}{sp:aV}{g:List W}{vs:List V}{P:W->Ev->Prop}{Q:VK}{E:XK}{s:V}(S:SR K M A N l H q)(I:(i,m0)∈M)(U:look q i=some k)(T:l[i]?=some (some s))(rs:aj K A.B H g vs)(hn:g.length+1=n)
 (h:sp (k::g) (λr=>∃w y,r=.tup [w,y]/\P w (q.set i (some y))) R)(hE:∀C H',R C->aA N H'->E (.ref C) none H')(kk:∀f w v H' d,P w d->Go A H f H'->SR K M f N l H' d->Rep K f.B H' w v->Q v H'):TN K n m0 sp (s::vs) H Q E:=by
 obtain⟨F,O⟩:=S.ow;obtain⟨v,Y,h2⟩:=O.val i m0 k I U;rw[T]at Y;cases Y;have J:aM M i:=⟨m0,I⟩;have Z:∀p,((A.B p/\p∉F i)\/p∈F i)->A.B p:=λp z=>by
  rcases z with z|z
  .exact z.1
  .exact(O.all p).mpr (.inr ⟨i,J,z⟩)
 refine⟨λp=>A.B p/\p∉F i,F i,k,s,g,vs,_,R,rfl,hn,O.nd i J,λp hp z=>z.2 hp,λp z=>S.dom p z.1,Fp.mv (aA.refl _) (λp _ _ z=>Z p z) m0 h2,rs.less Z,h,λw y v F' H' D L nd nw fp u=>?_,λC H' rc L=>hE C H' rc λp o e=>?_⟩
 .obtain⟨w',y',e,D⟩:=D;cases e;obtain⟨f,a1,a2,aB,a3,a4,S'⟩:=O.chg (F':=F') S I U T (λp o e=>(L p o e).imp (λz=>⟨z.1,z.2⟩) id) nd nw fp;exact kk f w v H' _ D ⟨a1,a2,a3,a4⟩ S' (u.less λp z=>(aB p).mp z)
 .rcases L p o (S.sm p o e)with⟨_,z⟩|z
  .rw[O.nw i p J z]at e;cases e
  .exact z
theorem OG{pl:Sem Bool}{G:W}{k n:Nat}{f:Addr}{fd:FuncData}{ps fs:List Str}{ms:List Md}{sp:aV}(hG:∀C,G=.cls C->Meth X.K C x f)(F:bJ X.prog X.w X.K X.mg X.base (iY X.prog X.w) k f fd ps (TN X.K n (.o fs ms) sp))(hr:cC k X.A)(hb:Binds X.K fd ps [])(hi:(i,.o fs ms)∈M)(Z:fs.contains x=false)
 (hn:∀D P R,sp D P R->D.length=n)(hv:PE X o (i6 i))(ha:Ep X M R (e::es) tl)(hst:starEach (e::es) X.env=(false,eval e X.env)::starEach es X.env)(hpl:(backTo pos (starEach es X.env)).any (·.1)=false)
 (ht:eval (.Call (.Attribute o x apos) (e::es) [] pos) X.env=(do
   let ov<-eval o X.env
   standAt apos.atName
   let(f,first)<-holding [ov] (getMethod ov x pl)
   callWith pos f first (backTo pos (starEach (e::es) X.env)) (backToKw pos (keywordEach [] X.env)))):
 VP X M R (.Call (.Attribute o x apos) (e::es) [] pos) (λY Q=>match look Y i with|some (.obj C _ _)=>G=.cls C/\(tl Y λD J=>match look J i with|some N=>sp (N::D) (λr=>∃w y,r=.tup [w,y]/\Q w (J.set i (some y))) R|none=>False)|_=>False):=by
 rintro L s σ H Q I ⟨A,H0,Y,P,S,er,h,kk⟩;obtain⟨E,pE,hE,hR⟩:=er
 try dsimp only at h
 cases hl:look Y i with
 |none=>rw[hl]at h;exact h.elim
 |some w1=>
  rw[hl]at h;cases w1 with
  |obj C fs' ws1=>
   obtain⟨hg,h⟩:=h;obtain⟨F0,O0⟩:=S.ow;obtain⟨v0,hv0,W6⟩:=O0.val i _ _ hi hl;obtain⟨C',dx,cR,q,Ni,F',e1,rfl,e3,h1,h2,hc,_⟩:=W6;cases e1;have lk:(fs.zip Ni).lookup x=none:=by
    have:∀(l:List Str)(r:List V),l.contains x=false->(l.zip r).lookup x=none:=λl=>by
     induction l with
     |nil=>intro r _;rfl
     |cons y l ih=>
      intro r Z;cases r with
      |nil=>rfl
      |cons z r=>rw[XH,cx]at Z;rw[HA,Cr,Z.1];exact ih r Z.2
    exact this fs Ni Z
   have mt:=hG C hg;refine X2 (pl:=pl) (bD (hv L s σ H (λv' H'=>v'=V.ref q/\H'=H) I ⟨_,hv0,rfl,rfl⟩) λu s1 ⟨x1,H1,I1,rx,ex,eh⟩=>?_) ht;subst ex;subst eh;obtain rfl:u=Value.ref q:=rx;refine ig I1 h1 hc.1 mt lk ?_;refine Tb (first:=[.ref q]) (h₀:=X.base) I.ok.mod.Ld mt.kp (bD (ha pos L s1 σ H1 (λvs' W7=>∃D U T N,Go A H1 U W7/\SR X.K M U H0 σ W7 T/\aj X.K U.B W7 D vs'/\look T i=some N/\sp (N::D) (λr=>∃w y,r=.tup [w,y]/\P w (T.set i (some y))) R) I1 ⟨A,H0,Y,_,S,⟨E,pE,hE,hR⟩,h,λU D vs H1 T O g1 S1 rs=>?_⟩) λus s2 hz=>?_) hst hpl
   .try dsimp only at O
    cases d:look T i with
    |none=>rw[d]at O;exact O.elim
    |some N=>rw[d]at O;exact⟨D,U,T,N,g1,S1,rs,d,O⟩
   .obtain⟨vs,H2,I2,r,D,U,T,N,g1,S1,rs,d,rF⟩:=hz;refine⟨I2.jT,pG (us:=.ref q::us) (vs:=.ref q::vs) (ds:=[]) (AR:=[]) F hr hb .nil (pE _ _) I2 (.cons rfl r) ?_⟩;rw[NA];exact LG S1 hi d hv0 rs (by have:=hn _ _ _ rF;simpa using this) rF hE λA' w v H' J O g S' rr=>kk A' w v H' J O (g1.trans g) S' rr
  |_=>exact h.elim
end
theorem OH{x:Str}:∀(l:List Str)(r:List V),l.contains x=false->(l.zip r).lookup x=none:=λl=>by
 induction l with
 |nil=>intro r _;rfl
 |cons y l b=>
  intro r a;cases r with
  |nil=>rfl
  |cons z r=>rw[XH,cx]at a;rw[HA,Cr,a.1];exact b r a.2
theorem Eu{x:Str}{n:Nat}{v:V}:∀(l:List Str)(r:List V)(n:Nat),l.Nodup->l[n]?=some x->r[n]?=some v->(l.zip r).lookup x=some v:=λl=>by
 induction l with
 |nil=>intro r n _ e _;exact nn e
 |cons y l g=>
  intro r n b c a;cases r with
  |nil=>exact nn a
  |cons z r=>
   rw[HA,Cr];cases n with
   |zero=>
    cases c;cases a;rw[PH]
   |succ n=>
    have d:l[n]?=some x:=by simpa using c
    have f:(x==y)=false:=by rw[P3];rintro rfl;exact(Jn.mp b).1 (Kx d)
    rw[f];exact g r n (Jn.mp b).2 d (by simpa using a)
theorem IQ{x:Str}{v:V}:∀(l:List Str)(r:List V)(n:Nat),l.Nodup->l[n]?=some x->r.length=l.length->ie x v (l.zip r)=l.zip (r.set n v):=λl=>by
 induction l with
 |nil=>intro r n _ e _;exact nn e
 |cons y l g=>
  intro r n b d c;cases r with
  |nil=>cases c
  |cons z r=>
   cases n with
   |zero=>
    cases d;rw[List.set_cons_zero,HA,HA,ie];rw[Do (by first|rfl|simp)]
   |succ n=>
    have f:l[n]?=some x:=by simpa using d
    have a:y≠x:=by rintro rfl;exact(Jn.mp b).1 (Kx f)
    rw[WX,HA,HA,ie];rw[Bi (by first|exact a|simpa using a),g r n (Jn.mp b).2 f (by simpa using c)]
section
variable{X:Cx}{M:Ms}{R:Addr->Prop}{m m0:Md}{e o a b c:Expr}{es rest:List Expr}{t ta tb:vS}{tl:LD}{pos apos cpos p:Pos}{i j n:Nat}{st:Stmt}{x:Str}{π:List jE}
theorem IS{pl:Sem Bool}{G:W}{k n:Nat}{f:Addr}{Z:FuncData}{ps D:List Str}{U:List Md}{sp:aV}(hG:∀C,G=.cls C->Meth X.K C x f)(F:bJ X.prog X.w X.K X.mg X.base (iY X.prog X.w) k f Z ps (TN X.K n (.o D U) sp))(hr:cC k X.A)(hb:Binds X.K Z ps [])(Y:(i,.o D U)∈M)(hx:D.contains x=false)
 (hn:∀O P R,sp O P R->O.length=n)(hv:PE X o (i6 i))
 (ht:eval (.Call (.Attribute o x apos) [] [] pos) X.env=(do
   let ov<-eval o X.env
   standAt apos.atName
   let(f,first)<-holding [ov] (getMethod ov x pl)
   callWith pos f first (backTo pos (starEach [] X.env)) (backToKw pos (keywordEach [] X.env)))):
 VP X M R (.Call (.Attribute o x apos) [] [] pos) (λd Q=>match look d i with|some (.obj C _ _)=>G=.cls C/\(match look d i with|some w0=>sp [w0] (λr=>∃w y,r=.tup [w,y]/\Q w (d.set i (some y))) R|none=>False)|_=>False):=by
 rintro l s σ H Q I ⟨A,H0,d,P,S,er,h,kk⟩;obtain⟨E,pE,hE,hR⟩:=er
 try dsimp only at h
 cases B:look d i with
 |none=>rw[B]at h;exact h.elim
 |some w1=>
  rw[B]at h;cases w1 with
  |obj C fs' ws1=>obtain⟨hg,h⟩:=h;obtain⟨F0,O0⟩:=S.ow;obtain⟨v0,z,W6⟩:=O0.val i _ _ Y B;obtain⟨C',dx,cR,q,Ni,F',e1,rfl,e3,h1,h2,hc,_⟩:=W6;cases e1;have T:=hG C hg;refine X2 (pl:=pl) (bD (hv l s σ H (λv' N=>v'=V.ref q/\N=H) I ⟨_,z,rfl,rfl⟩) λu s1 ⟨x1,H1,L,rx,ex,eh⟩=>?_) ht;subst ex;subst eh;obtain rfl:u=Value.ref q:=rx;refine ig L h1 hc.1 T (OH D Ni hx) ?_;refine callWith_K0 (first:=[.ref q]) L.jT T.kp (pG (us:=[.ref q]) (vs:=[.ref q]) (ds:=[]) (AR:=[]) F hr hb .nil (pE _ _) L (.cons rfl .nil) ?_);exact LG S Y B z .nil (by have:=hn _ _ _ h;simpa using this) h hE λA' w v N J hw g S' rr=>kk A' w v N J hw g S' rr
  |_=>exact h.elim
theorem SR.more{K:Frag}{A:Fz}{u H H1:Hp}{h:St}{k:Ev}{G:List Addr}(S:SR K M A u h H k)(s:aA H H1)(nw:∀q∈G,H q=none)(ex:∀q∈G,∃o,H1 q=some o):SR K M ⟨λq=>A.ab q\/q∈G,λq=>A.B q\/q∈G,A.s0⟩ u h H1 k:=by
 obtain⟨F,O⟩:=S.ow;have r:∀p o,H p=some o->(A.B p\/p∈G)->A.B p:=λp o e z=>by
  rcases z with z|z
  .exact z
  .rw[nw p z]at e;cases e
 refine⟨S.len,λi w d e=>?_,S.sm.trans s,λp z=>?_,S.sl,F,⟨O.un,λi m w y e=>?_,O.emp,O.nd,O.ds,O.nw,λi p d l z=>?_,λp=>?_⟩⟩
 .obtain⟨v,g,f⟩:=S.sh i w d e;exact⟨v,g,Rep.mv s r w f⟩
 .rcases z with z|z
  .exact S.dm.same s p z
  .exact ex p z
 .obtain⟨v,g,f⟩:=O.val i m w y e;exact⟨v,g,Fp.mv s r m f⟩
 .rcases z with z|z
  .exact O.na i p d l z
  .obtain⟨o,e,_⟩:=O.has d l;rw[nw p z]at e;cases e
 .show(A.B p\/p∈G)↔_;rw[O.all p];constructor
  .rintro((z|z)|z)
   .exact .inl (.inl z)
   .exact .inr z
   .exact .inl (.inr z)
  .rintro((z|z)|z)
   .exact .inl (.inl z)
   .exact .inr z
   .exact .inl (.inr z)
theorem Ew(h:PE X e (i6 i)):PE X e (mG X.K i []):=PE.imp h<|by rintro g H Q ⟨v,u,f,d,q⟩;cases d;exact⟨v,f,q⟩
theorem ve.ix{K:Frag}{H:Hp}{n:Nat}:∀(π:List jE){v u:V},ve K H v (π++[.ix n]) u->∃p vs,ve K H v π (.ref p)/\(H p=some (.tup vs)\/H p=some (.lst vs))/\vs[n]?=some u
 |[],v,u,h=>by obtain⟨p,vs,x,e,k,g,f⟩:=h;cases f;exact⟨p,vs,by rw[e];rfl,k,g⟩
 |.ix m::π,v,u,h=>by obtain⟨p,vs,x,e,k,g,f⟩:=h;obtain⟨q,d,a,b,c⟩:=ve.ix π f;exact⟨q,d,⟨p,vs,x,e,k,g,a⟩,b,c⟩
 |.fl m _::π,v,u,h=>by obtain⟨p,vs,x,e,k,g,f⟩:=h;obtain⟨q,d,a,b,c⟩:=ve.ix π f;exact⟨q,d,⟨p,vs,x,e,k,g,a⟩,b,c⟩
theorem T8(h:PE X a (mG X.K i π))(s:PE X b (tC (.int n)))(l:kR b):PE X (.Subscript a b pos) (mG X.K i (π++[.ix n])):=
 PE.imp (Dl xT h s l)<|by rintro z H Q ⟨v,u,y,w,g⟩;obtain⟨q,f,r,d,k⟩:=ve.ix π w;exact⟨v,.ref q,y,r,d.elim (λd=>.inr (.inl ⟨q,f,n,u,rfl,rfl,jU.of d,tQ k,g⟩)) λd=>.inl ⟨q,f,n,u,rfl,rfl,j3.of d,tQ k,g⟩⟩
theorem ve.fl{K:Frag}{H:Hp}{n:Nat}{f:Str}:∀(π:List jE){v u:V},ve K H v (π++[.fl n f]) u->∃p vs C k d,ve K H v π (.ref p)/\H p=some (.ins C k (List.zip d vs))/\rH K C d/\d[n]?=some f/\vs[n]?=some u
 |[],v,u,h=>by obtain⟨p,vs,x,e,⟨C,k,d,s,_,y,w⟩,r,l⟩:=h;cases l;exact⟨p,vs,C,k,d,by rw[e];rfl,s,y,w,r⟩
 |.ix m::π,v,u,h=>by obtain⟨p,vs,x,e,s,r,l⟩:=h;obtain⟨q,g,C,k,d,a,b,c⟩:=ve.fl π l;exact⟨q,g,C,k,d,⟨p,vs,x,e,s,r,a⟩,b,c⟩
 |.fl m _::π,v,u,h=>by obtain⟨p,vs,x,e,s,r,l⟩:=h;obtain⟨q,g,C,k,d,a,b,c⟩:=ve.fl π l;exact⟨q,g,C,k,d,⟨p,vs,x,e,s,r,a⟩,b,c⟩
theorem Ey{f:Str}(h:PE X a (mG X.K i π))(s:attributeBase a f X.env (eval a X.env)=eval a X.env):PE X (.Attribute a f pos) (mG X.K i (π++[.fl n f])):=
 PE.imp (Dh h s)<|by rintro E H Q ⟨v,u,A,z,l⟩;obtain⟨q,k,C,D,B,r,y,d,g,w⟩:=ve.fl π z;exact⟨v,.ref q,A,r,q,C,D,_,u,rfl,y,d.1,d.2.2.2 f (Kx g),Eu (v:=u) (n:=n) B k n d.2.2.1 g w,l⟩
theorem OI{f:Str}{g:List Str}{U:List Md}{te:(Addr->Prop)->WT}(hps:∀{tv:TE},PE X e tv->PS X st (Sv X.K (i6 i) tv f))(J:(i,.o g U)∈M)(hf:g[n]?=some f)(hm:U[n]?=some .s)(he:∀R,VE X M R .s e (te R)):
 VS X M m st (λd y=>te d.ex y λw=>match look y i with|some (.obj C g u)=>n<u.length/\d.nx (y.set i (some (.obj C g (u.set n w))))|_=>False):=by
 rintro L s σ H D I ⟨A,H0,y,d,S,er,hz,h,k⟩;refine hps (he d.ex) L s σ H D I ⟨A,H0,y,_,S,er,h,λw v H1 l s1 r=>?_⟩
 try dsimp only at l
 cases Y:look y i with
 |none=>rw[Y]at l;exact l.elim
 |some w1=>
  rw[Y]at l;cases w1 with
  |obj C fs' u=>
   obtain⟨hn,l⟩:=l;have S1:=S.same s1;obtain⟨F,O⟩:=S1.ow;obtain⟨v0,P,fp⟩:=O.val i _ _ J Y;obtain⟨C',T,cR,q,E,F',e1,rfl,e3,Z,h2,Q,h3⟩:=fp;cases e1;have r:=r.aS;have hB:A.B q:=(O.all q).mpr (.inr ⟨i,⟨_,J⟩,by rw[e3];exact BM⟩);obtain⟨w0,hw0⟩:∃w0,u[n]?=some w0:=⟨_,Ee hn⟩;obtain⟨v1,F1,G,F2,q1,e4,q3,q4⟩:=dI.at U h3 hm hw0;obtain⟨rfl,_⟩:=q3;have cB:sO A.B H1 (upd H1 q (.ins C T (g.zip (E.set n v)))):=.put Z rfl hB;have W4:q∉F':=by have:=O.nd i ⟨_,J⟩;rw[e3]at this;exact(Jn.mp this).1
   have fp':dI X.K A.B (upd H1 q (.ins C T (g.zip (E.set n v)))) U (u.set n w) (E.set n v) F':=by
    rw[e4];refine q4 _ A.B w v [] ?_ (λp o e=>?_) (λ_ _ _ z=>z)
    .exact⟨rfl,Rep.chg cB (λ_ _ _ z=>z) w r⟩
    .by_cases N:p=q
     .subst N;rw[Z]at e;cases e;refine .inl ⟨rfl,hB,λz=>W4 ?_⟩;rw[e4];rcases Fh.mp z with z|z<;>simp[z]
     .exact .inr (by rw[ay N];exact e)
   refine⟨_,P,q,C,T,_,rfl,Z,Q.1,Q.2.2.2 f (Kx hf),?_,?_⟩
   .rw[List.length_zip,h2,Nat.min_self];exact Q.2.1
   .rw[IQ g E n Q.2.2.1 hf h2];obtain⟨A',a1,a2,_,_,_,S'⟩:=O.chg (F':=F i) (H1:=upd H1 q (.ins C T (g.zip (E.set n v)))) (w':=.obj C g (u.set n w)) S1 J Y P (λp o e=>by
     by_cases N:p=q
     .subst N;rw[Z]at e;cases e;exact .inl ⟨rfl,by rw[e3];exact BM⟩
     .exact .inr (by rw[ay N];exact e)) (O.nd i ⟨_,J⟩) (λp hp=>.inl hp) (Fp.mv (aA.refl _) (λp _ _ z=>by
      rcases z with z|z
      .exact z.1
      .exact(O.all p).mpr (.inr ⟨i,⟨_,J⟩,z⟩)) _ (by exact⟨C,T,u.set n w,q,E.set n v,F',rfl,rfl,e3,aD,by rw[L9];exact h2,Q,fp'⟩))
    exact k.nx A' _ _ _ a1 a2 l S'
  |_=>exact l.elim
end
end VL
namespace L2
open PySem PySem.Spec PyProof.Rows
section
variable{pr:Program}{wo:World}{B:Around}{EE:Value->Shared->Prop}
end
section
variable{X:Cx}{pos:Pos}
end
end L2
namespace VL
open PySem PySem.Spec
open PyProof.Rows hiding St
open L2
section
variable{K:Frag}{M M':Ms}{A:Fz}{H0 H H1:Hp}{σ:St}{ε:Ev}
theorem SR.take(S:SR K M' A H0 σ H ε){i:Nat}{m:Md}{w:W}{v:V}{F:List Addr}(l:∀x,x∈M↔x=(i,m)\/x∈M')(D:¬aM M' i)(s:i<ε.length)(nd:F.Nodup)(E:∀p∈F,A.ab p)(nw:∀p∈F,H0 p=none)(P:Fp K A.B H m w v F):
 SR K M ⟨λp=>A.ab p/\p∉F,A.B,A.s0⟩ H0 (σ.set i (some v)) H (ε.set i (some w)):=by
 obtain⟨G,O⟩:=S.ow;have f:∀j,aM M j↔j=i\/aM M' j:=λj=>by
  constructor
  .rintro⟨q,I⟩;rcases(l _).mp I with e|e
   .cases e;exact .inl rfl
   .exact .inr ⟨q,e⟩
  .rintro(rfl|⟨q,I⟩)
   .exact⟨m,(l _).mpr (.inl rfl)⟩
   .exact⟨q,(l _).mpr (.inr I)⟩
 have C:∀j,aM M' j->j≠i:=λj c e=>by subst e;exact D c
 refine⟨by rw[L9,L9];exact S.len,λj y c e=>?_,S.sm,λp z=>S.dm p z.1,λu e=>?_,λj=>if j=i then F else G j,⟨λj N L a b=>?_,λj q y c e=>?_,λj c e=>?_,λj c=>?_,λj k p c J a b=>?_,λj p c d=>?_,λj p c d=>?_,λp=>?_⟩⟩
 .have h:j≠i/\¬aM M' j:=⟨λz=>c ((f j).mpr (.inl z)),λz=>c ((f j).mpr (.inr z))⟩;rw[aF (OF h.1)]at e;obtain⟨u,t,r⟩:=S.sh j y h.2 e;exact⟨u,by rw[Hk (OF h.1)];exact t,r⟩
 .obtain⟨t,r⟩:=S.sl u e;exact⟨by rw[Hk (OF (C 0 r))];exact t,(f 0).mpr (.inr r)⟩
 .rcases(l _).mp a with a|a
  .rcases(l _).mp b with b|b
   .cases a;cases b;rfl
   .cases a;exact(D ⟨_,b⟩).elim
  .rcases(l _).mp b with b|b
   .cases b;exact(D ⟨_,a⟩).elim
   .exact O.un j N L a b
 .rcases(l _).mp c with a|a
  .cases a;have:=gC e;subst this;exact⟨v,Kj (by rw[S.len];exact s),by rw[Do rfl];exact P⟩
  .have n:=C j ⟨q,a⟩;rw[aF (OF n)]at e;obtain⟨u,t,r⟩:=O.val j q y a e;exact⟨u,by rw[Hk (OF n)];exact t,by rw[Bi n];exact r⟩
 .by_cases n:j=i
  .subst n;have:look (ε.set j (some w)) j=some w:=by rw[aW];exact Kj s
   rw[this]at e;cases e
  .rw[aF (OF n)]at e;rw[Bi n];exact O.emp j (((f j).mp c).resolve_left n) e
 .by_cases n:j=i
  .rw[Do n];exact nd
  .rw[Bi n];exact O.nd j (((f j).mp c).resolve_left n)
 .by_cases o:j=i
  .by_cases g:k=i
   .rw[o,g]
   .rw[Do o]at a;rw[Bi g]at b;exact(O.na k p (((f k).mp J).resolve_left g) b (E p a)).elim
  .by_cases g:k=i
   .rw[Bi o]at a;rw[Do g]at b;exact(O.na j p (((f j).mp c).resolve_left o) a (E p b)).elim
   .rw[Bi o]at a;rw[Bi g]at b;exact O.ds j k p (((f j).mp c).resolve_left o) (((f k).mp J).resolve_left g) a b
 .by_cases n:j=i
  .rw[Do n]at d;exact nw p d
  .rw[Bi n]at d;exact O.nw j p (((f j).mp c).resolve_left n) d
 .by_cases n:j=i
  .rw[Do n]at d;exact λz=>z.2 d
  .rw[Bi n]at d;exact λz=>O.na j p (((f j).mp c).resolve_left n) d z.1
 .constructor
  .intro z;by_cases d:p∈F
   .exact .inr ⟨i,(f i).mpr (.inl rfl),by rw[Do rfl];exact d⟩
   .rcases(O.all p).mp z with z|⟨j,c,Q⟩
    .exact .inl ⟨z,d⟩
    .exact .inr ⟨j,(f j).mpr (.inr c),by rw[Bi (C j c)];exact Q⟩
  .rintro(z|⟨j,c,d⟩)
   .exact(O.all p).mpr (.inl z.1)
   .by_cases n:j=i
    .rw[Do n]at d;exact(O.all p).mpr (.inl (E p d))
    .rw[Bi n]at d;exact(O.all p).mpr (.inr ⟨j,((f j).mp c).resolve_left n,d⟩)
end
section
variable{X:Cx}{M M':Ms}{m:Md}{st:Stmt}{te:(Addr->Prop)->WT}
end
section
variable{K:Frag}{B B':Addr->Prop}{H:Hp}
mutual
theorem Rep.GL:∀(w:W){v:V},GL w=true->Rep K B H w v->Rep K B' H w v
 |.aG,_,_,r=>by dsimp only[Rep]at r⊢;exact r
 |.bl _,_,_,r=>by dsimp only[Rep]at r⊢;exact r
 |.int _,_,_,r=>by dsimp only[Rep]at r⊢;exact r
 |.str _,_,_,r=>by dsimp only[Rep]at r⊢;exact r
 |.tup l,v,h,r=>by obtain⟨p,vs,e,b,a⟩:=r;exact⟨p,vs,e,b,aj.GL l h a⟩
 |.ty _,_,h,_=>ff h
 |.cls _,_,h,_=>ff h
 |.fn _,_,h,_=>ff h
 |.err _,_,h,_=>ff h
 |.dU _ _ _,_,h,_=>ff h
 |.lst _,_,h,_=>ff h
 |.dct _ _,_,h,_=>ff h
 |.obj _ _ _,_,h,_=>ff h
 |.cX _,_,h,_=>ff h
theorem aj.GL:∀(l:List W){vs:List V},Ea l=true->aj K B H l vs->aj K B' H l vs
 |[],_,_,r=>by dsimp only[aj]at r⊢;exact r
 |w::l,vs,h,r=>by obtain⟨v,us,rfl,b,a⟩:=r.cons_inv;rw[Ea,AC]at h;exact .cons (Rep.GL w h.1 b) (aj.GL l h.2 a)
end
mutual
theorem Fp.flat:∀(m:Md){w:W}{v:V}{F:List Addr},Fp K B H m w v F->flat m w=true->(∀p∈F,¬B' p)->Rep K B' H w v
 |.s,w,v,F,h,f,_=>by dsimp only[Fp]at h;dsimp only[VL.flat]at f;exact Rep.GL w f h.2
 |.f,w,v,F,h,f,n=>by obtain⟨c,p,vs,rfl,rfl,rfl,b,a⟩:=h;dsimp only[VL.flat]at f;exact⟨p,vs,rfl,n p (FR.mpr rfl),.inl b,aj.GL c f a⟩
 |.t e,w,v,F,h,f,n=>by obtain⟨c,p,vs,rfl,rfl,b,a⟩:=h;dsimp only[VL.flat]at f;exact⟨p,vs,rfl,b,dI.flat e a f n⟩
 |.o _ _,w,v,F,h,f,n=>ff f
 |.io _,w,v,F,h,f,n=>ff f
 |.d,w,v,F,h,f,n=>ff f
 |.ls _,w,v,F,h,f,n=>ff f
theorem dI.flat:∀(b:List Md){a:List W}{vs:List V}{F:List Addr},dI K B H b a vs F->zq b a=true->(∀p∈F,¬B' p)->aj K B' H a vs
 |[],a,vs,F,h,f,_=>by obtain⟨rfl,rfl,_⟩:=h;exact .nil
 |m::b,a,vs,F,h,f,n=>by obtain⟨w,i,v,d,k,j,rfl,rfl,rfl,g,e⟩:=h;rw[zq,AC]at f;exact .cons (Fp.flat m g f.1 λp c=>n p (He _ c)) (dI.flat b e f.2 λp c=>n p (FK _ c))
end
end
section
variable{X:Cx}{M M':Ms}{m m0:Md}{st:Stmt}{ti:(Addr->Prop)->WT}{tc te:WT}{one:Bool}{ts:List Nat}{i n:Nat}
end
section
variable{K:Frag}{M:Ms}{A:Fz}{H0 H:Hp}{σ:St}{ε:Ev}
end
section
variable{X:Cx}{M:Ms}{m:Md}{st:Stmt}{tg it e o:Expr}{j a b:Nat}{pos q:Pos}{x0:W}{te:WT}
end
section
variable{K:Frag}{M M':Ms}{A:Fz}{H0 Hs H H1:Hp}{σ:St}{ε:Ev}
end
section
variable{X:Cx}{M M':Ms}{m:Md}{st:Stmt}{ti:(Addr->Prop)->WT}{te:vS}{i:Nat}
theorem OJ{R:Addr->Prop}{es:List Expr}{pos:Pos}{tl:LD}(l:Ep X M R es tl):VP X M R (.List es pos) (λb Q=>tl b λc a=>c.length<=sizeLine/\Q (.lst c) a):=PE.imp (xP l)<|by rintro r H Q ⟨A,o,b,P,S,n,h,k⟩;refine⟨A,o,b,_,S,n,h,λq c j s a d g f rs=>⟨by rw[aj.len rs];exact d.1,λp e=>?_⟩⟩;have sm:=aK e (.lst j);exact k q _ _ _ a d.2 (g.trans (.same sm)) (f.same sm) ((cU.fresh (aA.refl _) e rs).rep f.dom)
theorem OL{R:Addr->Prop}{es:List Expr}{pos:Pos}{e:Nat}{tl:LD}(l:Ep X M R es tl):VP X M R (.Tuple es e pos) (λb Q=>tl b λc a=>c.length<=sizeLine/\Q (.tup c) a):=PE.imp (xO l)<|by rintro s H Q ⟨A,q,b,P,S,n,h,k⟩;refine⟨A,q,b,_,S,n,h,λr c f t a d g o rs=>⟨by rw[aj.len rs];exact d.1,λp j=>?_⟩⟩;have sm:=aK j (.tup f);exact k r _ _ _ a d.2 (g.trans (.same sm)) (o.same sm) (t6 aD (aj.same sm rs))
end
section
variable{K:Frag}{B:Addr->Prop}{H:Hp}{j:Int}
end
theorem LH{K:Frag}{M:Ms}{A:Fz}{r H:Hp}{h:St}{j:Ev}{i:Nat}{u t:List W}(S:SR K M A r h H j)(c:(i,.d)∈M)(y:look j i=some (.dct u t)):
 ∃p kvs,h[i]?=some (some (.ref p))/\H p=some (.dK kvs)/\u=kvs.map (λx=>nq x.1)/\aj K A.B H t (kvs.map (·.2))/\∀H1,aA H H1->∀(a:List (Key×V))(b f:List W),b=a.map (λx=>nq x.1)->aj K A.B H1 f (a.map (·.2))->
  ∃g,g.ab=A.ab/\g.s0=A.s0/\SR K M g r h (upd H1 p (.dK a)) (j.set i (some (.dct b f))):=by
 obtain⟨F,O⟩:=S.ow;obtain⟨v,k,l⟩:=O.val i .d _ c y;obtain⟨L,J,p,kvs,X,rfl,D,C,Q,T⟩:=l;cases X;have I:p∈F i:=by rw[D];exact BM
 have TY:A.B p:=(O.all p).mpr (.inr ⟨i,⟨.d,c⟩,I⟩);refine⟨p,kvs,k,C,Q,T,λH1 s a b f U N=>?_⟩;have S1:=S.same s;have O1:NC K M A r h H1 j F:=⟨O.un,λi m w c e=>let⟨v,k,l⟩:=O.val i m w c e;⟨v,k,Fp.mv s (λ_ _ _ z=>z) m l⟩,O.emp,O.nd,O.ds,O.nw,O.na,O.all⟩;have E:=s _ _ C;have Y:sO A.B H1 (upd H1 p (.dK a)):=.put E rfl TY;have R:∀q o,H1 q=some o->(zm o=true/\q∈F i)\/upd H1 p (.dK a) q=some o:=λq o e=>by
  by_cases n:q=p
  .subst n;rw[E]at e;cases e;exact .inl ⟨rfl,I⟩
  .exact .inr (by rw[ay n];exact e)
 have T3:Fp K (λq=>(A.B q/\q∉F i)\/q∈F i) (upd H1 p (.dK a)) .d (.dct b f) (.ref p) (F i):=⟨b,f,p,a,rfl,rfl,D,aD,U,aj.chg Y (λq _ _ z=>by
  rcases z with z|z
  .exact z.1
  .exact(O.all q).mpr (.inr ⟨i,⟨.d,c⟩,z⟩)) f N⟩
 obtain⟨g,a1,a2,_,a3,a4,Z⟩:=O1.chg (F':=F i) S1 c y k R (O.nd i ⟨.d,c⟩) (λq P=>.inl P) T3;exact⟨g,a1,a2,Z⟩
section
variable{X:Cx}{M:Ms}{R:Addr->Prop}{o e f:Expr}{te tf:WT}{i:Nat}{pos:Pos}
theorem Ez{b:Ev}{P:List W->List W->Prop}(h:match look b i with|some (.dct a vs)=>P a vs|_=>False):∃a vs,look b i=some (.dct a vs)/\P a vs:=by
 cases c:look b i with
 |none=>rw[c]at h;exact h.elim
 |some w=>
  rw[c]at h;cases w with
  |dct a vs=>exact⟨a,vs,rfl,h⟩
  |_=>exact h.elim
end
section
variable{X:Cx}{M M':Ms}{m:Md}{st:Stmt}{i:Nat}{e e1:Expr}{te t1:(Addr->Prop)->WT}
theorem OM{R:Addr->Prop}{pos:Pos}:VE X M' R .d (.Dict [] [] pos) (λb Q=>Q (.dct [] [])):=PE.imp DJ<|by rintro f H Q ⟨A,j,b,P,S,g,h,k⟩;intro p a;refine k _ _ _ h (aK a _) ⟨[p],by simp,λq c=>?_,[],[],p,[],rfl,rfl,rfl,aD,rfl,.nil⟩;rw[FR.mp c];exact a
noncomputable def LI:V->V->V->Hp->(Hp->Prop)->Prop:=λo k v H Q=>∃p a,o=.ref p/\DH H p k v a/\Q a
theorem set_dict(d:X.A.units+1<cLine):R8 X LI:=by intro a s l H o k v r t u Q I b c rv h;obtain⟨p,j,rfl,f,q⟩:=h;cases b;exact A8 d I f c rv λn g=>⟨j,g,q⟩
end
section
variable{K:Frag}{M:Ms}{A:Fz}{H0 H:Hp}{σ:St}{ε:Ev}
end
section
variable{X:Cx}{M M':Ms}{m:Md}{st:Stmt}{tg it tg2 it2 e:Expr}{j a b t y:Nat}{pos pos2:Pos}{te:WT}
end
end VL
namespace L2
open PySem PySem.Spec PyProof.Rows PySem.W
section
variable{prog:Program}{w:World}{A:Around}{E:Value->Shared->Prop}{s:Shared}
end
noncomputable def W8(w:World)(a:Addr)(es:Array (Int×Value))(ep:Nat)(t:SetTable)(h:Heap):Prop:=h.get? a=some {cls:=.type "set",dict:=none,data:=.set es ep t,slots:= #[]}/\t.fits es.size=true/\(w.params.followText "set-order"=true\/t.led=true)/\(es= #[]\/t.plain=false)
section
variable{prog:Program}{w:World}{A:Around}{E:Value->Shared->Prop}{s:Shared}{a I tp:Addr}{es:Array (Int×Value)}{ep i:Nat}{t:SetTable}{vs:List Value}
theorem jg:Slot "set_iterator" "__iter__" "set_iterator.__iter__":=.of (owner:="set_iterator") (n:="__iter__") (by rw[typeLookup_type,builtinLookup_eq_fast];kernel_rfl) (by decide+kernel) (by decide+kernel) (by decide+kernel) (by first|exact .inl (by decide+kernel)|exact .inr (by decide+kernel)) (by rw[isSubtype_type];kernel_rfl)
end
section
variable{X:Cx}
theorem Inv.drw{a:List (Addr×Obj)}{b:List (Option V)}{H:Hp}{s:Shared}(I:Inv X a b H s)(d:Drawn):Inv X a b H {s with drawn:=d}:=⟨I.ok,I.os,I.bare,I.base,I.loc,I.cell,I.free,I.eW,I.pin,I.hok,I.len⟩
theorem sQ:∀{us:List Value}{a:List Str},StrsAre us a->Vals (a.map V.str) us
 |_,_,.nil=>.nil
 |_,_,.cons y t r=>.cons ⟨t,rfl⟩ (sQ r)
theorem Bt{f:List (Addr×Obj)}{C:List (Option V)}{H:Hp}{s:Shared}{Q:V->Hp->Prop}{r:Addr}(I:Inv X f C H s)(l:List Str)(i:l.length<64)
 (col:∀(R:List Value->Shared->Prop),(∀(g:Heap)(k:Nat)(d:Drawn)(vs:List Value)(c:List Str),s.heap.objs.size<=g.objs.size->(∀b o,s.heap.get? b=some o->g.get? b=some o)->StrsAre vs c->c.Perm l->R vs {s with heap:=g,toks:=k,drawn:=d})->wpAny (model X.prog X.w) X.A.in1 (collect (.ref r)) R X.xe s)
 (q:∀(p:Addr)(c:List Str),H p=none->c.Perm l->sortedS c=true->Q (.ref p) (upd H p (.lst (c.map V.str)))):wpAny (model X.prog X.w) X.A (call (.builtin "sorted") [.ref r]) (EP X f C Q) X.xe s:=by
 refine Calls.call_function_entry kind_sorted plain_sorted entry_sorted (args_sorted1 _) ?_;unfold Builtin.«sorted»;refine Da (m:=checkCount "sorted" 1 1 _) (GM ?_);refine Da (col _ λh' k d vs O j z n x=>?_);have J:vs.length=l.length:=by rw[<-x.length_eq];exact StrsAre.length n
 have L:vs.length<=sizeLine:=by rw[J];exact FV (Ts i) (by decide)
 refine Da (wpAny_newList ?_ L);have y:(h'.push (seqObj "list" vs.toArray 0)).get? h'.objs.size=some (seqObj "list" vs.toArray 0):=KE _ rfl;show wpAny _ _ _ _ _ {s with heap:=h'.push (seqObj "list" vs.toArray 0),toks:=k,drawn:=d};refine Da (cq (wpAny_call_entry slot_list_sort ⟨_,y,rfl⟩ entry_list_sort (list_sort_treeK strKind_oneLt y n.keysOf (λE D rest e=>keyKind_strs (by rw[<-e];exact n)) (by rw[J];exact i) λh v t=>⟨_,rfl,?_⟩) (args_list_sort _)));obtain⟨c,M,a2,a3⟩:=sorted_out_str n v t;refine GM ⟨_,rfl,?_⟩;obtain⟨B,N⟩:=sortedHeap_at (out:=(arrOf h).map (·.2)) y;refine⟨.ref h'.objs.size,_,(I.laid (a:=h'.objs.size) (o:=.lst (c.map V.str)) (t':=k) (h':=sortedHeap (h'.push (seqObj "list" vs.toArray 0)) h'.objs.size vs ((arrOf h).map (·.2))) (λb u e=>?_) j ⟨?_,((arrOf h).map (·.2)).toList,B,sQ M,?_⟩).drw d,rfl,q _ c (I.hok.fresh j) (a2.trans x) a3⟩
 .have K:=z b u e;have F:=Fm K;rw[sortedHeap_old (KM F) (by rw[size_push'];exact RW F)];exact Dx _ K
 .rw[Fk,a2.length_eq,x.length_eq];exact FV (Ts i) (by decide)
 .rw[N]
end
noncomputable def ON(prog:Program)(w:World)(a:Addr)(P:Str->Prop)(n:Nat)(h:Heap):Prop:=∃b d t c,W8 w a b d t h/\ElemsOf (PySem.strKind prog w) b.toList/\StrsAre (b.toList.map (·.2)) c/\c.Nodup/\(∀z,z∈c↔P z)/\b.size<=n
section
variable{prog:Program}{w:World}{A:Around}{E:Value->Shared->Prop}{s:Shared}{a:Addr}{es:Array (Int×Value)}{ep:Nat}{t:SetTable}
theorem ON.same{P d:Str->Prop}{n b:Nat}{h h':Heap}(x:ON prog w a P n h)(k:∀o,h.get? a=some o->h'.get? a=some o)(e:∀z,P z↔d z)(g:n<=b):ON prog w a d b h':=by obtain⟨es,ep,t,f,c,p,m,l,j,i⟩:=x;exact⟨es,ep,t,f,⟨k _ c.1,c.2⟩,p,m,l,λz=>(j z).trans (e z),FV i g⟩
end
section
variable{X:Cx}
theorem IT{prog:Program}{w:World}{x:Str}{v:Value}(h:(bE prog w).is (.inr x) v=true):∃t,v=Value.str x t:=by
 have h:oV (.inr x) v=true:=h;rcases bu h with⟨i,t,e,rfl⟩|⟨y,t,e,rfl⟩
 .cases e
 .cases e;exact⟨t,rfl⟩
theorem IU{a:List Str}:∀{us:List Value},us.length=a.length->(∀(j:Nat)(v:Value),us[j]?=some v->∃n t,a[j]?=some n/\v=Value.str n t)->StrsAre us a:=by
 induction a with
 |nil=>intro us h _;rw[Mo.mp h];exact .nil
 |cons n a b=>
  intro us h k;cases us with
  |nil=>cases h
  |cons u us=>obtain⟨f,t,d,c⟩:=k 0 u rfl;cases d;subst c;exact .cons n t (b (by simpa using h) λj v e=>k (j+1) v (by simpa using e))
theorem yh(S:X.calm=true):bF X (.builtin "sorted") (λC H Q=>∃(a:Addr)(kvs:List (Key×V))(b:List Str),C=[V.ref a]/\H a=some (.dK kvs)/\kvs.map (·.1)=b.map HK/\b.length<64/\
 ∀(p:Addr)(i:List Str),H p=none->i.Perm b->sortedS i=true->Q (.ref p) (upd H p (.lst (i.map V.str)))):=by
 intro D s σ H C us Q I r h;obtain⟨a,kvs,b,rfl,T,F,g,q⟩:=h;obtain⟨u,rfl,K⟩:=vals1 r;cases K;obtain⟨z,L,d,f,Z⟩:=zl I.hok (.inl T);obtain⟨ep,o⟩:=Z.dictAt;have E:d.length=b.length:=by have Y:=Hb Dr F;rw[Fk,Fk]at Y;have y:=f.length;omega
 have keys:d.map (·.1)=b.map HK:=by rw[<-F];exact f.keys.symm
 have P:d.length<=sizeLine:=by rw[E];exact FV (Ts g) (by decide)
 refine Bt I b g (λR k=>DM (A:=X.A.in1) (kdl_dict (knd:=bE X.prog X.w) (kvs:=d) (ep:=ep) L) (I.ok.hd S) o P λU J B l m c=>?_) q;refine k U J s.drawn B.toList b (Ts l) m (IU (by rw[J9,c.1,E]) λj v e=>?_) (.refl _);obtain⟨M,x,N,O⟩:=c.2 j v (by rw[<-VO];exact e);have y:(d.map (·.1))[j]?=some M:=by rw[IH,N];rfl
 rw[keys,IH]at y;obtain⟨n,en,rfl⟩:=Kt.mp y;obtain⟨t,rfl⟩:=IT O;exact⟨n,t,en,rfl⟩
end
end L2
namespace VL
open PySem PySem.Spec
open PyProof.Rows hiding St
open L2
section
variable{X:Cx}{M:Ms}{R:Addr->Prop}{e a b c o:Expr}{ta tb tc:WT}{m:Md}{pos p:Pos}{x:Str}{i:Nat}
theorem OO{v y:Option Expr}{p2:Pos}{tl u:Ev->(Option Int->Prop)->Prop}(E:VB X M R a ta)(n:PO X v (N9 X M R tl))(f:PO X y (N9 X M R u)):VE X M R .s (.Subscript a (.Slice v y none p2) pos) (λd Q=>ta d λx=>tl d λl=>u d λh=>HX x l h Q):=
 PE.imp (vq (Nn.or M4) E n f)<|by
  rintro I H Q ⟨A,t,d,P,S,r,h,k⟩;refine⟨A,t,d,_,S,r,h,λx K O D g j=>⟨A,t,d,_,S.same g,r,D,λl N n s2=>⟨A,t,d,_,S.same (g.trans s2),r,n,λh L f s3=>?_⟩⟩⟩;have j:=bg.same (s2.trans s3) j;cases x with
  |str z=>
   cases j.str;exact .inl ⟨z,rfl,f.1,k _ _ _ f.2 ((g.trans s2).trans s3) (.of (mE _))⟩
  |tup J=>obtain⟨p,C,rfl,F,B⟩:=j.tup;refine .inr ⟨p,C,rfl,F,by rw[B.len];exact f.1,λq w=>?_⟩;exact k _ _ _ f.2 (((g.trans s2).trans s3).trans (aK w _)) (.of (t6 aD (aj.same (aK w _) (Ei B l h))))
  |_=>exact f.elim
theorem OP{apos d:Pos}(O:VE X M R .s a ta)(N:VE X M R .s b tb)(L:VE X M R .s c tc)(l:attributeBase a "startswith" X.env (eval a X.env)=eval a X.env)(j:(apos.endLine==d.line)=true)
 (g:starEach [b,c] X.env=(false,eval b X.env)::starEach [c] X.env)(s2:starEach [c] X.env=(false,eval c X.env)::starEach [] X.env):
 VE X M R .s (.Call (.Attribute a "startswith" apos) [b,c] [] d) (λf Q=>ta f λx=>Tg x=true/\tb f λy=>tc f λz=>NH x y z Q):=
 PE.imp (sH PySem.F.plainAttrs_str PySem.F.slot_str_startswith PySem.F.type_str_startswith Be O (aR N (aR L bS s2) g) l (by rw[g,s2];rfl) j g (by rw[s2];rfl))<|by
  rintro σ H Q ⟨A,u,f,P,S,t,h,k⟩;refine⟨A,u,f,_,S,t,h,λw v H1 r g J=>?_⟩;cases w with
  |str z=>
   obtain⟨_,r⟩:=r;have e:=J.aS;have e:v=.str z:=e;subst e;refine⟨rfl,A,u,f,_,S.same g,t,r,λC D H2 Cu s2 I=>⟨A,u,f,_,S.same (g.trans s2),t,Cu,λB v3 Z q s3 E=>?_⟩⟩;cases C with
   |str y=>
    cases B with
    |int n=>have Y:D=.str y:=I.aS;have U:=E.aS.int_inv;subst Y U;obtain⟨T,h2,q⟩:=q;obtain⟨K,rfl⟩:=Iy T;exact⟨z,y,K,rfl,rfl,by omega,k _ _ Z q ((g.trans s2).trans s3) (.of (rC _))⟩
    |_=>exact q.elim
   |_=>
    cases B<;>exact q.elim
  |_=>exact ff r.1
theorem OQ{n:Nat}(D:VE X M R .s a ta)(B:attributeBase a x X.env (eval a X.env)=eval a X.env):VE X M R .s (.Attribute a x pos) (λf Q=>ta f λw=>NI n x w Q):=
 PE.imp (Dh D B)<|by
  rintro U H Q ⟨A,T,f,P,S,J,h,k⟩;refine⟨A,T,f,_,S,J,h,λw v O d t z=>?_⟩;cases w with
  |obj C I Y=>obtain⟨j,u,L,d⟩:=d;obtain⟨q,N,l,rfl,Z,F,h2,g,E⟩:=z.aS;obtain⟨y,K,r⟩:=E.get L;exact⟨q,C,N,_,y,rfl,F,g.1,g.2.2.2 x (Kx j),Eu (v:=y) (n:=n) I l n g.2.2.1 j K,k _ _ O d t (.of r)⟩
  |_=>exact d.elim
theorem EA{K:Frag}{C:Addr}{f:Addr}(g:Meth K C x f):∀(l:List Str)(r:List V),(∀y∈l,i7 K C y)->(l.zip r).lookup x=none
 |[],_,_=>rfl
 |y::l,[],_=>rfl
 |y::l,z::r,h=>by
  have d:=h y BM;have j:(x==y)=false:=P3.mpr λe=>by have d:findIn K (.ref C) y=some none:=d;rw[<-e,g.at_]at d;cases d
  rw[HA,Cr,j];exact EA g l r λq k=>h q (B1 _ k)
theorem OR{pl:Sem Bool}{G:W}{k n:Nat}{f:Addr}{U:FuncData}{ps:List Str}{sp:aV}{apos:Pos}(hG:∀C,G=.cls C->Meth X.K C x f)(F:bJ X.prog X.w X.K X.mg X.base (iY X.prog X.w) k f U ps (xu X.K n m sp))(hr:cC k X.A)(hb:Binds X.K U ps [])
 (hn:∀d P R,sp d P R->d.length=n)(ho:VE X M R .s o ta)
 (ht:eval (.Call (.Attribute o x apos) [] [] pos) X.env=(do
   let ov<-eval o X.env
   standAt apos.atName
   let(f,first)<-holding [ov] (getMethod ov x pl)
   callWith pos f first (backTo pos (starEach [] X.env)) (backToKw pos (keywordEach [] X.env)))):
 VE X M R m (.Call (.Attribute o x apos) [] [] pos) (λB Q=>ta B λw=>match w with|.obj C j d=>G=.cls C/\sp [.obj C j d] Q R|_=>False):=by
 rintro r s y H Q I ⟨A,H0,B,P,S,Y,h,kk⟩;obtain⟨E,pE,hE,hR⟩:=id Y;refine X2 (pl:=pl) (bD (ho r s y H (λZ l=>∃w,(match w with|.obj C j d=>G=.cls C/\sp [.obj C j d] P R|_=>False)/\aA H l/\Rep X.K (FB A M y) l w Z) I ⟨A,H0,B,_,S,Y,h,λw v H1 g O t=>⟨w,g,O,t.aS⟩⟩) λu O hz=>?_) ht;obtain⟨x1,H1,N,rx,w,g,sm,t⟩:=hz;cases w with
 |obj C j d=>obtain⟨hg,g⟩:=g;have J:=t;obtain⟨q,dx,vs,rfl,na,h1,h2,T,h3⟩:=t;obtain rfl:u=Value.ref q:=rx;have L:=hG C hg;refine ig N h1 T.1 L (EA L j vs T.2.2.2) ?_;refine callWith_K0 (first:=[.ref q]) N.jT L.kp (pG (us:=[.ref q]) (vs:=[.ref q]) (ds:=[]) (AR:=[]) F hr hb .nil (pE _ _) N (.cons rfl .nil) ?_);rw[NA];exact⟨FB A M y,[.obj C j d],P,R,hn _ _ _ g,.cons J .nil,(S.same sm).dom,g,λw v l pw D r'=>kk w v l pw (sm.trans D) (r'.back sm λ_ z=>z),λC l rc D=>hE C l rc (S.sm.trans (sm.trans D))⟩
 |_=>exact g.elim
theorem a3'{a b c:Bool}(z:((a&&b)&&c)=true):(a=true/\b=true)/\c=true:=by cases a<;>cases b<;>cases c<;>first|exact⟨⟨rfl,rfl⟩,rfl⟩|exact ff z
noncomputable def rJ:List Str->List Int->List (Key×V)
 |x::d,v::vs=>(.inr x,.int v)::rJ d vs
 |_,_=>[]
noncomputable def IV:List Str->List Int->List (Option Expr)->List Expr->Bool
 |[],[],[],[]=>true
 |x::f,v::vs,some k::d,e::es=>(match k with|.Constant (.str y) _ _=>decide (y=x)|_=>false)&&(match e with|.Constant (.int j) _ _=>decide (j=v)|_=>false)&&IV f vs d es
 |_,_,_,_=>false
theorem zE(j:Str):∀(d:List Str)(vs:List Int)(n:Int),ly j d vs=some n->l8 (rJ d vs) (.inr j)=some (.int n)
 |[],_,_,h=>nn h
 |_::_,[],_,h=>nn h
 |x::d,v::vs,n,h=>by
  have h:(if x=j then some v else ly j d vs)=some n:=h;by_cases e:x=j
  .rw[Do e]at h;cases h;exact kY (by rw[e])
  .rw[Bi e]at h;show l8 ((HK x,V.int v)::rJ d vs) _=_;rw[kZ (by intro z;cases z;exact e rfl)];exact zE j d vs n h
theorem sR:∀(f:List Str)(vs:List Int)(d:List (Key×V)),f.Nodup->(∀j∈d,∀x∈f,j.1≠HK x)->j4 d (rJ f vs)=d++rJ f vs
 |[],_,d,_,_=>(NA d).symm
 |_::_,[],d,_,_=>(NA d).symm
 |x::f,v::vs,d,l,h=>by
  obtain⟨q,n⟩:=Jn.mp l;have e:putK d (HK x:Key) (V.int v)=d++[(HK x,.int v)]:=by unfold putK;rw[Bi];intro z;obtain⟨j,g,e⟩:=cb.mp z;exact h j g x BM (Ap e)
  show j4 (putK d (HK x:Key) (V.int v)) (rJ f vs)=_;rw[e,sR f vs _ n λj g y k=>?_]
  .rw[Fu];rfl
  .rcases Fh.mp g with g|g
   .exact h j g y (B1 _ k)
   .rw[FR.mp g];intro z;cases z;exact q k
theorem zF:∀(f:List Str)(vs:List Int)(d:List (Option Expr))(es:List Expr),IV f vs d es=true->SX X p d es (VF (λx v=>(tC (.str x),tC (.int v))) f vs)/\d.all (·.isSome)=true/\d.length=es.length/\d.length=f.length/\f.length=vs.length
 |[],[],[],[],_=>⟨HL,rfl,rfl,rfl,rfl⟩
 |x::f,v::vs,some k::d,e::es,h=>by
  obtain⟨⟨j,g⟩,w⟩:=a3' h;obtain⟨s,r,q,n,l⟩:=zF f vs d es w;have u:PE X k (tC (.str x)):=by
   cases k with
   |Constant c _ _=>
    cases c with
    |str y=>
     cases Ap j;exact CW
    |_=>exact ff j
   |_=>exact ff j
  have t:PE X e (tC (.int v)):=by
   cases e with
   |Constant c _ _=>
    cases c with
    |int y=>
     cases Ap g;exact oX
    |_=>exact ff g
   |_=>exact ff g
  exact⟨DK u t s,r,Hb (·+1) q,Hb (·+1) n,Hb (·+1) l⟩
theorem sS:∀(d:List Str)(vs:List Int){g:St}{H:Hp}{Q:List (V×V)->Hp->Prop},Q ((rJ d vs).map λf=>(kV f.1,f.2)) H->tW (VF (λx v=>(tC (.str x),tC (.int v))) d vs) g H Q
 |[],_,_,_,_,h=>h
 |_::_,[],_,_,_,h=>h
 |x::d,v::vs,_,_,_,h=>sS d vs h
theorem zG:∀(d:List Str)(vs:List Int),(rJ d vs).length<=d.length
 |[],_=>NM _
 |_::_,[]=>NM _
 |x::d,v::vs=>Q1 (zG d vs)
theorem OS{d:List Str}{vs:List Int}{r:List (Option Expr)}{es:List Expr}(E:X.A.units+1<cLine)(F:IV d vs r es=true)(K:d.Nodup)(O:d≠[])(B:d.length<=15)(N:VE X M R .s b tb)(I:Ng b):
 VE X M R .s (.Subscript (.Dict r es p) b pos) (λl Q=>tb l λx=>match x with|.str j=>∃n,ly j d vs=some n/\Q (.int n)|_=>False):=by
 obtain⟨t,D,C,y,r5⟩:=zF (X:=X) (p:=p) d vs r es F;refine PE.imp (HJ E (HM t D C (λz=>O (Mo.mp (by rw[<-y,z];rfl))) (by rw[y];exact B)) N I) ?_;rintro Z H Q ⟨A,Y,l,P,S,T,h,k⟩;intro q J;refine sS d vs ⟨aD,rJ d vs,rfl,FV (zG d vs) B,?_⟩;rw[sR d vs [] K (λkv L=>by cases L),TZ,GW];have sm:aA H (upd H q (.dK (rJ d vs))):=aK J _;refine⟨A,Y,l,_,S.same sm,T,h,λw v U f u t=>?_⟩;cases w with
 |str j=>obtain⟨n,e,f⟩:=f;have ev:v=.str j:=t.aS;subst ev;refine⟨q,.int n,rfl,?_,k _ _ U f (sm.trans u) (.of (eK _))⟩;have g:=A6.k (k:=HK j) (u q _ aD);rw[zE j d vs n e]at g;exact g
 |_=>exact f.elim
theorem vU:∀{kvs:List (Key×V)}{d:List Str},kvs.map (λx=>nq x.1)=d.map W.str->kvs.map (·.1)=d.map HK
 |[],[],_=>rfl
 |[],_::_,h=>by cases h
 |_::_,[],h=>by cases h
 |x::kvs,n::d,h=>by
  obtain⟨k,v⟩:=x;rw[Hn,Hn]at h;have f:=(Ml h).1;have g:=vU (Ml h).2;rw[Hn,Hn,g];cases k with
  |inl i=>cases f
  |inr y=>
   cases f;rfl
theorem qa{K:Frag}{B:Addr->Prop}{H:Hp}:∀d:List Str,aj K B H (d.map W.str) (d.map V.str)
 |[]=>.nil
 |m::d=>.cons (mE m) (qa d)
theorem OT{q:Pos}(F:X.calm=true)(B:(i,.d)∈M)(z:PE X o (i6 i))(E:Gl X "sorted")(hz:X.mg "sorted"=none)(u:starEach [o] X.env=(false,eval o X.env)::starEach [] X.env):
 VE X M R .f (.Call (.Name "sorted" q) [o] [] pos) (λs Q=>match look s i with|some (.dct t vs)=>∃l:List Str,t=l.map W.str/\l.length<64/\∀j:List Str,j.Perm l->sortedS j=true->Q (.lst (j.map W.str))|_=>False):=
 PE.imp (gz (yh F) E hz boot_sorted (aR z bS u) (he:=u))<|by rintro K H Q ⟨A,O,s,P,S,N,h,k⟩;obtain⟨t,vs,C,w,r,y,h⟩:=Ez h;obtain⟨p,n,J,I,D,L,_⟩:=LH S B C;refine⟨_,J,p,n,w,rfl,I,vU (by rw[<-D];exact r),y,λq g v a b=>?_⟩;have sm:aA H (upd H q (.lst (g.map V.str))):=aK v _;exact k _ _ _ (h g a b) sm (.new v aD (qa g) (qa g))
theorem OU(D:VE X M R .s a ta):VE X M R .s (.FormattedValue a (-1) none pos) (λl Q=>ta l λw=>DZ w Q):=by
 rintro g s n H Q I ⟨A,F,l,P,S,E,h,k⟩;refine FormattedValue_plain (bD (D g s n H (λv d=>∃w,DZ w P/\aA H d/\Rep X.K (FB A M n) d w v) I ⟨A,F,l,_,S,E,h,λw v d f r j=>⟨w,f,r,j.aS⟩⟩) λu r hz=>?_);obtain⟨q,d,z,y,w,f,sm,j⟩:=hz;cases w with
 |str x=>have e:q=.str x:=j;subst e;obtain⟨t,rfl⟩:=y;exact formatField_str (λC B=>⟨.str x,d,z.tok B,⟨C,rfl⟩,k _ _ d f.2 sm (.of (mE _))⟩) (FV f.1 (by decide))
 |int i=>have e:q=.int i:=j;subst e;obtain⟨t,rfl⟩:=y;exact formatField_int_small f.1 ⟨.str _,d,z.tok _,⟨_,rfl⟩,k _ _ d f.2 sm (.of (mE _))⟩
 |_=>exact f.elim
end
section
variable{X:Cx}{M M':Ms}{m m0:Md}{st:Stmt}{i n:Nat}{e e1:Expr}{te t1:(Addr->Prop)->WT}{π:List jE}
theorem OV(t:∀{x:TE},PE X e x->PS X st (oY (Rl X.K "list" zh (mG X.K i π) (sj x AO))))(P:(i,m0)∈M)(O:iT m0 π=some .f)(he:∀R,VE X M R .f e (te R)):
 VS X M m st (λd a=>match look a i with|some g=>(match bI g π with|some (.lst l)=>(te d.ex a λw=>match w with|.lst y=>l.length+y.length<=sizeLine/\d.nx (a.set i (some (setAt g π (.lst (l++y)))))|_=>False)|_=>False)|none=>False):=by
 rintro c s J H D I ⟨A,H0,a,d,S,Y,hz,h,k⟩;obtain⟨g,l,e1,Z,h⟩:=En h;obtain⟨N,p,j,T,Q,E,C,hB,b⟩:=jF S P O e1 Z;refine t (he d.ex) c s J H D I ⟨N,_,T,Q,.inl ⟨rfl,j,.inl (.inl E)⟩,A,H0,a,_,S,Y,h,λw v H1 B o r=>?_⟩;obtain⟨L,q,u,rfl,rfl,hq,U,F⟩:=cU.Lu r;obtain⟨A',a1,a2,_,_,S'⟩:=b H1 o (l++L) (j++u) ((C.same o).app (F.less λ_ z=>.inl z));exact⟨p,q,j,u,rfl,rfl,o _ _ E,U,by rw[C.len,F.len];exact B.1,k.nx A' _ _ _ a1 a2 B.2 S'⟩
section
variable{K:Frag}{B:Addr->Prop}{H:Hp}{j:Str}
theorem vV(k:Key):Rw j (nq k)=decide (k=HK j):=by
 cases k with
 |inr i=>
  show decide (i=j)=_;by_cases e:i=j
  .rw[e,Bz rfl,Bz rfl]
  .rw[DL e,DL (λz=>e (by cases z;rfl))]
 |inl x=>exact(DL (λz=>by cases z)).symm
theorem vW:∀kvs:List (Key×V),(kvs.map λx=>nq x.1).any (Rw j)=kvs.any λa=>decide (a.1=HK j)
 |[]=>rfl
 |x::kvs=>by rw[Hn,LR,LR,vW kvs,vV]
theorem Bu{w:W}{v:V}{kvs:List (Key×V)}{a:List W}(h:aj K B H a (kvs.map (·.2)))(r:Rep K B H w v):
 zo j (kvs.map λx=>nq x.1)=(putK kvs (.inr j) v).map (λx=>nq x.1)/\aj K B H (zp j w (kvs.map λx=>nq x.1) a) ((putK kvs (.inr j) v).map (·.2)):=by
 unfold zo zp putK;rw[vW];by_cases e:(kvs.any λb=>decide (b.1=HK j))=true
 .rw[Do e,Do e,Do e];clear e;constructor
  .rw[VG];refine W9 λx _=>?_;show _=nq (if x.1=HK j then(x.1,v)else x).1;split<;>rfl
  .induction kvs generalizing a with
   |nil=>
    cases a with
    |nil=>exact .nil
    |cons _ _=>obtain⟨_,_,e,_⟩:=h;cases e
   |cons x kvs c=>
    cases a with
    |nil=>have h:(x::kvs).map (·.2)=[]:=h;cases h
    |cons u a=>
     obtain⟨y,q,e,f,d⟩:=h;cases e;refine⟨_,_,rfl,?_,c d⟩;show Rep K B H (if Rw j (nq x.1)=true then w else u) (if x.1=HK j then(x.1,v)else x).2;rw[vV];by_cases e:x.1=HK j
     .rw[Do (Bz e),Do e];exact r
     .rw[Bi (by rw[P2];exact e),Bi e];exact f
 .rw[Bi e,Bi e,Bi e];constructor
  .rw[Kk];rfl
  .rw[Kk];exact h.app (.cons r .nil)
end
theorem OW(t:∀{y B:TE},PE X e y->PE X e1 B->PS X st (oZ y (Sa (i6 i) B LI)))(Y:(i,.d)∈M)(he:∀R,VE X M R .s e (te R))(U:∀R,VE X M R .s e1 (t1 R)):
 VS X M m st (λd b=>te d.ex b λw=>match look b i with|some (.dct l vs)=>(t1 d.ex b λx=>(match x with|.str j=>l.length<sizeLine/\d.nx (b.set i (some (.dct (zo j l) (zp j w l vs))))|_=>False))|_=>False):=by
 rintro g s O H D I ⟨A,N,b,d,S,K,hz,h,k⟩;refine t (he d.ex) (U d.ex) g s O H D I ⟨A,N,b,_,S,K,h,λw v H1 q C r=>?_⟩;obtain⟨l,vs,T,q⟩:=Ez q;obtain⟨p,o,h1,h3,L,Z,f⟩:=LH S Y T;refine⟨_,h1,A,N,b,_,S.same C,K,q,λz P H2 a s2 Q=>?_⟩;cases z with
 |str j=>
  obtain⟨J,a⟩:=a;have c:=C.trans s2;have ez:P=.str j:=Q.aS;subst ez;obtain⟨F,E⟩:=Bu (j:=j) (Z.same c) (r.aS.same s2);rw[<-L]at F E;obtain⟨A',a1,a2,S'⟩:=f H2 c _ _ _ F E;have u:o.length<sizeLine:=by have:=Hb Dr L;rw[Fk]at this;omega
  exact⟨p,_,rfl,DH.k (k:=HK j) (c _ _ h3) u,k.nx A' _ _ _ a1 a2 a S'⟩
 |_=>exact a.elim
theorem IX{R:Addr->Prop}{a:Expr}{pos:Pos}{ta:vS}(g:zC X M R a ta):zC X M R (.UnaryOp .Not a pos) (λd Q=>ta d λx c=>truth x λb=>Q (.bl (!b)) c):=PT.imp (C1 g)<|by rintro u H Q ⟨A,s,d,P,S,l,h,k⟩;refine⟨A,s,d,_,S,l,h,λt x r o f j p=>?_⟩;obtain⟨q,rfl,f⟩:=aY f;obtain⟨b,e,z⟩:=k t _ r o f j p;cases e;exact⟨q,rfl,z⟩
end
section
variable{X:Cx}{M:Ms}{R:Addr->Prop}{m:Md}{e:Expr}{es:List Expr}{tl:LD}{pos p:Pos}{i:Nat}{x:Str}
theorem OX{k n:Nat}{Y:Value}{sp:aV}(F:bU X.prog X.w X.K X.mg X.base k Y n (xu X.K n m sp))(hr:cC k X.A)(hv:PE X (.Name x p) (i6 i))(hi:¬aM M i)
 (hn:∀b P R,sp b P R->b.length=n)(ha:Ep X M R (e::es) tl)(he:starEach (e::es) X.env=(false,eval e X.env)::starEach es X.env)(J:(backTo pos (starEach es X.env)).any (·.1)=false):
 VP X M R (.Call (.Name x p) (e::es) [] pos) (λj Q=>match look j i with|some (.fn a)=>Y=.ref a/\(tl j λb y=>sp b (λw=>Q w y) R)|_=>False):=by
 rintro c s t H Q I ⟨A,H0,j,P,S,er,h,kk⟩
 try dsimp only at h
 cases L:look j i with
 |none=>rw[L]at h;exact h.elim
 |some w0=>
  rw[L]at h;cases w0 with
  |fn a=>obtain⟨rfl,h⟩:=h;obtain⟨v0,hs,D⟩:=S.sh i _ hi L;have D:v0=.ref a:=D;subst D;obtain⟨E,T,U,hR⟩:=er;refine SF (bD (hv c s t H (λv o=>v=.ref a/\o=H) I ⟨_,hs,rfl,rfl⟩) λu s1 hz=>?_);obtain⟨x1,H1,I1,rx,e1,e2⟩:=hz;subst e1 e2;obtain rfl:u=Value.ref a:=rx;refine Tb (h₀:=X.base) I1.ok.mod.Ld F.keep (bD (ha pos c s1 t H1 (λz l=>∃b d f,Go A H1 d l/\SR X.K M d H0 t l f/\aj X.K d.B l b z/\sp b (λw=>P w f) R) I1 ⟨A,H0,j,_,S,⟨E,T,U,hR⟩,h,λd b z l f hw N g rs=>⟨b,d,f,N,g,rs,hw⟩⟩) λus s2 hz=>?_) he J;obtain⟨z,l,Z,r,b,d,f,N,g,rs,O⟩:=hz;refine⟨Z.jT,?_⟩;exact F.run hr (T _ _) Z r ⟨d.B,b,_,R,hn _ _ _ O,rs,g.dom,O,λw v o pw q r'=>kk d w v o f pw (N.trans (.same q)) (g.same q) (r'.rep g.dom),λC o rc q=>U C o rc (g.sm.trans q)⟩
  |_=>exact h.elim
theorem OY{tt:(Addr->Prop)->vS}(he:∀R,VP X M R e (tt R)):VS X M .s (.Return (some e) pos) (λd b=>tt d.ex b λw _=>d.rt w):=by rintro a s f H D I ⟨A,q,b,d,S,n,hz,h,k⟩;refine lW (he d.ex) a s f H D I ⟨A,q,b,_,S,n,h,λt w v o j l g c r=>?_⟩;exact k.rt w v o l c.sm (.of rfl (.of (r.less λp z=>c.sub' p (by rw[g.ab];exact z))))
end
noncomputable def OZ(n:Nat):Md->Md
 |.o b a=>.o b (a.set n .s)
 |m=>m
noncomputable def GN(M:Ms)(i n:Nat):Ms:=M.map λx=>if x.1=i then(x.1,OZ n x.2)else x
theorem aQ{M:Ms}{i n j:Nat}:aM (GN M i n) j↔aM M j:=by
 constructor
 .rintro⟨m,h⟩;obtain⟨⟨a,b⟩,d,c⟩:=Kb.mp h;by_cases e:a=i
  .rw[Do e]at c;cases c;exact⟨_,d⟩
  .rw[Bi e]at c;cases c;exact⟨_,d⟩
 .rintro⟨m,h⟩;by_cases e:j=i
  .exact⟨OZ n m,Kb.mpr ⟨_,h,by rw[Do e]⟩⟩
  .exact⟨m,Kb.mpr ⟨_,h,by rw[Bi e]⟩⟩
theorem EB{M:Ms}{i n j:Nat}{m:Md}(h:(j,m)∈GN M i n)(e:j≠i):(j,m)∈M:=by
 obtain⟨⟨a,b⟩,d,c⟩:=Kb.mp h;by_cases q:a=i
 .rw[Do q]at c;cases c;exact(e q).elim
 .rw[Bi q]at c;cases c;exact d
theorem Ua{M:Ms}{i n j:Nat}{m:Md}(h:(j,m)∈M)(e:j≠i):(j,m)∈GN M i n:=Kb.mpr ⟨_,h,by rw[Bi e]⟩
theorem Ub{M:Ms}{i n:Nat}{m:Md}(h:(i,m)∈M):(i,OZ n m)∈GN M i n:=Kb.mpr ⟨_,h,by rw[Do rfl]⟩
section
variable{K:Frag}{A B:Addr->Prop}{H H':Hp}
theorem dI.out:∀(c:List Md){i:List W}{vs:List V}{F:List Addr}{n:Nat}{l:List W},dI K A H c i vs F->c[n]?=some .f->i[n]?=some (.lst l)->
 ∃p b g d,vs[n]?=some (.ref p)/\F=g++p::d/\H p=some (.lst b)/\aj K A H l b/\dI K A H (c.set n .s) (i.set n (.cls p)) vs (g++d)
 |[],_,_,_,n,l,_,e,_=>by cases e
 |m0::c,i,vs,F,0,l,h,o,m=>by obtain⟨r,q,v,a,g,d,rfl,rfl,rfl,k,j⟩:=h;cases o;cases m;obtain⟨E,p,b,e,rfl,rfl,D,C⟩:=k;cases e;exact⟨p,b,[],d,rfl,rfl,D,C,.cls p,q,.ref p,a,[],d,rfl,rfl,rfl,⟨rfl,rfl⟩,j⟩
 |m0::c,i,vs,F,n+1,l,h,o,m=>by obtain⟨r,q,v,a,g,d,rfl,rfl,rfl,k,j⟩:=h;obtain⟨p,b,u,t,z,rfl,y,x,w⟩:=dI.out c j (n:=n) (by simpa using o) (by simpa using m);exact⟨p,b,g++u,t,by simpa using z,by simp,y,x,r,q.set n (.cls p),v,a,g,u++t,rfl,rfl,by simp,k,w⟩
theorem dI.Zz:∀(d:List Md){j:List W}{vs:List V}{F:List Addr}{n:Nat}{l:List W}{p:Addr}{c:List V},dI K A H (d.set n .s) j vs F->d[n]?=some .f->j[n]?=some (.cls p)->H p=some (.lst c)->aj K A H l c->
 ∃i g,F=i++g/\dI K A H d (j.set n (.lst l)) vs (i++p::g)
 |[],_,_,_,n,l,p,c,_,e,_,_,_=>by cases e
 |m0::d,j,vs,F,0,l,p,c,h,t,r,m,k=>by obtain⟨w,u,v,a,i,g,rfl,rfl,rfl,b,o⟩:=h;cases t;cases r;obtain⟨rfl,b⟩:=b;have b:v=.ref p:=b;subst b;exact⟨[],g,rfl,.lst l,u,.ref p,a,[p],g,rfl,rfl,rfl,⟨l,p,c,rfl,rfl,rfl,m,k⟩,o⟩
 |m0::d,j,vs,F,n+1,l,p,c,h,t,r,m,k=>by obtain⟨w,u,v,a,i,g,rfl,rfl,rfl,b,o⟩:=h;obtain⟨y,x,rfl,q⟩:=dI.Zz d o (n:=n) (by simpa using t) (by simpa using r) m k;exact⟨i++y,x,by simp,w,u.set n (.lst l),v,a,i,y++p::x,rfl,rfl,by simp,b,q⟩
end
open Classical in
noncomputable def sU(B C:Addr->Prop)(H:Hp):Hp:=λp=>if B p/\¬C p then none else H p
theorem Bv{B C:Addr->Prop}{H:Hp}{p:Addr}{o:HO}(h:sU B C H p=some o):H p=some o/\¬(B p/\¬C p):=by
 unfold sU at h;split at h
 .cases h
 .exact⟨h,by assumption⟩
theorem zH{B C:Addr->Prop}{H:Hp}{p:Addr}{o:HO}(h:H p=some o)(n:¬(B p/\¬C p)):sU B C H p=some o:=by unfold sU;rw[Bi n];exact h
section
variable{K:Frag}{M:Ms}{A:Fz}{H0 H:Hp}{σ:St}{ε:Ev}{i n:Nat}{fs:List Str}{ms:List Md}{C:Addr}{ws l:List W}
theorem SR.view(S:SR K M A H0 σ H ε)(Y:(i,.o fs ms)∈M)(hn:ms[n]?=some .f)(hl:look ε i=some (.obj C fs ws))(hw:ws[n]?=some (.lst l)):
 ∃(q Q p:Addr)(vs L:List V)(T:Fz)(IY:Hp),σ[i]?=some (some (.ref q))/\H q=some (.ins C Q (fs.zip vs))/\vs.length=fs.length/\rH K C fs/\vs[n]?=some (.ref p)/\H p=some (.lst L)/\aj K A.B H l L/\aA H0 IY/\IY p=some (.lst L)/\H0 p=none/\¬A.ab p/\T.s0=A.s0/\(∀a,T.ab a↔A.ab a\/a=p)/\(∀a,T.B a↔A.B a)/\
  SR K (GN M i n) T IY σ H (ε.set i (some (.obj C fs (ws.set n (.cls p))))):=by
 obtain⟨F,O⟩:=S.ow;obtain⟨v,hv,fp⟩:=O.val i _ _ Y hl;obtain⟨C',Q,cR,q,vs,F',e1,rfl,P,h1,h2,hc,fl⟩:=fp;cases e1;obtain⟨p,L,J,I,g1,rfl,Z,g4,g5⟩:=dI.out ms fl hn hw;have D:aM M i:=⟨_,Y⟩;have nd:(q::(J++p::I)).Nodup:=by rw[<-P];exact O.nd i D
 have Vy:=(Jn.mp nd).2;have N:p∈F i:=by rw[P];simp
 have pB:A.B p:=(O.all p).mpr (.inr ⟨i,D,N⟩);have X:¬A.ab p:=O.na i p D N;have pn:p∉q::(J++I):=by
  intro z;rcases FC.mp z with z|z
  .exact(Jn.mp nd).1 (by rw[<-z];simp)
  .obtain⟨E,a2,a3⟩:=Pm.mp Vy;rcases Fh.mp z with z|z
   .exact a3 p z p BM rfl
   .exact(Jn.mp a2).1 z
 let ZA:Addr->Prop:=λa=>A.ab a\/a=p
 have lt:=lg hl;have r:∀a∈q::(J++I),a∈F i:=λa g=>by
  rw[P];rcases FC.mp g with z|z
  .rw[z];exact BM
  .refine B1 _ ?_;rcases Fh.mp z with z|z
   .exact He _ z
   .exact FK _ (B1 _ z)
 have Xa:∀a∈F i,a=p\/a∈q::(J++I):=λa g=>by
  rw[P]at g;rcases FC.mp g with z|z
  .exact .inr (by rw[z];exact BM)
  .rcases Fh.mp z with z|z
   .exact .inr (B1 _ (He _ z))
   .rcases FC.mp z with z|z
    .exact .inl z
    .exact .inr (B1 _ (FK _ z))
 refine⟨q,Q,p,vs,L,⟨ZA,A.B,A.s0⟩,sU A.B ZA H,hv,h1,h2,hc,g1,Z,g4,λa o e=>?_,zH Z (λz=>z.2 (.inr rfl)),O.nw i p D N,X,rfl,λa=>YP,λa=>YP,?_⟩
 .refine zH (S.sm a o e) λz=>?_;rcases(O.all a).mp z.1 with y|⟨j,d,s⟩
  .exact z.2 (.inl y)
  .rw[O.nw j a d s]at e;cases e
 .refine⟨by rw[L9];exact S.len,λj w d e=>?_,λa o e=>(Bv e).1,λa z=>?_,λu e=>?_,λj=>if j=i then q::(J++I)else F j,⟨λj m1 m2 a b=>?_,λj m w d e=>?_,λj d e=>?_,λj d=>?_,λj k a d hk x y=>?_,λj a d g=>?_,λj a d g=>?_,λa=>?_⟩⟩
  .have d:¬aM M j:=λz=>d (aQ.mpr z);have c:i≠j:=by rintro rfl;exact d D
   rw[aF c]at e;exact S.sh j w d e
  .rcases z with z|z
   .exact S.dm a z
   .exact⟨_,by rw[z];exact Z⟩
  .exact⟨(S.sl u e).1,aQ.mpr (S.sl u e).2⟩
  .by_cases c:j=i
   .subst c;obtain⟨⟨E,b1⟩,c1,t⟩:=Kb.mp a;obtain⟨⟨a2,b2⟩,c2,R⟩:=Kb.mp b;have U:E=j:=by
     by_cases z:E=j
     .exact z
     .rw[Bi z]at t;cases t;rfl
    have x2:a2=j:=by
     by_cases z:a2=j
     .exact z
     .rw[Bi z]at R;cases R;rfl
    subst U;subst x2;rw[Do rfl]at t R;have:=O.un _ _ _ c1 c2;subst this;cases t;cases R;rfl
   .exact O.un j m1 m2 (EB a c) (EB b c)
  .by_cases c:j=i
   .subst c;have:=gC e;subst this;obtain⟨⟨E,b1⟩,c1,t⟩:=Kb.mp d;have U:E=j:=by
     by_cases z:E=j
     .exact z
     .rw[Bi z]at t;cases t;rfl
    subst U;rw[Do rfl]at t;have:=O.un _ _ _ c1 Y;subst this;cases t;refine⟨_,hv,?_⟩;rw[Do rfl];exact⟨C,Q,ws.set n (.cls p),q,vs,J++I,rfl,rfl,rfl,h1,h2,hc,g5⟩
   .rw[aF (OF c)]at e;rw[Bi c];exact O.val j m w (EB d c) e
  .by_cases c:j=i
   .subst c;have:look (ε.set j (some (.obj C fs (ws.set n (.cls p))))) j=some (.obj C fs (ws.set n (.cls p))):=by rw[aW];exact Kj lt
    rw[this]at e;cases e
   .rw[aF (OF c)]at e;rw[Bi c];exact O.emp j (aQ.mp d) e
  .by_cases c:j=i
   .rw[Do c];refine Jn.mpr ⟨λz=>(Jn.mp nd).1 ?_,?_⟩
    .rcases Fh.mp z with z|z
     .exact He _ z
     .exact FK _ (B1 _ z)
    .obtain⟨E,a2,a3⟩:=Pm.mp Vy;exact Pm.mpr ⟨E,(Jn.mp a2).2,λx hx y hy=>a3 x hx y (B1 _ hy)⟩
   .rw[Bi c];exact O.nd j (aQ.mp d)
  .have up:∀j,aM (GN M i n) j->∀a,a∈(if j=i then q::(J++I)else F j)->a∈F j:=λj d a g=>by
    by_cases c:j=i
    .rw[Do c]at g;rw[c];exact r a g
    .rw[Bi c]at g;exact g
   exact O.ds j k a (aQ.mp d) (aQ.mp hk) (up j d a x) (up k hk a y)
  .have h:a∈F j/\a≠p:=by
    by_cases c:j=i
    .rw[Do c]at g;exact⟨by rw[c];exact r a g,λz=>pn (by rw[<-z];exact g)⟩
    .rw[Bi c]at g;exact⟨g,λz=>c (O.ds j i p (aQ.mp d) D (by rw[<-z];exact g) N)⟩
   unfold sU;rw[Do ⟨(O.all a).mpr (.inr ⟨j,aQ.mp d,h.1⟩),λz=>z.elim (O.na j a (aQ.mp d) h.1) h.2⟩]
  .have h:a∈F j/\a≠p:=by
    by_cases c:j=i
    .rw[Do c]at g;exact⟨by rw[c];exact r a g,λz=>pn (by rw[<-z];exact g)⟩
    .rw[Bi c]at g;exact⟨g,λz=>c (O.ds j i p (aQ.mp d) D (by rw[<-z];exact g) N)⟩
   exact λz=>z.elim (O.na j a (aQ.mp d) h.1) h.2
  .constructor
   .intro z;rcases(O.all a).mp z with y|⟨j,d,s⟩
    .exact .inl (.inl y)
    .by_cases c:j=i
     .subst c;rcases Xa a s with y|y
      .exact .inl (.inr y)
      .exact .inr ⟨j,aQ.mpr d,by rw[Do rfl];exact y⟩
     .exact .inr ⟨j,aQ.mpr d,by rw[Bi c];exact s⟩
   .rintro(z|⟨j,d,s⟩)
    .rcases z with z|z
     .exact(O.all a).mpr (.inl z)
     .rw[z];exact pB
    .by_cases c:j=i
     .rw[Do c]at s;exact(O.all a).mpr (.inr ⟨i,D,r a s⟩)
     .rw[Bi c]at s;exact(O.all a).mpr (.inr ⟨j,aQ.mp d,s⟩)
theorem SR.back{t:Fz}{IY H1:Hp}{X:Ev}{p:Addr}{xs L:List V}{N J:List W}(un:∀j m1 m2,(j,m1)∈M->(j,m2)∈M->m1=m2)(D:SR K (GN M i n) t IY σ H1 X)(Y:(i,.o fs ms)∈M)(hn:ms[n]?=some .f)(s0:aA H0 IY)(hp:IY p=some (.lst xs))(Q:H0 p=none)(ZC:¬A.ab p)(es:t.s0=A.s0)(I:∀a,t.ab a↔A.ab a\/a=p)
 (hl:look X i=some (.obj C fs J))(hw:J[n]?=some (.cls p))(hr:aj K t.B H1 N L):SR K M ⟨A.ab,t.B,A.s0⟩ H0 σ (upd H1 p (.lst L)) (X.set i (some (.obj C fs (J.set n (.lst N))))):=by
 obtain⟨F,O⟩:=D.ow;have r:aM M i:=⟨_,Y⟩;have P:H1 p=some (.lst xs):=D.sm _ _ hp;have pB:t.B p:=(O.all p).mpr (.inl ((I p).mpr (.inr rfl)));have E:∀j,aM M j->p∉F j:=λj c z=>O.na j p (aQ.mpr c) z ((I p).mpr (.inr rfl));have cB:sO t.B H1 (upd H1 p (.lst L)):=.put P rfl pB;have cO:∀G:Addr->Prop,¬G p->nv t.B G H1 (upd H1 p (.lst L)):=λG hG a o e=>by
  by_cases z:a=p
  .subst z;rw[P]at e;cases e;exact .inl ⟨rfl,pB,hG⟩
  .exact .inr (by rw[ay z];exact e)
 obtain⟨v,hv,fp⟩:=O.val i _ _ (Ub Y) hl;obtain⟨C',dx,ws2,q,vs,F',e1,rfl,d,h1,h2,hc,fl⟩:=fp;cases e1;have qp:q≠p:=λz=>E i r (by rw[d,<-z];exact BM);have fl2:dI K t.B (upd H1 p (.lst L)) (ms.set n .s) J vs F':=dI.chg (cO (·∈F') (λz=>E i r (by rw[d];exact B1 _ z))) (λ_ _ _ z=>z) _ (λ_ z=>z) fl;obtain⟨U,T,rfl,Z⟩:=dI.Zz ms fl2 hn hw aD (aj.chg cB (λ_ _ _ z=>z) N hr);have lt:=lg hl;refine⟨by rw[L9];exact D.len,λj w c e=>?_,λa o e=>?_,λa z=>?_,λu e=>?_,λj=>if j=i then q::(U++p::T)else F j,⟨un,λj m w c e=>?_,λj c e=>?_,λj c=>?_,λj k a c hk x y=>?_,λj a c g=>?_,λj a c g=>?_,λa=>?_⟩⟩
 .have b:i≠j:=by rintro rfl;exact c r
  rw[aF b]at e;obtain⟨u,S,R⟩:=D.sh j w (λz=>c (aQ.mp z)) e;exact⟨u,S,Rep.chg cB (λ_ _ _ z=>z) w R⟩
 .have:a≠p:=λz=>by rw[z,Q]at e;cases e
  rw[ay this];exact D.sm _ _ (s0 _ _ e)
 .obtain⟨o,e⟩:=D.dm a ((I a).mpr (.inl z));exact⟨o,by rw[ay (λy=>ZC (by rw[<-y];exact z))];exact e⟩
 .obtain⟨S,R⟩:=D.sl u (by rw[es];exact e);exact⟨S,aQ.mp R⟩
 .by_cases b:j=i
  .subst b;have:=gC e;subst this;have:=un _ _ _ c Y;subst this;refine⟨_,hv,?_⟩;rw[Do rfl];exact⟨C,dx,_,q,vs,U++p::T,rfl,rfl,rfl,by rw[ay qp];exact h1,h2,hc,Z⟩
  .rw[aF (OF b)]at e;rw[Bi b];obtain⟨u,S,R⟩:=O.val j m w (Ua c b) e;exact⟨u,S,Fp.chg (cO (·∈F j) (E j ⟨m,c⟩)) (λ_ _ _ z=>z) m (λ_ z=>z) R⟩
 .by_cases b:j=i
  .subst b;have:look (X.set j (some (.obj C fs (J.set n (.lst N))))) j=some (.obj C fs (J.set n (.lst N))):=by rw[aW];exact Kj lt
   rw[this]at e;cases e
  .rw[aF (OF b)]at e;rw[Bi b];exact O.emp j (aQ.mpr c) e
 .by_cases b:j=i
  .rw[Do b];have nd:(q::(U++T)).Nodup:=by rw[<-d];exact O.nd i (aQ.mpr r)
   have pq:p∉q::(U++T):=by rw[<-d];exact E i r
   obtain⟨n1,n2⟩:=Jn.mp nd;obtain⟨a1,a2,a3⟩:=Pm.mp n2;refine Jn.mpr ⟨λz=>?_,Pm.mpr ⟨a1,Jn.mpr ⟨λz=>pq (B1 _ (FK _ z)),a2⟩,λx hx y hy e=>?_⟩⟩
   .rcases Fh.mp z with z|z
    .exact n1 (He _ z)
    .rcases FC.mp z with z|z
     .exact qp z
     .exact n1 (FK _ z)
   .rcases FC.mp hy with z|z
    .exact pq (by rw[<-z,<-e];exact B1 _ (He _ hx))
    .exact a3 x hx y z e
  .rw[Bi b];exact O.nd j (aQ.mpr c)
 .have up:∀j,∀a,a∈(if j=i then q::(U++p::T)else F j)->a∈F j\/(a=p/\j=i):=λj a g=>by
   by_cases b:j=i
   .rw[Do b]at g;rw[b,d];rcases FC.mp g with z|z
    .exact .inl (by rw[z];exact BM)
    .rcases Fh.mp z with z|z
     .exact .inl (B1 _ (He _ z))
     .rcases FC.mp z with z|z
      .exact .inr ⟨z,rfl⟩
      .exact .inl (B1 _ (FK _ z))
   .rw[Bi b]at g;exact .inl g
  rcases up j a x with x|⟨x,e⟩
  .rcases up k a y with y|⟨y,e⟩
   .exact O.ds j k a (aQ.mpr c) (aQ.mpr hk) x y
   .exact(E j c (by rw[<-y];exact x)).elim
  .rcases up k a y with y|⟨y,e'⟩
   .exact(E k hk (by rw[<-x];exact y)).elim
   .rw[e,e']
 .by_cases b:j=i
  .rw[Do b]at g;rcases FC.mp g with z|z
   .rw[z];exact s0.free (O.nw i q (aQ.mpr r) (by rw[d];exact BM))
   .rcases Fh.mp z with z|z
    .exact s0.free (O.nw i a (aQ.mpr r) (by rw[d];exact B1 _ (He _ z)))
    .rcases FC.mp z with z|z
     .rw[z];exact Q
     .exact s0.free (O.nw i a (aQ.mpr r) (by rw[d];exact B1 _ (FK _ z)))
  .rw[Bi b]at g;exact s0.free (O.nw j a (aQ.mpr c) g)
 .by_cases b:j=i
  .rw[Do b]at g;have na:∀a∈F i,¬A.ab a:=λa h z=>O.na i a (aQ.mpr r) h ((I a).mpr (.inl z));rcases FC.mp g with z|z
   .exact na a (by rw[d,z];exact BM)
   .rcases Fh.mp z with z|z
    .exact na a (by rw[d];exact B1 _ (He _ z))
    .rcases FC.mp z with z|z
     .rw[z];exact ZC
     .exact na a (by rw[d];exact B1 _ (FK _ z))
  .rw[Bi b]at g;exact λz=>O.na j a (aQ.mpr c) g ((I a).mpr (.inl z))
 .show t.B a↔_;rw[O.all a,I a];constructor
  .rintro((z|z)|⟨j,c,z⟩)
   .exact .inl z
   .exact .inr ⟨i,r,by rw[Do rfl,z];exact B1 _ (FK _ BM)⟩
   .refine .inr ⟨j,aQ.mp c,?_⟩;by_cases b:j=i
    .rw[Do b];rw[b,d]at z;rcases FC.mp z with z|z
     .rw[z];exact BM
     .refine B1 _ ?_;rcases Fh.mp z with z|z
      .exact He _ z
      .exact FK _ (B1 _ z)
    .rw[Bi b];exact z
  .rintro(z|⟨j,c,z⟩)
   .exact .inl (.inl z)
   .by_cases b:j=i
    .rw[Do b]at z;rcases FC.mp z with z|z
     .exact .inr ⟨i,aQ.mpr r,by rw[d,z];exact BM⟩
     .rcases Fh.mp z with z|z
      .exact .inr ⟨i,aQ.mpr r,by rw[d];exact B1 _ (He _ z)⟩
      .rcases FC.mp z with z|z
       .exact .inl (.inr z)
       .exact .inr ⟨i,aQ.mpr r,by rw[d];exact B1 _ (FK _ z)⟩
    .rw[Bi b]at z;exact .inr ⟨j,aQ.mpr c,z⟩
end
section
variable{X:Cx}{M:Ms}{m:Md}{st:Stmt}{i n:Nat}{e:Expr}{fs:List Str}{ms:List Md}{x:Str}
theorem O2(Q:∀{tv:TE},PE X e tv->PS X st (oY (Rl X.K "list" kX (mG X.K i [.fl n x]) (sj tv AO))))(T:(i,.o fs ms)∈M)(hf:fs[n]?=some x)(hn:ms[n]?=some .f)(un:∀j m1 m2,(j,m1)∈M->(j,m2)∈M->m1=m2){tt:(Addr->Prop)->vS}(he:∀R,VP X (GN M i n) R e (tt R)):
 VS X M m st (λd J=>match look J i with|some (.obj C fs P)=>(∃l,P[n]?=some (.lst l)/\∀a:Addr,tt d.ex (J.set i (some (.obj C fs (P.set n (.cls a))))) λw c=>∃E,look c i=some (.obj C fs E)/\E[n]?=some (.cls a)/\l.length<sizeLine/\d.nx (c.set i (some (.obj C fs (E.set n (.lst (l++[w])))))))|_=>False):=by
 rintro t s σ H D I ⟨A,H0,J,d,S,er,hz,h,k⟩
 try dsimp only at h
 cases L:look J i with
 |none=>rw[L]at h;exact h.elim
 |some w0=>
  rw[L]at h;cases w0 with
  |obj C y P=>
   obtain⟨l,hw,h⟩:=h;have Y:y=fs:=by obtain⟨F,O⟩:=S.ow;obtain⟨v,hv,fp⟩:=O.val i _ _ T L;obtain⟨C',dx,E,q,Z,F',e1,_⟩:=fp;cases e1;rfl
   subst Y;obtain⟨q,dx,p,Z,N,A',IY,g1,g2,g3,hc,g4,g5,g6,s0,g7,g8,g9,es,ea,eb,S'⟩:=S.view T hn L hw;refine Q (he d.ex) t s σ H D I ⟨.ref q,.ref p,g1,⟨q,Z,.ref p,rfl,⟨C,dx,y,g2,g3,hc,hf⟩,g4,rfl⟩,.inl ⟨rfl,N,.inl (.inl g5)⟩,A',IY,_,_,S',er.up s0,h p,λA1 w v H1 bK b g S1 r=>?_⟩;obtain⟨E,U,Cu,u,b⟩:=b;have hr:aj X.K A1.B H1 l N:=g.W5 (g6.less λa z=>(eb a).mp z);have S2:=SR.back (A:=A) un S1 T hn s0 g7 g8 g9 (g.s0.trans es) (λa=>by rw[g.ab];exact ea a) U Cu (hr.app (.cons r .nil));exact⟨p,N,v,rfl,rfl,S1.sm _ _ g7,by rw[g6.len];exact u,k.nx ⟨A.ab,A1.B,A.s0⟩ _ _ _ rfl rfl b S2⟩
  |_=>exact h.elim
end
theorem SR.unset{K:Frag}{M:Ms}{A:Fz}{k H:Hp}{d:St}{b:Ev}(S:SR K M A k d H b){i:Nat}(g:¬aM M i):SR K M A k (d.set i none) H (b.set i none):=by
 obtain⟨F,O⟩:=S.ow;have f:∀{j w},look (b.set i none) j=some w->i≠j:=λ{j w} e z=>by subst z;rw[aW,Xe,Do rfl]at e;split at e<;>cases e
 refine⟨by rw[L9,L9];exact S.len,λj c a e=>?_,S.sm,S.dm,λu e=>?_,F,⟨O.un,λj m c l e=>?_,λj a e=>?_,O.nd,O.ds,O.nw,O.na,O.all⟩⟩
 .have n:=f e;rw[aF n]at e;rw[Hk n];exact S.sh j c a e
 .obtain⟨o,h⟩:=S.sl u e;exact⟨by rw[Hk (by rintro rfl;exact g h)];exact o,h⟩
 .have n:=f e;rw[aF n]at e;rw[Hk n];exact O.val j m c l e
 .have n:i≠j:=by rintro rfl;exact g a
  rw[aF n]at e;exact O.emp j a e
section
variable{X:Cx}{M:Ms}{R:Addr->Prop}{e a b o:Expr}{ta:WT}{m:Md}{pos p:Pos}{es:List Expr}{x:Str}
theorem O3{g:W}(T:VE X M R .s a ta)(O:VE X M R .s b (λ_ Q=>Q g))(N:Gl X x)(L:X.mg x=none)(J:bootBuiltins x=some (.builtin "isinstance"))(K:x≠"__name__")(t:(x==("__debug__":Str))=false)
 (he:starEach [a,b] X.env=(false,eval a X.env)::starEach [b] X.env)(U:starEach [b] X.env=(false,eval b X.env)::starEach [] X.env)(r:(backTo pos (starEach [b] X.env)).any (·.1)=false):
 VE X M R .s (.Call (.Name x p) [a,b] [] pos) (λf Q=>ta f λw=>HY w g Q):=
 PE.imp (gz pL N L J (aR T (aR O bS U) he) K t he r)<|by
  rintro Z H Q ⟨A,F,f,P,S,z,h,k⟩;refine⟨A,F,f,_,S,z,h,λw v H1 d j I=>⟨A,F,f,λi=>i=g,S.same j,z,rfl,λi v2 E Y s2 l=>?_⟩⟩;subst Y;have l:=l.aS;cases w with
  |err C=>
   obtain⟨q,rfl,u,_,B,_⟩:=(I.aS).same s2;cases i with
   |dU D ys ns=>
    obtain⟨rfl,_,y,n⟩:=l;rcases d with⟨c,d⟩|⟨c,d⟩
    .exact⟨q,C,_,_,true,rfl,u,B,.own D,(y C c).2.1,k _ _ E d (j.trans s2) (.of (rC _))⟩
    .exact⟨q,C,_,_,false,rfl,u,B,.own D,n C c,k _ _ E d (j.trans s2) (.of (rC _))⟩
   |_=>exact d.elim
  |_=>exact d.elim
theorem O4(y:VE X M R .s a ta)(u:PE X b (tC (.ty "ValueError")))(t:Gl X x)(r:X.mg x=none)(l:bootBuiltins x=some (.builtin "isinstance"))(n:x≠"__name__")(f:(x==("__debug__":Str))=false)
 (he:starEach [a,b] X.env=(false,eval a X.env)::starEach [b] X.env)(F:starEach [b] X.env=(false,eval b X.env)::starEach [] X.env)(d:(backTo pos (starEach [b] X.env)).any (·.1)=false):
 VE X M R .s (.Call (.Name x p) [a,b] [] pos) (λc Q=>ta c λw=>Th w Q):=
 PE.imp (gz pL t r l (aR y (aR u bS F) he) n f he d)<|by
  rintro K H Q ⟨A,J,c,P,S,B,h,k⟩;refine⟨A,J,c,_,S,B,h,λw v I g i j=>?_⟩;cases w with
  |err C=>obtain⟨q,rfl,z,_,E,D⟩:=j.aS;exact⟨q,C,_,_,true,rfl,z,E,.ty _,D,k _ _ I g i (.of (rC _))⟩
  |_=>exact g.elim
theorem IZ{w g:W}{Q:W->Prop}(h:Ti w g Q):∃C d c,w=.obj C d c/\g=.cls C/\Q (.obj C d c):=by
 cases w<;>first|exact h.elim|skip
 cases g<;>first|exact h.elim|skip
 obtain⟨rfl,h⟩:=h;exact⟨_,_,_,rfl,rfl,h⟩
noncomputable def tX(X:Cx)(M:Ms)(t:(Addr->Prop)->WT):TX:=λd H Q E=>∃A g f P R,SR X.K M A g d H f/\t R f P/\(∀w v c,P w->aA H c->Rep X.K (FB A M d) c w v->Q v c)/\∀C c,R C->aA H c->E (.ref C) none c
abbrev VX(X:Cx)(M:Ms)(e:Expr)(t:(Addr->Prop)->WT):Prop:=PX X e (tX X M t)
theorem LJ{Y:Cx}{c:List (Addr×Obj)}{d:St}{Q:VK}{E:XK}{t:Sem Value}{s:Shared}(h:wpAny (model X.prog X.w) X.A t (EP (X.iR (FX X c d E)) c d Q) (X.iR (FX X c d E)).xe s):wpAny (model X.prog X.w) X.A t (EP X c d Q) (FX X c d E) s:=
 Oy h (λ_ _ ⟨v,g,f,r,q⟩=>⟨v,g,f.eX,r,q⟩) λ_ _ z=>z
theorem EC{c:List (Addr×Obj)}{d:St}{E:XK}:∀H s e s',Inv (X.iR (FX X c d E)) c d H s->iY X.prog X.w X.stack H s E e s'->FX X c d E e s':=λH s e s' I h=>⟨H,s,I.eX,h⟩
theorem Ja{D:Ev->(List W->Prop)->Prop}{k n:Nat}{L:Value}{sp:aV}(F:bU X.prog X.w X.K X.mg X.base k L n (xu X.K n m sp))(hr:cC k X.A)(hg:Gl X x)(hm:X.mg x=some L)
 (hn:∀c P R,sp c P R->c.length=n)(ha:VA X.G3 M (λ_=>False) (e::es) D)(y:(x==("__debug__":Str))=false)(he:starEach (e::es) X.env=(false,eval e X.env)::starEach es X.env)(u:(backTo pos (starEach es X.env)).any (·.1)=false):
 VX X M (.Call (.Name x p) (e::es) [] pos) (λR j Q=>D j λc=>sp c Q R):=by
 rintro d s f H Q E I ⟨A,H0,j,P,R,S,h,U,Z⟩;refine SF (jC I hg hm ?_ y);refine Tb (h₀:=X.base) I.ok.mod.Ld F.keep (Oy (ha pos d s f H (λl g=>∃c,aA H g/\aj X.K (FB A M f) g c l/\sp c P R) (I.iR _) ⟨A,H0,j,_,S,.none,h,λc l g hw q rs=>⟨c,q,rs,hw⟩⟩) (λus q hz=>?_) λ_ _ z=>z.elim) he u;obtain⟨l,g,i,r,c,sm,rs,J⟩:=hz;have i:Inv X d f g q:=i.eX;exact⟨i.jT,LJ (Y:=X) (F.run (X:=X.iR (FX X d f E)) hr EC (i.iR _) r ⟨FB A M f,c,P,R,hn _ _ _ J,rs,(S.same sm).dom,J,λw v B T t O=>U w v B T (sm.trans t) (O.rep (S.same sm).dom),λC B N t=>Z C B N (sm.trans t)⟩)⟩
theorem O5{pl:Sem Bool}{G:W}{k n:Nat}{f:Addr}{U:FuncData}{ps:List Str}{sp:aV}{apos:Pos}{t:(Addr->Prop)->WT}(hG:∀C,G=.cls C->Meth X.K C x f)(F:bJ X.prog X.w X.K X.mg X.base (iY X.prog X.w) k f U ps (xu X.K n m sp))(hr:cC k X.A)(hb:Binds X.K U ps [])
 (hn:∀L P R,sp L P R->L.length=n)(ho:VX X M o t)
 (ht:eval (.Call (.Attribute o x apos) [] [] pos) X.env=(do
   let ov<-eval o X.env
   standAt apos.atName
   let(f,first)<-holding [ov] (getMethod ov x pl)
   callWith pos f first (backTo pos (starEach [] X.env)) (backToKw pos (keywordEach [] X.env)))):
 VX X M (.Call (.Attribute o x apos) [] [] pos) (λR l Q=>t R l λw=>Ti w G λy=>sp [y] Q λ_=>False):=by
 rintro c s i H Q E I ⟨A,H0,l,P,R,S,h,kk,ke⟩;refine X2 (pl:=pl) (bD (ho c s i H (λZ g=>∃w,(Ti w G λy=>sp [y] P λ_=>False)/\aA H g/\Rep X.K (FB A M i) g w Z) E I ⟨A,H0,l,_,R,S,h,λw v H1 d N j=>⟨w,d,N,j⟩,ke⟩) λu N hz=>?_) ht;obtain⟨x1,H1,J,rx,w,d,sm,j⟩:=hz;obtain⟨C,T,r,rfl,hg,d⟩:=IZ d;have B:=j;obtain⟨q,dx,vs,rfl,na,h1,h2,O,h3⟩:=j;obtain rfl:u=Value.ref q:=rx;have D:=hG C hg;refine ig J h1 O.1 D (EA D T vs O.2.2.2) ?_;refine callWith_K0 (first:=[.ref q]) J.jT D.kp (LJ (Y:=X) (pG (X:=X.iR (FX X c i E)) (us:=[.ref q]) (vs:=[.ref q]) (ds:=[]) (AR:=[]) F hr hb .nil EC (J.iR _) (.cons rfl .nil) ?_));rw[NA];exact⟨FB A M i,[.obj C T r],P,λ_=>False,hn _ _ _ d,.cons B .nil,(S.same sm).dom,d,λw v g pw s' r'=>kk w v g pw (sm.trans s') (r'.rep (S.same sm).dom),λC g z _=>z.elim⟩
theorem O6{j i l:Nat}{y n z:Str}{D:Addr}{F ns:List Addr}{t:(Addr->Prop)->WT}{p0 p1 p2 p3 p4 p5 np:Pos}{x:Str}(O:X.stack=X.env::X.outer/\X.env.frame=some X.env.locals)(hN:X.N.Nodup)(hj:X.N[j]?=some y)(hy:Loc X.env.scope y)(T:X.N[i]?=some n)(hl:X.env.scope.names.lookup n=some .local)
 (hz:X.N[l]?=some z)(P:Loc X.env.scope z)(Q:i≠l)(hg:Gl X x)(hm:X.mg x=some (.ref D))(E:S7 X.K D F ns)(ye:F≠[])(GO:∀x,X.fn x=true)(oj:¬aM M j)(oi:¬aM M i)(ol:¬aM M l)(he:VX X M e t)
 (L:swapsWith e (some (.Name y p0)) p1.line X.env=pure false)(r:swapsWith (.Name n p4) (some (.Name z p3)) p5.line X.env=pure false)(U:(x==("__debug__":Str))=false)(Y:(n==("__debug__":Str))=false)(Z:(n==("__classdict__":Str))=false):
 VS X M m (.Try [.Assign [.Name y p0] e p1] [.ExceptHandler (some (.Name x np)) (some n) [.Assign [.Name z p3] (.Name n p4) p5] p2] [] [] pos) (λd g=>t (λC=>C∈F/\d.nx ((g.set l (some (.err C))).set i none)) g λw=>d.nx (g.set j (some w))):=by
 rintro q s f H W I ⟨A,H0,g,d,S,er,hs,h,k⟩;refine HG (X:=X) O hN hj hy T hl hg hm (E.1 ye) he (λa=>n8 (pA (X:=iu X a) hN hz P (xB (X:=iu X a) T (.inl hl) Y Z) r (.inl (GO _)))) L U (.inl (GO _)) q s f H W I ?_;refine⟨A,H0,g,_,_,S,h,λw v H1 J u r1=>k.nx A _ _ H1 rfl rfl J ((S.same u).set oj r1),λC H1 ⟨c,J⟩ u=>⟨C,rfl,(E.2.1 C c).1.1,(E.2.1 C c).2.2,λa ha=>?_⟩⟩;have il:i<f.length:=by rw[I.len];exact(GT.mp T).1
 refine⟨.ref a,Kj il,?_⟩;have s2:=u.trans (aK ha (DC a C));have S2:=S.same s2;have na:¬A.B a:=λz=>by obtain⟨o,e⟩:=(S.same u).dom a z;rw[ha]at e;cases e
 have e:((f.set i (some (V.ref a))).set l (some (.ref a))).set i none=(f.set l (some (.ref a))).set i none:=by rw[bc _ _ Q,List.set_set]
 show W.nx (((f.set i (some (V.ref a))).set l (some (.ref a))).set i none) _;rw[e];exact k.nx A _ _ _ rfl rfl J ((S2.set ol (show Rep X.K A.B _ (.err C) (.ref a)from⟨a,rfl,aD,na,(E.2.1 C c).1⟩)).unset oi)
end
theorem a2{a b:Bool}(z:(a&&b)=true):a=true/\b=true:=by cases a<;>cases b<;>first|exact⟨rfl,rfl⟩|exact ff z
theorem a3{a b c:Bool}(z:((a&&b)&&c)=true):(a=true/\b=true)/\c=true:=⟨a2 (a2 z).1,(a2 z).2⟩
structure SE where
 N:List Str
 nk:List (Str×NameKind)
 M:Ms
 fn:List Str
 gn:List Str
 zn:List Str
 md:List Md
 mt:List (Nat×Nat)
noncomputable def gq:List Md->Nat->Md
 |[],_=>.s
 |x::_,0=>x
 |_::l,n+1=>gq l n
noncomputable def O7:Md->Bool
 |.f=>true
 |_=>false
noncomputable def Jb:Md->Bool
 |.s=>true
 |_=>false
noncomputable def nB(M:Ms)(i:Nat):Bool:=(M.lookup i).isSome
theorem eS{M:Ms}{i:Nat}(h:nB M i=false):¬aM M i:=by
 rintro⟨m,d⟩;unfold nB at h;have:∀M:Ms,(i,m)∈M->(M.lookup i).isSome=true:=λM=>by
  induction M with
  |nil=>intro z;cases z
  |cons x M c=>
   intro z;obtain⟨a,b⟩:=x;rw[Cr];cases e:i==a with
   |true=>rfl
   |false=>
    rcases FC.mp z with z|z
    .cases z;rw[PH]at e;cases e
    .exact c z
 rw[this M d]at h;cases h
theorem fj{M:Ms}{i:Nat}{m:Md}(h:M.lookup i=some m):(i,m)∈M:=by
 induction M with
 |nil=>exact nn h
 |cons x M c=>
  obtain⟨a,b⟩:=x;rw[Cr]at h;cases e:i==a with
  |true=>rw[e]at h;cases h;cases HI.mp e;exact BM
  |false=>rw[e]at h;exact B1 _ (c h)
noncomputable def vX(M:Ms)(i:Nat):Bool:=match M.lookup i with
 |none=>true
 |some m=>O7 m
theorem vY{M:Ms}{i:Nat}(h:vX M i=true):aM M i->(i,.f)∈M:=λa=>by
 unfold vX at h;cases e:M.lookup i with
 |none=>exact(eS (by unfold nB;rw[e];rfl) a).elim
 |some m=>rw[e]at h;cases m<;>first|exact fj e|exact ff h
noncomputable def Uc:Md->Bool
 |.d=>true
 |_=>false
noncomputable def Bw(M:Ms)(i:Nat):Bool:=match M.lookup i with
 |none=>false
 |some m=>Uc m
theorem ug{M:Ms}{i:Nat}(h:Bw M i=true):(i,.d)∈M:=by
 unfold Bw at h;cases e:M.lookup i with
 |none=>rw[e]at h;exact ff h
 |some m=>rw[e]at h;cases m<;>first|exact fj e|exact ff h
noncomputable def Bx(M:Ms)(i:Nat):Bool:=match M.lookup i with
 |none=>false
 |some m=>O7 m
theorem oz{M:Ms}{i:Nat}(h:Bx M i=true):(i,.f)∈M:=by
 unfold Bx at h;cases e:M.lookup i with
 |none=>rw[e]at h;exact ff h
 |some m=>rw[e]at h;cases m<;>first|exact fj e|exact ff h
noncomputable def SE.sc(S:SE):Scope:={kind:=.function,names:=S.nk,isGenerator:=false,isCoroutine:=false}
noncomputable def Jc(S:SE)(x:Str):Bool:=S.nk.lookup x==some .local||(S.nk.lookup x==some .cell||S.nk.lookup x==some .free)
noncomputable def okN(x:Str):Bool:=!(x==("__debug__":Str))&&!(x==("__classdict__":Str))&&!(x==("__name__":Str))
noncomputable def jN(S:SE)(x:Str):Bool:=(S.nk.lookup x==some .globalImplicit)&&okN x
noncomputable def tys:List String:=["int","bool","tuple","list","str","dict"]
noncomputable def oA:Expr->Bool
 |.Call _ _ _ _=>false
 |_=>true
noncomputable def mC(f:Const->Bool):Expr->Bool
 |.Constant c _ _=>f c
 |_=>false
noncomputable def Xb(f:Str->Pos->Bool):Expr->Bool
 |.Name x p=>f x p
 |_=>false
noncomputable def jj(f:Str->Bool):Expr->Bool:=Xb λx _=>f x
noncomputable def jk(S:SE)(i:Nat):Expr->Bool:=jj λx=>S.N[i]?==some x&&Jc S x&&okN x
noncomputable def o1{α:Type}(f:α->Bool):List α->Bool
 |[a]=>f a
 |_=>false
noncomputable def Ud(f:Expr->List CmpOp->List Expr->Bool):Expr->Bool
 |.Compare l a rs _=>f l a rs
 |_=>false
noncomputable def qb(f:Expr->List Expr->Bool->Pos->Bool):Expr->Bool
 |.Call g es a p=>f g es a.isEmpty p
 |_=>false
noncomputable def uh(f:Expr->Str->Pos->Bool):Expr->Bool
 |.Attribute o m p=>f o m p
 |_=>false
noncomputable def ZD(f:Option Expr->Option Expr->Option Expr->Bool):Expr->Bool
 |.Slice l h t _=>f l h t
 |_=>false
noncomputable def ZE(f:Expr->List Comprehension->Scope->Bool):Expr->Bool
 |.ListComp x a s _=>f x a s
 |_=>false
noncomputable def ED(f:Operator->Expr->Expr->Bool):Expr->Bool
 |.BinOp l o r _=>f o l r
 |_=>false
noncomputable def Vz(f:UnaryOp->Expr->Bool):Expr->Bool
 |.UnaryOp o x _=>f o x
 |_=>false
noncomputable def EF(f:CmpOp->Expr->Expr->Bool):Expr->Bool:=Ud λl a rs=>o1 (λo=>o1 (λr=>f o l r) rs) a
noncomputable def o2{α:Type}(f:α->α->Bool):List α->Bool
 |a::l=>o1 (f a) l
 |_=>false
noncomputable def o3{α:Type}(f:α->α->α->Bool):List α->Bool
 |a::l=>o2 (f a) l
 |_=>false
noncomputable def O8(f:BoolOp->List Expr->Bool):Expr->Bool
 |.BoolOp o es _=>f o es
 |_=>false
noncomputable def ZF(f:Expr->Expr->Expr->Bool):Expr->Bool
 |.IfExp t x y _=>f t x y
 |_=>false
noncomputable def yi(f:List Expr->Bool):Expr->Bool
 |.Tuple es _ _=>f es
 |_=>false
noncomputable def O9(f:List Expr->Bool):Expr->Bool
 |.List es _=>f es
 |_=>false
noncomputable def yj(f:Expr->Expr->Bool):Expr->Bool
 |.Subscript v s _=>f v s
 |_=>false
noncomputable def Xc(f:Expr->Option Expr->Option Expr->Bool):Expr->Bool:=yj λv s=>ZD (λl h t=>t.isNone&&f v l h) s
noncomputable def jX(f:Str->List Expr->Bool):Expr->Bool:=qb λg a k _=>k&&jj (λx=>f x a) g
noncomputable def yk(f:Expr->Str->Pos->Pos->Bool):Expr->Bool:=qb λg b k c=>k&&b.isEmpty&&uh (λo m a=>f o m a c) g
noncomputable def LK(f:Expr->Expr->Expr->List Expr->Scope->Bool):Expr->Bool:=ZE λx a s=>o1 (λg=>decide (g.is_async=0)&&f x g.target g.iter g.ifs s) a
theorem gr{f:Const->Bool}{e:Expr}(h:mC f e=true):∃c k p,e=.Constant c k p/\f c=true:=by cases e<;>first|exact⟨_,_,_,rfl,h⟩|exact ff h
theorem zI{f:Str->Pos->Bool}{e:Expr}(h:Xb f e=true):∃x p,e=.Name x p/\f x p=true:=by cases e<;>first|exact⟨_,_,rfl,h⟩|exact ff h
theorem EG{f:Expr->List CmpOp->List Expr->Bool}{e:Expr}(h:Ud f e=true):∃l a rs p,e=.Compare l a rs p/\f l a rs=true:=by cases e<;>first|exact⟨_,_,_,_,rfl,h⟩|exact ff h
theorem eU{f:Expr->List Expr->Bool->Pos->Bool}{e:Expr}(h:qb f e=true):∃g es a p,e=.Call g es a p/\f g es a.isEmpty p=true:=by cases e<;>first|exact⟨_,_,_,_,rfl,h⟩|exact ff h
theorem cF{f:Expr->Str->Pos->Bool}{e:Expr}(h:uh f e=true):∃o m p,e=.Attribute o m p/\f o m p=true:=by cases e<;>first|exact⟨_,_,_,rfl,h⟩|exact ff h
theorem Jd{f:Option Expr->Option Expr->Option Expr->Bool}{e:Expr}(h:ZD f e=true):∃l r t p,e=.Slice l r t p/\f l r t=true:=by cases e<;>first|exact⟨_,_,_,_,rfl,h⟩|exact ff h
theorem Je{f:Expr->List Comprehension->Scope->Bool}{e:Expr}(h:ZE f e=true):∃x a s p,e=.ListComp x a s p/\f x a s=true:=by cases e<;>first|exact⟨_,_,_,_,rfl,h⟩|exact ff h
theorem cu{α:Type}{f:α->Bool}{l:List α}(h:o1 f l=true):∃a,l=[a]/\f a=true:=by rcases l with _|⟨a,_|_⟩<;>first|exact⟨_,rfl,h⟩|exact ff h
theorem ym{α:Type}{f:α->α->Bool}{l:List α}(h:o2 f l=true):∃a b,l=[a,b]/\f a b=true:=by
 cases l with
 |nil=>exact ff h
 |cons a l=>obtain⟨b,rfl,c⟩:=cu h;exact⟨_,_,rfl,c⟩
theorem bq{f:Str->Bool}{e:Expr}(h:jj f e=true):∃x p,e=.Name x p/\f x=true:=zI h
theorem mJ{f:Operator->Expr->Expr->Bool}{e:Expr}(h:ED f e=true):∃l o r p,e=.BinOp l o r p/\f o l r=true:=by cases e<;>first|exact⟨_,_,_,_,rfl,h⟩|exact ff h
theorem lz{f:UnaryOp->Expr->Bool}{e:Expr}(h:Vz f e=true):∃o x p,e=.UnaryOp o x p/\f o x=true:=by cases e<;>first|exact⟨_,_,_,rfl,h⟩|exact ff h
theorem mK{f:CmpOp->Expr->Expr->Bool}{e:Expr}(h:EF f e=true):∃l o r p,e=.Compare l [o] [r] p/\f o l r=true:=by obtain⟨l,d,rs,p,rfl,c⟩:=EG h;obtain⟨o,rfl,b⟩:=cu c;obtain⟨r,rfl,a⟩:=cu b;exact⟨_,_,_,_,rfl,a⟩
theorem jG{f:BoolOp->List Expr->Bool}{e:Expr}(h:O8 f e=true):∃o es p,e=.BoolOp o es p/\f o es=true:=by cases e<;>first|exact⟨_,_,_,rfl,h⟩|exact ff h
theorem Jf{f:Expr->Expr->Expr->Bool}{e:Expr}(h:ZF f e=true):∃t x y p,e=.IfExp t x y p/\f t x y=true:=by cases e<;>first|exact⟨_,_,_,_,rfl,h⟩|exact ff h
theorem dX{f:List Expr->Bool}{e:Expr}(h:yi f e=true):∃es k p,e=.Tuple es k p/\f es=true:=by cases e<;>first|exact⟨_,_,_,rfl,h⟩|exact ff h
theorem qc{f:List Expr->Bool}{e:Expr}(h:O9 f e=true):∃es p,e=.List es p/\f es=true:=by cases e<;>first|exact⟨_,_,rfl,h⟩|exact ff h
theorem cZ{f:Expr->Expr->Bool}{e:Expr}(h:yj f e=true):∃v s p,e=.Subscript v s p/\f v s=true:=by cases e<;>first|exact⟨_,_,_,rfl,h⟩|exact ff h
theorem oB{f:Expr->Option Expr->Option Expr->Bool}{e:Expr}(h:Xc f e=true):∃v l r q p,e=.Subscript v (.Slice l r none q) p/\f v l r=true:=by obtain⟨v,s,p,rfl,c⟩:=cZ h;obtain⟨l,r,t,q,rfl,b⟩:=Jd c;obtain⟨k,a⟩:=a2 b;rw[Option.isNone_iff_eq_none.mp k];exact⟨_,_,_,_,_,rfl,a⟩
theorem aO{f:Str->List Expr->Bool}{e:Expr}(h:jX f e=true):∃x q es p,e=.Call (.Name x q) es [] p/\f x es=true:=by obtain⟨g,es,d,p,rfl,c⟩:=eU h;obtain⟨k,b⟩:=a2 c;obtain⟨x,q,rfl,a⟩:=bq b;rw[Fs.mp k];exact⟨_,_,_,_,rfl,a⟩
theorem fk{f:Expr->Str->Pos->Pos->Bool}{e:Expr}(h:yk f e=true):∃o m a c,e=.Call (.Attribute o m a) [] [] c/\f o m a c=true:=by obtain⟨g,n,j,p,rfl,i⟩:=eU h;obtain⟨⟨k,l⟩,d⟩:=a3 i;obtain⟨o,m,a,rfl,b⟩:=cF d;rw[Fs.mp k,Fs.mp l];exact⟨_,_,_,_,rfl,b⟩
noncomputable def EH(f:Expr->Str->Pos->Pos->Expr->Expr->Bool):Expr->Bool:=qb λg b k c=>k&&o2 (λx y=>uh (λo m a=>f o m a c x y) g) b
theorem qd{f:Expr->Str->Pos->Pos->Expr->Expr->Bool}{e:Expr}(h:EH f e=true):∃o m a c x y,e=.Call (.Attribute o m a) [x,y] [] c/\f o m a c x y=true:=by obtain⟨g,l,j,p,rfl,i⟩:=eU h;obtain⟨k,b⟩:=a2 i;obtain⟨x,y,rfl,b⟩:=ym b;obtain⟨o,m,a,rfl,d⟩:=cF b;rw[Fs.mp k];exact⟨_,_,_,_,_,_,rfl,d⟩
theorem sW{f:Expr->Expr->Expr->List Expr->Scope->Bool}{e:Expr}(h:LK f e=true):∃d tg b c a p,e=.ListComp d [⟨tg,b,c,0⟩] a p/\f d tg b c a=true:=by obtain⟨x,m,s,p,rfl,j⟩:=Je h;obtain⟨⟨tg,l,n,z⟩,rfl,i⟩:=cu j;obtain⟨k,g⟩:=a2 i;cases Ap k;exact⟨_,_,_,_,_,_,rfl,g⟩
noncomputable def isI(n:Int):Const->Bool
 |.int j=>decide (j=n)
 |_=>false
noncomputable def vZ(S:SE)(i:Nat):List jE->Expr->Bool
 |[],e=>jk S i e
 |.fl _ x::π,e=>uh (λa f _=>decide (f=x)&&oA a&&vZ S i π a) e
 |.ix n::π,e=>yj (λa k=>mC (isI n) k&&vZ S i π a) e
noncomputable def jY(S:SE)(m:Md->Bool)(i:Nat)(π:List jE)(e:Expr):Bool:=!π.isEmpty&&vZ S i π.reverse e&&(match S.M.lookup i with
 |some a=>(match iT a π with
  |some k=>m k
  |none=>false)
 |none=>false)
noncomputable def gu(S:SE):CE->Expr->Bool
 |.var i,e=>jk S i e&&vX S.M i
 |.own i π,e=>jY S O7 i π e
 |_,_=>false
noncomputable def VC:BI->Str
 |.len=>"len"
 |.abs=>"abs"
 |.max2=>"max"
 |.min2=>"min"
 |.sum=>"sum"
 |.all=>"all"
 |.any=>"any"
 |.list=>"list"
 |.tuple=>"tuple"
 |.DW=>"isinstance"
 |.int=>"int"
 |.Vr=>"divmod"
 |.str=>"str"
noncomputable def ZG:BI->Nat->Bool
 |_,n=>0<n
noncomputable def Cv:CE->Bool
 |.ite _ _ _=>false
 |.not a=>Cv a
 |.and b=>EI b
 |.or b=>EI b
 |_=>true
where EI:List CE->Bool
 |[]=>true
 |a::b=>Cv a&&EI b
noncomputable def v5:Expr->Bool
 |.Slice _ _ _ _=>false
 |_=>true
noncomputable def um:Expr->Bool
 |.Set _ _ _=>false
 |_=>true
noncomputable def EJ:List Expr->Option (List Str)
 |[]=>some []
 |.Name x _::es=>(EJ es).map λl=>x::l
 |_::_=>none
noncomputable def Ue:Expr->Option (Bool×List Str)
 |.Name x _=>some (true,[x])
 |.Tuple es _ _=>(EJ es).map λl=>(false,l)
 |_=>none
noncomputable def mask(a:List Str)(N:List Str):List Str:=N.map λy=>if a.contains y then y++("!":Str)else y
noncomputable def SE.comp(S:SE)(a:Scope)(b:List Str):SE:=
 {S with N:=b++mask b S.N,nk:=a.names.map λp=>(p.1,if p.2=.free then .cell else p.2),M:=up S.M b.length}
noncomputable def SE.lend(S:SE)(a:List Nat):SE:={S with M:=S.M.filter (λx=>!a.contains x.1)}
noncomputable def Ug:CE->Option String
 |.GJ n=>some n
 |_=>none
noncomputable def EK:CE->Bool
 |_=>false
noncomputable def EL(n:Bool)(f:Expr->Bool):Option Expr->Bool
 |none=>n
 |some e=>!n&&f e
noncomputable def LL:CE->Bool
 |.bl b=>b
 |_=>false
noncomputable def Uh:BI->List CE->Bool
 |.DW,[_,c]=>(Ug c).isSome
 |.DW,_=>false
 |_,_=>true
noncomputable def Xd(y:Bool)(f:Expr->Bool):List Expr->Bool
 |[]=>y
 |[e]=>f e
 |_=>false
noncomputable def zJ(f:Expr->Bool)(g:List Expr->Bool):List Expr->Bool
 |e::es=>f e&&g es
 |[]=>false
noncomputable def Ui(f:Expr->Bool):List Expr->Bool:=o1 f
noncomputable def qe(S:SE)(g:List Nat)(d:Bool)(n:Nat)(k:Bool)(i:Expr->Bool)(j:SE->List Expr->Bool)(h:SE->Expr->Bool)(f tg b:Expr)(e:List Expr)(a:Scope):Bool:=
 match Ue tg with
 |some (o,c)=>(d==o)&&(n==c.length)&&(g==L0 n)&&dO a S.sc S.N (mask c S.N) c&&decide (c++mask c S.N).Nodup&&um b&&(!k||!d)&&i b&&j (S.comp a c) e&&h (S.comp a c) f
 |none=>false
noncomputable def LM:Expr->Bool
 |.Call _ (_::_) _ _=>true
 |_=>false
noncomputable def ZH(f:List Expr->Bool):Expr->Bool
 |.JoinedStr vs _=>f vs
 |_=>false
noncomputable def ZI(f:Expr->Bool):Expr->Bool
 |.FormattedValue v c none _=>decide (c= -1)&&f v
 |_=>false
noncomputable def iy(c:Nat->Md):CE->Bool
 |.lst _=>true
 |.comp _ _ _ _ _ _=>true
 |.blt .list _=>true
 |.Rp _=>true
 |.oq _ f _=>match c f with
  |.f=>true
  |_=>false
 |.sl _ _ _=>true
 |.bin .Add a b=>iy c a||iy c b
 |.bin .Mult a _=>iy c a
 |.call f _=>match c f with
  |.f=>true
  |_=>false
 |.ite _ a b=>iy c a&&iy c b
 |_=>false
noncomputable def mo(a:Nat->Md)(c:CE):Md:=if iy a c=true then .f else .s
noncomputable def LN:Expr->Bool
 |.Name _ _=>true
 |_=>false
noncomputable def Xf(b:List Str)(vs:List Int):Expr->Bool
 |.Dict a es _=>IV b vs a es
 |_=>false
mutual
noncomputable def aH(S:SE)(H:Bool):CE->Expr->Bool
 |.var i,e=>jk S i e&&!nB S.M i
 |.int i,e=>mC (λc=>decide (c=.int i)) e
 |.bl b,e=>mC (λc=>decide (c=.bool b)) e
 |.str x,e=>mC (λc=>decide (c=.str x)) e
 |.aG,e=>mC (λc=>decide (c=.none)) e
 |.GJ n,e=>jj (λx=>decide (x=Str.ofString n)&&jN S x&&S.zn.contains x&&tys.contains n) e
 |.glob g,e=>jj (λx=>S.gn[g]?==some x&&jN S x) e
 |.bin op a b,e=>ED (λo l r=>decide (op=o)&&(aH S false a l||gu S a l)&&(aH S false b r||gu S b r)) e
 |.neg a,e=>Vz (λo x=>decide (o=.USub)&&aH S false a x) e
 |.not a,e=>Vz (λo x=>decide (o=.Not)&&aH S false a x) e
 |.cmp op a b,e=>EF (λo l r=>decide (op=o)&&um r&&(aH S false a l||gu S a l)&&(aH S false b r||gu S b r)) e
 |.and d,e=>O8 (λo es=>decide (o=.And)&&!es.isEmpty&&fq S d es) e
 |.or d,e=>O8 (λo es=>decide (o=.Or)&&!es.isEmpty&&fq S d es) e
 |.ite c a b,e=>ZF (λt x y=>aH S false c t&&Cv c&&aH S false a x&&aH S false b y) e
 |.tup d,e=>yi (λes=>fq S d es) e
 |.lst d,e=>O9 (λes=>fq S d es) e
 |.ix a i,e=>yj (λv s=>v5 s&&(aH S false a v||gu S a v)&&aH S false i s) e
 |.sl a z A,e=>Xc (λv l h=>(aH S false a v||gu S a v)&&EL (iL z) (λx=>aH S false z x) l&&EL (iL A) (λx=>aH S false A x) h) e
 |.call f d,e=>jX (λx es=>S.fn[f]?==some x&&jN S x&&!es.isEmpty&&!dM (gq S.md f)&&!S.mt.any (·.1==f)&&fq S d es) e
 |.blt b d,e=>jX (λx es=>decide (x=VC b)&&jN S x&&S.zn.contains x&&ZG b es.length&&Uh b d&&m6 S d es) e
 |.comp F one n i c x,e=>LK (λw tg j q p=>qe S F one n (EK i) (λj=>aH S true i j||gu S i j) (λE q=>Xd (LL c) (λf=>aH E false c f&&Cv c) q) (λE w=>aH E false x w) w tg j q p) e
 |.rB d,e=>jX (λx es=>H&&decide (x=("range":Str))&&jN S x&&S.zn.contains x&&(d.length==1||d.length==2||d.length==3)&&fq S d es) e
 |.pop _,_=>false
 |.own i π,e=>jY S Jb i π e
 |.gD _ _ _ _,_=>false
 |.DX _ _ _ _,_=>false
 |.fst d,e=>ZH (λes=>fq S d es) e
 |.fmt a,e=>ZI (λv=>aH S false a v) e
 |.slt a z A,e=>Xc (λv l h=>(aH S false a v||gu S a v)&&EL (iL z) (λx=>aH S false z x) l&&EL (iL A) (λx=>aH S false A x) h) e
 |.Ro a b c,e=>EH (λo m D C u v=>decide (m=("startswith":Str))&&(D.endLine==C.line)&&oA o&&aH S false a o&&aH S false b u&&aH S false c v) e
 |.ND a _ x,e=>uh (λo f _=>decide (f=x)&&oA o&&aH S false a o) e
 |.oq g f a,e=>yk (λo x D C=>(D.endLine==C.line)&&(LN o||LM o)&&S.fn[f]?==some x&&S.mt.any (λy=>y.1==f&&y.2==g)&&!dM (gq S.md f)&&aH S false a o) e
 |.Rp i,e=>jX (λx es=>decide (x=("sorted":Str))&&jN S x&&S.zn.contains x&&Ui (λv=>Bw S.M i&&jk S i v) es) e
 |.Rq B vs k,e=>yj (λv s=>v5 s&&Xf B vs v&&decide B.Nodup&&!B.isEmpty&&decide (B.length<=15)&&aH S false k s) e
 |.Bo a g,e=>jX (λx es=>decide (x=("isinstance":Str))&&jN S x&&S.zn.contains x&&o2 (λu v=>aH S false a u&&jj (λy=>S.gn[g]?==some y&&jN S y) v) es) e
 |.Rr a,e=>jX (λx es=>decide (x=("isinstance":Str))&&jN S x&&S.zn.contains x&&o2 (λu v=>aH S false a u&&jj (λy=>decide (y=("ValueError":Str))&&jN S y&&S.zn.contains y) v) es) e
noncomputable def fq(S:SE):List CE->List Expr->Bool
 |[],es=>es.isEmpty
 |a::b,es=>zJ (λe=>aH S false a e) (λes=>fq S b es) es
noncomputable def m6(S:SE):List CE->List Expr->Bool
 |[],es=>es.isEmpty
 |a::b,es=>zJ (λe=>aH S false a e||gu S a e) (λes=>m6 S b es) es
end
structure XOk(S:SE)(Φ:Nat->aV)(Ψ:Nat->Md)(G:Nat->W)(X:Cx):Prop where
 hN:X.N=S.N
 nd:X.N.Nodup
 calm:X.calm=true
 un:X.A.units+64<cLine
 nk:∀x,X.env.scope.names.lookup x=S.nk.lookup x
 fns:∀(j:Nat)(x:Str),S.fn[j]?=some x->S.mt.any (·.1==j)=false->∃fv n k,X.mg x=some fv/\bU X.prog X.w X.K X.mg X.base k fv n (pZ X.K n (Ψ j) (Φ j))/\cC k X.A/\∀ws P R,Φ j ws P R->ws.length=n
 oq:∀(j g:Nat)(x:Str),S.fn[j]?=some x->(j,g)∈S.mt->∃f fd ps n k,(∀C,G g=.cls C->Meth X.K C x f)/\Binds X.K fd ps []/\bJ X.prog X.w X.K X.mg X.base (iY X.prog X.w) k f fd ps (pZ X.K n (Ψ j) (Φ j))/\cC k X.A/\∀ws P R,Φ j ws P R->ws.length=n
 Cw:Ψ=gq S.md
 GP:∀(j:Nat)(x:Str),S.gn[j]?=some x->∃u v,X.mg x=some u/\RelV v u/\∀B H,Rep X.K B H (G j) v
 zK:∀x∈S.zn,X.mg x=none
 kit:vO X.K
section
variable{S:SE}{Φ:Nat->aV}{Ψ:Nat->Md}{G:Nat->W}{X:Cx}
theorem XOk.G3(h:XOk S Φ Ψ G X):XOk S Φ Ψ G X.G3:=⟨h.hN,h.nd,h.calm,h.un,h.nk,h.fns,h.oq,h.Cw,h.GP,h.zK,h.kit⟩
theorem uo{x:Str}(h:okN x=true):(x==("__debug__":Str))=false/\(x==("__classdict__":Str))=false/\x≠"__name__":=by unfold okN at h;simp only[AC,W1]at h;exact⟨h.1.1,h.1.2,λz=>by rw[z]at h;exact absurd h.2 (by simp)⟩
theorem bz{x:Str}(a:XOk S Φ Ψ G X)(h:jN S x=true):Gl X x/\(x==("__debug__":Str))=false/\x≠"__name__":=by unfold jN at h;rw[AC]at h;obtain⟨c,d,b⟩:=uo h.2;refine⟨?_,c,b⟩;show X.env.scope.names.lookup x=_;rw[a.nk];exact HI.mp h.1
theorem cH(b:XOk S Φ Ψ G X){i:Nat}{e:Expr}(h:jk S i e=true):PE X e (i6 i):=by obtain⟨x,c,rfl,h⟩:=bq h;obtain⟨h,d⟩:=Ki.mp h;obtain⟨f,a⟩:=Ki.mp h;obtain⟨j,g,_⟩:=uo d;refine xB (by rw[b.hN];exact HI.mp f) ?_ j g;simp only[Jc,Ta,HI]at a;rw[<-b.nk]at a;exact a
noncomputable def noStar:Expr->Bool
 |.Starred _ _=>false
 |_=>true
theorem aE{e:Expr}(h:noStar e=true)(es:List Expr)(env:Env):starEach (e::es) env=(false,eval e env)::starEach es env:=by
 cases e<;>first|rfl|exact ff h
theorem bG:∀{es:List Expr}(h:es.all noStar=true)(pos:Pos)(env:Env),(backTo pos (starEach es env)).any (·.1)=false
 |[],_,_,_=>rfl
 |e::es,h,pos,env=>by rw[CB,AC]at h;rw[aE h.1];show(false||(backTo pos (starEach es env)).any (·.1))=false;rw[bG h.2];rfl
theorem cS{m:Md->Bool}{i:Nat}{π:List jE}{e:Expr}(h:jY S m i π e=true):
 (∃g k,π≠[]/\vZ S i π.reverse e=true/\S.M.lookup i=some g/\iT g π=some k/\m k=true)/\((∃a f q,e=.Attribute a f q)\/∃a j c d q,e=.Subscript a (.Constant (.int j) c d) q):=by
 unfold jY at h;rw[AC,AC]at h;obtain⟨⟨y,l⟩,b⟩:=h;have u:π≠[]:=λz=>by rw[z]at y;exact ff y
 constructor
 .split at b
  .rename_i g hl
   split at b
   .rename_i k hk
    exact⟨g,k,u,l,hl,hk,b⟩
   .cases b
  .cases b
 .cases t:π.reverse with
  |nil=>exact(u (by simpa using t)).elim
  |cons s r=>
   rw[t]at l;cases s with
   |ix n=>obtain⟨v,s,p,rfl,w⟩:=cZ l;obtain⟨c,k,q,rfl,A⟩:=gr (a2 w).1;cases c<;>first|exact .inr ⟨_,_,_,_,_,rfl⟩|exact ff A
   |fl n x=>obtain⟨o,m,p,rfl,w⟩:=cF l;exact .inl ⟨_,_,_,rfl⟩
theorem qf{m:Md->Bool}{i:Nat}{π:List jE}{v:Expr}{p:Pos}(h:jY S m i π (.Starred v p)=true):False:=by rcases(cS h).2 with⟨_,_,_,e⟩|⟨_,_,_,_,_,e⟩<;>cases e
theorem aT{a:Bool}{c:CE}{e:Expr}(h:aH S a c e=true\/gu S c e=true):noStar e=true:=by
 cases e with
 |Starred v p=>
  rcases h with h|h
  .cases c with
   |own i b=>exact(qf h).elim
   |_=>exact ff h
  .cases c<;>first|exact ff h|exact(qf h).elim
 |_=>rfl
theorem fV{a b:Bool}(h:(a||b)=true):a=true\/b=true:=by
 cases a
 .exact .inr h
 .exact .inl rfl
theorem jH:∀{cs:List CE}{es:List Expr},fq S cs es=true->es.all noStar=true
 |[],es,h=>by
  cases es with
  |nil=>rfl
  |cons _ _=>exact ff h
 |c::cs,[],h=>by cases h
 |c::cs,e::es,h=>by have h:=a2 h;rw[CB,aT (.inl h.1),jH h.2];rfl
theorem qg:∀{cs:List CE}{es:List Expr},m6 S cs es=true->es.all noStar=true
 |[],es,h=>by
  cases es with
  |nil=>rfl
  |cons _ _=>exact ff h
 |c::cs,[],h=>by cases h
 |c::cs,e::es,h=>by have h:=a2 h;rw[CB,aT (fV h.1),qg h.2];rfl
theorem uq{b:Expr}(h:v5 b=true):kR b:=λo i=>by cases b<;>first|rfl|exact ff h
theorem mL{a:Expr}(h:oA a=true)(f:Str)(env:Env)(b:Sem Value):attributeBase a f env b=b:=by cases a<;>first|rfl|exact ff h
theorem qh(b:XOk S Φ Ψ G X){i:Nat}:∀(π:List jE)(e:Expr),vZ S i π e=true->PE X e (mG X.K i π.reverse)
 |[],e,h=>Ew (cH b h)
 |.fl n x::π,e,h=>by obtain⟨o,m,p,rfl,g⟩:=cF h;obtain⟨⟨a,f⟩,d⟩:=a3 g;have a:=Ap a;subst a;rw[ar];exact Ey (qh b π _ d) (mL f _ _ _)
 |.ix n::π,e,h=>by
  obtain⟨v,s,p,rfl,g⟩:=cZ h;obtain⟨f,d⟩:=a2 g;obtain⟨c,k,q,rfl,j⟩:=gr f;cases c<;>try exact ff j
  have a:=Ap j;subst a;rw[ar];exact T8 (qh b π _ d) oX (uq rfl)
theorem ur(b:XOk S Φ Ψ G X){m:Md->Bool}{i:Nat}{π:List jE}{e:Expr}(h:jY S m i π e=true):∃a k,(i,a)∈S.M/\iT a π=some k/\m k=true/\PE X e (mG X.K i π):=by obtain⟨⟨a,k,_,g,f,d,c⟩,_⟩:=cS h;have:=qh b π.reverse e g;rw[List.reverse_reverse]at this;exact⟨a,k,fj f,d,c,this⟩
theorem Uj(g:XOk S Φ Ψ G X){i:Nat}{π:List jE}{e:Expr}(h:jY S Jb i π e=true)(R:Addr->Prop):VE X S.M R .s e (λa Q=>match look a i with|some w=>(match bI w π with|some u=>Q u|none=>False)|none=>False):=by
 obtain⟨j,k,d,c,f,b⟩:=ur g h;cases k<;>first|(cases f;done)|skip
 exact NR b d c
theorem LO(g:XOk S Φ Ψ G X){i:Nat}{π:List jE}{e:Expr}(h:jY S O7 i π e=true)(R:Addr->Prop):VB X S.M R e (λa Q=>match look a i with|some w=>(match bI w π with|some u=>Q u|none=>False)|none=>False):=by
 obtain⟨j,k,d,c,f,b⟩:=ur g h;cases k<;>first|(cases f;done)|skip
 exact NQ b d c
end
structure bW(Φ:Nat->aV)(Ψ:Nat->Md)(G:Nat->W)(c:CE):Prop where
 e:∀{S:SE}{X:Cx},XOk S Φ Ψ G X->∀ex,aH S false c ex=true->∀R,VE X S.M R (mo Ψ c) ex (wE Φ G R c)
 t:∀{S:SE}{X:Cx},XOk S Φ Ψ G X->∀ex,aH S false c ex=true->Cv c=true->∀R,VT X S.M R ex (wE Φ G R c)
 i:∀{S:SE}{X:Cx},XOk S Φ Ψ G X->∀tg br ex,(aH S true c ex||(br&&gu S c ex))=true->(EK c=true->∃elts kk tp,tg=Expr.Tuple elts kk tp)->∀R,PI X tg ex (Io X S.M R br (wE Φ G R c))
structure nD(Φ:Nat->aV)(Ψ:Nat->Md)(G:Nat->W)(cs:List CE):Prop where
 a:∀{S:SE}{X:Cx},XOk S Φ Ψ G X->∀es,fq S cs es=true->∀R,VA X S.M R es (wA Φ G R cs)
 b:∀{S:SE}{X:Cx},XOk S Φ Ψ G X->∀es,m6 S cs es=true->∀R,Rx X S.M R es (wA Φ G R cs)
 av:∀{S:SE}{X:Cx},XOk S Φ Ψ G X->∀es pos,es≠[]->fq S cs es=true->∀R,VE X S.M R .s (.BoolOp .And es pos) (Au Φ G R cs)
 ov:∀{S:SE}{X:Cx},XOk S Φ Ψ G X->∀es pos,es≠[]->fq S cs es=true->∀R,VE X S.M R .s (.BoolOp .Or es pos) (Rg Φ G R cs)
 «at»:∀{S:SE}{X:Cx},XOk S Φ Ψ G X->∀es pos,es≠[]->fq S cs es=true->Cv.EI cs=true->∀R,LC X S.M R (.BoolOp .And es pos) (Au Φ G R cs)
 ot:∀{S:SE}{X:Cx},XOk S Φ Ψ G X->∀es pos,es≠[]->fq S cs es=true->Cv.EI cs=true->∀R,LC X S.M R (.BoolOp .Or es pos) (Rg Φ G R cs)
section
variable{Φ:Nat->aV}{Ψ:Nat->Md}{G:Nat->W}
theorem cI{c:CE}(h:iy Ψ c=false):mo Ψ c=.s:=by unfold mo;rw[h];rfl
theorem iV{c:CE}(h:iy Ψ c=true):mo Ψ c=.f:=by unfold mo;rw[h];rfl
theorem bW.s{c:CE}(h:bW Φ Ψ G c){S:SE}{X:Cx}(a:XOk S Φ Ψ G X){ex:Expr}(k:aH S false c ex=true)(R:Addr->Prop):VE X S.M R .s ex (wE Φ G R c):=Br (h.e a ex k R)
theorem bW.b{c:CE}(h:bW Φ Ψ G c){S:SE}{X:Cx}(a:XOk S Φ Ψ G X){ex:Expr}(k:(aH S false c ex||gu S c ex)=true)(R:Addr->Prop):VB X S.M R ex (wE Φ G R c):=by
 rcases fV k with k|k
 .exact Tw (h.e a ex k R)
 .cases c with
  |var i=>have k:(jk S i ex&&vX S.M i)=true:=k;rw[AC]at k;exact Ec (cH a k.1) (vY k.2)
  |own i d=>exact LO a k R
  |_=>exact ff k
theorem bW.mk1{c:CE}(he:∀{S:SE}{X:Cx},XOk S Φ Ψ G X->∀ex,aH S false c ex=true->∀R,VE X S.M R (mo Ψ c) ex (wE Φ G R c))
 (e:∀{S:SE}{ex:Expr}(env:Env),aH S false c ex=true->∀a,isTrue ex env a=(do let v<-a;standAt ex.pos;holding [v] (truthy v)))
 (f:∀(S:SE)(ex:Expr),aH S true c ex=true->aH S false c ex=true)(d:∀(S:SE)(ex:Expr),gu S c ex=false):bW Φ Ψ G c:=
 ⟨he,λb ex k _ R=>yf (e _ k) (Br (he b ex k R)),λ{S X} b g br ex k _ R=>by rw[d,Qr,QR]at k;exact gp (m5 (he b ex (f _ _ k) R))⟩
theorem Pa(i:Nat):bW Φ Ψ G (.var i):=by
 have d:∀{S:SE}{X:Cx},XOk S Φ Ψ G X->∀ex,aH S false (.var i) ex=true->∀R,VE X S.M R (mo Ψ (.var i)) ex (wE Φ G R (.var i)):=λ{S X} a ex k R=>by have k:=a2 k;have e:¬aM S.M i:=eS (by simpa using k.2);rw[cI rfl];exact NP (cH a k.1) e
 refine⟨d,λ{S X} a ex k _ R=>yf (λc=>?_) (Br (d a ex k R)),λ{S X} a f br ex k _ R=>?_⟩
 .have k:=a2 k;cases ex<;>first|rfl|(have:=k.1;exact ff this)
 .rcases fV k with k|k
  .exact gp (m5 (d a ex (by exact k) R))
  .rw[AC]at k;obtain⟨rfl,b⟩:=k;have b:(jk S i ex&&vX S.M i)=true:=b;rw[AC]at b;exact gp (TU (Ec (cH a b.1) (vY b.2)))
theorem Pb(i:Nat)(π:List jE):bW Φ Ψ G (.own i π):=by
 have d:∀R,wE Φ G R (.own i π)=λe Q=>match look e i with|some w=>(match bI w π with|some u=>Q u|none=>False)|none=>False:=λR=>rfl
 have c:∀{S:SE}{X:Cx},XOk S Φ Ψ G X->∀ex,aH S false (.own i π) ex=true->∀R,VE X S.M R (mo Ψ (.own i π)) ex (wE Φ G R (.own i π)):=λ{S X} a ex k R=>by rw[cI rfl,d];exact Uj a k R
 refine⟨c,λ{S X} a ex k _ R=>yf (λb=>?_) (Br (c a ex k R)),λ{S X} a g br ex k _ R=>?_⟩
 .rcases(cS k).2 with⟨_,_,_,rfl⟩|⟨_,_,_,_,_,rfl⟩<;>rfl
 .rcases fV k with k|k
  .exact gp (m5 (c a ex (by exact k) R))
  .rw[AC]at k;obtain⟨rfl,f⟩:=k;rw[d];exact gp (TU (LO a f R))
theorem Pc(i:Int):bW Φ Ψ G (.int i):=by
 refine .mk1 (λ{S X} d ex k R=>?_) (λ{S ex} b k a=>?_) (λS ex k=>by exact k) (λ_ _=>rfl)
 .obtain⟨c,q,p,rfl,k⟩:=gr k;cases Ap k;rw[cI rfl];exact Bs oX λ_ _=>eK _
 .obtain⟨c,q,p,rfl,k⟩:=gr k;rfl
theorem Uk(i:Bool):bW Φ Ψ G (.bl i):=by
 refine .mk1 (λ{S X} d ex k R=>?_) (λ{S ex} b k a=>?_) (λS ex k=>by exact k) (λ_ _=>rfl)
 .obtain⟨c,q,p,rfl,k⟩:=gr k;cases Ap k;rw[cI rfl];exact Bs R0 λ_ _=>rC _
 .obtain⟨c,q,p,rfl,k⟩:=gr k;rfl
theorem Pd(i:Str):bW Φ Ψ G (.str i):=by
 refine .mk1 (λ{S X} d ex k R=>?_) (λ{S ex} b k a=>?_) (λS ex k=>by exact k) (λ_ _=>rfl)
 .obtain⟨c,q,p,rfl,k⟩:=gr k;cases Ap k;rw[cI rfl];exact Bs CW λ_ _=>mE _
 .obtain⟨c,q,p,rfl,k⟩:=gr k;rfl
theorem Pe:bW Φ Ψ G .aG:=by
 refine .mk1 (λ{S X} d ex k R=>?_) (λ{S ex} b k a=>?_) (λS ex k=>by exact k) (λ_ _=>rfl)
 .obtain⟨c,q,p,rfl,k⟩:=gr k;cases Ap k;rw[cI rfl];exact Bs MH λ_ _=>Tp
 .obtain⟨c,q,p,rfl,k⟩:=gr k;rfl
theorem Jg{n:String}(h:tys.contains n=true):bootBuiltins (Str.ofString n)=some (.type n):=by
 have:n∈tys:=by simpa using h
 unfold tys at this;simp only[FC,Sr,or_false]at this;rcases this with rfl|rfl|rfl|rfl|rfl|rfl<;>rfl
theorem Pf(n:String):bW Φ Ψ G (.GJ n):=by
 refine .mk1 (λ{S X} d ex k R=>?_) (λ{S ex} l k a=>?_) (λS ex k=>by exact k) (λ_ _=>rfl)
 .obtain⟨x,q,rfl,b⟩:=bq k
  replace k:=b
  simp only[AC]at k;obtain⟨⟨⟨c,g⟩,f⟩,e⟩:=k;obtain⟨j,i,h⟩:=bz d g;have c:=Ap c;subst c;rw[cI rfl];exact Bs (v:=.ty n) (yX j (d.zK _ (by simpa using f)) (Jg e) rfl h i) λ_ _=>rTy _
 .obtain⟨x,q,rfl,b⟩:=bq k
  replace k:=b
  rfl
theorem zL(g:Nat):bW Φ Ψ G (.glob g):=by
 refine .mk1 (λ{S X} c ex k R=>?_) (λ{S ex} m k a=>?_) (λS ex k=>by exact k) (λ_ _=>rfl)
 .obtain⟨x,q,rfl,b⟩:=bq k
  replace k:=b
  simp only[AC]at k;obtain⟨e,d⟩:=k;obtain⟨l,j,n⟩:=bz c d;obtain⟨u,v,i,h,f⟩:=c.GP g _ (HI.mp e);rw[cI rfl];exact Bs (G0 l i h j) f
 .obtain⟨x,q,rfl,b⟩:=bq k
  replace k:=b
  rfl
theorem yo{K:Frag}{B:Addr->Prop}{H H':Hp}{w:W}{v:V}(h:cU K B H H' .f w v):NS w=true:=by obtain⟨a,p,b,rfl,_⟩:=h.Lu;rfl
theorem EM{S:SE}{a:CE}{l:Expr}(k:gu S a l=true)(z:iy Ψ a=true):False:=by cases a<;>first|exact ff k|exact ff z
theorem Pg(op:Operator){a b:CE}(J:bW Φ Ψ G a)(I:bW Φ Ψ G b):bW Φ Ψ G (.bin op a b):=by
 refine .mk1 (λ{S X} n ex k R=>?_) (λ{S ex} P k s=>?_) (λS ex k=>by exact k) (λ_ _=>rfl)
 .obtain⟨l,o,r,t,rfl,u⟩:=mJ k
  replace k:=u
  simp only[AC]at k;obtain⟨⟨A,i⟩,g⟩:=k;have A:=Ap A;subst A;show VE X S.M R _ _ λF Q=>wE Φ G R a F λx=>wE Φ G R b F λy=>cV op x y Q;have E:∀B H m w v,Dom B H->Zq X.K B H m w v->bg X.K B m w v:=λ_ _ _ _ _ _ h=>h;have D:∀B H m w v,Dom B H->NO X.K .f B H m w v->bg X.K B m w v:=λ_ _ _ _ _ d h=>(cU.rep d h).b;have p:=J.b n i R;have j:=I.b n g R;have L:iy Ψ a=true->VE X S.M R .f l (wE Φ G R a):=λz=>by
   rcases fV i with i|i
   .have:=J.e n l i R;rw[iV z]at this;exact this
   .exact(EM i z).elim
  have O:iy Ψ b=true->VE X S.M R .f r (wE Φ G R b):=λz=>by
   rcases fV g with g|g
   .have:=I.e n r g R;rw[iV z]at this;exact this
   .exact(EM g z).elim
  cases op with
  |Add=>
   by_cases c:iy Ψ a=true
   .rw[iV (show iy Ψ (.bin .Add a b)=true by show(iy Ψ a||iy Ψ b)=true;rw[c];rfl)];exact yd (L c) j D E λ_ _ _ _ _ _ _ _ _ _ C _=>.inl ⟨rfl,.inl (yo C)⟩
   .by_cases q:iy Ψ b=true
    .rw[iV (show iy Ψ (.bin .Add a b)=true by show(iy Ψ a||iy Ψ b)=true;rw[q,Bool.or_true])];exact yd p (O q) E D λ_ _ _ _ _ _ _ _ _ _ _ N=>.inl ⟨rfl,.inr (yo N)⟩
    .rw[cI (show iy Ψ (.bin .Add a b)=false by show(iy Ψ a||iy Ψ b)=false;rw[Qb _|>.mp c,Qb _|>.mp q];rfl)];exact Ef p j λ_ _=>.inr rfl
  |Mult=>
   by_cases c:iy Ψ a=true
   .rw[iV (show iy Ψ (.bin .Mult a b)=true from c)];exact yd (L c) j D E λ_ _ _ _ _ _ _ _ _ _ C _=>.inr ⟨rfl,yo C⟩
   .rw[cI (show iy Ψ (.bin .Mult a b)=false from Qb _|>.mp c)];exact Ef p j λ_ _=>.inr rfl
  |_=>rw[cI rfl];exact Ef p j λ_ _=>.inr rfl
 .obtain⟨l,o,r,t,rfl,u⟩:=mJ k
  replace k:=u
  rfl
theorem Ph{a:CE}(e:bW Φ Ψ G a):bW Φ Ψ G (.neg a):=by
 refine .mk1 (λ{S X} f ex k R=>?_) (λ{S ex} g k b=>?_) (λS ex k=>by exact k) (λ_ _=>rfl)
 .obtain⟨o,x,c,rfl,d⟩:=lz k
  replace k:=d
  rw[AC]at k;cases Ap k.1;rw[cI rfl];exact NU (e.s f k.2 R)
 .obtain⟨o,x,c,rfl,d⟩:=lz k
  replace k:=d
  rw[AC]at k;cases Ap k.1;rfl
theorem Pj{a:CE}(h:bW Φ Ψ G a):bW Φ Ψ G (.not a):=by
 have e:∀R,wE Φ G R (.not a)=λi Q=>wE Φ G R a i λx=>truth x λb=>Q (.bl (!b)):=λR=>rfl;have g:∀{S:SE}{X:Cx},XOk S Φ Ψ G X->∀ex,aH S false (.not a) ex=true->∀R,VE X S.M R (mo Ψ (.not a)) ex (wE Φ G R (.not a)):=λ{S X} c ex k R=>by
  obtain⟨o,x,d,rfl,f⟩:=lz k
  replace k:=f
  rw[AC]at k;cases Ap k.1;rw[cI rfl,e];exact NV (h.s c k.2 R)
 refine⟨g,λ{S X} c ex k j R=>?_,λ{S X} c m br ex k _ R=>?_⟩
 .obtain⟨o,x,d,rfl,f⟩:=lz k
  replace k:=f
  rw[AC]at k;cases Ap k.1;rw[e];exact N5 (h.t c _ k.2 (by exact j) R)
 .have l:gu S (.not a) ex=false:=rfl;rw[l,Qr,QR]at k;exact gp (m5 (g c ex (by exact k) R))
theorem Pk(op:CmpOp){a b:CE}(n:bW Φ Ψ G a)(m:bW Φ Ψ G b):bW Φ Ψ G (.cmp op a b):=by
 have e:∀R,wE Φ G R (.cmp op a b)=λg Q=>wE Φ G R a g λx=>wE Φ G R b g λy=>dJ op x y Q:=λR=>rfl;have f:∀{S:SE}{X:Cx},XOk S Φ Ψ G X->∀ex,aH S false (.cmp op a b) ex=true->∀R,VE X S.M R .s ex (wE Φ G R (.cmp op a b))/\VT X S.M R ex (wE Φ G R (.cmp op a b)):=λ{S X} c ex k R=>by
  obtain⟨l,o,r,p,rfl,q⟩:=mK k
  replace k:=q
  simp only[AC,W1]at k;obtain⟨⟨⟨d,t⟩,i⟩,h⟩:=k;have d:=Ap d;subst d;have j:behindInMarks op r=false:=by cases r<;>first|rfl|exact ff t
  rw[e];exact⟨NW c.un j (n.b c i R) (m.b c h R),NX c.un j (n.b c i R) (m.b c h R)⟩
 refine⟨λc ex k R=>by rw[cI rfl];exact(f c ex k R).1,λc ex k _ R=>(f c ex k R).2,λ{S X} c v br ex k _ R=>?_⟩;have u:gu S (.cmp op a b) ex=false:=rfl;rw[u,Qr,QR]at k;exact gp (m5 (f c ex (by exact k) R).1)
theorem jI{es:List Expr}(h:(!es.isEmpty)=true):es≠[]:=by rintro rfl;cases h
theorem Pn{b:List CE}(g:nD Φ Ψ G b):bW Φ Ψ G (.and b):=by
 have e:∀R,wE Φ G R (.and b)=Au Φ G R b:=λR=>rfl;have f:∀{S:SE}{X:Cx},XOk S Φ Ψ G X->∀ex,aH S false (.and b) ex=true->∀R,VE X S.M R .s ex (wE Φ G R (.and b)):=λ{S X} a ex k R=>by
  obtain⟨o,j,c,rfl,d⟩:=jG k
  replace k:=d
  rw[AC,AC]at k;cases Ap k.1.1;rw[e];exact g.av a _ _ (jI k.1.2) k.2 R
 refine⟨λa ex k R=>by rw[cI rfl];exact f a ex k R,λ{S X} a ex k h R=>?_,λ{S X} a l br ex k _ R=>?_⟩
 .obtain⟨o,j,c,rfl,d⟩:=jG k
  replace k:=d
  rw[AC,AC]at k;cases Ap k.1.1;rw[e];exact(g.at a _ _ (jI k.1.2) k.2 (by exact h) R).pt
 .have i:gu S (.and b) ex=false:=rfl;rw[i,Qr,QR]at k;exact gp (m5 (f a ex (by exact k) R))
theorem Um{b:List CE}(g:nD Φ Ψ G b):bW Φ Ψ G (.or b):=by
 have e:∀R,wE Φ G R (.or b)=Rg Φ G R b:=λR=>rfl;have f:∀{S:SE}{X:Cx},XOk S Φ Ψ G X->∀ex,aH S false (.or b) ex=true->∀R,VE X S.M R .s ex (wE Φ G R (.or b)):=λ{S X} a ex k R=>by
  obtain⟨o,j,c,rfl,d⟩:=jG k
  replace k:=d
  rw[AC,AC]at k;cases Ap k.1.1;rw[e];exact g.ov a _ _ (jI k.1.2) k.2 R
 refine⟨λa ex k R=>by rw[cI rfl];exact f a ex k R,λ{S X} a ex k h R=>?_,λ{S X} a l br ex k _ R=>?_⟩
 .obtain⟨o,j,c,rfl,d⟩:=jG k
  replace k:=d
  rw[AC,AC]at k;cases Ap k.1.1;rw[e];exact(g.ot a _ _ (jI k.1.2) k.2 (by exact h) R).pt
 .have i:gu S (.or b) ex=false:=rfl;rw[i,Qr,QR]at k;exact gp (m5 (f a ex (by exact k) R))
theorem LP{X:Cx}{M:Ms}{R:Addr->Prop}{m:Md}{e:Expr}{t:WT}{c:CE}(h:VE X M R m e t)(a:mo Ψ c=m\/mo Ψ c=.s):VE X M R (mo Ψ c) e t:=by
 rcases a with z|z
 .rw[z];exact h
 .rw[z];exact Br h
theorem Po{c a b:CE}(q:bW Φ Ψ G c)(u:bW Φ Ψ G a)(r:bW Φ Ψ G b):bW Φ Ψ G (.ite c a b):=by
 have e:∀R,wE Φ G R (.ite c a b)=λh Q=>wE Φ G R c h λx=>truth x λk=>if k=true then wE Φ G R a h Q else wE Φ G R b h Q:=λR=>rfl
 have o:∀{S:SE}{X:Cx},XOk S Φ Ψ G X->∀ex,aH S false (.ite c a b) ex=true->∀R,VE X S.M R (mo Ψ (.ite c a b)) ex (wE Φ G R (.ite c a b)):=λ{S X} d ex k R=>by
  obtain⟨t,x,y,p,rfl,i⟩:=Jf k;simp only[AC]at i;obtain⟨⟨⟨n,m⟩,l⟩,j⟩:=i;rw[e];by_cases z:iy Ψ a=true/\iy Ψ b=true
  .rw[iV (show iy Ψ (.ite c a b)=true by show(iy Ψ a&&iy Ψ b)=true;rw[z.1,z.2];rfl)];have g:=u.e d x l R;have f:=r.e d y j R;rw[iV z.1]at g;rw[iV z.2]at f;exact Eg (q.t d t n m R) g f
  .rw[cI (show iy Ψ (.ite c a b)=false by
    show(iy Ψ a&&iy Ψ b)=false;cases g:iy Ψ a
    .rfl
    .cases f:iy Ψ b
     .rfl
     .exact absurd ⟨g,f⟩ z)]
   exact Eg (q.t d t n m R) (u.s d l R) (r.s d j R)
 refine⟨o,(λd ex k v R=>by exact ff v),λ{S X} d A br ex k _ R=>?_⟩;have w:gu S (.ite c a b) ex=false:=rfl;rw[w,Qr,QR]at k;exact gp (m5 (o d ex (by exact k) R))
theorem Pp{e:List CE}(f:nD Φ Ψ G e):bW Φ Ψ G (.tup e):=by
 refine .mk1 (λ{S X} g ex k R=>?_) (λ{S ex} h k b=>?_) (λS ex k=>by exact k) (λ_ _=>rfl)
 .obtain⟨d,q,p,rfl,c⟩:=dX k;rw[cI rfl];exact N8 (f.a g d c R)
 .obtain⟨d,q,p,rfl,c⟩:=dX k;rfl
theorem Pq{e:List CE}(f:nD Φ Ψ G e):bW Φ Ψ G (.lst e):=by
 refine .mk1 (λ{S X} g ex k R=>?_) (λ{S ex} h k b=>?_) (λS ex k=>by exact k) (λ_ _=>rfl)
 .obtain⟨d,p,rfl,c⟩:=qc k;rw[iV rfl];exact N7 (f.a g d c R)
 .obtain⟨d,p,rfl,c⟩:=qc k;rfl
theorem Uo{a i:CE}(g:bW Φ Ψ G a)(f:bW Φ Ψ G i):bW Φ Ψ G (.ix a i):=by
 refine .mk1 (λ{S X} e ex k R=>?_) (λ{S ex} h k d=>?_) (λS ex k=>by exact k) (λ_ _=>rfl)
 .obtain⟨v,s,p,rfl,c⟩:=cZ k;simp only[AC]at c;rw[cI rfl];exact TH (uq c.1.1) (g.b e c.1.2 R) (f.s e c.2 R)
 .obtain⟨v,s,p,rfl,c⟩:=cZ k;rfl
theorem zM{a:CE}(d:bW Φ Ψ G a){S:SE}{X:Cx}(f:XOk S Φ Ψ G X){l:Option Expr}(k:EL (iL a) (λx=>aH S false a x) l=true)(R:Addr->Prop):PO X l (N9 X S.M R λb Q=>wE Φ G R a b λy=>Ct a y Q):=by
 cases l with
 |none=>
  have z:iL a=true:=k;cases a with
  |aG=>exact Ik
  |_=>exact ff z
 |some x=>
  have k:(!iL a&&aH S false a x)=true:=k;rw[AC]at k;have e:(λ(b:Ev)(Q:Option Int->Prop)=>wE Φ G R a b λy=>Ct a y Q)=λb Q=>wE Φ G R a b λy=>match y with|.int i=>Q (some i)|_=>False:=by
   have c:iL a=false:=by simpa using k.1
   unfold Ct;rw[c];funext b Q;congr 1;funext y;cases y<;>rfl
  rw[e];exact Il (d.s f k.2 R)
theorem Up{a f g:CE}(j:bW Φ Ψ G a)(h:bW Φ Ψ G f)(i:bW Φ Ψ G g):bW Φ Ψ G (.sl a f g):=by
 refine .mk1 (λ{S X} e ex k R=>?_) (λ{S ex} m k d=>?_) (λS ex k=>by exact k) (λ_ _=>rfl)
 .obtain⟨v,l,r,q,p,rfl,c⟩:=oB k;simp only[AC]at c;rw[iV rfl];exact TJ (j.b e c.1.1 R) (zM h e c.1.2 R) (zM i e c.2 R)
 .obtain⟨v,l,r,q,p,rfl,c⟩:=oB k;rfl
theorem Jh(f:Nat){m:List CE}(C:nD Φ Ψ G m):bW Φ Ψ G (.call f m):=by
 refine .mk1 (λ{S X} b ex k R=>?_) (λ{S ex} I k c=>?_) (λS ex k=>by exact k) (λ_ _=>rfl)
 .obtain⟨x,q,l,p,rfl,g⟩:=aO k;simp only[AC]at g;obtain⟨⟨⟨⟨⟨v,u⟩,t⟩,i⟩,s⟩,o⟩:=g;obtain⟨E,D,J⟩:=bz b u;obtain⟨H,n,r,B,F,y,A⟩:=b.fns f x (HI.mp v) (by simpa using s);have F:bU X.prog X.w X.K X.mg X.base r H n (xu X.K n (Ψ f) (Φ f)):=by rw[<-b.Cw]at i;cases j:Ψ f<;>rw[j]at i F<;>first|exact F|exact ff i
  have d:=jH o;cases l with
  |nil=>exact ff t
  |cons e l=>
   rw[CB,AC]at d;have h:=zA (M:=S.M) (R:=R) (p:=q) (pos:=p) F y E B A (C.a b _ o R) D (aE d.1 _ _) (bG d.2 _ _);refine LP h ?_;by_cases z:iy Ψ (.call f m)=true
   .rw[iV z];left;have z:(match Ψ f with|.f=>true|_=>false)=true:=z;cases j:Ψ f<;>rw[j]at z<;>first|rfl|exact ff z
   .exact .inr (cI (by simpa using z))
 .obtain⟨x,q,l,p,rfl,g⟩:=aO k;rfl
theorem v7{X:Cx}(c:X.calm=true):∀b:BI,b≠.DW->(∃a,bootBuiltins (VC b)=some (.builtin a)/\bF X (.builtin a) (Oa X.K b))\/(∃a,bootBuiltins (VC b)=some (.type a)/\bF X (.type a) (Oa X.K b))
 |.len,_=>.inl ⟨"len",rfl,cw_len.r⟩
 |.abs,_=>.inl ⟨"abs",rfl,cw_abs.r⟩
 |.max2,_=>.inl ⟨"max",rfl,(cw_max c).r⟩
 |.min2,_=>.inl ⟨"min",rfl,(cw_min c).r⟩
 |.sum,_=>.inl ⟨"sum",rfl,(cw_sum c).r⟩
 |.all,_=>.inl ⟨"all",rfl,(cw_all c).r⟩
 |.list,_=>.inr ⟨"list",rfl,cw_list.r⟩
 |.tuple,_=>.inr ⟨"tuple",rfl,cw_tuple.r⟩
 |.int,_=>.inr ⟨"int",rfl,cw_int.r⟩
 |.Vr,_=>.inl ⟨"divmod",rfl,cw_dvm.r⟩
 |.str,_=>.inr ⟨"str",rfl,cw_str.r⟩
 |.any,_=>.inl ⟨"any",rfl,(cw_any c).r⟩
 |.DW,h=>absurd rfl h
theorem eV{S:SE}{a:CE}{b:List CE}{es:List Expr}(k:fq S (a::b) es=true):∃e r,es=e::r/\aH S false a e=true/\fq S b r=true:=by
 cases es with
 |nil=>exact ff k
 |cons e r=>exact⟨e,r,rfl,a2 k⟩
theorem qi{S:SE}{es:List Expr}(k:fq S [] es=true):es=[]:=Fs.mp k
theorem yp{S:SE}{a:CE}{b:List CE}{es:List Expr}(k:m6 S (a::b) es=true):∃e r,es=e::r/\(aH S false a e||gu S a e)=true/\m6 S b r=true:=by
 cases es with
 |nil=>exact ff k
 |cons e r=>exact⟨e,r,rfl,a2 k⟩
theorem By{S:SE}{es:List Expr}(k:m6 S [] es=true):es=[]:=Fs.mp k
theorem Pu(b:BI){i:List CE}(H:nD Φ Ψ G i)(g:∀c∈i,bW Φ Ψ G c):bW Φ Ψ G (.blt b i):=by
 refine .mk1 (λ{S X} h ex k R=>?_) (λ{S ex} Y k s=>?_) (λS ex k=>by exact k) (λ_ _=>rfl)
 .obtain⟨x,q,B,p,rfl,j⟩:=aO k;simp only[AC]at j;obtain⟨⟨⟨⟨⟨l,O⟩,N⟩,L⟩,D⟩,o⟩:=j;have l:=Ap l;obtain⟨A,w,v⟩:=bz h O;have hz:=h.zK x (by simpa using N);have f:=qg o;cases B with
  |nil=>cases b<;>exact ff L
  |cons e B=>
   rw[CB,AC]at f;by_cases F:b=.DW
   .subst F;rw[cI rfl];rcases i with _|⟨a,_|⟨c,_|⟨d,i⟩⟩⟩<;>try exact ff D
    obtain⟨n,E⟩:=PP.mp D;have Z:c=.GJ n:=by cases c<;>first|(cases E;rfl)|exact nn E
    subst Z;obtain⟨K,J⟩:=a2 o;obtain⟨e2,r,rfl,C,Ji⟩:=yp J;cases By Ji;have st2:=f.2;rw[CB,AC]at st2;have I:aH S false (.GJ n) e2=true:=by
     rcases fV C with z|z
     .exact z
     .exact ff z
    have t:n∈["int","bool","tuple","list","str","dict"]:=by obtain⟨y,q2,rfl,j⟩:=bq I;have:=(a2 j).2;unfold tys at this;exact W2.mp this
    have U:=(g a BM).b h K R;have T:=(g (.GJ n) (B1 _ BM)).b h C R;have m:bootBuiltins x=some (.builtin "isinstance"):=by rw[l];rfl
    exact Oe (M:=S.M) (R:=R) (p:=q) (pos:=p) h.kit t A hz m U T v w (aE f.1 _ _) (aE st2.1 _ _) (bG f.2 _ _)
   .have Q:mo Ψ (.blt b i)=TM b:=by
     cases b<;>first|rfl|exact cI rfl|exact iV rfl
    rw[Q];rcases v7 h.calm b F with⟨P,m,u⟩|⟨P,m,u⟩
    .exact Oc u A hz (by rw[l];exact m) (H.b h _ o R) v w (aE f.1 _ _) (bG f.2 _ _)
    .exact Od u A hz (by rw[l];exact m) (H.b h _ o R) v w (aE f.1 _ _) (bG f.2 _ _)
 .obtain⟨x,q,B,p,rfl,j⟩:=aO k;rfl
theorem qj{S:SE}{a:List Nat}:∀x∈(S.lend a).M,x∈S.M:=λx b=>(QQ.mp b).1
theorem Pw(i g f:Nat)(c:List CE):bW Φ Ψ G (.gD i g f c):=.mk1 (λd ex k R=>by cases k) (λb k a=>by cases k) (λS ex k=>by cases k) (λ_ _=>rfl)
theorem Px(i:Nat):bW Φ Ψ G (.pop i):=.mk1 (λc ex k R=>by cases k) (λb k a=>by cases k) (λS ex k=>by cases k) (λ_ _=>rfl)
theorem Py{o:List CE}(h:∀c∈o,bW Φ Ψ G c):bW Φ Ψ G (.rB o):=by
 refine⟨λ{S X} i ex k R=>?_,λ{S X} i ex k _ R=>?_,λ{S X} i tg br ex k _ R=>?_⟩
 .obtain⟨x,q,A,p,rfl,l⟩:=aO k;simp at l
 .obtain⟨x,q,A,p,rfl,l⟩:=aO k;simp at l
 .have E:gu S (.rB o) ex=false:=rfl;rw[E,Qr,QR]at k;obtain⟨x,q,A,p,rfl,l⟩:=aO k;simp only[AC]at l;obtain⟨⟨⟨⟨⟨_,w⟩,D⟩,C⟩,z⟩,u⟩:=l;have w:=Ap w;subst w;obtain⟨y,H,F⟩:=bz i D;have hz:=i.zK _ (by simpa using C);rcases o with _|⟨a,_|⟨b,_|⟨c,_|⟨d,o⟩⟩⟩⟩
  .simp at z
  .obtain⟨e,r,rfl,j,n⟩:=eV u;cases qi n;exact Ip (M:=S.M) (R:=R) (br:=br) (tg:=tg) (p:=q) (pos:=p) y hz ((h a BM).s i j R) (aE (aT (.inl j)) _ _)
  .obtain⟨e,r,rfl,j,n⟩:=eV u;obtain⟨f,r,rfl,m,t⟩:=eV n;cases qi t;exact Iq (M:=S.M) (R:=R) (br:=br) (tg:=tg) (p:=q) (pos:=p) y hz ((h a (by simp)).s i j R) ((h b (by simp)).s i m R) (aE (aT (.inl j)) _ _) (aE (aT (.inl m)) _ _)
  .obtain⟨e,r,rfl,j,n⟩:=eV u;obtain⟨f,r,rfl,m,t⟩:=eV n;obtain⟨g,r,rfl,B,v⟩:=eV t;cases qi v;exact Ir (M:=S.M) (R:=R) (br:=br) (tg:=tg) (p:=q) (pos:=p) y hz ((h a (by simp)).s i j R) ((h b (by simp)).s i m R) ((h c (by simp)).s i B R) (aE (aT (.inl j)) _ _) (aE (aT (.inl m)) _ _) (aE (aT (.inl B)) _ _)
  .simp at z
theorem hu1{X:Cx}(h:X.A.units+64<cLine):X.A.units+1<cLine:=by omega
theorem Pz{a f g:CE}(j:bW Φ Ψ G a)(h:bW Φ Ψ G f)(i:bW Φ Ψ G g):bW Φ Ψ G (.slt a f g):=by
 refine .mk1 (λ{S X} e ex k R=>?_) (λ{S ex} m k d=>?_) (λS ex k=>by exact k) (λ_ _=>rfl)
 .obtain⟨v,l,r,q,p,rfl,c⟩:=oB k;simp only[AC]at c;rw[cI rfl];exact OO (j.b e c.1.1 R) (zM h e c.1.2 R) (zM i e c.2 R)
 .obtain⟨v,l,r,q,p,rfl,c⟩:=oB k;rfl
theorem PB{a b c:CE}(r:bW Φ Ψ G a)(q:bW Φ Ψ G b)(p:bW Φ Ψ G c):bW Φ Ψ G (.Ro a b c):=by
 refine .mk1 (λ{S X} g ex k R=>?_) (λ{S ex} t k d=>?_) (λS ex k=>by exact k) (λ_ _=>rfl)
 .obtain⟨o,m,v,u,x,y,rfl,e⟩:=qd k;simp only[AC]at e;obtain⟨⟨⟨⟨⟨f,n⟩,l⟩,j⟩,i⟩,h⟩:=e;have f:=Ap f;subst f;rw[cI rfl];exact OP (r.s g j R) (q.s g i R) (p.s g h R) (mL l _ _ _) n (aE (aT (.inl i)) _ _) (aE (aT (.inl h)) _ _)
 .obtain⟨o,m,v,u,x,y,rfl,e⟩:=qd k;rfl
theorem PC(n:Nat)(x:Str){a:CE}(h:bW Φ Ψ G a):bW Φ Ψ G (.ND a n x):=by
 refine .mk1 (λ{S X} i ex k R=>?_) (λ{S ex} j k b=>?_) (λS ex k=>by exact k) (λ_ _=>rfl)
 .obtain⟨o,f,p,rfl,d⟩:=cF k;obtain⟨⟨c,g⟩,e⟩:=a3 d;have c:=Ap c;subst c;rw[cI rfl];exact OQ (h.s i e R) (mL g _ _ _)
 .obtain⟨o,f,p,rfl,d⟩:=cF k;rfl
theorem jJ{o:Expr}{x:Str}{apos pos:Pos}{es:List Expr}{env:Env}(e:attributeBase o x env (eval o env)=eval o env)(b:(backTo pos (starEach es env)).any (·.1)=false)(d:es.length<30)(a:(apos.endLine==pos.line)=true):
 eval (.Call (.Attribute o x apos) es [] pos) env=(do
  let ov<-eval o env
  standAt apos.atName
  let(f,first)<-holding [ov] (getMethod ov x (do return (<-importBound o env).getD true))
  callWith pos f first (backTo pos (starEach es env)) (backToKw pos (keywordEach [] env))):=by
 have h:methodCallForm (es.length+([]:List Keyword).length) (backTo pos (starEach es env)) (backToKw pos (keywordEach [] env))=true:=by
  unfold methodCallForm;have g:(backTo pos (starEach es env)).all (λx=>!x.1)=true:=by rw[IR];intro z hz;rw[Xk]at b;simpa using b z hz
  rw[g];show(true&&true&&decide (es.length+0+0<30))=true;simpa using d
 have c:methodCallPos true o env apos pos=pure pos:=by unfold methodCallPos;simp[a]
 rw[arm_eval_Call,e];unfold methodCall;rw[h,c];rfl
theorem yq{c:List (Nat×Nat)}{f g:Nat}(h:c.any (λy=>y.1==f&&y.2==g)=true):(f,g)∈c:=by obtain⟨⟨a,b⟩,d,e⟩:=cb.mp h;rw[AC]at e;cases HI.mp e.1;cases HI.mp e.2;exact d
theorem PD(g f:Nat){a:CE}(H:bW Φ Ψ G a):bW Φ Ψ G (.oq g f a):=by
 refine .mk1 (λ{S X} j ex k R=>?_) (λ{S ex} env k b=>?_) (λS ex k=>by exact k) (λ_ _=>rfl)
 .obtain⟨o,x,q,m,rfl,d⟩:=fk k;simp only[AC]at d;obtain⟨⟨⟨⟨⟨B,l⟩,A⟩,v⟩,e⟩,u⟩:=d;obtain⟨L,J,r,n,t,I,E,F,C,D⟩:=j.oq f g x (HI.mp A) (yq v);have F:bJ X.prog X.w X.K X.mg X.base (iY X.prog X.w) t L J r (xu X.K n (Ψ f) (Φ f)):=by rw[<-j.Cw]at e;cases i:Ψ f<;>rw[i]at e F<;>first|exact F|exact ff e
  have N:attributeBase o x X.env (eval o X.env)=eval o X.env:=by
   cases o with
   |Name y O=>rfl
   |Call c es P p=>
    cases es with
    |nil=>exact ff l
    |cons _ _=>cases c<;>rfl
   |_=>exact ff l
  have h:=OR (G:=G g) (M:=S.M) (R:=R) (pos:=m) (apos:=q) I F C E D (H.s j u R) (jJ (es:=[]) N rfl (by show 0<30;decide) B);refine LP h ?_;by_cases z:iy Ψ (.oq g f a)=true
  .rw[iV z];left;have z:(match Ψ f with|.f=>true|_=>false)=true:=z;cases i:Ψ f<;>rw[i]at z<;>first|rfl|exact ff z
  .exact .inr (cI (by simpa using z))
 .obtain⟨o,x,q,m,rfl,d⟩:=fk k;rfl
theorem Ur{o:Expr}{x:Str}{env:Env}(k2:(LN o||LM o)=true):attributeBase o x env (eval o env)=eval o env:=by
 cases o with
 |Name y b=>rfl
 |Call c a d p=>
  cases a with
  |nil=>exact ff k2
  |cons _ _=>cases c<;>rfl
 |_=>exact ff k2
theorem Us{S:SE}{X:Cx}(d:XOk S Φ Ψ G X){f n k:Nat}{b:Addr}{a:FuncData}{ps:List Str}(k5:(!dM (gq S.md f))=true)(F:bJ X.prog X.w X.K X.mg X.base (iY X.prog X.w) k b a ps (pZ X.K n (Ψ f) (Φ f))):bJ X.prog X.w X.K X.mg X.base (iY X.prog X.w) k b a ps (xu X.K n (Ψ f) (Φ f)):=by rw[<-d.Cw]at k5;cases c:Ψ f<;>rw[c]at k5 F<;>first|exact F|exact ff k5
theorem Ut{S:SE}{X:Cx}(c:XOk S Φ Ψ G X){f n k:Nat}{a:Value}(k5:(!dM (gq S.md f))=true)(F:bU X.prog X.w X.K X.mg X.base k a n (pZ X.K n (Ψ f) (Φ f))):bU X.prog X.w X.K X.mg X.base k a n (xu X.K n (Ψ f) (Φ f)):=by rw[<-c.Cw]at k5;cases b:Ψ f<;>rw[b]at k5 F<;>first|exact F|exact ff k5
theorem PJ(g:Nat){a:CE}(m:bW Φ Ψ G a):bW Φ Ψ G (.Bo a g):=by
 refine .mk1 (λ{S X} c ex k R=>?_) (λ{S ex} w k d=>?_) (λS ex k=>by exact k) (λ_ _=>rfl)
 .obtain⟨x,q,t,p,rfl,f⟩:=aO k;simp only[AC]at f;obtain⟨⟨⟨l,j⟩,i⟩,b⟩:=f;obtain⟨u,v,rfl,b⟩:=ym b;have b:=a2 b;obtain⟨y,q,rfl,z⟩:=bq b.2;cases Ap l;obtain⟨r,o,n⟩:=bz c j;rw[cI rfl];have h:=aT (.inl b.1);exact O3 (m.s c b.1 R) (Br ((zL g).e c _ b.2 R)) r (c.zK _ (by simpa using i)) rfl n o (aE h _ _) rfl rfl
 .obtain⟨x,q,t,p,rfl,f⟩:=aO k;rfl
theorem PK{a:CE}(l:bW Φ Ψ G a):bW Φ Ψ G (.Rr a):=by
 refine .mk1 (λ{S X} d ex k R=>?_) (λ{S ex} A k e=>?_) (λS ex k=>by exact k) (λ_ _=>rfl)
 .obtain⟨x,q,z,p,rfl,f⟩:=aO k;simp only[AC]at f;obtain⟨⟨⟨j,i⟩,h⟩,b⟩:=f;obtain⟨u,v,rfl,b⟩:=ym b;have b:=a2 b;obtain⟨y,q,rfl,c⟩:=bq b.2;have c:=a3 c;cases Ap j;cases Ap c.1.1;obtain⟨w,t,r⟩:=bz d i;obtain⟨o,n,m⟩:=bz d c.1.2;rw[cI rfl];have g:=aT (.inl b.1);exact O4 (l.s d b.1 R) (yX o (d.zK _ (by simpa using c.2)) rfl rfl m n) w (d.zK _ (by simpa using h)) rfl r t (aE g _ _) rfl rfl
 .obtain⟨x,q,z,p,rfl,f⟩:=aO k;rfl
theorem zN{S:SE}{X:Cx}(b:XOk S Φ Ψ G X)(f:Nat){d:List CE}(u:nD Φ Ψ G d){ex:Expr}(k:aH S false (.call f d) ex=true):VX X S.M ex (λR j Q=>wA Φ G (λ_=>False) d j λl=>Φ f l Q R):=by
 obtain⟨x,q,i,p,rfl,g⟩:=aO k;simp only[AC]at g;obtain⟨⟨⟨⟨⟨t,s⟩,r⟩,o⟩,m⟩,h⟩:=g;obtain⟨A,z,C⟩:=bz b s;obtain⟨D,n,B,y,F,v,w⟩:=b.fns f x (HI.mp t) (by simpa using m);have c:=jH h;cases i with
 |nil=>exact ff r
 |cons e i=>rw[CB,AC]at c;exact Ja (Ut b o F) v A y w (u.a b.G3 _ h _) z (aE c.1 _ _) (bG c.2 _ _)
theorem PL{S:SE}{X:Cx}(a:XOk S Φ Ψ G X)(g f h:Nat){b:List CE}(r:nD Φ Ψ G b){ex:Expr}(k:aH S false (.oq g f (.call h b)) ex=true):VX X S.M ex (λR d Q=>wA Φ G (λ_=>False) b d λe=>Φ h e (λx=>Ti x (G g) λy=>Φ f [y] Q λ_=>False) R):=by obtain⟨o,x,D,C,rfl,c⟩:=fk k;simp only[AC]at c;obtain⟨⟨⟨⟨⟨q,p⟩,m⟩,l⟩,j⟩,i⟩:=c;obtain⟨B,A,w,n,z,v,u,F,s,t⟩:=a.oq f g x (HI.mp m) (yq l);exact O5 v (Us a j F) s u t (zN a h r i) (jJ (es:=[]) (Ur p) rfl (by show 0<30;decide) q)
theorem PM(i:Nat):bW Φ Ψ G (.Rp i):=by
 refine .mk1 (λ{S X} b ex k R=>?_) (λ{S ex} l k c=>?_) (λS ex k=>by exact k) (λ_ _=>rfl)
 .obtain⟨x,q,j,p,rfl,d⟩:=aO k;simp only[AC]at d;obtain⟨⟨⟨e,g⟩,f⟩,a⟩:=d;have e:=Ap e;subst e;obtain⟨v,rfl,a⟩:=cu a;have a:(Bw S.M i&&jk S i v)=true:=a;rw[AC]at a;rw[iV rfl];obtain⟨h,_,_⟩:=bz b g;exact OT b.calm (ug a.1) (cH b a.2) h (b.zK _ (by simpa using f)) (by obtain⟨y,z,rfl,_⟩:=bq a.2;rfl)
 .obtain⟨x,q,j,p,rfl,d⟩:=aO k;rfl
theorem PN(i g f:Nat)(c:List CE):bW Φ Ψ G (.DX i g f c):=.mk1 (λd ex k R=>by cases k) (λb k a=>by cases k) (λS ex k=>by cases k) (λ_ _=>rfl)
theorem zO{f:Expr->Bool}{e:Expr}(h:ZI f e=true):∃v p,e=.FormattedValue v (-1) none p/\f v=true:=by
 cases e with
 |FormattedValue v c a p=>
  cases a with
  |none=>obtain⟨d,b⟩:=a2 h;rw[Ap d];exact⟨v,p,rfl,b⟩
  |some _=>exact ff h
 |_=>exact ff h
theorem zP{f:List Expr->Bool}{e:Expr}(h:ZH f e=true):∃vs p,e=.JoinedStr vs p/\f vs=true:=by
 cases e with
 |JoinedStr vs p=>exact⟨vs,p,rfl,h⟩
 |_=>exact ff h
theorem PR{a:CE}(d:bW Φ Ψ G a):bW Φ Ψ G (.fmt a):=by
 refine .mk1 (λ{S X} e ex k R=>?_) (λ{S ex} f k b=>?_) (λS ex k=>by exact k) (λ_ _=>rfl)
 .obtain⟨v,p,rfl,c⟩:=zO k;rw[cI rfl];exact OU (d.s e c R)
 .obtain⟨v,p,rfl,c⟩:=zO k;rfl
theorem EN{S:SE}{X:Cx}(D:XOk S Φ Ψ G X)(R:Addr->Prop):∀(g:List CE)(es:List Expr),(∀c∈g,bW Φ Ψ G c)->fq S g es=true->∀(b:List Nat){d:List (Addr×Obj)}{s:Shared}{f:St}{H:Hp}{Q:VK}{A:Fz}{l:Hp}{i:Ev}{P:W->Prop},Inv X d f H s->SR X.K S.M A l f H i->ER X l R->b.length<=2000->RH Φ G R g b i P->(∀w v H',P w->aA H H'->Rep X.K (FB A S.M f) H' w v->Q v H')->wpAny (model X.prog X.w) X.A (joinParts (tx b) (evalEach es X.env)) (EP X d f Q) X.xe s
 |[],es,_,k,b,d,s,f,H,Q,A,l,i,P,I,SS,o,B,h,c=>by rw[Fs.mp k];exact joinParts_nil ⟨.str (tx b),H,I.tok _,⟨_,rfl⟩,c _ _ H h (aA.refl H) (mE _)⟩ (FV B (by decide))
 |a::g,[],_,k,_,_,_,_,_,_,_,_,_,_,_,_,_,_,_,_=>ff k
 |a::g,e::es,C,k,b,d,s,f,H,Q,A,l,i,P,I,SS,o,B,h,c=>by
  obtain⟨k1,k2⟩:=a2 k;refine joinParts_cons (bD ((C a BM).s D k1 R d s f H (λv m=>∃w,(match w with|.str y=>b.length+y.length<=2000/\RH Φ G R g (b++y.cps.toList) i P|_=>False)/\aA H m/\Rep X.K (FB A S.M f) m w v) I ⟨A,l,i,_,SS,o,h,λw v m j q n=>⟨w,j,q,n.aS⟩⟩) λu q ⟨F,m,O,L,w,j,sm,n⟩=>?_);cases w with
  |str y=>
   have N:F=.str y:=n;subst N;obtain⟨t,rfl⟩:=L;have E:tx b++y=tx (b++y.cps.toList):=by rw[<-bZ,gj]
   have x:(b++y.cps.toList).length<=2000:=by rw[AN,<-je];exact j.1
   refine⟨by rw[E];exact FV x (by decide),?_⟩;rw[E];exact EN D R g es (λz hz=>C z (B1 _ hz)) k2 _ O (SS.same sm) o x j.2 λw v H' p J r=>c w v H' p (sm.trans J) r
  |_=>exact j.elim
theorem PU{g:List CE}(i:∀c∈g,bW Φ Ψ G c):bW Φ Ψ G (.fst g):=by
 refine .mk1 (λ{S X} o ex k R=>?_) (λ{S ex} E k l=>?_) (λS ex k=>by exact k) (λ_ _=>rfl)
 .obtain⟨m,p,rfl,f⟩:=zP k;rw[cI rfl];rintro j s u H Q I ⟨A,J,x,P,SS,t,h,c⟩;have d:=EN o R g m i f [] I SS t (NM _) h λw v K p B r=>c w v K p B (.of r)
  match m,g,f,i,h,d with
  |[],g,f,i,h,d=>exact d
  |e1::L::rest,g,f,i,h,d=>exact JoinedStr_many d
  |[e],[],f,_,_,_=>exact ff f
  |[e],[a],f,i,h,d=>
   obtain⟨D,_⟩:=a2 f;refine JoinedStr_one ((i a BM).s o D R j s u H Q I ⟨A,J,x,_,SS,t,h,λw v F n z C=>?_⟩);cases w with
   |str y=>have q:P (.str (tx ([]++y.cps.toList))):=n.2;rw[TZ,gj]at q;exact c _ v F q z C
   |_=>exact n.elim
  |[e],a::b::g,f,_,_,_=>exact ff (a2 f).2
 .obtain⟨m,p,rfl,f⟩:=zP k;rfl
theorem PV(f:List Str)(vs:List Int){a:CE}(m:bW Φ Ψ G a):bW Φ Ψ G (.Rq f vs a):=by
 refine .mk1 (λ{S X} e ex k R=>?_) (λ{S ex} n k b=>?_) (λS ex k=>by exact k) (λ_ _=>rfl)
 .obtain⟨v,s,p,rfl,c⟩:=cZ k;simp only[AC]at c;obtain⟨⟨⟨⟨⟨l,d⟩,j⟩,i⟩,h⟩,g⟩:=c;cases v with
  |Dict o r q=>rw[cI rfl];exact OS (hu1 e.un) d (Ap j) (by rintro rfl;cases i) (Ap h) (m.s e g R) λ_ _=>by cases s<;>first|rfl|exact ff l
  |_=>exact ff d
 .obtain⟨v,s,p,rfl,c⟩:=cZ k;rfl
theorem qk{f:NameKind->NameKind}:∀(l:List (Str×NameKind))(y:Str),(l.map λp=>(p.1,f p.2)).lookup y=(l.lookup y).map f
 |[],_=>rfl
 |(n,k)::r,y=>by
  rw[Hn,Cr,Cr];by_cases e:(y==n)=true
  .rw[e];rfl
  .rw[Qb]at e;rw[e];exact qk r y
theorem uu{sc a b:Scope}{N d c:List Str}(h:∀x,a.names.lookup x=b.names.lookup x):dO sc a N d c=dO sc b N d c:=by unfold dO;simp only[h]
theorem Jj{S:SE}{X:Cx}(a:XOk S Φ Ψ G X){scope:Scope}{b:List Str}(g:dO scope X.env.scope X.N (mask b S.N) b=true)(h:(b++mask b S.N).Nodup){c:List (Addr×Obj)}{d:St}{H:Hp}{s:Shared}(I:Inv X c d H s)(C:Addr)(e:Shared)(j:Hp)(i:List Addr):
 XOk (S.comp scope b) Φ Ψ G (aU X scope C b (mask b S.N) e j i):=by
 refine⟨rfl,h,a.calm,a.un,λx=>?_,a.fns,a.oq,a.Cw,a.GP,a.zK,a.kit⟩;show(relabel scope X.env).names.lookup x=_;rw[gB I (gi.of g)];show _=(scope.names.map λp=>(p.1,if p.2=.free then NameKind.cell else p.2)).lookup x;rw[qk (f:=λk=>if k=.free then NameKind.cell else k)]
noncomputable def gv(X:Cx)(i:Nat)(x:Str):Prop:=X.N[i]?=some x/\Loc X.env.scope x/\(X.fn x=true\/X.env.scope.names.lookup x=some .local)
noncomputable def dW(X:Cx):List Nat->List Str->Prop
 |[],a=>a=[]
 |i::b,a=>∃x r,a=x::r/\gv X i x/\dW X b r
theorem LQ{X:Cx}(a:X.N.Nodup){i:Nat}{x:Str}{p:Pos}(h:gv X i x):PG X (.Name x p) (gx i):=G5 a h.1 h.2.1 h.2.2
theorem EO{X:Cx}(d:X.N.Nodup):∀(es:List Expr)(b:List Str)(a:List Nat),EJ es=some b->dW X a b->R7 X es (TV a)/\(assignEach es X.env).length=a.length/\(assignEach es X.env).findIdx? (·.1)=none
 |[],b,a,h,k=>by
  cases h;cases a with
  |nil=>exact⟨G6,rfl,rfl⟩
  |cons i c=>obtain⟨x,r,e,_⟩:=k;cases e
 |e::es,b,a,h,k=>by
  cases e with
  |Name x p=>
   obtain⟨l,m,rfl⟩:=Kt.mp h;cases a with
   |nil=>cases k
   |cons i c=>obtain⟨q,r,e,o,n⟩:=k;cases e;obtain⟨j,g,f⟩:=EO d es l c m n;have e:assignEach (.Name x p::es) X.env=(false,assign (.Name x p) X.env)::assignEach es X.env:=rfl;refine⟨C6 (LQ d o) j rfl,by rw[e,A0,g,A0],?_⟩;rw[e,List.findIdx?_cons,f];rfl
  |_=>exact nn h
theorem PY{X:Cx}(s:X.calm=true)(d:X.N.Nodup){tg:Expr}{b:Bool}{c:List Str}{a:List Nat}(h:Ue tg=some (b,c))(k:dW X a c):PG X tg (gT X.K b a):=by
 cases tg with
 |Name x p=>
  cases h
  match a,k with
  |[i],k=>obtain⟨j,r,e,g,f⟩:=k;cases e;exact LQ d g
  |[],k=>cases k
  |_::_::_,k=>obtain⟨j,r,e,g,f⟩:=k;cases e;obtain⟨v,w,u,_⟩:=f;cases u
 |Tuple t y p=>
  dsimp only[Ue]at h;obtain⟨l,q,e⟩:=Kt.mp h;cases e;obtain⟨o,n,m⟩:=EO d t c a q k;have:gT X.K false a=MM X.K a.length (TV a):=by cases a<;>rfl
  rw[this];exact MN s o n m
 |_=>exact nn h
theorem m7{X:Cx}:∀(a:List Str)(n:Nat),(∀k x,a[k]?=some x->gv X (n+k) x)->dW X ((L0 a.length).map (n+·)) a
 |[],n,_=>rfl
 |x::a,n,h=>by
  rw[A0,List.range_succ_eq_map,Hn];refine⟨x,a,rfl,h 0 x rfl,?_⟩;have:=m7 a (n+1) λk y b=>by have:=h (k+1) y (by simpa using b);rw[show n+1+k=n+(k+1) by lia];exact this
  rw[VG];have e:(L0 a.length).map (n+1+·)=(L0 a.length).map ((n+·)∘Nat.succ):=W9 λk _=>by show n+1+k=n+(k+1);lia
  rw[<-e];exact this
theorem v8{a:Expr}(h:um a=true)(env:Env)(x:Value):foldedSetIterable a env x=pure x:=by
 cases a<;>first|rfl|exact ff h
theorem zQ{e:List Nat}{b:Bool}{n:Nat}{i c x:CE}{R:Addr->Prop}:wE Φ G R (.comp e b n i c x)=λd Q=>wE Φ G R i d λz=>items z λg=>pU (λw K=>wT b e w (C8 n none++d) λa=>wE Φ G (λ_=>False) c a λf=>truth f λk=>if k=true then wE Φ G (λ_=>False) x a λy=>K (some y)else K none) g [] λl=>Q (.lst l):=rfl
theorem BA{S:SE}{X:Cx}(A:XOk S Φ Ψ G X){q:List Nat}{e:Bool}{n:Nat}{en:Bool}{L:Expr->Bool}{M:SE->List Expr->Bool}{J:SE->Expr->Bool}{m tg c:Expr}{l:List Expr}{scope:Scope}(g:qe S q e n en L M J m tg c l scope=true):
 ∃a,n=a.length/\(∀j∈q,j<a.length)/\dO scope X.env.scope X.N (mask a S.N) a=true/\(∀z,foldedSetIterable c X.env z=pure z)/\(en=true->∃es k p,tg=Expr.Tuple es k p)/\L c=true/\M (S.comp scope a) l=true/\J (S.comp scope a) m=true/\
  ∀d s D H,Inv X d D H s->∀C f i h,PG (aU X scope C a (mask a S.N) f i h) tg (gT X.K e q)/\XOk (S.comp scope a) Φ Ψ G (aU X scope C a (mask a S.N) f i h):=by
 unfold qe at g;split at g;rotate_left
 .cases g
 rename_i o a PZ
 simp only[AC]at g;obtain⟨⟨⟨⟨⟨⟨⟨⟨⟨u,t⟩,r⟩,U⟩,T⟩,R⟩,F⟩,Q⟩,P⟩,Ji⟩:=g;have u:=HI.mp u;have t:=HI.mp t;have r:=HI.mp r;subst u t r;have x:=Ap T;have w:dO scope X.env.scope X.N (mask a S.N) a=true:=by rw[A.hN,uu (b:=S.sc) λy=>A.nk y];exact U
 have O:=gi.of w;refine⟨a,rfl,λj Z=>UF.mp Z,w,v8 R _,λz=>?_,Q,P,Ji,λd s D H I C f i h=>?_⟩
 .have:e=false:=by rw[z]at F;simpa using F
  subst this;cases tg with
  |Tuple es g p=>exact⟨_,_,_,rfl⟩
  |Name y p=>cases PZ
  |_=>exact nn PZ
 .have B:=Jj A w x I C f i h;refine⟨PY B.calm B.nd PZ ?_,B⟩;have:=m7 (X:=aU X scope C a (mask a S.N) f i h) a 0 λk y v=>?_
  .simpa using this
  .have Y:y∈a:=Kx v;have E:(aU X scope C a (mask a S.N) f i h).env.scope.names.lookup y=some .local:=by show(relabel scope X.env).names.lookup y=_;rw[gB I O,(O.own y Y).1];rfl
   refine⟨?_,.inl E,.inr E⟩;show(a++mask a S.N)[0+k]?=some y;rw[RC,On (GT.mp v).1];exact v
theorem ql{O:List Nat}{E:Bool}{n:Nat}{i c x:CE}(hi:bW Φ Ψ G i)(hc:bW Φ Ψ G c)(hx:bW Φ Ψ G x){S:SE}{X:Cx}(hX:XOk S Φ Ψ G X){ex:Expr}(k:aH S false (.comp O E n i c x) ex=true)(R:Addr->Prop):
 ∃B tg a y scope p d,ex=.ListComp B [⟨tg,a,y,0⟩] scope p/\n=d.length/\(∀j∈O,j<d.length)/\dO scope X.env.scope X.N (mask d S.N) d=true/\(∀z,foldedSetIterable a X.env z=pure z)/\PI X tg a (Io X S.M R true (wE Φ G R i))/\
  ∀g s D H,Inv X g D H s->(∀C o l u,PG (aU X scope C d (mask d S.N) o l u) tg (gT X.K E O))/\(∀C o l u,PF (aU X scope C d (mask d S.N) o l u) y (WZ X.K (up S.M d.length) (wE Φ G (λ_=>False) c)))/\
   ∀C o l u,(XOk (S.comp scope d) Φ Ψ G (aU X scope C d (mask d S.N) o l u)/\aH (S.comp scope d) false x B=true)/\PE (aU X scope C d (mask d S.N) o l u) B (WY X.K (up S.M d.length) (wE Φ G (λ_=>False) x)):=by
 obtain⟨B,tg,a,y,scope,p,rfl,kk⟩:=sW k;obtain⟨d,rfl,U,ho,Y,Z,k8,m,Ji,T⟩:=BA hX kk;refine⟨B,tg,a,y,scope,p,d,rfl,rfl,U,ho,Y,hi.i hX tg true a (by rw[V0];exact k8) Z R,λg s D H I=>⟨λC o l u=>(T g s D H I C o l u).1,λC o l u=>?_,λC o l u=>?_⟩⟩
 .have L:=(T g s D H I C o l u).2
  match y,m with
  |[],m=>
   have m:LL c=true:=m;cases c with
   |bl b=>have:b=true:=m;subst this;refine PF.imp Nk ?_;rintro D H Q ⟨A,l,F,P,J,h,k⟩;obtain⟨b,e,q⟩:=k _ H h (aA.refl H);cases e;exact q
   |_=>exact ff m
  |[f],m=>have m:(aH (S.comp scope d) false c f&&Cv c)=true:=m;rw[AC]at m;exact PF.imp (Nl (hc.t L f m.1 m.2 λ_=>False))<|by rintro D H Q ⟨A,l,F,P,J,h,k⟩;exact⟨A,l,F,P,J,.none,h,k⟩
  |_::_::_,m=>exact ff m
 .have L:=(T g s D H I C o l u).2;refine⟨⟨L,Ji⟩,?_⟩;exact PE.imp (hx.s L Ji λ_=>False)<|by rintro D H Q ⟨A,l,F,P,J,h,k⟩;exact⟨A,l,F,P,J,.none,h,λw v H' pw s r=>k w v H' pw s r.aS⟩
theorem Jk(q:List Nat)(f:Bool)(n:Nat){i c x:CE}(D:bW Φ Ψ G i)(E:bW Φ Ψ G c)(y:bW Φ Ψ G x):bW Φ Ψ G (.comp q f n i c x):=by
 refine .mk1 (λ{S X} o ex k R=>?_) (λ{S ex} J k e=>?_) (λS ex k=>by exact k) (λ_ _=>rfl)
 .obtain⟨l,r,d,g,b,p,M,rfl,rfl,h,B,j,K,A⟩:=ql D E y o k R;rw[iV rfl];rw[zQ];intro a s m H Q I z;obtain⟨w,v,u⟩:=A a s m H I;exact Iu o.calm B h K w v (λC t L F=>(u C t L F).2) j a s m H Q I z
 .obtain⟨l,r,d,g,b,p,rfl,N⟩:=sW k;rfl
theorem P1:nD Φ Ψ G []:=by
 have en:∀{S:SE}{a:List Expr},fq S [] a=true->a=[]:=λ{S a} h=>by exact Fs.mp h
 have e:∀{S:SE}{a:List Expr},m6 S [] a=true->a=[]:=λ{S a} h=>by exact Fs.mp h
 refine⟨λd a k R=>?_,λd a k R=>?_,λd a b c k R=>absurd (en k) c,λd a b c k R=>absurd (en k) c,λd a b c k _ R=>absurd (en k) c,λd a b c k _ R=>absurd (en k) c⟩
 .rw[en k];exact N6
 .rw[e k];exact Ij
theorem Jl{a:CE}{m:List CE}(l:bW Φ Ψ G a)(o:nD Φ Ψ G m):nD Φ Ψ G (a::m):=by
 have p:∀{S:SE}{j:List Expr},fq S (a::m) j=true->∃e r,j=e::r/\aH S false a e=true/\fq S m r=true:=λ{S j} h=>by
  cases j with
  |nil=>exact ff h
  |cons e r=>have h:=Ki.mp h;exact⟨e,r,rfl,h.1,h.2⟩
 have w:∀R,wA Φ G R (a::m)=λv Q=>wE Φ G R a v λx=>wA Φ G R m v λy=>Q (x::y):=λR=>rfl;refine⟨λc j k R=>?_,λ{S X} c j k R=>?_,λ{S X} c j f q k R=>?_,λ{S X} c j f q k R=>?_,λ{S X} c j f q k i R=>?_,λ{S X} c j f q k i R=>?_⟩
 .obtain⟨e,r,rfl,g,d⟩:=p k;rw[w];exact Ii (aE (aT (.inl g)) _ _) (l.s c g R) (o.a c r d R)
 .cases j with
  |nil=>exact ff k
  |cons e r=>have k:=Ki.mp k;rw[w];exact Eh (aE (aT (fV k.1)) _ _) (l.b c k.1 R) (o.b c r k.2 R)
 .obtain⟨e,r,rfl,g,d⟩:=p k;cases m with
  |nil=>
   have:r=[]:=by exact Fs.mp d
   subst this;exact C2 (l.s c g R)
  |cons b u=>
   cases r with
   |nil=>exact ff d
   |cons n r=>exact NY (l.s c g R) (o.av c (n::r) f (by simp) d R)
 .obtain⟨e,r,rfl,g,d⟩:=p k;cases m with
  |nil=>
   have:r=[]:=by exact Fs.mp d
   subst this;exact C2 (l.s c g R)
  |cons b u=>
   cases r with
   |nil=>exact ff d
   |cons n r=>exact Tz (l.s c g R) (o.ov c (n::r) f (by simp) d R)
 .obtain⟨e,r,rfl,g,d⟩:=p k;have i:=a2 i;cases m with
  |nil=>
   have:r=[]:=by exact Fs.mp d
   subst this;exact Ih (l.t c e g i.1 R)
  |cons b u=>
   cases r with
   |nil=>exact ff d
   |cons n r=>exact N4 (l.t c e g i.1 R) (o.at c (n::r) f (by simp) d i.2 R)
 .obtain⟨e,r,rfl,g,d⟩:=p k;have i:=a2 i;cases m with
  |nil=>
   have:r=[]:=by exact Fs.mp d
   subst this;exact NZ (l.t c e g i.1 R)
  |cons b u=>
   cases r with
   |nil=>exact ff d
   |cons n r=>exact TF (l.t c e g i.1 R) (o.ot c (n::r) f (by simp) d i.2 R)
variable(Φ Ψ G)
mutual
theorem snd:∀c:CE,bW Φ Ψ G c
 |.var i=>Pa i
 |.int i=>Pc i
 |.bl b=>Uk b
 |.str x=>Pd x
 |.aG=>Pe
 |.GJ n=>Pf n
 |.glob g=>zL g
 |.bin op a b=>Pg op (snd a) (snd b)
 |.neg a=>Ph (snd a)
 |.not a=>Pj (snd a)
 |.cmp op a b=>Pk op (snd a) (snd b)
 |.and d=>Pn (j9 d).1
 |.or d=>Um (j9 d).1
 |.ite c a b=>Po (snd c) (snd a) (snd b)
 |.tup d=>Pp (j9 d).1
 |.lst d=>Pq (j9 d).1
 |.ix a i=>Uo (snd a) (snd i)
 |.sl a e h=>Up (snd a) (snd e) (snd h)
 |.call f d=>Jh f (j9 d).1
 |.blt b d=>Pu b (j9 d).1 (j9 d).2
 |.comp j one n i c x=>Jk j one n (snd i) (snd c) (snd x)
 |.rB d=>Py (j9 d).2
 |.pop i=>Px i
 |.own i π=>Pb i π
 |.gD i g f d=>Pw i g f d
 |.slt a e h=>Pz (snd a) (snd e) (snd h)
 |.Ro a b c=>PB (snd a) (snd b) (snd c)
 |.ND a n x=>PC n x (snd a)
 |.oq g f a=>PD g f (snd a)
 |.Rp i=>PM i
 |.Rq l vs k=>PV l vs (snd k)
 |.Bo a g=>PJ g (snd a)
 |.Rr a=>PK (snd a)
 |.DX i g f d=>PN i g f d
 |.fst d=>PU (j9 d).2
 |.fmt a=>PR (snd a)
theorem j9:∀cs:List CE,nD Φ Ψ G cs/\∀c∈cs,bW Φ Ψ G c
 |[]=>⟨P1,by simp⟩
 |c::cs=>⟨Jl (snd c) (j9 cs).1,λd hd=>by
  rcases FC.mp hd with e|h
  .rw[e];exact snd c
  .exact(j9 cs).2 d h⟩
end
end
noncomputable def GQ(S:SE)(i:Nat)(x:Str):Bool:=S.N[i]?==some x&&(S.nk.lookup x==some .local||S.nk.lookup x==some .cell)
noncomputable def BB(S:SE):List Nat->List Str->Bool
 |[],a=>a.isEmpty
 |i::b,a=>match a with
  |x::r=>GQ S i x&&BB S b r
  |[]=>false
noncomputable def Jm(S:SE)(a:List Nat):Bool:=a.all λi=>!nB S.M i
noncomputable def SE.less(S:SE)(i:Nat):SE:={S with M:=S.M.filter (·.1 !=i)}
noncomputable def SE.bare(S:SE):SE:={S with M:=[]}
noncomputable def ES:Expr->Bool
 |.Tuple _ _ _=>false
 |_=>true
noncomputable def ET:Expr->Bool
 |.ListComp _ _ _ _=>false
 |_=>true
noncomputable def Ry(S:SE)(b vs:List Expr):Option (Option (List Str)):=
 if !(b.length==2||b.length==3)||vs.length !=b.length then some none
 else if vs.any λ|.Starred ..=>true|_=>false then some none
 else
  let line:=(b.head?.map (·.pos.line)).getD 0
  let a:=b.filterMap λ
   |.Name c pos=>if S.nk.lookup c==some .local&&pos.line==line then some c else none
   |_=>none
  if a.length !=b.length||a.eraseDups.length !=a.length then some none
  else if vs.all (foldedForSure 8)then some none
  else if vs.all (constantsAlone 8)then none
  else some (some a)
noncomputable def BC(f:List Expr->Expr->Bool):Stmt->Bool
 |.Assign a v _=>f a v
 |_=>false
noncomputable def ZJ(f:Expr->List Stmt->List Stmt->Bool):Stmt->Bool
 |.While c a b _=>f c a b
 |_=>false
noncomputable def ZK(f:Expr->Expr->List Stmt->List Stmt->Bool):Stmt->Bool
 |.For t i a b _=>f t i a b
 |_=>false
noncomputable def ZL(f:Expr->Bool):Stmt->Bool
 |.Raise (some x) none _=>f x
 |_=>false
noncomputable def P4(f:Expr->Bool):Stmt->Bool
 |.Expr v _=>f v
 |_=>false
noncomputable def oTr(f:List Stmt->List ExceptHandler->Bool):Stmt->Bool
 |.Try b h o z _=>o.isEmpty&&z.isEmpty&&f b h
 |_=>false
noncomputable def oHd(f:Option Expr->Option Str->List Stmt->Bool):ExceptHandler->Bool
 |.ExceptHandler c n b _=>f c n b
noncomputable def ZM{α:Type}(f:α->Bool):Option α->Bool
 |some a=>f a
 |none=>false
noncomputable def sX(f:Str->Pos->Expr->Bool):Stmt->Bool:=BC λa v=>o1 (Xb λx p=>f x p v) a
noncomputable def LS(f:List Expr->Expr->Bool):Stmt->Bool:=BC λa v=>o1 (yi λb=>f b v) a
noncomputable def LU(f:List Expr->List Expr->Bool):Stmt->Bool:=BC λb v=>o1 (yi λc=>yi (λa=>f c a) v) b
noncomputable def LV(f:Expr->Expr->Expr->Bool):Stmt->Bool:=BC λa v=>o1 (yj λo k=>f o k v) a
noncomputable def BD(f:Expr->Str->Pos->Pos->Expr->Bool):Stmt->Bool:=P4 (qb λg b k c=>k&&o1 (λv=>uh (λo m a=>f o m a c v) g) b)
noncomputable def Jo(n:Bool)(f:Expr->Bool):Stmt->Bool
 |.Return (some v) _=>f v
 |.Return none _=>n
 |_=>false
noncomputable def Jp(f:Expr->List Stmt->List Stmt->Bool):Stmt->Bool
 |.If c a b _=>f c a b
 |_=>false
noncomputable def P5(f:Expr->List Stmt->Bool):Stmt->Bool:=ZJ λc a b=>b.isEmpty&&f c a
noncomputable def Uu(f:Expr->Expr->List Stmt->Bool):Stmt->Bool:=ZK λt i a b=>b.isEmpty&&f t i a
noncomputable def Xg:Stmt->Bool
 |.Break _=>true
 |_=>false
noncomputable def EU(f:Str->Expr->Bool):Stmt->Bool:=ZL (qb λg a k _=>k&&o1 (λe=>jj (λx=>f x e) g) a)
noncomputable def EV:Expr->Bool
 |.Dict [] [] _=>true
 |_=>false
theorem yr{e:Expr}(h:EV e=true):∃p,e=.Dict [] [] p:=by
 cases e with
 |Dict a b p=>
  cases a with
  |nil=>
   cases b with
   |nil=>exact⟨p,rfl⟩
   |cons _ _=>exact ff h
  |cons _ _=>exact ff h
 |_=>exact ff h
noncomputable def EW(f:Stmt->Bool)(g:List Stmt->Bool):List Stmt->Bool
 |e::es=>f e&&g es
 |[]=>false
mutual
noncomputable def RA:Md->Md->Bool
 |.s,m=>Jb m
 |.f,m=>O7 m
 |.t a,m=>match m with
  |.t b=>Jq a b
  |_=>false
 |.o e a,m=>match m with
  |.o c b=>decide (e=c)&&Jq a b
  |_=>false
 |.io a,m=>match m with
  |.io b=>RA a b
  |_=>false
 |.ls a,m=>match m with
  |.ls b=>RA a b
  |_=>false
 |.d,m=>Uc m
noncomputable def Jq:List Md->List Md->Bool
 |[],l=>l.isEmpty
 |a::c,l=>match l with
  |b::bs=>RA a b&&Jq c bs
  |[]=>false
end
mutual
theorem mO:∀{a b:Md},RA a b=true->a=b
 |.s,m,h=>by cases m<;>first|rfl|exact ff h
 |.f,m,h=>by cases m<;>first|rfl|exact ff h
 |.t a,m,h=>by
  cases m with
  |t b=>exact Hb _ (uv h)
  |_=>exact ff h
 |.o e a,m,h=>by
  cases m with
  |o c b=>have h:=Ki.mp h;rw[Ap h.1,uv h.2]
  |_=>exact ff h
 |.io a,m,h=>by
  cases m with
  |io b=>exact Hb _ (mO h)
  |_=>exact ff h
 |.ls a,m,h=>by
  cases m with
  |ls b=>exact Hb _ (mO h)
  |_=>exact ff h
 |.d,m,h=>by cases m<;>first|rfl|exact ff h
theorem uv:∀{a b:List Md},Jq a b=true->a=b
 |[],l,h=>by
  cases l with
  |nil=>rfl
  |cons b bs=>exact ff h
 |a::c,l,h=>by
  cases l with
  |nil=>exact ff h
  |cons b bs=>have h:=Ki.mp h;rw[mO h.1,uv h.2]
end
noncomputable def hasB(M:Ms)(i:Nat)(m:Md):Bool:=match M.lookup i with
 |some k=>RA k m
 |none=>false
theorem jK{M:Ms}{i:Nat}{m:Md}(h:hasB M i m=true):(i,m)∈M:=by
 unfold hasB at h;cases e:M.lookup i with
 |none=>rw[e]at h;exact ff h
 |some k=>rw[e]at h;rw[<-mO h];exact fj e
noncomputable def LW(f:Expr->Str->List Expr->Bool):Expr->Bool:=qb λg b k c=>k&&uh (λo m a=>(a.endLine==c.line)&&decide (b.length<30)&&f o m b) g
mutual
noncomputable def fS(S:SE):CE->Expr->Bool
 |.pop i,e=>yk (λo m n k=>decide (m=("pop":Str))&&(n.endLine==k.line)&&Bx S.M i&&jk S i o) e
 |.DX i g f d,e=>jX (λx es=>(S.N[i]?==some x&&Jc S x&&okN x)&&!nB S.M i&&(match S.fn[f]?,S.gn[g]? with
  |some y,some z=>decide (y=z)
  |_,_=>false)&&!es.isEmpty&&!dM (gq S.md f)&&!S.mt.any (·.1==f)&&lA S d es) e
 |.gD i g f d,e=>LW (λo x es=>S.fn[f]?==some x&&S.mt.any (λy=>y.1==f&&y.2==g)&&(match gq S.md f with
  |.io (.o h j)=>hasB S.M i (.o h j)&&!h.contains x
  |_=>false)&&jk S i o&&lA S d es) e
 |.bin op a b,e=>ED (λo l r=>decide (op=o)&&fS S a l&&fS S b r) e
 |.cmp op a b,e=>EF (λo l r=>decide (op=o)&&!decide (op=.In)&&!decide (op=.NotIn)&&fS S a l&&fS S b r) e
 |.call f d,e=>jX (λx es=>S.fn[f]?==some x&&jN S x&&!es.isEmpty&&!dM (gq S.md f)&&!S.mt.any (·.1==f)&&lA S d es) e
 |.blt b d,e=>jX (λx es=>decide (x=VC b)&&jN S x&&S.zn.contains x&&ZG b es.length&&!decide (b=.DW)&&!es.isEmpty&&lA S d es) e
 |.ix a b,e=>yj (λv s=>v5 s&&fS S a v&&fS S b s) e
 |.lst d,e=>O9 (λes=>lA S d es) e
 |.tup d,e=>yi (λes=>lA S d es) e
 |.and _,_=>false
 |.or _,_=>false
 |c,e=>aH S false c e
noncomputable def lA(S:SE):List CE->List Expr->Bool
 |[],es=>es.isEmpty
 |a::b,es=>zJ (λe=>fS S a e) (λes=>lA S b es) es
end
noncomputable def m8(S:SE):CE->Expr->Bool
 |.cmp op a b,e=>fS S (.cmp op a b) e
 |.gD i g f d,e=>fS S (.gD i g f d) e
 |.call f d,e=>fS S (.call f d) e
 |.pop _,_=>false
 |.bin _ _ _,_=>false
 |.blt _ _,_=>false
 |.ix _ _,_=>false
 |.lst _,_=>false
 |.tup _,_=>false
 |.and _,_=>false
 |.or _,_=>false
 |c,e=>aH S false c e&&Cv c
noncomputable def lB(S:SE):List CE->List Expr->Bool
 |[],_=>false
 |a::c,es=>match c with
  |[]=>Ui (λe=>m8 S a e) es
  |b::bs=>zJ (λe=>m8 S a e) (λes=>lB S (b::bs) es) es
noncomputable def zR(S:SE):CE->Expr->Bool
 |.and a,e=>O8 (λo es=>decide (o=.And)&&lB S a es) e
 |.or a,e=>O8 (λo es=>decide (o=.Or)&&lB S a es) e
 |c,e=>m8 S c e
noncomputable def Xh:Md->Bool
 |.s=>true
 |_=>false
noncomputable def Xi(a:Nat->Md):CE->Md
 |.tup b=>.t (b.map (mo a))
 |.call f _=>a f
 |c=>mo a c
noncomputable def isVar:CE->Option Nat
 |.var i=>some i
 |_=>none
noncomputable def Uv(S:SE)(m:Md)(e:CE)(v:Expr):Bool:=match isVar e with
 |some i=>hasB S.M i m&&jk S i v
 |none=>false
noncomputable def Uw(S:SE)(a:Nat->Md)(m:Md)(e:CE)(v:Expr):Bool:=
 !dM m&&((Xh m&&(aH S.bare false e v||aH S false e v))||(RA (Xi a e) m&&(aH S.bare false e v||aH S false e v))||Uv S m e v)
noncomputable def P6(S:SE)(m:Md):Bool:=match m with
 |.io k=>hasB S.M 0 k
 |_=>false
noncomputable def LX(f:Expr->Str->Expr->Bool):Stmt->Bool:=BC λa v=>o1 (uh λo x _=>f o x v) a
noncomputable def isCall:CE->Bool
 |.call _ _=>true
 |_=>false
noncomputable def P7(S:SE)(i n:Nat)(x:Str):Bool:=match S.M.lookup i with
 |some (.o b a)=>b[n]?==some x&&(match a[n]? with
  |some k=>Jb k
  |none=>false)
 |_=>false
noncomputable def ZN(S:SE)(c:List Nat)(a h:Bool)(f:Expr->Bool)(g:List Stmt->Bool)(tg d:Expr)(b:List Stmt):Bool:=
 match Ue tg with
 |some (o,e)=>(a==o)&&BB S c e&&Jm S c&&um d&&(!h||!a)&&f d&&g b
 |none=>false
noncomputable def yt:Expr->Bool
 |.SetComp _ _ _ _=>false
 |.DictComp _ _ _ _ _=>false
 |_=>true
noncomputable def ZO(M:Ms)(i n:Nat):Option Str:=match M.lookup i with
 |some (.o a _)=>a[n]?
 |_=>none
noncomputable def Ux(M:Ms)(i n:Nat):Bool:=match M.lookup i with
 |some (.o _ a)=>(match a[n]? with
  |some .f=>true
  |_=>false)
 |_=>false
noncomputable def zS:Expr->Bool
 |.Starred _ _=>false
 |_=>true
noncomputable def P8(S:SE):CE->Expr->Bool
 |.call f a,e=>aH S false (.call f a) e
 |.oq g f (.call h a),e=>aH S false (.oq g f (.call h a)) e
 |_,_=>false
noncomputable def Uy(S:SE)(j i g y:Nat)(a n z:Str):Bool:=GQ S j a&&GQ S i n&&GQ S y z&&(S.nk.lookup n==some .local)&&okN n&&!(i==y)&&!nB S.M j&&!nB S.M i&&!nB S.M y
mutual
noncomputable def Jr(S:SE)(d:Nat->Md)(m:Md):CS->Stmt->Bool
 |.set i e,st=>sX (λx _ v=>GQ S i x&&(if nB S.M i=true then(!dM m||!(i==0))&&((Bx S.M i&&iy d e)||(isCall e&&hasB S.M i (Xi d e)))&&aH (S.less i) false e v else aH S false e v)) st
 |.Cs q e,st=>LS (λes v=>(match EJ es with|some r=>BB S q r|none=>false)&&Jm S q&&aH S false e v&&(ES v||yi (λvs=>decide (Ry S es vs=some none)) v)) st
 |.par q es,st=>LU (λtg vs=>(match EJ tg with|some r=>BB S q r&&decide (Ry S tg vs=some (some r))&&decide r.Nodup&&r.all (λx=>S.nk.lookup x==some .local)|none=>false)&&Jm S q&&fq S es vs) st
 |.app i e,st=>BD (λo f p l v=>decide (f=("append":Str))&&(p.endLine==l.line)&&Bx S.M i&&jk S i o&&aH S false e v) st
 |.mz j e,st=>sX (λx _ v=>GQ S j x&&!nB S.M j&&ET v&&yt v&&fS S e v) st
 |.ret e,st=>Jo (iL e&&Xh m) (λv=>Uw S d m e v) st
 |.iff c a b,st=>Jp (λt x y=>aH S false c t&&Cv c&&cT S d m a x&&cT S d m b y) st
 |.Lw c b,st=>P5 (λt x=>aH S false c t&&Cv c&&cT S d m b x) st
 |.fr q one s b,st=>Uu (λtg i x=>ZN S q one (EK s) (λi=>aH S true s i) (λx=>cT S d m b x) tg i x) st
 |.brk,st=>Xg st
 |.raise g e,st=>EU (λx v=>S.gn[g]?==some x&&jN S x&&aH S false e v) st
 |.GK i π e,st=>BD (λo f p l v=>decide (f=("append":Str))&&(p.endLine==l.line)&&jY S O7 i π o&&aH S false e v) st
 |.xo i n e,st=>LX (λo x v=>P7 S i n x&&jk S i o&&aH S false e v) st
 |.HU e,st=>Jo (iL e&&P6 S m) (λv=>P6 S m&&aH S false e v) st
 |.xq e,st=>P4 (λv=>ET v&&yt v&&fS S e v) st
 |.Lx c a b,st=>Jp (λt x y=>zR S c t&&cT S d m a x&&cT S d m b y) st
 |.S8 c b,st=>P5 (λt x=>zR S c t&&cT S d m b x) st
 |.NF i e,st=>BD (λo f p l v=>decide (f=("append":Str))&&(p.endLine==l.line)&&Bx S.M i&&jk S i o&&zS v&&fS S e v) st
 |.HV,_=>true
 |.Vs i,st=>sX (λx _ v=>GQ S i x&&(!dM m||!(i==0))&&Bw S.M i&&EV v) st
 |.Tc j i g y e,st=>oTr (λb h=>o1 (sX λa _ ex=>o1 (oHd λc n w=>ZM (λc=>ZM (λn=>o1 (sX λz _ v=>Uy S j i g y a n z&&P8 S e ex&&jj (λu=>decide (u=n)) v) w&&jj (λx=>S.gn[g]?==some x&&jN S x) c) n) c) h) b) st
 |.Vt i k e,st=>LV (λo j v=>Bw S.M i&&jk S i o&&v5 j&&aH S false k j&&aH S false e v) st
 |.HE i π e,st=>BD (λo f p l v=>decide (f=("extend":Str))&&(p.endLine==l.line)&&jY S O7 i π o&&iy d e&&aH S false e v) st
 |.S9 e,st=>Jo false (λv=>Xh m&&fS S e v) st
 |.Ru c a b,st=>Jp (λt x y=>Vz (λo z=>decide (o=.Not)&&zR S c z) t&&cT S d m a x&&cT S d m b y) st
 |.Rt i n e,st=>BD (λo f p l v=>decide (f=("append":Str))&&(p.endLine==l.line)&&Ux S.M i n&&uh (λa x _=>decide (ZO S.M i n=some x)&&jk S i a) o&&zS v&&fS {S with M:=GN S.M i n} e v) st
 |.NG _ _,_=>false
noncomputable def cT(S:SE)(c:Nat->Md)(m:Md):List CS->List Stmt->Bool
 |[],es=>es.isEmpty
 |a::f,es=>match a with
  |.NG d b=>f.isEmpty&&(!dM m||!d.contains 0)&&cT (S.lend d) c m b es
  |a=>EW (λe=>Jr S c m a e) (λes=>cT S c m f es) es
end
structure yu(S:SE)(Φ:Nat->aV)(Ψ:Nat->Md)(G:Nat->W)(X:Cx):Prop extends XOk S Φ Ψ G X where
 bk:X.env.blockKind=.function
 GO:∀x,X.fn x=true
 LY:∀j x C,S.gn[j]?=some x->G j=.cls C->pK X.K C
 own:PassesOwn (model X.prog X.w) X.A X.env X.xe
 stk:X.stack=X.env::X.outer/\X.env.frame=some X.env.locals
 Js:∀i m m',(i,m)∈S.M->(i,m')∈S.M->m=m'
section
variable{S:SE}{Φ:Nat->aV}{Ψ:Nat->Md}{G:Nat->W}{X:Cx}
theorem yu.G3(h:yu S Φ Ψ G X):yu S Φ Ψ G X.G3:={toXOk:=h.toXOk.G3,bk:=h.bk,GO:=h.GO,LY:=h.LY,own:=.never,stk:=h.stk,Js:=h.Js}
theorem XOk.P9(h:XOk S Φ Ψ G X)(M:Ms):XOk {S with M:=M} Φ Ψ G X:=⟨h.hN,h.nd,h.calm,h.un,h.nk,h.fns,h.oq,h.Cw,h.GP,h.zK,h.kit⟩
theorem jl(h:yu S Φ Ψ G X){i:Nat}{x:Str}(k:GQ S i x=true):gv X i x:=by unfold GQ at k;simp only[AC,Ta,HI]at k;refine⟨by rw[h.hN];exact k.1,?_,.inl (h.GO x)⟩;unfold L2.Loc;rw[h.nk];exact k.2
theorem oE(h:yu S Φ Ψ G X):∀{b:List Nat}{a:List Str},BB S b a=true->dW X b a
 |[],a,k=>Fs.mp k
 |i::c,[],k=>by cases k
 |i::c,x::r,k=>by rw[BB,AC]at k;exact⟨x,r,rfl,jl h k.1,oE h k.2⟩
theorem uw{a:List Nat}(h:Jm S a=true):∀i∈a,¬aM S.M i:=λi b=>eS (by simpa using IR.mp h i b)
theorem v9{i:Nat}{m:Md}(f:(i,m)∈S.M)(d:∀c,(i,c)∈S.M->c=m){x:Nat×Md}:x∈S.M↔x=(i,m)\/x∈(S.less i).M:=by
 show _↔_\/x∈S.M.filter (·.1 !=i);rw[QQ,bne_iff_ne];obtain⟨a,b⟩:=x;constructor
 .intro h;by_cases e:a=i
  .subst e;rw[d b h];exact .inl rfl
  .exact .inr ⟨h,e⟩
 .rintro(e|h)
  .cases e;exact f
  .exact h.1
theorem wc{i:Nat}:¬aM (S.less i).M i:=by rintro⟨m,h⟩;have h:(i,m)∈S.M.filter (·.1 !=i):=h;rw[QQ,bne_iff_ne]at h;exact h.2 rfl
noncomputable def zT:Expr->Bool
 |.SetComp _ _ _ _=>false
 |.DictComp _ _ _ _ _=>false
 |_=>true
theorem Qa{b:Bool}{c:CE}{e:Expr}(h:aH S b c e=true):zT e=true:=by
 cases e with
 |SetComp _ _ _ _=>
  cases c with
  |own i a=>rcases(cS h).2 with⟨_,_,_,e⟩|⟨_,_,_,_,_,e⟩<;>cases e
  |_=>exact ff h
 |DictComp _ _ _ _ _=>
  cases c with
  |own i a=>rcases(cS h).2 with⟨_,_,_,e⟩|⟨_,_,_,_,_,e⟩<;>cases e
  |_=>exact ff h
 |_=>rfl
noncomputable def Xj(S:SE)(x:Str)(p:Pos):Expr->Bool
 |.ListComp _ _ scope q=>(S.nk.lookup x==some .local)&&(p.line==q.line)&&!(scope.names.any λ(n,k)=>n==x&&(k==.local||k==.cell))
 |_=>false
theorem Uz(h:yu S Φ Ψ G X){e:Expr}(he:zT e=true)(x:Str)(p:Pos)(l:Nat):swapsWith e (some (.Name x p)) l X.env=pure (Xj S x p e):=by
 cases e with
 |ListComp a b scope q=>show(pure _:Sem Bool)=pure _;rw[h.bk];show(pure (true&&(X.env.scope.names.lookup x==some .local)&&(p.line==q.line)&&_):Sem Bool)=_;rw[h.nk,V0];rfl
 |SetComp _ _ _ _=>exact ff he
 |DictComp _ _ _ _ _=>exact ff he
 |_=>rfl
theorem Jt{e:Expr}{es:List Expr}{k:Nat}{p:Pos}(l:Nat)(env:Env):swapsWithSole [.Tuple es k p] e l env=pure false:=by
 cases e<;>rfl
theorem EX{e o i:Expr}{p:Pos}(l:Nat)(env:Env):swapsWithSole [.Subscript o i p] e l env=pure false:=by
 cases e<;>rfl
theorem Ju{e:Expr}(he:ES e=true)(es:List Expr)(k:Nat)(p:Pos)(env:Env):swappedStores [.Tuple es k p] e env=pure none:=by
 cases e<;>first|rfl|exact ff he
theorem EY{e o i:Expr}{p:Pos}(env:Env):swappedStores [.Subscript o i p] e env=pure none:=by
 cases e<;>rfl
theorem EZ(h:yu S Φ Ψ G X){a vs:List Expr}{k k2:Nat}{p p2:Pos}{o:Option (List Str)}(e:Ry S a vs=some o):swappedStores [.Tuple a k p] (.Tuple vs k2 p2) X.env=pure o:=by
 delta swappedStores
 unfold Ry at e;have b:∀x,X.env.kindOf x=S.nk.lookup x:=λx=>h.nk x;simp only[b,h.bk,bne_self_eq_false,QR];dsimp only at e;split at e
 .rename_i c
  cases e;exact Do c
 rename_i c1
 refine(Bi c1).trans ?_;split at e
 .rename_i c
  cases e;exact Do c
 rename_i c2
 refine(Bi c2).trans ?_;split at e
 .rename_i c
  cases e;exact Do c
 rename_i c3
 refine(Bi c3).trans ?_;split at e
 .rename_i c
  cases e;exact Do c
 rename_i c4
 refine(Bi c4).trans ?_;split at e
 .cases e
 rename_i c5
 cases e;exact Bi c5
end
theorem jm{f:List Expr->Expr->Bool}{e:Stmt}(h:BC f e=true):∃a v q,e=.Assign a v q/\f a v=true:=by cases e<;>first|exact⟨_,_,_,rfl,h⟩|exact ff h
theorem Jv{f:Expr->List Stmt->List Stmt->Bool}{e:Stmt}(h:ZJ f e=true):∃c a b q,e=.While c a b q/\f c a b=true:=by cases e<;>first|exact⟨_,_,_,_,rfl,h⟩|exact ff h
theorem Jw{f:Expr->Expr->List Stmt->List Stmt->Bool}{e:Stmt}(h:ZK f e=true):∃t i a b q,e=.For t i a b q/\f t i a b=true:=by cases e<;>first|exact⟨_,_,_,_,_,rfl,h⟩|exact ff h
theorem Jx{f:Expr->Bool}{e:Stmt}(h:ZL f e=true):∃x q,e=.Raise (some x) none q/\f x=true:=by
 cases e<;>try exact ff h
 rename_i x y q
 cases x<;>cases y<;>first|exact⟨_,_,rfl,h⟩|exact ff h
theorem we{f:Expr->Bool}{st:Stmt}(h:P4 f st=true):∃v q,st=.Expr v q/\f v=true:=by cases st<;>first|exact⟨_,_,rfl,h⟩|exact ff h
theorem gG{f:Str->Pos->Expr->Bool}{st:Stmt}(h:sX f st=true):∃x p v q,st=.Assign [.Name x p] v q/\f x p v=true:=by obtain⟨d,v,q,rfl,c⟩:=jm h;obtain⟨t,rfl,b⟩:=cu c;obtain⟨x,p,rfl,a⟩:=zI b;exact⟨_,_,_,_,rfl,a⟩
theorem BE{f:List Expr->Expr->Bool}{st:Stmt}(h:LS f st=true):∃es k p v q,st=.Assign [.Tuple es k p] v q/\f es v=true:=by obtain⟨d,v,q,rfl,c⟩:=jm h;obtain⟨t,rfl,b⟩:=cu c;obtain⟨es,k,p,rfl,a⟩:=dX b;exact⟨_,_,_,_,_,rfl,a⟩
theorem BF{f:List Expr->List Expr->Bool}{st:Stmt}(h:LU f st=true):∃es k p vs b a q,st=.Assign [.Tuple es k p] (.Tuple vs b a) q/\f es vs=true:=by obtain⟨i,v,q,rfl,g⟩:=jm h;obtain⟨t,rfl,e⟩:=cu g;obtain⟨es,k,p,rfl,d⟩:=dX e;obtain⟨vs,b,a,rfl,c⟩:=dX d;exact⟨_,_,_,_,_,_,_,rfl,c⟩
theorem BG{f:Expr->Expr->Expr->Bool}{st:Stmt}(h:LV f st=true):∃o k p v q,st=.Assign [.Subscript o k p] v q/\f o k v=true:=by obtain⟨d,v,q,rfl,c⟩:=jm h;obtain⟨t,rfl,b⟩:=cu c;obtain⟨o,k,p,rfl,a⟩:=cZ b;exact⟨_,_,_,_,_,rfl,a⟩
theorem jn{f:Expr->Str->Pos->Pos->Expr->Bool}{st:Stmt}(h:BD f st=true):∃o m c v b q,st=.Expr (.Call (.Attribute o m c) [v] [] b) q/\f o m c b v=true:=by obtain⟨v,q,rfl,n⟩:=we h;obtain⟨g,s,r,p,rfl,l⟩:=eU n;obtain⟨k,j⟩:=a2 l;obtain⟨e,rfl,i⟩:=cu j;obtain⟨o,m,a,rfl,d⟩:=cF i;rw[Fs.mp k];exact⟨_,_,_,_,_,_,rfl,d⟩
theorem qm{n:Bool}{f:Expr->Bool}{st:Stmt}(h:Jo n f st=true):(∃v q,st=.Return (some v) q/\f v=true)\/∃q,st=.Return none q/\n=true:=by
 cases st<;>try exact ff h
 rename_i v q
 cases v
 .exact .inr ⟨_,rfl,h⟩
 .exact .inl ⟨_,_,rfl,h⟩
theorem qo{f:Expr->List Stmt->List Stmt->Bool}{st:Stmt}(h:Jp f st=true):∃c a b q,st=.If c a b q/\f c a b=true:=by
 cases st<;>try exact ff h
 exact⟨_,_,_,_,rfl,h⟩
theorem wg{f:Expr->List Stmt->Bool}{st:Stmt}(h:P5 f st=true):∃c a q,st=.While c a [] q/\f c a=true:=by obtain⟨c,a,b,q,rfl,e⟩:=Jv h;obtain⟨k,d⟩:=a2 e;rw[Fs.mp k];exact⟨_,_,_,rfl,d⟩
theorem E2{f:Expr->Expr->List Stmt->Bool}{st:Stmt}(h:Uu f st=true):∃tg c a q,st=.For tg c a [] q/\f tg c a=true:=by obtain⟨t,i,a,b,q,rfl,e⟩:=Jw h;obtain⟨k,d⟩:=a2 e;rw[Fs.mp k];exact⟨_,_,_,_,rfl,d⟩
theorem yv{f:Str->Expr->Bool}{st:Stmt}(h:EU f st=true):∃x np e j q,st=.Raise (some (.Call (.Name x np) [e] [] j)) none q/\f x e=true:=by obtain⟨x,q,rfl,i⟩:=Jx h;obtain⟨g,m,l,p,rfl,d⟩:=eU i;obtain⟨k,c⟩:=a2 d;obtain⟨e,rfl,b⟩:=cu c;obtain⟨y,np,rfl,a⟩:=bq b;rw[Fs.mp k];exact⟨_,_,_,_,_,rfl,a⟩
section
variable{X:Cx}{M:Ms}{m:Md}{st:Stmt}{i j k:Nat}{e:Expr}{te:(Addr->Prop)->WT}{M':Ms}{m0:Md}
theorem Jy{x y z:Str}{a b c:Expr}{ta:TA}{R Q P S pos:Pos}{T k2 Z}(hc:X.calm=true)(O:X.N.Nodup)(hi:X.N[i]?=some x)(hj:X.N[j]?=some y)(hk:X.N[k]?=some z)(L:i≠j)(K:i≠k)(J:j≠k)
 (Y:X.env.scope.names.lookup x=some .local)(U:X.env.scope.names.lookup y=some .local)(hz:X.env.scope.names.lookup z=some .local)(ha:PA X [a,b,c] ta)
 (hw:swappedStores [.Tuple [.Name x R,.Name y Q,.Name z P] T S] (.Tuple [a,b,c] k2 Z) X.env=pure (some [x,y,z])):
 PS X (.Assign [.Tuple [.Name x R,.Name y Q,.Name z P] T S] (.Tuple [a,b,c] k2 Z) pos) (λD f H=>ta f H λvs H1=>∃v w u,vs=[v,w,u]/\D.nx (((f.set i (some v)).set j (some w)).set k (some u)) H1):=by
 intro d s f H D I h;rw[exec_Assign_arm];refine Da (cm ?_);refine Da (GM ?_);rw[Bi (by decide)];refine Da (Tuple_ (bD (ha _ d s f H _ I h) λus r ⟨vs,H1,I1,r1,B⟩=>?_));obtain⟨v,w,u,e1,B⟩:=B;subst e1;obtain⟨n,l,g,rfl,rv,t,ru⟩:∃n l g,us=[n,l,g]/\RelV v n/\RelV w l/\RelV u g:=by
  cases r1 with
  |cons p q=>
   cases q with
   |cons p' q'=>
    cases q' with
    |cons E C=>
     cases C;exact⟨_,_,_,rfl,p,p',E⟩
 refine Pv ?_ (by show 3<=sizeLine;decide);have I2:Inv X d f H1 {r with heap:=r.heap.push {cls:=.type "tuple",data:=.seq [n,l,g].toArray}}:=I1.kept (t':=r.toks) λb o e=>Dx _ e;rw[hw];refine Da (GM ?_);show wpAny (model X.prog X.w) X.A (do rule "assign.swapped-stores";let items<-unpackItems (.ref r.heap.objs.size) 3 none;assignInOrder [λv=>bindName X.env z v,λv=>bindName X.env y v,λv=>bindName X.env x v] items.reverse;pure Flow.next) _ _ _;refine Da (wpAny_rule (Da (unpackItems_tuple (items:= #[n,l,g]) (I.ok.hd hc) (IsTup.new r.heap _) λh' F=>?_)));have I3:=I2.kept (h':=h') (t':=r.toks) λb o e=>F b o (KM (Fm e)) e;show wpAny _ _ (assignInOrder [λv=>bindName X.env z v,λv=>bindName X.env y v,λv=>bindName X.env x v] [g,l,n]>>=λ_=>pure Flow.next) _ _ _;refine Da (TB (bp (cW I3 O hk (.inl hz) ru (λs2 I4=>?_) (.inr hz))));refine TB (bp (cW I4 O hj (.inl U) t (λs3 I5=>?_) (.inr U)));refine TB (bp (cW I5 O hi (.inl Y) rv (λs4 I6=>assignInOrder_nil (GM ?_)) (.inr Y)));have e6:((f.set k (some u)).set j (some w)).set i (some v)=((f.set i (some v)).set j (some w)).set k (some u):=by rw[bc _ _ (OF J),bc _ _ (OF K),bc _ _ (OF L)]
 rw[e6]at I6;exact⟨_,H1,I6,B⟩
theorem Jz(c:∀R,PS X st (oZ (tV X M R (NO X.K .s) (te R)) (gx i)))(n:¬aM M i):VS X M m st (λd b=>te d.ex b λw=>d.nx (b.set i (some w))):=by rintro a s f H D I ⟨A,q,b,d,S,o,hz,h,k⟩;refine c d.ex a s f H D I ⟨A,q,b,_,S,o,h,λw v p l g r=>?_⟩;exact k.nx A _ _ p rfl rfl l ((S.same g).set n r.aS)
theorem E3(c:∀R,PS X st (oZ (tV X M' R (NO X.K m0) (te R)) (gx i)))(g:∀x,x∈M↔x=(i,m0)\/x∈M')(y:¬aM M' i)(f:dM m=true->i≠0):VS X M m st (λd b=>te d.ex b λw=>d.nx (b.set i (some w))):=by
 rintro a s n H D I ⟨A,Q,b,d,S,E,hz,h,k⟩;have C:∀v,A.s0=some v->A.s0=some v/\aM M' 0:=λv e=>by
  refine⟨e,?_⟩;have u:dM m=true:=by rw[<-hz,e];rfl
  obtain⟨p,B⟩:=(S.sl v e).2;rcases(g _).mp B with z|z
  .cases z;exact(f u rfl).elim
  .exact⟨p,z⟩
 obtain⟨U,J,F,Y,l⟩:=S.sub (M':=M') (λx q=>(g x).mpr (.inr q)) A.s0 C;refine c d.ex a s n H D I ⟨U,Q,b,_,l,E,h,λw v P t o r=>?_⟩;obtain⟨T,N,L,_,O⟩:=l.own g y o r;exact k.nx T _ _ P (N.trans J) (L.trans F) t O
theorem JA{pos:Pos}:VS X M .s (.Return none pos) (λd c=>d.rt .aG):=by rintro a s b H D I ⟨A,g,c,d,S,f,hz,h,k⟩;exact yZ a s b H D I (k.rt _ _ H h S.sm (.of rfl (.of (by dsimp only[Rep]))))
theorem E4{x:Str}{C:Addr}{np b pos:Pos}(y:X.calm=true)(u:Gl X x)(t:X.mg x=some (.ref C))(q:pK X.K C)(he:∀R,VE X M R .s e (te R))(f:starEach [e] X.env=[(false,eval e X.env)])(hd:(x==("__debug__":Str))=false):
 VS X M m (.Raise (some (.Call (.Name x np) [e] [] b)) none pos) (λd c=>te d.ex c λ_=>d.ex C):=by
 rintro a s l H D I ⟨A,B,c,d,S,⟨E,o,z,g⟩,hz,h,k⟩;exact DB g y u t q (aR (he d.ex) bS f) f hd a s l H D I ⟨A,B,c,_,S,⟨E,o,z,g⟩,h,λw v F p n r=>⟨by show 1<=sizeLine;decide,p,S.sm.trans n⟩⟩
end
theorem sY{f:Expr->Str->List Expr->Bool}{e:Expr}(h:LW f e=true):∃o m a es c,e=.Call (.Attribute o m a) es [] c/\f o m es=true/\(a.endLine==c.line)=true/\es.length<30:=by obtain⟨g,es,l,p,rfl,j⟩:=eU h;obtain⟨k,i⟩:=a2 j;obtain⟨o,m,a,rfl,d⟩:=cF i;rw[Fs.mp k];have b:=a3 d;exact⟨_,_,_,_,_,rfl,b.2,b.1.1,Ap b.1.2⟩
theorem BH{f:Expr->Str->Expr->Bool}{st:Stmt}(h:LX f st=true):∃o x p v q,st=.Assign [.Attribute o x p] v q/\f o x v=true:=by obtain⟨d,v,q,rfl,c⟩:=jm h;obtain⟨t,rfl,b⟩:=cu c;obtain⟨o,x,p,rfl,a⟩:=cF b;exact⟨_,_,_,_,_,rfl,a⟩
noncomputable def E5(X:Cx)(M:Ms)(R:Addr->Prop)(g:List Md)(t:Ev->(List W->Prop)->Prop):TA:=λf H Q=>∃A e b P,SR X.K M A e f H b/\ER X e R/\t b P/\∀c d a F,P c->aA H a->F.Nodup->(∀p∈F,H p=none)->dI X.K (λq=>A.B q\/q∈F) a g c d F->Q d a
section
variable{X:Cx}{M:Ms}{R:Addr->Prop}{a:Expr}{es:List Expr}{ta:WT}{m:Md}{ms:List Md}{pos:Pos}
theorem JB:PA X [] (E5 X M R [] λ_ Q=>Q []):=PA.imp bS<|by rintro b H Q ⟨A,e,c,P,S,d,h,k⟩;exact k [] [] H [] h (aA.refl H) Yf (by simp) (by dsimp only[dI];exact⟨rfl,rfl,rfl⟩)
theorem E6{n:Ev->(List W->Prop)->Prop}(D:starEach (a::es) X.env=(false,eval a X.env)::starEach es X.env)(I:VE X M R m a ta)(E:PA X es (E5 X M R ms n)):PA X (a::es) (E5 X M R (m::ms) λc Q=>ta c λx=>n c λf=>Q (x::f)):=
 PA.imp (aR I E D)<|by
  rintro O H Q ⟨A,u,c,P,S,t,h,k⟩;refine⟨A,u,c,_,S,t,h,λx v N C g y=>?_⟩;obtain⟨G,B,r,s⟩:=y;have d:∀q∈G,∃o,N q=some o:=λq j=>let⟨o,e,_⟩:=Fp.mu m s q j;⟨o,e⟩
  refine⟨_,u,c,_,S.more g r d,t,C,λf w L F i s2 J l K=>?_⟩;refine k _ _ L (G++F) i (g.trans s2) ?_ (λp b=>?_) ?_
  .refine Pm.mpr ⟨B,J,λp b q j e=>?_⟩;subst e;obtain⟨o,e⟩:=d p b;rw[l p j]at e;cases e
  .rcases Fh.mp b with b|b
   .exact r p b
   .exact g.free (l p b)
  .refine⟨x,f,v,w,G,F,rfl,rfl,rfl,Fp.mv s2 (λp o e z=>?_) m s,dI.mv (aA.refl _) (λp o e z=>?_) ms K⟩
   .rcases z with z|z
    .exact .inl z
    .rcases Fh.mp z with z|z
     .exact .inr z
     .rw[l p z]at e;cases e
   .rcases z with z|z
    .exact .inl (.inl z)
    .rcases Fh.mp z with z|z
     .exact .inl (.inr z)
     .exact .inr z
theorem JC{e:Ev->(List W->Prop)->Prop}{j:Nat}(h:PA X es (E5 X M R ms e)):VE X M R (.t ms) (.Tuple es j pos) (λd Q=>e d λb=>b.length<=sizeLine/\Q (.tup b)):=PE.imp (xO h)<|by
 rintro E H Q ⟨A,D,d,P,S,y,h,k⟩;refine⟨A,D,d,_,S,y,h,λb c C F g n q o i=>?_⟩;have u:∀(ms:List Md){b:List W}{c:List V}{F:List Addr}{B:Addr->Prop},dI X.K B C ms b c F->c.length=b.length:=λms=>by
  induction ms with
  |nil=>intro b c F B h;dsimp only[dI]at h;rw[h.1,h.2.1];rfl
  |cons m ms r=>intro b c F B h;obtain⟨w,I,v,l,L,J,rfl,rfl,_,_,x⟩:=h;rw[A0,A0,r x]
 refine⟨by rw[u ms i];exact g.1,λp s=>?_⟩;have f:=aK s (.tup c);refine k _ _ _ g.2 (n.trans f) ⟨F,q,o,?_⟩;exact⟨b,p,c,rfl,rfl,aD,dI.mv f (λ_ _ _ z=>z) ms i⟩
end
noncomputable def dh(b:Nat->aV)(a:Nat->Md)(G:Nat->W)(s:CS):Prop:=∀{S:SE}{X:Cx}{m:Md},yu S b a G X->∀c,Jr S a m s c=true->VS X S.M m c (wS b G s)
noncomputable def fu(b:Nat->aV)(a:Nat->Md)(G:Nat->W)(s:List CS):Prop:=∀{S:SE}{X:Cx}{m:Md},yu S b a G X->∀c,cT S a m s c=true->zB X S.M m c (wSs b G s)
section
variable{Φ:Nat->aV}{Ψ:Nat->Md}{G:Nat->W}
theorem yu.P9{S:SE}{X:Cx}(h:yu S Φ Ψ G X)(M:Ms)(b:∀i m a,(i,m)∈M->(i,a)∈M->m=a):yu {S with M:=M} Φ Ψ G X:={toXOk:=h.toXOk.P9 M,bk:=h.bk,GO:=h.GO,LY:=h.LY,own:=h.own,stk:=h.stk,Js:=b}
theorem E7{S:SE}{X:Cx}(b:XOk S Φ Ψ G X){f:Nat}{h:List CE}{v:Expr}(k:aH S false (.call f h) v=true)(R:Addr->Prop):VE X S.M R (Ψ f) v (wE Φ G R (.call f h))/\∃g es p,v=.Call g es [] p:=by
 obtain⟨x,q,es,p,rfl,i⟩:=aO k;simp only[AC]at i;obtain⟨⟨⟨⟨⟨s,r⟩,o⟩,d⟩,m⟩,j⟩:=i;obtain⟨B,A,D⟩:=bz b r;obtain⟨C,n,l,z,F,t,y⟩:=b.fns f x (HI.mp s) (by simpa using m);have F:bU X.prog X.w X.K X.mg X.base l C n (xu X.K n (Ψ f) (Φ f)):=by rw[<-b.Cw]at d;cases u:Ψ f<;>rw[u]at d F<;>first|exact F|exact ff d
 have c:=jH j;cases es with
 |nil=>exact ff o
 |cons e es=>rw[CB,AC]at c;refine⟨?_,_,_,_,rfl⟩;exact zA (M:=S.M) (R:=R) (p:=q) (pos:=p) F t B z y ((j9 Φ Ψ G h).1.a b _ j R) A (aE c.1 _ _) (bG c.2 _ _)
theorem E8{S:SE}{X:Cx}(c:XOk S Φ Ψ G X):∀(b:List CE)(es:List Expr),fq S b es=true->∀R,PA X es (E5 X S.M R (b.map (mo Ψ)) (wA Φ G R b))
 |[],es,k,R=>by rw[Fs.mp k];exact JB
 |a::b,[],k,R=>by cases k
 |a::b,e::es,k,R=>by have k:=a2 k;exact E6 (aE (aT (.inl k.1)) _ _) ((snd Φ Ψ G a).e c e k.1 R) (E8 c b es k.2 R)
theorem E9{S:SE}{X:Cx}(a:XOk S Φ Ψ G X){e:CE}{v:Expr}(k:aH S false e v=true)(R:Addr->Prop):VE X S.M R (Xi Ψ e) v (wE Φ G R e):=by
 cases e with
 |tup b=>obtain⟨c,kd,p,rfl,k⟩:=dX k;exact JC (E8 a b c k R)
 |call f b=>exact(E7 a k R).1
 |_=>exact(snd Φ Ψ G _).e a v k R
theorem yw{e:CE}(h:isCall e=true):∃f a,e=.call f a:=by cases e<;>first|exact⟨_,_,rfl⟩|exact ff h
theorem sZ{e:CE}(h:iL e=true):e=.aG:=by cases e<;>first|rfl|exact ff h
theorem BJ{e:CE}{i:Nat}(h:isVar e=some i):e=.var i:=by cases e<;>first|(cases h;rfl)|exact nn h
theorem JD{S:SE}{x:Str}{p:Pos}{v:Expr}(h:Xj S x p v=true):∃a b c d,v=.ListComp a b c d:=by cases v<;>first|exact⟨_,_,_,_,rfl⟩|exact ff h
theorem Qc{S:SE}{e:CE}{a:Expr}{b:List Comprehension}{c:Scope}{d:Pos}(k:aH S false e (.ListComp a b c d)=true):∃g f n i c x,e=.comp g f n i c x:=by
 cases e with
 |comp g f n i c x=>exact⟨_,_,_,_,_,_,rfl⟩
 |own i h=>rcases(cS k).2 with⟨_,_,_,e⟩|⟨_,_,_,_,_,e⟩<;>cases e
 |_=>exact ff k
theorem zU{S:SE}{X:Cx}(d:yu S Φ Ψ G X){i:Nat}{x:Str}{p q:Pos}{e:CE}{v:Expr}(P:GQ S i x=true)(k:aH S false e v=true)(R:Addr->Prop):
 PS X (.Assign [.Name x p] v q) (oZ (tV X S.M R (NO X.K (mo Ψ e)) (wE Φ G R e)) (gx i)):=by
 have n:=jl d P;have a:=Uz d (Qa k) x p q.line;cases m:Xj S x p v with
 |false=>rw[m]at a;exact pA d.nd n.1 n.2.1 ((snd Φ Ψ G e).e d.toXOk v k R) a n.2.2
 |true=>rw[m]at a;obtain⟨T,gs,h,pp,rfl⟩:=JD m;obtain⟨ts,B,n',E,c,y,rfl⟩:=Qc k;obtain⟨t,tg,r,F,f,p',o,U,rfl,j,O,l,Y,L⟩:=ql (snd Φ Ψ G E) (snd Φ Ψ G c) (snd Φ Ψ G y) d.toXOk k R;cases U;rw[iV rfl,zQ];intro b s g H D I J;obtain⟨A,z,w⟩:=L b s g H I;exact HQ o (mask o S.N) d.nd n.1 n.2.1 d.calm O Y A z (λC u Z Q=>(w C u Z Q).2) a l n.2.2 b s g H D I (vR j g H _ J)
theorem Qd(i:Nat)(e:CE):dh Φ Ψ G (.set i e):=by
 intro S X m l st k;obtain⟨x,p,v,q,rfl,h⟩:=gG k;rw[AC]at h;by_cases y:nB S.M i=true
 .rw[Do y]at h;simp only[AC]at h;obtain⟨F,⟨E,d⟩,C⟩:=h;have u:dM m=true->i≠0:=λz e=>by rw[z,e]at E;cases E
  have L:∀{t:Md},(i,t)∈S.M->(∀R,PS X (.Assign [.Name x p] v q) (oZ (tV X (S.less i).M R (NO X.K t) (wE Φ G R e)) (gx i)))->VS X S.M m (.Assign [.Name x p] v q) (λD o=>wE Φ G D.ex e o λw=>D.nx (o.set i (some w))):=λ{t} I O=>E3 (M':=(S.less i).M) (te:=λR=>wE Φ G R e) O (λj=>v9 I (λm' T=>l.Js i _ _ T I)) wc u;have J:yu (S.less i) Φ Ψ G X:=l.P9 (S.less i).M λa b c B Q=>l.Js a b c (QQ.mp B).1 (QQ.mp Q).1;rcases fV d with d|d
  .rw[AC]at d;refine L (oz d.1) λR=>?_;have:=zU J (p:=p) (q:=q) F C R;rw[iV d.2]at this;exact this
  .rw[AC]at d;refine L (jK d.2) λR=>?_;obtain⟨f,as,rfl⟩:=yw d.1;obtain⟨B,g,es,pp,rfl⟩:=E7 J.toXOk C R;have n:=jl l F;exact pA l.nd n.1 n.2.1 B rfl n.2.2
 .rw[Bi y]at h;refine Jz (te:=λR=>wE Φ G R e) (λR=>?_) (eS (by simpa using y));refine PS.imp (zU l (p:=p) (q:=q) h.1 h.2 R)<|by rintro D σ H ⟨A,Y,o,P,S,U,p,k⟩;exact⟨A,Y,o,P,S,U,p,λw v Z N s r=>k w v Z N s (r.s S.dom)⟩
theorem Qe(f:List Nat)(e:CE):dh Φ Ψ G (.Cs f e):=by
 intro S X m b u k;obtain⟨i,kd,p,v,q,rfl,g⟩:=BE k;simp only[AC]at g;obtain⟨⟨⟨c,h⟩,l⟩,a⟩:=g;split at c;rotate_left
 .cases c
 rename_i xs hxs
 have o:PG X (.Tuple i kd p) (gT X.K false f):=PY b.calm b.nd (by dsimp only[Ue];rw[hxs];rfl) (oE b c);have d:swappedStores [.Tuple i kd p] v X.env=pure none:=by
  rcases fV a with a|a
  .exact Ju a _ _ _ _
  .obtain⟨r,h,w,rfl,j⟩:=dX a;exact EZ b (Ap j)
 exact Oh (te:=λR=>wE Φ G R e) (λ{t} n=>C7 n o (Jt _ _) d rfl) (uw h) λR=>(snd Φ Ψ G e).s b.toXOk l R
theorem qq{X:Cx}{a:List Nat}{x:Str}{b:List Str}(h:dW X a (x::b)):∃i r,a=i::r/\gv X i x/\dW X r b:=by
 cases a with
 |nil=>cases h
 |cons i r=>obtain⟨_,_,e,d,c⟩:=h;cases e;exact⟨i,r,rfl,d,c⟩
theorem JE{X:Cx}{a:List Nat}(h:dW X a []):a=[]:=by
 cases a with
 |nil=>rfl
 |cons i r=>obtain⟨_,_,e,_⟩:=h;cases e
theorem zV{X:Cx}{a:List Nat}{x y:Str}(h:dW X a [x,y]):∃i j,a=[i,j]/\gv X i x/\gv X j y:=by obtain⟨i,r,rfl,e,d⟩:=qq h;obtain⟨j,r,rfl,c,b⟩:=qq d;cases JE b;exact⟨i,j,rfl,e,c⟩
theorem BK{X:Cx}{a:List Nat}{x y z:Str}(h:dW X a [x,y,z]):∃i j k,a=[i,j,k]/\gv X i x/\gv X j y/\gv X k z:=by obtain⟨i,r,rfl,e,d⟩:=qq h;obtain⟨j,k,rfl,c,b⟩:=zV d;exact⟨i,j,k,rfl,e,c,b⟩
theorem JF{α:Type}{l:List α}(h:l.length=2):∃a b,l=[a,b]:=by rcases l with _|⟨a,_|⟨b,_|_⟩⟩<;>first|exact⟨_,_,rfl⟩|(simp at h;done)
theorem Qf{α:Type}{l:List α}(h:l.length=3):∃a b c,l=[a,b,c]:=by
 cases l with
 |nil=>cases h
 |cons a l=>obtain⟨b,c,rfl⟩:=JF (Xx h);exact⟨_,_,_,rfl⟩
theorem lC{es:List Expr}{x:Str}{b:List Str}(h:EJ es=some (x::b)):∃p r,es=.Name x p::r/\EJ r=some b:=by
 cases es with
 |nil=>cases h
 |cons e es=>
  cases e with
  |Name a p=>obtain⟨l,c,e⟩:=Kt.mp h;cases e;exact⟨_,_,rfl,c⟩
  |_=>exact nn h
theorem zW{es:List Expr}(h:EJ es=some []):es=[]:=by
 cases es with
 |nil=>rfl
 |cons e es=>
  cases e with
  |Name a p=>obtain⟨l,b,e⟩:=Kt.mp h;cases e
  |_=>exact nn h
theorem zX{es:List Expr}{x y:Str}(h:EJ es=some [x,y]):∃p q,es=[.Name x p,.Name y q]:=by obtain⟨p,r,rfl,b⟩:=lC h;obtain⟨q,r,rfl,a⟩:=lC b;rw[zW a];exact⟨_,_,rfl⟩
theorem BL{es:List Expr}{x y z:Str}(h:EJ es=some [x,y,z]):∃p q r,es=[.Name x p,.Name y q,.Name z r]:=by obtain⟨p,r,rfl,a⟩:=lC h;obtain⟨q,s,rfl⟩:=zX a;exact⟨_,_,_,rfl⟩
theorem JG{S:SE}{a vs:List Expr}{b:List Str}(h:Ry S a vs=some (some b)):(a.length=2\/a.length=3)/\vs.length=a.length:=by
 unfold Ry at h;split at h
 .cases h
 .rename_i c
  simp only[Ta,W1,bne_iff_ne,not_or,Bool.not_eq_false,HI,ne_eq,dA]at c;exact c
theorem zY{es:List Expr}{a:List Str}(h:EJ es=some a):es.length=a.length:=by
 induction a generalizing es with
 |nil=>rw[zW h];rfl
 |cons x a b=>obtain⟨p,r,rfl,c⟩:=lC h;rw[A0,A0,b c]
theorem Qg(T:List Nat)(es:List CE):dh Φ Ψ G (.par T es):=by
 intro S X m o st k;obtain⟨tg,kd,p,f,K,Y,q,rfl,A⟩:=BF k;simp only[AC]at A;obtain⟨⟨C,k2⟩,k3⟩:=A;split at C;rotate_left
 .cases C
 rename_i xs hxs
 simp only[AC]at C;obtain⟨⟨⟨C,I⟩,B⟩,Z⟩:=C;have I:=Ap I;have B:=Ap B;obtain⟨r,O⟩:=JG I;have M:=EZ o (k:=kd) (k2:=K) (p:=p) (p2:=Y) I;have d:∀x∈xs,X.env.scope.names.lookup x=some .local:=λx hx=>by rw[o.nk];exact HI.mp (IR.mp Z x hx)
 have P:=oE o C;refine Oi (ta:=λR=>wA Φ G R es) (λ{tv} Q=>?_) (uw k2) λR=>(j9 Φ Ψ G es).1.a o.toXOk f k3 R;have hd:∀{a b:Nat}{x y:Str},x≠y->X.N[a]?=some x->X.N[b]?=some y->a≠b:=λn E g e=>by rw[e,g]at E;exact n (Ha E).symm
 rcases r with r|r
 .obtain⟨x,y,rfl⟩:=JF ((zY hxs).symm.trans r);obtain⟨U,p2,rfl⟩:=zX hxs;obtain⟨i,j,rfl,t,s⟩:=zV P;obtain⟨a,b,rfl⟩:=JF (O.trans r);refine PS.imp (MP o.calm o.nd t.1 s.1 (hd (by simpa using B) t.1 s.1) (d x (by simp)) (d y (by simp)) Q M) λD F H h=>?_;have e:(λ(f:List V) l=>f.length=[i,j].length/\D.nx (cG F [i,j] f) l)=λf l=>∃v w,f=[v,w]/\D.nx ((F.set i (some v)).set j (some w)) l:=by
   funext f l;refine propext ⟨?_,?_⟩
   .rintro⟨E,g⟩;obtain⟨v,w,rfl⟩:=JF E;exact⟨v,w,rfl,g⟩
   .rintro⟨v,w,rfl,g⟩;exact⟨rfl,g⟩
  rw[e]at h;exact h
 .obtain⟨x,y,z,rfl⟩:=Qf ((zY hxs).symm.trans r);obtain⟨U,p2,p3,rfl⟩:=BL hxs;obtain⟨i,j,A,rfl,t,s,J⟩:=BK P;obtain⟨a,b,c,rfl⟩:=Qf (O.trans r);have L:(x≠y/\x≠z)/\y≠z:=by simp only[Jn,FC,Sr,or_false,not_or]at B;exact⟨B.1,B.2.1⟩
  refine PS.imp (Jy o.calm o.nd t.1 s.1 J.1 (hd L.1.1 t.1 s.1) (hd L.1.2 t.1 J.1) (hd L.2 s.1 J.1) (d x (by simp)) (d y (by simp)) (d z (by simp)) Q M) λD F H h=>?_;have e:(λ(f:List V) l=>f.length=[i,j,A].length/\D.nx (cG F [i,j,A] f) l)=λf l=>∃v w u,f=[v,w,u]/\D.nx (((F.set i (some v)).set j (some w)).set A (some u)) l:=by
   funext f l;refine propext ⟨?_,?_⟩
   .rintro⟨E,g⟩;obtain⟨v,w,u,rfl⟩:=Qf E;exact⟨v,w,u,rfl,g⟩
   .rintro⟨v,w,u,rfl,g⟩;exact⟨rfl,g⟩
  rw[e]at h;exact h
theorem qt{S:SE}{i:Nat}{o:Expr}(h:jk S i o=true)(nm:Str)(env:Env):attributeBase o nm env (eval o env)=eval o env:=by
 cases o with
 |Name x p=>rfl
 |_=>exact ff h
theorem Qh(i:Nat)(e:CE):dh Φ Ψ G (.app i e):=by intro S X m g p k;obtain⟨o,r,u,v,t,q,rfl,c⟩:=jn k;simp only[AC]at c;obtain⟨⟨⟨⟨a,j⟩,h⟩,f⟩,d⟩:=c;have a:=Ap a;subst a;have b:=aE (aT (.inl d)) [] X.env;refine Om (te:=λR=>wE Φ G R e) (λ{n} l=>?_) (oz h) λR=>(snd Φ Ψ G e).s g.toXOk d R;exact jD (sH Pi TK TC gA (cH g.toXOk f) (aR l bS b) (qt f _ _) (by rw[b];rfl) j b rfl) rfl
theorem Qi(i:Nat):dh Φ Ψ G (.Vs i):=by
 intro S X m b u k;obtain⟨x,p,v,q,rfl,c⟩:=gG k;simp only[AC]at c;obtain⟨⟨⟨l,d⟩,h⟩,g⟩:=c;obtain⟨w,rfl⟩:=yr g;have a:dM m=true->i≠0:=λz e=>by rw[z,e]at d;cases d
 have f:=ug h;have n:=jl b l;exact IA (M':=(S.less i).M) (te:=λR s Q=>Q (.dct [] [])) (λ{t} o=>pA b.nd n.1 n.2.1 o rfl n.2.2) (λj=>v9 f (λy r=>b.Js i _ _ r f)) wc a λR=>OM
theorem wj:∀{S:SE}{c:CE}{e:Expr},fS S c e=true->noStar e=true:=λ{S c e} h=>by
 cases e with
 |Starred v p=>
  have f:aH S false c (.Starred v p)=true->False:=λz=>by have:=aT (.inl z);exact ff this
  cases c<;>first|exact ff h;done|exact(f h).elim
 |_=>rfl
theorem kg{S:SE}:∀{b:List CE}{es:List Expr},lA S b es=true->es.all noStar=true
 |[],es,h=>by rw[Fs.mp h];rfl
 |a::b,[],h=>by cases h
 |a::b,e::es,h=>by have h:=a2 h;rw[CB,wj h.1,kg h.2];rfl
theorem cg{S:SE}{X:Cx}(b:XOk S Φ Ψ G X)(R:Addr->Prop){c:CE}{v:Expr}(e:fS S c v=aH S false c v)(d:wP Φ G R c=λa Q=>wE Φ G R c a λw=>Q w a)(k:fS S c v=true):VP X S.M R v (wP Φ G R c):=by rw[e]at k;rw[d];exact T6 ((snd Φ Ψ G c).s b k R)
mutual
theorem bL{S:SE}{X:Cx}(d:XOk S Φ Ψ G X)(R:Addr->Prop):∀(e:CE)(v:Expr),fS S e v=true->VP X S.M R v (wP Φ G R e)
 |.pop i,v,k=>by obtain⟨o,mt,ap,cp,rfl,j⟩:=fk k;simp only[AC]at j;obtain⟨⟨⟨s,E⟩,m⟩,D⟩:=j;have s:=Ap s;subst s;exact Ou (oz m) (cH d D) (qt D _ _) E
 |.gD i g f C,v,k=>by
  obtain⟨o,x,ap,B,p,rfl,j,ZP,ZQ⟩:=sY k;simp only[AC]at j;obtain⟨⟨⟨⟨s,E⟩,m⟩,D⟩,t⟩:=j;obtain⟨fa,fd,ps,n,kl,hG,hb,F,U,Z⟩:=d.oq f g x (HI.mp s) (yq E);rw[<-d.Cw]at m;cases o with
  |Name y py=>
   cases Y:Ψ f with
   |io m0=>
    rw[Y]at m F;cases m0 with
    |o fs ms=>
     have m:(hasB S.M i (.o fs ms)&&!fs.contains x)=true:=m;rw[AC]at m;cases C with
     |nil=>
      have:B=[]:=by exact Fs.mp t
      subst this;exact IS (G:=G g) hG F U hb (jK m.1) (by simpa using m.2) Z (cH d D) (jJ rfl (bG (kg t) _ _) ZQ ZP)
     |cons a C=>
      cases B with
      |nil=>exact ff t
      |cons e B=>have VD:=t;have VD:=a2 VD;exact OG (G:=G g) hG F U hb (jK m.1) (by simpa using m.2) Z (cH d D) (dY d R (a::C) (e::B) t) (aE (wj VD.1) _ _) (bG (kg VD.2) _ _) (jJ rfl (bG (kg t) _ _) ZQ ZP)
    |_=>exact ff m
   |_=>rw[Y]at m;exact ff m
  |_=>exact ff D
 |.bin op a b,v,k=>by obtain⟨l,o,r,p,rfl,j⟩:=mJ k;simp only[AC]at j;obtain⟨⟨s,E⟩,m⟩:=j;have s:=Ap s;subst s;exact Ov (bL d R a l E) (bL d R b r m)
 |.cmp op a b,v,k=>by obtain⟨l,o,r,p,rfl,j⟩:=mK k;simp only[AC]at j;obtain⟨⟨⟨⟨s,D⟩,t⟩,E⟩,m⟩:=j;have s:=Ap s;subst s;exact Ow d.un (Dc r (op:=op) (by simpa using D) (by simpa using t)) (bL d R a l E) (bL d R b r m)
 |.call f C,v,k=>by
  obtain⟨x,q,B,p,rfl,j⟩:=aO k;simp only[AC]at j;obtain⟨⟨⟨⟨⟨s,E⟩,m⟩,t⟩,L⟩,D⟩:=j;obtain⟨g1,g2,g3⟩:=bz d E;obtain⟨fv,n,kl,hm,F,U,Z⟩:=d.fns f x (HI.mp s) (by simpa using L);have F:bU X.prog X.w X.K X.mg X.base kl fv n (xu X.K n (Ψ f) (Φ f)):=by rw[<-d.Cw]at t;cases Y:Ψ f<;>rw[Y]at t F<;>first|exact F|exact ff t
  have I:=kg D;cases B with
  |nil=>exact ff m
  |cons e B=>rw[CB,AC]at I;exact IP (p:=q) (pos:=p) F U g1 hm Z (dY d R C _ D) g2 (aE I.1 _ _) (bG I.2 _ _)
 |.blt b C,v,k=>by
  obtain⟨x,q,B,p,rfl,j⟩:=aO k;simp only[AC]at j;obtain⟨⟨⟨⟨⟨⟨s,E⟩,m⟩,D⟩,t⟩,k9⟩,L⟩:=j;have s:=Ap s;obtain⟨g1,g2,g3⟩:=bz d E;have hz:=d.zK x (W2.mp m);have I:=kg L;cases B with
  |nil=>exact ff k9
  |cons e B=>
   rw[CB,AC]at I;rcases v7 d.calm b (by simpa using t)with⟨id,hv,hc⟩|⟨id,hv,hc⟩
   .exact Oz hc g1 hz (by rw[s];exact hv) (dY d R C _ L) g3 g2 (aE I.1 _ _) (bG I.2 _ _)
   .exact OA hc g1 hz (by rw[s];exact hv) (dY d R C _ L) g3 g2 (aE I.1 _ _) (bG I.2 _ _)
 |.ix a b,v,k=>by obtain⟨l,r,p,rfl,j⟩:=cZ k;simp only[AC]at j;obtain⟨⟨s,E⟩,m⟩:=j;exact T7 (uq s) (bL d R a l E) (bL d R b r m)
 |.lst C,v,k=>by obtain⟨B,p,rfl,j⟩:=qc k;exact OJ (dY d R C B j)
 |.tup C,v,k=>by obtain⟨B,kd,p,rfl,j⟩:=dX k;exact OL (dY d R C B j)
 |.and _,v,k=>by cases k
 |.or _,v,k=>by cases k
 |.var i,v,k=>cg d R rfl rfl k
 |.int i,v,k=>cg d R rfl rfl k
 |.bl i,v,k=>cg d R rfl rfl k
 |.str i,v,k=>cg d R rfl rfl k
 |.aG,v,k=>cg d R rfl rfl k
 |.GJ n,v,k=>cg d R rfl rfl k
 |.glob g,v,k=>cg d R rfl rfl k
 |.neg a,v,k=>cg d R rfl rfl k
 |.not a,v,k=>cg d R rfl rfl k
 |.ite c a b,v,k=>cg d R rfl rfl k
 |.sl a b c,v,k=>cg d R rfl rfl k
 |.comp ts one n i c x,v,k=>cg d R rfl rfl k
 |.rB C,v,k=>cg d R rfl rfl k
 |.own i π,v,k=>cg d R rfl rfl k
 |.slt a b c,v,k=>cg d R rfl rfl k
 |.Ro a b c,v,k=>cg d R rfl rfl k
 |.ND a n x,v,k=>cg d R rfl rfl k
 |.oq g f a,v,k=>cg d R rfl rfl k
 |.Rp i,v,k=>cg d R rfl rfl k
 |.Rq a b c,v,k=>cg d R rfl rfl k
 |.Bo a g,v,k=>cg d R rfl rfl k
 |.Rr a,v,k=>cg d R rfl rfl k
 |.DX i g f C,v,k=>by
  obtain⟨x,q,B,p,rfl,j⟩:=aO k;simp only[AC]at j;obtain⟨⟨⟨⟨⟨⟨⟨⟨k0,s⟩,E⟩,k7⟩,T⟩,m⟩,t⟩,L⟩,D⟩:=j;cases hf:S.fn[f]? with
  |none=>rw[hf]at T;exact ff T
  |some y=>
   cases hg:S.gn[g]? with
   |none=>rw[hf,hg]at T;exact ff T
   |some z=>
    rw[hf,hg]at T;have e1:=Ap T;subst e1;obtain⟨fv,n,kl,hm,F,U,Z⟩:=d.fns f y hf (by simpa using L);obtain⟨u,v0,hm2,rv,rg⟩:=d.GP g y hg;have F:bU X.prog X.w X.K X.mg X.base kl fv n (xu X.K n (Ψ f) (Φ f)):=by rw[<-d.Cw]at t;cases Y:Ψ f<;>rw[Y]at t F<;>first|exact F|exact ff t
    have I:=kg D;cases B with
    |nil=>exact ff m
    |cons e B=>
     rw[CB,AC]at I;have hv:PE X (.Name x q) (i6 i):=cH d (by show(S.N[i]?==some x&&Jc S x&&okN x)=true;simp only[AC];exact⟨⟨k0,s⟩,E⟩);refine PE.imp (OX (p:=q) (pos:=p) F U hv (eS (by simpa using k7)) Z (dY d R C _ D) (aE I.1 _ _) (bG I.2 _ _)) ?_;rintro σ H Q ⟨A,H0,O,P,SS,er,h,c⟩;refine⟨A,H0,O,P,SS,er,?_,c⟩;have h:(match look O i with|some (.fn a)=>G g=.fn a/\(CD Φ G R C O λws J=>Φ f ws (λw=>P w J) R)|_=>False):=h;show(match look O i with|some (.fn a)=>fv=Value.ref a/\(CD Φ G R C O λws J=>Φ f ws (λw=>P w J) R)|_=>False);cases hl:look O i with
     |none=>rw[hl]at h;exact h.elim
     |some w0=>
      rw[hl]at h;cases w0 with
      |fn a=>show fv=.ref a/\_;refine⟨?_,h.2⟩;have:=rg (λ_=>False) H;rw[h.1]at this;have this:v0=.ref a:=this;subst this;have ru:u=.ref a:=rv;rw[hm2]at hm;rw[<-Ha hm,ru]
      |_=>exact h.elim
 |.fst a,v,k=>cg d R rfl rfl k
 |.fmt a,v,k=>cg d R rfl rfl k
theorem dY{S:SE}{X:Cx}(c:XOk S Φ Ψ G X)(R:Addr->Prop):∀(b:List CE)(es:List Expr),lA S b es=true->Ep X S.M R es (CD Φ G R b)
 |[],es,k=>by rw[Fs.mp k];exact IK
 |a::b,[],k=>by cases k
 |a::b,e::es,k=>by have k:=a2 k;exact Es (aE (wj k.1) _ _) (bL c R a e k.1) (dY c R b es k.2)
end
theorem zZ{v:Expr}(a:zT v=true)(b:ET v=true)(t:Option Expr)(l:Nat)(env:Env):swapsWith v t l env=pure false:=by
 cases v with
 |ListComp _ _ _ _=>exact ff b
 |SetComp _ _ _ _=>exact ff a
 |DictComp _ _ _ _ _=>exact ff a
 |_=>rfl
theorem ZR{v:Expr}(h:yt v=true):zT v=true:=by cases v<;>first|rfl|exact ff h
theorem Qj(e:CE):dh Φ Ψ G (.xq e):=by intro S X m f g k;obtain⟨v,q,rfl,a⟩:=we k;simp only[AC]at a;obtain⟨⟨d,c⟩,b⟩:=a;exact IM (tt:=λR=>wP Φ G R e) λR=>jD (bL f.toXOk R _ v b) (zZ (ZR c) d _ _ _)
theorem JH(j:Nat)(e:CE):dh Φ Ψ G (.mz j e):=by intro S X m a o k;obtain⟨x,p,v,q,rfl,b⟩:=gG k;simp only[AC]at b;obtain⟨⟨⟨⟨h,g⟩,d⟩,c⟩,f⟩:=b;have n:=jl a h;exact IL (tt:=λR=>wP Φ G R e) (λ{l} i=>pA a.nd n.1 n.2.1 i (zZ (ZR c) d _ _ _) n.2.2) (eS (by simpa using g)) λR=>bL a.toXOk R _ v f
theorem Qk(e:CE):dh Φ Ψ G (.ret e):=by
 intro S X m d h k;rcases qm k with⟨v,q,rfl,a⟩|⟨q,rfl,a⟩
 .unfold Uw at a;rw[AC]at a;obtain⟨c,a⟩:=a;have c:dM m=false:=by simpa using c
  rcases fV a with a|f
  .rcases fV a with a|a
   .rw[AC]at a;have g:m=.s:=by cases m<;>first|rfl|exact ff a.1
    rcases fV a.2 with b|b
    .exact Eo (te:=λR=>wE Φ G R e) (λR=>(snd Φ Ψ G e).e (d.toXOk.P9 []) v b R) (.inr g) c
    .subst g;exact ID (te:=λR=>wE Φ G R e) λR=>(snd Φ Ψ G e).s d.toXOk b R
   .rw[AC]at a;rcases fV a.2 with b|b
    .exact Eo (te:=λR=>wE Φ G R e) (λR=>E9 (d.toXOk.P9 []) b R) (.inl (mO a.1)) c
    .exact IE (te:=λR=>wE Φ G R e) (λR=>by rw[<-mO a.1];exact E9 d.toXOk b R) c
  .unfold Uv at f;split at f
   .rename_i i hv
    obtain rfl:=BJ hv;have b:=a2 f;exact IF (cH d.toXOk b.2) (jK b.1) c
   .exact ff f
 .rw[AC]at a;obtain rfl:=sZ a.1;cases m<;>try exact ff a.2
  exact JA
theorem z4{S:SE}{m:Md}(h:P6 S m=true):∃k,m=.io k/\(0,k)∈S.M:=by
 cases m with
 |io k=>exact⟨k,rfl,jK h⟩
 |_=>exact ff h
theorem Ql(e:CE):dh Φ Ψ G (.HU e):=by
 intro S X m d f k;rcases qm k with⟨v,q,rfl,a⟩|⟨q,rfl,a⟩
 .rw[AC]at a;obtain⟨c,rfl,b⟩:=z4 a.1;exact OD (te:=λR=>wE Φ G R e) (λR=>(snd Φ Ψ G e).s d.toXOk a.2 R) b
 .rw[AC]at a;obtain⟨c,rfl,b⟩:=z4 a.2;obtain rfl:=sZ a.1;exact OE b
theorem jo{S:SE}{X:Cx}(e:XOk S Φ Ψ G X)(R:Addr->Prop)(c:CE)(v:Expr)(k:m8 S c v=true):zC X S.M R v (wP Φ G R c):=by
 have fall:∀{c:CE},m8 S c v=(aH S false c v&&Cv c)->(wP Φ G R c=λm Q=>wE Φ G R c m λw=>Q w m)->m8 S c v=true->zC X S.M R v (wP Φ G R c):=λ{c} C B k=>by rw[C,AC]at k;rw[B];exact Ot ((snd Φ Ψ G c).t e v k.1 k.2 R)
 cases c with
 |cmp op a b=>have k:fS S (.cmp op a b) v=true:=k;obtain⟨l,o,r,p,rfl,n⟩:=mK k;simp only[AC]at n;obtain⟨⟨⟨⟨j,u⟩,s⟩,z⟩,y⟩:=n;have j:=Ap j;subst j;exact IG e.un (Dc r (op:=op) (by simpa using u) (by simpa using s)) (bL e R a l z) (bL e R b r y)
 |gD i g f d=>have k:fS S (.gD i g f d) v=true:=k;have h:=bL e R _ v k;obtain⟨o,x,D,A,p,rfl,_⟩:=sY k;exact zD (λ_=>rfl) h
 |call f d=>have k:fS S (.call f d) v=true:=k;have h:=bL e R _ v k;obtain⟨x,q,A,p,rfl,_⟩:=aO k;exact zD (λ_=>rfl) h
 |pop i=>exact ff k
 |DX i g f d=>exact ff k
 |bin op a b=>exact ff k
 |blt b d=>exact ff k
 |ix a b=>exact ff k
 |lst d=>exact ff k
 |tup d=>exact ff k
 |and d=>exact ff k
 |or d=>exact ff k
 |_=>exact fall rfl rfl k
theorem wk{S:SE}{X:Cx}(c:XOk S Φ Ψ G X)(R:Addr->Prop){pos:Pos}:∀(f:List CE)(es:List Expr),lB S f es=true->LF X S.M R (.BoolOp .And es pos) (yQ Φ G R f)
 |[],es,k=>by cases k
 |[a],es,k=>by obtain⟨e,rfl,k⟩:=cu k;exact Er (jo c R a e k)
 |a::b::d,es,k=>by
  cases es with
  |nil=>exact ff k
  |cons e es=>
   have k:m8 S a e=true/\lB S (b::d) es=true:=a2 k;have h:=wk c R (pos:=pos) (b::d) es k.2;cases es with
   |nil=>cases d<;>exact ff k.2
   |cons g es=>exact II (jo c R a e k.1) h
theorem wm{S:SE}{X:Cx}(c:XOk S Φ Ψ G X)(R:Addr->Prop){pos:Pos}:∀(f:List CE)(es:List Expr),lB S f es=true->LF X S.M R (.BoolOp .Or es pos) (GV Φ G R f)
 |[],es,k=>by cases k
 |[a],es,k=>by obtain⟨e,rfl,k⟩:=cu k;exact IJ (jo c R a e k)
 |a::b::d,es,k=>by
  cases es with
  |nil=>exact ff k
  |cons e es=>
   have k:m8 S a e=true/\lB S (b::d) es=true:=a2 k;have h:=wm c R (pos:=pos) (b::d) es k.2;cases es with
   |nil=>cases d<;>exact ff k.2
   |cons g es=>exact Ox (jo c R a e k.1) h
theorem qu{S:SE}{X:Cx}(f:XOk S Φ Ψ G X)(R:Addr->Prop)(c:CE)(v:Expr)(k:zR S c v=true):zC X S.M R v (wP Φ G R c):=by
 cases c with
 |and d=>have k:O8 (λo b=>decide (o=.And)&&lB S d b) v=true:=k;obtain⟨o,b,p,rfl,a⟩:=jG k;rw[AC]at a;have e:=Ap a.1;subst e;exact PW.pt (wk f R d b a.2)
 |or d=>have k:O8 (λo b=>decide (o=.Or)&&lB S d b) v=true:=k;obtain⟨o,b,p,rfl,a⟩:=jG k;rw[AC]at a;have e:=Ap a.1;subst e;exact PW.pt (wm f R d b a.2)
 |_=>exact jo f R _ v k
theorem Qm(c:CE){a b:List CS}(j:fu Φ Ψ G a)(i:fu Φ Ψ G b):dh Φ Ψ G (.Lx c a b):=by intro S X m d l k;obtain⟨t,x,y,q,rfl,e⟩:=qo k;simp only[AC]at e;obtain⟨⟨h,g⟩,f⟩:=e;exact Et (tt:=λR=>wP Φ G R c) (λR=>qu d.toXOk R c t h) (j d x g) (i d y f)
theorem Qn(c:CE){b:List CS}(e:fu Φ Ψ G b):dh Φ Ψ G (.S8 c b):=by intro S X m d f k;obtain⟨t,x,q,rfl,a⟩:=wg k;simp only[AC]at a;exact OB d.own (λR=>qu d.toXOk R c t a.1) (e d x a.2)
theorem Qo(i:Nat)(e:CE):dh Φ Ψ G (.NF i e):=by intro S X m g p k;obtain⟨o,r,u,v,t,q,rfl,c⟩:=jn k;simp only[AC]at c;obtain⟨⟨⟨⟨⟨a,j⟩,h⟩,f⟩,s⟩,d⟩:=c;have a:=Ap a;subst a;have b:=aE (wj d) [] X.env;refine OC (tt:=λR=>wP Φ G R e) (λ{n} l=>?_) (oz h) λR=>bL g.toXOk R e v d;exact jD (sH Pi TK TC gA (cH g.toXOk f) (aR l bS b) (qt f _ _) (by rw[b];rfl) j b rfl) rfl
theorem JI{S:SE}{i n:Nat}{x:Str}(h:P7 S i n x=true):∃b a,(i,.o b a)∈S.M/\b[n]?=some x/\a[n]?=some .s:=by
 unfold P7 at h;split at h
 .rename_i b a hl
  rw[AC]at h;obtain⟨d,c⟩:=h;split at c
  .rename_i k hk
   have:k=.s:=by cases k<;>first|rfl|exact ff c
   subst this;exact⟨b,a,fj hl,HI.mp d,hk⟩
  .cases c
 .cases h
theorem Qp(i n:Nat)(e:CE):dh Φ Ψ G (.xo i n e):=by intro S X m b t k;obtain⟨o,x,p,v,q,rfl,a⟩:=BH k;simp only[AC]at a;obtain⟨⟨f,d⟩,c⟩:=a;obtain⟨w,u,l,j,h⟩:=JI f;exact OI (te:=λR=>wE Φ G R e) (λ{r} g=>lY (cH b.toXOk d) g (by cases v<;>rfl)) l j h λR=>(snd Φ Ψ G e).s b.toXOk c R
theorem Qq(i:Nat)(π:List jE)(e:CE):dh Φ Ψ G (.GK i π e):=by
 intro S X m h w k;obtain⟨o,x,A,v,z,q,rfl,c⟩:=jn k;simp only[AC]at c;obtain⟨⟨⟨a,l⟩,g⟩,d⟩:=c;have a:=Ap a;subst a;have b:=aE (aT (.inl d)) [] X.env;obtain⟨y,k,r,p,t,j⟩:=ur h.toXOk g;have:k=.f:=by cases k<;>first|rfl|exact ff t
 subst this;refine Ol (te:=λR=>wE Φ G R e) (λ{u} n=>?_) r p λR=>(snd Φ Ψ G e).s h.toXOk d R;exact jD (sH Pi TK TC gA j (aR n bS b) (by rcases(cS g).2 with⟨_,_,_,rfl⟩|⟨_,_,_,_,_,rfl⟩<;>rfl) (by rw[b];rfl) l b rfl) rfl
theorem Qs(i:Nat)(b e:CE):dh Φ Ψ G (.Vt i b e):=by
 intro S X m a y k;obtain⟨o,j,p,v,q,rfl,c⟩:=BG k;simp only[AC]at c;obtain⟨⟨⟨⟨l,h⟩,g⟩,f⟩,d⟩:=c;have t:∀u,assign (.Subscript o j p) X.env u=(do
  let ov<-holding [u] (eval o X.env)
  let iv<-holding [u,ov] (eval j X.env)
  standAt p
  holding [u,ov,iv] (setItem ov iv u)
  release [u,ov,iv] []):=by
  intro u;cases j with
  |Slice _ _ _ _=>exact ff g
  |_=>rfl
 refine OW (te:=λR=>wE Φ G R e) (t1:=λR=>wE Φ G R b) (λ{w x} n r=>?_) (ug l) (λR=>(snd Φ Ψ G e).s a.toXOk d R) λR=>(snd Φ Ψ G b).s a.toXOk f R;exact C7 (pos:=q) n (MO (cH a.toXOk h) r (set_dict (hu1 a.un)) t) (EX _ _) (EY _) rfl
theorem Qt(i:Nat)(π:List jE)(e:CE):dh Φ Ψ G (.HE i π e):=by
 intro S X m j x k;obtain⟨o,y,B,v,A,q,rfl,c⟩:=jn k;simp only[AC]at c;obtain⟨⟨⟨⟨a,p⟩,g⟩,n⟩,d⟩:=c;have a:=Ap a;subst a;have b:=aE (aT (.inl d)) [] X.env;obtain⟨z,k,t,s,u,l⟩:=ur j.toXOk g;have:k=.f:=by cases k<;>first|rfl|exact ff u
 subst this;refine OV (e:=v) (te:=λR=>wE Φ G R e) (λ{w} r=>?_) t s λR=>?_
 .exact jD (sH Pi PySem.F.slot_list_extend PySem.F.type_list_extend AV l (aR r bS b) (by rcases(cS g).2 with⟨_,_,_,rfl⟩|⟨_,_,_,_,_,rfl⟩<;>rfl) (by rw[b];rfl) p b rfl) rfl
 .have h:=(snd Φ Ψ G e).e j.toXOk v d R;rw[iV n]at h;exact h
theorem Qu(i n:Nat)(e:CE):dh Φ Ψ G (.Rt i n e):=by
 intro S X m l H k;obtain⟨o,I,O,v,N,q,rfl,s⟩:=jn k;simp only[AC]at s;obtain⟨⟨⟨⟨⟨h,C⟩,b⟩,g⟩,J⟩,u⟩:=s;have h:=Ap h;subst h;obtain⟨a,x,p,rfl,g⟩:=cF g;obtain⟨c,t⟩:=a2 g;have c:=Ap c;unfold Ux at b;unfold ZO at c;cases r:S.M.lookup i with
 |none=>rw[r]at b;exact ff b
 |some B=>
  rw[r]at b c;cases B with
  |o L d=>
   have b:(match d[n]? with|some .f=>true|_=>false)=true:=b;have E:d[n]?=some .f:=by
    cases w:d[n]? with
    |none=>rw[w]at b;exact ff b
    |some z=>rw[w]at b;cases z<;>first|rfl|exact ff b
   have j:=aE (wj u) [] X.env;have A:PE X (.Attribute a x p) (mG X.K i [.fl n x]):=Ey (n:=n) (π:=[]) (Ew (cH l.toXOk t)) (by obtain⟨y,z,rfl,_⟩:=bq t;rfl);refine O2 (tt:=λR=>wP Φ G R e) (λ{F} D=>?_) (fj r) c E l.Js λR=>bL (l.toXOk.P9 (GN S.M i n)) R e v u;exact jD (sH Pi TK TC gA A (aR D bS j) rfl (by rw[j];rfl) C j rfl) rfl
  |_=>exact ff b
theorem Qv(c:CE){a b:List CS}(s:fu Φ Ψ G a)(r:fu Φ Ψ G b):dh Φ Ψ G (.Ru c a b):=by intro S X m f u k;obtain⟨t,x,y,p,rfl,g⟩:=qo k;simp only[AC]at g;obtain⟨⟨e,n⟩,l⟩:=g;obtain⟨o,z,q,rfl,e⟩:=lz e;obtain⟨j,i⟩:=a2 e;cases Ap j;exact Et (tt:=λR h Q=>wP Φ G R c h λx d=>truth x λb=>Q (.bl (!b)) d) (λR=>IX (qu f.toXOk R c z i)) (s f x n) (r f y l)
theorem Qw(e:CE):dh Φ Ψ G (.S9 e):=by
 intro S X m c d k;rcases qm k with⟨v,q,rfl,a⟩|⟨q,rfl,a⟩
 .rw[AC]at a;have b:m=.s:=by cases m<;>first|rfl|exact ff a.1
  subst b;exact OY (tt:=λR=>wP Φ G R e) λR=>bL c.toXOk R e v a.2
 .exact ff a
theorem Qx:dh Φ Ψ G .brk:=by
 intro S X m b a k;cases a with
 |Break _=>exact Og
 |_=>exact ff k
theorem Fb(g:Nat)(e:CE):dh Φ Ψ G (.raise g e):=by
 intro S X m b E k;obtain⟨x,F,v,L,q,rfl,l⟩:=yv k;simp only[AC]at l;obtain⟨⟨f,p⟩,n⟩:=l;have f:=HI.mp f;show VS X S.M m _ (λD i=>match G g with|.cls C=>wE Φ G D.ex e i λ_=>D.ex C|_=>False);obtain⟨u,z,t,r,a⟩:=b.GP g x f;obtain⟨y,w,J⟩:=bz b.toXOk p;by_cases o:∃C,G g=.cls C
 .obtain⟨C,c⟩:=o;rw[c]at a⊢;have hz:=a (λ_=>False) (λ_=>none);dsimp only[Rep]at hz;subst hz;cases r;exact E4 (te:=λR=>wE Φ G R e) b.calm y t (b.LY g x C f c) (λR=>(snd Φ Ψ G e).s b.toXOk n R) (aE (aT (.inl n)) [] X.env) w
 .rintro j s B H D I ⟨A,N,i,d,S,K,hz,h,_⟩;cases c:G g<;>rw[c]at h<;>first|exact h.elim|exact(o ⟨_,c⟩).elim
theorem Fc{S:SE}{e:CE}{ex:Expr}(k:P8 S e ex=true):(∃f a,e=.call f a)\/∃g f h a,e=.oq g f (.call h a):=by
 cases e with
 |call f a=>exact .inl ⟨_,_,rfl⟩
 |oq g f b=>
  cases b with
  |call h a=>exact .inr ⟨_,_,_,_,rfl⟩
  |_=>exact ff k
 |_=>exact ff k
theorem JJ{S:SE}{X:Cx}(b:XOk S Φ Ψ G X)(e:CE)(ex:Expr)(k:P8 S e ex=true):VX X S.M ex (λR=>Tj Φ G R e)/\∃g es p,ex=.Call g es [] p:=by
 rcases Fc k with⟨f,a,rfl⟩|⟨g,f,h,a,rfl⟩
 .exact⟨zN b f (j9 Φ Ψ G a).1 k,by obtain⟨x,q,es,p,rfl,_⟩:=aO k;exact⟨_,_,_,rfl⟩⟩
 .exact⟨PL b g f h (j9 Φ Ψ G a).1 k,by obtain⟨o,x,d,c,rfl,_⟩:=fk k;exact⟨_,_,_,rfl⟩⟩
theorem Qy(j i g y:Nat)(e:CE):dh Φ Ψ G (.Tc j i g y e):=by
 intro S X m l st k;cases st<;>try exact ff k
 rename_i b h o z p
 obtain⟨⟨k1,k2⟩,k0⟩:=a3 k;rw[Fs.mp k1,Fs.mp k2];clear k k1 k2;obtain⟨b1,rfl,k8⟩:=cu k0;obtain⟨a,pa,ex,q1,rfl,Z⟩:=gG k8;clear k0 k8;obtain⟨⟨c,n,b2,p2⟩,rfl,J⟩:=cu Z;clear Z;cases c with
 |none=>exact ff J
 |some c=>
  cases n with
  |none=>exact ff J
  |some n=>
   obtain⟨E,B⟩:=a2 (show(o1 _ b2&&jj _ c)=true from J);obtain⟨b3,rfl,E⟩:=cu E;obtain⟨zz,pz,v,q3,rfl,E⟩:=gG E;obtain⟨⟨L,k6⟩,K⟩:=a3 E;obtain⟨U,pn,rfl,K⟩:=bq K;cases Ap K;obtain⟨x,px,rfl,B⟩:=bq B;obtain⟨g0,B⟩:=a2 B;obtain⟨g1,g2,g3⟩:=bz l.toXOk B;unfold Uy at L;simp only[AC]at L;obtain⟨⟨⟨⟨⟨⟨⟨⟨c1,c2⟩,c3⟩,c4⟩,c5⟩,c6⟩,c7⟩,c8⟩,c9⟩:=L;obtain⟨d1,d2,_⟩:=uo c5;obtain⟨u,w,hm,hr,q⟩:=l.GP g x (HI.mp g0);show VS X S.M m _ (λD f=>Zp (G g) λF=>Tj Φ G (λC=>C∈F/\D.nx ((f.set y (some (.err C))).set i none)) e f λw=>D.nx (f.set j (some w)));cases hG:G g with
   |dU D F ns=>
    rw[hG]at q;obtain⟨rfl,hD⟩:=q (λ_=>False) (λ_=>none);cases hr;obtain⟨vx,_,_,_,rfl⟩:=JJ l.toXOk e ex k6;by_cases Q:F=[]
    .exact(by rintro r s P H D I ⟨A,O,f,d,S,N,hz,h,_⟩;exact(h.1 Q).elim)
    have Y:=jl l c1;have U:=jl l c2;have T:=jl l c3;refine PS.imp (t:=sV X S.M m λD f=>Tj Φ G (λC=>C∈F/\D.nx ((f.set y (some (.err C))).set i none)) e f λw=>D.nx (f.set j (some w))) (O6 (m:=m) (t:=λR=>Tj Φ G R e) l.stk l.nd Y.1 Y.2.1 U.1 (by rw[l.nk];exact HI.mp c4) T.1 T.2.1 (by simpa using c6) g1 hm hD Q l.GO (eS (by simpa using c7)) (eS (by simpa using c8)) (eS (by simpa using c9)) vx rfl rfl g2 d1 d2) ?_;rintro D P H ⟨A,O,f,d,S,N,hz,h,k⟩;exact⟨A,O,f,d,S,N,hz,h.2,k⟩
   |_=>rintro r s P H D I ⟨A,O,f,d,S,N,hz,h,_⟩;exact h.elim
theorem UA(c:CE){a b:List CS}(l:fu Φ Ψ G a)(j:fu Φ Ψ G b):dh Φ Ψ G (.iff c a b):=by intro S X m d n k;obtain⟨t,x,y,q,rfl,e⟩:=qo k;simp only[AC]at e;obtain⟨⟨⟨i,h⟩,g⟩,f⟩:=e;exact T4 (tc:=λR=>wE Φ G R c) (λR=>(snd Φ Ψ G c).t d.toXOk t i h R) (l d x g) (j d y f)
theorem Qz(c:CE){b:List CS}(h:fu Φ Ψ G b):dh Φ Ψ G (.Lw c b):=by intro S X m a i k;obtain⟨t,x,q,rfl,d⟩:=wg k;simp only[AC]at d;obtain⟨⟨g,f⟩,e⟩:=d;exact Oo a.own (λR=>(snd Φ Ψ G c).t a.toXOk t g f R) (h a x e)
theorem QA(j:List Nat)(d:Bool)(f:CE){b:List CS}(u:fu Φ Ψ G b):dh Φ Ψ G (.fr j d f b):=by
 intro S X m a v k;obtain⟨g,i,x,q,rfl,c⟩:=E2 k;unfold ZN at c;split at c;rotate_left
 .cases c
 rename_i o xs PZ
 simp only[AC]at c;obtain⟨⟨⟨⟨⟨⟨e,t⟩,s⟩,r⟩,h⟩,n⟩,l⟩:=c;have e:=HI.mp e;subst e;refine Oq (ti:=λR=>wE Φ G R f) a.calm (uw s) a.own (λR=>(snd Φ Ψ G f).i a.toXOk g false i (by rw[n];rfl) (λz=>?_) R) (PY (X:=X) a.calm a.nd PZ (oE a t)) (u a x l) (v8 r _);have:d=false:=by rw[z]at h;simpa using h
 subst this;cases g with
 |Tuple w c p=>exact⟨_,_,_,rfl⟩
 |Name y p=>cases PZ
 |_=>exact nn PZ
theorem JK:fu Φ Ψ G []:=by intro S X m b a k;rw[Fs.mp k];exact Iv
noncomputable def LZ(Φ:Nat->aV)(Ψ:Nat->Md)(G:Nat->W):CS->Prop
 |.NG _ b=>fu Φ Ψ G b
 |_=>True
theorem JL{S:SE}{m:Md}{s:CS}{a:List CS}{st:List Stmt}(k:cT S Ψ m (s::a) st=true):(∃c b,s=.NG c b/\(a.isEmpty&&(!dM m||!c.contains 0)&&cT (S.lend c) Ψ m b st)=true)\/EW (λe=>Jr S Ψ m s e) (λes=>cT S Ψ m a es) st=true:=by
 cases s<;>first|exact .inr k|exact .inl ⟨_,_,rfl,k⟩
theorem Fd{s:CS}{c:List CS}(h:dh Φ Ψ G s/\LZ Φ Ψ G s)(v:fu Φ Ψ G c):fu Φ Ψ G (s::c):=by
 intro S X m a d k;rcases JL k with⟨u,b,rfl,o⟩|k
 .obtain⟨n,p⟩:=a2 o;obtain⟨l,f⟩:=a2 n;cases Fs.mp l;have q:dM m=true->aM S.M 0->aM (S.lend u).M 0:=by rintro e ⟨g,A⟩;rw[e]at f;exact⟨g,QQ.mpr ⟨A,f⟩⟩
  have w:fu Φ Ψ G b:=h.2;exact Iz (w (a.P9 _ λi m j y x=>a.Js i m j (qj _ y) (qj _ x)) d p) qj q
 have h:dh Φ Ψ G s:=h.1;cases d with
 |nil=>exact ff k
 |cons e r=>
  have k:Jr S Ψ m s e=true/\cT S Ψ m c r=true:=a2 k;cases c with
  |nil=>
   have:r=[]:=by have:=k.2;exact Fs.mp this
   subst this;exact Iw (h a e k.1)
  |cons t B=>have z:=Em (h a e k.1) (v a r k.2);exact z
theorem QB:dh Φ Ψ G .HV:=by rintro S X m g e k a s b H D I ⟨A,j,c,d,S,i,hz,h,f⟩;exact FP h
variable(Φ Ψ G)
mutual
theorem Xl:∀s:CS,dh Φ Ψ G s/\LZ Φ Ψ G s
 |.set i e=>⟨Qd i e,trivial⟩
 |.Cs d e=>⟨Qe d e,trivial⟩
 |.par d es=>⟨Qg d es,trivial⟩
 |.app i e=>⟨Qh i e,trivial⟩
 |.mz j e=>⟨JH j e,trivial⟩
 |.ret e=>⟨Qk e,trivial⟩
 |.iff c a b=>⟨UA c (gH a) (gH b),trivial⟩
 |.Lw c b=>⟨Qz c (gH b),trivial⟩
 |.fr d one f b=>⟨QA d one f (gH b),trivial⟩
 |.brk=>⟨Qx,trivial⟩
 |.raise g e=>⟨Fb g e,trivial⟩
 |.GK i π e=>⟨Qq i π e,trivial⟩
 |.xo i n e=>⟨Qp i n e,trivial⟩
 |.HU e=>⟨Ql e,trivial⟩
 |.xq e=>⟨Qj e,trivial⟩
 |.Lx c a b=>⟨Qm c (gH a) (gH b),trivial⟩
 |.S8 c b=>⟨Qn c (gH b),trivial⟩
 |.NF i e=>⟨Qo i e,trivial⟩
 |.HV=>⟨QB,trivial⟩
 |.Vs i=>⟨Qi i,trivial⟩
 |.Vt i k e=>⟨Qs i k e,trivial⟩
 |.Tc j i g y e=>⟨Qy j i g y e,trivial⟩
 |.S9 e=>⟨Qw e,trivial⟩
 |.HE i π e=>⟨Qt i π e,trivial⟩
 |.Rt i n e=>⟨Qu i n e,trivial⟩
 |.Ru c a b=>⟨Qv c (gH a) (gH b),trivial⟩
 |.NG h b=>⟨λ_ _ k=>(by cases k),gH b⟩
theorem gH:∀a:List CS,fu Φ Ψ G a
 |[]=>JK
 |s::a=>Fd (Xl s) (gH a)
end
end
structure Tab(P:Program)(w:World)(K:Frag)(mg:Str->Option Value)(base:Heap)(fn gn zn:List Str)(md:List Md)(mt:List (Nat×Nat))(Φ:Nat->aV)(G:Nat->W)(k:Nat):Prop where
 fns:∀(j:Nat)(x:Str),fn[j]?=some x->mt.any (·.1==j)=false->∃fv n k',mg x=some fv/\bU P w K mg base k' fv n (pZ K n (gq md j) (Φ j))/\k'<=k/\∀ws P R,Φ j ws P R->ws.length=n
 oq:∀(j g:Nat)(x:Str),fn[j]?=some x->(j,g)∈mt->∃f fd ps n k',(∀C,G g=.cls C->Meth K C x f)/\Binds K fd ps []/\bJ P w K mg base (iY P w) k' f fd ps (pZ K n (gq md j) (Φ j))/\k'<=k/\∀ws P R,Φ j ws P R->ws.length=n
 GP:∀(j:Nat)(x:Str),gn[j]?=some x->∃u v,mg x=some u/\RelV v u/\∀B H,Rep K B H (G j) v
 zK:∀x∈zn,mg x=none
 kit:vO K
 LY:∀j x C,gn[j]?=some x->G j=.cls C->pK K C
noncomputable def au(n:Nat)(a:List W):Ev:=a.map some++C8 (n -a.length) none
noncomputable def fall:Md->(W->Prop)->Ev->Prop
 |.s,P,_=>P .aG
 |.io _,P,a=>match look a 0 with
  |some b=>P (.tup [.aG,b])
  |none=>False
 |_,_,_=>False
section
variable{K:Frag}{A:Addr->Prop}{H:Hp}{N:List Str}{ws:List W}{vs:List V}{M:Ms}
theorem kh{i:Nat}{w:W}(a:ws.length<=i)(e:look (au N.length ws) i=some w):False:=by
 rw[aW]at e;unfold au at e;rw[Gc (by simp;omega),c0]at e;split at e
 .cases e
 .cases e
theorem tu{i:Nat}{w:W}(h:aj K A H ws vs)(e:look (au N.length ws) i=some w):∃v,(start N vs)[i]?=some (some v)/\Rep K A H w v:=by
 have f:=h.len;by_cases a:i<ws.length
 .rw[aW]at e;unfold au at e;rw[On (by simpa using a),IH]at e;obtain⟨d,c,b⟩:=Kt.mp e;cases b;obtain⟨v,b,r⟩:=h.get c;refine⟨v,?_,r⟩;unfold L2.start;rw[On (by simp;lia),IH,b];rfl
 .exact(kh (by lia) e).elim
theorem Fe(h:aj K A H ws vs)(d:Dom A H)(g:∀i m,(i,m)∈M->ws.length<=i)(b:∀i m a,(i,m)∈M->(i,a)∈M->m=a):SR K M ⟨A,A,none⟩ H (start N vs) H (au N.length ws):=by have f:=h.len;refine⟨by simp[L2.start,au,f],λi w k e=>tu h e,aA.refl _,d,(λv e=>by cases e),λ_=>[],⟨b,λi m w c e=>(kh (g i m c) e).elim,λ_ _ _=>rfl,λ_ _=>Yf,(λi j p _ _ z=>by cases z),(λi p _ z=>by cases z),(λi p _ z=>by cases z),λp=>⟨.inl,λz=>z.elim id<|by rintro⟨_,_,z⟩;cases z⟩⟩⟩
open Classical in
noncomputable def era(F:List Addr)(H:Hp):Hp:=λp=>if p∈F then none else H p
theorem Ff{F:List Addr}{p:Addr}{o:HO}(h:era F H p=some o):p∉F/\H p=some o:=by
 unfold era at h;split at h
 .cases h
 .exact⟨by assumption,h⟩
theorem Fg{F:List Addr}{p:Addr}(h:era F H p=none):p∈F\/H p=none:=by
 unfold era at h;split at h
 .exact .inl (by assumption)
 .exact .inr h
theorem QC{F:List Addr}{p:Addr}(h:p∈F):era F H p=none:=by unfold era;rw[Do h]
theorem JM{F:List Addr}{p:Addr}(h:p∉F):era F H p=H p:=by unfold era;rw[Bi h]
theorem Fi{F:List Addr}{k:W}{l:V}{q:Md}(D:F.Nodup)(E:∀p∈F,¬A p)(d:Dom A H)(P:Fp K (λp=>A p\/p∈F) H q k l F)(h:aj K (λp=>A p\/p∈F) H ws vs)
 (s:(0,q)∈M)(O:∀i m,(i,m)∈M->i=0\/ws.length+1<=i)(y:∀i m B,(i,m)∈M->(i,B)∈M->m=B)(L:0<N.length):
 SR K M ⟨A,λp=>A p\/p∈F,some l⟩ (era F H) (start N (l::vs)) H (au N.length (k::ws)):=by
 have I:=h.len;have C:look (au N.length (k::ws)) 0=some k:=rfl;have Xm:(start N (l::vs))[0]?=some (some l):=rfl;have u:∀i,aM M i->i≠0->∀w,look (au N.length (k::ws)) i=some w->False:=λi ⟨m,r⟩ n w e=>kh (by rcases O i m r with z|z;exact(n z).elim;simpa using z) e;refine⟨by simp[L2.start,au,I],λi w g e=>?_,λp o e=>(Ff e).2,d,λv e=>?_,λi=>if i=0 then F else[],⟨y,λi m w r e=>?_,λi g e=>?_,λi g=>?_,λi j p g R a b=>?_,λi p g c=>?_,λi p g c=>?_,λp=>?_⟩⟩
 .cases i with
  |zero=>exact(g ⟨q,s⟩).elim
  |succ i=>
   have Q:look (ws.map some++C8 (N.length -(k::ws).length) none) i=some w:=e;have:look (au (N.length -1) ws) i=some w:=by unfold au;rw[show N.length -1 -ws.length=N.length -(k::ws).length by simp;lia];exact Q
   cases N with
   |nil=>cases L
   |cons x N=>obtain⟨v,f,t⟩:=tu (N:=N) h this;refine⟨v,?_,t⟩;unfold L2.start at f⊢;rw[Hn,SN,List.getElem?_cons_succ,show(x::N).length -(l::vs).length=N.length -vs.length by simp];exact f
 .cases e;exact⟨Xm,q,s⟩
 .rcases Y2 i with rfl|g
  .have:=y 0 m q r s;subst this;rw[C]at e;cases e;exact⟨l,Xm,by rw[Do rfl];exact P⟩
  .exact(u i ⟨m,r⟩ (by lia) w e).elim
 .rcases Y2 i with rfl|J
  .rw[C]at e;cases e
  .rw[Bi (by lia)]
 .split
  .exact D
  .exact Yf
 .by_cases f:i=0
  .by_cases t:j=0
   .rw[f,t]
   .rw[Bi t]at b;cases b
  .rw[Bi f]at a;cases a
 .by_cases f:i=0
  .rw[Do f]at c;exact QC c
  .rw[Bi f]at c;cases c
 .by_cases f:i=0
  .rw[Do f]at c;exact E p c
  .rw[Bi f]at c;cases c
 .constructor
  .rintro(z|z)
   .exact .inl z
   .exact .inr ⟨0,⟨q,s⟩,by rw[Do rfl];exact z⟩
  .rintro(z|⟨i,g,c⟩)
   .exact .inl z
   .by_cases f:i=0
    .rw[Do f]at c;exact .inr c
    .rw[Bi f]at c;cases c
end
theorem L4{M:Ms}(h:(M.map (·.1)).Nodup):∀i m c,(i,m)∈M->(i,c)∈M->m=c:=by
 induction M with
 |nil=>intro i m c a;cases a
 |cons x M d=>
  obtain⟨j,k⟩:=x;rw[Hn,Jn]at h;intro i m c a b;rcases FC.mp a with a|a
  .rcases FC.mp b with b|b
   .cases a;cases b;rfl
   .cases a;exact(h.1 (Kb.mpr ⟨_,b,rfl⟩)).elim
  .rcases FC.mp b with b|b
   .cases b;exact(h.1 (Kb.mpr ⟨_,a,rfl⟩)).elim
   .exact d h.2 i m c a b
section
variable{P:Program}{w:World}{K:Frag}{mg:Str->Option Value}{base:Heap}{x qual:Str}{st:Stmt}{f:Addr}{fd:FuncData}{N ps:List Str}{k:Nat}{fn gn zn:List Str}{md:List Md}{mt:List (Nat×Nat)}{Φ:Nat->aV}{G:Nat->W}
theorem Fj{M:Ms}{b:Value}{A:Around}{a:List Env}{s:Shared}{H:Hp}{E:XK}(t:fT N ps (aq st))(T:Tab P w K mg base fn gn zn md mt Φ G k)(q:cC k (kM P w K mg base N qual (aq st) f b A a s H E).A)(un:∀i m r,(i,m)∈M->(i,r)∈M->m=r):
 yu ⟨N,(aq st).names,M,fn,gn,zn,md,mt⟩ Φ (gq md) G (kM P w K mg base N qual (aq st) f b A a s H E):=
 {hN:=rfl,nd:=t.nd,calm:=rfl,un:=q.units,nk:=λ_=>rfl,
  fns:=λj x e h=>by obtain⟨v,n,p,o,l,d,c⟩:=T.fns j x e h;exact⟨v,n,p,o,l,q.mono d,c⟩
  oq:=λj g x e h=>by obtain⟨f,fd,ps,n,p,o,l,d,c,u⟩:=T.oq j g x e h;exact⟨f,fd,ps,n,p,o,l,d,q.mono c,u⟩
  Cw:=rfl,GP:=T.GP,zK:=T.zK,kit:=T.kit,
  bk:=by show(if(aq st).kind.isAnnotationScope then ScopeKind.function else(aq st).kind)=_;rw[t.kind];rfl
  GO:=λ_=>rfl,LY:=T.LY,own:=.leaving,stk:=⟨rfl,rfl⟩,Js:=un}
theorem Fl(F:Dv K x qual st f fd)(O:fT N ps (aq st))(T:Tab P w K mg base fn gn zn md mt Φ G k)(b:List CS)(M:Ms)(m:Md)(t:aV)(hM:M.all (λi=>decide (ps.length<=i.1))=true)(hu:(M.map (·.1)).Nodup)(d:dM m=false)
 (g:cT ⟨N,(aq st).names,M,fn,gn,zn,md,mt⟩ (gq md) m b (aZ st)=true)(B:∀c P R,t c P R->c.length=ps.length)
 (hp:∀c P R,t c P R->wSs Φ G b ⟨fall m P,P,λ_=>False,λ_=>False,R⟩ (au N.length c)):bJ P w K mg base (iY P w) (k+1) f fd ps (xu K ps.length m t):=by
 refine Dv.Vm F O (by rintro vs H Q E ⟨A,c,P,R,p,o,_⟩;rw[o.len,p]) λcdv A n s H vs Q E hr hz=>?_;obtain⟨U,c,u,R,p,o,h3,h4,L,J⟩:=hz;have y:=L4 hu;refine⟨_,gH Φ (gq md) G b (Fj O T hr y) (aZ st) g,⟨U,U,none⟩,H,au N.length c,⟨fall m u,u,λ_=>False,λ_=>False,R⟩,Fe o h3 (λi m hi=>?_) y,⟨E,Ln,λC j rc l=>J C j rc l,λe Y S s1 h' a C h I hx q=>zj e Y S s1 h' a C h I hx (J C S q.1 q.2)⟩,(by rw[d];rfl),hp c u R h4,⟨λA' Z X j ea eb D S'=>?_,λw v j hw l r=>?_,λ_ _ _ _ _ _ z=>z.elim,λ_ _ _ _ _ _ z=>z.elim⟩⟩
 .rw[p];exact Ap (IR.mp hM (i,m) hi)
 .cases m with
  |s=>exact L .aG .aG j D S'.sm (.of (by dsimp only[Rep]))
  |io _=>cases d
  |_=>exact D.elim
 .cases m with
  |io _=>cases d
  |_=>exact L w v j hw l r
theorem JN(F:Dv K x qual st f fd)(Sc:fT N ps (aq st))(T:Tab P w K mg base fn gn zn md mt Φ G k)(b:List CS)(M:Ms)(j:Md)(Sf:aV)(hM:M.all (λi=>i.1==0||decide (ps.length<=i.1))=true)(hu:(M.map (·.1)).Nodup)(U:hasB M 0 j=true)(hN:0<N.length)
 (J:cT ⟨N,(aq st).names,M,fn,gn,zn,md,mt⟩ (gq md) (.io j) b (aZ st)=true)(hlen:∀h P R,Sf h P R->h.length=ps.length)
 (D:∀h P R,Sf h P R->wSs Φ G b ⟨fall (.io j) P,P,λ_=>False,λ_=>False,R⟩ (au N.length h)):bJ P w K mg base (iY P w) (k+1) f fd ps (TN K ps.length j Sf):=by
 refine Dv.Vm F Sc (by rintro vs H Q E ⟨ab,F,O,v0,h,vs',P,R,e,h1,_,_,_,_,h2,_⟩;rw[e,A0,h2.len,h1]) λcdv A outer s H vs Q E hr hz=>?_;obtain⟨ab,F,O,v0,h,vs',P0,R,e,h1,nd,na,d,fp,h2,h4,h5,h6⟩:=hz;subst e;have un:=L4 hu;have U:=jK U;have Y:∀{c},aA (era F H) c->sO (·∈F) H c:=λ{c} t p o e=>by
  by_cases IB:p∈F
  .obtain⟨o',e',hm⟩:=Fp.mu j fp p IB;rw[e]at e';cases e';exact .inl ⟨hm,IB⟩
  .exact .inr (t p o (by rw[JM IB];exact e))
 refine⟨_,gH Φ (gq md) G b (Fj Sc T hr un) (aZ st) J,⟨ab,λp=>ab p\/p∈F,some v0⟩,era F H,au N.length (O::h),⟨fall (.io j) P0,P0,λ_=>False,λ_=>False,R⟩,Fi nd na d fp h2 U (λi m hi=>?_) un hN,⟨E,Ln,λC c rc t=>h6 C c rc (Y t),λu σ H1 s1 h' a C L I hx q=>zj u σ H1 s1 h' a C L I hx (h6 C H1 q.1 (Y q.2))⟩,rfl,D _ P0 R h4,⟨λA' n σ' c ea eb l S'=>?_,λw v c hw t r=>?_,λ_ _ _ _ _ _ z=>z.elim,λ_ _ _ _ _ _ z=>z.elim⟩⟩
 .have:=IR.mp hM (i,m) hi;rw[Ta]at this;rcases this with z|z
  .exact .inl (HI.mp z)
  .exact .inr (by rw[h1];exact Ap z)
 .have l:(match look n 0 with|some O=>P0 (.tup [.aG,O])|none=>False):=l;cases hl:look n 0 with
  |none=>rw[hl]at l;exact l.elim
  |some y=>rw[hl]at l;obtain⟨wr,y',v0',F',e1,X,Xn,Z,g,S⟩:=uf (v:=.aG) S' U hl ⟨v0,eb⟩ (by dsimp only[Rep]:Rep K A'.B c .aG .aG);cases e1;rw[eb]at X;cases X;rw[ea]at g S Z;exact h5 .aG y .aG F' c l (Y S'.sm) Xn (λp D=>Fg (Z p D).1) g S
 .obtain⟨wr,y,v0',F',rfl,X,Xn,Z,g,S⟩:=r;cases X;exact h5 wr y v F' c hw (Y t) Xn (λp D=>Fg (Z p D).1) g S
end
end VL
namespace L2
open PySem PySem.Spec PyProof.Rows
abbrev rv(as:List (Addr×Rat)):List V:=as.map λx=>V.ref x.1
section
variable{X:Cx}{H:Hp}
end
end L2
namespace VL
open PySem PySem.Spec
open PyProof.Rows hiding St
open L2
section
variable{K:Frag}{A:Addr->Prop}{H H':Hp}{v:V}{p:Addr}{r:Rat}{rs:List Rat}
end
noncomputable def bH:List aV->Nat->aV
 |[],_=>λ_ _ _=>False
 |x::_,0=>x
 |_::l,n+1=>bH l n
noncomputable def bR:List W->Nat->W
 |[],_=>.aG
 |x::_,0=>x
 |_::l,n+1=>bR l n
section
variable{Q:W->Prop}{l a b:List W}{i j:Int}{x y:Str}{p q:Bool}
theorem x_len:nA .len [.lst l] Q=Q (.int l.length):=rfl
theorem CG{c:List Int}:nA .len [.cX c] Q=Q (.int c.length):=rfl
theorem CF:nA .len [.tup l] Q=Q (.int l.length):=rfl
theorem Kq:nA .abs [.int i] Q=Q (.int (if i<0 then-i else i)):=rfl
theorem Kr:nA .max2 [.int i,.int j] Q=Q (.int (if j>i then j else i)):=rfl
theorem Ks:nA .min2 [.int i,.int j] Q=Q (.int (if j<i then j else i)):=rfl
theorem CH:nA .list [.lst l] Q=Q (.lst l):=rfl
theorem yR:nA .list [.tup l] Q=Q (.lst l):=rfl
theorem yS:nA .tuple [.lst l] Q=Q (.tup l):=rfl
theorem vf:nA .tuple [.tup l] Q=Q (.tup l):=rfl
theorem Ku:nA .int [.bl p] Q=Q (.int (if p then 1 else 0)):=rfl
theorem Kv:cV .Add (.int i) (.int j) Q=Q (.int (i+j)):=rfl
theorem Kw:cV .Add (.lst a) (.lst b) Q=(a.length+b.length<=sizeLine/\Q (.lst (a++b))):=rfl
theorem Ky:cV .Sub (.int i) (.int j) Q=Q (.int (i -j)):=rfl
theorem Kz:cV .Mult (.int i) (.int j) Q=(IntMulOk i j/\Q (.int (i*j))):=rfl
theorem KA:cV .Mult (.lst a) (.int j) Q=(-(2^63)<=j/\j<2^63/\a.length*j.toNat<=sizeLine/\Q (.lst (C8 j.toNat a).flatten)):=rfl
theorem CI:cV .FloorDiv (.int i) (.int j) Q=(vB i j/\Q (.int (i.fdiv j))):=rfl
theorem KC:cV .Mod (.int i) (.int j) Q=(j≠0/\Q (.int (i.fmod j))):=rfl
theorem KD:cV .Pow (.int i) (.int j) Q=(xE i j/\Q (.int (i^j.toNat))):=rfl
theorem KG:cV .RShift (.int i) (.int j) Q=(0<=j/\Q (.int (i/2^j.toNat))):=rfl
theorem RI:dJ .Eq (.int i) (.int j) Q=Q (.bl (decide (i=j))):=rfl
theorem RJ:dJ .NotEq (.int i) (.int j) Q=Q (.bl (!decide (i=j))):=rfl
theorem x_lt:dJ .Lt (.int i) (.int j) Q=Q (.bl (decide (i<j))):=rfl
theorem RK:dJ .LtE (.int i) (.int j) Q=Q (.bl (decide (i<=j))):=rfl
theorem RM:dJ .Gt (.int i) (.int j) Q=Q (.bl (decide (j<i))):=rfl
theorem RN:dJ .GtE (.int i) (.int j) Q=Q (.bl (decide (j<=i))):=rfl
theorem KH:Lz .Lt (.int i) (.int j) Q=Q (.bl (decide (i<j))):=rfl
theorem KI:Lz .LtE (.int i) (.int j) Q=Q (.bl (decide (i<=j))):=rfl
theorem yT{Q:Bool->Prop}:truth (.bl p) Q=Q p:=rfl
theorem RO:HW (.lst l) (.int i) Q=∃w,iS l i=some w/\Q w:=rfl
theorem KL{c:List Int}:HW (.cX c) (.int i) Q=∃n,iS c i=some n/\Q (.int n):=rfl
theorem KN{c:List Int}{d e:Option Int}:Vu (.cX c) d e Q=Q (.lst (mD (c.map W.int) d e)):=rfl
theorem KJ:HW (.tup l) (.int i) Q=∃w,iS l i=some w/\Q w:=rfl
theorem RP{c d:Option Int}:Vu (.lst l) c d Q=Q (.lst (mD l c d)):=rfl
theorem KO{w:W}{Q:Option Int->Prop}:Ct .aG w Q=Q none:=rfl
theorem KQ{n:Int}{Q:Option Int->Prop}:Ct (.int n) (.int i) Q=Q (some i):=rfl
theorem KR{n:Nat}{Q:Option Int->Prop}:Ct (.var n) (.int i) Q=Q (some i):=rfl
theorem KU{o:Operator}{c d:CE}{Q:Option Int->Prop}:Ct (.bin o c d) (.int i) Q=Q (some i):=rfl
theorem yU{Q:List W->Prop}:items (.lst l) Q=Q l:=rfl
theorem vg{Q:List W->Prop}:items (.tup l) Q=Q l:=rfl
theorem Mz{n:Nat}{w:W}{c:Ev}{Q:Ev->Prop}:wT true [n] w c Q=Q (c.set n (some w)):=rfl
theorem RQ{c:List Nat}{d:Ev}{Q:Ev->Prop}:wT false c (.tup l) d Q=(l.length=c.length/\Q (cj d c l)):=by
 cases c<;>rfl
theorem KW{i j:Nat}{c:Ev}{Q:Ev->Prop}:wT false [i,j] (.tup l) c Q=(l.length=2/\Q (cj c [i,j] l)):=rfl
theorem KY{i j k:Nat}{c:Ev}{Q:Ev->Prop}:wT false [i,j,k] (.tup l) c Q=(l.length=3/\Q (cj c [i,j,k] l)):=rfl
theorem CJ:nA .len [.str x] Q=(x.length<=sizeLine/\Q (.int x.length)):=rfl
theorem CK:nA .int [.str x] Q=∃n,PySem.intText? x=some n/\x.length<=640/\Q (.int n):=rfl
theorem CL:nA .str [.int i] Q=(i.natAbs.log2<1920/\Q (.str (toString i))):=rfl
theorem CM:nA .str [.str x] Q=Q (.str x):=rfl
theorem CN:cV .Add (.str x) (.str y) Q=(x.length+y.length<=sizeLine/\Q (.str (x++y))):=rfl
theorem CO:cV .Mult (.str x) (.int i) Q=((0<=i/\i<=1000)/\x.length<=1000/\Q (.str (tx (C8 i.toNat x.cps.toList).flatten))):=rfl
theorem KZ:dJ .Eq (.str x) (.str y) Q=Q (.bl (decide (x=y))):=rfl
theorem K0:dJ .NotEq (.str x) (.str y) Q=Q (.bl (!decide (x=y))):=rfl
theorem K1:dJ .In (.str x) (.str y) Q=∃c,x=tx [c]/\Q (.bl (decide (c∈y.cps.toList))):=rfl
theorem K2:dJ .In (.str x) (.lst l) Q=∃c:List Str,l=c.map W.str/\Q (.bl (decide (x∈c))):=rfl
theorem K3:HW (.str x) (.int i) Q=(x.length<=sizeLine/\∃c,iS x.cps.toList i=some c/\Q (.str (tx [c]))):=rfl
theorem K4{c d:Option Int}:HX (.str x) c d Q=(x.length<=sizeLine/\Q (.str (tx (bT x.cps.toList c d)))):=rfl
theorem K5{c d:Option Int}:HX (.tup l) c d Q=(¬(HT.bX l.length 0 c=0/\HT.bX l.length l.length d=l.length)/\Q (.tup (mD l c d))):=rfl
theorem K6:NH (.str x) (.str y) (.int i) Q=(0<=i/\i<=x.length/\Q (.bl (y.cps.toList.isPrefixOf (x.cps.toList.drop i.toNat)))):=rfl
theorem K7{C:Addr}{c:List Str}{n:Nat}:NI n x (.obj C c l) Q=(c[n]?=some x/\∃w,l[n]?=some w/\Q w):=rfl
theorem K9:DZ (.str x) Q=(x.length<=1000/\Q (.str x)):=rfl
theorem La:DZ (.int i) Q=(i.natAbs.log2<1920/\Q (.str (toString i))):=rfl
theorem K8{k:Nat}{π:List jE}{Q:Option Int->Prop}:Ct (.own k π) (.int i) Q=Q (some i):=rfl
theorem CP{A B:Prop}:(if true=true then A else B)=A:=rfl
theorem yV{A B:Prop}:(if false=true then A else B)=B:=rfl
end
noncomputable def JO(d:Nat->aV)(G:Nat->W)(c:Bool)(e:List Nat)(b:List CS):W->Dn->Ev->Prop:=λw g a=>wT c e w a λf=>wSs d G b g f
theorem RG{d:Nat->aV}{G:Nat->W}{e:List Nat}{a:Bool}{f:CE}{b:List CS}{D:Dn}{c:Ev}:wS d G (.fr e a f b) D c=wE d G D.ex f c λz=>items z λg=>fh (JO d G a e b) D g c:=rfl
theorem yP{d:Nat->aV}{G:Nat->W}{e:List Nat}{a:Bool}{b:List CS}{w:W}{D:Dn}{c:Ev}:JO d G a e b w D c=wT a e w c λf=>wSs d G b D f:=rfl
noncomputable def WN{α:Type}(S:α->Ev)(J:α->Prop)(c:α->Nat)(s:α):Ev->Prop:=λa=>∃b,a=S b/\J b/\c b<c s
noncomputable def Xo{α:Type}(S:α->Ev)(J:α->Prop)(d:α->Nat)(b:Dn->Ev->Prop)(D:Dn)(s:α)(k:Bool):Prop:=
 if k=true then∃N:Ev->Prop,(∀a,N a->∃e,e<d s/\∃c,a=S c/\e=d c/\J c)/\b {nx:=N,rt:=D.rt,bk:=D.nx,ct:=N,ex:=D.ex} (S s)else D.nx (S s)
theorem jq{α:Type}{S:α->Ev}{J:α->Prop}{a:α->Nat}{b:Dn->Ev->Prop}{D:Dn}{s:α}{k:Bool}(g:k=true->b {nx:=WN S J a s,rt:=D.rt,bk:=D.nx,ct:=WN S J a s,ex:=D.ex} (S s))(f:k=false->D.nx (S s)):Xo S J a b D s k:=by
 unfold Xo;cases k with
 |true=>exact⟨_,by rintro c ⟨d,e,j,l⟩;exact⟨_,l,d,e,rfl,j⟩,g rfl⟩
 |false=>exact f rfl
theorem ux{c:Ev->(Bool->Prop)->Prop}{b:Dn->Ev->Prop}{D:Dn}{a:Ev}{α:Type}(S:α->Ev)(J:α->Prop)(e:α->Nat)(d:α)(h:a=S d)(g:J d)(f:∀s,J s->c (S s) (Xo S J e b D s)):NJ c b D a:=by refine⟨λm a=>∃s,a=S s/\m=e s/\J s,⟨_,d,h,rfl,g⟩,?_⟩;rintro m _ ⟨s,rfl,rfl,j⟩;exact f s j
theorem ai{n:Nat}(h:n<=1000):n<=sizeLine:=FV h (by decide)
theorem Fo(K:Frag):vO K:=by intro a d b c;simp only[FC,Sr,or_false]at d c;rcases d with rfl|rfl|rfl|rfl|rfl|rfl<;>rcases c with rfl|rfl|rfl|rfl|rfl|rfl<;>rfl
end VL
namespace pR
open L2 PySem VL
noncomputable def Fq(x:List Nat):W:=.tup [.str "name",.str (tx x)]
noncomputable def QD(n:Nat):W:=.tup [.str "number",.int n]
noncomputable def yx(n:Nat):W:=.tup [.str "power",.int n]
noncomputable def nE:W:=.tup [.str "minus",.int 0]
noncomputable def GR(o:Nat):W:=.tup [.str (tx [o]),.int 0]
noncomputable def isLet(c:Nat):Prop:=97<=c/\c<=122
noncomputable def iM(c:Nat):Prop:=48<=c/\c<=57
inductive G:Nat->Nat->List Nat->List W->Prop where
 |sum {d:Nat} {a r:List Nat} {sa sr:List W} (h:G 1 d a sa) (k:G 4 d r sr):G 0 d (a++r) (sa++sr)
 |term {d:Nat} {a r:List Nat} {sa sr:List W} (h:G 2 d a sa) (k:G 5 d r sr):G 1 d (a++r) (sa++sr)
 |n4 {d:Nat}:G 4 d [] []
 |n5 {d:Nat}:G 5 d [] []
 |c4 {d o:Nat} {a r:List Nat} {sa sr:List W} (ho:o=43\/o=45) (h:G 1 d a sa) (k:G 4 d r sr):G 4 d (32::o::32::(a++r)) (sa++(GR o::sr))
 |c5 {d o:Nat} {a r:List Nat} {sa sr:List W} (ho:o=42\/o=47) (h:G 2 d a sa) (k:G 5 d r sr):G 5 d (32::o::32::(a++r)) (sa++(GR o::sr))
 |fac {d k:Nat} {a:List Nat} {sa:List W} (hk:k<=30) (h:G 3 d a sa):G 2 d (C8 k 45++a) (sa++C8 k nE)
 |Xp {d k e:Nat} {a:List Nat} {sa:List W} (hk:k<=30) (he:e<=12) (h:G 3 d a sa):G 2 d (C8 k 45++(a++94::dg e)) (sa++yx e::C8 k nE)
 |name {d:Nat} {x:List Nat} (h1:x≠[]) (h2:x.length<=8) (h3:∀c∈x,isLet c):G 3 d x [Fq x]
 |num {d n:Nat} (h:n<10^30):G 3 d (dg n) [QD n]
 |brk {d d':Nat} {a:List Nat} {sa:List W} (h:G 0 d a sa) (hd:d<d'):G 3 d' (40::(a++[41])) sa
end pR
namespace VL
open PySem PySem.Spec
open PyProof.Rows hiding St
open L2
noncomputable def Hd(K:Frag)(x:Str)(st:Stmt):Prop:=∃(f:Addr)(d i:Option Addr)(b:Array (Option Value))(e kV g c a h:Value),
 nsIn K mainGlobals x=some (some (.ref f))/\K.lookup f=some ⟨e,d,.func (fnOf x x (bY st) (aZ st) (aq st) .none kV g c i a h),b⟩/\codeIn K a x=true/\keepIn K (.ref f)=true
noncomputable def Hm(K:Frag)(C:Addr)(x q:Str)(st:Stmt):Prop:=∃(f:Addr)(d i:Option Addr)(b:Array (Option Value))(e kV g c a h:Value),
 findIn K (.ref C) x=some (some (.ref f))/\isFn K (.ref f)=true/\K.lookup f=some ⟨e,d,.func (fnOf x q (bY st) (aZ st) (aq st) .none kV g c i a h),b⟩/\codeIn K a q=true/\keepIn K (.ref f)=true
structure Df(K:Frag)(mg:Str->Option Value)(x:Str)(st:Stmt)(ps:List Str)(f:Addr)(fd:FuncData):Prop where
 F:Dv K x x st f fd
 m:mg x=some (.ref f)
 b:Binds K fd ps []
 bt:∀(s:Shared)(us:List Value),us.length=ps.length->BindsTo s fd ⟨us,[]⟩ (ps.zip us)
structure Dm(K:Frag)(C:Addr)(x q:Str)(st:Stmt)(ps:List Str)(f:Addr)(fd:FuncData):Prop where
 F:Dv K x q st f fd
 M:Meth K C x f
 b:Binds K fd ps []
abbrev iz(x q:Str)(st:Stmt)(ps:List Str):Prop:=∀(kV doc pm:Value)(an:Option Addr)(cdv ct:Value)(us:List Value),us.length=ps.length->bindArgs (fnOf x q (bY st) (aZ st) (aq st) .none kV doc pm an cdv ct) ⟨us,[]⟩=pure (ps.zip us)
theorem rK{α:Type}{l:List α}{n:Nat}(h:l.length=n+1):∃a r,l=a::r/\r.length=n:=by
 cases l with
 |nil=>cases h
 |cons a r=>exact⟨a,r,rfl,Xx h⟩
theorem UB{K:Frag}{h:Heap}{d:Str->Option Value}{x:Str}{st:Stmt}{ps:List Str}(X:K.In h)(G:h.Ns mainGlobals d)(hd:Hd K x st)(b:iz x x st ps):∃f j,Df K d x st ps f j:=by obtain⟨f,r,p,q,t,kV,m,g,o,n,a,l,c,k⟩:=hd;have F:=Dw (st:=st) l c k;exact⟨f,_,F,KB X G a,F.binds b,λs e i=>.of_eq (b kV m g p o n e i)⟩
theorem iN{K:Frag}{C:Addr}{x q:Str}{st:Stmt}{ps:List Str}(hd:Hm K C x q st)(b:iz x q st ps):∃f d,Dm K C x q st ps f d:=by obtain⟨f,h,p,e,j,kV,m,g,o,n,a,i,l,c,k⟩:=hd;have F:=Dw (st:=st) l c k;exact⟨f,_,F,⟨a,i,k⟩,F.binds b⟩
structure Hc(K:Frag)(mg:Str->Option Value)(x:Str)(C:Addr)(fs:List Str):Prop where
 c:mg x=some (.ref C)
 ok:rH K C fs
 ZS:makesIn K C=true
 kp:keepIn K (.ref C)=true
theorem yy{K:Frag}{H:Hp}{a:Addr}{b:List Int}(d:Ds H)(c:j3 K H a (b.map V.int)):Rep K (λ_=>False) H (.cX b) (.ref a):=by
 refine⟨a,rfl,?_⟩;rcases c with(h|⟨o,h⟩)|h
 .rcases d a with z|⟨o,e,z⟩
  .rw[z]at h;cases h
  .rw[z]at h;cases h
 .exact .inl ⟨o,h⟩
 .exact .inr (.inr h)
noncomputable def QE:aV:=λb Q _=>∃a:List Int,b=[.cX a]/\a.length<=63/\Q (.bl true)
noncomputable def z5(K:Frag):Sp:=λc H Q _=>∃(a:Addr)(b:List Int),c=[.ref a]/\Ds H/\j3 K H a (b.map V.int)/\b.length<=63/\∀d,Q (.bl true) d
theorem QF{P:Program}{w:World}{K:Frag}{c:Str->Option Value}{base:Heap}{k:Nat}{f:Addr}{d:FuncData}{x:Str}(F:bJ P w K c base (iY P w) k f d [x] (xu K 1 .s QE)):bJ P w K c base SK k f d [x] (z5 K):=by refine(bJ.SO F).imp λm H Q E ⟨a,b,e,j,i,h,q⟩=>?_;subst e;refine⟨λ_=>False,[.cX b],λw=>w=.bl true,λ_=>False,rfl,.cons (yy j i) .nil,λ_ z=>z.elim,⟨b,rfl,h,rfl⟩,λw v l g _ r=>?_,λ_ _ z=>z.elim⟩;subst g;have r:=r.aS;dsimp only[Rep]at r;subst r;exact q l
theorem walk{l:PySem.W.OpenLaw}{q:Program}{b:List Str}{B:(Str->Option Value)->Heap->Prop}{m:World->Heap->Prop}{d:DefRec}{K:Params->Frag}{k:Nat}(r:l.most=some 63)(g:d.params.defaults=[])(p:cC k callerA)(C:importsNone q=true)(e:l.prog.given.tree=none)
 (v:∀(w:World)(h:Heap),m w h->(K w.params).In h)
 (F:∀(w:World)(c:Str->Option Value)(j:Addr)(h:Heap),(K w.params).In h->h.Ns mainGlobals c->c d.name=some (.ref j)->
   ∃i:FuncData,(∀(s:Shared)(u:Value),BindsTo s i ⟨[u],[]⟩ [("_law_script",u)])/\∀base:Heap,(K w.params).In base->base.Ns mainGlobals c->bJ l.prog w (K w.params) c base SK k j i ["_law_script"] (z5 (K w.params))):
 PySem.W.WalkO q b B m l.row.toRowW d [] (λf us=>PySem.call f us):=
 L2.HB (n:=63) (k:=k) (x:="_law_script") (CX:=λ_=>SK) (sp:=λw=>z5 (K w.params)) r (by decide) g p C e v F (λ_ _ a o t A y=>⟨a,o,rfl,A,y,t,λ_=>rfl⟩) λ_ _ _ _ _ z=>z
noncomputable def RB:aV:=λ_ _ _=>False
theorem UC{P:Program}{w:World}{K:Frag}{d:Str->Option Value}{base:Heap}{k n:Nat}{f:Addr}{e:FuncData}{ps:List Str}:bJ P w K d base (iY P w) k f e ps (pZ K n .s RB):=
 ⟨by rintro c H Q E ⟨_,_,_,_,_,_,_,z,_⟩;exact z.elim,by rintro A a s H b g c Q E h j i r ⟨_,_,_,_,_,_,_,z,_⟩;exact z.elim⟩
theorem Df.kj{P:Program}{w:World}{K:Frag}{d:Str->Option Value}{base:Heap}{x:Str}{st:Stmt}{ps:List Str}{f:Addr}{h:FuncData}{k n:Nat}{m:Md}{sp:aV}(D:Df K d x st ps f h)(F:bJ P w K d base (iY P w) k f h ps (pZ K n m sp))(j:n=ps.length)(i:∀a P R,sp a P R->a.length=n){e:Nat}(l:k<=e):
 ∃g n c,d x=some g/\bU P w K d base c g n (pZ K n m sp)/\c<=e/\∀a P R,sp a P R->a.length=n:=by
 subst j;exact⟨_,_,k,D.m,.fn D.F.kp D.b F,l,i⟩
end VL
namespace VL
open PySem PySem.Spec
open PyProof.Rows hiding St
open L2 Num
abbrev aX(m:Md)(P:W->Prop)(R:Addr->Prop):Dn:=⟨fall m P,P,λ_=>False,λ_=>False,R⟩
noncomputable def wI(a:List Int):W:=.lst (a.map W.int)
theorem fW{b:W->Dn->Ev->Prop}{D:Dn}{d:List W}{a:Ev}(J:Nat->Ev->Prop)(m:J 0 a)(l:∀i w a N,d[i]?=some w->J i a->(∀c,J (i+1) c->N c)->b w ⟨N,D.rt,D.nx,N,D.ex⟩ a)(he:∀a,J d.length a->D.nx a):fh b D d a:=by
 have:∀k i a,i+k=d.length->J i a->fh b D (d.drop i) a:=by
  intro k
  induction k with
  |zero=>intro i a e j;rw[List.drop_of_length_le (by lia),fh];exact he a (by rw[<-e];exact j)
  |succ k h=>
   intro i a e j;have f:i<d.length:=by lia
   rw[ag f,fh];exact l i _ a _ (Ee f) j λc g=>h (i+1) c (by lia) g
 exact this d.length 0 a (by lia) m
theorem fX{x y:Int}{n m:Nat}(h:x.natAbs<2^n)(b:y.natAbs<2^m)(a:n+m<=134217728):IntMulOk x y:=xV (FV (Nat.add_le_add (bits_le h) (bits_le b)) a)
theorem iA{y:Int}{n:Nat}(h:y.natAbs<2^n)(a:n<=8000):y.natAbs.log2<1000000000:=by
 rcases Y2 y.natAbs with e|e
 .rw[e];decide
 .have:=(W3 (RD e)).mpr h;lia
theorem QG{n i:Nat}{w:W}(h:(iU 0 1 n)[i]?=some w):i<n/\w=.int i:=by unfold iU at h;rw[IH]at h;obtain⟨j,e,rfl⟩:=Kt.mp h;obtain⟨b,a⟩:=GT.mp e;rw[List.getElem_range]at a;rw[XS]at b;refine⟨b,?_⟩;rw[<-a];simp
theorem JP(n:Nat):(iU 0 1 n).length=n:=by unfold iU;simp
theorem fm{x:Int}{n:Int}(a:0<n):0<=x.fmod n/\x.fmod n<n:=⟨Int.fmod_nonneg_of_pos x a,Int.fmod_lt_of_pos x a⟩
theorem aL{b:Nat->aV}{G:Nat->W}{s t:CS}{d:List CS}{D:Dn}{c:Ev}(J:Ev->Prop)(f:∀N:Ev->Prop,(∀a,J a->N a)->wS b G s {D with nx:=N} c)(e:∀a,J a->wSs b G (t::d) D a):wSs b G (s::t::d) D c:=f _ e
end VL
namespace L2
open PySem
end L2
namespace VL
open PySem PySem.Spec
open PyProof.Rows hiding St
open L2 Num
end VL
namespace L2
open PySem
end L2
namespace VL
open PySem PySem.Spec
open PyProof.Rows hiding St
open L2 Num
structure ZT(A B fA fB:List Int)(ld h:Int)(N E:Nat):Prop where
 l2:2<=B.length
 lab:B.length<=A.length
 l15:A.length<=15
 lf:fA.length<=40
 lf2:fB.length<=40
 bA:∀x∈A,x.natAbs<2^N
 bB:∀x∈B,x.natAbs<2^N
 bfA:∀x∈fA,x.natAbs<2^N
 bfB:∀x∈fB,x.natAbs<2^N
 bl:ld.natAbs<2^N
 bh:h.natAbs<2^N
 hN:N<=5000
 hE:E<=12000
 k0:ld*h^(A.length -B.length)≠0
 kE:(ld*h^(A.length -B.length)).natAbs<=2^E
 h0:0<A.length -B.length->h^(A.length -B.length -1)≠0/\(h^(A.length -B.length -1)).natAbs<=2^E
noncomputable def L5(x:Addr)(H H':Hp):Prop:=∀b o,b≠x->H b=some o->H' b=some o
theorem z6{K:Frag}{A:Addr->Prop}{H:Hp}(i:Int):Rep K A H (.int i) (.int i):=by dsimp only[Rep]
end VL
namespace VL
open PySem PySem.Spec
open PyProof.Rows hiding St
open L2
noncomputable def Xq(P:Program)(w:World)(K:Frag)(a:Str->Option Value)(base:Heap)(k:Nat):List Str->List Md->List aV->Prop
 |x::fn,m::e,S::Ss=>(∃d n c,a x=some d/\bU P w K a base c d n (pZ K n m S)/\c<=k/\∀b P R,S b P R->b.length=n)/\Xq P w K a base k fn e Ss
 |[],_,_=>True
 |_,_,_=>False
theorem Ft{P:Program}{w:World}{K:Frag}{b:Str->Option Value}{base:Heap}{k:Nat}:∀{fn:List Str}{a:List Md}{Ss:List aV},Xq P w K b base k fn a Ss->∀(j:Nat)(x:Str),fn[j]?=some x->∃f n d,b x=some f/\bU P w K b base d f n (pZ K n (gq a j) (bH Ss j))/\d<=k/\∀c P R,bH Ss j c P R->c.length=n
 |y::fn,m::a,S::Ss,h,0,x,e=>by
  cases e;exact h.1
 |y::fn,m::a,S::Ss,h,j+1,x,e=>Ft (fn:=fn) h.2 j x e
 |[],_,_,_,j,x,e=>by cases e
 |_::_,[],_,h,_,_,_=>h.elim
 |_::_,_::_,[],h,_,_,_=>h.elim
noncomputable def gZ(st:Stmt):List Str:=(bY st).args.map (·.arg)
noncomputable def Xr:NameKind->Bool
 |.local=>true
 |.cell=>true
 |_=>false
noncomputable def L6(st:Stmt):List Str:=((aq st).names.filter λy=>Xr y.2).map (·.1)
abbrev DT:=List (Str×Nat)
noncomputable def rD(DD:DT)(j:Nat):Str:=match DD[j]? with
 |some y=>y.1
 |none=>""
noncomputable def JQ(K:Frag)(a:Nat->Stmt):DT->Prop
 |[]=>True
 |(x,i)::l=>(Hd K x (a i)/\iz x x (a i) (gZ (a i)))/\JQ K a l
noncomputable def JR(K:Frag):List Str->Prop
 |[]=>True
 |x::l=>nsIn K mainGlobals x=some none/\JR K l
structure TT(K:Frag)(mg:Str->Option Value)(tp:Nat->Stmt)(DD:DT)(ZZ:List Str)where
 f:Nat->Addr
 d:Nat->FuncData
 D:∀{j:Nat}{x:Str}{i:Nat},DD[j]?=some (x,i)->Df K mg x (tp i) (gZ (tp i)) (f j) (d j)
 Z:∀x∈ZZ,mg x=none
section
variable{P:Program}{w:World}{K:Frag}{mg:Str->Option Value}{base:Heap}{tp:Nat->Stmt}{DD:DT}{ZZ:List Str}
theorem z7{h:Heap}(X:K.In h)(G:h.Ns mainGlobals mg):∀{DD:DT}{j:Nat}{x:Str}{i:Nat},JQ K tp DD->DD[j]?=some (x,i)->∃f a,Df K mg x (tp i) (gZ (tp i)) f a
 |(y,n)::DD,0,x,i,h,e=>by
  cases e;exact UB X G h.1.1 h.1.2
 |(y,n)::DD,j+1,x,i,h,e=>z7 X G (DD:=DD) h.2 e
theorem z8{h:Heap}(X:K.In h)(G:h.Ns mainGlobals mg):∀{ZZ:List Str},JR K ZZ->∀x∈ZZ,mg x=none
 |y::ZZ,h,x,a=>by
  rcases FC.mp a with e|a
  .rw[e];exact PySem.W.mg_none_of X G h.1
  .exact z8 X G h.2 x a
open Classical in
theorem UD{h:Heap}(X:K.In h)(G:h.Ns mainGlobals mg)(a:JQ K tp DD)(z:JR K ZZ):Nonempty (TT K mg tp DD ZZ):=by
 have H:∀j:Nat,∃f b,∀x i,DD[j]?=some (x,i)->Df K mg x (tp i) (gZ (tp i)) f b:=λj=>by
  cases e:DD[j]? with
  |none=>exact⟨0,fnOf "" "" (bY (tp 0)) (aZ (tp 0)) (aq (tp 0)) .none .none .none .none none .none .none,λx i q=>nn q⟩
  |some y=>obtain⟨f,b,D⟩:=z7 X G a e;exact⟨f,b,λx i q=>by cases q;exact D⟩
 exact⟨⟨λj=>choose (H j),λj=>choose (choose_spec (H j)),λ{j x i} e=>choose_spec (choose_spec (H j)) x i e,z8 X G z⟩⟩
noncomputable def Cl(P:Program)(w:World)(K:Frag)(mg:Str->Option Value)(base:Heap)(DD:DT)(k j:Nat)(m:Md)(S:aV):Prop:=∃c n b,mg (rD DD j)=some c/\bU P w K mg base b c n (pZ K n m S)/\b<=k/\∀a P R,S a P R->a.length=n
noncomputable def BN(P:Program)(w:World)(K:Frag)(mg:Str->Option Value)(base:Heap)(DD:DT):List (Nat×Md×Nat)->List aV->Prop
 |(j,m,k)::kj,S::Ss=>Cl P w K mg base DD k j m S/\BN P w K mg base DD kj Ss
 |[],_=>True
 |_::_,[]=>False
theorem z9{k:Nat}:∀{a:List (Nat×Md×Nat)}{Ss:List aV},BN P w K mg base DD a Ss->a.all (λy=>decide (y.2.2<=k))=true->Xq P w K mg base k (a.map λy=>rD DD y.1) (a.map (·.2.1)) Ss
 |(j,m,k')::a,S::Ss,h,hk=>by rw[CB,AC]at hk;obtain⟨f,n,k2,e,d,c,b⟩:=h.1;exact⟨⟨f,n,k2,e,d,FV c (Ap hk.1),b⟩,z9 h.2 hk.2⟩
 |[],_,_,_=>trivial
 |_::_,[],h,_=>h.elim
noncomputable def Gn(K:Frag)(mg:Str->Option Value)(x:Str)(u:W):Prop:=(∃v z,mg x=some v/\RelV z v/\∀B H,Rep K B H u z)/\∀C,u=.cls C->pK K C
noncomputable def QH(K:Frag)(mg:Str->Option Value):List Str->List W->Prop
 |x::gn,u::Gs=>Gn K mg x u/\QH K mg gn Gs
 |[],_=>True
 |_::_,[]=>False
theorem qv{x:Str}{i:Int}(h:∃u,mg x=some u/\RelV (.int i) u):Gn K mg x (.int i):=by obtain⟨u,b,a⟩:=h;exact⟨⟨u,_,b,a,λ_ _=>by dsimp only[Rep]⟩,λC e=>by cases e⟩
theorem yz{x:Str}{C:Addr}(h:mg x=some (.ref C))(e:pK K C):Gn K mg x (.cls C):=
 ⟨⟨_,.ref C,h,rfl,λ_ _=>by dsimp only[Rep]⟩,λa q=>by cases q;exact e⟩
theorem qw:∀{gn:List Str}{Gs:List W},QH K mg gn Gs->∀(j:Nat)(x:Str),gn[j]?=some x->Gn K mg x (bR Gs j)
 |y::gn,u::Gs,h,0,x,e=>by
  cases e;exact h.1
 |y::gn,u::Gs,h,j+1,x,e=>qw (gn:=gn) h.2 j x e
 |_::_,[],h,_,_,_=>h.elim
 |[],_,_,_,_,e=>by cases e
theorem UE{k:Nat}{a:List (Nat×Md×Nat)}{Ss:List aV}{gn:List Str}{Gs:List W}(T:TT K mg tp DD ZZ)(h:BN P w K mg base DD a Ss)(b:a.all (λy=>decide (y.2.2<=k))=true)(g:QH K mg gn Gs):Tab P w K mg base (a.map λy=>rD DD y.1) gn ZZ (a.map (·.2.1)) [] (bH Ss) (bR Gs) k:=
 ⟨λj x e _=>Ft (z9 h b) j x e,λ_ _ _ _ h=>(by cases h),λj x e=>(qw g j x e).1,T.Z,Fo K,λj x C e q=>(qw g j x e).2 C q⟩
noncomputable def xx(ZZ:List Str)(st:Stmt)(np n:Nat)(M:Ms)(fn gn:List Str)(a:List Md)(b:List (Nat×Nat))(m:Md)(c:List CS):Bool:=
 decide (((aq st).kind=.function/\(aq st).isCoroutine=false/\(aq st).isGenerator=false/\(L6 st).Nodup/\(L6 st).take (gZ st).length=gZ st)/\(∀x∈gZ st,(aq st).names.lookup x=some .local\/(aq st).names.lookup x=some .cell)/\(∀y∈(aq st).names,y.2≠.free)/\(gZ st).length=np/\(L6 st).length=n/\(M.map (·.1)).Nodup)&&(M.all (λi=>decide (np<=i.1))&&!dM m&&cT ⟨L6 st,(aq st).names,M,fn,gn,ZZ,a,b⟩ (gq a) m c (aZ st))
theorem UG{np n j i:Nat}{x:Str}{M:Ms}{fn gn:List Str}{l:List Md}{h:List (Nat×Nat)}{m:Md}{c:List CS}{g:Nat->aV}{G:Nat->W}{k:Nat}{S:aV}(T:TT K mg tp DD ZZ)(r:DD[j]?=some (x,i))(e:xx ZZ (tp i) np n M fn gn l h m c=true)(o:Tab P w K mg base fn gn ZZ l h g G k)(q:∀a P R,S a P R->a.length=np)(p:∀a Q R,S a Q R->wSs g G c (aX m Q R) (au n a)):
 bJ P w K mg base (iY P w) (k+1) (T.f j) (T.d j) (gZ (tp i)) (pZ K np m S):=by
 unfold xx at e;rw[AC,AC,AC]at e;obtain⟨v,⟨u,t⟩,s⟩:=e;obtain⟨⟨I,a2,a3,H,E⟩,C,B,z,y,A⟩:=Ap v;have b:dM m=false:=by simpa using t
 subst z y;have:=Fl (T.D r).F ⟨I,a2,a3,H,E,C,B⟩ o c M m S u A b s q p;cases m<;>first|exact this|cases b
theorem Aa{np j i k:Nat}{x:Str}{m:Md}{S:aV}(T:TT K mg tp DD ZZ)(b:DD[j]?=some (x,i))(c:np=(gZ (tp i)).length)(F:bJ P w K mg base (iY P w) k (T.f j) (T.d j) (gZ (tp i)) (pZ K np m S))(g:∀a P R,S a P R->a.length=np):Cl P w K mg base DD k j m S:=by
 have e:rD DD j=x:=by unfold rD;rw[b]
 unfold Cl;rw[e];exact(T.D b).kj F c g (Bn k)
theorem Fv{np n:Nat}{st:Stmt}{M:Ms}{fn gn:List Str}{b:List Md}{a:List (Nat×Nat)}{m:Md}{c:List CS}(h:xx ZZ st np n M fn gn b a m c=true):np=(gZ st).length:=by unfold xx at h;rw[AC]at h;exact(Ap h.1).2.2.2.1.symm
theorem UH{n j i:Nat}{x:Str}{Gs:List W}{m:Md}{c:List CS}{Ss:List aV}{k:Nat}{S:aV}(T:TT K mg tp DD ZZ)(o:DD[j]?=some (x,i))(np:Nat)(M:Ms)(b:List (Nat×Md×Nat))(gn:List Str)(p:∀a Q R,S a Q R->wSs (bH Ss) (bR Gs) c (aX m Q R) (au n a))(h:BN P w K mg base DD b Ss)(g:QH K mg gn Gs)(e:(b.all (λy=>decide (y.2.2<=k))&&xx ZZ (tp i) np n M (b.map λy=>rD DD y.1) gn (b.map (·.2.1)) [] m c)=true)(l:∀a P R,S a P R->a.length=np):bJ P w K mg base (iY P w) (k+1) (T.f j) (T.d j) (gZ (tp i)) (pZ K np m S):=by rw[AC]at e;exact UG T o e.2 (UE T h e.1 g) l p
theorem wu{n j i:Nat}{x:Str}{Gs:List W}{m:Md}{c:List CS}{Ss:List aV}{k:Nat}{S:aV}(T:TT K mg tp DD ZZ)(f:DD[j]?=some (x,i))(np:Nat)(M:Ms)(b:List (Nat×Md×Nat))(gn:List Str)(p:∀a Q R,S a Q R->wSs (bH Ss) (bR Gs) c (aX m Q R) (au n a))(h:BN P w K mg base DD b Ss)(g:QH K mg gn Gs)(d:(b.all (λy=>decide (y.2.2<=k))&&xx ZZ (tp i) np n M (b.map λy=>rD DD y.1) gn (b.map (·.2.1)) [] m c)=true)(e:∀a P R,S a P R->a.length=np):Cl P w K mg base DD (k+1) j m S:=by have F:=UH T f np M b gn p h g d e;rw[AC]at d;exact Aa T f (Fv d.2) F e
theorem rL{n j i:Nat}{x:Str}{m:Md}{c:List CS}{Ss:List aV}{k:Nat}{S:aV}(T:TT K mg tp DD ZZ)(f:DD[j]?=some (x,i))(np:Nat)(M:Ms)(b:List (Nat×Md×Nat))(p:∀a Q R,S a Q R->wSs (bH Ss) (bR []) c (aX m Q R) (au n a))(h:BN P w K mg base DD b Ss)(e:(b.all (λy=>decide (y.2.2<=k))&&xx ZZ (tp i) np n M (b.map λy=>rD DD y.1) [] (b.map (·.2.1)) [] m c)=true)(d:∀a P R,S a P R->a.length=np):Cl P w K mg base DD (k+1) j m S:=wu T f np M b [] p h trivial e d
theorem rM{n j i:Nat}{x:Str}{m:Md}{c:List CS}{S:aV}(T:TT K mg tp DD ZZ)(e:DD[j]?=some (x,i))(np:Nat)(M:Ms)(p:∀a Q R,S a Q R->wSs (bH []) (bR []) c (aX m Q R) (au n a))(d:xx ZZ (tp i) np n M [] [] [] [] m c=true)(b:∀a P R,S a P R->a.length=np):Cl P w K mg base DD 1 j m S:=wu (k:=0) T e np M [] [] p trivial trivial d b
theorem L7{k j i np:Nat}{x:Str}(T:TT K mg tp DD ZZ)(b:DD[j]?=some (x,i))(a:np=(gZ (tp i)).length):Cl P w K mg base DD k j .s RB:=Aa T b a UC λ_ _ _ z=>z.elim
end
end VL
namespace VL
open PySem PySem.Spec
open PyProof.Rows hiding St
open L2 pR
abbrev FS:List Str:=["text","place","brackets","steps"]
abbrev qx:Md:=.o FS [.s,.s,.s,.f]
abbrev Xs:Md:=.o FS [.s,.s,.s,.s]
abbrev Ob(C:Addr)(t:List Nat)(p b:Nat)(w:W):W:=.obj C FS [.str (tx t),.int (p:Nat),.int (b:Nat),w]
abbrev cText:CE:=.own 0 [.fl 0 "text"]
abbrev di:CE:=.own 0 [.fl 1 "place"]
abbrev BO:CE:=.own 0 [.fl 2 "brackets"]
abbrev iB:List jE:=[.fl 3 "steps"]
noncomputable def bV(C:Addr):aV:=λa Q _=>∃(t y:List Nat)(p b:Nat)(w:W),a=[Ob C t p b w,.str (tx y)]/\p<=t.length/\Q (.tup [.bl (y.isPrefixOf (t.drop p)),Ob C t p b w])
noncomputable def gI:List CS:=[.HU (.Ro cText (.var 1) di)]
theorem BP{C:Addr}{c:Nat->aV}{G:Nat->W}{m:Md}(a:List W)(Q:W->Prop)(R:Addr->Prop)(h:bV C a Q R):wSs c G gI (aX m Q R) (au 2 a):=by obtain⟨t,y,p,b,w,rfl,e,d⟩:=h;show wSs _ _ gI _ [some _,some _];unfold gI;fin2;refine⟨rfl,by omega,by omega,?_⟩;exact d
noncomputable def dQ(C:Addr):aV:=λf Q _=>∃(d e:List Nat)(a o c b:Nat)(w:W),f=[Ob C (d++a::o::c::e) d.length b w]/\(d++a::o::c::e).length<=1000/\Q (.tup [.str (tx [o]),Ob C (d++a::o::c::e) (d.length+3) b w])
noncomputable def dZ:List CS:=[.set 1 (.ix cText (.bin .Add di (.int 1))),.xo 0 1 (.bin .Add di (.int 3)),.HU (.var 1)]
theorem b4{α:Type}{l:List α}{n:Nat}{x:α}(h:l[n]?=some x):iS l (n:Int)=some x:=by
 have a:=(GT.mp h).1;unfold iS;have:Dk l.length (n:Int)=some n:=by unfold Dk;simp;omega
 rw[this];exact h
theorem wz{C:Addr}{g:Nat->aV}{G:Nat->W}{m:Md}(e:List W)(Q:W->Prop)(R:Addr->Prop)(h:dQ C e Q R):wSs g G dZ (aX m Q R) (au 2 e):=by
 obtain⟨d,f,a,o,c,b,w,rfl,j,i⟩:=h;show wSs _ _ dZ _ [some _,none];unfold dZ;fin2;refine⟨ai j,o,?_,?_⟩
 .exact b4 (n:=d.length+1) (by rw[Gc (by omega)];simp)
 .fin2;refine⟨by simp,?_⟩;exact i
noncomputable def rN:aV:=λa Q _=>∃(n m:Nat),a=[.str (tx (dg n)),.int m]/\(dg n).length<=m/\m<=30/\Q (.int n)
theorem wB:("":Str)=tx []:=by decide+kernel
theorem Xu:("0":Str)=tx [48]:=by decide+kernel
theorem gJ(a b:List Nat):decide (tx a=tx b)=decide (a=b):=bo.mpr ⟨j6,λe=>by rw[e]⟩
noncomputable def bw(C:Addr):aV:=λf Q _=>∃(e d a sg:List Nat)(b:Nat)(w:W),f=[Ob C (e++(d++a)) e.length b w,.str (tx sg)]/\(∀c∈d,c∈sg)/\(∀c r,a=c::r->c∉sg)/\(e++(d++a)).length<=1000/\Q (.tup [.str (tx d),Ob C (e++(d++a)) (e.length+d.length) b w])
noncomputable def cJ:List CS:=[.set 2 di,.Lw (.and [.cmp .Lt di (.blt .len [cText]),.cmp .In (.ix cText di) (.var 1)]) [.xo 0 1 (.bin .Add di (.int 1))],.HU (.slt cText (.var 2) di)]
theorem JS(a b c:List Nat):bT (a++(b++c)) (some (a.length:Int)) (some ((a.length+b.length:Nat):Int))=b:=by
 unfold bT;have e:HT.bX (a++(b++c)).length 0 (some (a.length:Int))=a.length:=by unfold HT.bX;simp;omega
 have f:(a++(b++c)).length=a.length+(b.length+c.length):=by simp
 have d:HT.bX (a++(b++c)).length (a++(b++c)).length (some ((a.length+b.length:Nat):Int))=a.length+b.length:=by unfold HT.bX;dsimp only;rw[Bi (by omega),I0];omega
 rw[e,d,UV,Pl,UM]
theorem qy{C:Addr}{s:Nat->aV}{G:Nat->W}{m:Md}(n:List W)(Q:W->Prop)(R:Addr->Prop)(h:bw C n Q R):wSs s G cJ (aX m Q R) (au 3 n):=by
 obtain⟨f,a,d,sg,b,w,rfl,t,v,i,u⟩:=h;show wSs _ _ cJ _ [some _,some _,none];unfold cJ;fin2;have o:(f++(a++d)).length=f.length+(a.length+d.length):=by simp
 refine ux (α:=Nat) (λk=>[some (Ob C (f++(a++d)) (f.length+k) b w),some (.str (tx sg)),some (.int (f.length:Nat))]) (λk=>k<=a.length) (λk=>a.length -k) 0 rfl (NM _) λk A=>?_;fin2;refine⟨ai i,?_⟩;have g:k=a.length->(aX m Q R).rt (.tup [.str (tx (bT (f++(a++d)) (some (f.length:Int)) (some ((f.length+k:Nat):Int)))),Ob C (f++(a++d)) (f.length+k) b w]):=λe=>by rw[e,JS];exact u
 by_cases B:f.length+k<(f++(a++d)).length
 .rw[Bz (by omega)];fin2;have j:∃c,(a++d)[k]?=some c/\((k<a.length/\c∈sg)\/(k=a.length/\c∉sg)):=by
   rcases RZ k a.length with z|z
   .refine⟨a[k],?_,.inl ⟨z,t _ (N0 z)⟩⟩;rw[On z,Ee z]
   .have e:k=a.length:=by omega
    cases p:d with
    |nil=>have:=Hb Dr p;rw[CC]at this;omega
    |cons c r=>refine⟨c,?_,.inr ⟨e,v c r p⟩⟩;rw[Gc z,e];simp
  obtain⟨c,x,l⟩:=j;refine⟨ai i,c,b4 (by rw[Gc (by omega),Pl];exact x),c,rfl,?_⟩;rcases l with⟨z,y⟩|⟨z,y⟩
  .refine jq (λ_=>?_) (λq=>absurd y (of_decide_eq_false q));fin2;exact⟨by simp,k+1,rfl,by omega,by show a.length -(k+1)<a.length -k;omega⟩
  .refine jq (λq=>absurd (Ap q) y) (λ_=>?_);fin2;exact⟨ai i,g z⟩
 .rw[DL (by omega)];fin2;refine jq (λz=>by cases z) (λ_=>?_);fin2;exact⟨ai i,g (by omega)⟩
noncomputable def st3(p:List Nat):Prop:=∀c r,p=c::r->¬isLet c/\¬iM c
noncomputable def st2(p:List Nat):Prop:=st3 p/\∀r,p≠94::r
noncomputable def st1(p:List Nat):Prop:=st2 p/\∀r,p≠32::42::32::r/\p≠32::47::32::r
noncomputable def Xm(p:List Nat):Prop:=st1 p/\∀r,p≠32::43::32::r/\p≠32::45::32::r
theorem UI{a b c:Nat}:∀{p:List Nat},(∀r,p≠a::b::c::r)->El [a,b,c] p=false:=λ{p} h=>by rw[SC];intro z;obtain⟨t,e⟩:=ae.mp z;exact h t e.symm
theorem JT{a:Nat}:∀{p:List Nat},(∀r,p≠a::r)->El [a] p=false:=λ{p} h=>by rw[SC];intro z;obtain⟨t,e⟩:=ae.mp z;exact h t e.symm
theorem _root_.pR.G.few{l d:Nat}{s:List Nat}{st:List W}(h:pR.G l d s st):st.length<=s.length:=by
 induction h with
 |sum _ _ i j=>simp;omega
 |term _ _ i j=>simp;omega
 |n4=>simp
 |n5=>simp
 |c4 a _ _ i j=>simp;omega
 |c5 a _ _ i j=>simp;omega
 |fac b _ i=>simp;omega
 |Xp b g _ i=>simp;omega
 |name f m k=>
  rename_i d x
  cases x with
  |nil=>exact absurd rfl f
  |cons c r=>simp
 |num h=>
  rename_i d n
  cases e:dg n with
  |nil=>exact absurd e (Ls n)
  |cons c r=>simp
 |brk h hd i=>simp;omega
inductive TL(lv d o1 o2:Nat):List Nat->List W->Prop where
 |nil:TL lv d o1 o2 [] []
 |cons {o:Nat} {a r:List Nat} {sa sr:List W} (ho:o=o1\/o=o2) (h:pR.G lv d a sa) (k:TL lv d o1 o2 r sr):TL lv d o1 o2 (32::o::32::(a++r)) (sa++(GR o::sr))
noncomputable def iC(a s2:Str):List CS:=[.xq (.gD 0 0 0 []),.S8 (.or [.gD 0 0 1 [.str a],.gD 0 0 1 [.str s2]]) [.mz 1 (.gD 0 0 2 []),.xq (.gD 0 0 0 []),.GK 0 iB (.tup [.var 1,.int 0])]]
theorem wC(o:Nat)(s:Str)(h:s=tx [32,o,32]:=by decide+kernel):s=tx [32,o,32]:=h
noncomputable def nF:List CS:=[.xo 0 2 (.bin .Add BO (.int 1)),.iff (.cmp .Gt BO (.glob 0)) [.HV] [],.xo 0 1 (.bin .Add di (.int 1)),.xq (.gD 0 1 0 []),.Ru (.gD 0 1 1 [.str ")"]) [.HV] [],.xo 0 1 (.bin .Add di (.int 1)),.xo 0 2 (.bin .Sub BO (.int 1))]
noncomputable def nG:List CS:=[.mz 1 (.call 0 [.gD 0 3 1 [.glob 0],.glob 1]),.iff (.cmp .Gt (.var 1) (.glob 2)) [.HV] [],.GK 0 iB (.tup [.str "power",.var 1])]
noncomputable def lets:List Nat:=[97,98,99,100,101,102,103,104,105,106,107,108,109,110,111,112,113,114,115,116,117,118,119,120,121,122]
theorem Fw{c:Nat}:c∈lets↔isLet c:=by rw[show lets=N2 97 26 from rfl,Nj];unfold isLet;omega
theorem uy:("abcdefghijklmnopqrstuvwxyz":Str)=tx lets:=by decide+kernel
noncomputable def rO:List CS:=[.mz 1 (.blt .len [.gD 0 1 0 [.str "-"]]),.iff (.cmp .Gt (.var 1) (.glob 0)) [.HV] [],.xq (.gD 0 1 1 []),.Lx (.gD 0 1 2 [.str "^"]) [.xo 0 1 (.bin .Add di (.int 1)),.xq (.gD 0 1 3 [])] [],.HE 0 iB (.bin .Mult (.lst [.tup [.str "minus",.int 0]]) (.var 1))]
noncomputable def wD:List CS:=[.Lx (.gD 0 4 0 [.str "("]) [.xq (.gD 0 4 1 []),.HU .aG] [],.mz 1 (.gD 0 4 2 [.glob 0]),.iff (.cmp .Eq (.var 1) (.str "")) [.Rt 0 3 (.tup [.str "number",.call 3 [.gD 0 4 4 [.glob 1],.glob 2]])] [.iff (.cmp .LtE (.blt .len [.var 1]) (.glob 3)) [.GK 0 iB (.tup [.str "name",.var 1])] [.HV]]]
noncomputable def L8(C:Addr):Sp:=λe H Q _=>∃(x d:Addr)(c:V),e=[.ref x,c]/\H x=some (.ins C d [])/\∀(b:Addr)(a:Hp),L5 x H a->H b=none->a b=some (.lst [])->a x=some (.ins C d (FS.zip [c,.int 0,.int 0,.ref b]))->Q .aG a
noncomputable def oF(C:Addr):aV:=λa Q _=>∃t,a=[.str (tx t)]/\Q (Ob C t 0 0 (.lst []))
theorem wF{P:Program}{w:World}{K:Frag}{q:Str->Option Value}{base:Heap}{k:Nat}{C f:Addr}{s:FuncData}{ps:List Str}(L:rH K C FS)(M:Mk K C f)(b:Binds K s ps [])(F:bJ P w K q base (iY P w) k f s ps (L8 C)):
 bU P w K q base (k+1) (.ref C) 1 (pZ K 1 qx (oF C)):=by
 refine .mk M b F λY H Q E hz x i m U B=>?_;obtain⟨A,X,P,R,l,r,d,⟨t,e,N⟩,c,Z⟩:=hz;subst e;obtain⟨y,_,rfl,j,r⟩:=r.cons_inv;cases r;have j:y=.str (tx t):=j;subst j;refine⟨x,i,_,rfl,aD,λa v I g S ex=>⟨rfl,?_⟩⟩;have u:a≠x:=λe=>by rw[e,aD]at g;cases g
 have T:a≠i:=λe=>by rw[e,ay B,aD]at g;cases g
 have O:H a=none:=by rw[ay u,ay T]at g;exact g
 have sm:aA H v:=λb o h=>by
  have n:b≠x:=λe=>by rw[e,m]at h;cases h
  have D:b≠i:=λe=>by rw[e,U]at h;cases h
  exact I b o n (by rw[ay n,ay D];exact h)
 refine c _ (.ref x) v N sm ⟨[x,a],by simp[OF u],λp J=>?_,?_⟩
 .rcases FC.mp J with z|z
  .rw[z];exact m
  .rw[FR.mp z];exact O
 dsimp only[Fp];refine⟨C,i,_,x,[.str (tx t),.int 0,.int 0,.ref a],[a],rfl,rfl,rfl,ex,rfl,L,?_⟩;dsimp only[dI];refine⟨_,_,_,_,[],[a],rfl,rfl,rfl,?_,_,_,_,_,[],[a],rfl,rfl,rfl,?_,_,_,_,_,[],[a],rfl,rfl,rfl,?_,_,_,_,_,[a],[],rfl,rfl,rfl,?_,rfl,rfl,rfl⟩
 .dsimp only[Fp];exact⟨rfl,mE _⟩
 .dsimp only[Fp];exact⟨rfl,z6 _⟩
 .dsimp only[Fp];exact⟨rfl,z6 _⟩
 .dsimp only[Fp];exact⟨[],a,[],rfl,rfl,rfl,S,.nil⟩
abbrev FE:List Str:=["steps"]
abbrev Ex(C:Addr)(sts:List W):W:=.obj C FE [.tup sts]
noncomputable def Ma(C:Addr):Sp:=λe H Q _=>∃(x d p:Addr)(b:List V),e=[.ref x,.ref p]/\H x=some (.ins C d [])/\H p=some (.lst b)/\b.length<=sizeLine/\∀(c:Addr)(a:Hp),L5 x H a->H c=none->a c=some (.tup b)->a x=some (.ins C d (FE.zip [.ref c]))->Q .aG a
noncomputable def Ab(C:Addr):aV:=λb Q _=>∃a:List W,b=[.lst a]/\a.length<=2000/\Q (Ex C a)
theorem BQ{P:Program}{w:World}{K:Frag}{v:Str->Option Value}{base:Heap}{k:Nat}{C f:Addr}{B:FuncData}{ps:List Str}(U:rH K C FE)(M:Mk K C f)(b:Binds K B ps [])(F:bJ P w K v base (iY P w) k f B ps (Ma C)):
 bU P w K v base (k+1) (.ref C) 1 (pZ K 1 .s (Ab C)):=by
 refine .mk M b F λvs H Q E hz x i m D O=>?_;obtain⟨A,ws,P,R,l,r,d,⟨L,e,t,X⟩,c,er⟩:=hz;subst e;obtain⟨v1,_,rfl,N,r⟩:=r.cons_inv;cases r;obtain⟨p,J,rfl,hp,a,y⟩:=N;have a:=a.at;have n:p≠x:=λe=>by rw[e,m]at a;cases a
 have q:p≠i:=λe=>by rw[e,D]at a;cases a
 refine⟨x,i,p,J,rfl,aD,by rw[ay n,ay q];exact a,by rw[y.len];exact FV t (by decide),λj I T g Y ex=>⟨rfl,?_⟩⟩;have VH:j≠x:=λe=>by rw[e,aD]at g;cases g
 have Z:j≠i:=λe=>by rw[e,ay O,aD]at g;cases g
 have h4:H j=none:=by rw[ay VH,ay Z]at g;exact g
 have sm:aA H I:=λb o h=>by
  have u:b≠x:=λe=>by rw[e,m]at h;cases h
  have S:b≠i:=λe=>by rw[e,D]at h;cases h
  exact T b o u (by rw[ay u,ay S];exact h)
 refine c _ (.ref x) I X sm (.of ⟨x,i,[.ref j],rfl,λz=>?_,ex,rfl,U,.cons (t6 Y (aj.same sm y)) .nil⟩);obtain⟨o,e⟩:=d x z;rw[m]at e;cases e
end VL
namespace pR
open L2 PySem VL
inductive Tr where
 |nm (x:List Nat)|nu (n:Nat)|op (o:Nat) (a b:Tr)|pw (a:Tr) (e:Nat)|ls (a:Tr)
noncomputable def wt:Tr->W
 |.nm x=>.tup [.str "name",.str (tx x)]
 |.nu n=>.tup [.str "number",.int n]
 |.op o a b=>.tup [.str (tx [o]),wt a,wt b]
 |.pw a e=>.tup [.str "^",wt a,.int e]
 |.ls a=>.tup [.str "less",wt a]
noncomputable def nH(x:List Nat):Prop:=x≠[]/\x.length<=8/\∀c∈x,isLet c
noncomputable def lS:Tr->Prop
 |.nm x=>nH x
 |.nu n=>n<10^30
 |.op o a b=>(o=43\/o=45\/o=42\/o=47)/\lS a/\lS b
 |.pw a e=>e<=12/\lS a
 |.ls a=>lS a
noncomputable def sz:Tr->Nat
 |.nm _=>1
 |.nu _=>1
 |.op _ a b=>sz a+sz b+1
 |.pw a _=>sz a+1
 |.ls a=>sz a+1
noncomputable def bi:Tr->Nat
 |.nm _=>4
 |.nu _=>4
 |.op o _ _=>if o=43\/o=45 then 0 else 1
 |.pw _ _=>3
 |.ls _=>2
noncomputable def br(b l:Nat)(s:List Nat):List Nat:=if b<l then 40::(s++[41])else s
noncomputable def txt:Tr->List Nat
 |.nm x=>x
 |.nu n=>dg n
 |.op o a b=>br (bi a) (bi (.op o a b)) (txt a)++(32::o::32::br (bi b) (bi (.op o a b)+1) (txt b))
 |.pw a e=>br (bi a) 4 (txt a)++94::dg e
 |.ls a=>45::br (bi a) 2 (txt a)
noncomputable def stp:Tr->List W
 |.nm x=>[Fq x]
 |.nu n=>[QD n]
 |.op o a b=>stp a++(stp b++[GR o])
 |.pw a e=>stp a++[yx e]
 |.ls a=>stp a++[nE]
noncomputable def Fac(d k:Nat)(s:List Nat)(st:List W):Prop:=∃(j:Nat)(a x:List Nat)(c b:List W),j<=k/\G 3 d a c/\s=C8 j 45++(a++x)/\st=c++(b++C8 j nE)/\((x=[]/\b=[])\/∃e,e<=12/\x=94::dg e/\b=[yx e])
structure Rd(T:Tr):Prop where
 g0:G 0 (sz T) (txt T) (stp T)
 g1:1<=bi T->G 1 (sz T) (txt T) (stp T)
 f:2<=bi T->Fac (sz T) (sz T) (txt T) (stp T)
 g3:bi T=4->G 3 (sz T) (txt T) (stp T)
theorem uz:∀T:Tr,1<=sz T
 |.nm _=>Bn _
 |.nu _=>Bn _
 |.op _ a b=>by show 1<=_+_+1;omega
 |.pw a _=>by show 1<=_+1;omega
 |.ls a=>by show 1<=_+1;omega
theorem mP(b l:Nat)(s:List Nat):(br b l s).length<=s.length+2:=by
 unfold br;split
 .simp
 .omega
theorem jL:∀T:Tr,lS T->(txt T).length+7<=37*sz T
 |.nm x,h=>by have:=h.2.1;show x.length+7<=37*1;omega
 |.nu n,h=>by have:=pS (k:=30) (by decide) h;show(dg n).length+7<=37*1;omega
 |.op o a b,h=>by have d:=jL a h.2.1;have g:=jL b h.2.2;have c:=mP (bi a) (bi (.op o a b)) (txt a);have f:=mP (bi b) (bi (.op o a b)+1) (txt b);show(br (bi a) (bi (.op o a b)) (txt a)++(32::o::32::br (bi b) (bi (.op o a b)+1) (txt b))).length+7<=37*(sz a+sz b+1);simp only[AN,A0];omega
 |.pw a e,h=>by have d:=jL a h.2;have c:=mP (bi a) 4 (txt a);have f:=pS (m:=e) (k:=2) (by decide) (by have:=h.1;omega);show(br (bi a) 4 (txt a)++94::dg e).length+7<=37*(sz a+1);simp only[AN,A0];omega
 |.ls a,h=>by have d:=jL a h;have c:=mP (bi a) 2 (txt a);show(45::br (bi a) 2 (txt a)).length+7<=37*(sz a+1);simp only[A0];omega
theorem fY:∀T:Tr,(stp T).length=sz T
 |.nm _=>rfl
 |.nu _=>rfl
 |.op o a b=>by show(stp a++(stp b++[GR o])).length=_;simp[fY a,fY b,sz];omega
 |.pw a e=>by show(stp a++[yx e]).length=_;simp[fY a,sz]
 |.ls a=>by show(stp a++[nE]).length=_;simp[fY a,sz]
abbrev Rs:=Option (Tr×List Nat)
abbrev Pr:=List Nat->Rs
noncomputable def rn(sg:List Nat):List Nat->List Nat
 |[]=>[]
 |c::r=>if c∈sg then c::rn sg r else[]
noncomputable def rs(sg:List Nat):List Nat->List Nat
 |[]=>[]
 |c::r=>if c∈sg then rs sg r else c::r
theorem cy(sg:List Nat):∀s,rn sg s++rs sg s=s
 |[]=>rfl
 |c::r=>by
  dsimp only[rn,rs];split
  .rw[SN,cy sg r]
  .rfl
theorem ju(sg:List Nat):∀s,∀c∈rn sg s,c∈sg
 |[],c,h=>by cases h
 |x::r,c,h=>by
  dsimp only[rn]at h;split at h
  .rcases FC.mp h with e|h
   .rw[e];assumption
   .exact ju sg r c h
  .cases h
theorem Fx(sg:List Nat):∀s c r,rs sg s=c::r->c∉sg
 |[],c,r,h=>by cases h
 |x::s,c,r,h=>by
  dsimp only[rs]at h;split at h
  .exact Fx sg s c r h
  .cases h;assumption
noncomputable def dN:List Nat:=[48,49,50,51,52,53,54,55,56,57]
noncomputable def oG:List Nat:=[97,98,99,100,101,102,103,104,105,106,107,108,109,110,111,112,113,114,115,116,117,118,119,120,121,122]
theorem iD{c:Nat}:c∈dN↔iM c:=by rw[show dN=N2 48 10 from rfl,Nj];unfold iM;omega
theorem Ac{c:Nat}:c∈oG↔isLet c:=by rw[show oG=N2 97 26 from rfl,Nj];unfold isLet;omega
noncomputable def val(f:List Nat):Nat:=NumText.digitsVal f
noncomputable def Cy(m:Nat)(f:List Nat):Prop:=f≠[]/\f.length<=m/\(f.head?=some 48->f=[48])
instance(m:Nat)(f:List Nat):Decidable (Cy m f):=by unfold Cy;infer_instance
noncomputable def m9(s:List Nat):Rs:=
 if rn oG s=[]then(if Cy 30 (rn dN s)then some (.nu (val (rn dN s)),rs dN s)else none)
 else if(rn oG s).length<=8 then some (.nm (rn oG s),rs oG s)else none
noncomputable def eL:Rs->Rs
 |some (t,c::q)=>if c=41 then some (t,q)else none
 |_=>none
noncomputable def b8(b:Pr):Pr
 |[]=>m9 []
 |c::r=>if c=40 then eL (b r)else m9 (c::r)
noncomputable def ko:Rs->Rs
 |some (t,c::r)=>if c=94 then(if Cy 2 (rn dN r)/\val (rn dN r)<=12 then some (.pw t (val (rn dN r)),rs dN r)else none)else some (t,c::r)
 |x=>x
noncomputable def Ad:Nat->Tr->Tr
 |0,t=>t
 |k+1,t=>.ls (Ad k t)
noncomputable def UJ(k:Nat):Rs->Rs
 |some (t,r)=>some (Ad k t,r)
 |none=>none
noncomputable def kq(a:Pr)(s:List Nat):Rs:=if(rn [45] s).length<=30 then UJ (rn [45] s).length (ko (a (rs [45] s)))else none
noncomputable def Cz(o1 o2:Nat):List Nat->Option (Nat×List Nat)
 |a::o::c::r=>if(a=32/\c=32)/\(o=o1\/o=o2)then some (o,r)else none
 |_=>none
noncomputable def gK(p:Pr)(o1 o2:Nat):Nat->Tr->List Nat->Rs
 |0,t,r=>some (t,r)
 |n+1,t,r=>match Cz o1 o2 r with
  |some (o,a)=>match p a with
   |some (u,q)=>gK p o1 o2 n (.op o t u) q
   |none=>none
  |none=>some (t,r)
noncomputable def dj(p:Pr)(o1 o2:Nat)(s:List Nat):Rs:=match p s with
 |some (t,r)=>gK p o1 o2 r.length t r
 |none=>none
noncomputable def Ae(b:Pr):Pr:=dj (dj (kq (b8 b)) 42 47) 43 45
noncomputable def gw:Nat->Pr
 |0=>Ae λ_=>none
 |d+1=>Ae (gw d)
noncomputable def ng:Nat->Pr
 |0=>λ_=>none
 |d+1=>gw d
theorem sum_in(d:Nat):gw d=Ae (ng d):=by cases d<;>rfl
noncomputable def lD(s:List Nat):Option Tr:=if s.length<=1000 then(match gw 30 s with
 |some (t,[])=>some t
 |_=>none)else none
noncomputable def gM(c:Nat):Bool:=decide (c=43\/c=45\/c=42\/c=47\/c=94)
noncomputable def ops(s:List Nat):Nat:=s.countP gM
theorem bN(a b:List Nat):ops (a++b)=ops a+ops b:=List.countP_append
theorem b9(c:Nat)(a:List Nat):ops (c::a)=ops a+if gM c=true then 1 else 0:=List.countP_cons
theorem qz(s:List Nat):ops s<=s.length:=List.countP_le_length
noncomputable def dp:Tr->Nat
 |.nm _=>1
 |.nu _=>1
 |.op _ a b=>max (dp a) (dp b)+1
 |.pw a _=>dp a+1
 |.ls a=>dp a+1
theorem QI:∀t:Tr,1<=dp t
 |.nm _=>Bn _
 |.nu _=>Bn _
 |.op _ _ _=>Q1 (NM _)
 |.pw _ _=>Q1 (NM _)
 |.ls _=>Q1 (NM _)
theorem len_pos{l:List Nat}(h:l≠[]):1<=l.length:=by
 cases l with
 |nil=>exact absurd rfl h
 |cons _ _=>simp
theorem iO(b l:Nat)(s:List Nat):s.length<=(br b l s).length:=by
 unfold br;split
 .simp;omega
 .exact Bn _
theorem mQ:∀t:Tr,lS t->sz t<=(txt t).length
 |.nm x,h=>by have:=len_pos h.1;exact this
 |.nu n,h=>len_pos (Ls n)
 |.op o a b,h=>by have c:=mQ a h.2.1;have g:=mQ b h.2.2;have f:=iO (bi a) (bi (.op o a b)) (txt a);have d:=iO (bi b) (bi (.op o a b)+1) (txt b);show sz a+sz b+1<=(br (bi a) (bi (.op o a b)) (txt a)++(32::o::32::br (bi b) (bi (.op o a b)+1) (txt b))).length;rw[AN,A0,A0,A0];omega
 |.pw a e,h=>by have c:=mQ a h.2;show sz a+1<=(br (bi a) 4 (txt a)++94::dg e).length;rw[AN,A0];have:=iO (bi a) 4 (txt a);omega
 |.ls a,h=>by have c:=mQ a h;show sz a+1<=(45::br (bi a) 2 (txt a)).length;rw[A0];have:=iO (bi a) 2 (txt a);omega
noncomputable def Gd(l:Nat)(s:List Nat)(t:Tr)(r:List Nat):Prop:=lS t/\∃u,s=u++r/\(br (bi t) l (txt t)).length<=u.length/\dp t<=ops u+1
noncomputable def uA(l:Nat)(p:Pr):Prop:=∀s t r,p s=some (t,r)->Gd l s t r
theorem Af{b l m:Nat}(h:l<=m)(s:List Nat):(br b l s).length<=(br b m s).length:=by
 unfold br;split
 .rw[Do (by omega)];exact Bn _
 .exact iO _ _ _
theorem Gd.sz{l:Nat}{s:List Nat}{t:Tr}{r:List Nat}(h:Gd l s t r):∃u,s=u++r/\pR.sz t<=u.length/\r.length<s.length:=by obtain⟨a,u,e,g,f⟩:=h;have d:=mQ t a;have c:=iO (bi t) l (txt t);have b:=uz t;exact⟨u,e,by omega,by rw[e,AN];omega⟩
theorem Fy:∀f:List Nat,(∀c∈f,iM c)->val f<10^f.length:=by
 intro f;have:∀(f:List Nat)(a:Nat),(∀c∈f,iM c)->f.foldl (λa c=>a*10+(c -48)) a<(a+1)*10^f.length:=by
  intro f
  induction f with
  |nil=>intro a _;show a<(a+1)*1;omega
  |cons c f b=>
   intro a h;have g:=h c BM;have:=b (a*10+(c -48)) λx d=>h x (B1 _ d);rw[Tq,A0,Nat.pow_succ];refine FM this ?_;have e:(a+1)*(10^f.length*10)=((a+1)*10)*10^f.length:=by rw[Zi (10^f.length),Nat.mul_assoc]
   rw[e];refine Nat.mul_le_mul_right _ ?_;have:=g.2;omega
 intro h;have:=this f 0 h;rw[RC,ck]at this;exact this
theorem Ag:uA 4 m9:=by
 intro s t r h;unfold m9 at h;split at h
 .split at h
  .rename_i h2
   cases h;have b:∀c∈rn dN s,iM c:=λc a=>iD.mp (ju _ _ c a);have v:=Fy _ b;have p:=len_pos h2.1;refine⟨FM v (Nat.pow_le_pow_right (by decide) h2.2.1),rn dN s,(cy _ _).symm,?_,by show 1<=_;omega⟩;show(dg _).length<=_;exact pS p v
  .cases h
 .rename_i h1
  split at h
  .rename_i h2
   cases h;refine⟨⟨h1,h2,λc a=>Ac.mp (ju _ _ c a)⟩,rn oG s,(cy _ _).symm,Bn _,by show 1<=_;omega⟩
  .cases h
theorem uB{b:Pr}(d:uA 0 b):uA 4 (b8 b):=by
 intro s t r h;cases s with
 |nil=>exact Ag _ t r h
 |cons c s=>
  dsimp only[b8]at h;split at h
  .rename_i ec
   subst ec;cases e:b s with
   |none=>rw[e]at h;cases h
   |some x=>
    obtain⟨i,q⟩:=x;rw[e]at h;cases q with
    |nil=>cases h
    |cons y q=>
     dsimp only[eL]at h;split at h
     .rename_i ey
      subst ey;cases h;obtain⟨a,u,g,f,j⟩:=d s t _ e;refine⟨a,40::(u++[41]),by rw[g];simp,?_,?_⟩
      .have:=mP (bi t) 4 (txt t);have:br (bi t) 0 (txt t)=txt t:=Bi (by omega);rw[this]at f;rw[A0,AN,G2];omega
      .rw[b9,bN];omega
     .cases h
  .exact Ag _ t r h
theorem QJ{a:Pr}(m:uA 4 a):uA 2 (λs=>ko (a s)):=by
 intro s t r h;dsimp only at h;cases e:a s with
 |none=>rw[e]at h;cases h
 |some x=>
  obtain⟨b,q⟩:=x;rw[e]at h;have g:=m s b q e;have up:Gd 2 s b q:=by obtain⟨d,u,f,j,i⟩:=g;exact⟨d,u,f,FV (Af (by omega) _) j,i⟩
  cases q with
  |nil=>cases h;exact up
  |cons c q=>
   dsimp only[ko]at h;split at h
   .rename_i ec
    subst ec;split at h
    .rename_i h2
     cases h;obtain⟨d,u,f,j,i⟩:=g;have k:∀c∈rn dN q,iM c:=λc l=>iD.mp (ju _ _ c l);refine⟨⟨h2.2,d⟩,u++94::rn dN q,by rw[f,Fu,SN,cy],?_,?_⟩
     .show(br (bi b) 4 (txt b)++94::dg (val (rn dN q))).length<=_;have p:=len_pos h2.1.1;have:=pS p (Fy _ k);rw[AN,AN,A0,A0];omega
     .rw[bN,b9];show dp b+1<=_;have:gM 94=true:=rfl;rw[Do this];omega
    .cases h
   .cases h;exact up
theorem FA{t:Tr}:∀k,(br (bi (Ad k t)) 2 (txt (Ad k t))).length<=k+(br (bi t) 2 (txt t)).length
 |0=>by rw[RC];exact Bn _
 |k+1=>by have:=FA (t:=t) k;show(45::br (bi (Ad k t)) 2 (txt (Ad k t))).length<=_;rw[A0];omega
theorem FD{t:Tr}(h:lS t):∀k,lS (Ad k t)
 |0=>h
 |k+1=>FD h k
theorem FF{t:Tr}:∀k,dp (Ad k t)=dp t+k
 |0=>rfl
 |k+1=>by show dp (Ad k t)+1=_;rw[FF k];omega
theorem BR{s:List Nat}(h:∀c∈s,c∈[45]):ops s=s.length:=by
 induction s with
 |nil=>rfl
 |cons c s a=>have:=FR.mp (h c BM);rw[b9,a λx b=>h x (B1 _ b),this];rfl
theorem yC{a:Pr}(d:uA 4 a):uA 2 (kq a):=by
 intro s t r h;unfold kq at h;split at h
 .cases e:ko (a (rs [45] s))with
  |none=>rw[e]at h;cases h
  |some x=>
   obtain⟨b,q⟩:=x;rw[e]at h;cases h;obtain⟨c,u,f,i,g⟩:=QJ d _ _ _ e;refine⟨FD c _,rn [45] s++u,by rw[Fu,<-f,cy],?_,?_⟩
   .have:=FA (t:=b) (rn [45] s).length;rw[AN];omega
   .rw[FF,bN,BR (ju [45] s)];omega
 .cases h
theorem lE{o1 o2:Nat}{s:List Nat}{o:Nat}{r:List Nat}(h:Cz o1 o2 s=some (o,r)):s=32::o::32::r/\(o=o1\/o=o2):=by
 unfold Cz at h;split at h
 .split at h
  .rename_i h1
   cases h;exact⟨by rw[h1.1.1,h1.1.2],h1.2⟩
  .cases h
 .cases h
theorem FG{o1 o2:Nat}{s:List Nat}(h:Cz o1 o2 s=none):∀o r,o=o1\/o=o2->s≠32::o::32::r:=λo r a e=>by rw[e]at h;dsimp only[Cz]at h;rw[Do ⟨⟨rfl,rfl⟩,a⟩]at h;cases h
noncomputable def Lv(l o1 o2:Nat):Prop:=∀o a b,(o=o1\/o=o2)->bi (.op o a b)=l/\(o=43\/o=45\/o=42\/o=47)/\gM o=true
theorem lv0:Lv 0 43 45:=λo a b h=>⟨Do h,by omega,by rcases h with rfl|rfl<;>rfl⟩
theorem Xw:Lv 1 42 47:=λo a b h=>⟨Bi (by omega),by omega,by rcases h with rfl|rfl<;>rfl⟩
theorem UK{l o1 o2:Nat}(e:Lv l o1 o2){s:List Nat}{t u:Tr}{o:Nat}{b q:List Nat}(d:o=o1\/o=o2)(g:Gd l s t (32::o::32::b))(f:Gd (l+1) b u q):Gd l s (.op o t u) q:=by
 obtain⟨c,x,i,v,r⟩:=g;obtain⟨a,y,h,p,n⟩:=f;obtain⟨m,k,j⟩:=e o t u d;refine⟨⟨k,c,a⟩,x++32::o::32::y,by rw[i,h];simp,?_,?_⟩
 .have:br (bi (.op o t u)) l (txt (.op o t u))=txt (.op o t u):=Bi (by omega);rw[this];show(br (bi t) (bi (.op o t u)) (txt t)++(32::o::32::br (bi u) (bi (.op o t u)+1) (txt u))).length<=_;rw[m];simp only[AN,A0];omega
 .rw[bN,b9,b9,b9,Do j];show max (dp t) (dp u)+1<=_;omega
theorem Ah{l o1 o2:Nat}(d:Lv l o1 o2){p:Pr}(c:uA (l+1) p){s:List Nat}:∀(n:Nat)(t:Tr)(r:List Nat)(t':Tr)(a:List Nat),Gd l s t r->gK p o1 o2 n t r=some (t',a)->Gd l s t' a
 |0,t,r,t',a,g,h=>by cases h;exact g
 |n+1,t,r,t',a,g,h=>by
  dsimp only[gK]at h;cases e:Cz o1 o2 r with
  |none=>rw[e]at h;cases h;exact g
  |some x=>
   obtain⟨o,q⟩:=x;rw[e]at h;obtain⟨rfl,f⟩:=lE e;dsimp only at h;cases b:p q with
   |none=>rw[b]at h;cases h
   |some y=>obtain⟨u,i⟩:=y;rw[b]at h;exact Ah d c n _ _ t' a (UK d f g (c _ _ _ b)) h
theorem lF{l o1 o2:Nat}(c:Lv l o1 o2){p:Pr}(a:uA (l+1) p):uA l (dj p o1 o2):=by
 intro s t r h;unfold dj at h;cases e:p s with
 |none=>rw[e]at h;cases h
 |some x=>obtain⟨i,q⟩:=x;rw[e]at h;obtain⟨b,u,g,f,d⟩:=a _ _ _ e;exact Ah c a _ _ _ t r ⟨b,u,g,FV (Af (by omega) _) f,d⟩ h
theorem Ai{b:Pr}(a:uA 0 b):uA 0 (Ae b):=lF lv0 (lF Xw (yC (uB a)))
theorem Mb:uA 0 (λ_=>none):=λs t r h=>nn h
theorem kr:∀d,uA 0 (gw d)
 |0=>Ai Mb
 |d+1=>Ai (kr d)
theorem Mc:∀d,uA 0 (ng d)
 |0=>Mb
 |d+1=>kr d
theorem Aj{p:Pr}{o1 o2:Nat}{r:List Nat}(h:Cz o1 o2 r=none)(n:Nat)(t:Tr):gK p o1 o2 n t r=some (t,r):=by
 cases n with
 |zero=>rfl
 |succ n=>dsimp only[gK];rw[h]
theorem wG{p:Pr}{o1 o2:Nat}{o:Nat}{r q:List Nat}(h:Cz o1 o2 r=some (o,q)){n:Nat}(a:r.length<=n)(t:Tr):∃m,n=m+1/\q.length<=m/\gK p o1 o2 n t r=match p q with
 |some (u,b)=>gK p o1 o2 m (.op o t u) b
 |none=>none:=by
 obtain⟨rfl,_⟩:=lE h;cases n with
 |zero=>simp at a
 |succ n=>exact⟨n,rfl,by simp at a;omega,by dsimp only[gK];rw[h]⟩
theorem JU{s:List Nat}{t:Tr}(h:lD s=some t):s.length<=1000/\lS t/\(txt t).length<=s.length/\dp t<=ops s+1:=by
 unfold lD at h;split at h
 .rename_i hl
  split at h
  .rename_i e
   cases h;obtain⟨b,u,a,d,c⟩:=kr 30 _ _ _ e;rw[NA]at a;subst a;exact⟨hl,b,FV (iO _ _ _) d,c⟩
  .cases h
 .cases h
end pR
namespace VL
open PySem PySem.Spec
open PyProof.Rows hiding St
open L2 pR
noncomputable def An(E:Addr)(r:Rs)(Q:Tr->List Nat->Prop)(R:Addr->Prop):Prop:=match r with
 |some (t,q)=>Q t q
 |none=>R E
noncomputable def QK(E:Addr):aV:=λa Q R=>∃(f:List Nat)(m:Nat),a=[.str (tx f),.int m]/\(∀c∈f,iM c)/\f.length<=1000/\m<=30/\(Cy m f->Q (.int (val f)))/\(¬Cy m f->R E)
noncomputable def yD:List CS:=[.iff (.or [(.cmp .Eq (.var 0) (.str "")),(.cmp .Gt (.blt .len [(.var 0)]) (.var 1))]) [.raise 0 (.str "no whole number, or a too long one")] [],.iff (.and [(.cmp .Eq (.ix (.var 0) (.int 0)) (.str "0")),(.cmp .NotEq (.var 0) (.str "0"))]) [.raise 0 (.str "a 0 stands ahead of a figure")] [],.ret (.blt .int [(.var 0)])]
theorem yE{f:List Nat}(a:∀c∈f,iM c)(b:f≠[])(d:f.length<=30):intText? (tx f)=some ((val f:Nat):Int)/\(tx f).length<=640:=by
 have hd:NumText.AllDigits (tx f).cps.toList:=by rw[iZ];exact a
 have:=PySem.intText_digits hd (by rw[iZ];exact b) (by rw[oU];omega);rw[iZ]at this;exact⟨this,by rw[oU];omega⟩
theorem QL{E:Addr}{u:Nat->aV}{m:Md}(o:List W)(Q:W->Prop)(R:Addr->Prop)(h:QK E o Q R):wSs u (bR [.cls E]) yD (aX m Q R) (au 2 o):=by
 obtain⟨f,k,rfl,v,l,w,s,i⟩:=h;show wSs _ _ yD _ [some _,some _];unfold yD;fin2;rw[wB,gJ];by_cases g:f=[]
 .rw[Bz g];exact i λz=>z.1 g
 rw[DL g];fin2;refine⟨ai l,?_⟩;by_cases t:f.length<=k
 .rw[DL (by omega)];fin2;obtain⟨i1,q⟩:=yE v g (by omega);cases e:f with
  |nil=>exact absurd e g
  |cons c r=>
   rw[e]at s i i1 q;refine⟨ai (by rw[e]at l;exact l),c,b4 (n:=0) rfl,?_⟩;rw[Xu,gJ,gJ];have d:Cy k (c::r)->∃b,intText? (tx (c::r))=some b/\(tx (c::r)).length<=640/\Q (.int b):=λz=>⟨_,i1,q,s z⟩;have p:(c::r).length<=k:=by rw[<-e];exact t
   by_cases j:c=48
   .subst j;rw[Bz rfl];fin2;by_cases a:r=[]
    .subst a;rw[Bz rfl];exact d ⟨QP _ _,p,λ_=>rfl⟩
    .rw[DL (λz=>a (by cases z;rfl))];exact i λz=>a (by have:=z.2.2 rfl;cases this;rfl)
   .rw[DL (λz=>j (by cases z;rfl))];fin2;exact d ⟨QP _ _,p,λz=>absurd (Ha z) j⟩
 .rw[Bz (by omega)];exact i λz=>t z.2.1
noncomputable def tw(p:Pr)(d:Nat)(C E:Addr):aV:=λe Q R=>∃(a s:List Nat)(b:Nat)(c:List W),e=[Ob C (a++s) a.length b (.lst c)]/\b+d=30/\(a++s).length<=1000/\c.length<=a.length/\An E (p s) (λt q=>Q (.tup [.aG,Ob C (a++s) ((a++s).length -q.length) b (.lst (c++stp t))])) R
theorem len_app{α:Type}(a b:List α):(a++b).length -b.length=a.length:=by rw[AN];omega
theorem tD{C E:Addr}{l d o1 o2:Nat}{M s2:Str}{m:Md}{p:Pr}(hp:uA l p)(e1:M=tx [32,o1,32])(e2:s2=tx [32,o2,32])
 (Z:List W)(Q:W->Prop)(R:Addr->Prop)(h:tw (dj p o1 o2) d C E Z Q R):wSs (bH [tw p d C E,bV C,dQ C]) (bR [.cls C]) (iC M s2) (aX (.io m) Q R) (au 2 Z):=by
 obtain⟨j,s,b,c,rfl,hb,K,hs,g⟩:=h;show wSs _ _ (iC M s2) _ [some _,none];generalize I:dj p o1 o2 s=A at g;generalize H:j++s=a at K g⊢;unfold iC;fin2;refine⟨rfl,j,s,b,c,by rw[H],hb,by rw[H];exact K,hs,?_⟩;rw[H];unfold dj at I;cases U:p s with
 |none=>rw[U]at I;subst I;exact g
 |some x=>
  obtain⟨t,r⟩:=x;rw[U]at I;obtain⟨u0,eu,z1,z2⟩:=(hp _ _ _ U).sz;refine⟨_,_,rfl,?_⟩;refine⟨λm B=>∃(e r:List Nat)(t:Tr)(k:Option W)(n:Nat),e++r=a/\B=[some (Ob C a e.length b (.lst (c++stp t))),k]/\r.length<=n/\gK p o1 o2 n t r=A/\c.length+sz t<=e.length/\m=r.length,⟨r.length,j++u0,r,t,none,r.length,by rw[<-H,eu,Fu],?_,Bn _,I,by rw[AN];omega,rfl⟩,?_⟩
  .rw[<-H,eu,<-Fu,len_app]
  rintro D B ⟨e,N,f,k,n,w,rfl,g2,S,g4,rfl⟩;have P:e.length<=a.length:=by rw[<-w,AN];omega
  have X:a.drop e.length=N:=by rw[<-w,UV]
  have sl:=fY f;fin2;refine⟨rfl,a,[32,o1,32],e.length,b,_,by rw[e1],P,_,_,rfl,?_⟩;rw[X];cases L:Cz o1 o2 N with
  |none=>
   have no:=FG L;rw[UI λr=>no o1 r (.inl rfl)];fin2;refine⟨rfl,a,[32,o2,32],e.length,b,_,by rw[e2],P,_,_,rfl,?_⟩;rw[X,UI λr=>no o2 r (.inr rfl)];fin2;rw[Aj L]at S;subst S;have e3:a.length -N.length=e.length:=by rw[<-w,len_app]
   unfold An at g;dsimp only at g;rw[e3]at g;exact g
  |some y=>
   obtain⟨o,q⟩:=y;obtain⟨rfl,ho⟩:=lE L;obtain⟨n',rfl,hn',J⟩:=wG (p:=p) L g2 f;rw[S]at J;have F:(e++[32,o,32])++q=a:=by rw[<-w];simp
   have i:wSs (bH [tw p d C E,bV C,dQ C]) (bR [.cls C]) [.mz 1 (.gD 0 0 2 []),.xq (.gD 0 0 0 []),.GK 0 iB (.tup [.var 1,.int 0])] {nx:=λB=>∃D,D<(32::o::32::q).length/\∃(e r:List Nat)(t:Tr)(k:Option W)(n:Nat),e++r=a/\B=[some (Ob C a e.length b (.lst (c++stp t))),k]/\r.length<=n/\gK p o1 o2 n t r=A/\c.length+sz t<=e.length/\D=r.length,rt:=(aX (.io m) Q R).rt,bk:=(aX (.io m) Q R).nx,ct:=λB=>∃D,D<(32::o::32::q).length/\∃(e r:List Nat)(t:Tr)(k:Option W)(n:Nat),e++r=a/\B=[some (Ob C a e.length b (.lst (c++stp t))),k]/\r.length<=n/\gK p o1 o2 n t r=A/\c.length+sz t<=e.length/\D=r.length,ex:=R} [some (Ob C a e.length b (.lst (c++stp f))),k]:=by
    fin2;refine⟨rfl,e,q,32,o,32,b,_,by rw[w],by rw[w];exact K,_,_,rfl,?_⟩;rw[w];fin2;refine⟨rfl,e++[32,o,32],q,b,c++stp f,by rw[F];simp,hb,by rw[F];exact K,by simp[sl];omega,?_⟩;rw[F];cases T:p q with
    |none=>rw[T]at J;subst J;exact g
    |some y=>
     obtain⟨u,O⟩:=y;rw[T]at J;obtain⟨v,ev,y1,y2⟩:=(hp _ _ _ T).sz;have l5:=Hb Dr F;have l6:=Hb Dr ev;rw[AN,AN]at l5;rw[AN]at l6;simp only[A0,CC]at l5;refine⟨_,_,rfl,?_⟩;fin2;have su:=fY u;refine⟨ai (by show 2<=1000;decide),?_,O.length,by simp only[A0];omega,e++[32,o,32]++v,O,.op o f u,some (.str (tx [o])),n',by rw[Fu,<-ev,F],?_,by omega,J.symm,?_,rfl⟩
     .refine FM (m:=1001) ?_ (by decide);rw[AN,AN];omega
     .have e6:a.length -O.length=(e++[32,o,32]++v).length:=by rw[<-F,ev,<-Fu,len_app]
      rw[e6];show[some (Ob C a _ b (.lst ((c++stp f++stp u)++[GR o]))),_]=[some (Ob C a _ b (.lst (c++(stp f++(stp u++[GR o]))))),_];simp only[Fu]
     .show c.length+(sz f+sz u+1)<=_;simp only[AN,A0,CC];omega
   by_cases Y:o=o1
   .have:El [32,o1,32] (32::o::32::q)=true:=by rw[Y];simp[El]
    rw[this];fin2;exact⟨_,λ_ z=>z,i⟩
   .have e5:o=o2:=ho.resolve_left Y;have:El [32,o1,32] (32::o::32::q)=false:=by simp[El,OF Y]
    rw[this];fin2;refine⟨rfl,a,[32,o2,32],e.length,b,_,by rw[e2],P,_,_,rfl,?_⟩;have:El [32,o2,32] (32::o::32::q)=true:=by rw[e5];simp[El]
    rw[X,this];fin2;exact⟨_,λ_ z=>z,i⟩
theorem tF:("0123456789":Str)=tx dN:=by decide+kernel
theorem tL:("abcdefghijklmnopqrstuvwxyz":Str)=tx oG:=by decide+kernel
theorem uC{C:Addr}{a s sg:List Nat}{b:Nat}{w:W}{Q:W->Prop}{R:Addr->Prop}(d:(a++s).length<=1000)(c:Q (.tup [.str (tx (rn sg s)),Ob C (a++s) (a.length+(rn sg s).length) b w])):bw C [Ob C (a++s) a.length b w,.str (tx sg)] Q R:=
 ⟨a,rn sg s,rs sg s,sg,b,w,by rw[cy],ju sg s,Fx sg s,by rw[cy];exact d,by rw[cy];exact c⟩
theorem rP{α:Type}{w a b:List α}(h:w=a++b):w.length=a.length+b.length:=by rw[h,AN]
noncomputable def oH:List CS:=[.xo 0 2 (.bin .Add BO (.int 1)),.iff (.cmp .Gt BO (.glob 0)) [.raise 1 (.str "too many brackets at once")] [],.xo 0 1 (.bin .Add di (.int 1)),.xq (.gD 0 2 0 []),.Ru (.gD 0 2 1 [.str ")"]) [.raise 1 (.str "a bracket isn't closed")] [],.xo 0 1 (.bin .Add di (.int 1)),.xo 0 2 (.bin .Sub BO (.int 1))]
noncomputable def VI(d:Nat)(C E:Addr):aV:=λe Q R=>∃(a s:List Nat)(b:Nat)(c:List W),e=[Ob C (a++40::s) a.length b (.lst c)]/\b+d=30/\(a++40::s).length<=1000/\c.length<=a.length/\An E (eL (ng d s)) (λt q=>Q (.tup [.aG,Ob C (a++40::s) ((a++40::s).length -q.length) b (.lst (c++stp t))])) R
noncomputable def QM:Nat->Addr->Addr->aV
 |0,_,_=>RB
 |d+1,C,E=>tw (gw d) d C E
theorem JV{C E:Addr}{d:Nat}{m:Md}(o:List W)(Q:W->Prop)(R:Addr->Prop)(h:VI d C E o Q R):wSs (bH [QM d C E,bV C]) (bR [.int 30,.cls E,.cls C]) oH (aX (.io m) Q R) (au 1 o):=by
 obtain⟨f,s,b,i,rfl,J,p,I,g⟩:=h;have j:(f++[40])++s=f++40::s:=by simp
 generalize H:f++40::s=a at p g j⊢;show wSs _ _ oH _ [some _];unfold oH;fin2;refine⟨by simp,?_⟩;cases d with
 |zero=>rw[Bz (by omega)];exact g
 |succ d=>
  rw[DL (by omega)];fin2;refine⟨by simp,rfl,f++[40],s,b+1,i,by rw[j,AN];rfl,by omega,by rw[j];exact p,by simp;omega,?_⟩;rw[j];have g:An E (eL (gw d s)) (λt q=>Q (.tup [.aG,Ob C a (a.length -q.length) b (.lst (i++stp t))])) R:=g;cases l:gw d s with
  |none=>rw[l]at g;exact g
  |some x=>
   obtain⟨t,q⟩:=x;rw[l]at g;obtain⟨u,w,F,D⟩:=(kr d _ _ _ l).sz;have k:a=(f++[40]++u)++q:=by rw[<-j,w,<-Fu]
   have A:a.length -q.length=(f++[40]++u).length:=by rw[k,len_app]
   have B:a.drop (f++[40]++u).length=q:=by rw[k,UV]
   refine⟨_,_,rfl,?_⟩;rw[A];fin2;refine⟨rfl,a,[41],(f++[40]++u).length,b+1,_,by rw[show(")":Str)=tx [41] by decide+kernel],by rw[rP k];omega,_,_,rfl,?_⟩;rw[B];cases q with
   |nil=>rw[JT λr e=>by cases e];fin2;rw[Do (show(!false)=true by decide)];exact g
   |cons c q=>
    by_cases n:c=41
    .subst n;have v:El [41] (41::q)=true:=by simp[El]
     rw[v];fin2;rw[Bi (show¬(!true)=true by decide)];refine⟨by simp,by simp,?_⟩;have z:(f++[40]++u).length+1=a.length -q.length:=by rw[rP k,A0];omega
     have y:((b+1:Nat):Int) -1=(b:Nat):=by omega
     have g:Q (.tup [.aG,Ob C a (a.length -q.length) b (.lst (i++stp t))]):=g;rw[<-z]at g;rw[y];exact g
    .rw[JT λr e=>n (by cases e;rfl)];fin2;rw[Do (show(!false)=true by decide)];have:eL (some (t,c::q))=none:=Bi n;rw[this]at g;exact g
noncomputable def oJ:List CS:=[.mz 1 (.call 0 [.gD 0 4 1 [.glob 0],.glob 1]),.iff (.cmp .Gt (.var 1) (.glob 2)) [.raise 3 (.str "an exponent is too great")] [],.GK 0 iB (.tup [.str "power",.var 1])]
noncomputable def UL(C E:Addr):aV:=λd Q R=>∃(a s:List Nat)(b:Nat)(c:List W),d=[Ob C (a++s) a.length b (.lst c)]/\(a++s).length<=1000/\c.length<=a.length/\(Cy 2 (rn dN s)/\val (rn dN s)<=12->Q (.tup [.aG,Ob C (a++s) (a.length+(rn dN s).length) b (.lst (c++[yx (val (rn dN s))]))]))/\(¬(Cy 2 (rn dN s)/\val (rn dN s)<=12)->R E)
theorem JW{C E:Addr}{m:Md}(d:List W)(Q:W->Prop)(R:Addr->Prop)(h:UL C E d Q R):wSs (bH [QK E,bw C]) (bR [.str "0123456789",.int 2,.int 12,.cls E,.cls C]) oJ (aX (.io m) Q R) (au 2 d):=by
 obtain⟨a,s,b,i,rfl,g,q,n,f⟩:=h;have p:a.length<=1000:=by rw[AN]at g;omega
 have l:=Hb Dr (cy dN s);rw[AN]at l g;show wSs _ _ oJ _ [some _,none];unfold oJ;fin2;refine⟨rfl,?_⟩;rw[tF];refine uC (by rw[AN];omega) ⟨_,_,rfl,?_⟩;fin2;refine⟨rn dN s,2,rfl,λc o=>iD.mp (ju _ _ c o),by omega,by decide,λj=>?_,λk=>f λz=>k z.1⟩;fin2;by_cases e:val (rn dN s)<=12
 .rw[DL (by omega)];fin2;exact⟨ai (by show 2<=1000;decide),FM (m:=1001) (by omega) (by decide),n ⟨j,e⟩⟩
 .rw[Bz (by omega)];exact f λz=>e z.2
theorem Ak{t:Tr}:∀k,stp (Ad k t)=stp t++C8 k nE
 |0=>by rw[List.replicate_zero,NA];rfl
 |k+1=>by show stp (Ad k t)++[nE]=_;rw[Ak k,Fu,List.replicate_succ']
noncomputable def oK:List CS:=[.mz 1 (.blt .len [.gD 0 2 0 [.str "-"]]),.iff (.cmp .Gt (.var 1) (.glob 0)) [.raise 1 (.str "too many minuses ahead of an atom")] [],.xq (.gD 0 2 1 []),.Lx (.gD 0 2 2 [.str "^"]) [.xo 0 1 (.bin .Add di (.int 1)),.xq (.gD 0 2 3 [])] [],.HE 0 iB (.bin .Mult (.lst [.tup [.str "minus",.int 0]]) (.var 1))]
theorem JX{C E:Addr}{d:Nat}{m:Md}{a:Pr}(ha:uA 4 a)(L:List W)(Q:W->Prop)(R:Addr->Prop)(h:tw (kq a) d C E L Q R):wSs (bH [bw C,tw a d C E,bV C,UL C E]) (bR [.int 30,.cls E,.cls C]) oK (aX (.io m) Q R) (au 2 L):=by
 obtain⟨g,s,b,j,rfl,hb,l,hs,i⟩:=h;have N:=Hb Dr (cy [45] s);rw[AN]at N;generalize I:(rn [45] s).length=k at N;have v:(g++rn [45] s)++rs [45] s=g++s:=by rw[Fu,cy]
 generalize z:g++s=f at l i v⊢;have hl':g.length+s.length<=1000:=by rw[<-z,AN]at l;exact l
 show wSs _ _ oK _ [some _,none];unfold oK;fin2;refine⟨rfl,?_⟩;rw[show("-":Str)=tx [45] by decide+kernel,<-z];refine uC (by rw[z];exact l) ⟨_,_,rfl,?_⟩;rw[z];fin2;rw[I];refine⟨ai (by omega),?_⟩;unfold kq at i;rw[I]at i;by_cases T:k<=30
 .rw[Do T]at i;rw[DL (by omega)];fin2;refine⟨rfl,g++rn [45] s,rs [45] s,b,j,by rw[v,AN,I],hb,by rw[v];exact l,by rw[AN];omega,?_⟩;rw[v];cases J:a (rs [45] s)with
  |none=>rw[J]at i;exact i
  |some x=>
   obtain⟨t,q⟩:=x;rw[J]at i;obtain⟨u,eu,z1,z2⟩:=(ha _ _ _ J).sz;have p:f=(g++rn [45] s++u)++q:=by rw[<-v,eu,<-Fu]
   have O:f.length -q.length=(g++rn [45] s++u).length:=by rw[p,len_app]
   have dr:f.drop (g++rn [45] s++u).length=q:=by rw[p,UV]
   have F:(g++rn [45] s++u).length=g.length+k+u.length:=by simp only[AN];omega
   have M:=rP p;rw[F]at M;have su:=fY t;refine⟨_,_,rfl,?_⟩;rw[O];fin2;refine⟨rfl,f,[94],(g++rn [45] s++u).length,b,_,by rw[show("^":Str)=tx [94] by decide+kernel],by rw[rP p];omega,_,_,rfl,?_⟩;rw[dr];have P: -(2^63)<=((k:Nat):Int)/\((k:Nat):Int)<2^63:=by omega
   have Xy:(C8 ((k:Nat):Int).toNat [W.tup [.str "minus",.int 0]]).flatten=C8 k nE:=by
    rw[I0];have:∀n,(C8 n [W.tup [.str "minus",.int 0]]).flatten=C8 n nE:=λn=>by
     induction n with
     |zero=>rfl
     |succ n ih=>rw[G1,HN,ih];rfl
    exact this k
   have S:∀n,n<=3000->n<=sizeLine:=λn h=>FV h (by decide);have o:∀(w:Tr)(y:List Nat)(x:List W)(A:Nat),stp w=stp t++x->x.length<=1->ko (some (t,q))=some (w,y)->A=f.length -y.length->
    wSs (bH [bw C,tw a d C E,bV C,UL C E]) (bR [.int 30,.cls E,.cls C]) [.HE 0 iB (.bin .Mult (.lst [.tup [.str "minus",.int 0]]) (.var 1))] (aX (.io m) Q R) [some (Ob C f A b (.lst (j++stp t++x))),some (.int (k:Nat))]:=λw y x A h1 h2 h3 h4=>by
    rw[h3]at i;have i:Q (.tup [.aG,Ob C f (f.length -y.length) b (.lst (j++stp (Ad k w)))]):=i;rw[Ak,h1,<-h4]at i;fin2;rw[Xy];refine⟨ai (by show 2<=1000;decide),ai (by show 1<=1000;decide),P.1,P.2,S _ (by show 1*k<=3000;omega),S _ ?_,?_⟩
    .simp only[AN,Vq];omega
    .have e9:j++stp t++x++C8 k nE=j++(stp t++x++C8 k nE):=by simp only[Fu]
     rw[e9];exact i
   have B:(∀r,q≠94::r)->ko (some (t,q))=some (t,q):=λh=>by
    cases q with
    |nil=>rfl
    |cons c q=>exact Bi λe=>h q (by rw[e])
   by_cases H:∃r,q=94::r
   .obtain⟨r,rfl⟩:=H;have U:El [94] (94::r)=true:=by simp[El]
    rw[U];fin2;have K:(g++rn [45] s++u++[94])++r=f:=by rw[p];simp
    have D:(g++rn [45] s++u++[94]).length=(g++rn [45] s++u).length+1:=by rw[AN];rfl
    have Z:=Hb Dr (cy dN r);rw[AN]at Z;rw[A0]at M;refine⟨by simp,rfl,g++rn [45] s++u++[94],r,b,j++stp t,by rw[K,D];rfl,by rw[K];exact l,by rw[AN,D,F];omega,λX=>⟨_,_,rfl,?_⟩,λY=>?_⟩
    .rw[K];exact o (.pw t (val (rn dN r))) (rs dN r) [yx (val (rn dN r))] _ rfl (Bn _) (by dsimp only[ko];rw[Do rfl,Do X]) (by rw[D,F];omega)
    .have:ko (some (t,94::r))=none:=by dsimp only[ko];rw[Do rfl,Bi Y]
     rw[this]at i;exact i
   .rw[JT λr e=>H ⟨r,e⟩];fin2;have:=o t q [] (g++rn [45] s++u).length (by rw[NA]) (NM _) (B λr e=>H ⟨r,e⟩) O.symm;rw[NA]at this;exact this
 .rw[Bi T]at i;rw[Bz (by omega)];exact i
end VL
namespace VL
open PySem PySem.Spec
open PyProof.Rows hiding St
open L2
section
variable{P:Program}{w:World}{K:Frag}{mg:Str->Option Value}{base:Heap}{tp:Nat->Stmt}{DD:DT}{ZZ:List Str}
noncomputable def Cn(P:Program)(w:World)(K:Frag)(mg:Str->Option Value)(base:Heap)(k:Nat)(x:Str)(m:Md)(S:aV):Prop:=∃c n b,mg x=some c/\bU P w K mg base b c n (pZ K n m S)/\b<=k/\∀a P R,S a P R->a.length=n
noncomputable def Mt(P:Program)(w:World)(K:Frag)(mg:Str->Option Value)(base:Heap)(C:Addr)(k:Nat)(x:Str)(m:Md)(S:aV):Prop:=∃f d b n c,Meth K C x f/\Binds K d b []/\bJ P w K mg base (iY P w) c f d b (pZ K n m S)/\c<=k/\∀a P R,S a P R->a.length=n
theorem Cn.up{k a:Nat}{x:Str}{m:Md}{S:aV}(h:Cn P w K mg base k x m S)(c:k<=a):Cn P w K mg base a x m S:=by obtain⟨i,n,b,g,f,e,d⟩:=h;exact⟨i,n,b,g,f,FV e c,d⟩
theorem Mt.up{C:Addr}{k a:Nat}{x:Str}{m:Md}{S:aV}(h:Mt P w K mg base C k x m S)(d:k<=a):Mt P w K mg base C a x m S:=by obtain⟨f,o,b,n,c,l,j,i,g,e⟩:=h;exact⟨f,o,b,n,c,l,j,i,FV g d,e⟩
noncomputable def VJ(P:Program)(w:World)(K:Frag)(mg:Str->Option Value)(base:Heap)(C:Addr)(k:Nat):List (Str×Md×Bool)->List aV->Prop
 |(x,m,b)::es,S::Ss=>(if b=true then Mt P w K mg base C k x m S else Cn P w K mg base k x m S)/\VJ P w K mg base C k es Ss
 |[],_=>True
 |_::_,[]=>False
theorem yF{C:Addr}{k:Nat}:∀{es:List (Str×Md×Bool)}{Ss:List aV},VJ P w K mg base C k es Ss->∀(j:Nat)(x:Str)(m:Md)(b:Bool),es[j]?=some (x,m,b)->if b=true then Mt P w K mg base C k x m (bH Ss j)else Cn P w K mg base k x m (bH Ss j)
 |(y,m',b')::es,S::Ss,h,0,x,m,b,e=>by
  cases e;exact h.1
 |(y,m',b')::es,S::Ss,h,j+1,x,m,b,e=>yF (es:=es) h.2 j x m b e
 |_::_,[],h,_,_,_,_,_=>h.elim
 |[],_,_,_,_,_,_,e=>by cases e
noncomputable def GS(g:Nat):Nat->List (Str×Md×Bool)->List (Nat×Nat)
 |_,[]=>[]
 |j,(_,_,b)::es=>if b=true then(j,g)::GS g (j+1) es else GS g (j+1) es
theorem FH{g:Nat}:∀{es:List (Str×Md×Bool)}{s j h:Nat},(j,h)∈GS g s es->h=g/\s<=j/\∃x m,es[j -s]?=some (x,m,true)
 |[],s,j,h,z=>by cases z
 |(x,m,b)::es,s,j,h,z=>by
  have tl:(j,h)∈GS g (s+1) es->h=g/\s<=j/\∃a c,((x,m,b)::es)[j -s]?=some (a,c,true):=λz=>by obtain⟨f,i,a,c,d⟩:=FH z;refine⟨f,by omega,a,c,?_⟩;rw[show j -s=(j -(s+1))+1 by omega];exact d
  cases b with
  |true=>
   rcases FC.mp z with e|z
   .cases e;exact⟨rfl,Bn _,x,m,by rw[Vn];rfl⟩
   .exact tl z
  |false=>exact tl z
theorem FI{g:Nat}:∀{es:List (Str×Md×Bool)}{s j:Nat}{x:Str}{m:Md}{b:Bool},es[j]?=some (x,m,b)->(GS g s es).any (·.1==s+j)=false->b=false
 |(y,m',b')::es,s,0,x,m,b,e,h=>by
  have e:=Ha e;cases e;cases b' with
  |false=>rfl
  |true=>have h:((s==s+0)||(GS g (s+1) es).any (·.1==s+0))=false:=h;rw[Nat.add_zero,PH,Zc]at h;cases h
 |(y,m',b')::es,s,j+1,x,m,b,e,h=>by
  have a:(GS g (s+1) es).any (·.1==s+1+j)=false:=by
   rw[show s+1+j=s+(j+1) by omega];cases b' with
   |false=>exact h
   |true=>have h:((s==s+(j+1))||(GS g (s+1) es).any (·.1==s+(j+1)))=false:=h;rw[cx]at h;exact h.2
  exact FI (es:=es) (s:=s+1) (j:=j) e a
theorem wH:∀(Gs:List W)(C:W)(j:Nat),j<Gs.length->bR (Gs++[C]) j=bR Gs j
 |g::Gs,C,0,_=>rfl
 |g::Gs,C,j+1,h=>wH Gs C j (by simpa using h)
theorem wJ:∀(Gs:List W)(C:W),bR (Gs++[C]) Gs.length=C
 |[],C=>rfl
 |g::Gs,C=>wJ Gs C
theorem iP{C:Addr}{k:Nat}{es:List (Str×Md×Bool)}{Ss:List aV}{gn:List Str}{Gs:List W}(Z:∀x∈ZZ,mg x=none)(h:VJ P w K mg base C k es Ss)(g:QH K mg gn Gs)(p:gn.length=Gs.length):
 Tab P w K mg base (es.map (·.1)) gn ZZ (es.map (·.2.1)) (GS gn.length 0 es) (bH Ss) (bR (Gs++[.cls C])) k:=by
 have u:∀(j:Nat)(x:Str),(es.map (·.1))[j]?=some x->∃m b,es[j]?=some (x,m,b)/\gq (es.map (·.2.1)) j=m:=λj x e=>by
  rw[IH]at e;obtain⟨⟨y,m,b⟩,c,d⟩:=Kt.mp e;cases d;refine⟨m,b,c,?_⟩;have:∀(l:List (Str×Md×Bool))(j:Nat),l[j]?=some (y,m,b)->gq (l.map (·.2.1)) j=m:=λl=>by
   induction l with
   |nil=>intro j e;cases e
   |cons a l D=>
    intro j e;cases j with
    |zero=>cases e;rfl
    |succ j=>exact D j e
  exact this es j c
 have r:∀(j:Nat)(x:Str),gn[j]?=some x->bR (Gs++[.cls C]) j=bR Gs j:=λj x e=>wH _ _ _ (by rw[<-p];exact(GT.mp e).1);refine⟨λj x e i=>?_,λj O x e i=>?_,λj x e=>?_,Z,Fo K,λj x v e q=>?_⟩
 .obtain⟨m,b,c,d⟩:=u j x e;have o:b=false:=FI (g:=gn.length) (s:=0) c (by rw[RC];exact i);subst o;have:=yF h j x m false c;rw[Bi GE]at this;rw[d];exact this
 .obtain⟨E,_,y,N,t⟩:=FH i;obtain⟨m,b,c,d⟩:=u j x e;rw[Vh,c]at t;have o:b=true:=by cases t;rfl
  subst o;have:=yF h j x m true c;rw[Do rfl]at this;obtain⟨f,M,A,n,B,L,J,I,H,F⟩:=this;rw[d,E];refine⟨f,M,A,n,B,λv z=>?_,J,I,H,F⟩;rw[p,wJ]at z;cases z;exact L
 .rw[r j x e];exact(qw g j x e).1
 .rw[r j x e]at q;exact(qw g j x e).2 v q
theorem BS{x:Str}{f:Addr}(h:mg x=some (.ref f)):Gn K mg x (.fn f):=⟨⟨.ref f,.ref f,h,rfl,λ_ _=>rfl⟩,λ_ e=>by cases e⟩
theorem mR{x:Str}{D E:Addr}(h:mg x=some (.ref D))(n:kitOne K (.ref E) (.ref D)=some false):Gn K mg x (.dU D [] [E]):=
 ⟨⟨.ref D,.ref D,h,rfl,λ_ _=>⟨rfl,λz=>absurd rfl z,λ_ z=>(by cases z),λC z=>by rw[FR.mp z];exact n⟩⟩,λ_ e=>by cases e⟩
theorem yG{x:Str}{D E:Addr}(h:mg x=some (.ref D))(e:pK K D)(a:NB K E)(y:kitOne K (.ref E) (.ref D)=some true)(u:mroIn K E (.ref D)=some true):Gn K mg x (.dU D [E] []):=
 ⟨⟨.ref D,.ref D,h,rfl,λ_ _=>⟨rfl,λ_=>e,λC z=>by rw[FR.mp z];exact⟨a,y,u⟩,λ_ z=>(by cases z)⟩⟩,λ_ e=>by cases e⟩
noncomputable def qA(ZZ:List Str)(st:Stmt)(np n:Nat)(M:Ms)(fn gn:List Str)(a:List Md)(b:List (Nat×Nat))(m:Md)(c:List CS):Bool:=
 decide (((aq st).kind=.function/\(aq st).isCoroutine=false/\(aq st).isGenerator=false/\(L6 st).Nodup/\(L6 st).take (gZ st).length=gZ st)/\(∀x∈gZ st,(aq st).names.lookup x=some .local\/(aq st).names.lookup x=some .cell)/\(∀y∈(aq st).names,y.2≠.free)/\(gZ st).length=np/\(L6 st).length=n/\(M.map (·.1)).Nodup)&&((match m with
  |.io d=>M.all (λi=>i.1==0||decide (np<=i.1))&&hasB M 0 d&&decide (0<n)
  |_=>M.all (λi=>decide (np<=i.1)))&&cT ⟨L6 st,(aq st).names,M,fn,gn,ZZ,a,b⟩ (gq a) m c (aZ st))
theorem qB{np n:Nat}{C:Addr}{x q:Str}{st:Stmt}{ps:List Str}{f:Addr}{s:FuncData}{M:Ms}{fn gn:List Str}{o:List Md}{l:List (Nat×Nat)}{m:Md}{c:List CS}{i:Nat->aV}{G:Nat->W}{k:Nat}{S:aV}(D:Dm K C x q st ps f s)(e:ps=gZ st)(h:qA ZZ st np n M fn gn o l m c=true)(j:Tab P w K mg base fn gn ZZ o l i G k)(g:∀a P R,S a P R->a.length=np)(p:∀a Q R,S a Q R->wSs i G c (aX m Q R) (au n a)):
 Mt P w K mg base C (k+1) x m S:=by
 unfold qA at h;rw[AC,AC]at h;obtain⟨E,d,r⟩:=h;obtain⟨⟨A,a2,a3,z,y⟩,v,u,I,H,t⟩:=Ap E;subst e;subst I H;refine⟨f,s,_,(gZ st).length,k+1,D.M,D.b,?_,Bn _,g⟩;cases m with
 |io B=>rw[AC,AC]at d;exact JN D.F ⟨A,a2,a3,z,y,v,u⟩ j c M B S d.1.1 t d.1.2 (Ap d.2) r g p
 |_=>exact Fl D.F ⟨A,a2,a3,z,y,v,u⟩ j c M _ S d t rfl r g p
theorem tE{j i k:Nat}{x:Str}{m:Md}{S:aV}(h:Cl P w K mg base DD k j m S)(a:DD[j]?=some (x,i)):Cn P w K mg base k x m S:=by
 have e:rD DD j=x:=by unfold rD;rw[a]
 unfold Cl at h;rw[e]at h;exact h
theorem UO{C:Addr}{x q:Str}{st:Stmt}{ps:List Str}{f:Addr}{c:FuncData}{g:Md}{k:Nat}(D:Dm K C x q st ps f c):Mt P w K mg base C k x (.io g) RB:=
 ⟨f,c,ps,ps.length,k,D.M,D.b,⟨by rintro e H Q E ⟨_,_,_,_,_,_,_,_,_,_,_,_,_,_,_,z,_⟩;exact z.elim,by rintro A a s H d h e Q E i l j r ⟨_,_,_,_,_,_,_,_,_,_,_,_,_,_,_,z,_⟩;exact z.elim⟩,Bn _,λ_ _ _ z=>z.elim⟩
theorem UP{np n j i:Nat}{x:Str}{C:Addr}{es:List (Str×Md×Bool)}{Ss:List aV}{gn:List Str}{Gs:List W}{M:Ms}{m:Md}{c:List CS}{k:Nat}{S:aV}(T:TT K mg tp DD ZZ)(l:DD[j]?=some (x,i))(h:VJ P w K mg base C k es Ss)(g:QH K mg gn Gs)(o:gn.length=Gs.length)(e:xx ZZ (tp i) np n M (es.map (·.1)) gn (es.map (·.2.1)) (GS gn.length 0 es) m c=true)(b:∀a P R,S a P R->a.length=np)(p:∀a Q R,S a Q R->wSs (bH Ss) (bR (Gs++[.cls C])) c (aX m Q R) (au n a)):
 bJ P w K mg base (iY P w) (k+1) (T.f j) (T.d j) (gZ (tp i)) (pZ K np m S):=UG T l e (iP T.Z h g o) b p
end
end VL
namespace VL
open PySem PySem.Spec
open PyProof.Rows hiding St
open L2 pR
noncomputable def lG:List CS:=[.Lx (.gD 0 5 0 [.str "("]) [.xq (.gD 0 5 1 []),.HU .aG] [],.mz 1 (.gD 0 5 2 [.glob 0]),.iff (.cmp .Eq (.var 1) (.str "")) [.Rt 0 3 (.tup [.str "number",.call 3 [.gD 0 5 4 [.glob 1],.glob 2]])] [.iff (.cmp .LtE (.blt .len [.var 1]) (.glob 3)) [.GK 0 iB (.tup [.str "name",.var 1])] [.raise 4 (.str "a name is too long")]]]
theorem FJ{C E:Addr}{d:Nat}{m:Md}(o:List W)(Q:W->Prop)(R:Addr->Prop)(h:tw (b8 (ng d)) d C E o Q R):wSs (bH [bV C,VI d C E,bw C,QK E,bw C]) (bR [.str "abcdefghijklmnopqrstuvwxyz",.str "0123456789",.int 30,.int 8,.cls E,.cls C]) lG (aX (.io m) Q R) (au 2 o):=by
 obtain⟨a,s,b,g,rfl,I,i,F,f⟩:=h;have A:a.length<=(a++s).length:=by rw[AN];omega
 have K:(a++s).drop a.length=s:=UV;have M:a.length+s.length<=1000:=by rw[AN]at i;exact i
 show wSs _ _ lG _ [some _,none];unfold lG;fin2;refine⟨rfl,_,[40],a.length,b,_,by rw[show("(":Str)=tx [40] by decide+kernel],A,_,_,rfl,?_⟩;rw[K];have D:(∀r,s≠40::r)->b8 (ng d) s=m9 s:=λh=>by
  cases s with
  |nil=>rfl
  |cons c s=>exact Bi λe=>h s (by rw[e])
 by_cases u:∃r,s=40::r
 .obtain⟨r,rfl⟩:=u;have z:El [40] (40::r)=true:=by simp[El]
  rw[z];fin2;have J:b8 (ng d) (40::r)=eL (ng d r):=by dsimp only[b8];rw[Do rfl]
  rw[J]at f;refine⟨rfl,a,r,b,g,rfl,I,i,F,?_⟩;cases v:eL (ng d r)with
  |none=>rw[v]at f;exact f
  |some x=>obtain⟨t,q⟩:=x;rw[v]at f;exact⟨_,_,rfl,f⟩
 .have p:∀r,s≠40::r:=λr e=>u ⟨r,e⟩;rw[JT p];rw[D p]at f;fin2;refine⟨rfl,?_⟩;rw[tL];refine uC i ⟨_,_,rfl,?_⟩;fin2;unfold m9 at f;rw[wB,gJ];by_cases j:rn oG s=[]
  .rw[Bz j,j];rw[Do j]at f;fin2;have k:=Hb Dr (cy dN s);rw[AN]at k;refine⟨g,rfl,λL=>⟨rfl,?_⟩⟩;rw[tF];refine uC (b:=b) (w:=.cls L) i ⟨_,_,rfl,?_⟩;fin2;refine⟨rn dN s,30,rfl,λc H=>iD.mp (ju _ _ c H),by omega,by decide,λB=>?_,λn=>?_⟩
   .rw[Do B]at f;fin2;have f:Q (.tup [.aG,Ob C (a++s) ((a++s).length -(rs dN s).length) b (.lst (g++[QD (val (rn dN s))]))]):=f;have l:(a++s).length -(rs dN s).length=a.length+(rn dN s).length:=by rw[AN];omega
    rw[l]at f;exact⟨ai (by show 2<=1000;decide),_,rfl,rfl,FM (m:=1001) (by omega) (by decide),f⟩
   .rw[Bi n]at f;exact f
  .rw[DL j];rw[Bi j]at f;have k:=Hb Dr (cy oG s);rw[AN]at k;fin2;refine⟨ai (by omega),?_⟩;by_cases y:(rn oG s).length<=8
   .rw[Bz (by omega)];rw[Do y]at f;fin2;have f:Q (.tup [.aG,Ob C (a++s) ((a++s).length -(rs oG s).length) b (.lst (g++[Fq (rn oG s)]))]):=f;have l:(a++s).length -(rs oG s).length=a.length+(rn oG s).length:=by rw[AN];omega
    rw[l]at f;exact⟨ai (by show 2<=1000;decide),FM (m:=1001) (by omega) (by decide),f⟩
   .rw[DL (by omega)];rw[Bi y]at f;exact f
noncomputable def qE:List CS:=[.iff (.cmp .Gt (.blt .len [.var 0]) (.glob 0)) [.raise 1 (.str "a text is too long")] [],.set 1 (.call 0 [.var 0]),.xq (.gD 1 2 1 []),.iff (.cmp .Lt (.own 1 [.fl 1 "place"]) (.blt .len [.var 0])) [.raise 1 (.str "something stands behind the expression")] [],.NG [1] [.ret (.call 2 [.ND (.var 1) 3 "steps"])]]
noncomputable def VM(X E:Addr):aV:=λa Q R=>∃s:List Nat,a=[.str (tx s)]/\s.length<=5000/\(∀t,lD s=some t->Q (Ex X (stp t)))/\(lD s=none->R E)
theorem FL{C X E:Addr}{m:Md}(f:List W)(Q:W->Prop)(R:Addr->Prop)(h:VM X E f Q R):wSs (bH [oF C,tw (gw 30) 30 C E,Ab X]) (bR [.int 1000,.cls E,.cls C]) qE (aX m Q R) (au 2 f):=by
 obtain⟨s,rfl,i,b,a⟩:=h;have sm:(tx s).length<=sizeLine:=FV (show(tx s).length<=5000 from i) (by decide);show wSs _ _ qE _ [some _,none];unfold qE;fin2;refine⟨sm,?_⟩;unfold lD at b a;by_cases d:s.length<=1000
 .rw[Do d]at b a;rw[DL (by omega)];fin2;refine⟨s,rfl,?_⟩;fin2;refine⟨rfl,[],s,0,[],rfl,rfl,d,Bn _,?_⟩;cases e:gw 30 s with
  |none=>rw[e]at a;exact a rfl
  |some x=>
   obtain⟨t,q⟩:=x;rw[e]at a b;obtain⟨u,j,l,k⟩:=(kr 30 _ _ _ e).sz;have g:=Hb Dr j;rw[AN]at g;have n:=fY t;refine⟨_,_,rfl,?_⟩;fin2;refine⟨sm,?_⟩;cases q with
   |nil=>rw[DL (by show¬((s.length -0:Nat):Int)<_;omega)];fin2;exact⟨rfl,_,rfl,stp t,rfl,by omega,b t rfl⟩
   |cons c q=>rw[A0]at g;rw[Bz (by show((s.length -(c::q).length:Nat):Int)<_;rw[A0];omega)];exact a rfl
 .rw[Bi d]at a;rw[Bz (by omega)];exact a rfl
end VL
namespace VL
open PySem PySem.Spec
open PyProof.Rows hiding St
open L2 Num pR
theorem wK{d:Nat->aV}{G:Nat->W}{D:Dn}{c:Ev}{i:Nat}{e:CE}{b:List CS}{l:List W}(he:∀Q:W->Prop,Q (.lst l)->wE d G D.ex e c Q)(h:fh (λw f a=>wSs d G b f (a.set i (some w))) D l c):wS d G (.fr [i] true e b) D c:=he _ h
noncomputable def Me:List CS:=[.set 5 (.bin .Mod (.bin .Add (.bin .Add (.bin .Mult (.var 5) (.int 39373)) (.bin .Mult (.bin .Mult (.int 7561) (.var 7)) (.var 7))) (.int 1013904223)) (.int 2147483647)),.iff (.cmp .Gt (.var 4) (.int 0)) [.app 6 (.bin .Mod (.var 4) (.bin .Pow (.int 10) (.int 6))),.set 4 (.bin .FloorDiv (.var 4) (.bin .Pow (.int 10) (.int 6)))] [.app 6 (.bin .Mod (.bin .Mod (.bin .Mult (.var 5) (.int 65539)) (.int 998244353)) (.bin .Pow (.int 10) (.int 6)))]]
noncomputable def FN:List CS:=[.set 3 (.int 0),.iff (.cmp .Lt (.var 1) (.blt .len [(.var 0)])) [.set 3 (.ix (.var 0) (.var 1))] [],.set 4 (.int 0),.iff (.or [(.cmp .Lt (.var 3) (.int 0)),(.cmp .GtE (.var 3) (.bin .Pow (.int 10) (.int 18)))]) [.set 4 (.blt .abs [(.var 3)])] [],.set 5 (.bin .Mod (.var 3) (.int 2147483647)),.set 6 (.lst []),.fr [7] true (.rB [(.var 2)]) Me,.ret (.var 6)]
noncomputable def FO:aV:=λb Q _=>∃(c:List Int)(k n:Nat),b=[.cX c,.int k,.int n]/\n<=60/\∀a:List Int,a.length=n->(∀x∈a,0<=x/\x<1000000)->Q (wI a)
theorem UQ{I:Nat->aV}{G:Nat->W}{m:Md}(E:List W)(Q:W->Prop)(R:Addr->Prop)(h:FO E Q R):wSs I G FN (aX m Q R) (au 8 E):=by
 obtain⟨e,k,n,rfl,T,B⟩:=h;show wSs _ _ FN _ [some (.cX e),some (.int k),some (.int n),none,none,none,none,none];unfold FN;have F:((10:Int)^(6:Int).toNat).natAbs.log2<1000000000:=iA (n:=31) (by decide) (by decide);have v:((10:Int)^(6:Int).toNat)=1000000:=by decide
 refine aL (λa=>∃c:Int,a=[some (.cX e),some (.int k),some (.int n),some (.int c),none,none,none,none]) (λN d=>?_) ?_
 .fin2;exact d _ ⟨_,rfl⟩
 rintro _ ⟨c,rfl⟩;refine aL (λa=>∃c:Int,a=[some (.cX e),some (.int k),some (.int n),some (.int c),none,none,none,none]) (λN d=>?_) ?_
 .fin2;by_cases M:k<e.length
  .rw[Do (Bz (by lia))];exact⟨_,L2.tQ (Ee M),d _ ⟨_,rfl⟩⟩
  .rw[Bi (by rw[P2];lia)];exact d _ ⟨_,rfl⟩
 rintro _ ⟨c,rfl⟩;refine aL (λa=>a=[some (.cX e),some (.int k),some (.int n),some (.int c),some (.int 0),none,none,none]) (λN d=>?_) ?_
 .fin2;exact d _ rfl
 rintro _ rfl;refine aL (λa=>∃r:Int,a=[some (.cX e),some (.int k),some (.int n),some (.int c),some (.int r),none,none,none]) (λN d=>?_) ?_
 .fin2;split
  .exact d _ ⟨_,rfl⟩
  .refine⟨eY (by decide) (by decide) (by decide),?_⟩;split
   .exact d _ ⟨_,rfl⟩
   .exact d _ ⟨_,rfl⟩
 rintro _ ⟨r,rfl⟩;refine aL (λa=>∃x:Int,(0<=x/\x<2^31)/\a=[some (.cX e),some (.int k),some (.int n),some (.int c),some (.int r),some (.int x),none,none]) (λN d=>?_) ?_
 .have f:=fm (x:=c) (n:=2147483647) (by decide);fin2;exact⟨by decide,d _ ⟨_,⟨f.1,by lia⟩,rfl⟩⟩
 rintro _ ⟨x,⟨D,C⟩,rfl⟩;refine aL (λa=>a=[some (.cX e),some (.int k),some (.int n),some (.int c),some (.int r),some (.int x),some (wI []),none]) (λN d=>?_) ?_
 .fin2;exact⟨ai (by simp),d _ rfl⟩
 rintro _ rfl;refine aL (λa=>∃(r x:Int)(b:List Int)(j:Option W),(b.length=n/\∀x∈b,0<=x/\x<1000000)/\a=[some (.cX e),some (.int k),some (.int n),some (.int c),some (.int r),some (.int x),some (wI b),j]) (λN d=>?_) ?_
 .refine wK (l:=iU 0 1 n) (λQ B=>?_) ?_
  .fin2;exact⟨by lia,by lia,by rw[I0];exact B⟩
  refine fW (λi H=>∃(r x:Int)(b:List Int)(j:Option W),((0<=x/\x<2^31)/\b.length=i/\∀x∈b,0<=x/\x<1000000)/\H=[some (.cX e),some (.int k),some (.int n),some (.int c),some (.int r),some (.int x),some (wI b),j]) ⟨r,x,[],none,⟨⟨D,C⟩,rfl,λx A=>by cases A⟩,rfl⟩ ?_ ?_
  .rintro i w _ P L ⟨r,x,b,j,⟨⟨D,C⟩,p,s⟩,rfl⟩ O;obtain⟨U,rfl⟩:=QG L;have u:∀(r x y:Int),(0<=x/\x<2^31)->0<=y->y<1000000->P [some (.cX e),some (.int k),some (.int n),some (.int c),some (.int r),some (.int x),some (.lst (b.map W.int++[.int y])),some (.int i)]:=λr x y A K J=>by
    have o:=O [some (.cX e),some (.int k),some (.int n),some (.int c),some (.int r),some (.int x),some (wI (b++[y])),some (.int i)] ⟨r,x,b++[y],some (.int i),⟨A,by rw[AN,p];rfl,λz hz=>?_⟩,rfl⟩
    .unfold wI at o;rw[Kk]at o;exact o
    .rcases Fh.mp hz with hz|hz
     .exact s z hz
     .rw[FR.mp hz];exact⟨K,J⟩
   unfold Me;refine aL (λa=>∃q:Int,(0<=q/\q<2^31)/\a=[some (.cX e),some (.int k),some (.int n),some (.int c),some (.int r),some (.int q),some (wI b),some (.int i)]) (λX S=>?_) ?_
   .have f:=fm (x:=x*39373+7561*(i:Int)*(i:Int)+1013904223) (n:=2147483647) (by decide);fin2;exact⟨fX (n:=31) (m:=16) (by lia) (by decide) (by decide),fX (n:=13) (m:=6) (by decide) (by lia) (by decide),fX (n:=19) (m:=6) (by lia) (by lia) (by decide),by decide,S _ ⟨_,⟨f.1,by lia⟩,rfl⟩⟩
   rintro _ ⟨q,t,rfl⟩;have g:(b.map W.int).length<sizeLine:=by rw[Fk];exact FM (m:=100) (by lia) (by decide)
   fin2;split
   .have f:=fm (x:=r) (n:=(10:Int)^(6:Int).toNat) (by decide);rw[v]at f⊢;exact⟨eY (by decide) (by decide) (by decide),by decide,g,eY (by decide) (by decide) (by decide),⟨by decide,by rw[v]at F;exact F⟩,u _ _ _ t f.1 f.2⟩
   .have f:=fm (x:=(q*65539).fmod 998244353) (n:=(10:Int)^(6:Int).toNat) (by decide);rw[v]at f⊢;exact⟨fX (n:=31) (m:=17) (by lia) (by decide) (by decide),by decide,eY (by decide) (by decide) (by decide),by decide,g,u _ _ _ t f.1 f.2⟩
  .rintro _ ⟨r,x,b,j,⟨_,p,s⟩,rfl⟩;rw[JP]at p;exact d _ ⟨r,x,b,j,⟨p,s⟩,rfl⟩
 rintro _ ⟨r,x,b,j,⟨p,s⟩,rfl⟩;exact B b p s
abbrev wX(x:List Nat):W:=.str (tx x)
noncomputable def FQ:List CS:=[.set 4 (.bin .Add (.var 4) (.ix (.var 1) (.bin .Mod (.bin .FloorDiv (.var 3) (.var 5)) (.int 26))))]
noncomputable def FT:List CS:=[.set 4 (.str ""),.fr [5] true (.lst [(.int 8),(.int 208),(.int 5408)]) FQ,.set 4 (.slt (.bin .Mult (.var 4) (.int 3)) .aG (.bin .Add (.int 1) (.bin .Mod (.var 3) (.int 8)))),.set 6 (.int 0),.Lw (.cmp .In (.var 4) (.var 2)) [.set 4 (.ix (.var 1) (.var 6)),.set 6 (.bin .Add (.var 6) (.int 1))],.app 2 (.var 4)]
noncomputable def FU:List CS:=[.set 1 (.str "abcdefghijklmnopqrstuvwxyz"),.set 2 (.lst []),.fr [3] true (.var 0) FT,.ret (.var 2)]
noncomputable def FW:aV:=λc Q _=>∃a:List Int,c=[wI a]/\a.length<=3/\(∀x∈a,0<=x/\x<1000000)/\∀b:List (List Nat),b.length=a.length->(∀x∈b,nH x)->Q (.lst (b.map wX))
theorem JY{r:Int}(b:0<=r)(d:r<26):∃c,iS lets r=some c/\isLet c:=by
 obtain⟨n,rfl⟩:=Iy b;have a:n<lets.length:=by show n<26;omega
 exact⟨lets[n],b4 (Ee a),Fw.mp (N0 a)⟩
theorem pig{e:List (List Nat)}(h:e.length<=2)(f:[97]∈e)(c:[98]∈e)(d:[99]∈e):False:=by
 match e,h with
 |[],_=>cases f
 |[x],_=>have a:=FR.mp f;have b:=FR.mp c;rw[<-a]at b;cases b
 |[x,y],_=>simp only[FC,Sr,or_false]at f c d;rcases f with rfl|rfl<;>rcases c with c|c<;>rcases d with d|d<;>first|(cases c;done)|(cases d;done)|(subst c;cases d;done)
 |_::_::_::_,h=>simp at h
theorem QN(w:List Nat)(a:List (List Nat)):decide (tx w∈a.map tx)=decide (w∈a):=bo.mpr ⟨λh=>by obtain⟨y,b,e⟩:=Kb.mp h;rw[<-j6 e];exact b,λh=>Kb.mpr ⟨w,h,rfl⟩⟩
theorem QO(l:List Nat)(k:Nat):bT l none (some (k:Int))=l.take k:=by
 unfold bT;have b:HT.bX l.length 0 none=0:=rfl;have a:HT.bX l.length l.length (some (k:Int))=min k l.length:=by unfold HT.bX;dsimp only;rw[Bi (by omega),I0]
 rw[b,a,UN,Vh,<-List.take_eq_take_min]
theorem UR{Y:Nat->aV}{G:Nat->W}{m:Md}(S:List W)(Q:W->Prop)(R:Addr->Prop)(h:FW S Q R):wSs Y G FU (aX m Q R) (au 7 S):=by
 obtain⟨g,rfl,hl,hm,L⟩:=h;show wSs _ _ FU _ [some (wI g),none,none,none,none,none,none];unfold FU;fin2;refine⟨ai (by simp),?_⟩;show fh _ _ (g.map W.int) _;refine fW (λi F=>∃(d:List (List Nat))(o3 I b o:Option W),(d.length=i/\∀x∈d,nH x)/\F=[some (wI g),some (.str "abcdefghijklmnopqrstuvwxyz"),some (.lst (d.map wX)),o3,I,b,o]) ⟨[],none,none,none,none,⟨rfl,λx hx=>by cases hx⟩,rfl⟩ ?_ ?_
 .rintro i w _ N e ⟨d,o3,I,b,o,⟨C,H⟩,rfl⟩ hN;obtain⟨n,U,rfl⟩:∃n,g[i]?=some n/\w=.int n:=by rw[IH]at e;obtain⟨n,e1,e2⟩:=Kt.mp e;exact⟨n,e1,e2.symm⟩
  have li:=(GT.mp U).1;have⟨n0,n1⟩:=hm n (Kx U);dsimp only[yP,Mz,List.set];unfold FT;refine aL (λa=>a=[some (wI g),some (.str "abcdefghijklmnopqrstuvwxyz"),some (.lst (d.map wX)),some (.int n),some (wX []),b,o]) (λE p=>?_) ?_
  .fin2;rw[wB];exact p _ rfl
  rintro _ rfl;refine aL (λa=>∃(u:List Nat)(b:Option W),(u.length=3/\∀c∈u,isLet c)/\a=[some (wI g),some (.str "abcdefghijklmnopqrstuvwxyz"),some (.lst (d.map wX)),some (.int n),some (wX u),b,o]) (λE p=>?_) ?_
  .refine wK (l:=[.int 8,.int 208,.int 5408]) (λQ L=>?_) ?_
   .fin2;exact⟨ai (by show 3<=1000;decide),L⟩
   refine fW (λi F=>∃(u:List Nat)(b:Option W),(u.length=i/\∀c∈u,isLet c)/\F=[some (wI g),some (.str "abcdefghijklmnopqrstuvwxyz"),some (.lst (d.map wX)),some (.int n),some (wX u),b,o]) ⟨[],b,⟨rfl,λc t=>by cases t⟩,rfl⟩ ?_ ?_
   .rintro j w _ N3 e ⟨u,b,⟨A,v⟩,rfl⟩ M;have⟨s,es,s0,s1⟩:∃s:Int,w=.int s/\0<s/\s<10000:=by
     match j,e with
     |0,e=>cases e;exact⟨8,rfl,by decide,by decide⟩
     |1,e=>cases e;exact⟨208,rfl,by decide,by decide⟩
     |2,e=>cases e;exact⟨5408,rfl,by decide,by decide⟩
     |j+3,e=>cases e
    subst es;have f:=fm (x:=n.fdiv s) (n:=26) (by decide);obtain⟨c,t,lc⟩:=JY f.1 f.2;unfold FQ;fin2;have lj:j<3:=(GT.mp e).1;refine⟨⟨by omega,iA (n:=14) (by omega) (by decide)⟩,by decide,ai (by rw[uy];show 26<=1000;decide),c,by rw[uy];exact t,ai (by show u.length+1<=1000;omega),?_⟩;rw[bZ];exact M _ ⟨u++[c],_,⟨by simp[A],λz hz=>by
     rcases Fh.mp hz with hz|hz
     .exact v z hz
     .rw[FR.mp hz];exact lc⟩,rfl⟩
   .rintro _ ⟨u,b,⟨A,v⟩,rfl⟩;exact p _ ⟨u,b,⟨A,v⟩,rfl⟩
  rintro _ ⟨u,b,⟨A,v⟩,rfl⟩;refine aL (λa=>∃u:List Nat,nH u/\a=[some (wI g),some (.str "abcdefghijklmnopqrstuvwxyz"),some (.lst (d.map wX)),some (.int n),some (wX u),b,o]) (λE p=>?_) ?_
  .have f:=fm (x:=n) (n:=8) (by decide);fin2;obtain⟨q,K⟩:=Iy f.1;have T:(u++u++u).length=9:=by simp[A]
   rw[show(C8 (3:Int).toNat u).flatten=u++u++u by show u++(u++(u++[]))=_;simp];refine⟨by decide,by omega,by decide,ai (by omega),p _ ⟨(u++u++u).take (1+q),⟨λz=>?_,?_,λc t=>?_⟩,?_⟩⟩
   .have:=Hb Dr z;rw[T1,T,CC]at this;omega
   .rw[T1,T];omega
   .have:=List.mem_of_mem_take t;simp only[Fh,or_self]at this;exact v c this
   .rw[K,show((1:Int)+(q:Nat))=((1+q:Nat):Int) by omega,QO]
  rintro _ ⟨u,J,rfl⟩;refine aL (λa=>a=[some (wI g),some (.str "abcdefghijklmnopqrstuvwxyz"),some (.lst (d.map wX)),some (.int n),some (wX u),b,some (.int 0)]) (λE p=>?_) ?_
  .fin2;exact p _ rfl
  rintro _ rfl;refine aL (λa=>∃(u:List Nat)(o:Option W),nH u/\a=[some (wI g),some (.str "abcdefghijklmnopqrstuvwxyz"),some (.lst (d.map wX)),some (.int n),some (wX u),b,o]) (λE p=>?_) ?_
  .fin2;refine ux (α:=List Nat×Nat) (λs=>[some (wI g),some (.str "abcdefghijklmnopqrstuvwxyz"),some (.lst (d.map wX)),some (.int n),some (wX s.1),b,some (.int (s.2:Nat))]) (λs=>nH s.1/\s.2<=3/\(∀j,j+1<s.2->[97+j]∈d)/\(1<=s.2->s.1=[97+(s.2 -1)])) (λs=>3 -s.2) (u,0) rfl ⟨J,by show 0<=3;decide,λj z=>by simp at z,λz=>by simp at z⟩ ?_;rintro⟨u,k⟩ ⟨X,h2,D,O⟩;dsimp only at X h2 D O⊢;fin2;refine⟨d.map tx,by rw[VG];rfl,?_⟩;rw[QN];refine jq (λq=>?_) (λ_=>p _ ⟨u,_,X,rfl⟩);have r:=Ap q;have k2:k<=2:=by
    rcases RZ k 3 with z|z
    .omega
    .have ek:k=3:=by omega
     subst ek;have:=O (by decide);rw[this]at r;exact(pig (by omega) (D 0 (by decide)) (D 1 (by decide)) r).elim
   fin2;have Z:k<lets.length:=by show k<26;omega
   have P:lets[k]=97+k:=by
    match k,k2 with
    |0,_=>rfl
    |1,_=>rfl
    |2,_=>rfl
    |k+3,z=>omega
   refine⟨ai (by rw[uy];show 26<=1000;decide),97+k,by rw[uy];exact b4 (by rw[iZ,Ee Z,P]),([97+k],k+1),rfl,⟨⟨by simp,by simp,λc t=>by rw[FR.mp t];unfold isLet;omega⟩,by show k+1<=3;omega,λj z=>?_,λ_=>rfl⟩,by show 3 -(k+1)<3 -k;omega⟩;have z:j+1<k+1:=z;rcases RZ (j+1) k with y|y
   .exact D j y
   .have:j=k -1:=by omega
    rw[this,<-O (by omega)];exact r
  rintro _ ⟨u,o,J,rfl⟩;fin2;have B:=hN [some (wI g),some (.str "abcdefghijklmnopqrstuvwxyz"),some (.lst ((d++[u]).map wX)),some (.int n),some (wX u),b,o] ⟨d++[u],_,_,_,_,⟨by simp[C],λz hz=>?_⟩,rfl⟩
  .rw[Kk]at B;exact⟨FM (m:=100) (by rw[Fk];omega) (by decide),B⟩
  .rcases Fh.mp hz with hz|hz
   .exact H z hz
   .rw[FR.mp hz];exact J
 .rintro _ ⟨d,o3,I,b,o,⟨C,H⟩,rfl⟩;rw[Fk]at C;exact L d C H
abbrev It:=Tr×Int×Int×Int
noncomputable def iW(x:It):W:=.tup [wt x.1,.int x.2.1,.int x.2.2.1,.int x.2.2.2]
noncomputable def gO(x:Int):Prop:=0<=x/\x<=150
noncomputable def JZ(x:It):Prop:=lS x.1/\gO x.2.1/\gO x.2.2.1/\gO x.2.2.2
theorem wL{x:List Nat}(h:∀c∈x,c<1114112):PyData.strOk (tx x)=true:=by unfold PyData.strOk;rw[<-Array.all_toList,IR];intro c a;exact Bz (h c a)
theorem ZX{x:List Nat}(h:nH x)(n:Nat):ny n (wX x)=true:=by
 have:PyData.strOk (tx x)=true:=wL λc a=>by have:=h.2.2 c a;unfold isLet at this;omega
 cases n<;>exact this
theorem Xz{a:List (List Nat)}(h:∀x∈a,nH x):ny 9 (.lst (a.map wX))=true:=IR.mpr λw c=>by obtain⟨x,b,rfl⟩:=Kb.mp c;exact ZX (h x b) 8
noncomputable def yH:List CS:=[.iff (.and [(.cmp .Lt (.bin .Mod (.var 0) (.int 5)) (.int 3)),(.cmp .NotEq (.var 1) (.lst []))]) [.ret (.tup [(.tup [(.str "name"),(.ix (.var 1) (.bin .Mod (.bin .FloorDiv (.var 0) (.int 5)) (.blt .len [(.var 1)])))]),(.int 1),(.int 0),(.int 1)])] [],.iff (.and [(.cmp .Eq (.bin .Mod (.var 0) (.int 5)) (.int 4)),(.cmp .Eq (.bin .Mod (.bin .FloorDiv (.var 0) (.int 5)) (.int 8)) (.int 0))]) [.set 2 (.bin .Add (.bin .Mult (.bin .Add (.var 0) (.int 1)) (.bin .Pow (.int 10) (.int 20))) (.bin .Mult (.var 0) (.int 7919))),.ret (.tup [(.tup [(.str "number"),(.var 2)]),(.int 0),(.int 0),(.int 30)])] [],.ret (.tup [(.tup [(.str "number"),(.bin .Mod (.bin .FloorDiv (.var 0) (.int 5)) (.ix (.lst [(.int 13),(.int 3),(.int 1000)]) (.bin .Mod (.bin .FloorDiv (.var 0) (.int 200)) (.int 3))))]),(.int 0),(.int 0),(.int 3)])]
noncomputable def FY:aV:=λb Q _=>∃(n:Int)(a:List (List Nat)),b=[.int n,.lst (a.map wX)]/\(0<=n/\n<125000)/\a.length<=3/\(∀x∈a,nH x)/\∀x:It,JZ x->sz x.1=1->Q (iW x)
theorem at3(x:Int):∃k:Int,(1<=k/\k<=1000)/\iS [W.int 13,.int 3,.int 1000] (x.fmod 3)=some (.int k):=by
 have f:=fm (x:=x) (n:=3) (by decide);have:x.fmod 3=0\/x.fmod 3=1\/x.fmod 3=2:=by omega
 rcases this with e|e|e<;>rw[e]
 .exact⟨13,by omega,rfl⟩
 .exact⟨3,by omega,rfl⟩
 .exact⟨1000,by omega,rfl⟩
theorem s2{a b:W}:[a,b].length<=sizeLine:=ai (by show 2<=1000;decide)
theorem s3{a b c:W}:[a,b,c].length<=sizeLine:=ai (by show 3<=1000;decide)
theorem s4{a b c d:W}:[a,b,c,d].length<=sizeLine:=ai (by show 4<=1000;decide)
theorem i0:gO 0:=by unfold gO;omega
theorem i1:gO 1:=by unfold gO;omega
theorem i3:gO 3:=by unfold gO;omega
theorem i30:gO 30:=by unfold gO;omega
theorem QS{o:Nat->aV}{G:Nat->W}{m:Md}(t:List W)(Q:W->Prop)(R:Addr->Prop)(h:FY t Q R):wSs o G yH (aX m Q R) (au 3 t):=by
 obtain⟨n,a,rfl,⟨D,I⟩,J,u,y⟩:=h;have r:vB n 5:=⟨by decide,iA (n:=14) (by decide) (by decide)⟩;have F:vB n 200:=⟨by decide,iA (n:=14) (by decide) (by decide)⟩;have P:∀s:Int,0<s->0<=n.fdiv s:=λs O=>Z7 D (by omega);have d:wSs o G [.iff (.and [(.cmp .Eq (.bin .Mod (.var 0) (.int 5)) (.int 4)),(.cmp .Eq (.bin .Mod (.bin .FloorDiv (.var 0) (.int 5)) (.int 8)) (.int 0))]) [.set 2 (.bin .Add (.bin .Mult (.bin .Add (.var 0) (.int 1)) (.bin .Pow (.int 10) (.int 20))) (.bin .Mult (.var 0) (.int 7919))),.ret (.tup [(.tup [(.str "number"),(.var 2)]),(.int 0),(.int 0),(.int 30)])] [],.ret (.tup [(.tup [(.str "number"),(.bin .Mod (.bin .FloorDiv (.var 0) (.int 5)) (.ix (.lst [(.int 13),(.int 3),(.int 1000)]) (.bin .Mod (.bin .FloorDiv (.var 0) (.int 200)) (.int 3))))]),(.int 0),(.int 0),(.int 3)])] (aX m Q R) [some (.int n),some (.lst (a.map wX)),none]:=by
  have e:∀(v c:Int),0<=v->v<10^30->gO c->Q (.tup [.tup [.str "number",.int v],.int 0,.int 0,.int c]):=λv c B H E=>by obtain⟨k,rfl⟩:=Iy B;exact y (.nu k,0,0,c) ⟨by show k<10^30;omega,i0,i0,E⟩ rfl
  have g:wSs o G [.ret (.tup [(.tup [(.str "number"),(.bin .Mod (.bin .FloorDiv (.var 0) (.int 5)) (.ix (.lst [(.int 13),(.int 3),(.int 1000)]) (.bin .Mod (.bin .FloorDiv (.var 0) (.int 200)) (.int 3))))]),(.int 0),(.int 0),(.int 3)])] (aX m Q R) [some (.int n),some (.lst (a.map wX)),none]:=by fin2;obtain⟨k,⟨M,L⟩,l⟩:=at3 (n.fdiv 200);have f:=fm (x:=n.fdiv 5) (n:=k) (by omega);exact⟨r,s3,F,by decide,_,l,by omega,s2,s4,e _ _ f.1 (Int.lt_of_lt_of_le f.2 (by omega)) i3⟩
  refine aL (λb=>b=[some (.int n),some (.lst (a.map wX)),none]) (λN i=>?_) (by rintro _ rfl;exact g);fin2;refine⟨by decide,?_⟩;have p:xE 10 20/\IntMulOk (n+1) (10^(20:Int).toNat)/\IntMulOk n 7919/\[W.str "number",W.int ((n+1)*10^(20:Int).toNat+n*7919)].length<=sizeLine/\[W.tup [W.str "number",W.int ((n+1)*10^(20:Int).toNat+n*7919)],W.int 0,W.int 0,W.int 30].length<=sizeLine/\Q (.tup [.tup [.str "number",.int ((n+1)*10^(20:Int).toNat+n*7919)],.int 0,.int 0,.int 30]):=by
   have q:((10:Int)^(20:Int).toNat)=100000000000000000000:=by decide
   rw[q];refine⟨eY (by decide) (by decide) (by decide),fX (n:=20) (m:=70) (by omega) (by decide) (by decide),fX (n:=20) (m:=14) (by omega) (by decide) (by decide),s2,s4,e _ _ (by omega) (by omega) i30⟩
  split
  .refine⟨r,by decide,?_⟩;split
   .exact p
   .exact i _ rfl
  .exact i _ rfl
 show wSs _ _ yH _ [some (.int n),some (.lst (a.map wX)),none];unfold yH;refine aL (λb=>b=[some (.int n),some (.lst (a.map wX)),none]) (λN i=>?_) (by rintro _ rfl;exact d);fin2;refine⟨by decide,?_⟩;split
 .refine⟨ai (by show 0<=1000;decide),.inl ⟨Xz u,rfl⟩,λk l=>?_⟩;cases k with
  |true=>exact i _ rfl
  |false=>
   have C:a≠[]:=λz=>by rw[z]at l;have:=l.mpr rfl;cases this
   have K:0<a.length:=T2.mpr C;have f:=fm (x:=n.fdiv 5) (n:=((a.map wX).length:Nat)) (by rw[Fk];omega);obtain⟨j,A⟩:=Iy f.1;have w:j<a.length:=by have:=f.2;rw[A,Fk]at this;omega
   refine⟨r,by rw[Fk];omega,wX a[j],?_,s2,s4,y (.nm a[j],1,0,1) ⟨u _ (N0 w),i1,i0,i1⟩ rfl⟩;rw[A];exact b4 (by rw[IH,Ee w];rfl)
 .exact i _ rfl
noncomputable def qF:List CS:=[.iff (.or [(.cmp .Eq (.var 0) (.str "+")),(.cmp .Eq (.var 0) (.str "-"))]) [.set 3 (.blt .max2 [(.bin .Add (.ix (.var 1) (.int 1)) (.ix (.var 2) (.int 2))),(.bin .Add (.ix (.var 2) (.int 1)) (.ix (.var 1) (.int 2)))]),.ret (.tup [(.tup [(.var 0),(.ix (.var 1) (.int 0)),(.ix (.var 2) (.int 0))]),(.var 3),(.bin .Add (.ix (.var 1) (.int 2)) (.ix (.var 2) (.int 2))),(.bin .Add (.bin .Add (.ix (.var 1) (.int 3)) (.ix (.var 2) (.int 3))) (.int 1))])] [],.iff (.cmp .Eq (.var 0) (.str "*")) [.ret (.tup [(.tup [(.var 0),(.ix (.var 1) (.int 0)),(.ix (.var 2) (.int 0))]),(.bin .Add (.ix (.var 1) (.int 1)) (.ix (.var 2) (.int 1))),(.bin .Add (.ix (.var 1) (.int 2)) (.ix (.var 2) (.int 2))),(.bin .Add (.ix (.var 1) (.int 3)) (.ix (.var 2) (.int 3)))])] [],.ret (.tup [(.tup [(.var 0),(.ix (.var 1) (.int 0)),(.ix (.var 2) (.int 0))]),(.bin .Add (.ix (.var 1) (.int 1)) (.ix (.var 2) (.int 2))),(.bin .Add (.ix (.var 1) (.int 2)) (.ix (.var 2) (.int 1))),(.bin .Add (.ix (.var 1) (.int 3)) (.ix (.var 2) (.int 3)))])]
noncomputable def J0(x:It):Prop:=0<=x.2.1/\0<=x.2.2.1/\0<=x.2.2.2
noncomputable def oM:aV:=λd Q _=>∃(o:Nat)(x y:It),d=[.str (tx [o]),iW x,iW y]/\J0 x/\J0 y/\∀a b c:Int,J0 (.op o x.1 y.1,a,b,c)->Q (iW (.op o x.1 y.1,a,b,c))
theorem FZ{f:Nat->aV}{G:Nat->W}{m:Md}(d:List W)(Q:W->Prop)(R:Addr->Prop)(h:oM d Q R):wSs f G qF (aX m Q R) (au 4 d):=by
 obtain⟨o,x,y,rfl,⟨n,l,k⟩,⟨j,i,g⟩,c⟩:=h;show wSs _ _ qF _ [some _,some _,some _,none];unfold qF iW;fin2;have e:∀a b:Int,0<=a->0<=(if b>a then b else a):=λa b h=>by split<;>omega
 split
 .exact⟨_,rfl,_,rfl,_,rfl,_,rfl,_,rfl,_,rfl,s3,_,rfl,_,rfl,_,rfl,_,rfl,s4,c _ _ _ ⟨e _ _ (by omega),by show 0<=_+_;omega,by show 0<=_+_+1;omega⟩⟩
 .split
  .exact⟨_,rfl,_,rfl,_,rfl,_,rfl,_,rfl,_,rfl,s3,_,rfl,_,rfl,_,rfl,_,rfl,s4,c _ _ _ ⟨e _ _ (by omega),by show 0<=_+_;omega,by show 0<=_+_+1;omega⟩⟩
  .split
   .exact⟨_,rfl,_,rfl,s3,_,rfl,_,rfl,_,rfl,_,rfl,_,rfl,_,rfl,s4,c _ _ _ ⟨by show 0<=_+_;omega,by show 0<=_+_;omega,by show 0<=_+_;omega⟩⟩
   .exact⟨_,rfl,_,rfl,s3,_,rfl,_,rfl,_,rfl,_,rfl,_,rfl,_,rfl,s4,c _ _ _ ⟨by show 0<=_+_;omega,by show 0<=_+_;omega,by show 0<=_+_;omega⟩⟩
noncomputable def yI:List CS:=[.ret (.and [(.cmp .LtE (.blt .max2 [(.ix (.var 0) (.int 1)),(.ix (.var 0) (.int 2))]) (.var 1)),(.cmp .LtE (.ix (.var 0) (.int 3)) (.int 150))])]
noncomputable def Al:aV:=λa Q _=>∃(x:It)(k:Int),a=[iW x,.int k]/\∀b:Bool,(b=true->x.2.1<=k/\x.2.2.1<=k/\x.2.2.2<=150)->Q (.bl b)
theorem QT{d:Nat->aV}{G:Nat->W}{m:Md}(b:List W)(Q:W->Prop)(R:Addr->Prop)(h:Al b Q R):wSs d G yI (aX m Q R) (au 2 b):=by
 obtain⟨x,k,rfl,c⟩:=h;show wSs _ _ yI _ [some _,some _];unfold yI iW;fin2;refine⟨_,rfl,_,rfl,?_⟩;fin2;by_cases a:(if x.2.2.1>x.2.1 then x.2.2.1 else x.2.1)<=k
 .rw[Do (Bz a)];refine⟨_,rfl,c _ λz=>?_⟩;have z:=Ap z;split at a<;>exact⟨by omega,by omega,z⟩
 .rw[Bi (by rw[P2];exact a)];exact c _ λz=>by cases z
theorem uD{α:Type}(l r:List α)(x:α){i:Int}(a:i= -((r.length+1:Nat):Int)):iS (l++x::r) i=some x:=by
 unfold iS Dk;rw[Bi (by omega),Do (by simp;omega)];have:(i+((l++x::r).length:Nat)).toNat=l.length:=by simp;omega
 rw[this];show(l++x::r)[l.length]?=some x;rw[Gc (Bn _),Vn];rfl
theorem uE(l r:List W){i:Int}(a:r≠[])(e:i= -(r.length:Nat)):mD (l++r) none (some i)=l:=by
 have d:0<r.length:=T2.mpr a;unfold mD;have c:HT.bX (l++r).length 0 none=0:=rfl;have b:HT.bX (l++r).length (l++r).length (some i)=l.length:=by show(if i<0 then(i+((l++r).length:Nat)).toNat else min i.toNat (l++r).length)=_;rw[Do (by omega),AN];omega
 rw[c,b,UN,Vh,UM]
theorem VN{s:Str}(n:Nat)(h:PyData.strOk s=true):ny n (.str s)=true:=by cases n<;>exact h
theorem ZY(n:Nat)(i:Int):ny n (.int i)=true:=by cases n<;>rfl
theorem US:∀(T:Tr)(n:Nat),lS T->sz T<=n->ny n (wt T)=true
 |.nm x,n+1,h,_=>by show[W.str "name",wX x].all (ny n)=true;rw[CB,CB,ZX h n,VN n (by decide+kernel)];rfl
 |.nu k,n+1,h,_=>by show[W.str "number",W.int k].all (ny n)=true;rw[CB,CB,ZY,VN n (by decide+kernel)];rfl
 |.op o a b,n+1,h,d=>by
  have d:sz a+sz b+1<=n+1:=d;show[W.str (tx [o]),wt a,wt b].all (ny n)=true;rw[CB,CB,CB,US a n h.2.1 (by omega),US b n h.2.2 (by omega)];have:PyData.strOk (tx [o])=true:=wL λc f=>by rw[FR.mp f];have:=h.1;omega
  have:ny n (.str (tx [o]))=true:=by cases n<;>exact this
  rw[this];rfl
 |.pw a e,n+1,h,d=>by have d:sz a+1<=n+1:=d;show[W.str "^",wt a,W.int e].all (ny n)=true;rw[CB,CB,CB,US a n h.2 (by omega),ZY,VN n (by decide+kernel)];rfl
 |.ls a,n+1,h,d=>by have d:sz a+1<=n+1:=d;show[W.str "less",wt a].all (ny n)=true;rw[CB,CB,US a n h (by omega),VN n (by decide+kernel)];rfl
 |T,0,_,d=>by have:=uz T;omega
noncomputable def jO(L:List It):Nat:=(L.map λx=>sz x.1).sum
theorem jM(a b:List It):jO (a++b)=jO a+jO b:=by unfold jO;rw[Kk,List.sum_append]
theorem J1{L:List It}{x:It}(h:x∈L):sz x.1<=jO L:=by obtain⟨a,b,rfl⟩:=List.append_of_mem h;rw[jM];show _<=_+((x::b).map λx=>sz x.1).sum;rw[Hn,ZV];omega
theorem plL{L:List It}(h:∀x∈L,JZ x)(c:jO L<=50):ny 60 (.lst (L.map iW))=true:=IR.mpr λw b=>by obtain⟨x,a,rfl⟩:=Kb.mp b;have:=J1 a;show[wt x.1,W.int x.2.1,.int x.2.2.1,.int x.2.2.2].all (ny 58)=true;rw[CB,US x.1 58 (h x a).1 (by omega)];rfl
noncomputable def Mf:CS:=.iff (.and [(.cmp .Gt (.var 4) (.int 2)),(.cmp .Lt (.var 4) (.int 6)),(.cmp .Gt (.blt .len [(.var 0)]) (.int 1))]) [.set 6 (.call 0 [(.ix (.str "+-*/") (.bin .Mod (.var 5) (.int 4))),(.ix (.var 0) (.neg (.int 2))),(.ix (.var 0) (.neg (.int 1)))]),.iff (.call 1 [(.var 6),(.var 3)]) [.ret (.bin .Add (.sl (.var 0) .aG (.neg (.int 2))) (.lst [(.var 6)]))] []] []
noncomputable def Mg:CS:=.iff (.and [(.cmp .Eq (.var 4) (.int 6)),(.cmp .NotEq (.var 0) (.lst []))]) [.Cs [7,8,9,10] (.ix (.var 0) (.neg (.int 1))),.set 11 (.ix (.lst [(.int 2),(.int 3),(.int 0),(.int 1),(.bin .Mod (.bin .FloorDiv (.var 5) (.int 5)) (.int 13))]) (.bin .Mod (.var 5) (.int 5))),.set 6 (.tup [(.tup [(.str "^"),(.var 7),(.var 11)]),(.bin .Mult (.var 8) (.var 11)),(.bin .Mult (.var 9) (.var 11)),(.bin .Mult (.var 10) (.blt .max2 [(.int 1),(.var 11)]))]),.iff (.call 1 [(.var 6),(.var 3)]) [.ret (.bin .Add (.sl (.var 0) .aG (.neg (.int 1))) (.lst [(.var 6)]))] []] []
noncomputable def Mh:CS:=.iff (.and [(.cmp .Eq (.var 4) (.int 7)),(.cmp .NotEq (.var 0) (.lst []))]) [.ret (.bin .Add (.sl (.var 0) .aG (.neg (.int 1))) (.lst [(.bin .Add (.tup [(.tup [(.str "less"),(.ix (.ix (.var 0) (.neg (.int 1))) (.int 0))])]) (.slt (.ix (.var 0) (.neg (.int 1))) (.int 1) .aG))]))] []
noncomputable def qG:List CS:=[.set 4 (.bin .Mod (.var 1) (.int 8)),.set 5 (.bin .FloorDiv (.var 1) (.int 8)),Mf,Mg,Mh,.ret (.bin .Add (.var 0) (.lst [(.call 2 [(.var 5),(.var 2)])]))]
noncomputable def uF:aV:=λc Q _=>∃(L:List It)(n k:Int)(b:List (List Nat)),c=[.lst (L.map iW),.int n,.lst (b.map wX),.int k]/\(∀x∈L,JZ x)/\jO L<=20/\(0<=n/\n<1000000)/\b.length<=3/\(∀x∈b,nH x)/\(0<=k/\k<=12)/\∀a:List It,(∀x∈a,JZ x)->a≠[]->jO a<=jO L+1->Q (.lst (a.map iW))
theorem oN:∀L:List It,L.length<=jO L
 |[]=>Bn _
 |x::L=>by have:=oN L;have:=uz x.1;show L.length+1<=((x::L).map λx=>sz x.1).sum;rw[Hn,ZV];show L.length+1<=sz x.1+jO L;omega
theorem F3(r:Int):∃o,(o=43\/o=45\/o=42\/o=47)/\iS ("+-*/":Str).cps.toList (r.fmod 4)=some o:=by
 have f:=fm (x:=r) (n:=4) (by decide);have e:("+-*/":Str).cps.toList=[43,45,42,47]:=by decide+kernel
 rw[e];have:r.fmod 4=0\/r.fmod 4=1\/r.fmod 4=2\/r.fmod 4=3:=by omega
 rcases this with h|h|h|h<;>rw[h]
 .exact⟨43,by omega,rfl⟩
 .exact⟨45,by omega,rfl⟩
 .exact⟨42,by omega,rfl⟩
 .exact⟨47,by omega,rfl⟩
theorem at5(r x:Int)(a:0<=x)(b:x<13):∃e:Nat,e<=12/\iS [W.int 2,.int 3,.int 0,.int 1,.int x] (r.fmod 5)=some (.int e):=by
 have f:=fm (x:=r) (n:=5) (by decide);have:r.fmod 5=0\/r.fmod 5=1\/r.fmod 5=2\/r.fmod 5=3\/r.fmod 5=4:=by omega
 obtain⟨j,rfl⟩:=Iy a;rcases this with h|h|h|h|h<;>rw[h]
 .exact⟨2,by omega,rfl⟩
 .exact⟨3,by omega,rfl⟩
 .exact⟨0,by omega,rfl⟩
 .exact⟨1,by omega,rfl⟩
 .exact⟨j,by omega,rfl⟩
theorem F4{G:Nat->W}{m:Md}(ws:List W)(Q:W->Prop)(R:Addr->Prop)(h:uF ws Q R):wSs (bH [oM,Al,FY]) G qG (aX m Q R) (au 12 ws):=by
 obtain⟨L,n,k,s,rfl,u,hz,⟨n0,n1⟩,lx,px,⟨k0,k1⟩,hq⟩:=h;have ln:=oN L;show wSs _ _ qG _ [some (.lst (L.map iW)),some (.int n),some (.lst (s.map wX)),some (.int k),none,none,none,none,none,none,none,none];unfold qG;refine aL (λj=>∃w:Int,j=[some (.lst (L.map iW)),some (.int n),some (.lst (s.map wX)),some (.int k),some (.int w),none,none,none,none,none,none,none]) (λN p=>?_) ?_
 .fin2;exact⟨by decide,p _ ⟨_,rfl⟩⟩
 rintro _ ⟨w,rfl⟩;refine aL (λj=>∃r:Int,(0<=r/\r<125000)/\j=[some (.lst (L.map iW)),some (.int n),some (.lst (s.map wX)),some (.int k),some (.int w),some (.int r),none,none,none,none,none,none]) (λN p=>?_) ?_
 .fin2;refine⟨⟨by decide,iA (n:=14) (by decide) (by decide)⟩,p _ ⟨_,⟨Z7 n0 (by decide),?_⟩,rfl⟩⟩;rw[SZ _ (by decide)];omega
 rintro _ ⟨r,⟨r0,r1⟩,rfl⟩;have Z0:∀{Q:W->Prop},(∀b:Bool,(b=true->∃g y,L=g++[y])->Q (.bl b))->dJ .NotEq (.lst (L.map iW)) (.lst []) Q:=λ{Q} hQ=>by
  refine⟨.inr (.inr ⟨plL u (by omega),rfl⟩),λb hb=>hQ (!b) λz=>?_⟩;have bf:b=false:=by cases b;rfl;cases z
  rcases cw L with e|⟨g,y,e⟩
  .rw[e]at hb;rw[hb.mpr rfl]at bf;cases bf
  .exact⟨g,y,by rw[e,List.concat_eq_append]⟩
 have q:∀(g:List It)(x:It),jO g+sz x.1<=jO L+1->(∀y∈g,JZ y)->JZ x->(g.map iW).length+[iW x].length<=sizeLine/\Q (.lst (g.map iW++[iW x])):=λg x hs h0 U=>by
  have l0:=oN g;refine⟨ai (by rw[Fk];show g.length+1<=1000;omega),?_⟩;have:=hq (g++[x]) (λy D=>by
   rcases Fh.mp D with D|D
   .exact h0 y D
   .rw[FR.mp D];exact U) (by simp) (by rw[jM];unfold jO at hs⊢;simpa using hs)
  rw[Kk]at this;exact this
 refine aL (λj=>∃C,j=[some (.lst (L.map iW)),some (.int n),some (.lst (s.map wX)),some (.int k),some (.int w),some (.int r),C,none,none,none,none,none]) (λN p=>?_) ?_
 .unfold Mf;fin2;split;rotate_left
  .exact p _ ⟨_,rfl⟩
  split;rotate_left
  .exact p _ ⟨_,rfl⟩
  split;rotate_left
  .exact p _ ⟨_,rfl⟩
  rename_i v
  have v:=Ap v;obtain⟨g,x,y,rfl⟩:∃g x y,L=g++[x,y]:=by
   rw[Fk]at v;rcases cw L with e|⟨L1,y,e⟩
   .rw[e]at v;simp at v
   .rcases cw L1 with Z|⟨g,x,Z⟩
    .rw[e,Z]at v;simp at v
    .exact⟨g,x,y,by rw[e,Z];simp⟩
  obtain⟨o,ho,t⟩:=F3 r;have K:∀z∈g++[x,y],JZ z:=u;have H:=K x (by simp);have l:=K y (by simp);have J:jO (g++[x,y])=jO g+(sz x.1+sz y.1):=by rw[jM];unfold jO;simp
  refine⟨by decide,ai (by decide+kernel),o,t,iW x,by rw[Kk];exact uD (g.map iW) [iW y] _ rfl,iW y,by rw[Kk];have:=uD (g.map iW++[iW x]) [] (iW y) (i:= -1) rfl;simpa using this,o,x,y,rfl,⟨H.2.1.1,H.2.2.1.1,H.2.2.2.1⟩,⟨l.2.1.1,l.2.2.1.1,l.2.2.2.1⟩,λa b c X=>⟨(.op o x.1 y.1,a,b,c),k,rfl,λA B=>?_⟩⟩;cases A with
  |false=>exact p _ ⟨_,rfl⟩
  |true=>obtain⟨F,E,Y⟩:=B rfl;have F:a<=k:=F;have E:b<=k:=E;have d:=q g (.op o x.1 y.1,a,b,c) (by rw[J];show jO g+(sz x.1+sz y.1+1)<=_;omega) (λz hz=>K z (by simp[hz])) ⟨⟨ho,H.1,l.1⟩,⟨X.1,by show a<=150;omega⟩,⟨X.2.1,by show b<=150;omega⟩,⟨X.2.2,Y⟩⟩;show[iW _].length<=sizeLine/\_;refine⟨ai (by show 1<=1000;decide),?_⟩;rw[Kk,show mD (g.map iW++[x,y].map iW) none (some (-2))=g.map iW from uE _ _ (by simp) rfl];exact d
 rintro _ ⟨C,rfl⟩;refine aL (λj=>∃C T S P O M,j=[some (.lst (L.map iW)),some (.int n),some (.lst (s.map wX)),some (.int k),some (.int w),some (.int r),C,T,S,P,O,M]) (λN p=>?_) ?_
 .unfold Mg;fin2;split;rotate_left
  .exact p _ ⟨_,_,_,_,_,_,rfl⟩
  refine⟨ai (by show 0<=1000;decide),Z0 λA B=>?_⟩;cases A with
  |false=>exact p _ ⟨_,_,_,_,_,_,rfl⟩
  |true=>
   obtain⟨g,y,rfl⟩:=B rfl;have l:=u y (by simp);have I:jO (g++[y])=jO g+sz y.1:=by rw[jM];unfold jO;simp
   refine⟨iW y,by rw[Kk];exact uD (g.map iW) [] _ rfl,rfl,?_⟩;fin2;have f:=fm (x:=r.fdiv 5) (n:=13) (by decide);obtain⟨e,he,t⟩:=at5 r _ f.1 f.2;have mk:∀z:Int,gO z->IntMulOk z e:=λz hz=>fX (n:=8) (m:=4) (by have:=hz.1;have:=hz.2;omega) (by omega) (by decide);refine⟨⟨by decide,iA (n:=14) (by decide) (by decide)⟩,by decide,ai (by show 5<=1000;decide),by decide,_,t,?_⟩;fin2;have mx:(if(e:Int)>1 then(e:Int)else 1)=((max 1 e:Nat):Int):=by split<;>omega
   refine⟨s3,mk _ l.2.1,mk _ l.2.2.1,?_⟩;rw[mx];refine⟨fX (n:=8) (m:=4) (by have:=l.2.2.2.1;have:=l.2.2.2.2;omega) (by omega) (by decide),s4,(.pw y.1 e,y.2.1*e,y.2.2.1*e,y.2.2.2*(max 1 e:Nat)),k,rfl,λA B=>?_⟩;cases A with
   |false=>exact p _ ⟨_,_,_,_,_,_,rfl⟩
   |true=>obtain⟨F,E,Y⟩:=B rfl;have F:y.2.1*e<=k:=F;have E:y.2.2.1*e<=k:=E;have d:=q g (.pw y.1 e,y.2.1*e,y.2.2.1*e,y.2.2.2*(max 1 e:Nat)) (by rw[I];show jO g+(sz y.1+1)<=_;omega) (λz hz=>u z (by simp[hz])) ⟨⟨he,l.1⟩,⟨Uq l.2.1.1 (by omega),by show y.2.1*e<=150;omega⟩,⟨Uq l.2.2.1.1 (by omega),by show y.2.2.1*e<=150;omega⟩,⟨Uq l.2.2.2.1 (by omega),Y⟩⟩;refine⟨ai (by show 1<=1000;decide),?_⟩;rw[Kk,show mD (g.map iW++[y].map iW) none (some (-1))=g.map iW from uE _ _ (by simp) rfl];exact d
 rintro _ ⟨C,T,S,P,O,M,rfl⟩;refine aL (λj=>j=[some (.lst (L.map iW)),some (.int n),some (.lst (s.map wX)),some (.int k),some (.int w),some (.int r),C,T,S,P,O,M]) (λN p=>?_) ?_
 .unfold Mh;fin2;split;rotate_left
  .exact p _ rfl
  refine⟨ai (by show 0<=1000;decide),Z0 λA B=>?_⟩;cases A with
  |false=>exact p _ rfl
  |true=>
   obtain⟨g,y,rfl⟩:=B rfl;have l:=u y (by simp);have I:jO (g++[y])=jO g+sz y.1:=by rw[jM];unfold jO;simp
   have a1:iS ((g++[y]).map iW) (-1)=some (iW y):=by rw[Kk];exact uD (g.map iW) [] _ rfl
   have d:=q g (.ls y.1,y.2.1,y.2.2.1,y.2.2.2) (by rw[I];show jO g+(sz y.1+1)<=_;omega) (λz hz=>u z (by simp[hz])) ⟨l.1,l.2⟩;refine⟨iW y,a1,_,rfl,s2,ai (by show 1<=1000;decide),iW y,a1,(by show¬(1=0/\_);omega),(by simp),(by show 1+3<=sizeLine;exact ai (by decide)),ai (by show 1<=1000;decide),?_⟩;rw[Kk,show mD (g.map iW++[y].map iW) none (some (-1))=g.map iW from uE _ _ (by simp) rfl];exact d
 rintro _ rfl;fin2;refine⟨r,s,rfl,⟨r0,r1⟩,lx,px,λx U sx=>?_⟩;exact⟨ai (by show 1<=1000;decide),q L x (by omega) u U⟩
noncomputable def Mi:List CS:=[.set 3 (.call 0 [(.var 3),(.var 4),(.var 1),(.var 2)])]
noncomputable def Mj:List CS:=[.set 7 (.call 1 [(.ix (.str "+-*/") (.bin .Mod (.bin .Add (.blt .len [(.var 0)]) (.var 6)) (.int 4))),(.var 5),(.ix (.var 3) (.var 6))]),.iff (.call 2 [(.var 7),(.var 2)]) [.set 5 (.var 7)] []]
noncomputable def uG:List CS:=[.set 3 (.lst []),.fr [4] true (.var 0) Mi,.set 5 (.ix (.var 3) (.int 0)),.fr [6] true (.rB [(.int 1),(.blt .len [(.var 3)])]) Mj,.ret (.ix (.var 5) (.int 0))]
noncomputable def qH:aV:=λc Q _=>∃(a:List Int)(b:List (List Nat))(k:Int),c=[wI a,.lst (b.map wX),.int k]/\(1<=a.length/\a.length<=14)/\(∀x∈a,0<=x/\x<1000000)/\b.length<=3/\(∀x∈b,nH x)/\(0<=k/\k<=12)/\∀T:Tr,lS T->sz T<=27->Q (wt T)
theorem wM(L:List It)(i:Nat)(h:i<L.length):jO (L.take (i+1))=jO (L.take i)+sz L[i].1:=by rw[List.take_succ,Ee h,jM];unfold jO;simp
theorem wN(n:Nat){a b:Int}:(iU a b n).length=n:=by unfold iU;simp
theorem J2{G:Nat->W}{m:Md}(I:List W)(Q:W->Prop)(R:Addr->Prop)(h:qH I Q R):wSs (bH [uF,oM,Al]) G uG (aX m Q R) (au 8 I):=by
 obtain⟨f,q,k,rfl,⟨m1,P⟩,hm,S,M,⟨U,T⟩,y⟩:=h;show wSs _ _ uG _ [some (wI f),some (.lst (q.map wX)),some (.int k),none,none,none,none,none];unfold uG;refine aL (λd=>d=[some (wI f),some (.lst (q.map wX)),some (.int k),some (.lst []),none,none,none,none]) (λN t=>?_) ?_
 .fin2;exact⟨ai (by show 0<=1000;decide),t _ rfl⟩
 rintro _ rfl;refine aL (λd=>∃(L:List It)(e:Option W),((∀x∈L,JZ x)/\L≠[]/\jO L<=14)/\d=[some (wI f),some (.lst (q.map wX)),some (.int k),some (.lst (L.map iW)),e,none,none,none]) (λN t=>?_) ?_
 .refine wK (l:=f.map W.int) (λQ y=>?_) ?_
  .fin2;exact y
  refine fW (λi D=>∃(L:List It)(e:Option W),((∀x∈L,JZ x)/\(0<i->L≠[])/\jO L<=i)/\D=[some (wI f),some (.lst (q.map wX)),some (.int k),some (.lst (L.map iW)),e,none,none,none]) ⟨[],none,⟨(λx X=>by cases X),(λz=>by omega),Bn _⟩,rfl⟩ ?_ ?_
  .rintro i w _ N1 j ⟨L,e,⟨g,p,v⟩,rfl⟩ C;obtain⟨n,K,rfl⟩:∃n,f[i]?=some n/\w=.int n:=by rw[IH]at j;obtain⟨n,e1,e2⟩:=Kt.mp j;exact⟨n,e1,e2.symm⟩
   have E:=(GT.mp K).1;unfold Mi;fin2;exact⟨L,n,k,q,rfl,g,by omega,hm n (Kx K),S,M,⟨U,T⟩,λL' a b c=>C _ ⟨L',_,⟨a,λ_=>b,by omega⟩,rfl⟩⟩
  .rintro _ ⟨L,e,⟨g,p,v⟩,rfl⟩;rw[Fk]at p v;exact t _ ⟨L,e,⟨g,p (by omega),by omega⟩,rfl⟩
 rintro _ ⟨L,e,⟨A,O,hz⟩,rfl⟩;have u:0<L.length:=T2.mpr O;have ll:=oN L;refine aL (λd=>d=[some (wI f),some (.lst (q.map wX)),some (.int k),some (.lst (L.map iW)),e,some (iW L[0]),none,none]) (λN t=>?_) ?_
 .fin2;exact⟨_,b4 (n:=0) (by rw[IH,Ee u];rfl),t _ rfl⟩
 rintro _ rfl;refine aL (λd=>∃(x:It)(s r:Option W),(lS x.1/\sz x.1<=27)/\d=[some (wI f),some (.lst (q.map wX)),some (.int k),some (.lst (L.map iW)),e,some (iW x),s,r]) (λN t=>?_) ?_
 .refine wK (l:=iU 1 1 (L.length -1)) (λQ y=>?_) ?_
  .fin2;refine⟨⟨by decide,by decide,by omega,by rw[Fk];omega⟩,?_⟩;rw[show(((L.map iW).length:Nat) -1:Int).toNat=L.length -1 by rw[Fk];omega];exact y
  refine fW (λi D=>∃(x:It)(s r:Option W),((lS x.1/\J0 x)/\sz x.1<=jO (L.take (i+1))+i)/\D=[some (wI f),some (.lst (q.map wX)),some (.int k),some (.lst (L.map iW)),e,some (iW x),s,r]) ⟨L[0],none,none,⟨⟨(A _ (N0 u)).1,(A _ (N0 u)).2.1.1,(A _ (N0 u)).2.2.1.1,(A _ (N0 u)).2.2.2.1⟩,by rw[wM L 0 u];show _<=jO []+_+0;omega⟩,rfl⟩ ?_ ?_
  .rintro i w _ N1 j ⟨x,s,r,⟨⟨g,p⟩,v⟩,rfl⟩ C;have E:=(GT.mp j).1;rw[wN]at E;obtain rfl:w=.int ((i+1:Nat):Int):=by unfold iU at j;rw[IH,WI E]at j;have j:some (W.int (1+(i:Int)*1))=some w:=j;rw[<-Ha j,show(1+(i:Int)*1)=((i+1:Nat):Int) by omega]
   have F:i+1<L.length:=by omega
   have B:=A _ (N0 F);obtain⟨o,Z,H⟩:=F3 (((f.map W.int).length:Int)+((i+1:Nat):Int));unfold Mj;fin2;refine⟨(by show(4:Int)≠0;decide),ai (by decide+kernel),o,H,iW L[i+1],b4 (by rw[IH,Ee F];rfl),o,x,L[i+1],rfl,p,⟨B.2.1.1,B.2.2.1.1,B.2.2.2.1⟩,λa b c Y=>⟨(.op o x.1 L[i+1].1,a,b,c),k,rfl,λbb GI=>?_⟩⟩;have J:=wM L (i+1) F;cases bb with
   |false=>exact C _ ⟨x,_,_,⟨⟨g,p⟩,by rw[J];omega⟩,rfl⟩
   |true=>exact C _ ⟨(.op o x.1 L[i+1].1,a,b,c),_,_,⟨⟨⟨Z,g,B.1⟩,Y⟩,by rw[J];show sz x.1+sz L[i+1].1+1<=_;omega⟩,rfl⟩
  .rintro _ ⟨x,s,r,⟨⟨g,p⟩,v⟩,rfl⟩;rw[wN]at v;refine t _ ⟨x,s,r,⟨g,?_⟩,rfl⟩;rw[show L.length -1+1=L.length by omega,List.take_length]at v;omega
 rintro _ ⟨x,s,r,⟨g,p⟩,rfl⟩;unfold iW;fin2;exact⟨_,rfl,y _ g p⟩
noncomputable def uH:List CS:=[.iff (.or [(.cmp .Eq (.ix (.var 0) (.int 0)) (.str "+")),(.cmp .Eq (.ix (.var 0) (.int 0)) (.str "-"))]) [.ret (.int 0)] [],.iff (.or [(.cmp .Eq (.ix (.var 0) (.int 0)) (.str "*")),(.cmp .Eq (.ix (.var 0) (.int 0)) (.str "/"))]) [.ret (.int 1)] [],.ret (.Rq ["less","^","name","number"] [2,3,4,4] (.ix (.var 0) (.int 0)))]
noncomputable def ku:aV:=λa Q _=>∃T:Tr,a=[wt T]/\lS T/\Q (.int (bi T))
noncomputable def hd:Tr->Str
 |.nm _=>"name"
 |.nu _=>"number"
 |.op o _ _=>tx [o]
 |.pw _ _=>"^"
 |.ls _=>"less"
noncomputable def tl:Tr->List W
 |.nm x=>[wX x]
 |.nu n=>[.int n]
 |.op _ a b=>[wt a,wt b]
 |.pw a e=>[wt a,.int e]
 |.ls a=>[wt a]
theorem jv(T:Tr):wt T=.tup (.str (hd T)::tl T):=by cases T<;>rfl
theorem nI{w:W}{l:List W}:iS (w::l) 0=some w:=b4 (n:=0) rfl
theorem QU:("+":Str)=tx [43]:=by decide+kernel
theorem uI:("-":Str)=tx [45]:=by decide+kernel
theorem J3:("*":Str)=tx [42]:=by decide+kernel
theorem QV:("/":Str)=tx [47]:=by decide+kernel
noncomputable def gM(T:Tr)(o:Nat):Bool:=match T with
 |.op p _ _=>decide (p=o)
 |_=>false
theorem Am(T:Tr)(o:Nat)(d:o≠94:=by decide):decide (hd T=tx [o])=gM T o:=by
 have c:∀l:List Nat,l.length≠1->decide (tx l=tx [o])=false:=λl h=>DL λe=>h (by rw[j6 e];rfl);cases T with
 |op p a b=>show decide (tx [p]=tx [o])=decide (p=o);rw[gJ];exact bo.mpr ⟨λh=>(Ml h).1,λh=>by rw[h]⟩
 |nm x=>rw[show hd (.nm x)=tx [110,97,109,101] by show("name":Str)=_;decide+kernel];exact c _ (by decide)
 |nu x=>rw[show hd (.nu x)=tx [110,117,109,98,101,114] by show("number":Str)=_;decide+kernel];exact c _ (by decide)
 |ls x=>rw[show hd (.ls x)=tx [108,101,115,115] by show("less":Str)=_;decide+kernel];exact c _ (by decide)
 |pw x e=>rw[show hd (.pw x e)=tx [94] by show("^":Str)=_;decide+kernel,gJ];exact DL λh=>d (Ml h).1.symm
theorem J5{p:Nat->aV}{G:Nat->W}{m:Md}(k:List W)(Q:W->Prop)(R:Addr->Prop)(h:ku k Q R):wSs p G uH (aX m Q R) (au 1 k):=by
 obtain⟨T,rfl,q,c⟩:=h;have l:(gM T 43=true\/gM T 45=true)->bi T=0:=λh=>by
  cases T with
  |op o a b=>exact Do (h.imp Ap Ap)
  |_=>rcases h with h|h<;>cases h
 have d:¬(gM T 43=true\/gM T 45=true)->(gM T 42=true\/gM T 47=true)->bi T=1:=λn h=>by
  cases T with
  |op o a b=>exact Bi λz=>n (z.imp Bz Bz)
  |_=>rcases h with h|h<;>cases h
 show wSs _ _ uH _ [some (wt T)];rw[jv];unfold uH;fin2;refine⟨_,nI,?_⟩;fin2;rw[QU,Am T 43];by_cases j:gM T 43=true
 .rw[Do j];rw[l (.inl j)]at c;exact c
 rw[Bi j];refine⟨_,nI,?_⟩;fin2;rw[uI,Am T 45];by_cases i:gM T 45=true
 .rw[Do i];rw[l (.inr i)]at c;exact c
 rw[Bi i];refine⟨_,nI,?_⟩;fin2;rw[J3,Am T 42];by_cases g:gM T 42=true
 .rw[Do g];rw[d (by rintro(z|z)<;>contradiction) (.inl g)]at c;exact c
 rw[Bi g];refine⟨_,nI,?_⟩;fin2;rw[QV,Am T 47];by_cases f:gM T 47=true
 .rw[Do f];rw[d (by rintro(z|z)<;>contradiction) (.inr f)]at c;exact c
 rw[Bi f];refine⟨_,nI,?_⟩;fin2;cases T with
 |nm x=>exact⟨4,by show ly "name" _ _=_;decide+kernel,c⟩
 |nu x=>exact⟨4,by show ly "number" _ _=_;decide+kernel,c⟩
 |ls x=>exact⟨2,by show ly "less" _ _=_;decide+kernel,c⟩
 |pw x e=>exact⟨3,by show ly "^" _ _=_;decide+kernel,c⟩
 |op o a b=>
  rcases q.1 with e|e|e|e
  .exact absurd (Bz e) j
  .exact absurd (Bz e) i
  .exact absurd (Bz e) g
  .exact absurd (Bz e) f
noncomputable def oO:List CS:=[.iff (.cmp .Lt (.call 0 [(.var 0)]) (.var 1)) [.ret (.bin .Add (.bin .Add (.str "(") (.call 1 [(.var 0)])) (.str ")"))] [],.ret (.call 1 [(.var 0)])]
noncomputable def uJ:List CS:=[.iff (.or [(.cmp .Eq (.ix (.var 0) (.int 0)) (.str "name")),(.cmp .Eq (.ix (.var 0) (.int 0)) (.str "number"))]) [.ret (.blt .str [(.ix (.var 0) (.int 1))])] [],.iff (.cmp .Eq (.ix (.var 0) (.int 0)) (.str "less")) [.ret (.bin .Add (.str "-") (.call 0 [(.ix (.var 0) (.int 1)),(.int 2)]))] [],.iff (.cmp .Eq (.ix (.var 0) (.int 0)) (.str "^")) [.ret (.bin .Add (.bin .Add (.call 0 [(.ix (.var 0) (.int 1)),(.int 4)]) (.str "^")) (.blt .str [(.ix (.var 0) (.int 2))]))] [],.set 1 (.call 1 [(.var 0)]),.ret (.bin .Add (.bin .Add (.bin .Add (.bin .Add (.call 0 [(.ix (.var 0) (.int 1)),(.var 1)]) (.str " ")) (.ix (.var 0) (.int 0))) (.str " ")) (.call 0 [(.ix (.var 0) (.int 2)),(.bin .Add (.var 1) (.int 1))]))]
theorem Mm:("(":Str)=tx [40]:=by decide+kernel
theorem Mn:(")":Str)=tx [41]:=by decide+kernel
theorem F5{w x:W}{l:List W}:iS (w::x::l) 1=some x:=b4 (n:=1) rfl
theorem UT{w x y:W}{l:List W}:iS (w::x::y::l) 2=some y:=b4 (n:=2) rfl
noncomputable def kd:Tr->Nat
 |.nm _=>0
 |.nu _=>1
 |.op _ _ _=>4
 |.pw _ _=>3
 |.ls _=>2
theorem XC(T:Tr)(c:lS T):decide (hd T="name")=(kd T==0)/\decide (hd T="number")=(kd T==1)/\decide (hd T="less")=(kd T==2)/\decide (hd T="^")=(kd T==3):=by
 cases T with
 |nm x=>show decide (("name":Str)="name")=true/\decide (("name":Str)="number")=false/\decide (("name":Str)="less")=false/\decide (("name":Str)="^")=false;decide+kernel
 |nu x=>show decide (("number":Str)="name")=false/\decide (("number":Str)="number")=true/\decide (("number":Str)="less")=false/\decide (("number":Str)="^")=false;decide+kernel
 |ls x=>show decide (("less":Str)="name")=false/\decide (("less":Str)="number")=false/\decide (("less":Str)="less")=true/\decide (("less":Str)="^")=false;decide+kernel
 |pw x e=>show decide (("^":Str)="name")=false/\decide (("^":Str)="number")=false/\decide (("^":Str)="less")=false/\decide (("^":Str)="^")=true;decide+kernel
 |op o a b=>show decide (tx [o]="name")=false/\decide (tx [o]="number")=false/\decide (tx [o]="less")=false/\decide (tx [o]="^")=false;rcases c.1 with rfl|rfl|rfl|rfl<;>decide+kernel
theorem oQ{n:Nat}(h:n<10^30):((n:Int)).natAbs.log2<1920:=by
 rcases Y2 n with e|e
 .rw[e];decide
 .rw[Int.natAbs_natCast];exact FM ((W3 (k:=100) (by omega)).mpr (FM h (by decide))) (by decide)
section
variable{P:Program}{w:World}{K:Frag}{mg:Str->Option Value}{base:Heap}{tp:Nat->Stmt}{DD:DT}{ZZ:List Str}
abbrev aJ:Md:=.io qx
abbrev BU:Md:=.io Xs
structure XD(K:Frag)(mg:Str->Option Value):Prop where
 fg:Gn K mg "FIGURES" (.str "0123456789")
 lt:Gn K mg "LETTERS" (.str "abcdefghijklmnopqrstuvwxyz")
 sg:Gn K mg "MOST_SIGNS" (.int 1000)
 bk:Gn K mg "MOST_BRACKETS" (.int 30)
 mi:Gn K mg "MOST_MINUSES" (.int 30)
 fi:Gn K mg "MOST_FIGURES" (.int 30)
 le:Gn K mg "MOST_LETTERS" (.int 8)
 ef:Gn K mg "MOST_EXPONENT_FIGURES" (.int 2)
 ex:Gn K mg "MOST_EXPONENT" (.int 12)
theorem uK{x:Str}{v:V}{u:W}(h:∃z,mg x=some z/\RelV v z)(a:∀B H,Rep K B H u v)(b:∀C,u≠.cls C):Gn K mg x u:=by obtain⟨z,d,c⟩:=h;exact⟨⟨z,v,d,c,a⟩,λC e=>(b C e).elim⟩
structure RdM(K:Frag)(C:Addr)(ZZ:List Str)where
 s:Nat->Stmt
 f:Nat->Addr
 d:Nat->FuncData
 D0:Dm K C "follows" "Reader.follows" (s 0) (gZ (s 0)) (f 0) (d 0)
 D1:Dm K C "take_sum" "Reader.take_sum" (s 1) (gZ (s 1)) (f 1) (d 1)
 D2:Dm K C "take_term" "Reader.take_term" (s 2) (gZ (s 2)) (f 2) (d 2)
 D3:Dm K C "take_sign" "Reader.take_sign" (s 3) (gZ (s 3)) (f 3) (d 3)
 D4:Dm K C "take_factor" "Reader.take_factor" (s 4) (gZ (s 4)) (f 4) (d 4)
 D5:Dm K C "take_exponent" "Reader.take_exponent" (s 5) (gZ (s 5)) (f 5) (d 5)
 D6:Dm K C "take_atom" "Reader.take_atom" (s 6) (gZ (s 6)) (f 6) (d 6)
 D7:Dm K C "take_brackets" "Reader.take_brackets" (s 7) (gZ (s 7)) (f 7) (d 7)
 D8:Dm K C "take_run" "Reader.take_run" (s 8) (gZ (s 8)) (f 8) (d 8)
 k0:qA ZZ (s 0) 2 2 [(0,qx)] [] [] [] [] aJ gI=true
 k1:qA ZZ (s 1) 1 2 [(0,qx)] ["take_term","follows","take_sign"] [] [aJ,aJ,aJ] [(0,0),(1,0),(2,0)] aJ (iC " + " " - ")=true
 k2:qA ZZ (s 2) 1 2 [(0,qx)] ["take_factor","follows","take_sign"] [] [aJ,aJ,aJ] [(0,0),(1,0),(2,0)] aJ (iC " * " " / ")=true
 k3:qA ZZ (s 3) 1 2 [(0,qx)] [] [] [] [] aJ dZ=true
 k4:qA ZZ (s 4) 1 2 [(0,qx)] ["take_run","take_atom","follows","take_exponent"] ["MOST_MINUSES"] [aJ,aJ,aJ,aJ] [(0,1),(1,1),(2,1),(3,1)] aJ rO=true
 k5:qA ZZ (s 5) 1 2 [(0,qx)] ["whole_number","take_run"] ["FIGURES","MOST_EXPONENT_FIGURES","MOST_EXPONENT"] [.s,aJ] [(1,3)] aJ nG=true
 k6:qA ZZ (s 6) 1 2 [(0,qx)] ["follows","take_brackets","take_run","whole_number","take_run"] ["LETTERS","FIGURES","MOST_FIGURES","MOST_LETTERS"] [aJ,aJ,aJ,.s,BU] [(0,4),(1,4),(2,4),(4,4)] aJ wD=true
 k7:qA ZZ (s 7) 1 1 [(0,qx)] ["take_sum","follows"] ["MOST_BRACKETS"] [aJ,aJ] [(0,1),(1,1)] aJ nF=true
 k8:qA ZZ (s 8) 2 3 [(0,qx)] [] [] [] [] aJ cJ=true
 k9:qA ZZ (s 8) 2 3 [(0,Xs)] [] [] [] [] BU cJ=true
section
variable{C:Addr}(Z:∀x∈ZZ,mg x=none)(g:XD K mg)(M:RdM K C ZZ)(hw:Cn P w K mg base 1 "whole_number" .s rN)
include Z in
end
structure RE(K:Frag)(C:Addr)(ZZ:List Str)where
 s:Nat->Stmt
 f:Nat->Addr
 d:Nat->FuncData
 D0:Dm K C "follows" "Reader.follows" (s 0) (gZ (s 0)) (f 0) (d 0)
 D1:Dm K C "take_sum" "Reader.take_sum" (s 1) (gZ (s 1)) (f 1) (d 1)
 D2:Dm K C "take_term" "Reader.take_term" (s 2) (gZ (s 2)) (f 2) (d 2)
 D3:Dm K C "take_sign" "Reader.take_sign" (s 3) (gZ (s 3)) (f 3) (d 3)
 D4:Dm K C "take_factor" "Reader.take_factor" (s 4) (gZ (s 4)) (f 4) (d 4)
 D5:Dm K C "take_exponent" "Reader.take_exponent" (s 5) (gZ (s 5)) (f 5) (d 5)
 D6:Dm K C "take_atom" "Reader.take_atom" (s 6) (gZ (s 6)) (f 6) (d 6)
 D7:Dm K C "take_brackets" "Reader.take_brackets" (s 7) (gZ (s 7)) (f 7) (d 7)
 D8:Dm K C "take_run" "Reader.take_run" (s 8) (gZ (s 8)) (f 8) (d 8)
 k0:qA ZZ (s 0) 2 2 [(0,qx)] [] [] [] [] aJ gI=true
 k1:qA ZZ (s 1) 1 2 [(0,qx)] ["take_term","follows","take_sign"] [] [aJ,aJ,aJ] [(0,0),(1,0),(2,0)] aJ (iC " + " " - ")=true
 k2:qA ZZ (s 2) 1 2 [(0,qx)] ["take_factor","follows","take_sign"] [] [aJ,aJ,aJ] [(0,0),(1,0),(2,0)] aJ (iC " * " " / ")=true
 k3:qA ZZ (s 3) 1 2 [(0,qx)] [] [] [] [] aJ dZ=true
 k4:qA ZZ (s 4) 1 2 [(0,qx)] ["take_run","take_atom","follows","take_exponent"] ["MOST_MINUSES","NoText"] [aJ,aJ,aJ,aJ] [(0,2),(1,2),(2,2),(3,2)] aJ oK=true
 k5:qA ZZ (s 5) 1 2 [(0,qx)] ["whole_number","take_run"] ["FIGURES","MOST_EXPONENT_FIGURES","MOST_EXPONENT","NoText"] [.s,aJ] [(1,4)] aJ oJ=true
 k6:qA ZZ (s 6) 1 2 [(0,qx)] ["follows","take_brackets","take_run","whole_number","take_run"] ["LETTERS","FIGURES","MOST_FIGURES","MOST_LETTERS","NoText"] [aJ,aJ,aJ,.s,BU] [(0,5),(1,5),(2,5),(4,5)] aJ lG=true
 k7:qA ZZ (s 7) 1 1 [(0,qx)] ["take_sum","follows"] ["MOST_BRACKETS","NoText"] [aJ,aJ] [(0,2),(1,2)] aJ oH=true
 k8:qA ZZ (s 8) 2 3 [(0,qx)] [] [] [] [] aJ cJ=true
 k9:qA ZZ (s 8) 2 3 [(0,Xs)] [] [] [] [] BU cJ=true
section
variable{C E:Addr}(Z:∀x∈ZZ,mg x=none)(g:XD K mg)(gE:Gn K mg "NoText" (.cls E))(M:RE K C ZZ)(hw:Cn P w K mg base 1 "whole_number" .s (QK E))
include Z in
theorem gP(M:RE K C ZZ):Mt P w K mg base C 1 "follows" aJ (bV C):=
 qB (k:=0) M.D0 rfl M.k0 (iP (C:=C) (es:=[]) (Ss:=[]) (gn:=[]) (Gs:=[]) Z trivial trivial rfl) (λa P R h=>by obtain⟨_,_,_,_,_,rfl,_⟩:=h;rfl) BP
include Z in
theorem F6(M:RE K C ZZ):Mt P w K mg base C 1 "take_sign" aJ (dQ C):=
 qB (k:=0) M.D3 rfl M.k3 (iP (C:=C) (es:=[]) (Ss:=[]) (gn:=[]) (Gs:=[]) Z trivial trivial rfl) (λa P R h=>by obtain⟨_,_,_,_,_,_,_,rfl,_⟩:=h;rfl) wz
include Z in
theorem F7(M:RE K C ZZ):Mt P w K mg base C 1 "take_run" aJ (bw C):=
 qB (k:=0) M.D8 rfl M.k8 (iP (C:=C) (es:=[]) (Ss:=[]) (gn:=[]) (Gs:=[]) Z trivial trivial rfl) (λa P R h=>by obtain⟨_,_,_,_,_,_,rfl,_⟩:=h;rfl) qy
include Z in
theorem QW(M:RE K C ZZ):Mt P w K mg base C 1 "take_run" BU (bw C):=
 qB (k:=0) M.D8 rfl M.k9 (iP (C:=C) (es:=[]) (Ss:=[]) (gn:=[]) (Gs:=[]) Z trivial trivial rfl) (λa P R h=>by obtain⟨_,_,_,_,_,_,rfl,_⟩:=h;rfl) qy
theorem uL{p:Pr}{d:Nat}(a:List W)(P:W->Prop)(R:Addr->Prop)(h:tw p d C E a P R):a.length=1:=by obtain⟨_,_,_,_,rfl,_⟩:=h;rfl
include Z g gE M hw in
theorem UU:Mt P w K mg base C 2 "take_exponent" aJ (UL C E):=
 qB (k:=1) M.D5 rfl M.k5 (iP (C:=C) (es:=[("whole_number",.s,false),("take_run",aJ,true)]) (Ss:=[QK E,bw C]) (gn:=["FIGURES","MOST_EXPONENT_FIGURES","MOST_EXPONENT","NoText"]) (Gs:=[.str "0123456789",.int 2,.int 12,.cls E]) Z ⟨hw,F7 Z M,trivial⟩ ⟨g.fg,g.ef,g.ex,gE,trivial⟩ rfl) (λa P R h=>by obtain⟨_,_,_,_,rfl,_⟩:=h;rfl) JW
include Z g gE M hw in
theorem F8{d:Nat}(e:Mt P w K mg base C (1+5*d) "take_sum" aJ (QM d C E)):Mt P w K mg base C (6+5*d) "take_sum" aJ (tw (gw d) d C E):=by
 have i:Mt P w K mg base C (2+5*d) "take_brackets" aJ (VI d C E):=by rw[show 2+5*d=(1+5*d)+1 by omega];exact qB (k:=1+5*d) M.D7 rfl M.k7 (iP (C:=C) (es:=[("take_sum",aJ,true),("follows",aJ,true)]) (Ss:=[QM d C E,bV C]) (gn:=["MOST_BRACKETS","NoText"]) (Gs:=[.int 30,.cls E]) Z ⟨e,(gP Z M).up (by omega),trivial⟩ ⟨g.bk,gE,trivial⟩ rfl) (λm P R h=>by obtain⟨_,_,_,_,rfl,_⟩:=h;rfl) JV
 have j:Mt P w K mg base C (3+5*d) "take_atom" aJ (tw (b8 (ng d)) d C E):=by rw[show 3+5*d=(2+5*d)+1 by omega];exact qB (k:=2+5*d) M.D6 rfl M.k6 (iP (C:=C) (es:=[("follows",aJ,true),("take_brackets",aJ,true),("take_run",aJ,true),("whole_number",.s,false),("take_run",BU,true)]) (Ss:=[bV C,VI d C E,bw C,QK E,bw C]) (gn:=["LETTERS","FIGURES","MOST_FIGURES","MOST_LETTERS","NoText"]) (Gs:=[.str "abcdefghijklmnopqrstuvwxyz",.str "0123456789",.int 30,.int 8,.cls E]) Z ⟨(gP Z M).up (by omega),i,(F7 Z M).up (by omega),hw.up (by omega),(QW Z M).up (by omega),trivial⟩ ⟨g.lt,g.fg,g.fi,g.le,gE,trivial⟩ rfl) uL FJ
 have a:=uB (Mc d);have b:=yC a;have l:=lF Xw b;have f:Mt P w K mg base C (4+5*d) "take_factor" aJ (tw (kq (b8 (ng d))) d C E):=by rw[show 4+5*d=(3+5*d)+1 by omega];exact qB (k:=3+5*d) M.D4 rfl M.k4 (iP (C:=C) (es:=[("take_run",aJ,true),("take_atom",aJ,true),("follows",aJ,true),("take_exponent",aJ,true)]) (Ss:=[bw C,tw (b8 (ng d)) d C E,bV C,UL C E]) (gn:=["MOST_MINUSES","NoText"]) (Gs:=[.int 30,.cls E]) Z ⟨(F7 Z M).up (by omega),j,(gP Z M).up (by omega),(UU Z g gE M hw).up (by omega),trivial⟩ ⟨g.mi,gE,trivial⟩ rfl) uL (JX a)
 have c:Mt P w K mg base C (5+5*d) "take_term" aJ (tw (dj (kq (b8 (ng d))) 42 47) d C E):=by rw[show 5+5*d=(4+5*d)+1 by omega];exact qB (k:=4+5*d) M.D2 rfl M.k2 (iP (C:=C) (es:=[("take_factor",aJ,true),("follows",aJ,true),("take_sign",aJ,true)]) (Ss:=[tw (kq (b8 (ng d))) d C E,bV C,dQ C]) (gn:=[]) (Gs:=[]) Z ⟨f,(gP Z M).up (by omega),(F6 Z M).up (by omega),trivial⟩ trivial rfl) uL (tD b (wC 42 _) (wC 47 _))
 rw[show 6+5*d=(5+5*d)+1 by omega,sum_in];exact qB (k:=5+5*d) M.D1 rfl M.k1 (iP (C:=C) (es:=[("take_term",aJ,true),("follows",aJ,true),("take_sign",aJ,true)]) (Ss:=[tw (dj (kq (b8 (ng d))) 42 47) d C E,bV C,dQ C]) (gn:=[]) (Gs:=[]) Z ⟨c,(gP Z M).up (by omega),(F6 Z M).up (by omega),trivial⟩ trivial rfl) uL (tD l (wC 43 _) (wC 45 _))
include Z g gE M hw in
theorem Mp:∀d:Nat,Mt P w K mg base C (6+5*d) "take_sum" aJ (tw (gw d) d C E)
 |0=>F8 Z g gE M hw (d:=0) (UO M.D1)
 |d+1=>F8 Z g gE M hw (d:=d+1) (by rw[show 1+5*(d+1)=6+5*d by omega];exact Mp d)
end
end
noncomputable def Ao(r:Rs)(Q:Tr->List Nat->Prop)(N:Prop):Prop:=match r with
 |some (t,q)=>Q t q
 |none=>N
theorem F9(a r:List Nat)(n:Nat):bT (a++r) (some (a.length:Int)) (some ((a.length:Int)+(n:Nat)))=r.take n:=by
 unfold bT;have c:HT.bX (a++r).length 0 (some (a.length:Int))=a.length:=by unfold HT.bX;dsimp only;rw[Bi (by omega),I0,AN];omega
 have d:(a++r).length=a.length+r.length:=by simp
 have b:HT.bX (a++r).length (a++r).length (some ((a.length:Int)+(n:Nat)))=a.length+min n r.length:=by unfold HT.bX;dsimp only;rw[Bi (by omega)];omega
 rw[c,b,UV,Pl];rcases Nat.le_total n r.length with h|h
 .rw[Nat.min_eq_left h]
 .rw[Nat.min_eq_right h,U2 (Bn _),U2 h]
theorem QX(t:Tr){Q:W->Prop}(h:Q (.bl true)):dJ .IsNot (wt t) .aG Q:=by rw[jv];exact h
theorem uM(t:Tr){Q:W->Prop}(h:Q (.bl false)):dJ .Is (wt t) .aG Q:=by rw[jv];exact h
theorem QY{Q:W->Prop}(h:Q (.bl false)):dJ .IsNot .aG .aG Q:=h
theorem qI{Q:W->Prop}(h:Q (.bl true)):dJ .Is .aG .aG Q:=h
theorem s2'{a b:W}:[a,b].length<=sizeLine:=s2
theorem QZ{a b c:W}:[a,b,c].length<=sizeLine:=ai (by show 3<=1000;decide)
noncomputable def CA:aV:=λb Q _=>∃(a r sg:List Nat),b=[wX (a++r),.int (a.length:Nat),.str (tx sg)]/\(a++r).length<=1000/\Q (wX (rn sg r))
noncomputable def yJ:List CS:=[.set 3 (.var 1),.Lw (.and [(.cmp .Lt (.var 3) (.blt .len [(.var 0)])),(.cmp .In (.ix (.var 0) (.var 3)) (.var 2))]) [.set 3 (.bin .Add (.var 3) (.int 1))],.ret (.slt (.var 0) (.var 1) (.var 3))]
theorem Q0{n:Nat->aV}{G:Nat->W}{m:Md}(j:List W)(Q:W->Prop)(R:Addr->Prop)(h:CA j Q R):wSs n G yJ (aX m Q R) (au 4 j):=by
 obtain⟨a,r,sg,rfl,d,o⟩:=h;have l:=Hb Dr (cy sg r);have t:(a++r).length=a.length+r.length:=AN;rw[AN]at l;show wSs _ _ yJ _ [some _,some _,some _,none];unfold yJ;fin2;refine ux (α:=Nat) (λk=>[some (wX (a++r)),some (.int (a.length:Nat)),some (.str (tx sg)),some (.int ((a.length+k:Nat)))]) (λk=>k<=(rn sg r).length) (λk=>(rn sg r).length -k) 0 rfl (NM _) λk u=>?_;have b:k=(rn sg r).length->(aX m Q R).rt (wX (bT (a++r) (some (a.length:Int)) (some ((a.length+k:Nat):Int)))):=λe=>by
  have s:((a.length+k:Nat):Int)=(a.length:Int)+(k:Nat):=by omega
  rw[s,F9,e];have:r.take (rn sg r).length=rn sg r:=by have h:=Hb (List.take (rn sg r).length) (cy sg r);rw[UM]at h;exact h.symm
  rw[this];exact o
 unfold wX;fin2;refine⟨ai d,?_⟩;by_cases v:a.length+k<(a++r).length
 .rw[Bz (by omega)];fin2;have f:∃c,r[k]?=some c/\((k<(rn sg r).length/\c∈sg)\/(k=(rn sg r).length/\c∉sg)):=by
   rcases RZ k (rn sg r).length with z|z
   .refine⟨(rn sg r)[k],?_,.inl ⟨z,ju sg r _ (N0 z)⟩⟩;have:(rn sg r++rs sg r)[k]?=some (rn sg r)[k]:=by rw[On z,Ee z]
    rw[cy]at this;exact this
   .have e:k=(rn sg r).length:=by omega
    cases i:rs sg r with
    |nil=>rw[i,CC]at l;omega
    |cons c q=>
     refine⟨c,?_,.inr ⟨e,Fx sg r c q i⟩⟩;have:(rn sg r++rs sg r)[k]?=some c:=by rw[Gc z,e,i];simp
     rw[cy]at this;exact this
  obtain⟨c,p,g⟩:=f;refine⟨ai d,c,b4 (by rw[Gc (by omega),Pl];exact p),c,rfl,?_⟩;rcases g with⟨z,y⟩|⟨z,y⟩
  .refine jq (λ_=>?_) (λq=>absurd y (of_decide_eq_false q));fin2;exact⟨k+1,rfl,by omega,by show(rn sg r).length -(k+1)<(rn sg r).length -k;omega⟩
  .refine jq (λq=>absurd (Ap q) y) (λ_=>?_);fin2;exact⟨ai d,b z⟩
 .rw[DL (by omega)];fin2;refine jq (λz=>by cases z) (λ_=>?_);fin2;exact⟨ai d,b (by omega)⟩
noncomputable def Sat(p:Pr)(d:Nat):aV:=λb Q _=>∃a r:List Nat,b=[wX (a++r),.int (a.length:Nat),.int (30 -(d:Nat))]/\(a++r).length<=1000/\Ao (p r) (λt q=>Q (.tup [wt t,.int ((a++r).length -q.length:Nat)])) (∀j:Int,Q (.tup [.aG,.int j]))
noncomputable def wO(a s2:Str):List CS:=[.Cs [3,1] (.call 0 [(.var 0),(.var 1),(.var 2)]),.Lw (.and [(.cmp .IsNot (.var 3) .aG),(.cmp .In (.slt (.var 0) (.var 1) (.bin .Add (.var 1) (.int 3))) (.lst [(.str a),(.str s2)]))]) [.set 4 (.ix (.var 0) (.bin .Add (.var 1) (.int 1))),.Cs [5,1] (.call 0 [(.var 0),(.bin .Add (.var 1) (.int 3)),(.var 2)]),.iff (.cmp .Is (.var 5) .aG) [.ret (.tup [.aG,(.var 1)])] [],.set 3 (.tup [(.var 4),(.var 3),(.var 5)])],.ret (.tup [(.var 3),(.var 1)])]
theorem UW{o1 o2:Nat}{r:List Nat}:decide (tx (r.take 3)∈[tx [32,o1,32],tx [32,o2,32]])=(Cz o1 o2 r).isSome:=by
 cases e:Cz o1 o2 r with
 |none=>
  refine DL λh=>?_;have c:=FG e;have a:∀o,o=o1\/o=o2->r.take 3≠[32,o,32]:=λo b z=>by have:=List.take_append_drop 3 r;rw[z]at this;exact c o (r.drop 3) b this.symm
  rcases FC.mp h with h|h
  .exact a o1 (.inl rfl) (j6 h)
  .exact a o2 (.inr rfl) (j6 (FR.mp h))
 |some x=>
  obtain⟨o,q⟩:=x;obtain⟨rfl,b⟩:=lE e;refine Bz ?_;show tx [32,o,32]∈_;rcases b with rfl|rfl
  .exact BM
  .exact B1 _ BM
theorem Mq{l d o1 o2:Nat}{B s2:Str}{G:Nat->W}{m:Md}{p:Pr}(P:uA l p)(e1:B=tx [32,o1,32])(e2:s2=tx [32,o2,32])
 (M:List W)(Q:W->Prop)(R:Addr->Prop)(h:Sat (dj p o1 o2) d M Q R):wSs (bH [Sat p d]) G (wO B s2) (aX m Q R) (au 6 M):=by
 obtain⟨e,s,rfl,g,c⟩:=h;show wSs _ _ (wO B s2) _ [some _,some _,some _,none,none,none];generalize i:dj p o1 o2 s=A at c;generalize f:e++s=a at g c⊢;unfold wO;fin2;refine⟨e,s,by rw[f],by rw[f];exact g,?_⟩;rw[f];unfold dj at i;cases J:p s with
 |none=>rw[J]at i;subst i;refine λj=>⟨rfl,?_⟩;fin2;refine ux (α:=Unit) (λ_=>[some (wX a),some (.int j),some (.int (30 -(d:Nat))),some .aG,none,none]) (λ_=>True) (λ_=>0) () rfl trivial λ_ _=>?_;fin2;refine QY ?_;fin2;refine jq (λz=>by cases z) λ_=>?_;fin2;exact⟨s2',c j⟩
 |some x=>
  obtain⟨t,r⟩:=x;rw[J]at i;obtain⟨T,S,z1,z2⟩:=(P _ _ _ J).sz;refine⟨rfl,?_⟩;fin2;refine⟨λm L=>∃(b r:List Nat)(t:Tr)(O N:Option W)(n:Nat),b++r=a/\L=[some (wX a),some (.int (b.length:Nat)),some (.int (30 -(d:Nat))),some (wt t),O,N]/\r.length<=n/\gK p o1 o2 n t r=A/\m=r.length,⟨r.length,e++T,r,t,none,none,r.length,by rw[<-f,S,Fu],?_,Bn _,i,rfl⟩,?_⟩
  .rw[<-f,S,<-Fu,len_app]
  rintro m' L ⟨b,C,E,O,N,n,D,rfl,Y,H,rfl⟩;fin2;refine QX E ?_;fin2;have c3:bT a (some (b.length:Int)) (some ((b.length:Int)+3))=C.take 3:=by rw[<-D];exact F9 b C 3
  unfold wX;fin2;rw[c3];refine⟨ai g,s2',[B,s2],rfl,?_⟩;rw[e1,e2,UW];cases K:Cz o1 o2 C with
  |none=>
   fin2;rw[Aj K]at H;subst H;have e3:a.length -C.length=b.length:=by rw[<-D,len_app]
   unfold Ao at c;dsimp only at c;rw[e3]at c;exact⟨s2',c⟩
  |some y=>
   obtain⟨o,q⟩:=y;obtain⟨rfl,ho⟩:=lE K;obtain⟨U,rfl,X,k⟩:=wG (p:=p) K Y E;rw[H]at k;have w:(b++[32,o,32])++q=a:=by rw[<-D];simp
   fin2;refine⟨_,λ_ z=>z,?_⟩;fin2;refine⟨ai g,o,?_,?_⟩
   .have e5:(b.length:Int)+1=((b.length+1:Nat):Int):=by omega
    rw[e5];exact b4 (by rw[<-D,Gc (by omega),Pl];rfl)
   fin2;refine⟨b++[32,o,32],q,by rw[w];simp[wX],by rw[w];exact g,?_⟩;rw[w];cases I:p q with
   |none=>rw[I]at k;subst k;refine λj=>⟨rfl,?_⟩;fin2;refine qI ?_;fin2;exact⟨s2',c j⟩
   |some y=>
    obtain⟨u,F⟩:=y;rw[I]at k;obtain⟨v,ev,y1,y2⟩:=(P _ _ _ I).sz;refine⟨rfl,?_⟩;fin2;refine uM u ?_;fin2;refine⟨QZ,F.length,by simp only[A0];omega,b++[32,o,32]++v,F,.op o E u,some (.str (tx [o])),some (wt u),U,by rw[Fu,<-ev,w],?_,by omega,k.symm,rfl⟩;have Z:a.length -F.length=(b++[32,o,32]++v).length:=by rw[<-w,ev,<-Fu,len_app]
    rw[Z];rfl
noncomputable def J6(a:Pr):Pr:=λr=>ko (a r)
theorem Ga{a r sg:List Nat}{Q:W->Prop}{R:Addr->Prop}(c:(a++r).length<=1000)(b:Q (wX (rn sg r))):CA [wX (a++r),.int (a.length:Nat),.str (tx sg)] Q R:=⟨a,r,sg,rfl,c,b⟩
noncomputable def uN:List CS:=[.set 3 (.blt .len [(.call 0 [(.var 0),(.var 1),(.str "-")])]),.Cs [4,1] (.call 1 [(.var 0),(.bin .Add (.var 1) (.var 3)),(.var 2)]),.iff (.or [(.cmp .Is (.var 4) .aG),(.cmp .Gt (.var 3) (.int 30))]) [.ret (.tup [.aG,(.var 1)])] [],.fr [5] true (.rB [(.var 3)]) [.set 4 (.tup [(.str "less"),(.var 4)])],.ret (.tup [(.var 4),(.var 1)])]
theorem Q2{d:Nat}{G:Nat->W}{m:Md}{a:Pr}(o:List W)(Q:W->Prop)(R:Addr->Prop)(h:Sat (kq a) d o Q R):wSs (bH [CA,Sat (J6 a) d]) G uN (aX m Q R) (au 6 o):=by
 obtain⟨b,s,rfl,e,c⟩:=h;have p:=Hb Dr (cy [45] s);rw[AN]at p;generalize l:(rn [45] s).length=k at p;have n:(b++rn [45] s)++rs [45] s=b++s:=by rw[Fu,cy]
 have v:b.length+s.length<=1000:=by rw[AN]at e;exact e
 show wSs _ _ uN _ [some _,some _,some _,none,none,none];unfold uN;fin2;rw[show("-":Str)=tx [45] by decide+kernel];refine Ga e ?_;unfold wX;fin2;rw[l];refine⟨ai (by omega),?_⟩;refine⟨b++rn [45] s,rs [45] s,by rw[n,AN,l];simp[wX],by rw[n];exact e,?_⟩;rw[n];show Ao (ko (a (rs [45] s))) _ _;unfold kq at c;rw[l]at c;cases r:ko (a (rs [45] s))with
 |none=>
  rw[r]at c;have c:∀j:Int,Q (.tup [.aG,.int j]):=by split at c<;>exact c
  refine λj=>⟨rfl,?_⟩;fin2;refine qI ?_;fin2;exact⟨s2',c j⟩
 |some x=>
  obtain⟨t,q⟩:=x;rw[r]at c;refine⟨rfl,?_⟩;fin2;refine uM t ?_;fin2;by_cases u:k<=30
  .rw[Do u]at c;have c:Q (.tup [wt (Ad k t),.int ((b++s).length -q.length:Nat)]):=c;rw[DL (by omega)];fin2;refine⟨by omega,by omega,?_⟩;rw[I0];refine fW (λi f=>∃g,f=[some (.str (tx (b++s))),some (.int ((b++s).length -q.length:Nat)),some (.int (30 -(d:Nat))),some (.int (k:Nat)),some (wt (Ad i t)),g]) ⟨none,rfl⟩ ?_ ?_
   .rintro i w f N z ⟨g,rfl⟩ y;fin2;exact⟨s2',y _ ⟨_,rfl⟩⟩
   .rintro f ⟨g,rfl⟩;fin2;rw[jh];exact⟨s2',c⟩
  .rw[Bi u]at c;rw[Bz (by omega)];fin2;exact⟨s2',c _⟩
noncomputable def uO:List CS:=[.Cs [3,1] (.call 0 [(.var 0),(.var 1),(.var 2)]),.iff (.or [(.cmp .Is (.var 3) .aG),(.cmp .NotEq (.slt (.var 0) (.var 1) (.bin .Add (.var 1) (.int 1))) (.str "^"))]) [.ret (.tup [(.var 3),(.var 1)])] [],.set 4 (.call 1 [(.var 0),(.bin .Add (.var 1) (.int 1)),(.str "0123456789")]),.iff (.or [(.cmp .Eq (.var 4) (.str "")),(.cmp .Gt (.blt .len [(.var 4)]) (.int 2)),(.and [(.cmp .Eq (.ix (.var 4) (.int 0)) (.str "0")),(.cmp .NotEq (.var 4) (.str "0"))]),(.cmp .Gt (.blt .int [(.var 4)]) (.int 12))]) [.ret (.tup [.aG,(.var 1)])] [],.ret (.tup [(.tup [(.str "^"),(.var 3),(.blt .int [(.var 4)])]),(.bin .Add (.bin .Add (.var 1) (.int 1)) (.blt .len [(.var 4)]))])]
theorem take1{q:List Nat}{c:Nat}:decide (tx (q.take 1)=tx [c])=true↔∃r,q=c::r:=by
 rw[P2];cases q with
 |nil=>exact⟨λh=>(by cases j6 h),λ⟨r,h⟩=>(by cases h)⟩
 |cons x q=>refine⟨λh=>?_,λ⟨r,h⟩=>by cases h;rfl⟩;have:=j6 h;cases this;exact⟨q,rfl⟩
theorem Gb{a b c:List Nat}(d:b++c=a):bT a (some (b.length:Int)) (some ((b.length:Int)+1))=c.take 1:=by rw[<-d];exact F9 b c 1
theorem Q3{d:Nat}{G:Nat->W}{m:Md}{a:Pr}(T:uA 4 a)(I:List W)(Q:W->Prop)(R:Addr->Prop)(h:Sat (J6 a) d I Q R):wSs (bH [Sat a d,CA]) G uO (aX m Q R) (au 5 I):=by
 obtain⟨b,s,rfl,y,i⟩:=h;have i:Ao (ko (a s)) (λt q=>Q (.tup [wt t,.int ((b++s).length -q.length:Nat)])) (∀j:Int,Q (.tup [.aG,.int j])):=i;generalize w:b++s=g at y i⊢;show wSs _ _ uO _ [some _,some _,some _,none,none];unfold uO;fin2;refine⟨b,s,by rw[w],by rw[w];exact y,?_⟩;rw[w];cases E:a s with
 |none=>rw[E]at i;refine λj=>⟨rfl,?_⟩;fin2;refine qI ?_;fin2;exact⟨s2',i j⟩
 |some x=>
  obtain⟨t,q⟩:=x;rw[E]at i;obtain⟨u,U,Z,Y⟩:=(T _ _ _ E).sz;have D:(b++u)++q=g:=by rw[<-w,U,Fu]
  have M:g.length -q.length=(b++u).length:=by rw[<-D,len_app]
  refine⟨rfl,?_⟩;rw[M];fin2;refine uM t ?_;unfold wX;fin2;refine⟨ai y,?_⟩;rw[Gb D,show("^":Str)=tx [94] by decide+kernel];by_cases v:∃r,q=94::r
  .rw[take1.mpr v];obtain⟨r,rfl⟩:=v;fin2;have C:(b++u++[94])++r=g:=by rw[<-D];simp
   have J:(((b++u).length:Int)+1)=((b++u++[94]).length:Nat):=by rw[rP (rfl:b++u++[94]=(b++u)++[94])];rfl
   rw[tF];have A:∀H:W->Prop,H (wX (rn dN r))->CA [.str (tx g),.int (((b++u).length:Int)+1),.str (tx dN)] H R:=λH h=>by rw[J,<-C];exact Ga (by rw[C];exact y) h
   refine A _ ?_;have P:=Hb Dr (cy dN r);rw[AN]at P;have lw:=rP C.symm;have B:(rn dN r).length<=1000:=by omega
   unfold wX;fin2;rw[wB,gJ];have S:∀c∈rn dN r,iM c:=λc o=>iD.mp (ju _ _ c o);dsimp only[ko]at i;rw[Do rfl]at i;by_cases p:rn dN r=[]
   .rw[Bz p];rw[Bi λz=>z.1.1 p]at i;fin2;exact⟨s2',i _⟩
   rw[DL p];fin2;refine⟨ai B,?_⟩;by_cases F:(rn dN r).length<=2
   .rw[DL (by omega)];obtain⟨i1,K⟩:=yE S p (by omega);generalize hg:rn dN r=f at*;cases f with
    |nil=>exact absurd rfl p
    |cons c f=>
     fin2;refine⟨ai B,c,b4 (n:=0) rfl,?_⟩;rw[Xu,gJ,gJ];have k:Cy 2 (c::f)->∃n,intText? (tx (c::f))=some n/\(tx (c::f)).length<=640/\if decide (12<n)=true then[W.aG,.int ((b++u).length:Nat)].length<=sizeLine/\Q (.tup [.aG,.int ((b++u).length:Nat)])else∃n,intText? (tx (c::f))=some n/\(tx (c::f)).length<=640/\[W.str "^",wt t,.int n].length<=sizeLine/\(c::f).length<=sizeLine/\[W.tup [W.str "^",wt t,.int n],.int (((b++u).length:Int)+1+((c::f).length:Nat))].length<=sizeLine/\Q (.tup [W.tup [W.str "^",wt t,.int n],.int (((b++u).length:Int)+1+((c::f).length:Nat))]):=λN=>by
      refine⟨_,i1,K,?_⟩;by_cases L:val (c::f)<=12
      .rw[Bi (by rw[P2];omega)];rw[Do ⟨N,L⟩]at i;have i:Q (.tup [wt (.pw t (val (c::f))),.int (g.length -(rs dN r).length:Nat)]):=i;have X:((g.length -(rs dN r).length:Nat):Int)=((b++u).length:Int)+1+((c::f).length:Nat):=by rw[J];omega
       rw[X]at i;exact⟨_,i1,K,QZ,ai B,s2',i⟩
      .rw[Do (Bz (by omega))];rw[Bi λz=>L z.2]at i;exact⟨s2',i _⟩
     by_cases o:c=48
     .subst o;rw[Bz rfl];fin2;by_cases l:f=[]
      .subst l;rw[Bz rfl];fin2;exact k ⟨QP _ _,F,λ_=>rfl⟩
      .rw[DL (λz=>l (by cases z;rfl))];fin2;rw[Bi λz=>l (by have:=z.1.2.2 rfl;cases this;rfl)]at i;exact⟨s2',i _⟩
     .rw[DL (λz=>o (by cases z;rfl))];fin2;exact k ⟨QP _ _,F,λz=>absurd (Ha z) o⟩
   .rw[Bz (by omega)];rw[Bi λz=>F z.1.2.1]at i;fin2;exact⟨s2',i _⟩
  .have O:decide (tx (q.take 1)=tx [94])=false:=SC.mpr λz=>v (take1.mp z);rw[O];fin2;have:ko (some (t,q))=some (t,q):=by
    cases q with
    |nil=>rfl
    |cons c q=>exact Bi λe=>v ⟨q,by rw[e]⟩
   rw[this]at i;have i:Q (.tup [wt t,.int (g.length -q.length:Nat)]):=i;rw[M]at i;exact⟨s2',i⟩
section
variable{P:Program}{w:World}{K:Frag}{mg:Str->Option Value}{base:Heap}{tp:Nat->Stmt}{DD:DT}{ZZ:List Str}
theorem Q4{k j i np:Nat}{x:Str}{S:aV}(T:TT K mg tp DD ZZ)(c:DD[j]?=some (x,i))(b:np=(gZ (tp i)).length)(d:∀a Q R,¬S a Q R):Cl P w K mg base DD k j .s S:=by have:S=RB:=funext λa=>funext λQ=>funext λR=>propext ⟨λz=>(d _ _ _ z).elim,λz=>z.elim⟩;rw[this];exact L7 T c b
theorem UX{a b k:Nat}{c:Bool}(e:a<=k)(d:b<=k)(h:c=true):((decide (a<=k)&&(decide (b<=k)&&true))&&c)=true:=by rw[Bz e,Bz d,h];rfl
theorem Z1{a k:Nat}{c:Bool}(b:a<=k)(h:c=true):((decide (a<=k)&&true)&&c)=true:=by rw[Bz b,h];rfl
end
noncomputable def oR:List CS:=[.iff (.cmp .Eq (.slt (.var 0) (.var 1) (.bin .Add (.var 1) (.int 1))) (.str "(")) [.iff (.cmp .Gt (.var 2) (.int 29)) [.ret (.tup [.aG,(.var 1)])] [],.Cs [3,1] (.call 0 [(.var 0),(.bin .Add (.var 1) (.int 1)),(.bin .Add (.var 2) (.int 1))]),.iff (.cmp .NotEq (.slt (.var 0) (.var 1) (.bin .Add (.var 1) (.int 1))) (.str ")")) [.ret (.tup [.aG,(.var 1)])] [],.ret (.tup [(.var 3),(.bin .Add (.var 1) (.int 1))])] [],.set 4 (.call 1 [(.var 0),(.var 1),(.str "0123456789")]),.iff (.cmp .NotEq (.var 4) (.str "")) [.iff (.or [(.cmp .Gt (.blt .len [(.var 4)]) (.int 30)),(.and [(.cmp .Eq (.ix (.var 4) (.int 0)) (.str "0")),(.cmp .NotEq (.var 4) (.str "0"))])]) [.ret (.tup [.aG,(.var 1)])] [],.ret (.tup [(.tup [(.str "number"),(.blt .int [(.var 4)])]),(.bin .Add (.var 1) (.blt .len [(.var 4)]))])] [],.set 4 (.call 1 [(.var 0),(.var 1),(.str "abcdefghijklmnopqrstuvwxyz")]),.iff (.or [(.cmp .Eq (.var 4) (.str "")),(.cmp .Gt (.blt .len [(.var 4)]) (.int 8))]) [.ret (.tup [.aG,(.var 1)])] [],.ret (.tup [(.tup [(.str "name"),(.var 4)]),(.bin .Add (.var 1) (.blt .len [(.var 4)]))])]
noncomputable def XE:Nat->aV
 |0=>RB
 |d+1=>Sat (gw d) d
theorem Q5{s:List Nat}(h:rn dN s≠[]):rn oG s=[]:=by
 cases s with
 |nil=>rfl
 |cons c r=>
  dsimp only[rn]at h⊢;have a:c∈dN:=by
   by_cases z:c∈dN
   .exact z
   .rw[Bi z]at h;exact absurd rfl h
  have a:=iD.mp a;rw[Bi λz=>by have:=Ac.mp z;unfold isLet at this;unfold iM at a;omega]
theorem J7{d:Nat}{G:Nat->W}{m:Md}(L:List W)(Q:W->Prop)(R:Addr->Prop)(h:Sat (b8 (ng d)) d L Q R):wSs (bH [XE d,CA]) G oR (aX m Q R) (au 5 L):=by
 obtain⟨g,s,rfl,l,b⟩:=h;generalize v:g++s=a at l b⊢;have lw:=rP v.symm;show wSs _ _ oR _ [some _,some _,some _,none,none];unfold oR wX;fin2;refine⟨ai l,?_⟩;rw[Gb v,show("(":Str)=tx [40] by decide+kernel];by_cases B:∃r,s=40::r
 .rw[take1.mpr B];obtain⟨r,rfl⟩:=B;have e1:b8 (ng d) (40::r)=eL (ng d r):=by dsimp only[b8];rw[Do rfl]
  rw[e1]at b;fin2;cases d with
  |zero=>rw[Bz (by omega)];fin2;exact⟨s2',b _⟩
  |succ d=>
   rw[DL (by omega)];fin2;have C:(g++[40])++r=a:=by rw[<-v];simp
   have X:((g.length:Nat):Int)+1=((g++[40]).length:Nat):=by rw[rP (rfl:g++[40]=g++[40])];rfl
   have U:(30:Int) -((d+1:Nat):Int)+1=30 -(d:Nat):=by omega
   refine⟨g++[40],r,by rw[C,<-X,<-U],by rw[C];exact l,?_⟩;rw[C];have b:Ao (eL (gw d r)) (λt q=>Q (.tup [wt t,.int (a.length -q.length:Nat)])) (∀j:Int,Q (.tup [.aG,.int j])):=b;cases J:gw d r with
   |none=>
    rw[J]at b;refine λj=>⟨rfl,?_⟩;fin2;refine⟨ai l,?_⟩;split
    .exact⟨s2',b _⟩
    .exact⟨s2',b _⟩
   |some x=>
    obtain⟨t,q⟩:=x;rw[J]at b;obtain⟨u,eu,z1,z2⟩:=(kr d _ _ _ J).sz;have I:(g++[40]++u)++q=a:=by rw[<-C,eu,<-Fu]
    have e4:a.length -q.length=(g++[40]++u).length:=by rw[<-I,len_app]
    refine⟨rfl,?_⟩;rw[e4];fin2;refine⟨ai l,?_⟩;rw[Gb I,show(")":Str)=tx [41] by decide+kernel];by_cases A:∃r,q=41::r
    .rw[take1.mpr A];obtain⟨r,rfl⟩:=A;fin2;have:eL (some (t,41::r))=some (t,r):=by dsimp only[eL];rw[Do rfl]
     rw[this]at b;have b:Q (.tup [wt t,.int (a.length -r.length:Nat)]):=b;have y:((a.length -r.length:Nat):Int)=((g++[40]++u).length:Nat)+1:=by rw[rP I.symm,A0];omega
     rw[y]at b;exact⟨s2',b⟩
    .have F:decide (tx (q.take 1)=tx [41])=false:=SC.mpr λz=>A (take1.mp z);rw[F];fin2;have:eL (some (t,q))=none:=by
      cases q with
      |nil=>rfl
      |cons c q=>exact Bi λe=>A ⟨q,by rw[e]⟩
     rw[this]at b;exact⟨s2',b _⟩
 .have F:decide (tx (s.take 1)=tx [40])=false:=SC.mpr λz=>B (take1.mp z);rw[F];fin2;have T:b8 (ng d) s=m9 s:=by
   cases s with
   |nil=>rfl
   |cons c s=>exact Bi λe=>B ⟨s,by rw[e]⟩
  rw[T]at b;unfold m9 at b;have p:∀(sg:List Nat)(K:W->Prop),K (wX (rn sg s))->CA [.str (tx a),.int (g.length:Nat),.str (tx sg)] K R:=λsg K h=>by rw[<-v];exact Ga (by rw[v];exact l) h
  rw[tF];refine p _ _ ?_;have Z:∀c∈rn dN s,iM c:=λc w=>iD.mp (ju _ _ c w);have M:=Hb Dr (cy dN s);have H:(rn dN s).length<=1000:=by rw[AN]at M;omega
  unfold wX;fin2;rw[wB,gJ];by_cases o:rn dN s=[]
  .rw[Bz o];fin2;rw[tL];refine p _ _ ?_;have P:=Hb Dr (cy oG s);have O:(rn oG s).length<=1000:=by rw[AN]at P;omega
   rw[Bi (show¬Cy 30 (rn dN s)from λz=>z.1 o)]at b;unfold wX;fin2;rw[gJ];by_cases D:rn oG s=[]
   .rw[Bz D];rw[Do D]at b;fin2;exact⟨s2',b _⟩
   .rw[DL D];rw[Bi D]at b;fin2;refine⟨ai O,?_⟩;by_cases N:(rn oG s).length<=8
    .rw[DL (by omega)];rw[Do N]at b;fin2;have b:Q (.tup [wt (.nm (rn oG s)),.int (a.length -(rs oG s).length:Nat)]):=b;have y:((a.length -(rs oG s).length:Nat):Int)=(g.length:Nat)+((rn oG s).length:Nat):=by rw[AN]at P;omega
     rw[y]at b;exact⟨s2',ai O,s2',b⟩
    .rw[Bz (by omega)];rw[Bi N]at b;fin2;exact⟨s2',b _⟩
  .rw[DL o];rw[Do (Q5 o)]at b;fin2;refine⟨ai H,?_⟩;by_cases E:(rn dN s).length<=30
   .rw[DL (by omega)];obtain⟨i1,Y⟩:=yE Z o E;generalize hg:rn dN s=f at*;cases f with
    |nil=>exact absurd rfl o
    |cons c f=>
     fin2;refine⟨ai H,c,b4 (n:=0) rfl,?_⟩;rw[Xu,gJ,gJ];have i:Cy 30 (c::f)->∃n,intText? (tx (c::f))=some n/\(tx (c::f)).length<=640/\[W.str "number",.int n].length<=sizeLine/\(c::f).length<=sizeLine/\[W.tup [W.str "number",.int n],.int ((g.length:Nat)+((c::f).length:Nat))].length<=sizeLine/\Q (.tup [W.tup [W.str "number",.int n],.int ((g.length:Nat)+((c::f).length:Nat))]):=λS=>by
      rw[Do S]at b;have b:Q (.tup [wt (.nu (val (c::f))),.int (a.length -(rs dN s).length:Nat)]):=b;have y:((a.length -(rs dN s).length:Nat):Int)=(g.length:Nat)+((c::f).length:Nat):=by rw[AN]at M;omega
      rw[y]at b;exact⟨_,i1,Y,s2',ai H,s2',b⟩
     by_cases w:c=48
     .subst w;rw[Bz rfl];fin2;by_cases k:f=[]
      .subst k;rw[Bz rfl];fin2;exact i ⟨QP _ _,E,λ_=>rfl⟩
      .rw[DL (λz=>k (by cases z;rfl))];fin2;rw[Bi λz=>k (by have:=z.2.2 rfl;cases this;rfl)]at b;exact⟨s2',b _⟩
     .rw[DL (λz=>w (by cases z;rfl))];fin2;exact i ⟨QP _ _,E,λz=>absurd (Ha z) w⟩
   .rw[Bz (by omega)];rw[Bi λz=>E z.2.1]at b;fin2;exact⟨s2',b _⟩
noncomputable def qJ:List CS:=[.iff (.cmp .Gt (.blt .len [(.var 0)]) (.int 1000)) [.ret .aG] [],.Cs [1,2] (.call 0 [(.var 0),(.int 0),(.int 0)]),.iff (.cmp .NotEq (.var 2) (.blt .len [(.var 0)])) [.ret .aG] [],.ret (.var 1)]
noncomputable def VQ:aV:=λa Q _=>∃s:List Nat,a=[wX s]/\s.length<=5000/\(∀t,lD s=some t->Q (wt t))/\(lD s=none->Q .aG)
theorem Ge{G:Nat->W}{m:Md}(f:List W)(Q:W->Prop)(R:Addr->Prop)(h:VQ f Q R):wSs (bH [Sat (gw 30) 30]) G qJ (aX m Q R) (au 3 f):=by
 obtain⟨s,rfl,g,b,a⟩:=h;have sm:s.length<=sizeLine:=FV g (by decide);show wSs _ _ qJ _ [some _,none,none];unfold qJ wX;fin2;refine⟨sm,?_⟩;unfold lD at b a;by_cases d:s.length<=1000
 .rw[Do d]at b a;rw[DL (by omega)];fin2;refine⟨[],s,rfl,d,?_⟩;cases e:gw 30 s with
  |none=>
   rw[e]at a;refine λj=>⟨rfl,?_⟩;fin2;refine⟨sm,?_⟩;split
   .exact a rfl
   .exact a rfl
  |some x=>
   obtain⟨t,q⟩:=x;rw[e]at a b;obtain⟨u,i,l,k⟩:=(kr 30 _ _ _ e).sz;refine⟨rfl,?_⟩;fin2;refine⟨sm,?_⟩;cases q with
   |nil=>rw[Bz (by show((s.length -0:Nat):Int)=_;omega)];exact b t rfl
   |cons c q=>rw[DL (by show¬((s.length -(c::q).length:Nat):Int)=_;rw[A0];have:=rP i;rw[A0]at this;omega)];exact a rfl
 .rw[Bi d]at a;rw[Bz (by omega)];exact a rfl
section
variable{P:Program}{w:World}{K:Frag}{mg:Str->Option Value}{base:Heap}{tp:Nat->Stmt}{DD:DT}{ZZ:List Str}
theorem qK{p:Pr}{d:Nat}(a:List W)(P:W->Prop)(R:Addr->Prop)(h:Sat p d a P R):a.length=3:=by obtain⟨_,_,rfl,_⟩:=h;rfl
theorem Aq{js jt jf jp ja jr i g m j l:Nat}{q p t r u:Str}(T:TT K mg tp DD ZZ)(x:DD[js]?=some (q,i))(v:DD[jt]?=some (p,g))(z:DD[jf]?=some (t,m))(y:DD[jp]?=some (r,j))(A:DD[ja]?=some (u,l))(f:Cl P w K mg base DD 1 jr .s CA)
 (es:xx ZZ (tp i) 3 6 [] [rD DD jt] [] [.s] [] .s (wO " + " " - ")=true)(B:xx ZZ (tp g) 3 6 [] [rD DD jf] [] [.s] [] .s (wO " * " " / ")=true)(C:xx ZZ (tp m) 3 6 [] [rD DD jr,rD DD jp] [] [.s,.s] [] .s uN=true)(E:xx ZZ (tp j) 3 5 [] [rD DD ja,rD DD jr] [] [.s,.s] [] .s uO=true)(D:xx ZZ (tp l) 3 5 [] [rD DD js,rD DD jr] [] [.s,.s] [] .s oR=true)
 {d:Nat}(h:Cl P w K mg base DD (1+5*d) js .s (XE d)):Cl P w K mg base DD (6+5*d) js .s (Sat (gw d) d):=by
 have n:=uB (Mc d);have o:=yC n;have a:Cl P w K mg base DD (1+5*d+1) ja .s (Sat (b8 (ng d)) d):=rL (k:=1+5*d) (Ss:=[XE d,CA]) T A 3 [] [(js,.s,1+5*d),(jr,.s,1)] J7 ⟨h,f,trivial⟩ (UX (Bn _) (by show 1<=_;omega) D) qK;have b:Cl P w K mg base DD (1+5*d+1+1) jp .s (Sat (J6 (b8 (ng d))) d):=rL (k:=1+5*d+1) (Ss:=[Sat (b8 (ng d)) d,CA]) T y 3 [] [(ja,.s,1+5*d+1),(jr,.s,1)] (Q3 n) ⟨a,f,trivial⟩ (UX (Bn _) (by show 1<=_;omega) E) qK;have c:Cl P w K mg base DD (1+5*d+1+1+1) jf .s (Sat (kq (b8 (ng d))) d):=rL (k:=1+5*d+1+1) (Ss:=[CA,Sat (J6 (b8 (ng d))) d]) T z 3 [] [(jr,.s,1),(jp,.s,1+5*d+1+1)] Q2 ⟨f,b,trivial⟩ (UX (by show 1<=_;omega) (Bn _) C) qK;have e:Cl P w K mg base DD (1+5*d+1+1+1+1) jt .s (Sat (dj (kq (b8 (ng d))) 42 47) d):=rL (k:=1+5*d+1+1+1) (Ss:=[Sat (kq (b8 (ng d))) d]) T v 3 [] [(jf,.s,1+5*d+1+1+1)] (Mq o (wC 42 _) (wC 47 _)) ⟨c,trivial⟩ (Z1 (Bn _) B) qK;rw[show 6+5*d=1+5*d+1+1+1+1+1 by omega,sum_in];exact rL (k:=1+5*d+1+1+1+1) (Ss:=[Sat (dj (kq (b8 (ng d))) 42 47) d]) T x 3 [] [(jt,.s,1+5*d+1+1+1+1)] (Mq (lF Xw o) (wC 43 _) (wC 45 _)) ⟨e,trivial⟩ (Z1 (Bn _) es) qK
end
end VL
namespace pR
open L2 PySem VL
end pR
namespace VL
open PySem PySem.Spec
open PyProof.Rows hiding St
open L2 Num pR
noncomputable def lvl:Tr->Nat
 |.nm _=>4
 |.nu _=>4
 |.op o _ _=>if o=43\/o=45 then 1 else 2
 |.pw _ _=>3
 |.ls _=>3
noncomputable def pT(T:Tr):W:=.tup [wX (txt T),.int (lvl T)]
noncomputable def lT(l m:Nat)(s:List Nat):List Nat:=if m<=l then s else 40::(s++[41])
theorem Z4(T:Tr):lT (lvl T) 4 (txt T)=br (bi T) 4 (txt T):=by
 have:∀s:List Nat,(if 4<=lvl T then s else 40::(s++[41]))=if bi T<4 then 40::(s++[41])else s:=λs=>by
  cases T with
  |op o a b=>
   show(if 4<=(if o=43\/o=45 then 1 else 2)then s else _)=if(if o=43\/o=45 then 0 else 1)<4 then _ else s
   split<;>rfl
  |_=>rfl
 exact this _
theorem XF(T:Tr):lT (lvl T) 3 (txt T)=br (bi T) 2 (txt T):=by
 have:∀s:List Nat,(if 3<=lvl T then s else 40::(s++[41]))=if bi T<2 then 40::(s++[41])else s:=λs=>by
  cases T with
  |op o a b=>
   show(if 3<=(if o=43\/o=45 then 1 else 2)then s else _)=if(if o=43\/o=45 then 0 else 1)<2 then _ else s
   split<;>rfl
  |_=>rfl
 exact this _
theorem Z5(T:Tr):lT (lvl T) 2 (txt T)=br (bi T) 1 (txt T):=by
 have:∀s:List Nat,(if 2<=lvl T then s else 40::(s++[41]))=if bi T<1 then 40::(s++[41])else s:=λs=>by
  cases T with
  |op o a b=>
   show(if 2<=(if o=43\/o=45 then 1 else 2)then s else _)=if(if o=43\/o=45 then 0 else 1)<1 then _ else s
   split<;>rfl
  |_=>rfl
 exact this _
theorem br1(T:Tr):lT (lvl T) 1 (txt T)=br (bi T) 0 (txt T):=by
 have:∀s:List Nat,(if 1<=lvl T then s else 40::(s++[41]))=if bi T<0 then 40::(s++[41])else s:=λs=>by
  cases T with
  |op o a b=>
   show(if 1<=(if o=43\/o=45 then 1 else 2)then s else _)=if(if o=43\/o=45 then 0 else 1)<0 then _ else s
   split<;>rfl
  |_=>rfl
 exact this _
noncomputable def jw:List CS:=[.Cs [2,3] (.var 0),.ret (.ite (.cmp .GtE (.var 3) (.var 1)) (.var 2) (.fst [(.str "("),(.fmt (.var 2)),(.str ")")]))]
noncomputable def Ar:aV:=λa Q _=>∃(s:List Nat)(l m:Nat),a=[.tup [wX s,.int l],.int m]/\s.length<=1000/\Q (wX (lT l m s))
theorem wQ{c:Nat->aV}{G:Nat->W}{m:Md}(b:List W)(Q:W->Prop)(R:Addr->Prop)(h:Ar b Q R):wSs c G jw (aX m Q R) (au 4 b):=by
 obtain⟨s,l,k,rfl,d,a⟩:=h;show wSs _ _ jw _ [some _,some _,none,none];unfold jw;fin2;refine⟨rfl,?_⟩;fin2;unfold lT at a;by_cases e:k<=l
 .rw[Do (Bz (by omega))];rw[Do e]at a;exact a
 .rw[Bi (by rw[P2];omega)];rw[Bi e]at a;rw[Mm,Mn];refine⟨by rw[oU];show 0+1<=2000;decide,d,?_,?_,?_⟩
  .show 1+s.length<=2000;omega
  .show(40::s).length+1<=2000;rw[A0];omega
  .exact a
noncomputable def d7:List CS:=[.ret (.tup [(.fst [(.fmt (.var 1))]),(.glob 0)])]
noncomputable def iE:aV:=λa Q _=>∃T:Tr,(a=[.str "name",wX (txt T)]/\(∃x,T=.nm x)\/∃n:Nat,a=[.str "number",.int n]/\T=.nu n)/\lS T/\Q (pT T)
theorem wR{d:Nat->aV}{m:Md}(b:List W)(Q:W->Prop)(R:Addr->Prop)(h:iE b Q R):wSs d (bR [.int 4]) d7 (aX m Q R) (au 2 b):=by
 obtain⟨T,h,a,c⟩:=h;have tl:=jL T a;rcases h with⟨rfl,x,rfl⟩|⟨n,rfl,rfl⟩
 .show wSs _ _ d7 _ [some _,some _];unfold d7;fin2;have e:x.length<=8:=a.2.1;refine⟨by show x.length<=1000;omega,by show 0+x.length<=2000;omega,s2,?_⟩;exact c
 .show wSs _ _ d7 _ [some _,some _];unfold d7;fin2;have e:(dg n).length<=30:=pS (by decide) a;refine⟨oQ a,?_⟩;rw[tZ];refine⟨by show 0+(dg n).length<=2000;omega,s2,?_⟩;exact c
noncomputable def ee:List CS:=[.iff (.cmp .Eq (.var 0) (.str "power")) [.set 3 (.call 0 [(.var 2),(.glob 0)]),.ret (.tup [(.fst [(.fmt (.var 3)),(.str "^"),(.fmt (.var 1))]),(.glob 1)])] [],.set 4 (.call 0 [(.var 2),(.glob 1)]),.ret (.tup [(.fst [(.str "-"),(.fmt (.var 4))]),(.glob 1)])]
noncomputable def iG:List CS:=[.set 3 (.ite (.cmp .In (.var 0) (.tup [(.str "+"),(.str "-")])) (.glob 0) (.glob 1)),.set 4 (.call 0 [(.var 1),(.var 3)]),.set 5 (.call 0 [(.var 2),(.bin .Add (.var 3) (.int 1))]),.ret (.tup [(.fst [(.fmt (.var 4)),(.str " "),(.fmt (.var 0)),(.str " "),(.fmt (.var 5))]),(.var 3)])]
noncomputable def eT:List CS:=[.iff (.cmp .In (.var 5) (.tup [(.str "number"),(.str "name")])) [.NF 4 (.DX 1 0 0 [(.var 5),(.var 6)])] [.iff (.cmp .In (.var 5) (.tup [(.str "power"),(.str "minus")])) [.NF 4 (.DX 2 1 1 [(.var 5),(.var 6),(.pop 4)])] [.mz 7 (.pop 4),.NF 4 (.DX 3 2 2 [(.var 5),(.pop 4),(.var 7)])]]]
noncomputable def qL:List CS:=[.set 4 (.lst []),.fr [5,6] false (.var 0) eT,.S9 (.pop 4)]
abbrev Mr(z:W)(f1 f2 f3:Addr)(ws:List W)(o5 o6 o7:Option W):Ev:=[some z,some (.fn f1),some (.fn f2),some (.fn f3),some (.lst ws),o5,o6,o7]
theorem qM(l:List W)(w:W):(l++[w])[(l++[w]).length -1]?=some w/\(l++[w]).dropLast=l:=by refine⟨?_,List.dropLast_concat⟩;rw[AN,G2,Ya,Gc (Bn _),Vn];rfl
noncomputable def oS:List CS:=[.ret (.ix (.call 0 [(.ND (.var 0) 0 "steps"),(.glob 0),(.glob 1),(.glob 2)]) (.int 0))]
noncomputable def GU(n:Nat):aV:=λa Q _=>∃T:Tr,a=[wt T]/\lS T/\dp T<=n/\(txt T).length<=1000/\Q (wX (txt T))
noncomputable def VR(n:Nat):aV:=λa Q _=>∃(T:Tr)(l:Nat),a=[wt T,.int l]/\lS T/\dp T<=n/\(br (bi T) l (txt T)).length<=1000/\Q (wX (br (bi T) l (txt T)))
theorem yK{n:Nat}(h:n<=2000):n<=sizeLine:=FV h (by decide)
theorem UY{n:Nat}{G:Nat->W}{m:Md}(c:List W)(Q:W->Prop)(R:Addr->Prop)(h:VR n c Q R):wSs (bH [ku,GU n]) G oO (aX m Q R) (au 2 c):=by
 obtain⟨T,l,rfl,b,d,f,a⟩:=h;have tl:=iO (bi T) l (txt T);have e:=mP (bi T) l (txt T);show wSs _ _ oO _ [some (wt T),some (.int l)];unfold oO;fin2;refine⟨T,rfl,b,?_⟩;fin2;unfold br at a;by_cases h:bi T<l
 .rw[Do (Bz (by omega))];rw[Do h]at a;refine⟨T,rfl,b,d,by omega,?_⟩;rw[Mm,Mn];refine⟨yK (by show 1+(txt T).length<=2000;omega),?_⟩;rw[bZ];refine⟨yK (by show(40::txt T).length+1<=2000;simp;omega),?_⟩;rw[bZ];exact a
 .rw[Bi (by rw[P2];omega)];rw[Bi h]at a;exact⟨T,rfl,b,d,by omega,a⟩
theorem UZ{n:Nat}{G:Nat->W}{m:Md}(r:List W)(Q:W->Prop)(R:Addr->Prop)(h:GU (n+1) r Q R):wSs (bH [VR n,ku]) G uJ (aX m Q R) (au 2 r):=by
 obtain⟨T,rfl,f,i,A,g⟩:=h;obtain⟨y,s,w,v⟩:=XC T f;have d:=A;show wSs _ _ uJ _ [some (wt T),none];unfold uJ;refine aL (λc=>c=[some (wt T),none]/\2<=kd T) (λN j=>?_) ?_
 .rw[jv];fin2;refine⟨_,nI,?_⟩;fin2;rw[y];cases T with
  |nm x=>exact⟨_,F5,g⟩
  |nu k=>refine⟨_,nI,?_⟩;fin2;rw[s];refine⟨_,F5,?_⟩;refine⟨oQ f,?_⟩;rw[tZ];exact g
  |_=>refine⟨_,nI,?_⟩;fin2;rw[s];exact j _ ⟨by rw[jv],by show 2<=_;first|exact(by decide:2<=4)|exact(by decide:2<=3)|exact(by decide:2<=2)⟩
 rintro _ ⟨rfl,t⟩;refine aL (λc=>c=[some (wt T),none]/\3<=kd T) (λN j=>?_) ?_
 .rw[jv];fin2;refine⟨_,nI,?_⟩;fin2;rw[w];cases T with
  |nm x=>cases t
  |nu k=>exact absurd t (by show¬2<=1;decide)
  |ls a=>have i:dp a+1<=n+1:=i;have d:(45::br (bi a) 2 (txt a)).length<=1000:=d;rw[A0]at d;refine⟨_,F5,a,2,rfl,f,by omega,by omega,?_⟩;rw[uI];refine⟨ai (by show 1+(br (bi a) 2 (txt a)).length<=1000;omega),?_⟩;rw[bZ];exact g
  |pw a e=>exact j _ ⟨by rw[jv],by show 3<=3;decide⟩
  |op o a b=>exact j _ ⟨by rw[jv],by show 3<=4;decide⟩
 rintro _ ⟨rfl,q⟩;refine aL (λc=>c=[some (wt T),none]/\4<=kd T) (λN j=>?_) ?_
 .rw[jv];fin2;refine⟨_,nI,?_⟩;fin2;rw[v];cases T with
  |nm x=>cases q
  |nu k=>exact absurd q (by show¬3<=1;decide)
  |ls a=>exact absurd q (by show¬3<=2;decide)
  |pw a e=>
   have i:dp a+1<=n+1:=i;have d:(br (bi a) 4 (txt a)++94::dg e).length<=1000:=d;rw[AN,A0]at d;refine⟨_,F5,a,4,rfl,f.2,by omega,by omega,?_⟩;rw[show("^":Str)=tx [94] by decide+kernel];refine⟨ai (by show(br (bi a) 4 (txt a)).length+1<=1000;omega),?_⟩;rw[bZ];refine⟨_,UT,oQ (Y1 f.1 (by decide)),?_⟩;rw[tZ];refine⟨ai (by show(br (bi a) 4 (txt a)++[94]).length+(dg e).length<=1000;rw[AN];show _+1+_<=1000;omega),?_⟩;rw[bZ];have:txt (.pw a e)=br (bi a) 4 (txt a)++[94]++dg e:=by show br (bi a) 4 (txt a)++94::dg e=_;simp
   rw[this]at g;exact g
  |op o a b=>exact j _ ⟨by rw[jv],by show 4<=4;decide⟩
 rintro _ ⟨rfl,p⟩;cases T with
 |op o a b=>
  have i:max (dp a) (dp b)+1<=n+1:=i;generalize u:bi (.op o a b)=l;have z:txt (.op o a b)=br (bi a) l (txt a)++[32]++[o]++[32]++br (bi b) (l+1) (txt b):=by show br (bi a) (bi (.op o a b)) (txt a)++(32::o::32::br (bi b) (bi (.op o a b)+1) (txt b))=_;rw[u];simp
  rw[z]at d g;simp only[AN,G2]at d;have d:(br (bi a) l (txt a)).length+1+1+1+(br (bi b) (l+1) (txt b)).length<=1000:=d;fin2;refine⟨.op o a b,rfl,f,?_⟩;rw[u,jv];fin2;refine⟨_,F5,a,l,rfl,f.2.1,by omega,by omega,?_⟩;rw[show(" ":Str)=tx [32] by decide+kernel];refine⟨ai (by show(br (bi a) l (txt a)).length+1<=1000;omega),_,nI,?_⟩;rw[bZ];refine⟨ai (by show(br (bi a) l (txt a)++[32]).length+1<=1000;simp only[AN,G2];omega),?_⟩;rw[show hd (.op o a b)=tx [o]from rfl,bZ];refine⟨ai (by show(br (bi a) l (txt a)++[32]++[o]).length+1<=1000;simp only[AN,G2];omega),_,UT,?_⟩;rw[bZ];refine⟨b,l+1,rfl,f.2.2,by omega,by omega,?_⟩;refine⟨ai (by show(br (bi a) l (txt a)++[32]++[o]++[32]).length+(br (bi b) (l+1) (txt b)).length<=1000;simp only[AN,G2];omega),?_⟩;rw[bZ];exact g
 |nm x=>cases p
 |nu k=>exact absurd p (by show¬4<=1;decide)
 |ls a=>exact absurd p (by show¬4<=2;decide)
 |pw a e=>exact absurd p (by show¬4<=3;decide)
theorem uP(l m:Nat)(s:List Nat):s.length<=(lT l m s).length:=by
 unfold lT;split
 .exact Bn _
 .simp;omega
noncomputable def uQ:aV:=λb Q _=>∃a:Tr,lS a/\((∃e:Nat,e<=12/\b=[.str "power",.int e,pT a]/\(txt (.pw a e)).length<=1000/\Q (pT (.pw a e)))\/(b=[.str "minus",.int 0,pT a]/\(txt (.ls a)).length<=1000/\Q (pT (.ls a))))
theorem U0{m:Md}(c:List W)(Q:W->Prop)(R:Addr->Prop)(h:uQ c Q R):wSs (bH [Ar]) (bR [.int 4,.int 3]) ee (aX m Q R) (au 5 c):=by
 obtain⟨a,i,h⟩:=h;rcases h with⟨e,d,rfl,hz,b⟩|⟨rfl,hz,b⟩
 .show wSs _ _ ee _ [some _,some _,some _,none,none];unfold ee;fin2;rw[Bz rfl];fin2;have f:(lT (lvl a) 4 (txt a)).length+1+(dg e).length<=1000:=by rw[Z4];have hz:(br (bi a) 4 (txt a)++94::dg e).length<=1000:=hz;rw[AN,A0]at hz;omega
  have g:=uP (lvl a) 4 (txt a);refine⟨txt a,lvl a,4,rfl,by omega,?_⟩;fin2;refine⟨by show(lT _ _ _).length<=1000;omega,by show 0+(lT _ _ _).length<=2000;omega,?_⟩;rw[show("^":Str)=tx [94] by decide+kernel];refine⟨by show(lT _ _ _).length+1<=2000;omega,oQ (Y1 d (by decide)),?_⟩;rw[tZ];refine⟨by show(lT _ _ _++[94]).length+(dg e).length<=2000;rw[AN];show _+1+_<=2000;omega,s2,?_⟩;have:txt (.pw a e)=lT (lvl a) 4 (txt a)++[94]++dg e:=by rw[Z4];show br (bi a) 4 (txt a)++94::dg e=_;simp
  unfold pT at b;rw[this]at b;exact b
 .show wSs _ _ ee _ [some _,some _,some _,none,none];unfold ee;fin2;rw[DL (by decide+kernel)];fin2;have f:(lT (lvl a) 3 (txt a)).length+1<=1000:=by rw[XF];exact hz
  have g:=uP (lvl a) 3 (txt a);refine⟨txt a,lvl a,3,rfl,by omega,?_⟩;fin2;rw[uI];refine⟨by show 0+1<=2000;decide,by show(lT _ _ _).length<=1000;omega,by show 1+(lT _ _ _).length<=2000;omega,s2,?_⟩;have:txt (.ls a)=45::lT (lvl a) 3 (txt a):=by rw[XF];rfl
  unfold pT at b;rw[this]at b;exact b
noncomputable def wU:aV:=λc Q _=>∃(o:Nat)(a b:Tr),lS (.op o a b)/\(txt (.op o a b)).length<=1000/\c=[.str (tx [o]),pT a,pT b]/\Q (pT (.op o a b))
theorem U1{m:Md}(i:List W)(Q:W->Prop)(R:Addr->Prop)(h:wU i Q R):wSs (bH [Ar]) (bR [.int 1,.int 2]) iG (aX m Q R) (au 6 i):=by
 obtain⟨o,a,b,k,hz,rfl,g⟩:=h;show wSs _ _ iG _ [some _,some _,some _,none,none,none];unfold iG;generalize c:(if o=43\/o=45 then 1 else 2:Nat)=l;have d:txt (.op o a b)=lT (lvl a) l (txt a)++[32]++[o]++[32]++lT (lvl b) (l+1) (txt b):=by
  show br (bi a) (bi (.op o a b)) (txt a)++(32::o::32::br (bi b) (bi (.op o a b)+1) (txt b))=_;by_cases e:o=43\/o=45
  .rw[Do e]at c;subst c;rw[show bi (.op o a b)=0 from Do e,br1,Z5];simp
  .rw[Bi e]at c;subst c;rw[show bi (.op o a b)=1 from Bi e,Z5,XF];simp
 have n:lvl (.op o a b)=l:=c;unfold pT at g;rw[d,n]at g;refine aL (λf=>f=[some (.str (tx [o])),some (pT a),some (pT b),some (.int l),none,none]) (λN j=>?_) ?_
 .fin2;refine⟨s2,["+","-"],rfl,?_⟩;have:decide (tx [o]∈(["+","-"]:List Str))=decide (o=43\/o=45):=by rcases k.1 with rfl|rfl|rfl|rfl<;>decide+kernel
  rw[this];fin2;by_cases e:o=43\/o=45
  .rw[Do (Bz e)];rw[Do e]at c;subst c;exact j _ rfl
  .rw[Bi (by rw[P2];exact e)];rw[Bi e]at c;subst c;exact j _ rfl
 rintro _ rfl;have q:=uP (lvl a) l (txt a);have p:=uP (lvl b) (l+1) (txt b);rw[d]at hz;simp only[AN,G2]at hz;fin2;refine⟨txt a,lvl a,l,rfl,by omega,?_⟩;fin2;refine⟨txt b,lvl b,l+1,rfl,by omega,?_⟩;fin2;rw[show(" ":Str)=tx [32] by decide+kernel];refine⟨by show(lT _ _ _).length<=1000;omega,by show 0+(lT _ _ _).length<=2000;omega,by show(lT _ _ _).length+1<=2000;omega,by show 1<=1000;decide,?_,?_,by show(lT _ _ _).length<=1000;omega,?_,s2,g⟩
 .show(lT _ _ _++[32]).length+1<=2000;rw[AN];show _+1+1<=2000;omega
 .show(lT _ _ _++[32]++[o]).length+1<=2000;rw[AN,AN];show _+1+1+1<=2000;omega
 .show(lT _ _ _++[32]++[o]++[32]).length+(lT _ _ _).length<=2000;rw[AN,AN,AN];show _+1+1+1+_<=2000;omega
noncomputable def J8(f1 f2 f3:Addr):aV:=λa Q _=>∃T:Tr,a=[.tup (stp T),.fn f1,.fn f2,.fn f3]/\lS T/\(txt T).length<=1000/\Q (pT T)
theorem wV{z:W}{f1 f2 f3:Addr}{D:Dn}{a:List W}{d c b:Option W}{k:Str}{x:W}{T:Tr}(e:k="number"\/k="name")(h:a.length<=3000)(f:∀Q R,Q (pT T)->iE [.str k,x] Q R)(g:∀d c b,D.nx (Mr z f1 f2 f3 (a++[pT T]) d c b)):
 JO (bH [iE,uQ,wU]) (bR [.fn f1,.fn f2,.fn f3]) false [5,6] eT (.tup [.str k,x]) D (Mr z f1 f2 f3 a d c b):=by
 unfold eT;fin2;refine⟨rfl,?_⟩;fin2;refine⟨s2,["number","name"],rfl,?_⟩;have:decide (k∈(["number","name"]:List Str))=true:=Bz (by rcases e with rfl|rfl<;>decide+kernel);rw[this];fin2;refine⟨trivial,f _ _ ?_⟩;exact⟨FM (m:=3200) (by omega) (by decide),g _ _ _⟩
theorem wW{z:W}{f1 f2 f3:Addr}{D:Dn}{b:List W}{e d c:Option W}{k:Str}{x:W}{a T:Tr}(f:k="power"\/k="minus")(o:b.length<=3000)(i:∀Q R,Q (pT T)->uQ [.str k,x,pT a] Q R)(j:∀e d c,D.nx (Mr z f1 f2 f3 (b++[pT T]) e d c)):
 JO (bH [iE,uQ,wU]) (bR [.fn f1,.fn f2,.fn f3]) false [5,6] eT (.tup [.str k,x]) D (Mr z f1 f2 f3 (b++[pT a]) e d c):=by
 unfold eT;fin2;refine⟨rfl,?_⟩;fin2;refine⟨s2,["number","name"],rfl,?_⟩;have n:decide (k∈(["number","name"]:List Str))=false:=DL (by rcases f with rfl|rfl<;>decide+kernel);rw[n];fin2;refine⟨s2,["power","minus"],rfl,?_⟩;have l:decide (k∈(["power","minus"]:List Str))=true:=Bz (by rcases f with rfl|rfl<;>decide+kernel);rw[l];fin2;obtain⟨h,g⟩:=qM b (pT a);refine⟨trivial,pT a,h,?_⟩;rw[g];exact i _ _ ⟨FM (m:=3200) (by omega) (by decide),j _ _ _⟩
theorem BV{z:W}{f1 f2 f3:Addr}{D:Dn}{c:List W}{f e d:Option W}{o:Nat}{a b:Tr}(g:lS (.op o a b))(hz:(txt (.op o a b)).length<=1000)(q:c.length<=3000)(l:∀f e d,D.nx (Mr z f1 f2 f3 (c++[pT (.op o a b)]) f e d)):
 JO (bH [iE,uQ,wU]) (bR [.fn f1,.fn f2,.fn f3]) false [5,6] eT (GR o) D (Mr z f1 f2 f3 (c++[pT a]++[pT b]) f e d):=by
 unfold eT GR;fin2;refine⟨rfl,?_⟩;fin2;refine⟨s2,["number","name"],rfl,?_⟩;have p:decide (tx [o]∈(["number","name"]:List Str))=false:=DL (by rcases g.1 with rfl|rfl|rfl|rfl<;>decide+kernel);rw[p];fin2;refine⟨s2,["power","minus"],rfl,?_⟩;have n:decide (tx [o]∈(["power","minus"]:List Str))=false:=DL (by rcases g.1 with rfl|rfl|rfl|rfl<;>decide+kernel);rw[n];fin2;obtain⟨k,j⟩:=qM (c++[pT a]) (pT b);refine⟨pT b,k,?_⟩;rw[j];fin2;obtain⟨i,h⟩:=qM c (pT a);refine⟨trivial,pT a,i,?_⟩;rw[h];exact⟨o,a,b,g,hz,rfl,FM (m:=3200) (by omega) (by decide),l _ _ _⟩
theorem lH{z:W}{f1 f2 f3:Addr}{D:Dn}:∀(T:Tr),lS T->(txt T).length<=1000->∀(rest:List W)(c:List W)(h g f:Option W),c.length+sz T<=2000->(∀h g f,fh (JO (bH [iE,uQ,wU]) (bR [.fn f1,.fn f2,.fn f3]) false [5,6] eT) D rest (Mr z f1 f2 f3 (c++[pT T]) h g f))->fh (JO (bH [iE,uQ,wU]) (bR [.fn f1,.fn f2,.fn f3]) false [5,6] eT) D (stp T++rest) (Mr z f1 f2 f3 c h g f)
 |.nm x,d,hz,rest,c,h,g,f,i,k=>wV (T:=.nm x) (.inr rfl) (by omega) (λQ R q=>⟨.nm x,.inl ⟨rfl,x,rfl⟩,d,q⟩) k
 |.nu n,d,hz,rest,c,h,g,f,i,k=>wV (T:=.nu n) (.inl rfl) (by omega) (λQ R q=>⟨.nu n,.inr ⟨n,rfl,rfl⟩,d,q⟩) k
 |.pw a e,d,hz,rest,c,h,g,f,i,k=>by have i:c.length+(sz a+1)<=2000:=i;have j:(br (bi a) 4 (txt a)++94::dg e).length<=1000:=hz;have r:=iO (bi a) 4 (txt a);rw[AN]at j;show fh _ _ ((stp a++[yx e])++rest) _;rw[Fu];exact lH a d.2 (by omega) _ c h g f (by omega) λp m l=>wW (T:=.pw a e) (.inl rfl) (by omega) (λQ R q=>⟨a,d.2,.inl ⟨e,d.1,rfl,hz,q⟩⟩) k
 |.ls a,d,hz,rest,c,h,g,f,i,k=>by have i:c.length+(sz a+1)<=2000:=i;have j:(br (bi a) 2 (txt a)).length+1<=1000:=hz;have r:=iO (bi a) 2 (txt a);show fh _ _ ((stp a++[nE])++rest) _;rw[Fu];exact lH a d (by omega) _ c h g f (by omega) λp m l=>wW (T:=.ls a) (.inr rfl) (by omega) (λQ R q=>⟨a,d,.inr ⟨rfl,hz,q⟩⟩) k
 |.op o a b,d,hz,rest,c,h,g,f,i,k=>by have j:(br (bi a) (bi (.op o a b)) (txt a)++(32::o::32::br (bi b) (bi (.op o a b)+1) (txt b))).length<=1000:=hz;have r:=iO (bi a) (bi (.op o a b)) (txt a);have t:=iO (bi b) (bi (.op o a b)+1) (txt b);simp only[AN,A0]at j;have i:c.length+(sz a+sz b+1)<=2000:=i;have s:=uz b;show fh _ _ ((stp a++(stp b++[GR o]))++rest) _;rw[Fu,Fu];refine lH a d.2.1 (by omega) _ c h g f (by omega) λp m l=>?_;refine lH b d.2.2 (by omega) _ (c++[pT a]) p m l (by rw[AN];show c.length+1+_<=2000;omega) λp m l=>?_;exact BV d hz (by omega) k
theorem BW{f1 f2 f3:Addr}{m:Md}(a:List W)(Q:W->Prop)(R:Addr->Prop)(h:J8 f1 f2 f3 a Q R):wSs (bH [iE,uQ,wU]) (bR [.fn f1,.fn f2,.fn f3]) qL (aX m Q R) (au 8 a):=by obtain⟨T,rfl,b,hz,c⟩:=h;show wSs _ _ qL _ [some _,some _,some _,some _,none,none,none,none];unfold qL;fin2;refine⟨ai (by show 0<=1000;decide),?_⟩;have:=lH (z:=.tup (stp T)) (f1:=f1) (f2:=f2) (f3:=f3) (D:=⟨λx=>match look x 4 with|some (.lst l)=>∃w,l[l.length -1]?=some w/\(aX m Q R).rt w|_=>False,(aX m Q R).rt,(aX m Q R).bk,(aX m Q R).ct,(aX m Q R).ex⟩) T b hz [] [] none none none (by have:=mQ T b;show 0+sz T<=2000;omega) λf e d=>⟨pT T,rfl,c⟩;rw[NA]at this;exact this
noncomputable def Ka(CE:Addr):aV:=λa Q _=>∃T:Tr,a=[Ex CE (stp T)]/\lS T/\(txt T).length<=1000/\Q (wX (txt T))
theorem U3{CE f1 f2 f3:Addr}{m:Md}(a:List W)(Q:W->Prop)(R:Addr->Prop)(h:Ka CE a Q R):wSs (bH [J8 f1 f2 f3]) (bR [.fn f1,.fn f2,.fn f3,.cls CE]) oS (aX m Q R) (au 1 a):=by obtain⟨T,rfl,c,hz,b⟩:=h;show wSs _ _ oS _ [some _];unfold oS;fin2;exact⟨rfl,_,rfl,T,rfl,c,hz,_,rfl,b⟩
section
variable{P:Program}{w:World}{K:Frag}{mg:Str->Option Value}{base:Heap}{tp:Nat->Stmt}{DD:DT}{ZZ:List Str}
theorem Mu{jt ji jb f g:Nat}{j l:Str}(T:TT K mg tp DD ZZ)(d:DD[jt]?=some (j,f))(a:DD[ji]?=some (l,g))(b:Cl P w K mg base DD 1 jb .s ku)(c:xx ZZ (tp f) 1 2 [] [rD DD ji,rD DD jb] [] [.s,.s] [] .s uJ=true)(i:xx ZZ (tp g) 2 2 [] [rD DD jb,rD DD jt] [] [.s,.s] [] .s oO=true):∀n,Cl P w K mg base DD (1+2*n) jt .s (GU n)
 |0=>Q4 T d (Fv c) λe Q R h=>by obtain⟨X,_,_,p,_⟩:=h;have:=QI X;omega
 |n+1=>by have m:=Mu T d a b c i n;have o:Cl P w K mg base DD (1+2*n+1) ji .s (VR n):=rL (k:=1+2*n) (Ss:=[ku,GU n]) T a 2 [] [(jb,.s,1),(jt,.s,1+2*n)] UY ⟨b,m,trivial⟩ (UX (by show 1<=_;omega) (Bn _) i) (λe P R h=>by obtain⟨_,_,rfl,_⟩:=h;rfl);exact rL (k:=1+2*n+1) (Ss:=[VR n,ku]) T d 1 [] [(ji,.s,1+2*n+1),(jb,.s,1)] UZ ⟨o,b,trivial⟩ (UX (Bn _) (by show 1<=_;omega) c) (λe P R h=>by obtain⟨_,rfl,_⟩:=h;rfl)
end
theorem tG{E D:Addr}{Q:W->Prop}(h:Q (.bl false)):HY (.err E) (.dU D [] [E]) Q:=.inr ⟨BM,h⟩
theorem Mv{E D:Addr}{Q:W->Prop}(h:Q (.bl true)):HY (.err E) (.dU D [E] []) Q:=.inl ⟨BM,h⟩
noncomputable def uR:List CS:=[.set 1 (.lst [(.Bo (.var 0) 0),(.Bo (.var 0) 1),(.Bo (.var 0) 2)]),.set 1 (.bin .Add (.var 1) (.lst [(.Bo (.var 0) 3),(.Bo (.var 0) 4),(.Bo (.var 0) 5)])),.set 1 (.bin .Add (.var 1) (.lst [(.Bo (.var 0) 6),(.Bo (.var 0) 7),(.Rr (.var 0))])),.ret (.comp [0] true 1 (.rB [(.int 9)]) (.ix (.var 2) (.var 0)) (.var 0))]
noncomputable def VU(E:Addr):aV:=λa Q _=>a=[.err E]/\Q (.lst [.int 2,.int 7,.int 8])
noncomputable def U4:List Bool:=[false,false,true,false,false,false,false,true,true]
theorem XI{E t s r q p o i g:Addr}{d:Nat->aV}{m:Md}(u:List W)(Q:W->Prop)(R:Addr->Prop)(h:VU E u Q R):wSs d (bR [.dU t [] [E],.dU s [] [E],.dU r [E] [],.dU q [] [E],.dU p [] [E],.dU o [] [E],.dU i [] [E],.dU g [E] []]) uR (aX m Q R) (au 2 u):=by
 obtain⟨rfl,A⟩:=h;show wSs _ _ uR _ [some _,none];unfold uR;fin2;refine tG (tG (Mv ⟨QZ,?_⟩));fin2;refine tG (tG (tG ⟨QZ,ai (by show 6<=1000;decide),?_⟩));fin2;refine tG (Mv ?_);refine⟨QZ,ai (by show 9<=1000;decide),?_⟩;fin2;refine⟨by decide,by decide,?_⟩;have f:∀k:Nat,k<9->iS ([W.bl false,.bl false,.bl true,.bl false,.bl false,.bl false,.bl false,.bl true,.bl true]) (k:Int)=some (.bl (U4.getD k false)):=λk B=>b4 (by
  have:∀k,k<9->U4[k]?=some (U4.getD k false):=by decide
  have:=Hb (Option.map W.bl) (this k B);rw[<-IH]at this;exact this)
 have D:∀(n k:Nat)(a:List W),k+n=9->a++(((N2 k n).filter λj=>U4.getD j false).map λj=>W.int ((j:Nat):Int))=[.int 2,.int 7,.int 8]->a.length<=9->
  pU (λw K=>wT true [0] w (C8 1 none++[some (W.err E),some (.lst [.bl false,.bl false,.bl true,.bl false,.bl false,.bl false,.bl false,.bl true,.bl true])]) λc=>wE d (bR [.dU t [] [E],.dU s [] [E],.dU r [E] [],.dU q [] [E],.dU p [] [E],.dU o [] [E],.dU i [] [E],.dU g [E] []]) (λ_=>False) (.ix (.var 2) (.var 0)) c λx=>truth x λk=>if k=true then wE d (bR [.dU t [] [E],.dU s [] [E],.dU r [E] [],.dU q [] [E],.dU p [] [E],.dU o [] [E],.dU i [] [E],.dU g [E] []]) (λ_=>False) (.var 0) c λy=>K (some y)else K none) ((N2 k n).map λj=>W.int ((j:Nat):Int)) a λl=>Q (.lst l):=by
  intro n
  induction n with
  |zero=>intro k a C b e;rw[show a=[.int 2,.int 7,.int 8] by simpa using b];exact A
  |succ n v=>
   intro k a C b e;rw[Y7,Hn,pU];fin2;refine⟨_,f k (by omega),?_⟩;fin2;rw[Y7,List.filter_cons]at b;by_cases z:U4.getD k false=true
   .rw[Do z]at b⊢;exact⟨Y1 e (by decide),v (k+1) _ (by omega) (by simpa using b) (by have:=Hb Dr b;simp at this;simp;omega)⟩
   .rw[Bi z]at b⊢;exact v (k+1) _ (by omega) b e
 exact D 9 0 [] rfl rfl (NM _)
noncomputable def qN:List CS:=[.set 1 (.call 0 [(.var 0)]),.set 2 .aG,.set 3 .aG,.Tc 2 4 0 3 (.oq 1 1 (.call 2 [(.var 0)])),.iff (.cmp .Is (.var 1) .aG) [.ret (.cmp .Eq (.call 3 [(.var 3)]) (.lst [(.int 2),(.int 7),(.int 8)]))] [],.ret (.and [(.cmp .Is (.var 3) .aG),(.blt .DW [(.var 2),(.GJ "str")]),(.cmp .Eq (.var 2) (.call 4 [(.var 1)]))])]
noncomputable def BX(n:Nat):aV:=λa Q _=>∃x:Str,a=[.str x]/\x.length<=5000/\ops x.cps.toList<n/\Q (.bl true)
theorem Gf{n:Nat}{X E H:Addr}{m:Md}(d:List W)(Q:W->Prop)(R:Addr->Prop)(h:BX n d Q R):wSs (bH [VQ,Ka X,VM X E,VU E,GU n]) (bR [.dU H [E] [],.cls X]) qN (aX m Q R) (au 5 d):=by
 obtain⟨x,rfl,c,j,g⟩:=h;obtain⟨s,rfl⟩:∃s,x=tx s:=⟨_,(gj x).symm⟩;rw[iZ]at j;have c:s.length<=5000:=c;show wSs _ _ qN _ [some _,none,none,none,none];unfold qN;fin2;cases a:lD s with
 |none=>refine⟨s,rfl,c,λt e=>nn (a.symm.trans e),λ_=>?_⟩;fin2;refine⟨QP _ _,s,rfl,c,λt e=>nn (a.symm.trans e),λ_=>⟨BM,?_⟩⟩;fin2;refine qI ?_;fin2;refine⟨rfl,QZ,?_⟩;refine⟨.inl ⟨rfl,rfl⟩,λb k=>?_⟩;rw[k.mpr rfl];exact g
 |some t=>
  obtain⟨q,f,p,o⟩:=JU a;refine⟨s,rfl,c,λi e=>?_,λe=>nn (e.symm.trans a)⟩;rw[a]at e;cases e;fin2;refine⟨QP _ _,s,rfl,c,λi e=>?_,λe=>nn (e.symm.trans a)⟩;rw[a]at e;cases e;refine⟨rfl,t,rfl,f,by omega,?_⟩;fin2;refine uM t ?_;fin2;refine qI ?_;fin2;refine⟨"str",rfl,?_⟩;have l:Bp "str" "str"=true:=by decide
  rw[l];fin2;refine⟨t,rfl,f,by omega,by omega,?_⟩;unfold wX;fin2;rw[Bz rfl];exact g
noncomputable def qO:List CS:=[.set 2 (.ix (.str "0123456789 ()+-*/^aAz_.\n") (.bin .Mod (.ix (.var 1) (.int 0)) (.int 24))),.set 3 (.bin .Mod (.ix (.var 1) (.int 1)) (.bin .Add (.blt .len [(.var 0)]) (.int 1))),.set 4 (.bin .Add (.bin .Add (.var 3) (.int 1)) (.bin .Mod (.ix (.var 1) (.int 2)) (.int 7))),.set 5 (.bin .Mod (.ix (.var 1) (.int 3)) (.int 6)),.set 6 (.lst [(.str " + "),(.str " - "),(.str " * "),(.str " / "),(.str "^"),(.str "^2"),(.str "^12"),(.str "^13"),(.str "^0"),(.str "^02"),(.str "^-1"),(.str "-"),(.str "--"),(.str "()"),(.str "("),(.str ")"),(.str "x y")]),.set 6 (.bin .Add (.var 6) (.lst [(.str "00"),(.str "0"),(.str "01"),(.bin .Mult (.str "1") (.int 30)),(.bin .Mult (.str "1") (.int 31)),(.str "abcdefgh"),(.str "abcdefghi"),(.str "X"),(.str "x1"),(.str "1x"),(.str "+"),(.str " +"),(.str "+ "),(.str "  ")])),.set 6 (.bin .Add (.var 6) (.lst [(.str "x^2^3"),(.str "(x)^2"),(.str "-x^2"),(.str "(-x)^2"),(.str "2^x"),(.str "x^(2)"),(.str " + -"),(.str " * -x"),(.str "--x"),(.str ""),(.str "\n")])),.iff (.cmp .Eq (.var 5) (.int 0)) [.ret (.bin .Add (.bin .Add (.slt (.var 0) .aG (.var 3)) (.var 2)) (.slt (.var 0) (.var 3) .aG))] [],.iff (.cmp .Eq (.var 5) (.int 1)) [.ret (.bin .Add (.slt (.var 0) .aG (.var 3)) (.slt (.var 0) (.bin .Add (.var 3) (.int 1)) .aG))] [],.iff (.cmp .Eq (.var 5) (.int 2)) [.ret (.bin .Add (.bin .Add (.slt (.var 0) .aG (.var 3)) (.var 2)) (.slt (.var 0) (.bin .Add (.var 3) (.int 1)) .aG))] [],.iff (.cmp .Eq (.var 5) (.int 3)) [.ret (.bin .Add (.slt (.var 0) .aG (.var 4)) (.slt (.var 0) (.var 3) .aG))] [],.iff (.cmp .Eq (.var 5) (.int 4)) [.ret (.bin .Add (.bin .Add (.slt (.var 0) .aG (.var 3)) (.ix (.var 6) (.bin .Mod (.ix (.var 1) (.int 4)) (.blt .len [(.var 6)])))) (.slt (.var 0) (.var 4) .aG))] [],.ret (.bin .Add (.bin .Add (.slt (.var 0) .aG (.var 3)) (.ix (.var 6) (.bin .Mod (.ix (.var 1) (.int 4)) (.blt .len [(.var 6)])))) (.slt (.var 0) (.var 3) .aG))]
noncomputable def U5:aV:=λc Q _=>∃(s:List Nat)(b:List Int),c=[wX s,wI b]/\b.length=5/\s.length<=1000/\∀a:List Nat,a.length<=2*s.length+40->ops a<=2*ops s+40->Q (wX a)
theorem uS(l:List Nat)(a b:Option Int):(bT l a b).length<=l.length/\ops (bT l a b)<=ops l:=by have:(bT l a b).Sublist l:=(XR _ _).trans (List.drop_sublist _ _);exact⟨this.length_le,this.countP_le⟩
noncomputable def sA:List Str:=[" + "," - "," * "," / ","^","^2","^12","^13","^0","^02","^-1","-","--","()","(",")","x y"]
noncomputable def sB:List Str:=["00","0","01",tx (C8 30 ("1":Str).cps.toList).flatten,tx (C8 31 ("1":Str).cps.toList).flatten,"abcdefgh","abcdefghi","X","x1","1x","+"," +","+ ","  "]
noncomputable def sC:List Str:=["x^2^3","(x)^2","-x^2","(-x)^2","2^x","x^(2)"," + -"," * -x","--x","","\n"]
noncomputable def iH:List Str:=sA++sB++sC
theorem As:iH.length=42:=rfl
theorem U6:∀x∈iH,x.length<=31:=by decide+kernel
theorem Mw{α:Type}{l:List α}{i:Int}{n:Nat}(c:l.length=n)(b:0<=i)(d:i<n):∃x,iS l i=some x/\x∈l:=by
 obtain⟨k,rfl⟩:=Iy b;have a:k<l.length:=by omega
 exact⟨l[k],b4 (Ee a),N0 a⟩
theorem Gg{S:Nat->aV}{G:Nat->W}{m:Md}(L:List W)(Q:W->Prop)(R:Addr->Prop)(h:U5 L Q R):wSs S G qO (aX m Q R) (au 7 L):=by
 obtain⟨s,M,rfl,T,X,Y⟩:=h;obtain⟨a,b,c,d,e,rfl⟩:∃a b c d e,M=[a,b,c,d,e]:=by
  match M,T with
  |[a,b,c,d,e],_=>exact⟨a,b,c,d,e,rfl⟩
 have B:s.length<=sizeLine:=ai X;show wSs _ _ qO _ [some (wX s),some (wI [a,b,c,d,e]),none,none,none,none,none];unfold qO;refine aL (λr=>∃sg:Nat,r=[some (wX s),some (wI [a,b,c,d,e]),some (wX [sg]),none,none,none,none]) (λN u=>?_) ?_
 .unfold wI;fin2;refine⟨_,rfl,?_⟩;fin2;have f:=fm (x:=a) (n:=24) (by decide);obtain⟨x,A,_⟩:=Mw (l:=("0123456789 ()+-*/^aAz_.\n":Str).cps.toList) (n:=24) rfl f.1 f.2;exact⟨by decide,by decide,x,A,u _ ⟨x,rfl⟩⟩
 rintro _ ⟨sg,rfl⟩;refine aL (λr=>∃i:Int,r=[some (wX s),some (wI [a,b,c,d,e]),some (wX [sg]),some (.int i),none,none,none]) (λN u=>?_) ?_
 .unfold wI wX;fin2;refine⟨_,rfl,B,?_⟩;fin2;exact⟨by omega,u _ ⟨_,rfl⟩⟩
 rintro _ ⟨i,rfl⟩;refine aL (λr=>∃j:Int,r=[some (wX s),some (wI [a,b,c,d,e]),some (wX [sg]),some (.int i),some (.int j),none,none]) (λN u=>?_) ?_
 .unfold wI;fin2;refine⟨_,rfl,?_⟩;fin2;exact⟨by decide,u _ ⟨_,rfl⟩⟩
 rintro _ ⟨j,rfl⟩;refine aL (λr=>∃k:Int,r=[some (wX s),some (wI [a,b,c,d,e]),some (wX [sg]),some (.int i),some (.int j),some (.int k),none]) (λN u=>?_) ?_
 .unfold wI;fin2;refine⟨_,rfl,?_⟩;fin2;exact⟨by decide,u _ ⟨_,rfl⟩⟩
 rintro _ ⟨k,rfl⟩;refine aL (λr=>r=[some (wX s),some (wI [a,b,c,d,e]),some (wX [sg]),some (.int i),some (.int j),some (.int k),some (.lst (sA.map W.str))]) (λN u=>?_) ?_
 .fin2;exact⟨ai (by show 17<=1000;decide),u _ rfl⟩
 rintro _ rfl;refine aL (λr=>r=[some (wX s),some (wI [a,b,c,d,e]),some (wX [sg]),some (.int i),some (.int j),some (.int k),some (.lst (sA.map W.str++sB.map W.str))]) (λN u=>?_) ?_
 .fin2;refine⟨by decide,by decide,by decide,by decide,ai (by show 14<=1000;decide),ai (by show 31<=1000;decide),u _ rfl⟩
 rintro _ rfl;refine aL (λr=>r=[some (wX s),some (wI [a,b,c,d,e]),some (wX [sg]),some (.int i),some (.int j),some (.int k),some (.lst (iH.map W.str))]) (λN u=>?_) ?_
 .fin2;refine⟨ai (by show 11<=1000;decide),ai (by show 42<=1000;decide),u _ ?_⟩;rw[iH,Kk,Kk];rfl
 rintro _ rfl;have F:∀(x:List Nat)(p q g o:Option Int),x.length<=31->Q (wX (bT s p q++x++bT s g o)):=λx p q g o v=>by have P:=uS s p q;have O:=uS s g o;have ox:=qz x;exact Y _ (by simp only[AN];omega) (by rw[bN,bN];omega)
 have E:∀(p q g o:Option Int),Q (wX (bT s p q++bT s g o)):=λp q g o=>by have:=F [] p q g o (by decide);rw[NA]at this;exact this
 have H:∀(l h:Option Int),(bT s l h).length<=1000:=λl h=>by have:=uS s l h;omega
 have sm:∀(x:List Nat)(p q g o:Option Int),x.length<=31->(bT s p q).length+x.length<=sizeLine/\(bT s p q++x).length+(bT s g o).length<=sizeLine:=λx p q g o v=>by have P:=H p q;have O:=H g o;rw[AN];exact⟨FV (show _<=3000 by omega) (by decide),FV (show _<=3000 by omega) (by decide)⟩
 have I:∀(p q g o:Option Int),(bT s p q).length+(bT s g o).length<=sizeLine:=λp q g o=>by have P:=H p q;have O:=H g o;exact FV (show _<=3000 by omega) (by decide)
 have K:=fm (x:=e) (n:=42) (by decide);obtain⟨x,A,v⟩:=Mw As K.1 K.2;have A:iS (iH.map W.str) (e.fmod 42)=some (.str x):=by
  obtain⟨n,Z⟩:=Iy K.1;rw[Z]at A⊢;have D:n<42:=by omega
  have:iH[n]?=some x:=by rw[b4 (Ee (by rw[As];exact D))]at A;rw[Ee (by rw[As];exact D)];exact A
  exact b4 (by rw[IH,this];rfl)
 have v:=U6 x v;obtain⟨y,rfl⟩:∃y,x=tx y:=⟨_,(gj x).symm⟩;have U:y.length<=31:=v;have J:(iH.map W.str).length=42:=by rw[Fk,As]
 unfold wX wI;fin2;have t:∀(x:List Nat)(p q g o:Option Int),x.length<=31->s.length<=sizeLine/\(bT s p q).length+x.length<=sizeLine/\s.length<=sizeLine/\(tx (bT s p q)++tx x).length+(bT s g o).length<=sizeLine/\Q (.str (tx (bT s p q)++tx x++tx (bT s g o))):=λx p q g o v=>by rw[bZ,bZ];exact⟨B,(sm x p q g o v).1,B,(sm x p q g o v).2,F x p q g o v⟩
 have C:∀(p q g o:Option Int),s.length<=sizeLine/\s.length<=sizeLine/\(bT s p q).length+(bT s g o).length<=sizeLine/\Q (.str (tx (bT s p q)++tx (bT s g o))):=λp q g o=>by rw[bZ];exact⟨B,B,I p q g o,E p q g o⟩
 have z:∀(g o:Option Int),s.length<=sizeLine/\∃w,iS (d5 W.int [a,b,c,d,e]) 4=some w/\cV .Mod w (.int ((iH.map W.str).length:Nat)) λy=>HW (.lst (iH.map W.str)) y λy=>cV .Add (.str (tx (bT s none (some i)))) y λx=>s.length<=sizeLine/\cV .Add x (.str (tx (bT s g o))) Q:=λg o=>by refine⟨B,_,rfl,?_⟩;rw[J];refine⟨show((42:Nat):Int)≠0 by decide,_,A,?_⟩;exact(t y none (some i) g o U).2
 split
 .exact t [sg] _ _ _ _ (by show 1<=31;decide)
 .split
  .exact C _ _ _ _
  .split
   .exact t [sg] _ _ _ _ (by show 1<=31;decide)
   .split
    .exact C _ _ _ _
    .split
     .exact z _ _
     .exact z _ _
noncomputable def rp(m:Nat)(l:List Nat):List Nat:=(C8 m l).flatten
theorem cD(m:Nat)(l:List Nat):(rp m l).length=m*l.length:=by unfold rp;simp
theorem yL(l:List Nat):∀m:Nat,ops (rp m l)=m*ops l
 |0=>by rw[Nat.zero_mul];rfl
 |m+1=>by
  have:rp (m+1) l=l++rp m l:=by unfold rp;rw[G1,HN]
  rw[this,bN,yL l m,Nat.add_mul,ck,Zy]
noncomputable def Kc(x:List Nat):Prop:=x.length<=2000/\ops x<=262
theorem jx{x:List Nat}(h:x.length<=262):Kc x:=⟨by omega,FV (qz x) h⟩
noncomputable def qP:List CS:=[.set 2 (.bin .Add (.int 29) (.bin .Mod (.var 0) (.int 3))),.set 3 (.lst [(.bin .Add (.bin .Add (.bin .Mult (.str "(") (.var 2)) (.var 1)) (.bin .Mult (.str ")") (.var 2))),(.bin .Add (.bin .Mult (.str "-") (.var 2)) (.var 1)),(.bin .Add (.bin .Add (.bin .Mult (.str "-(") (.var 2)) (.var 1)) (.bin .Mult (.str ")") (.var 2)))]),.app 3 (.bin .Add (.bin .Add (.bin .Add (.bin .Add (.bin .Mult (.str "-") (.var 2)) (.str "(")) (.bin .Mult (.str "-") (.bin .Sub (.int 30) (.bin .Mod (.bin .FloorDiv (.var 0) (.int 3)) (.int 2))))) (.var 1)) (.str ")^2")),.app 3 (.bin .Add (.bin .Add (.bin .Add (.str "1 + (") (.bin .Mult (.str "2 * (") (.var 2))) (.var 1)) (.bin .Mult (.str ")") (.bin .Add (.var 2) (.int 1)))),.app 3 (.bin .Add (.bin .Add (.bin .Add (.bin .Add (.bin .Add (.bin .Add (.bin .Mult (.str "(") (.var 2)) (.var 1)) (.bin .Mult (.str ")") (.var 2))) (.str " - ")) (.bin .Mult (.str "(") (.int 30))) (.str "0")) (.bin .Mult (.str ")") (.int 30))),.set 4 (.bin .Add (.var 1) (.bin .Mult (.str " + 1") (.int 240))),.set 5 (.bin .Add (.int 999) (.bin .Mod (.bin .FloorDiv (.var 0) (.int 6)) (.int 3))),.set 6 (.bin .Sub (.var 5) (.blt .len [(.var 4)])),.set 4 (.bin .Add (.bin .Add (.var 4) (.bin .Mult (.str " * 1") (.bin .FloorDiv (.var 6) (.int 4)))) (.slt (.str "^10") .aG (.bin .Mod (.var 6) (.int 4)))),.ret (.bin .Add (.var 3) (.lst [(.var 4),(.bin .Mult (.str "(") (.int 40))]))]
noncomputable def U7:aV:=λc Q _=>∃(n:Int)(b:List Nat),c=[.int n,wX b]/\n.natAbs<1000000/\b.length<=8/\∀a:List (List Nat),a.length<=20->(∀x∈a,Kc x)->Q (.lst (a.map wX))
theorem jP{x:List Nat}{k:Nat}{Q:W->Prop}(a:x.length<=1000)(c:k<=1000)(b:Q (wX (rp k x))):cV .Mult (.str (tx x)) (.int (k:Nat)) Q:=by refine⟨⟨by omega,by omega⟩,a,?_⟩;rw[I0,iZ];exact b
theorem gQ{a b:List Nat}{Q:W->Prop}(h:a.length+b.length<=4000)(c:Q (wX (a++b))):cV .Add (wX a) (wX b) Q:=by refine⟨FV h (by decide),?_⟩;rw[bZ];exact c
theorem XM{i j:Int}{Q:W->Prop}(h:Q (.int (i -j))):cV .Sub (.int i) (.int j) Q:=h
theorem XN{i j:Int}{Q:W->Prop}(h:Q (.int (i+j))):cV .Add (.int i) (.int j) Q:=h
theorem Gh{D:Nat->aV}{G:Nat->W}{m:Md}(A:List W)(Q:W->Prop)(R:Addr->Prop)(h:U7 A Q R):wSs D G qP (aX m Q R) (au 7 A):=by
 obtain⟨n,e,rfl,X,Y,L⟩:=h;show wSs _ _ qP _ [some (.int n),some (wX e),none,none,none,none,none];unfold qP;refine aL (λd=>∃k:Nat,k<=31/\d=[some (.int n),some (wX e),some (.int k),none,none,none,none]) (λN i=>?_) ?_
 .fin2;have f:=fm (x:=n) (n:=3) (by decide);obtain⟨q,l⟩:=Iy f.1;refine⟨by decide,i _ ⟨29+q,by omega,?_⟩⟩;rw[l];rfl
 rintro _ ⟨k,Z,rfl⟩;have r:("(":Str)=tx [40]:=by decide+kernel
 have s2:(")":Str)=tx [41]:=by decide+kernel
 have s3:("-":Str)=tx [45]:=by decide+kernel
 have s4:("-(":Str)=tx [45,40]:=by decide+kernel
 have J:(")^2":Str)=tx [41,94,50]:=by decide+kernel
 have I:("1 + (":Str)=tx [49,32,43,32,40]:=by decide+kernel
 have H:("2 * (":Str)=tx [50,32,42,32,40]:=by decide+kernel
 have F:(" - ":Str)=tx [32,45,32]:=by decide+kernel
 have E:("0":Str)=tx [48]:=by decide+kernel
 have U:(" + 1":Str)=tx [32,43,32,49]:=by decide+kernel
 have T:(" * 1":Str)=tx [32,42,32,49]:=by decide+kernel
 have t:("^10":Str)=tx [94,49,48]:=by decide+kernel
 refine aL (λd=>∃c:List (List Nat),(c.length<=10/\∀x∈c,Kc x)/\d=[some (.int n),some (wX e),some (.int k),some (.lst (c.map wX)),none,none,none]) (λN i=>?_) ?_
 .show wE _ _ _ _ _ _;dsimp only[wE,wA];rw[r,s2,s3,s4];dsimp only[look];refine jP (by decide) (by omega) (gQ ?_ (jP (by decide) (by omega) (gQ ?_ (jP (by decide) (by omega) (gQ ?_ (jP (by decide) (by omega) (gQ ?_ (jP (by decide) (by omega) (gQ ?_ ⟨QZ,i _ ⟨[rp k [40]++e++rp k [41],rp k [45]++e,rp k [45,40]++e++rp k [41]],⟨by show 3<=10;decide,λx g=>?_⟩,rfl⟩⟩)))))))))
  all_goals try (simp only[AN,cD,A0,CC];omega)
  rcases FC.mp g with rfl|g
  .refine jx ?_;simp only[AN,cD,A0,CC];omega
  rcases FC.mp g with rfl|g
  .refine jx ?_;simp only[AN,cD,A0,CC];omega
  rcases FC.mp g with rfl|g
  .refine jx ?_;simp only[AN,cD,A0,CC];omega
  cases g
 rintro _ ⟨c,⟨o,B⟩,rfl⟩;have j:∀{c:List (List Nat)}{y:List Nat}{a:Nat},(c.length<=a/\∀x∈c,Kc x)->y.length<=262->(c++[y]).length<=a+1/\∀x∈c++[y],Kc x:=λ{c y a} h C=>⟨by rw[AN];have:=h.1;show _+1<=_;omega,λx g=>by
  rcases Fh.mp g with g|g
  .exact h.2 x g
  .rw[FR.mp g];exact jx C⟩
 have v:∀{c:List (List Nat)},c.length<=20->(c.map wX).length<sizeLine:=λ{c} h=>by rw[Fk];exact Y1 h (by decide)
 have mp:∀{c:List (List Nat)}{y:List Nat},c.map wX++[wX y]=(c++[y]).map wX:=λ{c y}=>by rw[Kk];rfl
 refine aL (λd=>∃c:List (List Nat),(c.length<=11/\∀x∈c,Kc x)/\d=[some (.int n),some (wX e),some (.int k),some (.lst (c.map wX)),none,none,none]) (λN i=>?_) ?_
 .have f:=fm (x:=n.fdiv 3) (n:=2) (by decide);obtain⟨q,l⟩:=Iy f.1;have w:(30:Int) -((q:Nat):Int)=((30 -q:Nat):Int):=by omega
  show wE _ _ _ _ _ _;dsimp only[wE,wA];rw[r,s3,J];dsimp only[look];refine jP (by decide) (by omega) (gQ (b:=[40]) ?_ ?_)
  .simp only[AN,cD,A0,CC];omega
  refine⟨⟨by decide,iA (n:=2) (by decide) (by decide)⟩,show(2:Int)≠0 by decide,?_⟩;refine XM ?_;dsimp only;rw[l,w];refine jP (by decide) (by omega) (gQ ?_ (gQ ?_ (gQ (b:=[41,94,50]) ?_ ⟨v (by omega),i _ ⟨c++[rp k [45]++[40]++rp (30 -q) [45]++e++[41,94,50]],j ⟨o,B⟩ ?_,by rw[mp];rfl⟩⟩)))
  all_goals (simp only[AN,cD,A0,CC];omega)
 clear o B;rintro _ ⟨c,g,rfl⟩;have o:=g.1;refine aL (λd=>∃c:List (List Nat),(c.length<=12/\∀x∈c,Kc x)/\d=[some (.int n),some (wX e),some (.int k),some (.lst (c.map wX)),none,none,none]) (λN i=>?_) ?_
 .show wE _ _ _ _ _ _;dsimp only[wE,wA];rw[s2,I,H];dsimp only[look];refine jP (by decide) (by omega) (gQ (a:=[49,32,43,32,40]) ?_ (gQ ?_ ?_))
  .simp only[AN,cD,A0,CC];omega
  .simp only[AN,cD,A0,CC];omega
  refine XN ?_;rw[show(k:Int)+1=((k+1:Nat):Int)from rfl];refine jP (k:=k+1) (by decide) (by omega) (gQ ?_ ⟨v (by omega),i _ ⟨c++[[49,32,43,32,40]++rp k [50,32,42,32,40]++e++rp (k+1) [41]],j g ?_,by rw[mp];rfl⟩⟩)
  all_goals (simp only[AN,cD,A0,CC];omega)
 clear o g;rintro _ ⟨c,g,rfl⟩;have o:=g.1;refine aL (λd=>∃c:List (List Nat),(c.length<=13/\∀x∈c,Kc x)/\d=[some (.int n),some (wX e),some (.int k),some (.lst (c.map wX)),none,none,none]) (λN i=>?_) ?_
 .show wE _ _ _ _ _ _;dsimp only[wE,wA];rw[r,s2,F,E];dsimp only[look];refine jP (by decide) (by omega) (gQ ?_ (jP (by decide) (by omega) (gQ ?_ (gQ (b:=[32,45,32]) ?_ (jP (k:=30) (by decide) (by decide) (gQ ?_ (gQ (b:=[48]) ?_ (jP (k:=30) (by decide) (by decide) (gQ ?_ ⟨v (by omega),i _ ⟨c++[rp k [40]++e++rp k [41]++[32,45,32]++rp 30 [40]++[48]++rp 30 [41]],j g ?_,by rw[mp];rfl⟩⟩)))))))))
  all_goals (simp only[AN,cD,A0,CC];omega)
 clear o g;rintro _ ⟨c,g,rfl⟩;have o:=g.1;refine aL (λd=>d=[some (.int n),some (wX e),some (.int k),some (.lst (c.map wX)),some (wX (e++rp 240 [32,43,32,49])),none,none]) (λN i=>?_) ?_
 .show wE _ _ _ _ _ _;dsimp only[wE,wA];rw[U];dsimp only[look];refine jP (k:=240) (by decide) (by decide) (gQ ?_ (i _ rfl));simp only[AN,cD,A0,CC];omega
 rintro _ rfl;refine aL (λd=>∃z:Nat,z<=1001/\999<=z/\d=[some (.int n),some (wX e),some (.int k),some (.lst (c.map wX)),some (wX (e++rp 240 [32,43,32,49])),some (.int z),none]) (λN i=>?_) ?_
 .have f:=fm (x:=n.fdiv 6) (n:=3) (by decide);obtain⟨q,l⟩:=Iy f.1;fin2;refine⟨⟨by decide,iA (n:=3) (by decide) (by decide)⟩,by decide,?_⟩;rw[l];exact i _ ⟨999+q,by omega,by omega,rfl⟩
 rintro _ ⟨z,hz,K,rfl⟩;have s:(e++rp 240 [32,43,32,49]).length=e.length+960:=by simp only[AN,cD,A0,CC]
 refine aL (λd=>∃y:Nat,y<=41/\d=[some (.int n),some (wX e),some (.int k),some (.lst (c.map wX)),some (wX (e++rp 240 [32,43,32,49])),some (.int z),some (.int y)]) (λN i=>?_) ?_
 .unfold wX;fin2;rw[s];refine⟨ai (by omega),i _ ⟨z -(e.length+960),by omega,?_⟩⟩;rw[show((z:Nat):Int) -((e.length+960:Nat):Int)=((z -(e.length+960):Nat):Int) by omega]
 rintro _ ⟨y,C,rfl⟩;refine aL (λd=>∃x:List Nat,Kc x/\d=[some (.int n),some (wX e),some (.int k),some (.lst (c.map wX)),some (wX x),some (.int z),some (.int y)]) (λN i=>?_) ?_
 .show wE _ _ _ _ _ _;dsimp only[wE,wA];rw[T,t];dsimp only[look];have O:((y:Nat):Int).fdiv 4=((y/4:Nat):Int):=by rw[SZ _ (by decide)];rfl
  refine⟨⟨by decide,iA (n:=3) (by decide) (by decide)⟩,?_⟩;show cV .Mult (.str (tx [32,42,32,49])) (.int (((y:Nat):Int).fdiv 4)) _;rw[O];refine jP (by decide) (by omega) (gQ ?_ ?_)
  .rw[s];simp only[AN,cD,A0,CC];omega
  fin2;refine⟨by decide,by decide,?_⟩;have S:=uS [94,49,48] none (some (((y:Nat):Int).fmod 4));have P:(bT [94,49,48] none (some (((y:Nat):Int).fmod 4))).length<=3:=S.1;rw[bZ];refine⟨?_,i _ ⟨_,⟨?_,?_⟩,rfl⟩⟩
  .rw[AN,s,cD];refine yK ?_;show _+_*4+_<=_;omega
  .rw[AN,AN,s,cD];show _+_*4+_<=_;omega
  .have o1:=qz e;have o2:=qz (bT [94,49,48] none (some (((y:Nat):Int).fmod 4)));rw[bN,bN,bN,yL,yL];show _+240*1+_*1+_<=262;omega
 rintro _ ⟨x,M,rfl⟩;show wE _ _ _ _ _ _;dsimp only[wE,wA];rw[r];dsimp only[look];refine jP (k:=40) (by decide) (by decide) ⟨s2',?_⟩;refine⟨FV (show _<=100 by rw[Fk];show _+2<=100;omega) (by decide),?_⟩;have:=L (c++[x,rp 40 [40]]) (by rw[AN];show _+2<=20;omega) (λu p=>by
  rcases Fh.mp p with p|p
  .exact g.2 u p
  .rcases FC.mp p with rfl|p
   .exact M
   .rw[FR.mp p];refine jx ?_;rw[cD];decide)
 rw[Kk]at this;exact this
theorem wY{s:List Nat}(h:∀c∈s,pR.gM c=false):ops s=0:=List.countP_eq_zero.mpr λc a=>by rw[h c a];decide
theorem uT(b l:Nat)(s:List Nat):ops (br b l s)=ops s:=by
 unfold br;split
 .rw[b9,bN];show ops s+0+0=_;omega
 .rfl
theorem Gi(n:Nat):ops (dg n)=0:=wY λc a=>by have:=Np n c a;unfold pR.gM;exact DL (by omega)
theorem lI:∀T:Tr,lS T->ops (txt T)<=sz T
 |.nm x,h=>by
  have:ops x=0:=wY λc f=>by have:=h.2.2 c f;unfold isLet at this;unfold pR.gM;exact DL (by omega)
  show ops x<=1;omega
 |.nu n,h=>by show ops (dg n)<=1;rw[Gi];omega
 |.op o a b,h=>by have d:=lI a h.2.1;have g:=lI b h.2.2;show ops (br (bi a) (bi (.op o a b)) (txt a)++(32::o::32::br (bi b) (bi (.op o a b)+1) (txt b)))<=sz a+sz b+1;rw[bN,b9,b9,b9,uT,uT];show _+(_+0+(if pR.gM o=true then 1 else 0)+0)<=_;split<;>omega
 |.pw a e,h=>by have d:=lI a h.2;show ops (br (bi a) 4 (txt a)++94::dg e)<=sz a+1;rw[bN,b9,uT,Gi];show _+(0+1)<=_;omega
 |.ls a,h=>by have d:=lI a h;show ops (45::br (bi a) 2 (txt a))<=sz a+1;rw[b9,uT];show _+1<=_;omega
theorem wZ:∀T:Tr,dp T<=sz T
 |.nm _=>Bn _
 |.nu _=>Bn _
 |.op _ a b=>by have:=wZ a;have:=wZ b;show max (dp a) (dp b)+1<=sz a+sz b+1;omega
 |.pw a _=>Q1 (wZ a)
 |.ls a=>Q1 (wZ a)
noncomputable def w4:List CS:=[.iff (.not (.call 4 [(.var 6)])) [.ret (.bl false)] []]
noncomputable def Mx:List CS:=[.iff (.not (.call 4 [(.call 5 [(.var 4),(.call 0 [(.var 0),(.var 5),(.int 5)])])])) [.ret (.bl false)] []]
noncomputable def uU:List CS:=[.set 1 (.call 0 [(.var 0),(.int 0),(.int 3)]),.set 2 (.call 1 [(.call 0 [(.var 0),(.int 1),(.bin .Add (.int 1) (.bin .Mod (.ix (.var 1) (.int 0)) (.int 3)))])]),.set 3 (.call 2 [(.call 0 [(.var 0),(.int 2),(.bin .Add (.int 2) (.bin .Mod (.ix (.var 1) (.int 1)) (.int 8)))]),(.var 2),(.int 5)]),.set 4 (.call 3 [(.var 3)]),.fr [5] true (.rB [(.int 4),(.int 28)]) Mx,.fr [6] true (.lst [(.str ""),(.str " "),(.str "x +"),(.str "+ x"),(.str "x +y"),(.str "x+ y"),(.str "x  + y"),(.str "()"),(.str "(x"),(.str "x)"),(.str "x ^2"),(.str "x^ 2"),(.str "\n"),(.bin .Add (.var 4) (.str "\n"))]) w4,.fr [6] true (.call 6 [(.ix (.var 1) (.int 2)),(.ix (.var 2) (.int 0))]) w4,.ret (.and [(.call 4 [(.bin .Add (.str " ") (.var 4))]),(.call 4 [(.bin .Add (.var 4) (.str " "))]),(.call 4 [(.var 4)])])]
noncomputable def U8:List Str:=[""," ","x +","+ x","x +y","x+ y","x  + y","()","(x","x)","x ^2","x^ 2","\n"]
theorem Ke:∀x∈U8,x.length<=6:=by decide+kernel
abbrev U9:List aV:=[FO,FW,qH,GU 280,BX 280,U5,U7]
theorem Kf{m:Md}(ws:List W)(Q:W->Prop)(R:Addr->Prop)(h:QE ws Q R):wSs (bH U9) (bR []) uU (aX m Q R) (au 7 ws):=by
 obtain⟨k,rfl,hl,hq⟩:=h;show wSs _ _ uU _ [some (.cX k),none,none,none,none,none,none];unfold uU U9;refine aL (λg=>∃sh:List Int,(sh.length=3/\∀x∈sh,0<=x/\x<1000000)/\g=[some (.cX k),some (wI sh),none,none,none,none,none]) (λN r=>?_) ?_
 .fin2;exact⟨k,0,3,rfl,by decide,λv a b=>r _ ⟨v,⟨a,b⟩,rfl⟩⟩
 rintro _ ⟨sh,⟨l3,p3⟩,rfl⟩;obtain⟨q,p,s2',rfl⟩:∃a b c,sh=[a,b,c]:=by
  match sh,l3 with
  |[a,b,c],_=>exact⟨a,b,c,rfl⟩
 have hs2:=p3 s2' (B1 _ (B1 _ BM));refine aL (λg=>∃(z:List Nat)(v:List (List Nat)),((z::v).length<=3/\∀x∈z::v,nH x)/\g=[some (.cX k),some (wI [q,p,s2']),some (.lst ((z::v).map wX)),none,none,none,none]) (λN r=>?_) ?_
 .have f:=fm (x:=q) (n:=3) (by decide);obtain⟨j,U⟩:=Iy f.1;unfold wI;fin2;refine⟨_,rfl,?_⟩;fin2;refine⟨by decide,?_⟩;rw[U];refine⟨k,1,1+j,rfl,by omega,λv a b=>⟨v,rfl,by omega,b,λI c d=>?_⟩⟩;cases I with
  |nil=>rw[a,CC]at c;omega
  |cons y I=>exact r _ ⟨y,I,⟨by omega,d⟩,rfl⟩
 rintro _ ⟨z,v,⟨lx,M⟩,rfl⟩;have P:=M z BM;generalize K:z::v=t at lx M;refine aL (λg=>∃T:Tr,(lS T/\sz T<=27)/\g=[some (.cX k),some (wI [q,p,s2']),some (.lst (t.map wX)),some (wt T),none,none,none]) (λN r=>?_) ?_
 .have f:=fm (x:=p) (n:=8) (by decide);obtain⟨j,U⟩:=Iy f.1;unfold wI;fin2;refine⟨_,rfl,?_⟩;fin2;refine⟨by decide,?_⟩;rw[U];refine⟨k,2,2+j,rfl,by omega,λO a b=>⟨O,t,5,rfl,⟨by omega,by omega⟩,b,lx,M,by decide,λT c d=>r _ ⟨T,⟨c,d⟩,rfl⟩⟩⟩
 rintro _ ⟨T,⟨X,XG⟩,rfl⟩;have nJ:=jL T X;have XO:=lI T X;have tdp:=wZ T;refine aL (λg=>g=[some (.cX k),some (wI [q,p,s2']),some (.lst (t.map wX)),some (wt T),some (wX (txt T)),none,none]) (λN r=>?_) ?_
 .fin2;exact⟨T,rfl,X,by omega,by omega,r _ rfl⟩
 rintro _ rfl;generalize hs:txt T=s at nJ XO;have hsl:s.length<=992:=by omega
 have hso:ops s<=27:=by omega
 have nt:∀{A B:Prop},B->(if(!true)=true then A else B):=λ{A B} h=>h;have J:∀(y:List Nat)(L:W->Prop)(R':Addr->Prop),y.length<=5000->ops y<280->L (.bl true)->BX 280 [.str (tx y)] L R':=λy L R' H F Y=>⟨tx y,rfl,H,F,Y⟩;refine aL (λg=>∃o,g=[some (.cX k),some (wI [q,p,s2']),some (.lst (t.map wX)),some (wt T),some (wX s),o,none]) (λN r=>?_) ?_
 .fin2;refine⟨by decide,?_⟩;refine fW (λi E=>∃o,E=[some (.cX k),some (wI [q,p,s2']),some (.lst (t.map wX)),some (wt T),some (wX s),o,none]) ⟨none,rfl⟩ ?_ ?_
  .rintro i w E N' u ⟨o,rfl⟩ XQ;obtain⟨rfl,hi⟩:=p8 u;have ei:(4:Int)+i*1=((4+i:Nat):Int):=by omega
   rw[yP,ei];unfold Mx;fin2;refine⟨k,4+i,5,rfl,by decide,λO a b=>⟨s,O,rfl,a,by omega,λs' H F=>?_⟩⟩;refine J s' _ _ (by omega) (by omega) ?_;fin2;exact nt (XQ _ ⟨_,rfl⟩)
  .rintro E ⟨o,rfl⟩;exact r _ ⟨o,rfl⟩
 rintro _ ⟨o,rfl⟩;have bj:∀(y:List Nat)(D:Dn)(e:Option W),y.length<=5000->ops y<280->(∀e,D.nx [some (.cX k),some (wI [q,p,s2']),some (.lst (t.map wX)),some (wt T),some (wX s),o,e])->JO (bH [FO,FW,qH,GU 280,BX 280,U5,U7]) (bR []) true [6] w4 (.str (tx y)) D [some (.cX k),some (wI [q,p,s2']),some (.lst (t.map wX)),some (wt T),some (wX s),o,e]:=λy D e H F Y=>by rw[yP];unfold w4;fin2;refine J y _ _ H F ?_;fin2;exact nt (Y _)
 have C:∀(l:List W)(D:Dn),(∀w∈l,∃y:List Nat,w=.str (tx y)/\y.length<=5000/\ops y<280)->(∀e,D.nx [some (.cX k),some (wI [q,p,s2']),some (.lst (t.map wX)),some (wt T),some (wX s),o,e])->∀e,fh (JO (bH [FO,FW,qH,GU 280,BX 280,U5,U7]) (bR []) true [6] w4) D l [some (.cX k),some (wI [q,p,s2']),some (.lst (t.map wX)),some (wt T),some (wX s),o,e]:=λl D H F e=>by
  refine fW (λi E=>∃e,E=[some (.cX k),some (wI [q,p,s2']),some (.lst (t.map wX)),some (wt T),some (wX s),o,e]) ⟨e,rfl⟩ ?_ ?_
  .rintro i w E N' u ⟨e,rfl⟩ XQ;obtain⟨y,rfl,g1,Z⟩:=H w (Kx u);exact bj y _ e g1 Z λe=>XQ _ ⟨e,rfl⟩
  .rintro E ⟨e,rfl⟩;exact F e
 have nl:("\n":Str)=tx [10]:=by decide+kernel
 have bl:(" ":Str)=tx [32]:=by decide+kernel
 refine aL (λg=>∃e,g=[some (.cX k),some (wI [q,p,s2']),some (.lst (t.map wX)),some (wt T),some (wX s),o,e]) (λN r=>?_) ?_
 .refine wK (l:=U8.map W.str++[wX (s++[10])]) (λL S=>?_) ?_
  .unfold wX;fin2;refine⟨ai (by rw[nl];show s.length+1<=1000;omega),ai (by show 14<=1000;decide),?_⟩;have:(tx s++("\n":Str))=tx (s++[10]):=by rw[nl,bZ]
   rw[this];exact S
  .refine C _ _ (λw u=>?_) (λe=>r _ ⟨e,rfl⟩) none;rcases Fh.mp u with u|u
   .obtain⟨x,hx,rfl⟩:=Kb.mp u;have:=Ke x hx;have h6:=qz x.cps.toList;rw[<-je]at h6;exact⟨x.cps.toList,by rw[gj],by rw[<-je];omega,by omega⟩
   .rw[FR.mp u];exact⟨s++[10],rfl,by rw[AN];show _+1<=_;omega,by rw[bN];show _+0<_;omega⟩
 rintro _ ⟨e,rfl⟩;refine aL (λg=>∃e,g=[some (.cX k),some (wI [q,p,s2']),some (.lst (t.map wX)),some (wt T),some (wX s),o,e]) (λN r=>?_) ?_
 .rw[<-K];unfold wI;fin2;refine⟨_,rfl,wX z,nI,?_⟩;refine⟨s2',z,rfl,by omega,P.2.1,λI g1 Z=>?_⟩;rw[K];refine C (I.map wX) _ (λw u=>?_) (λe=>r _ ⟨e,rfl⟩) e;obtain⟨y,hy,rfl⟩:=Kb.mp u;have:=Z y hy;exact⟨y,rfl,by have:=this.1;omega,by have:=this.2;omega⟩
 rintro _ ⟨e,rfl⟩;unfold wX;fin2;rw[bl,bZ,bZ];refine⟨ai (by show 1+s.length<=1000;omega),J _ _ _ (by show(s.length+1)<=_;omega) (by rw[bN];show 0+_<_;omega) ?_⟩;fin2;refine⟨ai (by show s.length+1<=1000;omega),J _ _ _ (by rw[AN];show _+1<=_;omega) (by rw[bN];show _+0<_;omega) ?_⟩;fin2;exact J _ _ _ (by omega) (by omega) hq
end VL
namespace Lb
open PySem PySem.Spec
open PyProof.Rows hiding St
open L2 VL Num
set_option genInjectivity false
set_option genSizeOf false
noncomputable def top(i:Nat):Stmt:=PySem.Challenge.pw_paperwright_k18_what_is_no_text.main.body.getD i (.Pass ⟨0,0,0,0⟩)
abbrev en(x:Str)(i:Nat):Str×Nat:=(x,i)
abbrev DD:DT:=[en "walked" 16,en "leaf_text" 17,en "lone_text" 18,en "joint_text" 19,en "bracketed" 20,en "read" 31,en "whole_number" 33,en "_law_numbers" 35,en "_law_names" 36,en "_law_leaf" 37,en "_law_joined" 38,en "_law_fits" 39,en "_law_step" 40,en "_law_grown" 41,en "_law_binds" 42,en "_law_inner" 43,en "_law_text" 44,en "_law_sum_at" 45,en "_law_term_at" 46,en "_law_factor_at" 47,en "_law_power_at" 48,en "_law_run" 49,en "_law_atom_at" 50,en "_law_tree_of" 51,en "_law_kinds" 52,en "_law_turned" 53,en "_law_judged" 54,en "_law_bounds" 55,en "law" 56]
abbrev ZZ:List Str:=["ValueError","abs","int","isinstance","len","max","range","str","tuple"]
abbrev cK:Stmt:=inClass (top 15) 0
abbrev cL:Stmt:=inClass (top 15) 3
abbrev fz:Stmt:=inClass (top 32) 0
abbrev dR:Stmt:=inClass (top 32) 1
abbrev dw:Stmt:=inClass (top 32) 2
abbrev cM:Stmt:=inClass (top 32) 3
abbrev cN:Stmt:=inClass (top 32) 4
abbrev cz:Stmt:=inClass (top 32) 5
abbrev b5:Stmt:=inClass (top 32) 6
abbrev cP:Stmt:=inClass (top 32) 7
abbrev b6:Stmt:=inClass (top 32) 8
abbrev dz:Stmt:=inClass (top 32) 9
theorem jQ:fT ["self","steps"] ["self","steps"] (aq cK):=⟨rfl,rfl,rfl,by decide+kernel,rfl,by decide+kernel,by decide+kernel⟩
theorem nK:fT ["self","text"] ["self","text"] (aq fz):=⟨rfl,rfl,rfl,by decide+kernel,rfl,by decide+kernel,by decide+kernel⟩
structure Tx(K:Frag)(mg:Str->Option Value) extends TT K mg top DD ZZ where
 ak:Addr
 gR:Hc K mg "Reader" ak ["text","place","brackets","steps"]
 ao:Addr
 cA:Hc K mg "Expression" ao ["steps"]
 fD:Addr
 fE:FuncData
 b7:Dm K ao "__init__" "Expression.__init__" cK ["self","steps"] fD fE
 kC:Addr
 kD:FuncData
 kF:Dm K ao "shown" "Expression.shown" cL ["self"] kC kD
 jy:Addr
 jz:FuncData
 dB:Dm K ak "__init__" "Reader.__init__" fz ["self","text"] jy jz
 gS:Addr
 gU:FuncData
 mT:Dm K ak "follows" "Reader.follows" dR ["self","signs"] gS gU
 fZ:Addr
 gb:FuncData
 lJ:Dm K ak "take_sum" "Reader.take_sum" dw ["self"] fZ gb
 fF:Addr
 fG:FuncData
 kG:Dm K ak "take_term" "Reader.take_term" cM ["self"] fF fG
 fH:Addr
 fJ:FuncData
 kH:Dm K ak "take_sign" "Reader.take_sign" cN ["self"] fH fJ
 eg:Addr
 eE:FuncData
 jA:Dm K ak "take_factor" "Reader.take_factor" cz ["self"] eg eE
 dD:Addr
 dF:FuncData
 iI:Dm K ak "take_exponent" "Reader.take_exponent" b5 ["self"] dD dF
 fK:Addr
 fL:FuncData
 kI:Dm K ak "take_atom" "Reader.take_atom" cP ["self"] fK fL
 dG:Addr
 dH:FuncData
 iJ:Dm K ak "take_brackets" "Reader.take_brackets" b6 ["self"] dG dH
 gc:Addr
 gf:FuncData
 lK:Dm K ak "take_run" "Reader.take_run" dz ["self","signs"] gc gf
 BY:∃u,mg "FIGURES"=some u/\RelV (.str "0123456789") u
 BZ:∃u,mg "LETTERS"=some u/\RelV (.str "abcdefghijklmnopqrstuvwxyz") u
 uV:∃u,mg "MOST_SIGNS"=some u/\RelV (.int 1000) u
 nM:∃u,mg "MOST_BRACKETS"=some u/\RelV (.int 30) u
 qQ:∃u,mg "MOST_MINUSES"=some u/\RelV (.int 30) u
 qR:∃u,mg "MOST_FIGURES"=some u/\RelV (.int 30) u
 qS:∃u,mg "MOST_LETTERS"=some u/\RelV (.int 8) u
 gW:∃u,mg "MOST_EXPONENT_FIGURES"=some u/\RelV (.int 2) u
 nN:∃u,mg "MOST_EXPONENT"=some u/\RelV (.int 12) u
 Va:∃u,mg "SUM"=some u/\RelV (.int 1) u
 Q6:∃u,mg "TERM"=some u/\RelV (.int 2) u
 Gj:∃u,mg "FACTOR"=some u/\RelV (.int 3) u
 Gk:∃u,mg "ATOM"=some u/\RelV (.int 4) u
 aI:Addr
 lM:mg "HouseError"=some (.ref aI)
 lN:pK K aI
 cQ:Addr
 yM:mg "NoNumber"=some (.ref cQ)
 dS:Addr
 B0:mg "NoValue"=some (.ref dS)
 af:Addr
 lO:mg "NoText"=some (.ref af)
 fM:pK K af
 fN:Addr
 Gm:mg "NoRoot"=some (.ref fN)
 iK:Addr
 Kg:mg "NoRow"=some (.ref iK)
 fO:Addr
 Gp:mg "TooFar"=some (.ref fO)
 fR:Addr
 Gq:mg "NoLine"=some (.ref fR)
 lP:kitOne K (.ref af) (.ref cQ)=some false
 mU:kitOne K (.ref af) (.ref dS)=some false
 nO:kitOne K (.ref af) (.ref af)=some true
 nQ:kitOne K (.ref af) (.ref fN)=some false
 qT:kitOne K (.ref af) (.ref iK)=some false
 nR:kitOne K (.ref af) (.ref fO)=some false
 nS:kitOne K (.ref af) (.ref fR)=some false
 eO:kitOne K (.ref af) (.ref aI)=some true
 cE:kitOne K (.ref af) (.type "ValueError")=some true
 bO:mroIn K af (.ref aI)=some true
 eN:mroIn K af (.ref af)=some true
section
variable{P:Program}{w:World}{K:Frag}{mg:Str->Option Value}{base:Heap}
theorem qU(T:Tx K mg):Cl P w K mg base DD 1 6 .s (QK T.af):=
 wu (Ss:=[]) T.toTT rfl 2 [] [] ["NoText"] QL trivial ⟨yz T.lO T.fM,trivial⟩ (by decide+kernel) (by walk_at "l")
theorem qV(T:Tx K mg):bJ P w K mg base (iY P w) 1 T.jy T.jz ["self","text"] (L8 T.ak):=by
 have i:=T.gR.ok.1;have f:=T.gR.ok.2.2.2;refine T.dB.F.Vm nK (λm H Q E h=>?_) (λr A k s H m Q E u h=>?_)
 .obtain⟨x,c,n,rfl,_⟩:=h;rfl
 obtain⟨x,c,n,rfl,p,q⟩:=h;refine⟨_,(@kO _ _ _ _ _ (lY (pv 0) (pv 1) rfl) (@kO _ _ _ _ _ (lY (pv 0) oX rfl) (@kO _ _ _ _ _ (lY (pv 0) oX rfl) (n8 (lY (pv 0) (xP bS) rfl))))),?_⟩;refine⟨_,rfl,_,rfl,x,T.ak,c,_,rfl,p,i,f "text" (by decide),by show 0<1000;decide,?_⟩;refine⟨_,rfl,x,T.ak,c,_,rfl,aD,i,f "place" (by decide),by show 1<1000;decide,?_⟩;refine⟨_,rfl,x,T.ak,c,_,rfl,aD,i,f "brackets" (by decide),by show 2<1000;decide,?_⟩;refine⟨AY (by simp),λj a=>?_⟩;have d:j≠x:=λe=>by rw[e,aD]at a;cases a
 refine⟨_,rfl,x,T.ak,c,_,rfl,vC aD a,i,f "steps" (by decide),by show 3<1000;decide,?_⟩;rw[ay d,ay d,ay d]at a;refine q j _ (λb o g l=>?_) a ?_ aD
 .have t:b≠j:=bx l a;rw[ay g,ay t,ay g,ay g,ay g];exact l
 .rw[ay d,aD]
theorem Gr(T:Tx K mg):bU P w K mg base 2 (.ref T.ak) 1 (pZ K 1 qx (oF T.ak)):=
 wF T.gR.ok ⟨T.gR.ZS,T.dB.M.1,T.dB.M.fn,T.gR.kp⟩ T.dB.b (qV T)
theorem kJ(T:Tx K mg):bJ P w K mg base (iY P w) 1 T.fD T.fE ["self","steps"] (Ma T.ao):=by
 have t:=T.cA.ok.1;have m:=T.cA.ok.2.2.2;refine T.b7.F.Vm jQ (λk H Q E h=>?_) (λu A d s H k Q E y h=>?_)
 .obtain⟨x,j,p,f,rfl,_⟩:=h;rfl
 obtain⟨x,j,p,f,rfl,g,n,z,q⟩:=h;refine⟨_,n8 (lY (pv 0) (lZ gh (by rfl) (T.Z "tuple" (by decide)) (by rfl) (aR (pv 1) bS rfl)) rfl),?_⟩;refine⟨_,rfl,p,f,rfl,.inl ⟨.inl (.inl n),λc a=>?_⟩⟩;have l:c≠x:=λe=>by rw[e,g]at a;cases a
 refine⟨_,rfl,x,T.ao,j,_,rfl,vC g a,t,m "steps" (by decide),by show 0<1000;decide,?_⟩;refine q c _ (λb o r i=>?_) a ?_ aD
 .have v:b≠c:=bx i a;rw[ay r,ay v];exact i
 .rw[ay l,aD]
theorem uW(T:Tx K mg):bU P w K mg base 2 (.ref T.ao) 1 (pZ K 1 .s (Ab T.ao)):=
 BQ T.cA.ok ⟨T.cA.ZS,T.b7.M.1,T.b7.M.fn,T.cA.kp⟩ T.b7.b (kJ T)
theorem Z6(T:Tx K mg):XD K mg:=⟨uK T.BY (λ_ _=>by dsimp only[Rep]) (λ_ e=>by cases e),uK T.BZ (λ_ _=>by dsimp only[Rep]) (λ_ e=>by cases e),uK T.uV (λ_ _=>by dsimp only[Rep]) (λ_ e=>by cases e),uK T.nM (λ_ _=>by dsimp only[Rep]) (λ_ e=>by cases e),uK T.qQ (λ_ _=>by dsimp only[Rep]) (λ_ e=>by cases e),uK T.qR (λ_ _=>by dsimp only[Rep]) (λ_ e=>by cases e),uK T.qS (λ_ _=>by dsimp only[Rep]) (λ_ e=>by cases e),uK T.gW (λ_ _=>by dsimp only[Rep]) (λ_ e=>by cases e),uK T.nN (λ_ _=>by dsimp only[Rep]) (λ_ e=>by cases e)⟩
noncomputable def rdN(T:Tx K mg):RE K T.ak ZZ where
 s:=λi=>match i with|0=>dR|1=>dw|2=>cM|3=>cN|4=>cz|5=>b5|6=>cP|7=>b6|_=>dz
 f:=λi=>match i with|0=>T.gS|1=>T.fZ|2=>T.fF|3=>T.fH|4=>T.eg|5=>T.dD|6=>T.fK|7=>T.dG|_=>T.gc
 d:=λi=>match i with|0=>T.gU|1=>T.gb|2=>T.fG|3=>T.fJ|4=>T.eE|5=>T.dF|6=>T.fL|7=>T.dH|_=>T.gf
 D0:=T.mT
 D1:=T.lJ
 D2:=T.kG
 D3:=T.kH
 D4:=T.jA
 D5:=T.iI
 D6:=T.kI
 D7:=T.iJ
 D8:=T.lK
 k0:=by decide+kernel
 k1:=by decide+kernel
 k2:=by decide+kernel
 k3:=by decide+kernel
 k4:=by decide+kernel
 k5:=by decide+kernel
 k6:=by decide+kernel
 k7:=by decide+kernel
 k8:=by decide+kernel
 k9:=by decide+kernel
theorem yN(T:Tx K mg):Mt P w K mg base T.ak 156 "take_sum" aJ (tw (pR.gw 30) 30 T.ak T.af):=Mp T.Z (Z6 T) (yz T.lO T.fM) (rdN T) (tE (qU T) (j:=6) rfl) 30
theorem Q7(T:Tx K mg):Cl P w K mg base DD 157 5 .s (VM T.ao T.af):=
 Aa T.toTT rfl rfl (UP (j:=5) (np:=1) (n:=2) (k:=156) (M:=[(1,qx)]) (es:=[("Reader",qx,false),("take_sum",aJ,true),("Expression",.s,false)]) (Ss:=[oF T.ak,tw (pR.gw 30) 30 T.ak T.af,Ab T.ao]) (gn:=["MOST_SIGNS","NoText"]) (Gs:=[.int 1000,.cls T.af]) T.toTT rfl ⟨⟨_,_,2,T.gR.c,Gr T,by decide,by walk_at "l"⟩,yN T,⟨_,_,2,T.cA.c,uW T,by decide,by walk_at "l"⟩,trivial⟩ ⟨(Z6 T).sg,yz T.lO T.fM,trivial⟩ rfl (by decide+kernel) (by walk_at "l") FL) (by walk_at "l")
theorem nh(T:Tx K mg):Cl P w K mg base DD 1 4 .s Ar:=
 rM T.toTT rfl 2 [] wQ (by decide+kernel) (by walk_at "l")
theorem w6(T:Tx K mg):Cl P w K mg base DD 1 1 .s iE:=
 wu (Ss:=[]) T.toTT rfl 2 [] [] ["ATOM"] wR trivial ⟨qv T.Gk,trivial⟩ (by decide+kernel) (λa P R h=>by obtain⟨_,⟨rfl,_⟩|⟨_,rfl,_⟩,_⟩:=h<;>rfl)
theorem xg(T:Tx K mg):Cl P w K mg base DD 2 2 .s uQ:=
 wu T.toTT rfl 3 [] [(4,.s,1)] ["ATOM","FACTOR"] U0 ⟨nh T,trivial⟩ ⟨qv T.Gk,qv T.Gj,trivial⟩ (by decide+kernel) (λa P R h=>by obtain⟨_,_,⟨_,_,rfl,_⟩|⟨rfl,_⟩⟩:=h<;>rfl)
theorem uX(T:Tx K mg):Cl P w K mg base DD 2 3 .s wU:=
 wu T.toTT rfl 3 [] [(4,.s,1)] ["SUM","TERM"] U1 ⟨nh T,trivial⟩ ⟨qv T.Va,qv T.Q6,trivial⟩ (by decide+kernel) (by walk_at "l")
theorem Gu(T:Tx K mg):Cl P w K mg base DD 3 0 .s (J8 (T.f 1) (T.f 2) (T.f 3)):=wu (k:=2) (Gs:=[.fn (T.f 1),.fn (T.f 2),.fn (T.f 3)]) T.toTT rfl 4 [(4,.f)] [(1,.s,1),(2,.s,2),(3,.s,2)] ["leaf_text","lone_text","joint_text"] BW ⟨w6 T,xg T,uX T,trivial⟩ ⟨BS (T.D (j:=1) rfl).m,BS (T.D (j:=2) rfl).m,BS (T.D (j:=3) rfl).m,trivial⟩ (by decide+kernel) (by walk_at "l")
theorem Kh(T:Tx K mg):Mt P w K mg base T.ao 4 "shown" .s (Ka T.ao):=
 qB (k:=3) T.kF rfl (by decide+kernel:qA ZZ cL 1 1 [] ["walked"] ["leaf_text","lone_text","joint_text"] [.s] [] .s oS=true) (iP (C:=T.ao) (es:=[("walked",.s,false)]) (Ss:=[J8 (T.f 1) (T.f 2) (T.f 3)]) (gn:=["leaf_text","lone_text","joint_text"]) (Gs:=[.fn (T.f 1),.fn (T.f 2),.fn (T.f 3)]) T.Z ⟨tE (Gu T) (j:=0) rfl,trivial⟩ ⟨BS (T.D (j:=1) rfl).m,BS (T.D (j:=2) rfl).m,BS (T.D (j:=3) rfl).m,trivial⟩ rfl) (by walk_at "l") U3
theorem B3(T:Tx K mg):Cl P w K mg base DD 1 7 .f FO:=
 rM T.toTT rfl 3 [(6,.f)] UQ (by decide+kernel) (by walk_at "l")
theorem Kl(T:Tx K mg):Cl P w K mg base DD 1 8 .s FW:=
 rM T.toTT rfl 1 [(2,.f)] UR (by decide+kernel) (by walk_at "l")
theorem Q8(T:Tx K mg):Cl P w K mg base DD 1 9 .s FY:=
 rM T.toTT rfl 2 [] QS (by decide+kernel) (by walk_at "l")
theorem xh(T:Tx K mg):Cl P w K mg base DD 1 10 .s oM:=
 rM T.toTT rfl 3 [] FZ (by decide+kernel) (by walk_at "l")
theorem Gv(T:Tx K mg):Cl P w K mg base DD 1 11 .s Al:=
 rM T.toTT rfl 2 [] QT (by decide+kernel) (by walk_at "l")
theorem Q9(T:Tx K mg):Cl P w K mg base DD 2 12 .s uF:=
 rL T.toTT rfl 4 [] [(10,.s,1),(11,.s,1),(9,.s,1)] F4 ⟨xh T,Gv T,Q8 T,trivial⟩ (by decide+kernel) (by walk_at "l")
theorem Km(T:Tx K mg):Cl P w K mg base DD 3 13 .s qH:=
 rL T.toTT rfl 3 [] [(12,.s,2),(10,.s,1),(11,.s,1)] J2 ⟨Q9 T,xh T,Gv T,trivial⟩ (by decide+kernel) (by walk_at "l")
theorem Kn(T:Tx K mg):Cl P w K mg base DD 1 14 .s ku:=
 rM T.toTT rfl 1 [] J5 (by decide+kernel) (by walk_at "l")
theorem v_text(T:Tx K mg):Cl P w K mg base DD 561 16 .s (GU 280):=Mu (jt:=16) (ji:=15) (jb:=14) T.toTT rfl rfl (Kn T) (by decide+kernel) (by decide+kernel) 280
theorem My(T:Tx K mg):Cl P w K mg base DD 1 21 .s CA:=
 rM T.toTT rfl 3 [] Q0 (by decide+kernel) (by walk_at "l")
theorem xj(T:Tx K mg):∀d,Cl P w K mg base DD (6+5*d) 17 .s (Sat (pR.gw d) d)
 |0=>Aq (js:=17) (jt:=18) (jf:=19) (jp:=20) (ja:=22) (jr:=21) (d:=0) T.toTT rfl rfl rfl rfl rfl (My T) (by decide+kernel) (by decide+kernel) (by decide+kernel) (by decide+kernel) (by decide+kernel) (L7 T.toTT rfl rfl)
 |d+1=>Aq (js:=17) (jt:=18) (jf:=19) (jp:=20) (ja:=22) (jr:=21) (d:=d+1) T.toTT rfl rfl rfl rfl rfl (My T) (by decide+kernel) (by decide+kernel) (by decide+kernel) (by decide+kernel) (by decide+kernel) (by rw[show 1+5*(d+1)=6+5*d by omega];exact xj T d)
theorem B4(T:Tx K mg):Cl P w K mg base DD 157 23 .s VQ:=
 rL T.toTT rfl 1 [] [(17,.s,156)] Ge ⟨xj T 30,trivial⟩ (by decide+kernel) (by walk_at "l")
theorem Ko(T:Tx K mg):Cl P w K mg base DD 1 24 .s (VU T.af):=
 wu (k:=0) (Ss:=[]) (Gs:=[.dU T.cQ [] [T.af],.dU T.dS [] [T.af],.dU T.af [T.af] [],.dU T.fN [] [T.af],.dU T.iK [] [T.af],.dU T.fO [] [T.af],.dU T.fR [] [T.af],.dU T.aI [T.af] []]) T.toTT rfl 1 [] [] ["NoNumber","NoValue","NoText","NoRoot","NoRow","TooFar","NoLine","HouseError"] XI trivial ⟨(mR T.yM T.lP),(mR T.B0 T.mU),(yG T.lO T.fM ⟨T.fM,T.cE⟩ T.nO T.eN),(mR T.Gm T.nQ),(mR T.Kg T.qT),(mR T.Gp T.nR),(mR T.Gq T.nS),(yG T.lM T.lN ⟨T.fM,T.cE⟩ T.eO T.bO),trivial⟩ (by decide+kernel) (by walk_at "l")
theorem Gw(T:Tx K mg):Cl P w K mg base DD 1 25 .s U5:=
 rM T.toTT rfl 2 [] Gg (by decide+kernel) (by walk_at "l")
theorem Gx(T:Tx K mg):Cl P w K mg base DD 562 26 .s (BX 280):=
 Aa T.toTT rfl rfl (UP (j:=26) (np:=1) (n:=5) (k:=561) (M:=[]) (es:=[("_law_tree_of",.s,false),("shown",.s,true),("read",.s,false),("_law_kinds",.s,false),("_law_text",.s,false)]) (Ss:=[VQ,Ka T.ao,(VM T.ao T.af),(VU T.af),(GU 280)]) (gn:=["HouseError"]) (Gs:=[.dU T.aI [T.af] []]) T.toTT rfl ⟨(tE (B4 T) (j:=23) rfl).up (by decide),(Kh T).up (by decide),(tE (Q7 T) (j:=5) rfl).up (by decide),(tE (Ko T) (j:=24) rfl).up (by decide),(tE (v_text T) (j:=16) rfl).up (by decide),trivial⟩ ⟨(yG T.lM T.lN ⟨T.fM,T.cE⟩ T.eO T.bO),trivial⟩ rfl (by decide+kernel) (by walk_at "l") Gf) (by walk_at "l")
theorem Gy(T:Tx K mg):Cl P w K mg base DD 1 27 .s U7:=
 rM T.toTT rfl 2 [(3,.f)] Gh (by decide+kernel) (by walk_at "l")
theorem Vb(T:Tx K mg):bJ P w K mg base (iY P w) 563 (T.f 28) (T.d 28) ["_law_script"] (pZ K 1 .s QE):=
 UH (j:=28) (k:=562) (m:=.s) (Gs:=[]) T.toTT rfl 1 [] [(7,.f,1),(8,.s,1),(13,.s,3),(16,.s,561),(26,.s,562),(25,.s,1),(27,.s,1)] [] Kf ⟨B3 T,Kl T,Km T,v_text T,Gx T,Gw T,Gy T,trivial⟩ trivial (by decide+kernel) (by walk_at "l")
end
theorem RS{K:Frag}{x:Str}{st:Stmt}{f:Addr}{g m:Option Addr}{d:Array (Option Value)}{h kV i e b j:Value}(a:nsIn K mainGlobals x=some (some (.ref f)))(l:K.lookup f=some ⟨h,g,.func (fnOf x x (bY st) (aZ st) (aq st) .none kV i e m b j),d⟩)(c:codeIn K b x=true)(k:keepIn K (.ref f)=true):Hd K x st:=⟨f,g,m,d,h,kV,i,e,b,j,a,l,c,k⟩
theorem RT{K:Frag}{C:Addr}{x q:Str}{st:Stmt}{f:Addr}{g n:Option Addr}{d:Array (Option Value)}{h kV j e b m:Value}(a:findIn K (.ref C) x=some (some (.ref f)))(i:isFn K (.ref f)=true)(l:K.lookup f=some ⟨h,g,.func (fnOf x q (bY st) (aZ st) (aq st) .none kV j e n b m),d⟩)(c:codeIn K b q=true)(k:keepIn K (.ref f)=true):Hm K C x q st:=⟨f,g,n,d,h,kV,j,e,b,m,a,i,l,c,k⟩
theorem tH{x q:Str}{st:Stmt}{i:Str}(h:∀(kV a d:Value)(g:Option Addr)(b f c:Value),bindArgs (fnOf x q (bY st) (aZ st) (aq st) .none kV a d g b f) ⟨[c],[]⟩=pure ([i].zip [c])):iz x q st [i]:=λkV a d g b f k j=>by obtain⟨c,l,rfl,e⟩:=rK j;cases Mo.mp e;exact h kV a d g b f c
theorem CQ{x q:Str}{st:Stmt}{l k:Str}(h:∀(kV a e:Value)(j:Option Addr)(b i d c:Value),bindArgs (fnOf x q (bY st) (aZ st) (aq st) .none kV a e j b i) ⟨[d,c],[]⟩=pure ([l,k].zip [d,c])):iz x q st [l,k]:=λkV a e j b i n m=>by obtain⟨d,p,rfl,g⟩:=rK m;obtain⟨c,o,rfl,f⟩:=rK g;cases Mo.mp f;exact h kV a e j b i d c
theorem VW{x q:Str}{st:Stmt}{m l p2:Str}(h:∀(kV a e:Value)(k:Option Addr)(b j d c a2:Value),bindArgs (fnOf x q (bY st) (aZ st) (aq st) .none kV a e k b j) ⟨[d,c,a2],[]⟩=pure ([m,l,p2].zip [d,c,a2])):iz x q st [m,l,p2]:=λkV a e k b j p o=>by obtain⟨d,s,rfl,i⟩:=rK o;obtain⟨c,r,rfl,g⟩:=rK i;obtain⟨a2,n,rfl,f⟩:=rK g;cases Mo.mp f;exact h kV a e k b j d c a2
theorem VY{x q:Str}{st:Stmt}{o n p2 m:Str}(h:∀(kV a e:Value)(l:Option Addr)(b k d c a2 a3:Value),bindArgs (fnOf x q (bY st) (aZ st) (aq st) .none kV a e l b k) ⟨[d,c,a2,a3],[]⟩=pure ([o,n,p2,m].zip [d,c,a2,a3])):iz x q st [o,n,p2,m]:=λkV a e l b k t s=>by obtain⟨d,v,rfl,j⟩:=rK s;obtain⟨c,u,rfl,i⟩:=rK j;obtain⟨a2,r,rfl,g⟩:=rK i;obtain⟨a3,p,rfl,f⟩:=rK g;cases Mo.mp f;exact h kV a e l b k d c a2 a3
theorem all_mk{l:PySem.W.OpenLaw}{w:World}{K:Frag}{h:Heap}{g:Str->Option Value}{fa:Addr}(X:K.In h)(G:h.Ns mainGlobals g)(n:g "law"=some (.ref fa))
 {a:Addr}(B5:nsIn K mainGlobals "Reader"=some (some (.ref a)))(B6:plainGet K a Str.empty=true)(B7:hasDictIn K a=true)(B8:plainOver K a=true)(B9:findIn K (.ref a) "__setattr__"=some (some (.builtin "object.__setattr__")))(Ca:makesIn K a=true)(Cb:keepIn K (.ref a)=true)
 (rQ:findIn K (.ref a) "text"=some none)
 (qW:findIn K (.ref a) "place"=some none)
 (lQ:findIn K (.ref a) "brackets"=some none)
 (qX:findIn K (.ref a) "steps"=some none)
 {c:Addr}(rR:nsIn K mainGlobals "Expression"=some (some (.ref c)))(rS:plainGet K c Str.empty=true)(rT:hasDictIn K c=true)(rV:plainOver K c=true)(rW:findIn K (.ref c) "__setattr__"=some (some (.builtin "object.__setattr__")))(rX:makesIn K c=true)(rY:keepIn K (.ref c)=true)
 (kK:findIn K (.ref c) "steps"=some none)
 (a0:Hm K c "__init__" "Expression.__init__" cK)
 (a1:Hm K c "shown" "Expression.shown" cL)
 (a8:Hm K a "__init__" "Reader.__init__" fz)
 (a9:Hm K a "follows" "Reader.follows" dR)
 (a10:Hm K a "take_sum" "Reader.take_sum" dw)
 (a11:Hm K a "take_term" "Reader.take_term" cM)
 (Z:Hm K a "take_sign" "Reader.take_sign" cN)
 (Y:Hm K a "take_factor" "Reader.take_factor" cz)
 (U:Hm K a "take_exponent" "Reader.take_exponent" b5)
 (S:Hm K a "take_atom" "Reader.take_atom" cP)
 (R:Hm K a "take_brackets" "Reader.take_brackets" b6)
 (Q:Hm K a "take_run" "Reader.take_run" dz)
 (aa:JQ K top DD)(zz:JR K ZZ)
 {Cc:Tok}(Cd:nsIn K mainGlobals "FIGURES"=some (some (.str "0123456789" Cc)))
 {Ce:Tok}(Cf:nsIn K mainGlobals "LETTERS"=some (some (.str "abcdefghijklmnopqrstuvwxyz" Ce)))
 {uY:Tok}(uZ:nsIn K mainGlobals "MOST_SIGNS"=some (some (.int 1000 uY)))
 {nT:Tok}(nU:nsIn K mainGlobals "MOST_BRACKETS"=some (some (.int 30 nT)))
 {qY:Tok}(qZ:nsIn K mainGlobals "MOST_MINUSES"=some (some (.int 30 qY)))
 {ri:Tok}(rj:nsIn K mainGlobals "MOST_FIGURES"=some (some (.int 30 ri)))
 {rm:Tok}(rq:nsIn K mainGlobals "MOST_LETTERS"=some (some (.int 8 rm)))
 {gX:Tok}(gY:nsIn K mainGlobals "MOST_EXPONENT_FIGURES"=some (some (.int 2 gX)))
 {nV:Tok}(nW:nsIn K mainGlobals "MOST_EXPONENT"=some (some (.int 12 nV)))
 {Vd:Tok}(Ve:nsIn K mainGlobals "SUM"=some (some (.int 1 Vd)))
 {Ra:Tok}(Rb:nsIn K mainGlobals "TERM"=some (some (.int 2 Ra)))
 {Gz:Tok}(GA:nsIn K mainGlobals "FACTOR"=some (some (.int 3 Gz)))
 {Rc:Tok}(Rf:nsIn K mainGlobals "ATOM"=some (some (.int 4 Rc)))
 {f:Addr}(u7:nsIn K mainGlobals "HouseError"=some (some (.ref f)))(rZ:excIn K f Wy "ValueError.__new__"=true)(r6:findIn K (.ref f) "__getattribute__"=some (some (.builtin "BaseException.__getattribute__")))(r8:findIn K (.ref f) "__getattr__"=some none)(r9:findIn K (.ref f) "__class__"=some (some (.builtin "object.__class__")))(sd:mroIn K f (.type "object")=some true)(se:mroIn K f (.type "BaseException")=some true)
 {P:Addr}(yO:nsIn K mainGlobals "NoNumber"=some (some (.ref P)))
 {E:Addr}(Cg:nsIn K mainGlobals "NoValue"=some (some (.ref E)))
 {b:Addr}(GB:nsIn K mainGlobals "NoText"=some (some (.ref b)))(Ci:excIn K b Wy "ValueError.__new__"=true)(Cj:findIn K (.ref b) "__getattribute__"=some (some (.builtin "BaseException.__getattribute__")))(Ck:findIn K (.ref b) "__getattr__"=some none)(Cm:findIn K (.ref b) "__class__"=some (some (.builtin "object.__class__")))(Co:mroIn K b (.type "object")=some true)(Cp:mroIn K b (.type "BaseException")=some true)
 {q:Addr}(GC:nsIn K mainGlobals "NoRoot"=some (some (.ref q)))
 {k:Addr}(Kp:nsIn K mainGlobals "NoRow"=some (some (.ref k)))
 {p:Addr}(GD:nsIn K mainGlobals "TooFar"=some (some (.ref p)))
 {o:Addr}(GF:nsIn K mainGlobals "NoLine"=some (some (.ref o)))
 (lR:kitOne K (.ref b) (.ref P)=some false)
 (mV:kitOne K (.ref b) (.ref E)=some false)
 (nX:kitOne K (.ref b) (.ref b)=some true)
 (nY:kitOne K (.ref b) (.ref q)=some false)
 (rA:kitOne K (.ref b) (.ref k)=some false)
 (nZ:kitOne K (.ref b) (.ref p)=some false)
 (n6:kitOne K (.ref b) (.ref o)=some false)
 (jR:kitOne K (.ref b) (.ref f)=some true)
 (jS:kitOne K (.ref b) (.type "ValueError")=some true)
 (bO:mroIn K b (.ref f)=some true)
 (eN:mroIn K b (.ref b)=some true)
 :∃fd:FuncData,(∀(s:Shared)(v:Value),BindsTo s fd ⟨[v],[]⟩ [("_law_script",v)])/\∀base:Heap,K.In base->base.Ns mainGlobals g->bJ l.prog w K g base SK 563 fa fd ["_law_script"] (z5 K):=by
 obtain⟨T0⟩:=UD X G aa zz;have GG:rH K a ["text","place","brackets","steps"]:=⟨⟨B6,B7,B8,B9⟩,by decide,by decide+kernel,λx i=>by
  simp only[FC,Sr,or_false]at i;rcases i with rfl|rfl|rfl|rfl
  .exact rQ
  .exact qW
  .exact lQ
  .exact qX⟩
 have u9:rH K c ["steps"]:=⟨⟨rS,rT,rV,rW⟩,by decide,by decide+kernel,λx i=>by
  simp only[FC,Sr,or_false]at i;rcases i with rfl
  .exact kK⟩
 obtain⟨f0,d0,D0⟩:=iN (ps:=["self","steps"]) a0 (CQ λ_ _ _ _ _ _ _ _=>rfl);obtain⟨f1,d1,D1⟩:=iN (ps:=["self"]) a1 (tH λ_ _ _ _ _ _ _=>rfl);obtain⟨f8,d8,D8⟩:=iN (ps:=["self","text"]) a8 (CQ λ_ _ _ _ _ _ _ _=>rfl);obtain⟨f9,d9,D9⟩:=iN (ps:=["self","signs"]) a9 (CQ λ_ _ _ _ _ _ _ _=>rfl);obtain⟨C,O,D10⟩:=iN (ps:=["self"]) a10 (tH λ_ _ _ _ _ _ _=>rfl);obtain⟨B,N,D11⟩:=iN (ps:=["self"]) a11 (tH λ_ _ _ _ _ _ _=>rfl);obtain⟨A,M,D12⟩:=iN (ps:=["self"]) Z (tH λ_ _ _ _ _ _ _=>rfl);obtain⟨z,L,D13⟩:=iN (ps:=["self"]) Y (tH λ_ _ _ _ _ _ _=>rfl);obtain⟨y,J,D14⟩:=iN (ps:=["self"]) U (tH λ_ _ _ _ _ _ _=>rfl);obtain⟨u,I,D15⟩:=iN (ps:=["self"]) S (tH λ_ _ _ _ _ _ _=>rfl);obtain⟨t,H,D16⟩:=iN (ps:=["self"]) R (tH λ_ _ _ _ _ _ _=>rfl);obtain⟨r,F,D17⟩:=iN (ps:=["self","signs"]) Q (CQ λ_ _ _ _ _ _ _ _=>rfl);have D:=T0.D (j:=28) rfl;have e:=n.symm.trans D.m;cases e
 let T:Tx K g:=⟨T0,a,⟨KB X G B5,GG,Ca,Cb⟩,c,⟨KB X G rR,u9,rX,rY⟩,f0,d0,D0,f1,d1,D1,f8,d8,D8,f9,d9,D9,C,O,D10,B,N,D11,A,M,D12,z,L,D13,y,J,D14,u,I,D15,t,H,D16,r,F,D17,⟨_,KB X G Cd,_,rfl⟩,⟨_,KB X G Cf,_,rfl⟩,⟨_,KB X G uZ,_,rfl⟩,⟨_,KB X G nU,_,rfl⟩,⟨_,KB X G qZ,_,rfl⟩,⟨_,KB X G rj,_,rfl⟩,⟨_,KB X G rq,_,rfl⟩,⟨_,KB X G gY,_,rfl⟩,⟨_,KB X G nW,_,rfl⟩,⟨_,KB X G Ve,_,rfl⟩,⟨_,KB X G Rb,_,rfl⟩,⟨_,KB X G GA,_,rfl⟩,⟨_,KB X G Rf,_,rfl⟩,f,KB X G u7,⟨rZ,r6,r8,r9,sd,se⟩,P,KB X G yO,E,KB X G Cg,b,KB X G GB,⟨Ci,Cj,Ck,Cm,Co,Cp⟩,q,KB X G GC,k,KB X G Kp,p,KB X G GD,o,KB X G GF,lR,mV,nX,nY,rA,nZ,n6,jR,jS,bO,eN⟩
 exact⟨T0.d 28,λs v=>D.bt s [v] rfl,λbase _ _=>QF (Vb T)⟩
end Lb
namespace PySem.W.Fast
noncomputable def tw9762977200759870515:=0
noncomputable def tw17625457701083302776:=0
noncomputable def tw7240693802953388156:=0
noncomputable def tw16958220038261341991:=0
noncomputable def tw10073797907002268509:=0
noncomputable def tw12221723511575274221:=0
noncomputable def tw13271980128953659987:=0
noncomputable def tw5542745478578421873:=0
noncomputable def tw16879519278460789504:=0
noncomputable def tw17746195973897858297:=0
noncomputable def tw6900081216254420089:=0
noncomputable def tw15858399321902653358:=0
noncomputable def tw17854360775354611469:=0
noncomputable def tw135126973300570641:=0
noncomputable def tw3045788645025289932:=0
noncomputable def tw7127609850828404813:=0
noncomputable def tw9591843944499926346:=0
noncomputable def tw2087928178737887336:=0
noncomputable def tw1509196326144747422:=0
noncomputable def tw16187487960743848292:=0
noncomputable def tw7449444325201633158:=0
noncomputable def tw6650481691593537065:=0
noncomputable def tw15785210784100215704:=0
noncomputable def tw10892164404129062190:=0
noncomputable def tw3512049927540044491:=0
noncomputable def tw14869842624592866672:=0
noncomputable def tw6051722187534390593:=0
noncomputable def tw8973823479487651419:=0
noncomputable def tw590716284080032914:=0
noncomputable def tw9457399967808921432:=0
noncomputable def tw14438295246927433449:=0
noncomputable def tw15239027050374820670:=0
noncomputable def tw15876363969982147628:=0
noncomputable def tw7103524888675130054:=0
noncomputable def tw8086112420966341537:=0
noncomputable def tw13415543535028901281:=0
noncomputable def tw14807606763988411277:=0
noncomputable def tw1227894329670557777:=0
noncomputable def tw12611239825892785524:=0
noncomputable def tw3607199470481756120:=0
noncomputable def tw15080809601647315111:=0
noncomputable def tw11536781860936279525:=0
noncomputable def tw18232179182971436893:=0
noncomputable def tw3684679014084323286:=0
noncomputable def tw2706967214187171556:=0
noncomputable def tw12551404059981343765:=0
noncomputable def tw6902870639926044652:=0
noncomputable def tw3539880141642775707:=0
noncomputable def tw13748424271320125260:=0
noncomputable def tw5472876926747050987:=0
noncomputable def tw8754090219616173959:=0
noncomputable def tw11876144997898931742:=0
noncomputable def tw4840807319887651453:=0
noncomputable def tw16851772966622730429:=0
noncomputable def tw2661855358853531892:=0
noncomputable def tw11944389416982614039:=0
noncomputable def tw9568760422509403315:=0
noncomputable def tw8276531436524669976:=0
noncomputable def tw9791855888160949076:=0
noncomputable def tw4974369680853760381:=0
noncomputable def tw793718135071658484:=0
noncomputable def tw13252292580420329787:=0
noncomputable def tw11559243259724600688:=0
noncomputable def tw6667593697746916277:=0
noncomputable def tw12923785457146486330:=0
noncomputable def tw8470961513061661362:=0
noncomputable def tw12418993684079862450:=0
noncomputable def tw8178904834517059231:=0
noncomputable def tw6496367920667719536:=0
noncomputable def tw18381030162268724335:=0
noncomputable def tw17741293679178104282:=0
noncomputable def tw13300372343927369888:=0
noncomputable def tw144506018285981906:=0
noncomputable def tw12053420763251721564:=0
noncomputable def tw11726711962436264812:=0
noncomputable def tw14928229193826636619:=0
noncomputable def tw340064359568682506:=0
noncomputable def tw13986631194961216159:=0
noncomputable def tw8889970805016171679:=0
noncomputable def tw9837795494073148888:=0
noncomputable def tw4208848211548230139:=0
noncomputable def tw2068384686190644706:=0
noncomputable def tw17349037320755177906:=0
noncomputable def tw17324829666912125838:=0
noncomputable def tw9191365277517136964:=0
noncomputable def tw5590230378627668318:=0
noncomputable def tw10953312373290289510:=0
noncomputable def tw14834808253394888332:=0
noncomputable def tw16005861421841906492:=0
noncomputable def tw3339629276058347661:=0
noncomputable def tw11185505947131128364:=0
noncomputable def tw15157249511291767665:=0
noncomputable def tw4295412403384224781:=0
noncomputable def tw12747711870196000545:=0
noncomputable def tw12629468570688714308:=0
noncomputable def tw10796123306237287055:=0
noncomputable def tw131284073908285792:=0
noncomputable def tw243719965836260604:=0
noncomputable def tw9894479694066200297:=0
noncomputable def tw2796289037280008818:=0
noncomputable def tw6593950659665299679:=0
noncomputable def tw2459088803935046640:=0
noncomputable def tw15813138849076778285:=0
noncomputable def tw14308355129506377280:=0
noncomputable def tw15321642164552550850:=0
noncomputable def tw8286944201589826629:=0
noncomputable def tw11497932623943101480:=0
noncomputable def tw3235875808078823747:=0
noncomputable def tw9981349154803915358:=0
noncomputable def tw7230460964566687524:=0
noncomputable def tw8149836523863142410:=0
noncomputable def tw5964189722846594610:=0
noncomputable def tw2020134157132954349:=0
noncomputable def tw7629504960349027516:=0
noncomputable def tw401827088304933929:=0
noncomputable def tw3095568503058102742:=0
noncomputable def tw219605416635248275:=0
noncomputable def tw6890394779231189084:=0
noncomputable def tw5020579527627297747:=0
noncomputable def tw14909803126914805220:=0
noncomputable def tw4938262537915636178:=0
noncomputable def tw10085603510093328040:=0
noncomputable def tw773952465745630904:=0
noncomputable def tw3890893148190181686:=0
noncomputable def tw1674951358472360296:=0
noncomputable def tw1736825395847101587:=0
noncomputable def tw14148896946860176726:=0
noncomputable def tw11450436662036355410:=0
noncomputable def tw12121450166956272427:=0
noncomputable def tw12358820947972524715:=0
noncomputable def tw14515131554945448191:=0
noncomputable def tw2432404242251281479:=0
noncomputable def tw11968098830403393465:=0
noncomputable def tw9347148043405901091:=0
noncomputable def tw4394391594927376902:=0
noncomputable def tw3296340769229775066:=0
noncomputable def tw13056441110957679142:=0
noncomputable def tw12172032906981002387:=0
noncomputable def tw4127681391514665881:=0
noncomputable def tw5261448411731122643:=0
noncomputable def tw9076433246272277452:=0
noncomputable def tw6733784619022550700:=0
noncomputable def tw17431364304733232913:=0
noncomputable def tw11807082489278237805:=0
noncomputable def tw13238682587738308170:=0
noncomputable def tw2379255214780605300:=0
noncomputable def tw3801534485397662653:=0
noncomputable def tw5382503741539785995:=0
noncomputable def tw73660320322643710:=0
noncomputable def tw13501304743015300957:=0
noncomputable def tw12090127589618318934:=0
noncomputable def tw11484363055017914653:=0
noncomputable def tw16121653594166779560:=0
noncomputable def tw13361041517356877436:=0
noncomputable def tw15998215716167923181:=0
noncomputable def tw12722949589908684205:=0
noncomputable def tw16361505764843618507:=0
noncomputable def tw11571686074539779820:=0
noncomputable def tw7357134816435798484:=0
noncomputable def tw13710423423907956558:=0
noncomputable def tw17552918645781731884:=0
noncomputable def tw8757082308237728314:=0
noncomputable def tw7386645046840975206:=0
noncomputable def tw1453195065650271504:=0
noncomputable def tw16404912890187445667:=0
noncomputable def tw8361917606580456033:=0
noncomputable def tw2562508549787262743:=0
noncomputable def tw17430745942646909773:=0
noncomputable def tw2966724917867302222:=0
noncomputable def tw2714502579068475924:=0
noncomputable def tw14404591111606881363:=0
noncomputable def tw16566774343107862969:=0
noncomputable def tw17522987098288175640:=0
noncomputable def tw8466820944149757904:=0
noncomputable def tw4094646269485410859:=0
noncomputable def tw17299372525867366997:=0
noncomputable def tw12066448090865200293:=0
noncomputable def tw11217234615962091491:=0
noncomputable def tw12940598499124890643:=0
noncomputable def tw16828656890287732056:=0
noncomputable def tw17959492687466964417:=0
noncomputable def tw7918476098174566647:=0
noncomputable def tw3876944994444674832:=0
noncomputable def tw14942131503872358044:=0
noncomputable def tw11418102542728025471:=0
noncomputable def tw4018286397133017557:=0
noncomputable def tw8154994537538502652:=0
noncomputable def tw13618416671050004165:=0
noncomputable def tw9353746532747994714:=0
noncomputable def tw15129063273847613530:=0
noncomputable def tw591011860978174326:=0
noncomputable def tw195801469574660949:=0
noncomputable def tw2315218619414612239:=0
noncomputable def tw9601208960944071872:=0
noncomputable def tw15935594980363110429:=0
noncomputable def tw7916091828275727262:=0
noncomputable def tw7899037802899040973:=0
noncomputable def tw14903302522314413020:=0
noncomputable def tw14233059939788623760:=0
noncomputable def tw11803044936983826224:=0
noncomputable def tw13062169630024358874:=0
noncomputable def tw6961372585631494254:=0
noncomputable def tw5529685096603210523:=0
noncomputable def tw14148250941819030272:=0
noncomputable def tw12570692041674877402:=0
noncomputable def tw7443808189856329235:=0
noncomputable def tw631608761782076303:=0
noncomputable def tw18366365916871964160:=0
noncomputable def tw18048651561059216244:=0
noncomputable def tw17382434990136497226:=0
noncomputable def tw12568569083820609591:=0
noncomputable def tw12013447884432486646:=0
noncomputable def tw18129414074164517281:=0
noncomputable def tw1619260284772142855:=0
noncomputable def tw206204598501344804:=0
noncomputable def tw7248549678339712021:=0
noncomputable def tw10229714074577238463:=0
noncomputable def tw9793745220936579232:=0
noncomputable def tw8975352460524113503:=0
noncomputable def tw16767169984186559314:=0
noncomputable def tw7114480524606680895:=0
noncomputable def tw14100680653576730450:=0
noncomputable def tw16200245104742133517:=0
noncomputable def tw9311878519233270758:=0
noncomputable def tw9079768216600072001:=0
noncomputable def tw16576287593528431674:=0
noncomputable def tw16374644282526124658:=0
noncomputable def tw15660605318690601158:=0
noncomputable def tw13079265396959518125:=0
noncomputable def tw12587762607164118029:=0
noncomputable def tw11792597724927832594:=0
noncomputable def tw10684417094768184286:=0
noncomputable def tw10619816218425980502:=0
noncomputable def tw4461686941305998318:=0
noncomputable def tw8415131823922047767:=0
noncomputable def tw8246786550882808025:=0
noncomputable def tw7696219720842797620:=0
noncomputable def tw7314859787774384221:=0
noncomputable def tw64014856832986100:=0
noncomputable def tw5779585521767323821:=0
noncomputable def tw5716016410293144805:=0
noncomputable def tw5308665821826739514:=0
noncomputable def tw3206919627896208712:=0
noncomputable def tw1739472632302470908:=0
noncomputable def tw14893782303854447199:=0
noncomputable def tw14390539500667956913:=0
noncomputable def tw14048696541147949179:=0
noncomputable def tw1394173402206540180:=0
noncomputable def tw12197412619933767549:=0
noncomputable def tw1050116612714877540:=0
noncomputable def tw10191029842416131461:=0
noncomputable def tw925248689219014837:=0
noncomputable def tw7987417675110902848:=0
noncomputable def tw5849640755189645774:=0
noncomputable def tw13977280882620951441:=0
noncomputable def tw1334438238039784138:=0
noncomputable def tw3714967004611476403:=0
noncomputable def tw3391768373849615576:=0
noncomputable def tw14007807531873363512:=0
noncomputable def tw18267791157505094171:=0
noncomputable def tw1547126279291144194:=0
noncomputable def tw5933244136824818319:=0
noncomputable def tw4394106871757978788:=0
noncomputable def tw1958709623333206787:=0
noncomputable def tw8976933354397170465:=0
noncomputable def tw7393707125816923928:=0
noncomputable def tw4470460649187021437:=0
noncomputable def tw9125619206782369:=0
noncomputable def tw4135128470611009697:=0
noncomputable def tw3257942838089621646:=0
noncomputable def tw15080180181618344123:=0
noncomputable def tw11520800638114143885:=0
noncomputable def tw16241954247203618092:=0
noncomputable def tw8802963036216477480:=0
noncomputable def tw12733421061096267315:=0
noncomputable def tw3161287251948161244:=0
noncomputable def tw313134373660013929:=0
noncomputable def tw14800688123751195636:=0
end PySem.W.Fast
open PySem PySem.W PyProof.Rows
set_option maxRecDepth 100000 in
set_option maxHeartbeats 0 in
theorem PySem.Challenge.cw_paperwright_k18_what_is_no_text_holds : PySem.Challenge.rw_paperwright_k18_what_is_no_text.Holds := by
 w_on;o_law;k_head;(case hw=>w_witness2)
 k_fill
 refine VL.walk (l:=PySem.Challenge.rw_paperwright_k18_what_is_no_text) (k:=563) rfl rfl ⟨rfl,by decide,by decide⟩ (by decide+kernel) rfl (fun w h Y=>PySem.W.kIn_of Y) ?F
 case F=>
  intro w mg fa h KX G hmg
  refine' Lb.all_mk KX G hmg ?yy0 ?yy1 ?yy2 ?yy3 ?yy4 ?yy5 ?yy6 ?yy7 ?yy8 ?yy9 ?XT ?XU ?XW ?XX ?XY ?XZ ?X0 ?X3 ?X4 ?X5 ?X6 ?X7 ?X8 ?Yb ?Yc ?Yd ?Ye ?Yg ?Yh ?Yi ?Yj ?Yk ?Yl ?Ym ?Yn ?Yo ?Yp ?Yq ?Yr ?Ys ?Yt ?Yu ?Yv ?Yw ?Yx ?Yy ?Yz ?YA ?YB ?YC ?YD ?YE ?YF ?YG ?YH ?YI ?YJ ?YK ?YL ?YM ?YN ?YO ?YQ ?YR ?YS ?YT ?YU ?YV ?YW ?YX ?YY ?YZ ?Y0 ?Y3 ?Y4 ?Y5 ?Y6
  (case yy0|yy1|yy2|yy3|yy4|yy5|yy6|yy7|yy8|yy9|XT|XU|XW|XX|XY|XZ|X0|X3|X4=>k_is)
  (case X5|X6|X7|X8|Yb|Yc|Yd|Ye|Yg|Yh|Yi|Yj=>walk_at "hm")
  (case Yk=>(iterate 29 walk_at "ah");exact trivial)
  (case Yl=>(iterate 9 walk_at "az");exact trivial)
  (case Ym|Yn|Yo|Yp|Yq|Yr|Ys|Yt|Yu|Yv|Yw|Yx|Yy|Yz=>k_is)
  (case YA=>k_exc)
  (case YB|YC|YD|YE|YF|YG|YH|YI=>k_is)
  (case YJ=>k_exc)
  (case YK|YL|YM|YN|YO|YQ|YR|YS|YT=>k_is)
  (case YU|YV|YW|YX|YY|YZ|Y0|Y3|Y4=>kit_is)
  (case Y5|Y6=>k_is)
