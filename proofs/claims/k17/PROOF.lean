import PyProof.Rows.All
import Wide.All
import OpenK.AllK
import Wide.FinOn
import Lean
import PyProof.EqAt
import PyProof.EqKinds
import PyProof.TupleCall
import PySem.Challenge.RW_paperwright_k17_texts_read_and_shown
set_option Elab.async false
set_option linter.all false
set_option maxRecDepth 100000
set_option maxHeartbeats 4000000
set_option hygiene false in
local macro_rules | `(tactic| walk_at "lo") => `(tactic| first | exact False.elim h | (obtain ⟨rfl, _⟩ := h; rfl) | (obtain ⟨_, h⟩ := h; walk_at "lo"))
set_option hygiene false in
local macro_rules | `(tactic| walk_at "l") => `(tactic| (intro _ _ _ h; walk_at "lo"))
set_option hygiene false in
local macro_rules | `(tactic| fin2) => `(tactic| first | dsimp only [↓NX, z8, wSs, wS, wE, wA, NY, yf, Ny, wP, z9, vZ, DA, bD, setAt, List.getElem?_cons_zero, List.getElem?_cons_succ, look, List.set, bK, bX, bY, aq, List.map_cons, List.map_nil, List.nil_append, List.cons_append, x_len, Aa, Ab, GW, GX, GY, Ac, v5, v7, sA, GZ, G0, G3, G4, G5, G6, Ad, G7, G8, G9, NZ, N4, x_lt, N5, N6, N7, Hf, Hg, v8, N8, Hh, Hi, Hj, N9, Hl, Ho, Hq, Hr, v9, sC, Jh, Ht, Hu, Oa, Ae, Af, Ag, Ah, Ai, Aj, Hv, Hw, Hx, Hy, Hz, HA, HB, HC, HD, HE, HF, HG, jR, mG, Ak, wc, qz, List.replicate, if_true, Bool.not_true, Bool.not_false] | simp only [List.getElem?_cons_zero, List.getElem?_cons_succ, List.map_cons, List.map_nil, List.nil_append, List.cons_append, x_len, Aa, Ab, GW, GX, GY, Ac, v5, v7, sA, GZ, G0, G3, G4, G5, G6, Ad, G7, G8, G9, NZ, N4, x_lt, N5, N6, N7, Hf, Hg, v8, N8, Hh, Hi, Hj, N9, Hl, Ho, Hq, Hr, v9, sC, Jh, Ht, Hu, Oa, Ae, Af, Ag, Ah, Ai, Aj, Hv, Hw, Hx, Hy, Hz, HA, HB, HC, HD, HE, HF, HG, jR, mG, Ak, wc, qz, List.replicate, if_true, Bool.not_true, Bool.not_false] | skip)
set_option hygiene false in
local macro_rules | `(tactic| walk_at "hd") => `(tactic| (refine' HH.Oc ?ka ?kl ?kc ?kk; (case ka => k_is); (case kl => k_is); (case kc => k_is); (case kk => k_is)))
set_option hygiene false in
local macro_rules | `(tactic| walk_at "hm") => `(tactic| (refine' HH.Od ?ka ?ki ?kl ?kc ?kk; (case ka => k_is); (case ki => k_is); (case kl => k_is); (case kc => k_is); (case kk => k_is)))
set_option hygiene false in
local macro_rules | `(tactic| walk_at "bn") => `(tactic| first | exact HH.qA fun _ _ _ _ _ _ _ => rfl | exact HH.Al fun _ _ _ _ _ _ _ _ => rfl | exact HH.RD fun _ _ _ _ _ _ _ _ _ => rfl | exact HH.RE fun _ _ _ _ _ _ _ _ _ _ => rfl)
set_option hygiene false in
local macro_rules | `(tactic| walk_at "ah") => `(tactic| (refine' And.intro (And.intro ?h1 ?h2) ?_; (case h1 => walk_at "hd"); (case h2 => walk_at "bn")))
set_option hygiene false in
local macro_rules | `(tactic| walk_at "az") => `(tactic| (refine' And.intro ?h1 ?_; (case h1 => k_is)))
open Bool renaming and_eq_true->AC,false_ne_true->Fs,and_eq_true_iff->IR,eq_iff_iff->Qb,or_false->Qr,not_eq_true->RF,and_false->Re,or_eq_true->Wp,not_eq_true'->Y5,or_eq_false_iff->YM,true_and->Qo,false_eq_true->TF,eq_false_iff->TQ,false_or->UE,and_true->UH,true_or->UM
open List renaming length_append->B1,mem_cons_of_mem->BM,mem_cons_self->Bi,getElem?_eq_getElem->Dx,mem_cons->Ee,mem_append_right->FK,mem_append->FV,length_map->Fh,size_toArray->Fm,mem_singleton->Fn,isEmpty_iff->Fu,getElem?_eq_some_iff->GT,mem_append_left->Gc,all_eq_true->HI,map_cons->Ha,getElem?_map->Hb,nodup_cons->He,getElem?_append_right->IH,mem_map->KB,getElem?_set_ne->KE,append_assoc->KF,length_eq_zero_iff->Kk,append_nil->Kt,mem_of_getElem?->Kx,getElem?_set_self->L9,map_append->NA,length_set->NM,getElem_mem->Os,append_eq_nil_iff->P2,getElem?_append_left->P3,not_mem_nil->PH,drop_eq_getElem_cons->PQ,nodup_append->Pv,mem_filter->QR,length_replicate->SC,getD_eq_getElem?_getD->SU,length_take->Sr,length_pos_iff->T1,mem_range->Tb,getElem_of_mem->X1,nodup_nil->Y1,isPrefixOf_iff_prefix->Y2,drop_left->Y3,reverse_cons->Y4,length_drop->Y9,getElem?_replicate->YC,any_eq_true->YD,map_nil->YF,eq_nil_or_concat->YJ,drop_zero->YL,replicate->A0,length_cons->AE,all_cons->AU,isPrefixOf->CK,lookup_cons->Ei,zip_cons_cons->En,replicate_succ->Er,range->Gr,length_nil->Gw,length_singleton->HK,flatten_cons->HU,any_cons->IJ,length->IY,find?_cons->JV,lookup->JW,nil_append->Jd,filterMap_cons->Jp,set_comm->M4,mem_replicate->M7,mem_filterMap->N2,drop_length->Og,of_mem_zip->Pz,zipWith->Qt,take_of_length_le->RB,range_succ_eq_map->RH,map_map->RK,dropLast_eq_take->Ru,contains_iff_mem->Rv,map_congr_left->Rx,getElem?_range->S7,set_cons_succ->SV,foldl->SW,contains_cons->Sz,length_range->TJ,any_eq_false->TN,cons_append->TV,take_left->Tn,sum_cons->UD
open PySem renaming wpAny_bind->Bz,wpAny_pure->GM,wpAny_loadPart'->KM,mem_of_lookup->N0,wpAny_truthy_bool->Q1,wpAny_newObj_type->QP,wpAny_mono->QQ,wpAny_passesOwn->SL,wpAny_Call_Name_kw->Ts,codeAny_mono->Y6,wpAny_bindName->Y7,wpAny_standAt->YG,wpAny_holding->YH
open Nat renaming le_refl->DL,lt_of_lt_of_le->FR,le_trans->GE,ne_of_lt->Jn,zero_le->Mo,lt_irrefl->Pm,le_of_lt->Ta,lt_of_le_of_lt->XB,eq_zero_or_pos->Xt,add_sub_cancel->Y0,add_sub_cancel_left->Y8,le_succ->YK,toDigits->M3,ne_of_gt->Nz,lt_succ_of_lt->O6,lt_or_ge->OK,le_of_eq->OV,succ_le_succ->Oj,lt_succ_self->P1,sub_zero->Rh,sub_self->Rn,log2_lt->Rw,le_of_not_lt->Te,zero_add->UN,succ->VI
open PySem.Heap renaming get?_push_of_some->Da,lt_size->Fk,get?_push_size->Hk
open Option.some renaming inj->Hn
open Option renaming map_eq_some_iff->Kb,isSome_iff_exists->Pl,getD_some->IB,map_some->JD,getD_none->SM,none->U3
open Int renaming eq_ofNat_of_zero_le->Nw,fdiv_eq_ediv_of_nonneg->SZ,toNat_natCast->L0,mul_nonneg->Qa,fdiv_nonneg->Tz,mul_one->VF
open PySem.W renaming mg_of->OF,kia_one->Oy,callWith_K->X2,methodCall_KW->YI
open Ne renaming symm->On
open PySem.F renaming plainAttrs_list->Pt,type_list_append->TB,slot_list_append->TC
open PyProof.Rows renaming callWith_type1->SF,assignInOrder_cons->T2,slot_tuple_getitem->UF,tDigits_len_ge->V1,sortedS->V2,lt_int->V3,digits10_le->V7,digit_range->VC,callWith_builtin1->VD
open List.cons renaming inj->TK,injEq->VZ
open PySem.SeqAt.EqAt renaming int_int->U2
open PySem.Around renaming under_plainId->X9
open False renaming elim->Ey
open Array renaming length_toList->G1,getElem?_toList->Rc,append_assoc->SK,toList_inj->TR,toList->UI
open Sum renaming inr->G2,inl->NC
open True renaming intro->Gx
open ForInStep renaming yield->J0
open PyProof renaming noPylong_small->Q5
open Nat.succ renaming inj->TU
open Iff renaming rfl->TX
open List.Pairwise renaming nil->V0
open Or renaming inr->VH
open Decidable renaming not_not->Vo
noncomputable def Ap:=@of_decide_eq_true
noncomputable def Bn:=@if_neg
noncomputable def Do:=@if_pos
noncomputable def FC:=@decide_eq_true
noncomputable def FM:=@decide_eq_false
noncomputable def Iy:=@beq_iff_eq
noncomputable def Ki:=@congrArg
noncomputable def Kj:=@decide_eq_true_eq
noncomputable def PP:=@beq_eq_false_iff_ne
noncomputable def Pi:=@beq_self_eq_true
noncomputable def UV:=@decide_eq_decide
noncomputable def W1:=@or_false
noncomputable def YE:=@if_true
open PySem.W(instObj methodObj hideAll_get Frag lookIn plainGet hasDictIn findIn plainGet_of isFn plainOver takerIn makesIn emptyDict keepIn mroIn kitOne fnOf codeIn nsIn)
noncomputable section
set_option bootstrap.genMatcherCode false
namespace L2
open PySem PySem.Spec PyProof.Rows
abbrev Key:=Sum Int Str
noncomputable def mH:Key->Value->Bool
 |.inl k,v=>Value.isInt k v
 |.inr x,v=>Value.isStrOf x v
noncomputable def RG(w:World):Key->Int
 |.inl k=>hashInt k
 |.inr x=>hashStr w x
theorem bg:∀{k:Key}{v:Value},mH k v=true->(∃i t,k=NC i/\v=Value.int i t)\/(∃x t,k=G2 x/\v=Value.str x t)
 |.inl i,v,h=>by obtain⟨t,e⟩:=Value.isInt_shape (k:=i) (v:=v) h;exact .inl ⟨i,t,rfl,e⟩
 |.inr x,v,h=>by obtain⟨t,e⟩:=Value.isStrOf_shape (x:=x) (v:=v) h;exact .inr ⟨x,t,rfl,e⟩
theorem yg(i:Int)(t:Tok):mH (.inl i) (.int i t)=true:=by simp[mH,Value.isInt]
theorem yh(x:Str)(t:Tok):mH (.inr x) (.str x t)=true:=by simp[mH,Value.isStrOf]
theorem Ji(a b:Int):decide ((NC a:Key)=NC b)=(a==b):=by
 by_cases e:a=b
 .subst e;simp
 .have h:¬(NC a:Key)=NC b:=λq=>e (Sum.inl.inj q);rw[FM h];exact(PP.mpr e).symm
theorem Jj(a b:Str):decide ((G2 a:Key)=G2 b)=decide (a=b):=by
 by_cases e:a=b
 .subst e;simp
 .have h:¬(G2 a:Key)=G2 b:=λq=>e (Sum.inr.inj q);rw[FM h,FM e]
theorem Jk(a:Int)(b:Str):decide ((NC a:Key)=G2 b)=false:=FM (λq=>nomatch q)
theorem Jl(a:Str)(b:Int):decide ((G2 a:Key)=NC b)=false:=FM (λq=>nomatch q)
noncomputable def bu(prog:Program)(w:World):PySem.KeyKind prog w Key where
 is:=mH
 hash:=RG w
 inj:=λv a b g d=>by
  rcases bg g with⟨i,t,rfl,rfl⟩|⟨x,t,rfl,rfl⟩
  .rcases bg d with⟨j,u,rfl,e⟩|⟨y,u,rfl,e⟩
   .injection e with e1 _;rw[e1]
   .exact nomatch e
  .rcases bg d with⟨j,u,rfl,e⟩|⟨y,u,rfl,e⟩
   .exact nomatch e
   .injection e with e1 _;rw[e1]
 byValue:=λk v h=>by rcases bg h with⟨i,t,rfl,rfl⟩|⟨x,t,rfl,rfl⟩<;>rfl
 pyHash:=λc h=>by
  rcases bg c with⟨i,t,rfl,rfl⟩|⟨x,t,rfl,rfl⟩
  .exact wpAny_pyHash_int h
  .exact wpAny_pyHash_str h
 eqBool:=λf c h=>by
  rcases bg f with⟨i,t,rfl,rfl⟩|⟨x,t,rfl,rfl⟩
  .rcases bg c with⟨j,u,rfl,rfl⟩|⟨y,u,rfl,rfl⟩
   .rw[Ji]at h;exact wpAny_eqBool_int h
   .rw[Jk]at h;exact SeqAt.EqAt.int_str i t y u _ _ _ _ h
  .rcases bg c with⟨j,u,rfl,rfl⟩|⟨y,u,rfl,rfl⟩
   .rw[Jl]at h;exact SeqAt.EqAt.str_int x t j u _ _ _ _ h
   .rw[Jj]at h;exact wpAny_eqBool_str h
 «strs»:=λk x t v h=>by
  rcases bg h with⟨i,u,rfl,e⟩|⟨y,u,rfl,e⟩
  .exact nomatch e
  .injection e with e1 _;subst e1;cases v<;>rfl
theorem sD(prog:Program)(w:World)(i:Int)(t:Tok):(bu prog w).is (.inl i) (.int i t)=true:=yg i t
theorem sE(prog:Program)(w:World)(x:Str)(t:Tok):(bu prog w).is (.inr x) (.str x t)=true:=yh x t
inductive V where
 |aI|bl (b:Bool)|int (i:Int)|str (x:Str)|zW (b:Array UInt8)|Jm (b:UInt64)|ref (a:Addr)|ty (n:String)
 deriving DecidableEq
noncomputable def RelV:V->Value->Prop
 |.aI,u=>u=Value.none
 |.bl b,u=>u=Value.bool b
 |.int i,u=>∃t,u=Value.int i t
 |.str x,u=>∃t,u=Value.str x t
 |.zW b,u=>∃t,u=Value.bytes b t
 |.Jm b,u=>∃t,u=Value.float b t
 |.ref a,u=>u=Value.ref a
 |.ty n,u=>u=Value.type n
abbrev Vals:List V->List Value->Prop:=Paired RelV
theorem Vals.length{a:List V}{us:List Value}(r:Vals a us):a.length=us.length:=Paired.length r
theorem Vals.get:∀{a:List V}{us:List Value}{i:Nat}{x:V},Vals a us->a[i]?=some x->∃u,us[i]?=some u/\RelV x u
 |_,_,_,_,.nil,e=>by simp at e
 |_,_,0,_,.cons r _,e=>by simp at e;subst e;exact⟨_,rfl,r⟩
 |_,_,i+1,x,.cons _ t,e=>by obtain⟨u,c,b⟩:=Vals.get (i:=i) (x:=x) t (by simpa using e);exact⟨u,by simpa using c,b⟩
theorem Vals.set{x:V}{u:Value}(r:RelV x u):∀{a:List V}{us:List Value}(i:Nat),Vals a us->Vals (a.set i x) (us.set i u)
 |_,_,_,.nil=>.nil
 |_,_,0,.cons _ t=>.cons r t
 |_,_,i+1,.cons q t=>.cons q (Vals.set r i t)
theorem Vals.append:∀{b a:List V}{us c:List Value},Vals b us->Vals a c->Vals (b++a) (us++c)
 |_,_,_,_,.nil,s=>s
 |_,_,_,_,.cons r t,s=>.cons r (Vals.append t s)
theorem Vals.take:∀{a:List V}{us:List Value}(n:Nat),Vals a us->Vals (a.take n) (us.take n)
 |_,_,0,_=>.nil
 |_,_,_+1,.nil=>.nil
 |_,_,n+1,.cons r t=>.cons r (Vals.take n t)
theorem Vals.drop:∀{a:List V}{us:List Value}(n:Nat),Vals a us->Vals (a.drop n) (us.drop n)
 |_,_,0,r=>r
 |_,_,_+1,.nil=>.nil
 |_,_,n+1,.cons _ t=>Vals.drop n t
noncomputable def gA:Option V->Option Value->Prop
 |some v,some u=>RelV v u
 |none,none=>True
 |_,_=>False
noncomputable def KV{a:Type}:List (a×V)->List (a×Value)->Prop:=Paired λ(p:a×V)(q:a×Value)=>p.1=q.1/\RelV p.2 q.2
noncomputable def kV:Key->V
 |.inl i=>.int i
 |.inr x=>.str x
inductive HO where
 |lst (xs:List V)
 |tup (xs:List V)
 |dK (kvs:List (Key×V))|dT (kvs:List (List Key×V))
 |set (S:Int->Bool) (n:Nat)
 |ins (C dx:Addr) (fs:List (Str×V))
 |own (x:Addr)
 |xd (fs:List (Str×V))
 |met (f x:Addr)
 |pS (lo hi:Int)
 |uK (o:Obj) (u:HO)
 |HJ (ps:Array Value)
 |ext (φ:Heap->Prop)
abbrev Hp:=Addr->Option HO
noncomputable def upd(H:Hp)(a:Addr)(o:HO):Hp:=λb=>if b=a then some o else H b
theorem aA{H:Hp}{a:Addr}{o:HO}:upd H a o a=some o:=by unfold upd;rw[Do rfl]
theorem au{H:Hp}{a b:Addr}{o:HO}(h:b≠a):upd H a o b=H b:=by unfold upd;rw[Bn h]
theorem DB{H:Hp}{a:Addr}{o u:HO}:upd (upd H a o) a u=upd H a u:=by funext b;unfold upd;split<;>rfl
theorem Oe{H:Hp}{a b:Addr}{o u:HO}(h:H a=some o)(h':H b=some u)(d:o≠u):a≠b:=by intro e;subst e;rw[h]at h';exact d (Hn h')
theorem bz{H:Hp}{a b:Addr}{o:HO}(h:H a=some o)(h':H b=none):a≠b:=by intro e;subst e;rw[h]at h';cases h'
section
variable(P:Program)(w:World)
noncomputable def bw(H:Hp)(h:Heap)(a:Addr):HO->Prop
 |.lst c=>c.length<=sizeLine/\∃(b:List Value)(n:Nat),Vals c b/\h.get? a=some {cls:=.type "list",data:=.seq b.toArray n}
 |.tup c=>c.length<=sizeLine/\∃b:List Value,Vals c b/\IsTup h a b.toArray
 |.dK kvs=>kvs.length<=sizeLine/\(a==sysModules)=false/\∃vs,KV kvs vs/\h.DictOf (bu P w) a vs
 |.dT kvs=>kvs.length<=sizeLine/\(a==sysModules)=false/\∃c:List (List Key×Addr×Value),
   Paired (λ(p:List Key×V)(q:List Key×Addr×Value)=>p.1=q.1/\H q.2.1=some (.tup (p.1.map kV))/\RelV p.2 q.2.2) kvs c/\
   ∃o es ep,h.get? a=some o/\o.ExactDict/\o.data=.dict es ep/\es.toList=c.map (entryOfKey (tupleKind (bu P w)))/\(c.map (·.1)).Nodup
 |.set S n=>h.SetOf (intKind P w) a S n
 |.ins C g e=>H g=some (.own a)/\e.length<=1000/\g≠a/\h.get? a=some (instObj C g)/\
   ∃d,h.Ns1 g d/\(∀f,gA (e.lookup f) (d f))/\PySem.Within d (e.map (·.1))
 |.own _=>∃o,h.get? a=some o
 |.xd e=>∃d,h.Ns1 a d/\∀f,gA (e.lookup f) (d f)
 |.pS l m=>∃t u v,h.get? a=some {cls:=.type "range",data:=.fields #[.int l t,.int m u,.int 1 v]}
 |.uK o u=>h.get? a=some o/\bw H h a u
 |.HJ ps=>h.get? a=some {cls:=.none,data:=.fields ps}
 |.met f x=>h.get? a=some (methodObj (.ref f) (.ref x))
 |.ext i=>i h/\(∃o,h.get? a=some o)/\∀k j:Heap,i k->(∀o,k.get? a=some o->j.get? a=some o)->i j
noncomputable def gE(H:Hp)(h:Heap):Prop:=∀a o,H a=some o->bw P w H h a o
end
section
variable{P:Program}{w:World}{H H':Hp}{h h':Heap}{a:Addr}{o:HO}
theorem bw.lt(x:bw P w H h a o):a<h.objs.size:=by
 cases o with
 |lst c=>obtain⟨_,_,_,_,e⟩:=x;exact Fk e
 |tup c=>obtain⟨_,_,_,p⟩:=x;exact p.lt
 |dK b=>obtain⟨_,_,_,_,o,_,_,e,_⟩:=x;exact Fk e
 |dT b=>obtain⟨_,_,_,_,o,_,_,e,_⟩:=x;exact Fk e
 |set S n=>obtain⟨o,_,_,_,e,_⟩:=x;exact Fk e
 |ins C l d=>obtain⟨_,_,_,e,_⟩:=x;exact Fk e
 |own y=>obtain⟨_,e⟩:=x;exact Fk e
 |xd d=>obtain⟨_,⟨_,_,_,e,_⟩,_⟩:=x;exact Fk e
 |pS j k=>obtain⟨_,_,_,e⟩:=x;exact Fk e
 |uK i u=>obtain⟨e,_⟩:=x;exact Fk e
 |HJ g=>exact Fk (show h.get? a=some _ from x)
 |met f y=>exact Fk (show h.get? a=some _ from x)
 |ext φ=>obtain⟨_,⟨_,e⟩,_⟩:=x;exact Fk e
theorem Paired.Jo{α e:Type}{F G:α->e->Prop}:∀{d:List α}{c:List e},Paired F d c->(∀a b,F a b->G a b)->Paired G d c
 |_,_,.nil,_=>.nil
 |_,_,.cons r t,f=>.cons (f _ _ r) (Paired.Jo t f)
theorem bw.stay(x:bw P w H h a o)(k:∀b u,(b=a\/H b=some (.own a))->h.get? b=some u->h'.get? b=some u)
 (L:∀b,H b=some (.own a)->H' b=some (.own a))(K:∀b m,H b=some (.tup m)->H' b=some (.tup m)):bw P w H' h' a o:=by
 induction o with
 |lst m=>obtain⟨z,l,n,r,e⟩:=x;exact⟨z,l,n,r,k _ _ (.inl rfl) e⟩
 |tup m=>obtain⟨z,l,r,g,e,c⟩:=x;exact⟨z,l,r,g,k _ _ (.inl rfl) e,c⟩
 |dK B=>obtain⟨z,y,F,r,g,i,j,e,c⟩:=x;exact⟨z,y,F,r,g,i,j,k _ _ (.inl rfl) e,c⟩
 |dT B=>obtain⟨z,y,m,r,g,i,j,e,c⟩:=x;exact⟨z,y,m,Paired.Jo r λp q z=>⟨z.1,K _ _ z.2.1,z.2.2⟩,g,i,j,k _ _ (.inl rfl) e,c⟩
 |set S n=>obtain⟨g,i,j,t,e,c⟩:=x;exact⟨g,i,j,t,k _ _ (.inl rfl) e,c⟩
 |ins C R M=>obtain⟨d,z,I,e,A,⟨s,i,j,N,c⟩,r⟩:=x;exact⟨L _ d,z,I,k _ _ (.inl rfl) e,A,⟨s,i,j,k _ _ (.inr d) N,c⟩,r⟩
 |own y=>obtain⟨g,e⟩:=x;exact⟨g,k _ _ (.inl rfl) e⟩
 |xd M=>obtain⟨A,⟨s,i,j,e,c⟩,r⟩:=x;exact⟨A,⟨s,i,j,k _ _ (.inl rfl) e,c⟩,r⟩
 |pS O Q=>obtain⟨t,u,v,e⟩:=x;exact⟨t,u,v,k _ _ (.inl rfl) e⟩
 |uK g u J=>obtain⟨e,q⟩:=x;exact⟨k _ _ (.inl rfl) e,J q⟩
 |HJ E=>have e:h.get? a=some {cls:=.none,data:=.fields E}:=x;show h'.get? a=some {cls:=.none,data:=.fields E};exact k a _ (.inl rfl) e
 |met f y=>have e:h.get? a=some (methodObj (.ref f) (.ref y)):=x;show h'.get? a=some (methodObj (.ref f) (.ref y));exact k a _ (.inl rfl) e
 |ext φ=>obtain⟨p,⟨o,e⟩,D⟩:=x;exact⟨D _ _ p λo q=>k _ _ (.inl rfl) q,⟨o,k _ _ (.inl rfl) e⟩,D⟩
theorem gE.lt(x:gE P w H h)(e:H a=some o):a<h.objs.size:=(x a o e).lt
theorem gE.fresh(x:gE P w H h)(e:h.objs.size<=a):H a=none:=by
 cases q:H a with
 |none=>rfl
 |some u=>exact absurd (FR (x.lt q) e) (Pm _)
theorem gE.kept(x:gE P w H h)(k:∀b u,h.get? b=some u->h'.get? b=some u):gE P w H h':=λa o e=>(x a o e).stay (λb u _ q=>k b u q) (λ_ q=>q) λ_ _ q=>q
theorem gE.laid(x:gE P w H h)(k:∀b u,h.get? b=some u->h'.get? b=some u)(i:h.objs.size<=a)(d:bw P w (upd H a o) h' a o):gE P w (upd H a o) h':=λb u e=>by
 have f:=x.fresh i;by_cases g:b=a
 .subst g;rw[aA]at e;cases e;exact d
 .rw[au g]at e;exact(x b u e).stay (λc v _ q=>k c v q) (λc q=>by rw[au (bz q f)];exact q) λc j q=>by rw[au (bz q f)];exact q
end
noncomputable def Rd(H:Hp)(a:Addr)(u:HO):Prop:=H a=some u\/∃o,H a=some (.uK o u)
theorem Rd.ok{P:Program}{w:World}{H:Hp}{h:Heap}{a:Addr}{u:HO}(r:Rd H a u)(x:gE P w H h):bw P w H h a u:=by
 rcases r with r|⟨o,r⟩
 .exact x a u r
 .obtain⟨_,q⟩:=x a _ r;exact q
noncomputable def Of:Option HO->Prop
 |some (.lst _)=>True
 |some (.dK _)=>True
 |some (.dT _)=>True
 |some (.set _ _)=>True
 |some (.ins _ _ _)=>True
 |some (.ext _)=>True
 |_=>False
section
variable{P:Program}{w:World}{H:Hp}{h h':Heap}{x e:Addr}{o':HO}
theorem gE.write(n:gE P w H h)(d:Of (H x))(he:e=x\/H e=some (.own x))(k:∀b u,b≠e->h.get? b=some u->h'.get? b=some u)(s:∃u,h'.get? e=some u)
 (j:bw P w (upd H x o') h' x o'):gE P w (upd H x o') h':=λb u q=>by
 have m:∀c y,H c=some (.own y)->c≠x:=λc y r z=>by subst z;rw[r]at d;exact d
 have p:∀c a,H c=some (.tup a)->c≠x:=λc a r z=>by subst z;rw[r]at d;exact d
 by_cases g:b=x
 .subst g;rw[aA]at q;cases q;exact j
 .rw[au g]at q;by_cases i:b=e
  .have l:H b=some (.own x):=by
    rcases he with z|z
    .exact absurd (i.trans z) g
    .rw[i];exact z
   rw[q]at l;cases l;obtain⟨v,o⟩:=s;exact⟨v,by rw[i];exact o⟩
  .refine(n b u q).stay (λc v f r=>k c v ?_ r) (λc r=>by rw[au (m c b r)];exact r) λc a r=>by rw[au (p c a r)];exact r
   rcases f with rfl|f
   .exact i
   .rintro rfl;rcases he with z|z
    .exact m c b f z
    .rw[f]at z;cases z;exact g rfl
end
structure Un(fs ex:List Addr)(H H':Hp)(h h':Heap):Prop where
 keep:∀b o,h.get? b=some o->H b=none->b∉fs->b∉ex->h'.get? b=some o
 slot:∀b o,h.get? b=some o->H b=none->b∈fs->b∉ex->∃sl,h'.get? b=some {o with slots:=sl}
 free:∀b o,h.get? b=some o->H b=none->b∉ex->H' b=none
 there:∀b o,h.get? b=some o->b∉ex->∃o',h'.get? b=some o'
 tups:∀b xs,H b=some (.tup xs)->H' b=some (.tup xs)
 jS:∀b o u,H b=some (.uK o u)->H' b=some (.uK o u)
 lB:∀b ps,H b=some (.HJ ps)->∃more,H' b=some (.HJ (ps++more))
section
variable{fs fs' ex ex':List Addr}{H H1 H2:Hp}{h h1 h2 h':Heap}{a x e:Addr}{o:HO}
theorem Un.any(u:Un fs ex H H1 h h1){b:Addr}{c:Obj}(q:h.get? b=some c)(n:H b=none)(d:b∉ex):∃g,h1.get? b=some {c with slots:=g}:=by
 by_cases f:b∈fs
 .exact u.slot b c q n f d
 .exact⟨c.slots,u.keep b c q n f d⟩
theorem Un.kept(k:∀b u,h.get? b=some u->h'.get? b=some u):Un fs ex H H h h':=
 ⟨λb c q _ _ _=>k b c q,λb c q _ _ _=>⟨c.slots,k b c q⟩,λ_ _ _ n _=>n,λb c q _=>⟨c,k b c q⟩,λ_ _ q=>q,λ_ _ _ q=>q,λ_ d q=>⟨#[],by rw[q];simp⟩⟩
theorem Un.refl:Un fs ex H H h h:=Un.kept λ_ _ q=>q
theorem Un.laid(k:∀b u,h.get? b=some u->h'.get? b=some u)(f:h.objs.size<=a)(c:H a=none):Un fs ex H (upd H a o) h h' where
 keep:=λb u q _ _ _=>k b u q
 slot:=λb u q _ _ _=>⟨u.slots,k b u q⟩
 free:=λb u q n _=>by rw[au (Jn (FR (Fk q) f))];exact n
 there:=λb u q _=>⟨u,k b u q⟩
 tups:=λb d q=>by rw[au (bz q c)];exact q
 jS:=λb u d q=>by rw[au (bz q c)];exact q
 lB:=λb g q=>⟨#[],by rw[au (bz q c),q];simp⟩
theorem Un.write(c:Of (H x))(he:e=x\/H e=some (.own x))(k:∀b u,b≠e->h.get? b=some u->h'.get? b=some u)(m:∃u,h'.get? e=some u):Un fs ex H (upd H x o) h h':=by
 have f:∀b,H b=none->b≠x:=λb n z=>by subst z;rw[n]at c;exact c
 have g:∀b,H b=none->b≠e:=λb n z=>by
  subst z;rcases he with r|r
  .exact f b n r
  .rw[n]at r;cases r
 have d:∀b u,H b=some u->¬Of (some u)->b≠x:=λb u q l z=>by subst z;rw[q]at c;exact l c
 refine⟨λb u q n _ _=>k b u (g b n) q,λb u q n _ _=>⟨u.slots,k b u (g b n) q⟩,λb u q n _=>by rw[au (f b n)];exact n,λb u q _=>?_,
  λb j q=>by rw[au (d b _ q λz=>z)];exact q,λb u j q=>by rw[au (d b _ q λz=>z)];exact q,λb p q=>⟨#[],by rw[au (d b _ q λz=>z),q];simp⟩⟩
 by_cases i:b=e
 .subst i;exact m
 .exact⟨u,k b u i q⟩
end
noncomputable def Q3(h:Heap)(H:Hp):List Addr:=(Gr h.objs.size).filter λa=>(H a).isSome
noncomputable def qB(h:Heap)(H:Hp):Heap:=PySem.W.hideAll h (Q3 h H)
theorem yi(h:Heap)(H:Hp):(qB h H).objs.size=h.objs.size:=PySem.W.hideAll_size _ _
theorem Am{h:Heap}{H:Hp}{b:Addr}{o:Obj}(e:h.get? b=some o)(n:H b=none):(qB h H).get? b=some o:=
 hideAll_get _ e λa=>by have q:(H b).isSome=true:=(QR.mp a).2;rw[n]at q;simp at q
theorem DC{h:Heap}{H:Hp}{b:Addr}{o:Obj}(e:(qB h H).get? b=some o):h.get? b=some o/\H b=none:=by
 have a:h.get? b=some o:=PySem.W.of_hideAll (Q3 h H) e;refine⟨a,?_⟩;cases q:H b with
 |none=>rfl
 |some x=>have c:b∈Q3 h H:=QR.mpr ⟨Tb.mpr (Fk a),by simp[q]⟩;have z:(qB h H).get? b=none:=PySem.W.hideAll_none (Q3 h H) c;rw[z]at e;cases e
noncomputable def DE(g h:Heap)(L:Addr):List (Addr×Obj):=(Gr h.objs.size).filterMap λa=>if a=L\/(g.get? a).isSome=true then none else(h.get? a).map λo=>(a,o)
noncomputable def rest(g h:Heap)(L d:Addr):List (Addr×Obj):=(DE g h L).filter λp=>decide (p.1≠d)
structure Mod(K:Frag)(mg:Str->Option Value)(base:Heap):Prop where
 NB:K.In base
 glob:base.Ns mainGlobals mg
 blt:∃mb,base.Ns builtinsNs mb/\∀x:Str,x≠"__name__"->mb x=bootBuiltins x
 nolimit:base.NoLimit
 seer:base.NoSeer
set_option genInjectivity false in
set_option genSizeOf false in
structure Cx where
 prog:Program
 w:World
 K:Frag
 mg:Str->Option Value
 base:Heap
 A:Around
 N:List Str
 s₀:Shared
 H₀:Hp
 env:Env
 outer:List Env
 stack:List Env
 ex:List Addr
 fn:Str->Bool
 calm:Bool
 pn:List (Addr×Obj)
 xe:Value->Shared->Prop
noncomputable def frs(l:List Env):List Addr:=l.filterMap (·.frame)
abbrev Cx.fs(X:Cx):List Addr:=frs X.outer
noncomputable def Oh(sc:Scope)(x:Str):Prop:=sc.names.lookup x=some .local\/sc.names.lookup x=some .cell\/sc.names.lookup x=some .free
noncomputable def Loc(sc:Scope)(x:Str):Prop:=sc.names.lookup x=some .local\/sc.names.lookup x=some .cell
noncomputable def Look(env:Env)(h:Heap)(m:Str->Option Value)(x:Str)(u:Value):Prop:=
 (env.kindOf x=some .local/\m x=some u)\/((env.kindOf x=some .cell\/env.kindOf x=some .free)/\∃c,env.cells.lookup x=some c/\h.IsCell c (some u))
structure Cx.Ok(X:Cx):Prop where
 mod:Mod X.K X.mg X.base
 kind:X.env.scope.kind=.function
 glob:X.env.globals=mainGlobals
 blt:X.env.builtins=builtinsNs
 above:X.s₀.heap.objs.size<=X.env.locals
 inj:∀x y c,X.env.cells.lookup x=some c->X.env.cells.lookup y=some c->x=y
 has:∀x,(X.env.kindOf x=some .cell\/X.env.kindOf x=some .free)->∃c,X.env.cells.lookup x=some c
 Oi:∀x c,X.fn x=true->X.env.cells.lookup x=some c->X.s₀.heap.objs.size<=c
 hd:X.calm=true->X.A.handled=none
 frames:X.A.frames=some X.stack
 stk:X.stack=X.outer\/(X.stack=X.env::X.outer/\X.env.frame=some X.env.locals)
 RI:∀b∈X.ex,b≠X.env.locals/\∀x c,X.env.cells.lookup x=some c->c≠b
 bs:∀b o,X.base.get? b=some o->X.s₀.heap.get? b=some o/\X.H₀ b=none
 DF:X.base.objs.size<=X.s₀.heap.objs.size
 An:∀b o,X.base.get? b=some o->b∉X.ex
 Ao:∀b∈X.ex,b∉X.fs
 lC:X.s₀.heap.FunFrames X.base X.outer
 Jq:∀b∈X.fs,X.H₀ b=none
 tree:X.prog.given.tree=none
 Q4:∀(A:Around)(s:Shared),A.frames=X.A.frames->A.depth=X.A.depth->(∀b o,X.base.get? b=some o->s.heap.get? b=some o)->PylongRoom (model X.prog X.w) A s
structure Inv(X:Cx)(pins:List (Addr×Obj))(σ:List (Option V))(H:Hp)(s:Shared):Prop where
 ok:X.Ok
 os:s.os=X.s₀.os
 bare:AllBare s.gens
 base:Un X.fs X.ex X.H₀ H X.s₀.heap s.heap
 loc:∃m,s.heap.Ns X.env.locals m/\∀(i:Nat)(x:Str)(v:V),X.N[i]?=some x->σ[i]?=some (some v)->Oh X.env.scope x->∃u,RelV v u/\Look X.env s.heap m x u
 cell:∀x c,X.env.cells.lookup x=some c->∃v,s.heap.IsCell c v
 free:H X.env.locals=none
 gF:∀x c,X.env.cells.lookup x=some c->H c=none
 pin:∀p∈X.pn++pins,s.heap.get? p.1=some p.2/\H p.1=none/\p.1≠X.env.locals/\p.1∉X.fs/\∀v,p.2.data≠.cell v
 hok:gE X.prog X.w H s.heap
 len:σ.length=X.N.length
section
variable{X:Cx}{pins:List (Addr×Obj)}{σ:List (Option V)}{H H':Hp}{s:Shared}{h':Heap}
theorem Cx.Ok.DG(a:X.Ok){b:Addr}{o:Obj}(e:X.base.get? b=some o):b∉X.fs:=λc=>by have:=(a.lC.mem c).1;rw[e]at this;cases this
theorem Inv.bs(I:Inv X pins σ H s):∀b o,X.base.get? b=some o->s.heap.get? b=some o/\H b=none:=λb o e=>⟨I.base.keep b o (I.ok.bs b o e).1 (I.ok.bs b o e).2 (I.ok.DG e) (I.ok.An b o e),I.base.free b o (I.ok.bs b o e).1 (I.ok.bs b o e).2 (I.ok.An b o e)⟩
theorem Inv.bk(I:Inv X pins σ H s):∀b o,X.base.get? b=some o->s.heap.get? b=some o:=λb o e=>(I.bs b o e).1
theorem Inv.mod(I:Inv X pins σ H s):Mod X.K X.mg X.base:=I.ok.mod
theorem Inv.jQ(I:Inv X pins σ H s):X.K.In s.heap:=I.ok.mod.NB.keeps I.bk
theorem Inv.lt(I:Inv X pins σ H s):X.env.locals<s.heap.objs.size:=let⟨_,hn,_⟩:=I.loc;hn.lt
theorem Inv.sz(I:Inv X pins σ H s):X.s₀.heap.objs.size<=s.heap.objs.size:=GE I.ok.above (Ta I.lt)
theorem Inv.RJ(I:Inv X pins σ H s){a:Addr}(h:s.heap.objs.size<=a):a∉X.fs:=λc=>by obtain⟨_,o,b,_⟩:=I.ok.lC.mem c;exact absurd (FR (Fk b) (GE I.sz h)) (Pm _)
theorem Inv.Jr(I:Inv X pins σ H s):∀x c,X.env.cells.lookup x=some c->c≠X.env.locals:=λx c e z=>by obtain⟨v,o,d,hd⟩:=I.cell x c e;obtain⟨m,⟨f,g,h,a,b,_⟩,_⟩:=I.loc;rw[z,a]at d;cases d;rw[b]at hd;cases hd
theorem Inv.lC(I:Inv X pins σ H s):s.heap.FunFrames X.base X.outer:=by
 have f:∀(l:List Env),(∀b∈frs l,b∈X.fs)->X.s₀.heap.FunFrames X.base l->s.heap.FunFrames X.base l:=by
  intro l
  induction l with
  |nil=>intro _ _;trivial
  |cons env r h=>intro g m;obtain⟨n,⟨L,o,a,k,j,hd⟩,i⟩:=m;have d:L∈X.fs:=g L (by unfold frs;rw[Jp,a];exact Bi);obtain⟨p,e⟩:=I.base.slot L o j (I.ok.Jq L d) d λz=>I.ok.Ao L z d;exact⟨n,⟨L,_,a,k,e,hd⟩,h (λb c=>g b (by unfold frs;rw[Jp,a];exact BM _ c)) i⟩
 exact f X.outer (λ_ c=>c) I.ok.lC
theorem Inv.stack(I:Inv X pins σ H s):s.heap.FunFrames X.base X.stack:=by
 rcases I.ok.stk with e|⟨e,b⟩
 .rw[e];exact I.lC
 .rw[e];obtain⟨m,a,_⟩:=I.loc;refine .cons (by rw[I.ok.kind];decide) b a ?_ I.lC;exact Heap.get?_none_of_le (GE I.ok.DF I.ok.above)
theorem Inv.uO(I:Inv X pins σ H s):∀b∈frs X.stack,b∈X.env.locals::X.fs:=λb a=>by
 rcases I.ok.stk with e|⟨e,c⟩
 .rw[e]at a;exact BM _ a
 .rw[e]at a;unfold frs at a;rw[Jp,c]at a;exact a
theorem Inv.jn(I:Inv X pins σ H s):∀b∈frs X.stack,H b=none:=λb a=>by
 rcases Ee.mp (I.uO b a)with e|a
 .rw[e];exact I.free
 .obtain⟨_,o,c,_⟩:=I.ok.lC.mem a;exact I.base.free b o c (I.ok.Jq b a) λz=>I.ok.Ao b z a
theorem Inv.step{g':Array GenState}{t':Nat}{d':Drawn}{ch:List Addr}(I:Inv X pins σ H s)
 (f:∀b∈ch,(b∈X.ex\/X.s₀.heap.objs.size<=b)/\b≠X.env.locals/\(∀x c,X.env.cells.lookup x=some c->c≠b)/\∀p∈X.pn++pins,p.1≠b)
 (keep:∀b o,b≠X.env.locals->b∉X.fs->b∉ch->s.heap.get? b=some o->H b=none->h'.get? b=some o)
 (slot:∀b o,b≠X.env.locals->b∈X.fs->b∉ch->s.heap.get? b=some o->H b=none->∃F,h'.get? b=some {o with slots:=F})(free:∀b o,b∉ch->s.heap.get? b=some o->H b=none->H' b=none)
 (there:∀b o,b∉ch->s.heap.get? b=some o->∃A,h'.get? b=some A)
 (tups:∀b j,H b=some (.tup j)->H' b=some (.tup j))(jS:∀b o u,H b=some (.uK o u)->H' b=some (.uK o u))(lB:∀b ps,H b=some (.HJ ps)->∃B,H' b=some (.HJ (ps++B)))
 (P:∀m,s.heap.Ns X.env.locals m->h'.Ns X.env.locals m)(J:gE X.prog X.w H' h')(U:AllBare g'):
 Inv X pins σ H' {s with heap:=h',gens:=g',drawn:=d',toks:=t'}:=by
 have O:∀b o,X.s₀.heap.get? b=some o->b≠X.env.locals:=λb o e=>Jn (FR (Fk e) I.ok.above);have E:∀b o,X.s₀.heap.get? b=some o->b∉X.ex->b∉ch:=λb o e a t=>by
  rcases(f b t).1 with z|z
  .exact a z
  .exact absurd (FR (Fk e) z) (Pm _)
 have g:∀x c,X.env.cells.lookup x=some c->∀v,s.heap.IsCell c v->h'.IsCell c v:=λx c e v ⟨o,y,hd⟩=>by
  have D:c∉ch:=λz=>(f c z).2.2.1 x c e rfl;by_cases N:c∈X.fs
  .obtain⟨F,q⟩:=slot c o (I.Jr x c e) N D y (I.gF x c e);exact⟨_,q,hd⟩
  .exact⟨o,keep c o (I.Jr x c e) N D y (I.gF x c e),hd⟩
 refine⟨I.ok,I.os,U,⟨λb o e n t a=>?_,λb o e n t a=>?_,λb o e n a=>?_,λb o e a=>?_,λb j e=>tups b j (I.base.tups b j e),λb o j e=>jS b o j (I.base.jS b o j e),λb ps e=>?_⟩,?_,λx c e=>?_,?_,λx c e=>?_,λp M=>?_,J,I.len⟩
 .exact keep b o (O b o e) t (E b o e a) (I.base.keep b o e n t a) (I.base.free b o e n a)
 .obtain⟨F,h⟩:=I.base.slot b o e n t a;obtain⟨Z,C⟩:=slot b _ (O b o e) t (E b o e a) h (I.base.free b o e n a);exact⟨Z,C⟩
 .obtain⟨A,h⟩:=I.base.there b o e a;exact free b A (E b o e a) h (I.base.free b o e n a)
 .obtain⟨A,h⟩:=I.base.there b o e a;exact there b A (E b o e a) h
 .obtain⟨R,h⟩:=I.base.lB b ps e;obtain⟨Q,C⟩:=lB b _ h;exact⟨R++Q,by rw[C,SK]⟩
 .obtain⟨m,S,T⟩:=I.loc;refine⟨m,P m S,λi x v h C Y=>?_⟩;obtain⟨u,r,l⟩:=T i x v h C Y;refine⟨u,r,?_⟩;rcases l with l|⟨k,c,e,z⟩
  .exact .inl l
  .exact .inr ⟨k,c,e,g x c e _ z⟩
 .obtain⟨v,z⟩:=I.cell x c e;exact⟨v,g x c e v z⟩
 .obtain⟨m,⟨o,_,_,y,_⟩,_⟩:=I.loc;exact free _ o (λz=>(f _ z).2.1 rfl) y I.free
 .obtain⟨v,o,y,hd⟩:=I.cell x c e;exact free c o (λz=>(f c z).2.2.1 x c e rfl) y (I.gF x c e)
 .obtain⟨e,n,L,K,d⟩:=I.pin p M;have D:p.1∉ch:=λz=>(f p.1 z).2.2.2 p M rfl;exact⟨keep p.1 p.2 L K D e n,free p.1 p.2 D e n,L,K,d⟩
theorem Inv.un{t':Nat}(I:Inv X pins σ H s)(u:Un X.fs [] H H' s.heap h')(c:gE X.prog X.w H' h'):Inv X pins σ H' {s with heap:=h',toks:=t'}:=by obtain⟨m,⟨o,t,v,g,r⟩,_⟩:=id I.loc;obtain⟨l,j⟩:=u.any g I.free (by simp);exact I.step (g':=s.gens) (d':=s.drawn) (ch:=[]) (λ_ z=>nomatch z) (λb o _ d _ e n=>u.keep b o e n d (by simp)) (λb o _ d _ e n=>u.slot b o e n d (by simp)) (λb o _ e n=>u.free b o e n (by simp)) (λb o _ e=>u.there b o e (by simp)) u.tups u.jS u.lB (λq i=>by obtain⟨p,f,k,a,h⟩:=i;rw[g]at a;cases a;exact⟨_,f,k,j,h⟩) c I.bare
theorem Inv.call{g':Array GenState}{t':Nat}{d':Drawn}{ch:List Addr}(I:Inv X pins σ H s)(u:Un (frs X.stack) ch H H' s.heap h')(g:gE X.prog X.w H' h')(q:AllBare g')
 (f:∀b∈ch,(b∈X.ex\/X.s₀.heap.objs.size<=b)/\b≠X.env.locals/\(∀x c,X.env.cells.lookup x=some c->c≠b)/\∀p∈X.pn++pins,p.1≠b):
 Inv X pins σ H' {s with heap:=h',gens:=g',drawn:=d',toks:=t'}:=by
 obtain⟨m,⟨o,C,D,j,r⟩,_⟩:=id I.loc;obtain⟨y,h⟩:=u.any j I.free λz=>(f _ z).2.1 rfl;exact I.step (ch:=ch) f (λb o h t a e n=>u.keep b o e n (λz=>(Ee.mp (I.uO b z)).elim h t) a) (λb o _ _ a e n=>u.any e n a) (λb o a e n=>u.free b o e n a) (λb o a e=>u.there b o e a) u.tups u.jS u.lB (λB l=>by obtain⟨A,i,v,d,k⟩:=l;rw[j]at d;cases d;exact⟨_,i,v,h,k⟩) g q
theorem Inv.turned{t':Nat}{a:Addr}(I:Inv X pins σ H s)(k:∀b o,b≠a->s.heap.get? b=some o->h'.get? b=some o)(i:H a=none)(f:a≠X.env.locals)
 (y:a∈X.ex\/X.s₀.heap.objs.size<=a)(w:∀x c,X.env.cells.lookup x=some c->c≠a)(t:∀p∈X.pn++pins,p.1≠a):Inv X pins σ H {s with heap:=h',toks:=t'}:=by
 have g:∀b u,H b=some u->b≠a:=λb u e z=>by rw[z,i]at e;cases e
 refine I.step (g':=s.gens) (d':=s.drawn) (ch:=[a]) (λb l=>?_) (λb o _ _ d e _=>k b o (λz=>d (by simp[z])) e) (λb o _ _ d e _=>⟨o.slots,k b o (λz=>d (by simp[z])) e⟩) (λ_ _ _ _ n=>n)
  (λb o d e=>⟨o,k b o (λz=>d (by simp[z])) e⟩) (λ_ _ e=>e) (λ_ _ _ e=>e) (λb C e=>⟨#[],by rw[e];simp⟩) (λm j=>?_) (λb u e=>?_) I.bare
 .have e:b=a:=by simpa using l
  subst e;exact⟨y,f,w,t⟩
 .obtain⟨o,A,B,h,r⟩:=j;exact⟨o,A,B,k _ o (On f) h,r⟩
 .refine(I.hok b u e).stay (λc v d q=>k c v ?_ q) (λ_ q=>q) λ_ _ q=>q;rcases d with z|z
  .rw[z];exact g b u e
  .exact g c _ z
theorem Inv.tok(I:Inv X pins σ H s)(t:Nat):Inv X pins σ H {s with toks:=t}:=I.un (h':=s.heap) (t':=t) Un.refl I.hok
theorem Inv.kept{t':Nat}(I:Inv X pins σ H s)(k:∀b u,s.heap.get? b=some u->h'.get? b=some u):Inv X pins σ H {s with heap:=h',toks:=t'}:=I.un (Un.kept k) (I.hok.kept k)
theorem Inv.laid{a:Addr}{o:HO}{t':Nat}(I:Inv X pins σ H s)(k:∀b u,s.heap.get? b=some u->h'.get? b=some u)(d:s.heap.objs.size<=a)(c:bw X.prog X.w (upd H a o) h' a o):
 Inv X pins σ (upd H a o) {s with heap:=h',toks:=t'}:=I.un (Un.laid k d (I.hok.fresh d)) (I.hok.laid k d c)
theorem Inv.write{x e:Addr}{o:HO}{t':Nat}(I:Inv X pins σ H s)(c:Of (H x))(he:e=x\/H e=some (.own x))(k:∀b u,b≠e->s.heap.get? b=some u->h'.get? b=some u)(d:∃u,h'.get? e=some u)
 (a:bw X.prog X.w (upd H x o) h' x o):Inv X pins σ (upd H x o) {s with heap:=h',toks:=t'}:=I.un (Un.write c he k d) (I.hok.write c he k d a)
theorem Inv.we{a:List (Addr×Obj)}(I:Inv X pins σ H s)(h:∀p∈a,s.heap.get? p.1=some p.2/\H p.1=none/\p.1≠X.env.locals/\p.1∉X.fs/\∀v,p.2.data≠.cell v):Inv X a σ H s:=
 ⟨I.ok,I.os,I.bare,I.base,I.loc,I.cell,I.free,I.gF,λp b=>(FV.mp b).elim (λz=>I.pin p (Gc _ z)) (h p),I.hok,I.len⟩
theorem sF{N:List Str}(c:N.Nodup){i j:Nat}{x:Str}(a:N[i]?=some x)(b:N[j]?=some x):i=j:=by obtain⟨g,e⟩:=GT.mp a;obtain⟨f,d⟩:=GT.mp b;exact(List.getElem_inj c).mp (e.trans d.symm)
theorem pU{M:Model}{A:Around}{E:Value->Shared->Prop}{i:Nat}{x:Str}{v:V}{u:Value}{Q:Unit->Shared->Prop}(I:Inv X pins σ H s)(hN:X.N.Nodup)(P:X.N[i]?=some x)(B:Loc X.env.scope x)(r:RelV v u)
 (h:∀s',Inv X pins (σ.set i (some v)) H s'->(∃a,Heap.SameBut a s.heap s'.heap/\(a=X.env.locals\/X.env.cells.lookup x=some a))->Q () s')(hf:X.fn x=true\/X.env.scope.names.lookup x=some .local:=by first|exact .inl rfl|exact .inr rfl|assumption):wpAny M A (storeName X.env x u) Q E s:=by
 obtain⟨m,hn,hl⟩:=id I.loc;have R:(X.env.scope.kind==.class||(X.env.scope.kind==.module&&X.env.locals !=X.env.globals))=false:=by rw[I.ok.kind];rfl
 have Ol:i<σ.length:=by rw[I.len];exact(GT.mp P).1
 have Jr:=I.Jr;have g:∀{a:Addr}{h':Heap},(∃o,s.heap.get? a=some o/\H a=none)->Heap.SameBut a s.heap h'->gE X.prog X.w H h':=λ{a h'} ha f b ob e=>by
  obtain⟨_,_,C⟩:=ha;refine(I.hok b ob e).stay (λc U t q=>(f.2 c ?_).trans q) (λ_ q=>q) λ_ _ q=>q;rintro rfl;rcases t with rfl|t
  .rw[C]at e;cases e
  .rw[C]at t;cases t
 rcases B with F|F
 .refine wpAny_storeName_local F hn (λh' hn' f=>?_) R;obtain⟨oL,_,_,VJ,_⟩:=id hn;refine h _ ⟨I.ok,I.os,I.bare,⟨λb o e n L B=>?_,λb o e n L B=>?_,I.base.free,λb o e B=>?_,I.base.tups,I.base.jS,I.base.lB⟩,⟨_,hn',λj y v' l D e3=>?_⟩,λy c e=>?_,I.free,I.gF,λp hp=>?_,g ⟨oL,VJ,I.free⟩ f,by simpa using I.len⟩ ⟨_,f,.inl rfl⟩
  .exact(f.2 b (Jn (FR (Fk e) I.ok.above))).trans (I.base.keep b o e n L B)
  .obtain⟨sl,l⟩:=I.base.slot b o e n L B;exact⟨sl,(f.2 b (Jn (FR (Fk e) I.ok.above))).trans l⟩
  .obtain⟨o',l⟩:=I.base.there b o e B;exact⟨o',(f.2 b (Jn (FR (Fk e) I.ok.above))).trans l⟩
  .by_cases J:j=i
   .subst J;rw[P]at l;cases l;rw[L9 Ol]at D;cases D;exact⟨u,r,.inl ⟨F,by simp⟩⟩
   .rw[KE (On J)]at D;obtain⟨u',r',q⟩:=hl j y v' l D e3;refine⟨u',r',?_⟩;rcases q with⟨k,e⟩|⟨k,c,e,z⟩
    .refine .inl ⟨k,?_⟩;have:y≠x:=λe=>J (sF hN l (e▸P));simp[this,e]
    .exact .inr ⟨k,c,e,z.sameBut f (Jr y c e)⟩
  .obtain⟨U,z⟩:=I.cell y c e;exact⟨U,z.sameBut f (Jr y c e)⟩
  .obtain⟨e,n,Y,nf,d⟩:=I.pin p hp;exact⟨(f.2 p.1 Y).trans e,n,Y,nf,d⟩
 .have K:X.fn x=true:=by
   rcases hf with z|z
   .exact z
   .rw[z]at F;cases F
  obtain⟨c,t⟩:=I.ok.has x (.inl F);obtain⟨U,z⟩:=I.cell x c t;refine wpAny_storeName_cell I.ok.kind F t z (λh' T f=>?_);obtain⟨oc,O,RM⟩:=id z;refine h {s with heap:=h'} ⟨I.ok,I.os,I.bare,⟨λb o e n L B=>?_,λb o e n L B=>?_,I.base.free,λb o e B=>?_,I.base.tups,I.base.jS,I.base.lB⟩,⟨m,hn.sameBut f (On (Jr x c t)),λj y v' l D e3=>?_⟩,λy Z e=>?_,I.free,I.gF,λp hp=>?_,g ⟨oc,O,I.gF x c t⟩ f,by simpa using I.len⟩ ⟨c,f,.inr t⟩
  .exact(f.2 b (Jn (FR (Fk e) (I.ok.Oi x c K t)))).trans (I.base.keep b o e n L B)
  .obtain⟨sl,l⟩:=I.base.slot b o e n L B;exact⟨sl,(f.2 b (Jn (FR (Fk e) (I.ok.Oi x c K t)))).trans l⟩
  .obtain⟨o',l⟩:=I.base.there b o e B;exact⟨o',(f.2 b (Jn (FR (Fk e) (I.ok.Oi x c K t)))).trans l⟩
  .by_cases J:j=i
   .subst J;rw[P]at l;cases l;rw[L9 Ol]at D;cases D;exact⟨u,r,.inr ⟨.inl F,c,t,T⟩⟩
   .rw[KE (On J)]at D;obtain⟨u',r',q⟩:=hl j y v' l D e3;refine⟨u',r',?_⟩;rcases q with q|⟨k,Z,e,z'⟩
    .exact .inl q
    .refine .inr ⟨k,Z,e,z'.sameBut f ?_⟩;rintro rfl;exact J (sF hN l (I.ok.inj _ _ _ e t▸P))
  .by_cases S:Z=c
   .subst S;exact⟨_,T⟩
   .obtain⟨w2,z2⟩:=I.cell y Z e;exact⟨w2,z2.sameBut f S⟩
  .obtain⟨e,n,Y,nf,d⟩:=I.pin p hp;refine⟨(f.2 p.1 ?_).trans e,n,Y,nf,d⟩;intro q;rw[q,O]at e;have q':oc=p.2:=Hn e;exact d U (by rw[<-q'];exact RM)
theorem dR{M:Model}{A:Around}{E:Value->Shared->Prop}{i:Nat}{x:Str}{v:V}{u:Value}{Q:Unit->Shared->Prop}(I:Inv X pins σ H s)(d:X.N.Nodup)(b:X.N[i]?=some x)(a:Loc X.env.scope x)(r:RelV v u)
 (h:∀s',Inv X pins (σ.set i (some v)) H s'->Q () s')(c:X.fn x=true\/X.env.scope.names.lookup x=some .local:=by first|exact .inl rfl|exact .inr rfl|assumption):wpAny M A (storeName X.env x u) Q E s:=
 pU I d b a r (λs' e _=>h s' e) c
theorem Inv.HL{s':Shared}{ch:List Addr}(I:Inv X pins σ H s)(g:s'.os=s.os)(u:Un (frs X.stack) ch H H' s.heap s'.heap)(a:gE X.prog X.w H' s'.heap)(h:AllBare s'.gens)
 (d:∀b∈ch,(b∈X.ex\/X.s₀.heap.objs.size<=b)/\b≠X.env.locals/\(∀x c,X.env.cells.lookup x=some c->c≠b)/\∀p∈X.pn++pins,p.1≠b):Inv X pins σ H' s':=by
 obtain⟨h',g',d',t',f⟩:=s';have e:f=s.os:=g;subst e;exact I.call (g':=g') (t':=t') (d':=d') u a h d
end
abbrev XK:=Value->Option Addr->Hp->Prop
abbrev St:=List (Option V)
abbrev VK:=V->Hp->Prop
abbrev TE:=St->Hp->VK->Prop
abbrev TT:=St->Hp->(Bool->Hp->Prop)->Prop
abbrev TA:=St->Hp->(List V->Hp->Prop)->Prop
set_option genInjectivity false in
set_option genSizeOf false in
structure Ends where
 nx:St->Hp->Prop
 rt:VK
 bk:St->Hp->Prop:=λ_ _=>False
 ct:St->Hp->Prop:=λ_ _=>False
abbrev TS:=Ends->St->Hp->Prop
noncomputable def EP(X:Cx)(a:List (Addr×Obj))(c:St)(Q:VK)(u:Value)(s':Shared):Prop:=∃v b,Inv X a c b s'/\RelV v u/\Q v b
noncomputable def TP(X:Cx)(a:List (Addr×Obj))(d:St)(Q:Bool->Hp->Prop)(b:Bool)(s':Shared):Prop:=∃c,Inv X a d c s'/\Q b c
noncomputable def AP(X:Cx)(a:List (Addr×Obj))(d:St)(Q:List V->Hp->Prop)(us:List Value)(s':Shared):Prop:=∃b c,Inv X a d c s'/\Vals b us/\Q b c
noncomputable def SP(X:Cx)(b:List (Addr×Obj))(D:Ends)(f:Flow)(s':Shared):Prop:=
 match f with
 |.next=>∃a c,Inv X b a c s'/\D.nx a c
 |.brk=>∃a c,Inv X b a c s'/\D.bk a c
 |.cont=>∃a c,Inv X b a c s'/\D.ct a c
 |.ret u=>∃v a c,Inv X b a c s'/\RelV v u/\D.rt v c
noncomputable def PE(X:Cx)(e:Expr)(t:TE):Prop:=
 ∀(a:List (Addr×Obj))(s:Shared)(b:St)(H:Hp)(Q:VK),Inv X a b H s->t b H Q->wpAny (model X.prog X.w) X.A (eval e X.env) (EP X a b Q) X.xe s
noncomputable def PT(X:Cx)(e:Expr)(t:TT):Prop:=
 ∀(a:List (Addr×Obj))(s:Shared)(b:St)(H:Hp)(Q:Bool->Hp->Prop),Inv X a b H s->t b H Q->wpAny (model X.prog X.w) X.A (isTrue e X.env (eval e X.env)) (TP X a b Q) X.xe s
noncomputable def PW(X:Cx)(e:Expr)(t:TT):Prop:=
 ∀(b:Sem Value)(a:List (Addr×Obj))(s:Shared)(c:St)(H:Hp)(Q:Bool->Hp->Prop),Inv X a c H s->t c H Q->wpAny (model X.prog X.w) X.A (isTrue e X.env b) (TP X a c Q) X.xe s
theorem PW.pt{X:Cx}{e:Expr}{t:TT}(h:PW X e t):PT X e t:=h _
noncomputable def PA(X:Cx)(es:List Expr)(t:TA):Prop:=
 ∀(c:Pos)(a:List (Addr×Obj))(s:Shared)(b:St)(H:Hp)(Q:List V->Hp->Prop),Inv X a b H s->t b H Q->wpAny (model X.prog X.w) X.A (spliced (backTo c (starEach es X.env))) (AP X a b Q) X.xe s
noncomputable def PS(X:Cx)(st:Stmt)(t:TS):Prop:=
 ∀(a:List (Addr×Obj))(s:Shared)(b:St)(H:Hp)(D:Ends),Inv X a b H s->t D b H->wpAny (model X.prog X.w) X.A (exec st X.env) (SP X a D) X.xe s
noncomputable def sG(X:Cx)(st:List Stmt)(t:TS):Prop:=
 ∀(a:List (Addr×Obj))(s:Shared)(b:St)(H:Hp)(D:Ends),Inv X a b H s->t D b H->wpAny (model X.prog X.w) X.A (execs st X.env) (SP X a D) X.xe s
theorem bq{α:Type}{t:Sem α}{Q b:α->Shared->Prop}{M:Model}{A:Around}{E:Value->Shared->Prop}{s:Shared}(h:wpAny M A t Q E s)(c:∀a s,Q a s->b a s):wpAny M A t b E s:=QQ h c λ_ _ x=>x
section
variable{X:Cx}
theorem bin{a b:Expr}{ta j:TE}(r:PE X a ta)(q:PE X b j){c:List (Addr×Obj)}{s:Shared}{d:St}{H:Hp}{R:V->V->Hp->Prop}(I:Inv X c d H s)(h:ta d H λx H1=>j d H1 λy e=>R x y e)
 {α:Type}{Q:α->Shared->Prop}{f:Value->Value->Sem α}
 (p:∀v u s2 x y e,Inv X c d e s2->RelV x v->RelV y u->R x y e->wpAny (model X.prog X.w) X.A (f v u) Q X.xe s2):
 wpAny (model X.prog X.w) X.A (eval a X.env) (λv i=>wpAny (model X.prog X.w) X.A (eval b X.env) (λu g=>wpAny (model X.prog X.w) X.A (f v u) Q X.xe g) X.xe i) X.xe s:=by
 refine bq (r c s d H _ I h) λv k ⟨x,H1,z,m,o⟩=>?_;refine bq (q c k d H1 _ z o) λu s2 ⟨y,e,t,l,n⟩=>?_;exact p v u s2 x y e t m l n
noncomputable def gG(i:Nat):TE:=λa H Q=>∃v,a[i]?=some (some v)/\Q v H
noncomputable def tC(v:V):TE:=λ_ H Q=>Q v H
theorem Aq{i:Nat}{x:Str}{pos:Pos}(t:X.N[i]?=some x)(n:Oh X.env.scope x)(hd:(x==("__debug__":Str))=false:=by decide)(g:(x==("__classdict__":Str))=false:=by decide):PE X (.Name x pos) (gG i):=by
 intro f s k H Q I h;obtain⟨v,e,h⟩:=h;obtain⟨m,o,q⟩:=I.loc;obtain⟨u,r,l⟩:=q i x v t e n;have d:EP X f k Q u s:=⟨v,H,I,r,h⟩;rcases l with⟨b,p⟩|⟨b,c,j,a⟩
 .exact wpAny_Name (wpAny_loadName_local I.ok.kind b o p d) hd
 .rcases b with b|b
  .exact wpAny_Name (wpAny_loadName_cell I.ok.kind b j a d) hd
  .exact wpAny_Name (wpAny_loadName_free I.ok.kind b j a d g) hd
theorem mJ{i j pos}:PE X (.Constant (.int i) j pos) (tC (.int i)):=λ_ _ _ H _ I h=>wpAny_Constant_int ⟨.int i,H,I.tok _,⟨_,rfl⟩,h⟩
theorem Om{b j pos}:PE X (.Constant (.bool b) j pos) (tC (.bl b)):=λ_ _ _ H _ I h=>Constant_bool ⟨.bl b,H,I,rfl,h⟩
theorem Js{j pos}:PE X (.Constant .none j pos) (tC .aI):=λ_ _ _ H _ I h=>Constant_none ⟨.aI,H,I,rfl,h⟩
theorem Ar{x j pos}:PE X (.Constant (.str x) j pos) (tC (.str x)):=λ_ _ _ H _ I h=>Calls.Constant_str ⟨.str x,H,I.tok _,⟨_,rfl⟩,h⟩
noncomputable def Gl(X:Cx)(x:Str):Prop:=X.env.kindOf x=some .globalImplicit
theorem qC{E:Value->Shared->Prop}{a:List (Addr×Obj)}{s:Shared}{b:St}{H:Hp}{x:Str}{u:Value}{pos:Pos}{Q:Value->Shared->Prop}(I:Inv X a b H s)(d:Gl X x)(c:X.mg x=some u)(h:Q u s)
 (hd:(x==("__debug__":Str))=false:=by decide):wpAny (model X.prog X.w) X.A (eval (.Name x pos) X.env) Q E s:=
 Calls.Name_function_global I.ok.kind d (Calls.loadGlobal_global (by rw[I.ok.glob];exact I.mod.glob.keeps I.bk) c h) hd
theorem jT{E:Value->Shared->Prop}{a:List (Addr×Obj)}{s:Shared}{b:St}{H:Hp}{x:Str}{u:Value}{pos:Pos}{Q:Value->Shared->Prop}(I:Inv X a b H s)(f:Gl X x)(e:X.mg x=none)(c:bootBuiltins x=some u)(h:Q u s)
 (d:x≠"__name__":=by decide)(hd:(x==("__debug__":Str))=false:=by decide):wpAny (model X.prog X.w) X.A (eval (.Name x pos) X.env) Q E s:=by
 obtain⟨j,i,g⟩:=I.mod.blt;exact Calls.Name_function_global I.ok.kind f (Calls.loadGlobal_builtin (by rw[I.ok.glob];exact I.mod.glob.keeps I.bk) e (by rw[I.ok.blt];exact i.keeps I.bk) ((g x d).trans c) h) hd
theorem DH{x:Str}{v:V}{u:Value}{pos:Pos}(b:Gl X x)(a:X.mg x=some u)(r:RelV v u)(hd:(x==("__debug__":Str))=false:=by decide):PE X (.Name x pos) (tC v):=
 λ_ _ _ H _ I h=>qC I b a ⟨v,H,I,r,h⟩ hd
theorem DI{x:Str}{v:V}{u:Value}{pos:Pos}(d:Gl X x)(c:X.mg x=none)(a:bootBuiltins x=some u)(r:RelV v u)(b:x≠"__name__":=by decide)(hd:(x==("__debug__":Str))=false:=by decide):PE X (.Name x pos) (tC v):=
 λ_ _ _ H _ I h=>jT I d c a ⟨v,H,I,r,h⟩ b hd
variable{a b:Expr}{ta tb:TE}{pos:Pos}
noncomputable def tB(t:TE):TT:=λd H Q=>t d H λx e=>∃c,x=.bl c/\Q c e
theorem As{e:Expr}{t:TE}(h:PE X e t)(he:∀c,isTrue e X.env c=(do let v<-c;standAt e.pos;holding [v] (truthy v)):=by intro _;rfl):PT X e (tB t):=by intro f s g H Q I k;refine isTrue_plain (bq (h f s g H _ I k) λv n ⟨x,m,l,i,j⟩=>?_) (he _);obtain⟨d,rfl,q⟩:=j;cases i;exact Q1 ⟨m,l,q⟩
variable{tA Q6:TT}{rest:List Expr}
noncomputable def RN(t u:TT):TT:=λd H Q=>t d H λc e=>if c=true then u d e Q else Q false e
noncomputable def VM(t u:TT):TT:=λd H Q=>t d H λc e=>if c=true then Q true e else u d e Q
noncomputable def RO(t:TT):TT:=λd H Q=>t d H λc e=>Q (!c) e
theorem wg(g:PT X a tA):PW X (.BoolOp .And [a] pos) tA:=by
 intro i d s f H Q I h;refine isTrue_and (bq (g d s f H Q I h) λc j e=>?_);cases c with
 |true=>exact isTrue_and_nil e
 |false=>exact e
theorem Au(g:PT X a tA):PW X (.BoolOp .Or [a] pos) tA:=by
 intro i d s f H Q I h;refine isTrue_or (bq (g d s f H Q I h) λc j e=>?_);cases c with
 |false=>exact isTrue_or_nil e
 |true=>exact e
theorem Av(m:PT X a tA)(l:PW X (.BoolOp .And (b::rest) pos) Q6):PW X (.BoolOp .And (a::b::rest) pos) (RN tA Q6):=by
 intro j d s e H Q I h;refine isTrue_and (bq (m d s e H _ I h) λc k ⟨i,g,f⟩=>?_);cases c with
 |true=>exact l j d k e i Q g f
 |false=>exact⟨i,g,f⟩
theorem HM(m:PT X a tA)(l:PW X (.BoolOp .Or (b::rest) pos) Q6):PW X (.BoolOp .Or (a::b::rest) pos) (VM tA Q6):=by
 intro j d s e H Q I h;refine isTrue_or (bq (m d s e H _ I h) λc k ⟨i,g,f⟩=>?_);cases c with
 |true=>exact⟨i,g,f⟩
 |false=>exact l j d k e i Q g f
theorem Aw(f:PT X a tA):PT X (.UnaryOp .Not a pos) (RO tA):=by intro d s e H Q I h;exact isTrue_not (f d s e H (λc g=>Q (!c) g) I h)
noncomputable def Oo(ta tb:TE):TE:=λd H Q=>ta d H λx e=>∃c,x=.bl c/\if c=true then tb d e Q else Q (.bl false) e
noncomputable def RP(ta tb:TE):TE:=λd H Q=>ta d H λx e=>∃c,x=.bl c/\if c=true then Q (.bl true) e else tb d e Q
noncomputable def Oq(ta:TE):TE:=λd H Q=>ta d H λx e=>∃c,x=.bl c/\Q (.bl (!c)) e
theorem Ax{op}{t:TE}(h:PE X a t):PE X (.BoolOp op [a] pos) t:=λc s d H Q I e=>BoolOp_one (h c s d H Q I e)
theorem Jt(m:PE X a ta)(l:PE X (.BoolOp .And (b::rest) pos) tb):PE X (.BoolOp .And (a::b::rest) pos) (Oo ta tb):=by
 intro d s f H Q I h;refine BoolOp_and (bq (m d s f H _ I h) λv j ⟨x,i,g,k,e⟩=>?_);obtain⟨c,rfl,e⟩:=e;cases k;refine Q1 ?_;cases c with
 |true=>exact l d j f i Q g e
 |false=>exact⟨.bl false,i,g,rfl,e⟩
theorem Ot(m:PE X a ta)(l:PE X (.BoolOp .Or (b::rest) pos) tb):PE X (.BoolOp .Or (a::b::rest) pos) (RP ta tb):=by
 intro d s f H Q I h;refine BoolOp_or (bq (m d s f H _ I h) λv j ⟨x,i,g,k,e⟩=>?_);obtain⟨c,rfl,e⟩:=e;cases k;refine Q1 ?_;cases c with
 |false=>exact l d j f i Q g e
 |true=>exact⟨.bl true,i,g,rfl,e⟩
theorem Ju(i:PE X a ta):PE X (.UnaryOp .Not a pos) (Oq ta):=by intro d s f H Q I h;refine UnaryOp_ (bq (i d s f H _ I h) λv l ⟨x,k,j,g,e⟩=>?_);obtain⟨c,rfl,e⟩:=e;cases g;exact not_of (Q1 ⟨.bl (!c),k,j,rfl,e⟩)
noncomputable def VN(t:TT)(ta tb:TE):TE:=λd H Q=>t d H λc e=>if c=true then ta d e Q else tb d e Q
theorem Ay{c:Expr}(l:PT X c tA)(n:PE X a ta)(m:PE X b tb):PE X (.IfExp c a b pos) (VN tA ta tb):=by
 intro e s f H Q I h;refine wpAny_IfExp (bq (l e s f H _ I h) λd g ⟨k,j,i⟩=>?_);cases d with
 |true=>exact n e g f k Q j i
 |false=>exact m e g f k Q j i
end
noncomputable def iP(K:Frag)(H:Hp)(a:Addr)(c:List V):Prop:=
 Rd H a (.lst c)\/
  ∃(o:Obj)(b:Array Value)(n:Nat),K.lookup a=some o/\o.cls=.type "list"/\o.dict=none/\o.data=.seq b n/\b.size<=sizeLine/\Vals c b.toList
noncomputable def iK(K:Frag)(H:Hp)(a:Addr)(c:List V):Prop:=
 Rd H a (.tup c)\/
  ∃(o:Obj)(b:Array Value)(n:Nat),K.lookup a=some o/\o.cls=.type "tuple"/\o.data=.seq b n/\b.size<=sizeLine/\Vals c b.toList
noncomputable def RQ:Value->Option V
 |.none=>some .aI
 |.bool b=>some (.bl b)
 |.int i _=>some (.int i)
 |.str x _=>some (.str x)
 |.bytes b _=>some (.zW b)
 |.float b _=>some (.Jm b)
 |.ref a=>some (.ref a)
 |.type n=>some (.ty n)
 |_=>none
theorem RelV.abs{x:V}{u:Value}(r:RelV x u):RQ u=some x:=by
 cases x with
 |aI=>cases r;rfl
 |bl _=>cases r;rfl
 |int _=>obtain⟨t,rfl⟩:=r;rfl
 |str _=>obtain⟨t,rfl⟩:=r;rfl
 |zW _=>obtain⟨t,rfl⟩:=r;rfl
 |Jm _=>obtain⟨t,rfl⟩:=r;rfl
 |ref _=>cases r;rfl
 |ty _=>cases r;rfl
theorem RelV.inj{x y:V}{u:Value}(r:RelV x u)(q:RelV y u):x=y:=Hn (r.abs.symm.trans q.abs)
theorem Vals.inj:∀{b a:List V}{us:List Value},Vals b us->Vals a us->b=a
 |_,_,_,.nil,.nil=>rfl
 |_,_,_,.cons r t,.cons c t'=>by rw[r.inj c,Vals.inj t t']
section
variable{X:Cx}{pins:List (Addr×Obj)}{σ:St}{H:Hp}{s:Shared}{a:Addr}{xs ys:List V}
theorem iP.of{K:Frag}(h:H a=some (.lst xs)):iP K H a xs:=.inl (.inl h)
theorem iK.of{K:Frag}(h:H a=some (.tup xs)):iK K H a xs:=.inl (.inl h)
theorem Inv.list(I:Inv X pins σ H s)(h:iP X.K H a xs):∃b:List Value,Vals xs b/\PlainL s.heap a b.toArray/\xs.length<=sizeLine:=by
 rcases h with h|⟨o,b,n,d,f,hd,c,hz,r⟩
 .obtain⟨z,b,n,r,e⟩:=h.ok I.hok;exact⟨b,r,⟨_,n,e,rfl,rfl,rfl⟩,z⟩
 .refine⟨b.toList,r,⟨o,n,I.jQ a o d,f,hd,by simpa using c⟩,?_⟩;have e:=r.length;simp only[G1]at e;lia
theorem Inv.tuple(I:Inv X pins σ H s)(h:iK X.K H a xs):∃b:List Value,Vals xs b/\IsTup s.heap a b.toArray/\xs.length<=sizeLine:=by
 rcases h with h|⟨o,b,n,d,f,c,hz,r⟩
 .obtain⟨z,b,r,p⟩:=h.ok I.hok;exact⟨b,r,p,z⟩
 .refine⟨b.toList,r,⟨o,I.jQ a o d,f,n,by simpa using c⟩,?_⟩;have e:=r.length;simp only[G1]at e;lia
theorem Inv.Az(I:Inv X pins σ H s)(h:iP X.K H a xs)(h':iP X.K H a ys):xs=ys:=by
 obtain⟨c,r,⟨o,n,e,_,_,d⟩,_⟩:=I.list h;obtain⟨b,i,⟨j,k,f,_,_,g⟩,_⟩:=I.list h';rw[e]at f;cases f;rw[d]at g;injection g with d1 _;have:c=b:=by simpa using Ki UI d1
 subst this;exact r.inj i
theorem Inv.yj(I:Inv X pins σ H s)(h:iK X.K H a xs)(h':iK X.K H a ys):xs=ys:=by
 obtain⟨c,r,⟨o,e,_,n,d⟩,_⟩:=I.tuple h;obtain⟨b,i,⟨j,f,_,k,g⟩,_⟩:=I.tuple h';rw[e]at f;cases f;rw[d]at g;injection g with d1 _;have:c=b:=by simpa using Ki UI d1
 subst this;exact r.inj i
end
abbrev Cx.oR(X:Cx)(E:Value->Shared->Prop):Cx:={X with xe:=E}
abbrev Cx.kO(X:Cx):Cx:=X.oR λ_ _=>False
theorem Cx.Ok.oR{X:Cx}(a:X.Ok)(E:Value->Shared->Prop):(X.oR E).Ok:=
 ⟨a.mod,a.kind,a.glob,a.blt,a.above,a.inj,a.has,a.Oi,a.hd,a.frames,a.stk,a.RI,a.bs,a.DF,a.An,a.Ao,a.lC,a.Jq,a.tree,a.Q4⟩
theorem Cx.Ok.gH{X:Cx}{E:Value->Shared->Prop}(a:(X.oR E).Ok):X.Ok:=
 ⟨a.mod,a.kind,a.glob,a.blt,a.above,a.inj,a.has,a.Oi,a.hd,a.frames,a.stk,a.RI,a.bs,a.DF,a.An,a.Ao,a.lC,a.Jq,a.tree,a.Q4⟩
section
variable{X:Cx}{pins:List (Addr×Obj)}{σ:St}{H:Hp}{s:Shared}{E:Value->Shared->Prop}
theorem Inv.oR(I:Inv X pins σ H s)(E:Value->Shared->Prop):Inv (X.oR E) pins σ H s:=⟨I.ok.oR E,I.os,I.bare,I.base,I.loc,I.cell,I.free,I.gF,I.pin,I.hok,I.len⟩
theorem Inv.gH(I:Inv (X.oR E) pins σ H s):Inv X pins σ H s:=⟨I.ok.gH,I.os,I.bare,I.base,I.loc,I.cell,I.free,I.gF,I.pin,I.hok,I.len⟩
theorem SP.gH{D:Ends}{f:Flow}{s':Shared}(h:SP (X.oR E) pins D f s'):SP X pins D f s':=by
 cases f with
 |next=>obtain⟨a,b,I,q⟩:=h;exact⟨a,b,I.gH,q⟩
 |brk=>obtain⟨a,b,I,q⟩:=h;exact⟨a,b,I.gH,q⟩
 |cont=>obtain⟨a,b,I,q⟩:=h;exact⟨a,b,I.gH,q⟩
 |ret u=>obtain⟨v,a,b,I,r,q⟩:=h;exact⟨v,a,b,I.gH,r,q⟩
end
section
variable{X:Cx}{st:Stmt}{rest:List Stmt}{t u:TS}{e:Expr}{te:TE}{pos:Pos}
noncomputable def Ou:TS:=λD a H=>D.nx a H
noncomputable def RS(t u:TS):TS:=λD a H=>t {D with nx:=u D} a H
theorem DJ:sG X [] Ou:=λ_ _ a H _ I h=>wpAny_execs_nil ⟨a,H,I,h⟩
theorem jo(i:PS X st t)(g:sG X rest u):sG X (st::rest) (RS t u):=by
 intro a s c H D I h;refine wpAny_execs_cons (bq (i a s c H {D with nx:=u D} I h) λf d q=>?_);cases f with
 |next=>obtain⟨b,k,j,q⟩:=q;exact g a d b k D j q
 |ret v=>exact q
 |brk=>exact q
 |cont=>exact q
theorem qD(c:PS X st t):sG X [st] t:=by
 intro a s b H D I h;refine wpAny_execs_cons (bq (c a s b H D I h) λf d q=>?_);cases f with
 |next=>exact wpAny_execs_nil q
 |ret v=>exact q
 |brk=>exact q
 |cont=>exact q
noncomputable def Jv:TS:=λD a H=>D.bk a H
theorem AA:PS X (.Break pos) Jv:=λ_ _ a H _ I h=>wpAny_Break ⟨a,H,I,h⟩
theorem Inv.quiet{a:List (Addr×Obj)}{b:St}{H:Hp}{s:Shared}(I:Inv X a b H s):interactive X.env=false:=by simp[interactive,I.ok.kind]
noncomputable def mK(te:TE):TS:=λD a H=>te a H λ_ b=>D.nx a b
theorem ie(he:PE X e te)(d:swapsWith e none pos.line X.env=pure false:=by rfl):PS X (.Expr e pos) (mK te):=by intro a s b H D I h;exact wpAny_Expr_any (bq (he a s b H _ I h) λv i ⟨x,g,f,j,c⟩=>⟨b,g,f,c⟩) I.quiet d
noncomputable def RT(te:TE):TS:=λD a H=>te a H D.rt
theorem jU(he:PE X e te):PS X (.Return (some e) pos) (RT te):=by intro a s b H D I h;exact wpAny_Return_some (bq (he a s b H _ I h) λv i ⟨x,g,f,c,d⟩=>⟨x,b,g,f,c,d⟩)
noncomputable def Ov:TS:=λD _ H=>D.rt .aI H
theorem wj:PS X (.Return none pos) Ov:=λ_ _ a H _ I h=>wpAny_Return_none ⟨.aI,a,H,I,rfl,h⟩
noncomputable def RU(c:TT)(t u:TS):TS:=λD a H=>c a H λb d=>if b=true then t D a d else u D a d
theorem HN{c:Expr}{a b:List Stmt}{tc:TT}(m:PT X c tc)(o:sG X a t)(n:sG X b u):PS X (.If c a b pos) (RU tc t u):=by
 intro f s g H D I h;refine wpAny_If (bq (m f s g H _ I h) λd i ⟨l,k,j⟩=>?_);cases d with
 |true=>exact o f i g l D k j
 |false=>exact n f i g l D k j
end
abbrev TG:=V->St->Hp->(St->Hp->Prop)->Prop
abbrev HP:=List V->St->Hp->(St->Hp->Prop)->Prop
noncomputable def PG(X:Cx)(a:Expr)(t:TG):Prop:=
 ∀(b:List (Addr×Obj))(s:Shared)(d:St)(H:Hp)(v:V)(u:Value)(Q:St->Hp->Prop),Inv X b d H s->RelV v u->t v d H Q->
  wpAny (model X.prog X.w) X.A (assign a X.env u) (λ_ f=>∃c e,Inv X b c e f/\Q c e) X.xe s
noncomputable def Ow(X:Cx)(g:List Expr)(t:HP):Prop:=
 ∀(a:List (Addr×Obj))(s:Shared)(c:St)(H:Hp)(d:List V)(e:List Value)(Q:St->Hp->Prop),Inv X a c H s->Vals d e->t d c H Q->
  wpAny (model X.prog X.w) X.A (assignInOrder ((assignEach g X.env).map (·.2)) e) (λ_ h=>∃b f,Inv X a b f h/\Q b f) X.xe s
abbrev Jw:=V->V->V->Hp->(Hp->Prop)->Prop
noncomputable def Ox(X:Cx)(t:Jw):Prop:=
 ∀(a:List (Addr×Obj))(s:Shared)(b:St)(H:Hp)(o i v:V)(c d u:Value)(Q:Hp->Prop),Inv X a b H s->RelV o c->RelV i d->RelV v u->t o i v H Q->
  wpAny (model X.prog X.w) X.A (setItem c d u) (λ_ f=>∃e,Inv X a b e f/\Q e) X.xe s
section
variable{X:Cx}{pos:Pos}
noncomputable def fL(i:Nat):TG:=λv a H Q=>Q (a.set i (some v)) H
theorem DK{i:Nat}{x:Str}(e:X.N.Nodup)(c:X.N[i]?=some x)(b:Loc X.env.scope x)(d:X.fn x=true\/X.env.scope.names.lookup x=some .local:=by first|exact .inl rfl|exact .inr rfl|assumption):PG X (.Name x pos) (fL i):=by intro a s g H v u Q I r h;exact wpAny_assign_Name (dR I e c b r (λj f=>⟨_,H,f,h⟩) d)
noncomputable def Oz:HP:=λb a H Q=>b=[]/\Q a H
noncomputable def HQ(t:TG)(u:HP):HP:=λc b H Q=>∃v r,c=v::r/\t v b H λa d=>u r a d Q
theorem DM:Ow X [] Oz:=by intro a s b H c d Q I r h;obtain⟨e,h⟩:=h;subst e;cases r;exact assignInOrder_nil ⟨b,H,I,h⟩
theorem AB{e:Expr}{es:List Expr}{t:TG}{u:HP}(k:PG X e t)(j:Ow X es u)
 (i:(assignEach (e::es) X.env).map (·.2)=assign e X.env::(assignEach es X.env).map (·.2):=by rfl):Ow X (e::es) (HQ t u):=by
 intro a s c H o q Q I r h;obtain⟨v,p,l,h⟩:=h;subst l;cases r with
 |cons r f=>rw[i];refine T2 (bq (k a s c H _ _ _ I r h) λ_ d ⟨b,n,m,g⟩=>?_);exact j a d b n _ _ Q m f g
noncomputable def Jx(K:Frag)(n:Nat)(t:HP):TG:=λv c H Q=>∃a b,v=.ref a/\iK K H a b/\b.length=n/\t b c H Q
theorem Jy{es:List Expr}{k:Nat}{t:HP}{n:Nat}(x:X.calm=true)(h:Ow X es t)
 (q:(assignEach es X.env).length=n:=by rfl)(f:(assignEach es X.env).findIdx? (·.1)=none:=by rfl):PG X (.Tuple es k pos) (Jx X.K n t):=by
 intro c s g H v u Q I r d;obtain⟨a,i,z,p,w,d⟩:=d;subst z;cases r;obtain⟨j,rv,m,hz⟩:=I.tuple p;refine assign_Tuple_tuple (I.ok.hd x) m (by simp[q,<-w,rv.length]) f λy l=>?_;have A:Inv X c g H {s with heap:=y}:=I.kept (t':=s.toks) λb o e=>l b o (Jn (Fk e)) e;exact h c _ g H i _ Q A (by simpa using rv) d
noncomputable def OA(b ti:TE)(t:Jw):TG:=λv a H Q=>b a H λo e=>ti a e λi d=>t o i v d λc=>Q a c
theorem Jz{o i:Expr}{e ti:TE}{t:Jw}(p:PE X o e)(q:PE X i ti)(n:Ox X t)
 (w:∀v,assign (.Subscript o i pos) X.env v=(do
   let b<-holding [v] (eval o X.env)
   let c<-holding [v,b] (eval i X.env)
   standAt pos
   holding [v,b,c] (setItem b c v)
   release [v,b,c] []):=by intro _;rfl):PG X (.Subscript o i pos) (OA e ti t):=by
 intro a s d H v u Q I r h;rw[w];refine Bz (YH (bq (p a s d H _ I h) λb f ⟨x,E,B,j,m⟩=>?_));refine Bz (YH (bq (q a f d E _ B m) λc s2 ⟨y,D,A,g,l⟩=>?_));refine Bz (YG (Bz (YH (bq (n a s2 d D x y v b c u _ A j g r l) λ_ s3 ⟨C,z,k⟩=>?_))));exact wpAny_release ⟨d,C,z,k⟩
noncomputable def mL(te:TE)(g:TG):TS:=λD a H=>te a H λx b=>g x a b D.nx
theorem AD{tg e:Expr}{te:TE}{g:TG}(he:PE X e te)(k:PG X tg g)(j:swapsWithSole [tg] e pos.line X.env=pure false:=by rfl)(i:swappedStores [tg] e X.env=pure none:=by rfl)
 (l:(assignEach [tg] X.env).map (·.2)=[assign tg X.env]:=by rfl):PS X (.Assign [tg] e pos) (mL te g):=by
 intro a s b H D I h;refine wpAny_Assign_stores (bq (he a s b H _ I h) λv c ⟨x,n,m,d,f⟩=>?_) j i;rw[l];exact bq (k a c b n x v _ m d f) λ_ s2 q=>q
theorem qE{i:Nat}{x:Str}{e:Expr}{te:TE}{a:Pos}(m:X.N.Nodup)(k:X.N[i]?=some x)(g:Loc X.env.scope x)(he:PE X e te)(j:swapsWith e (some (.Name x a)) pos.line X.env=pure false:=by rfl)(l:X.fn x=true\/X.env.scope.names.lookup x=some .local:=by first|exact .inl rfl|exact .inr rfl|assumption):
 PS X (.Assign [.Name x a] e pos) (mL te (fL i)):=by
 intro b s c H D I h;refine wpAny_Assign_Name (bq (he b s c H _ I h) λv q ⟨y,p,o,d,f⟩=>?_) j;exact dR o m k g d (λs2 n=>⟨_,p,n,f⟩) l
noncomputable def RV(i j:Nat)(ta:TA):TS:=λD a H=>ta a H λb c=>∃v w,b=[v,w]/\D.nx ((a.set i (some v)).set j (some w)) c
theorem JA{i j:Nat}{x y:Str}{a b:Expr}{ta:TA}{n m r:Pos}{t k2 B}(Y:X.calm=true)(J:X.N.Nodup)(U:X.N[i]?=some x)(T:X.N[j]?=some y)(z:i≠j)
 (F:X.env.scope.names.lookup x=some .local)(E:X.env.scope.names.lookup y=some .local)(Z:PA X [a,b] ta)
 (R:swappedStores [.Tuple [.Name x n,.Name y m] t r] (.Tuple [a,b] k2 B) X.env=pure (some [x,y]))
 (S:swapsWithSole [.Tuple [.Name x n,.Name y m] t r] (.Tuple [a,b] k2 B) pos.line X.env=pure false:=by rfl):
 PS X (.Assign [.Tuple [.Name x n,.Name y m] t r] (.Tuple [a,b] k2 B) pos) (RV i j ta):=by
 intro c s C H D I h;rw[exec_Assign_arm];refine Bz (YG ?_);rw[S];refine Bz (GM ?_);rw[Bn (by decide)];refine Bz (Tuple_ (bq (Z _ c s C H _ I h) λM g ⟨vs,L,I1,O,l⟩=>?_));obtain⟨v,w,e1,l⟩:=l;subst e1;obtain⟨f,d,rfl,rv,k⟩:∃f d,M=[f,d]/\RelV v f/\RelV w d:=by
  cases O with
  |cons p q=>
   cases q with
   |cons Q P=>
    cases P;exact⟨_,_,rfl,p,Q⟩
 refine QP ?_ (by show 2<=sizeLine;decide);have I2:Inv X c C L {g with heap:=g.heap.push {cls:=.type "tuple",data:=.seq [f,d].toArray}}:=I1.kept (t':=g.toks) λb o e=>Da _ e;rw[R];refine Bz (GM ?_);show wpAny (model X.prog X.w) X.A (do rule "assign.swapped-stores";let items<-unpackItems (.ref g.heap.objs.size) 2 none;assignInOrder [λv=>bindName X.env y v,λv=>bindName X.env x v] items.reverse;pure Flow.next) _ _ _;refine Bz (wpAny_rule (Bz (unpackItems_tuple (items:= #[f,d]) (I.ok.hd Y) (IsTup.new g.heap _) λh' u=>?_)));have I3:=I2.kept (h':=h') (t':=g.toks) λb o e=>u b o (Jn (Fk e)) e;show wpAny _ _ (assignInOrder [λv=>bindName X.env y v,λv=>bindName X.env x v] [d,f]>>=λ_=>pure Flow.next) _ _ _;refine Bz (T2 (Y7 (dR I3 J T (.inl E) k (λs2 I4=>?_) (.inr E))));refine T2 (Y7 (dR I4 J U (.inl F) rv (λs3 K=>assignInOrder_nil (GM ?_)) (.inr F)));rw[M4 _ _ (On z)]at K;exact⟨_,L,K,l⟩
noncomputable def JB(c:TT)(h:TS):TS:=λD a H=>∃W:Nat->St->Hp->Prop,(∃m,W m a H)/\∀m a H,W m a H->
 c a H λb f=>if b=true then∃N:St->Hp->Prop,(∀d g,N d g->∃e,e<m/\W e d g)/\h {D with nx:=N,ct:=N,bk:=D.nx} a f else D.nx a f
theorem sH{c:Expr}{g:List Stmt}{tc:TT}{u:TS}(x:PassesOwn (model X.prog X.w) X.A X.env X.xe)(P:PT X c tc)(Q:sG X g u):PS X (.While c g [] pos) (JB tc u):=by
 intro d s F H D I h;obtain⟨W,⟨O,K⟩,j⟩:=h;refine wpAny_While (codeAny_whileLoop (λn M=>∃i E,Inv X d i E M/\W n i E) ?_ O ⟨F,H,I,K⟩);rintro n L ⟨e,C,R,J⟩;refine SL x (bq (P d L e C _ R (j n e C J)) λb s2 ⟨B,z,m⟩=>?_);cases b with
 |true=>
  obtain⟨N,y,m⟩:=m;rw[Do rfl];refine SL x (bq (Q d s2 e B _ z m) λf s3 l=>?_);cases f with
  |next=>obtain⟨a,k,t,p⟩:=l;obtain⟨q,r,o⟩:=y a k p;exact⟨q,r,a,k,t,o⟩
  |cont=>obtain⟨a,k,t,p⟩:=l;obtain⟨q,r,o⟩:=y a k p;exact⟨q,r,a,k,t,o⟩
  |brk=>exact l
  |ret v=>exact l
 |false=>rw[Bn Fs];exact wpAny_execs_nil ⟨e,B,z,m⟩
end
set_option genInjectivity false in
set_option genSizeOf false in
structure It where
 go:Nat->Hp->Prop
 OB:Nat->Hp->V->Hp->Prop
 stop:Nat->Hp->Prop
noncomputable def oS(X:Cx)(a:List (Addr×Obj))(H:Hp)(b:Addr):Prop:=
 H b=none/\b≠X.env.locals/\b∉X.fs/\(b∈X.ex\/X.s₀.heap.objs.size<=b)/\(∀x c,X.env.cells.lookup x=some c->c≠b)/\∀p∈X.pn++a,p.1≠b
theorem Inv.DN{X:Cx}{a:List (Addr×Obj)}{f:St}{H H':Hp}{s:Shared}{b:Addr}(I:Inv X a f H s)(d:s.heap.objs.size<=b)(h:H' b=none):oS X a H' b:=by
 refine⟨h,Nz (FR I.lt d),I.RJ d,.inr (GE I.sz d),λx c e z=>?_,λp g z=>?_⟩
 .obtain⟨v,q⟩:=I.cell x c e;exact absurd (FR q.lt (by rw[z];exact d)) (Pm _)
 .exact absurd (FR (Fk (I.pin p g).1) (by rw[z];exact d)) (Pm _)
structure Turn(P:Program)(w:World)(K:Frag)(tg:Expr)(J:It)(fp:List Addr)(it:Addr)(tn:Nat->Heap->Prop):Prop where
 mem:it∈fp
 obj:∀i h,tn i h->∀b∈fp,∃o,h.get? b=some o/\∀v,o.data≠.cell v
 keep:∀i h h',tn i h->(∀b∈fp,∀o,h.get? b=some o->h'.get? b=some o)->tn i h'
 item:∀(X:Cx),X.prog=P->X.w=w->X.K=K->X.calm=true->∀(i:Nat)(pins:List (Addr×Obj))(s:Shared)(σ:St)(H:Hp)(E:Value->Shared->Prop),Inv X pins σ H s->(∀b∈fp,oS X pins H b)->tn i s.heap->J.go i H->
  wpAny (model P w) X.A (pyNext (.ref it)) (λr s1=>∃u,r=some u/\
   wpAny (model P w) X.A (letOwnedTupleGo tg (.ref it) u) (λ_ s2=>∃x H',Inv X pins σ H' s2/\RelV x u/\J.OB i H x H'/\tn (i+1) s2.heap/\∀b∈fp,H' b=none) E s1) E s
 done:∀(X:Cx),X.prog=P->X.w=w->X.K=K->X.calm=true->∀(i:Nat)(pins:List (Addr×Obj))(s:Shared)(σ:St)(H:Hp)(E:Value->Shared->Prop),Inv X pins σ H s->(∀b∈fp,oS X pins H b)->tn i s.heap->J.stop i H->
  wpAny (model P w) X.A (pyNext (.ref it)) (λr s1=>r=none/\Inv X pins σ H s1) E s
 self:∀(A:Around)(i:Nat)(s:Shared)(Q:Value->Shared->Prop)(E:Value->Shared->Prop),tn i s.heap->Q (.ref it) s->wpAny (model P w) A (pyIter (.ref it)) Q E s
abbrev TI:=St->Hp->(It->Hp->Prop)->Prop
noncomputable def RW(X:Cx)(a:List (Addr×Obj))(h:St)(tg:Expr)(R:It->Hp->Prop)(c:Value)(s2:Shared):Prop:=
 ∃(f:Addr)(g:List Addr)(e:Nat->Heap->Prop)(J:It)(d:Hp),c=.ref f/\Inv X a h d s2/\Turn X.prog X.w X.K tg J g f e/\e 0 s2.heap/\(∀b∈g,oS X a d b)/\R J d
noncomputable def PI(X:Cx)(tg b:Expr)(d:TI):Prop:=
 ∀(a:List (Addr×Obj))(s:Shared)(c:St)(H:Hp)(R:It->Hp->Prop),Inv X a c H s->d c H R->
  wpAny (model X.prog X.w) X.A (eval b X.env) (λv e=>wpAny (model X.prog X.w) X.A (pyIter v) (RW X a c tg R) X.xe e) X.xe s
theorem wk{M:Model}{A:Around}{E:Value->Shared->Prop}{s:Shared}{tg:Expr}{b:Addr}{u:Value}{o:Obj}{n:String}{vs:Array Value}{Q:Unit->Shared->Prop}(c:s.heap.get? b=some o)(e:o.cls=.type n)(hd:o.data=.fields vs)
 (d:["enumerate","zip","dict_itemiterator","dict_reverseitemiterator","odict_iterator","itertools.zip_longest","itertools.pairwise"].contains n=false)(a:Q () s):wpAny M A (letOwnedTupleGo tg (.ref b) u) Q E s:=by
 unfold letOwnedTupleGo;cases tg<;>first
  |exact GM a
  |(cases u<;>first
     |exact GM a
     |(refine Bz (wpAny_load c ?_)
       rw[e,hd];show wpAny M A (if(["enumerate","zip","dict_itemiterator","dict_reverseitemiterator","odict_iterator","itertools.zip_longest","itertools.pairwise"].contains n&&vs[0]?==some (rawInt _))=true then _ else _) Q E s;rw[Bn (by intro h;rw[d,Bool.false_and]at h;cases h)];exact GM a))
noncomputable def RX(K:Frag)(a:Addr):It:=
 ⟨λi H=>∃b x,iP K H a b/\b[i]?=some x,λi H x c=>c=H/\∀b,iP K H a b->b[i]?=some x,λi H=>∃b,iP K H a b/\b.length<=i⟩
noncomputable def RY(K:Frag)(a:Addr):It:=
 ⟨λi H=>∃b x,iK K H a b/\b[i]?=some x,λi H x c=>c=H/\∀b,iK K H a b->b[i]?=some x,λi H=>∃b,iK K H a b/\b.length<=i⟩
noncomputable def OC(a:Int)(n:Nat):It:=⟨λi _=>i<n,λi H x b=>b=H/\x=.int (a+i),λi _=>n<=i⟩
theorem yk{P:Program}{w:World}{K:Frag}{tg:Expr}(a j:Addr):Turn P w K tg (RX K a) [j] j (λi h=>h.IsListIter j a i)where
 mem:=by simp
 obj:=λi h f b l=>by
  have e:b=j:=by simpa using l
  subst e;obtain⟨o,e,c,d⟩:=f;exact⟨o,e,λv z=>by rw[d]at z;cases z⟩
 keep:=λi h r f k=>f.at λo e=>k j (by simp) o e
 item:=by intro X C A D Q i g s O H E I q f B;subst C A D;obtain⟨R,x,n,y⟩:=B;obtain⟨t,rv,p,hz⟩:=I.list n;obtain⟨u,Y,T⟩:=rv.get y;obtain⟨N,M,Z,L,J,F⟩:=q j (by simp);refine wpAny_pyNext_list_item f p.isList (x:=u) (by simpa using Y) λr m S=>?_;have I1:Inv X g O H {s with heap:=r}:=I.turned (t':=s.toks) (λb o l e=>(S.2 b l).trans e) N M L J F;obtain⟨o,e,c,d⟩:=id m;exact⟨u,rfl,wk (s:={s with heap:=r}) e c d (by decide) ⟨x,H,I1,T,⟨rfl,λys U=>by rw[I.Az U n];exact y⟩,m,λb l=>(q b l).1⟩⟩
 done:=by intro X C A D Q i g s O H E I q f B;subst C A D;obtain⟨R,n,y⟩:=B;obtain⟨t,rv,p,hz⟩:=I.list n;obtain⟨N,M,Z,L,J,F⟩:=q j (by simp);have hl:=rv.length;exact wpAny_pyNext_list_end (I.ok.hd Q) f p.isList (by simp;lia) λr eb=>⟨rfl,I.turned (t':=s.toks) (λb o l e=>eb b o l e) N M L J F⟩
 self:=λ_ _ _ _ _ f h=>wpAny_pyIter_listiter f h
theorem uP{P:Program}{w:World}{K:Frag}{tg:Expr}(a l:Addr):Turn P w K tg (RY K a) [l] l (λi h=>h.IsTupleIter l a i)where
 mem:=by simp
 obj:=λi h f b m=>by
  have e:b=l:=by simpa using m
  subst e;obtain⟨o,e,c,d⟩:=f;exact⟨o,e,λv z=>by rw[d]at z;cases z⟩
 keep:=λi h t f k=>f.at λo e=>k l (by simp) o e
 item:=by intro X C A D Q i g s O H E I r f B;subst C A D;obtain⟨R,x,q,y⟩:=B;obtain⟨j,rv,p,hz⟩:=I.tuple q;obtain⟨u,Y,T⟩:=rv.get y;obtain⟨N,M,Z,L,J,F⟩:=r l (by simp);refine wpAny_pyNext_tuple_item f (show s.heap.IsTuple a j.toArray from p) (x:=u) (by simpa using Y) λt n S=>?_;have I1:Inv X g O H {s with heap:=t}:=I.turned (t':=s.toks) (λb o m e=>(S.2 b m).trans e) N M L J F;obtain⟨o,e,c,d⟩:=id n;exact⟨u,rfl,wk (s:={s with heap:=t}) e c d (by decide) ⟨x,H,I1,T,⟨rfl,λys U=>by rw[I.yj U q];exact y⟩,n,λb m=>(r b m).1⟩⟩
 done:=by intro X C A D Q i g s O H E I r f B;subst C A D;obtain⟨R,q,y⟩:=B;obtain⟨j,rv,p,hz⟩:=I.tuple q;obtain⟨N,M,Z,L,J,F⟩:=r l (by simp);have hl:=rv.length;exact wpAny_pyNext_tuple_end (I.ok.hd Q) f (show s.heap.IsTuple a j.toArray from p) (by simp;lia) λt eb=>⟨rfl,I.turned (t':=s.toks) (λb o m e=>eb b o m e) N M L J F⟩
 self:=λ_ _ _ _ _ f h=>wpAny_pyIter_tupleiter f h
theorem uQ{P:Program}{w:World}{K:Frag}{tg:Expr}(d:Addr)(j:Int)(n:Nat):Turn P w K tg (OC j n) [d] d (λi h=>IsRangeIter h d (j+(i:Nat)*1) ((n:Int) -(i:Nat)) 1)where
 mem:=by simp
 obj:=λi h a b f=>by
  have e:b=d:=by simpa using f
  subst e;exact⟨_,a,λv z=>by have L:Data.fields _=Data.cell v:=z;cases L⟩
 keep:=λi h m a k=>k d (by simp) _ a
 item:=by intro X u p x r i c s F H E I l a q;subst u p x;obtain⟨D,C,O,B,A,y⟩:=l d (by simp);have W:=Walks.range (prog:=X.prog) (w:=X.w) (I.ok.hd r) d j 1 n;refine W.item i s _ _ q a λv m J N g M=>?_;obtain⟨t,rfl⟩:=N;have R:Inv X c F H {s with heap:=m,toks:=J}:=I.turned (λb o f e=>M b o (by simpa using f) e) D C B A y;refine⟨_,rfl,wk (s:={s with heap:=m,toks:=J}) (n:="range_iterator") g rfl rfl (by decide) ⟨.int (j+i),H,R,⟨t,?_⟩,⟨rfl,rfl⟩,g,λb f=>(l b f).1⟩⟩;rw[VF]
 done:=by intro X u p x r i c s F H E I l a q;subst u p x;obtain⟨D,C,O,B,A,y⟩:=l d (by simp);exact wpAny_pyNext_range_end (I.ok.hd r) a (by have:n<=i:=q;lia) λm Q=>⟨rfl,I.turned (t':=s.toks) (λb o f e=>Q b o f e) D C B A y⟩
 self:=λ_ _ _ _ _ a h=>wpAny_pyIter_rangeiter a h
section
variable{X:Cx}{tg:Expr}
theorem sI{d:List (Addr×Obj)}{f:St}{H:Hp}{s:Shared}{R:It->Hp->Prop}{E:Value->Shared->Prop}{a c:Int}{t u v:Tok}{g:Nat}(I:Inv X d f H s)(m: -(2^62)<=a)(l:a<2^62)(k: -(2^62)<=c)(j:c<2^62)
 (q:R (OC a (c -a).toNat) H):wpAny (model X.prog X.w) X.A (pyIter (.ref s.heap.objs.size)) (RW X d f tg R) E {s with heap:=s.heap.push {cls:=.type "range",data:=.fields #[.int a t,.int c u,.int 1 v]},toks:=g}:=by
 refine wpAny_pyIter_range (IsRange.new ..) (small_one m l k j) ?_;have h:Inv X d f H {s with heap:=s.heap.push {cls:=.type "range",data:=.fields #[.int a t,.int c u,.int 1 v]},toks:=g}:=I.kept λb o e=>Da _ e;refine⟨(s.heap.push {cls:=.type "range",data:=.fields #[.int a t,.int c u,.int 1 v]}).objs.size,[(s.heap.push {cls:=.type "range",data:=.fields #[.int a t,.int c u,.int 1 v]}).objs.size],_,_,H,rfl,
  h.kept (t':=g) λb o e=>Da _ e,uQ _ a (c -a).toNat,?_,λb i=>?_,q⟩
 .have p:a+((0:Nat):Int)*1=a:=by simp
  have n:(((c -a).toNat:Nat):Int) -((0:Nat):Int)=Builtin.Range.rangeSize a c 1:=by rw[rangeSize_one];split<;>lia
  show IsRangeIter _ _ (a+((0:Nat):Int)*1) ((((c -a).toNat:Nat):Int) -((0:Nat):Int)) 1;rw[p,n];exact Hk _ rfl
 .have e:b=(s.heap.push {cls:=.type "range",data:=.fields #[.int a t,.int c u,.int 1 v]}).objs.size:=by simpa using i
  subst e;exact h.DN (DL _) (h.hok.fresh (DL _))
noncomputable def OD(ta:TA):TI:=λa H R=>ta a H λb c=>∃j:Int,b=[.int j]/\-(2^62)<=j/\j<2^62/\R (OC 0 j.toNat) c
noncomputable def OE(ta:TA):TI:=λa H R=>ta a H λb c=>∃i j:Int,b=[.int i,.int j]/\(-(2^62)<=i/\i<2^62/\-(2^62)<=j/\j<2^62)/\R (OC i (j -i).toNat) c
theorem ym{a:Expr}{ta:TA}{p pos:Pos}(m:Gl X "range")(l:X.mg "range"=none)(n:PA X [a] ta)(k:starEach [a] X.env=[(false,eval a X.env)]:=by rfl):PI X tg (.Call (.Name "range" p) [a] [] pos) (OD ta):=by
 intro b s d H R I h;refine Call_ (jT I m l boot_range (SF (bq (n pos b s d H _ I h) λv w ⟨u,x,o,g,c⟩=>?_) k rfl));obtain⟨j,e,c,i,q⟩:=c;subst e;cases g with
 |cons r f=>
  cases f;obtain⟨t,rfl⟩:=r;exact call_range_1 (sI o (by lia) (by lia) c i (by simpa using q))
theorem yo{a b:Expr}{ta:TA}{p pos:Pos}(x:Gl X "range")(w:X.mg "range"=none)(y:PA X [a,b] ta)(v:starEach [a,b] X.env=[(false,eval a X.env),(false,eval b X.env)]:=by rfl)(d:starEach [b] X.env=[(false,eval b X.env)]:=by rfl):
 PI X tg (.Call (.Name "range" p) [a,b] [] pos) (OE ta):=by
 intro c s k H R I h;refine Call_ (jT I x w boot_range (SF (bq (y pos c s k H _ I h) λB D ⟨A,E,z,l,g⟩=>?_) (by rw[v,d]) (by rw[d];rfl)));obtain⟨i,j,e,⟨g,u,o,n⟩,q⟩:=g;subst e;cases l with
 |cons r f=>
  cases f with
  |cons m f=>
   cases f;obtain⟨t,rfl⟩:=r;obtain⟨C,rfl⟩:=m;exact call_range_2 (sI z g u o n q)
noncomputable def RZ(f:TI)(g:TG)(h:TS):TS:=λD a H=>f a H λJ k=>∃W:Nat->Nat->St->Hp->Prop,(∃m,W 0 m a k)/\∀i m a H,W i m a H->
 (J.stop i H/\D.nx a H)\/(J.go i H/\∃N:St->Hp->Prop,(∀b c,N b c->∃e,e<m/\W (i+1) e b c)/\∀x c,J.OB i H x c->g x a c λd j=>h {D with nx:=N,ct:=N,bk:=D.nx} d j)
noncomputable def mO(a:List Addr)(h:Heap):List (Addr×Obj):=a.filterMap λb=>(h.get? b).map λo=>(b,o)
theorem gc{a:List Addr}{h:Heap}{b:Addr}{o:Obj}(c:b∈a)(e:h.get? b=some o):(b,o)∈mO a h:=N2.mpr ⟨b,c,by rw[e];rfl⟩
theorem yp{a:List Addr}{h:Heap}{p:Addr×Obj}(c:p∈mO a h):p.1∈a/\h.get? p.1=some p.2:=by
 obtain⟨b,d,e⟩:=N2.mp c;cases q:h.get? b with
 |none=>rw[q]at e;cases e
 |some o=>rw[q]at e;have f:(b,o)=p:=Hn e;subst f;exact⟨d,q⟩
theorem Inv.pinned{a:List (Addr×Obj)}{f:St}{H:Hp}{s:Shared}{c:List Addr}(I:Inv X a f H s)(k:∀b∈c,oS X a H b)(j:∀b∈c,∃o,s.heap.get? b=some o/\∀v,o.data≠.cell v):Inv X (a++mO c s.heap) f H s:=
 I.we λp i=>(FV.mp i).elim (λz=>I.pin p (FK _ z)) λz=>by obtain⟨g,e⟩:=yp z;obtain⟨n,m,l,_⟩:=k p.1 g;obtain⟨o,h,d⟩:=j p.1 g;rw[e]at h;cases h;exact⟨e,n,m,l,d⟩
theorem Inv.jq{a pl:List (Addr×Obj)}{b:St}{H:Hp}{s:Shared}(I:Inv X (a++pl) b H s):Inv X a b H s:=I.we λp c=>I.pin p (FK _ (Gc _ c))
theorem JC{k:Expr}{C:List Stmt}{Z:TI}{g:TG}{tb:TS}{pos:Pos}(M:PassesOwn (model X.prog X.w) X.A X.env X.xe)(hc:X.calm=true)(hi:PI X tg k Z)(hg:PG X tg g)(l:sG X C tb)
 (hs:∀x,foldedSetIterable k X.env x=pure x:=by intro _;rfl):PS X (.For tg k C [] pos) (RZ Z g tb):=by
 intro a s Y H D I h;refine wpAny_For (bq (hi a s Y H _ I h) λv s1 h1=>bq h1 λitv s2 h2=>?_) hs;obtain⟨it,O,tn,J,H2,e,I2,T,st2,f2,W,⟨m0,w0⟩,E⟩:=h2;subst e;have U:∀{z:Hp},(∀b∈O,z b=none)->∀b∈O,oS X a z b:=λhn b l=>⟨hn b l,(f2 b l).2⟩;refine codeAny_forLoop_any (λn s'=>∃i j z,Inv X a j z s'/\tn i s'.heap/\(∀b∈O,z b=none)/\W i n j z) ?_ m0 ⟨0,Y,H2,I2,st2,λb l=>(f2 b l).1,w0⟩;rintro n s3 ⟨i,c,P,I3,st3,UG,w3⟩;rcases E i n c P w3 with⟨F,qn⟩|⟨go,N,hN,K⟩
 .refine SL M (bq (T.done X rfl rfl rfl hc i a s3 c P X.xe I3 (U UG) st3 F) λr s4 ⟨R,I4⟩=>?_);subst R;exact wpAny_execs_nil ⟨c,P,I4,qn⟩
 .refine SL M (bq (T.item X rfl rfl rfl hc i a s3 c P X.xe I3 (U UG) st3 go) λr s4 ⟨u,R,h4⟩=>?_);subst R;refine SL M (bq h4 λ_ s5 ⟨x,H5,I5,r5,y5,S,Q7⟩=>?_);have VO:=I5.pinned (U Q7) (T.obj _ _ S);refine SL M (bq (hg _ s5 c H5 x u _ VO r5 (K x H5 y5)) λ_ s6 ⟨VQ,H6,I6,q6⟩=>?_);refine SL M (bq (l _ s6 VQ H6 _ I6 q6) λf Q B=>?_);have p:∀{y:St}{t:Hp},Inv X (a++mO O s5.heap) y t Q->N y t->∃m,m<n/\∃i j z,Inv X a j z Q/\tn i Q.heap/\(∀b∈O,z b=none)/\W i m j z:=λ{y t} q L=>by obtain⟨m',hm,w7⟩:=hN y t L;refine⟨m',hm,i+1,y,t,q.jq,T.keep _ _ _ S λb l o e=>(q.pin (b,o) (FK _ (FK _ (gc l e)))).1,λb l=>?_,w7⟩;obtain⟨o,e,d⟩:=T.obj _ _ S b l;exact(q.pin (b,o) (FK _ (FK _ (gc l e)))).2.1
  cases f with
  |next=>obtain⟨y,t,q,L⟩:=B;exact p q L
  |cont=>obtain⟨y,t,q,L⟩:=B;exact p q L
  |brk=>obtain⟨y,t,q,B⟩:=B;exact⟨y,t,q.jq,B⟩
  |ret v=>obtain⟨x7,y,t,q,r7,B⟩:=B;exact⟨x7,y,t,q.jq,r7,B⟩
end
abbrev R2:=V->V->Hp->VK->Prop
noncomputable def jj(X:Cx)(f:Value->Value->Sem Value)(r:R2):Prop:=
 ∀(a:List (Addr×Obj))(s:Shared)(b:St)(H:Hp)(x y:V)(v u:Value)(Q:VK),Inv X a b H s->RelV x v->RelV y u->r x y H Q->
  wpAny (model X.prog X.w) X.A (f v u) (EP X a b Q) X.xe s
noncomputable def R0(X:Cx)(f:Value->Sem Value)(r:V->Hp->VK->Prop):Prop:=
 ∀(a:List (Addr×Obj))(s:Shared)(b:St)(H:Hp)(x:V)(v:Value)(Q:VK),Inv X a b H s->RelV x v->r x H Q->
  wpAny (model X.prog X.w) X.A (f v) (EP X a b Q) X.xe s
noncomputable def bE(X:Cx)(f:Value)(r:List V->Hp->VK->Prop):Prop:=
 ∀(a:List (Addr×Obj))(s:Shared)(b:St)(H:Hp)(c:List V)(d:List Value)(Q:VK),Inv X a b H s->Vals c d->r c H Q->
  wpAny (model X.prog X.w) X.A (call f d) (EP X a b Q) X.xe s
noncomputable def VR(r:R2)(ta b:TE):TE:=λa H Q=>ta a H λx d=>b a d λy c=>r x y c Q
noncomputable def VU(r:V->Hp->VK->Prop)(ta:TE):TE:=λa H Q=>ta a H λx b=>r x b Q
noncomputable def rI(C:Int->Int->Prop)(g:Int->Int->V):R2:=λx y H Q=>∃i j,x=.int i/\y=.int j/\C i j/\Q (g i j) H
noncomputable def DO(g:Int->Int->V):R2:=λx y H Q=>∃i j,x=.int i/\y=.int j/\Q (g i j) H
noncomputable def rU(g:Int->V):V->Hp->VK->Prop:=λx H Q=>∃i,x=.int i/\Q (g i) H
section
variable{X:Cx}{a b c:Expr}{ta tb tc:TE}{pos:Pos}
theorem R1(r:PE X a ta)(q:PE X b tb){d:List (Addr×Obj)}{s:Shared}{e:St}{H:Hp}{R:V->V->Hp->Prop}(I:Inv X d e H s)
 (h:ta e H λx H1=>tb e H1 λy g=>R x y g){Q:Value->Shared->Prop}{f:Value->Value->Sem Value}
 (p:∀v u s2 x y g,Inv X d e g s2->RelV x v->RelV y u->R x y g->wpAny (model X.prog X.w) X.A (f v u) Q X.xe s2):
 wpAny (model X.prog X.w) X.A (eval a X.env) (λv j=>wpAny (model X.prog X.w) X.A (eval b X.env) (λu i=>wpAny (model X.prog X.w) X.A (f v u) Q X.xe i) X.xe j) X.xe s:=by
 refine bq (r d s e H _ I h) λv k ⟨x,H1,z,m,o⟩=>?_;refine bq (q d k e H1 _ z o) λu s2 ⟨y,g,t,l,n⟩=>?_;exact p v u s2 x y g t m l n
theorem OG{op:UnaryOp}{r:V->Hp->VK->Prop}(j:R0 X (unaryOp op) r)(k:PE X a ta):PE X (.UnaryOp op a pos) (VU r ta):=by intro d s e H Q I h;exact UnaryOp_ (bq (k d s e H _ I h) λv f ⟨x,m,l,g,i⟩=>j d f e m x v Q l g i)
theorem OH{f:Value->Value->Sem Value}{C:Int->Int->Prop}{g:Int->Int->Int}
 (d:∀(i j:Int)(t u:Tok)(s:Shared)(Q:Value->Shared->Prop)(E:Value->Shared->Prop),C i j->Q (.int (g i j) s.toks) {s with toks:=s.toks+1}->wpAny (model X.prog X.w) X.A (f (.int i t) (.int j u)) Q E s):
 jj X f (rI C λi j=>.int (g i j)):=by
 intro e s o H x y v u Q I m l h;obtain⟨i,j,rfl,rfl,n,q⟩:=h;obtain⟨t,rfl⟩:=m;obtain⟨k,rfl⟩:=l;exact d i j t k s _ _ n ⟨.int (g i j),H,I.tok _,⟨_,rfl⟩,q⟩
theorem OI{f:Value->Value->Sem Value}{g:Int->Int->Int}
 (d:∀(i j:Int)(t u:Tok)(s:Shared)(Q:Value->Shared->Prop)(E:Value->Shared->Prop),Q (.int (g i j) s.toks) {s with toks:=s.toks+1}->wpAny (model X.prog X.w) X.A (f (.int i t) (.int j u)) Q E s):
 jj X f (DO λi j=>.int (g i j)):=by
 intro e s n H x y v u Q I m l h;obtain⟨i,j,rfl,rfl,q⟩:=h;obtain⟨t,rfl⟩:=m;obtain⟨k,rfl⟩:=l;exact d i j t k s _ _ ⟨.int (g i j),H,I.tok _,⟨_,rfl⟩,q⟩
theorem DP{f:Value->Value->Sem Value}{g:Int->Int->Bool}
 (d:∀(i j:Int)(t u:Tok)(s:Shared)(Q:Value->Shared->Prop)(E:Value->Shared->Prop),Q (.bool (g i j)) s->wpAny (model X.prog X.w) X.A (f (.int i t) (.int j u)) Q E s):
 jj X f (DO λi j=>.bl (g i j)):=by
 intro e s n H x y v u Q I m l h;obtain⟨i,j,rfl,rfl,q⟩:=h;obtain⟨t,rfl⟩:=m;obtain⟨k,rfl⟩:=l;exact d i j t k s _ _ ⟨.bl (g i j),H,I,rfl,q⟩
noncomputable def R3(i j:Int):Prop:=0<j/\j<1073741824
noncomputable def uR(i j:Int):Prop:=0<=j/\j<=1000000/\i.natAbs<2^64
theorem uS(k:Nat):(0:Int)<=2^k:=by rw[two_pow_cast];exact Int.natCast_nonneg _
theorem JE:jj X (binaryOp .Add) (DO λi j=>.int (i+j)):=OI λ_ _ _ _ _ _ _ q=>add_int q
theorem JF:jj X (binaryOp .Sub) (DO λi j=>.int (i -j)):=OI λ_ _ _ _ _ _ _ q=>sub_int q
theorem DQ:jj X (binaryOp .Mod) (rI (λ_ j=>j≠0) λi j=>.int (i.fmod j)):=OH λ_ _ _ _ _ _ _ d q=>mod_int' d q
theorem JG:jj X (binaryOp .Pow) (rI uR λi j=>.int (i^j.toNat)):=OH λ_ _ _ _ _ _ _ d q=>pow_int_small d.1 d.2.1 d.2.2 q
theorem JH:jj X (binaryOp .LShift) (rI uR λi j=>.int (i*2^j.toNat)):=OH λ_ _ _ _ _ _ _ d q=>lshift_int_small d.1 d.2.1 d.2.2 q
theorem JI:jj X (binaryOp .RShift) (rI (λ_ j=>0<=j) λi j=>.int (i/2^j.toNat)):=OH λi j _ _ _ _ _ d q=>rshift_int d (by rw[SZ i (uS _)];exact q)
theorem VW{f:Value->Sem Value}{g:Int->Int}
 (d:∀(i:Int)(t:Tok)(s:Shared)(Q:Value->Shared->Prop)(E:Value->Shared->Prop),Q (.int (g i) s.toks) {s with toks:=s.toks+1}->wpAny (model X.prog X.w) X.A (f (.int i t)) Q E s):
 R0 X f (rU λi=>.int (g i)):=by
 intro e s k H x v Q I j h;obtain⟨i,rfl,q⟩:=h;obtain⟨t,rfl⟩:=j;exact d i t s _ _ ⟨.int (g i),H,I.tok _,⟨_,rfl⟩,q⟩
theorem JJ:R0 X (unaryOp .USub) (rU λi=>.int (-i)):=VW λ_ _ _ _ _ q=>neg_int q
end
noncomputable def JK:V->V->Bool
 |.aI,.aI=>true|.aI,.int _=>true|.int _,.aI=>true|.aI,.bl _=>true|.bl _,.aI=>true|.aI,.str _=>true|.str _,.aI=>true
 |.int _,.int _=>true|.bl _,.bl _=>true|.str _,.str _=>true|.zW _,.zW _=>true
 |.int _,.str _=>true|.str _,.int _=>true|.bl _,.str _=>true|.str _,.bl _=>true
 |_,_=>false
noncomputable def VX:R2:=λx y H Q=>JK x y=true/\Q (.bl (decide (x=y))) H
noncomputable def VY:R2:=λx y H Q=>JK x y=true/\Q (.bl (!decide (x=y))) H
theorem wm{i j:Int}:decide (V.int i=V.int j)=(i==j):=by rw[Qb];simp
theorem AF{i j:Bool}:decide (V.bl i=V.bl j)=(i==j):=by rw[Qb];simp
theorem wu{i j:Str}:decide (V.str i=V.str j)=(i==j):=by rw[Qb];simp
theorem wz{i j:Array UInt8}:decide (V.zW i=V.zW j)=(i.toList==j.toList):=by rw[Qb];cases i;cases j;simp
section
variable{X:Cx}{a b c:Expr}{ta tb tc:TE}{pos:Pos}
theorem aK{d:List (Addr×Obj)}{f:St}{H:Hp}{s:Shared}{Q:VK}{k g:Bool}(I:Inv X d f H s)(q:Q (.bl k) H)(e:k=g):EP X d f Q (.bool g) s:=by subst e;exact⟨.bl k,H,I,rfl,q⟩
theorem OJ:jj X (compareOp .Eq) VX:=by
 intro k s l H x y v u Q I g d h;obtain⟨f,q⟩:=h;cases x with
 |aI=>
  cases g;cases y with
  |aI=>cases d;exact PySem.EqNone.eq_none_none (aK I q (by simp))
  |bl j=>cases d;exact PySem.EqNone.eq_none_bool (aK I q (by simp))
  |int j=>obtain⟨e,rfl⟩:=d;exact PySem.EqNone.eq_none_int (aK I q (by simp))
  |str j=>obtain⟨e,rfl⟩:=d;exact PySem.EqNone.eq_none_str (aK I q (by simp))
  |_=>exact absurd (show false=true from f) Fs
 |bl i=>
  cases g;cases y with
  |aI=>cases d;exact PySem.EqNone.eq_bool_none (aK I q (by simp))
  |bl j=>cases d;exact eq_bool (aK I q AF)
  |str j=>obtain⟨e,rfl⟩:=d;exact PySem.EqMixed.eq_bool_str (aK I q (by simp))
  |_=>exact absurd (show false=true from f) Fs
 |int i=>
  obtain⟨t,rfl⟩:=g;cases y with
  |aI=>cases d;exact PySem.EqNone.eq_int_none (aK I q (by simp))
  |int j=>obtain⟨e,rfl⟩:=d;exact eq_int (aK I q wm)
  |str j=>obtain⟨e,rfl⟩:=d;exact PySem.EqMixed.eq_int_str (aK I q (by simp))
  |_=>exact absurd (show false=true from f) Fs
 |str i=>
  obtain⟨t,rfl⟩:=g;cases y with
  |aI=>cases d;exact PySem.EqNone.eq_str_none (aK I q (by simp))
  |bl j=>cases d;exact PySem.EqMixed.eq_str_bool (aK I q (by simp))
  |int j=>obtain⟨e,rfl⟩:=d;exact PySem.EqMixed.eq_str_int (aK I q (by simp))
  |str j=>obtain⟨e,rfl⟩:=d;exact eq_str (aK I q wu)
  |_=>exact absurd (show false=true from f) Fs
 |zW i=>
  obtain⟨t,rfl⟩:=g;cases y with
  |zW j=>obtain⟨e,rfl⟩:=d;exact PySem.W.eq_bytes (aK I q wz)
  |_=>exact absurd (show false=true from f) Fs
 |_=>cases y<;>exact absurd (show false=true from f) Fs
theorem OL:jj X (compareOp .NotEq) VY:=by
 intro k s l H x y v u Q I g d h;obtain⟨f,q⟩:=h;cases x with
 |aI=>
  cases g;cases y with
  |aI=>cases d;exact PySem.EqNone.ne_none_none (aK I q (by simp))
  |bl j=>cases d;exact PySem.EqNone.ne_none_bool (aK I q (by simp))
  |int j=>obtain⟨e,rfl⟩:=d;exact PySem.EqNone.ne_none_int (aK I q (by simp))
  |str j=>obtain⟨e,rfl⟩:=d;exact PySem.EqNone.ne_none_str (aK I q (by simp))
  |_=>exact absurd (show false=true from f) Fs
 |bl i=>
  cases g;cases y with
  |aI=>cases d;exact PySem.EqNone.ne_bool_none (aK I q (by simp))
  |bl j=>cases d;exact ne_bool (aK I q (Ki not AF))
  |str j=>obtain⟨e,rfl⟩:=d;exact PySem.EqMixed.ne_bool_str (aK I q (by simp))
  |_=>exact absurd (show false=true from f) Fs
 |int i=>
  obtain⟨t,rfl⟩:=g;cases y with
  |aI=>cases d;exact PySem.EqNone.ne_int_none (aK I q (by simp))
  |int j=>obtain⟨e,rfl⟩:=d;exact ne_int (aK I q (Ki not wm))
  |str j=>obtain⟨e,rfl⟩:=d;exact PySem.EqMixed.ne_int_str (aK I q (by simp))
  |_=>exact absurd (show false=true from f) Fs
 |str i=>
  obtain⟨t,rfl⟩:=g;cases y with
  |aI=>cases d;exact PySem.EqNone.ne_str_none (aK I q (by simp))
  |bl j=>cases d;exact PySem.EqMixed.ne_str_bool (aK I q (by simp))
  |int j=>obtain⟨e,rfl⟩:=d;exact PySem.EqMixed.ne_str_int (aK I q (by simp))
  |str j=>obtain⟨e,rfl⟩:=d;exact ne_str (aK I q (Ki not wu))
  |_=>exact absurd (show false=true from f) Fs
 |zW i=>
  obtain⟨t,rfl⟩:=g;cases y with
  |zW j=>obtain⟨e,rfl⟩:=d;exact PySem.W.ne_bytes (aK I q (Ki not wz))
  |_=>exact absurd (show false=true from f) Fs
 |_=>cases y<;>exact absurd (show false=true from f) Fs
theorem OM:jj X (compareOp .Lt) (DO λi j=>.bl (decide (i<j))):=DP λ_ _ _ _ _ _ _ q=>lt_int q
theorem ON:jj X (compareOp .LtE) (DO λi j=>.bl (decide (i<=j))):=DP λ_ _ _ _ _ _ _ q=>le_int q
theorem OO:jj X (compareOp .Gt) (DO λi j=>.bl (decide (j<i))):=DP λ_ _ _ _ _ _ _ q=>gt_int q
theorem OP:jj X (compareOp .GtE) (DO λi j=>.bl (decide (j<=i))):=DP λ_ _ _ _ _ _ _ q=>ge_int q
theorem yq:jj X (compareOp .In) (λx y H Q=>∃i j,x=.str i/\y=.str j/\Q (.bl (!(Builtin.Str.occurrences j i 0 j.length 1).isEmpty)) H):=by intro d s g H x y v u Q I f e h;obtain⟨i,j,rfl,rfl,q⟩:=h;obtain⟨t,rfl⟩:=f;obtain⟨k,rfl⟩:=e;exact in_str (aK I q rfl)
theorem JL:jj X (compareOp .Is) (λx y H Q=>y=.aI/\Q (.bl (decide (x=.aI))) H):=by
 intro e s g H x y v u Q I d f h;obtain⟨rfl,q⟩:=h;cases f;refine is_none_gen (aK I q ?_);cases x<;>first
  |(cases d;rfl)
  |(obtain⟨t,rfl⟩:=d;rfl)
theorem DR:jj X (compareOp .IsNot) (λx y H Q=>y=.aI/\Q (.bl (!decide (x=.aI))) H):=by
 intro e s g H x y v u Q I d f h;obtain⟨rfl,q⟩:=h;cases f;refine isnot_none_gen (aK I q ?_);cases x<;>first
  |(cases d;rfl)
  |(obtain⟨t,rfl⟩:=d;rfl)
theorem AG(b:Expr){op:CmpOp}(h:op≠.In:=by decide)(d:op≠.NotIn:=by decide):behindInMarks op b=false:=by
 have f:(op==CmpOp.In)=false:=by cases op<;>first|rfl|exact absurd rfl h
 have e:(op==CmpOp.NotIn)=false:=by cases op<;>first|rfl|exact absurd rfl d
 cases b<;>simp[behindInMarks,f,e]
theorem mP:(sizeLine:Nat)<2^63:=by rw[sizeLine_eq];decide
theorem uT:jj X (binaryOp .Add) (λx y H Q=>∃i j,x=.str i/\y=.str j/\i.length+j.length<=sizeLine/\Q (.str (i++j)) H):=by intro d s k H x y v u Q I g f h;obtain⟨i,j,rfl,rfl,hz,q⟩:=h;obtain⟨t,rfl⟩:=g;obtain⟨e,rfl⟩:=f;exact add_str (λe l=>⟨.str (i++j),H,I.tok _,⟨_,rfl⟩,q⟩) hz
theorem vals1{x:V}{us:List Value}(r:Vals [x] us):∃u,us=[u]/\RelV x u:=by
 cases r with
 |cons e d=>cases d;exact⟨_,rfl,e⟩
theorem vals2{x y:V}{us:List Value}(r:Vals [x,y] us):∃u w',us=[u,w']/\RelV x u/\RelV y w':=by
 cases r with
 |cons g f=>
  cases f with
  |cons e d=>cases d;exact⟨_,_,rfl,g,e⟩
theorem AH:bE X (.builtin "abs") (λd H Q=>∃i,d=[.int i]/\Q (.int (if i<0 then-i else i)) H):=by intro e s f H d g Q I r h;obtain⟨i,rfl,q⟩:=h;obtain⟨u,rfl,t,rfl⟩:=vals1 r;exact call_abs_int λu j=>⟨.int (if i<0 then-i else i),H,I.tok _,⟨_,rfl⟩,q⟩
theorem yr(g:X.calm=true):bE X (.builtin "max") (λe H Q=>∃i j,e=[.int i,.int j]/\Q (.int (if j>i then j else i)) H):=by
 intro f s l H e n Q I r h;obtain⟨i,j,rfl,q⟩:=h;obtain⟨u,m,rfl,⟨t,rfl⟩,⟨p,rfl⟩⟩:=vals2 r;refine max_two_ints (I.ok.hd g) λv o k=>⟨_,H,I.kept k,?_,q⟩;by_cases d:j>i
 .rw[Do d,Do d];exact⟨_,rfl⟩
 .rw[Bn d,Bn d];exact⟨_,rfl⟩
theorem yt(g:X.calm=true):bE X (.builtin "min") (λe H Q=>∃i j,e=[.int i,.int j]/\Q (.int (if j<i then j else i)) H):=by
 intro f s l H e n Q I r h;obtain⟨i,j,rfl,q⟩:=h;obtain⟨u,m,rfl,⟨t,rfl⟩,⟨p,rfl⟩⟩:=vals2 r;refine min_two_ints (I.ok.hd g) λv o k=>⟨_,H,I.kept k,?_,q⟩;by_cases d:j<i
 .rw[Do d,Do d];exact⟨_,rfl⟩
 .rw[Bn d,Bn d];exact⟨_,rfl⟩
theorem yu:bE X (.type "int") (λd H Q=>(∃i,d=[.int i]/\Q (.int i) H)\/∃k,d=[.bl k]/\Q (.int (if k then 1 else 0)) H):=by
 intro e s g H d j Q I r h;rcases h with⟨i,rfl,q⟩|⟨k,rfl,q⟩
 .obtain⟨u,rfl,t,rfl⟩:=vals1 r;exact call_int_int ⟨.int i,H,I,⟨_,rfl⟩,q⟩
 .obtain⟨u,rfl,f⟩:=vals1 r;cases f;exact call_int_bool ⟨.int (if k then 1 else 0),H,I.tok _,⟨_,rfl⟩,q⟩
theorem qF:bE X (.type "str") (λd H Q=>∃i,d=[.int i]/\i.natAbs.log2<1920/\Q (.str (toString i)) H):=by intro e s f H d g Q I r h;obtain⟨i,rfl,hz,q⟩:=h;obtain⟨u,rfl,t,rfl⟩:=vals1 r;exact PySem.P.str_of_int hz ⟨.str _,H,I.tok _,⟨_,rfl⟩,q⟩
theorem sJ:bE X (.builtin "divmod") (λd H Q=>∃i j,d=[.int i,.int j]/\R3 i j/\∀p,H p=none->Q (.ref p) (upd H p (.tup [.int (i/j),.int (i%j)]))):=by intro f s k H d m Q I r h;obtain⟨i,j,rfl,⟨w,v⟩,q⟩:=h;obtain⟨u,l,rfl,⟨t,rfl⟩,⟨n,rfl⟩⟩:=vals2 r;refine divmod_int (by lia) ?_ (.inl (Q5 (by lia)));rw[SZ i (by lia),Int.fmod_eq_emod_of_nonneg i (by lia)];have g:H s.heap.objs.size=none:=I.hok.fresh (DL _);refine⟨.ref s.heap.objs.size,_,?_,rfl,q _ g⟩;refine I.laid (λb o e=>Da _ e) (DL _) ⟨by simp only[AE,Gw];rw[sizeLine_eq];decide,[.int (i/j) s.toks,.int (i%j) (s.toks+1)],.cons ⟨_,rfl⟩ (.cons ⟨_,rfl⟩ .nil),?_⟩;exact⟨_,Hk s.heap rfl,rfl,0,rfl⟩
end
structure uU(h:Heap)(x dx C:Addr)(mA:Str->Option Value):Prop where
 obj:h.get? x=some (instObj C dx)
 ns:h.Ns1 dx mA
 ne:dx≠x
theorem yv{h:Heap}{g:Addr}{d:Str->Option Value}(n:h.Ns1 g d):∃c,h.get? g=some c/\∀name,lookIn name c=some (d name):=by
 obtain⟨o,f,p,j,hd,l,_,k⟩:=n;refine⟨o,j,λname=>?_⟩;have e:=k name;unfold nsFind findBy at e;rw[<-Array.find?_toList]at e;unfold lookIn;rw[hd];dsimp only;split
 .rename_i y q
  rw[q]at e;exact Ki some e
 .rename_i q
  rw[q]at e;have a:f.toList.any (·.refKey)=false:=by rw[TN];intro y i;obtain⟨z,t,b⟩:=l y (Array.mem_toList_iff.mp i);simp[DictEntry.refKey,b]
  have m:¬f.toList.any (·.refKey)=true:=by rw[a];exact Fs
  rw[Bn m];exact Ki some e
theorem uU.look{h:Heap}{x c C:Addr}{b:Str->Option Value}(I:uU h x c C b):∃a,PySem.W.InstAt h x (instObj C c) C (some a)/\∀name,lookIn name a=some (b name):=
 let⟨a,ho,hl⟩:=yv I.ns
 ⟨a,⟨I.obj,rfl,rfl,ho⟩,hl⟩
section
variable{prog:Program}{w:World}{A:Around}{E:Value->Shared->Prop}{s:Shared}{K:Frag}{x dx C f:Addr}{mA:Str->Option Value}{name:Str}{v:Value}
theorem get_map{a:Bool}{Q:Value->Shared->Prop}(X:K.In s.heap)(I:uU s.heap x dx C mA)(g:plainGet K C name=true)(e:hasDictIn K C=true)
 (i:findIn K (.ref C) name=some none)(c:mA name=some v)(b:PySem.W.handedIn v=true)(h:Q v {s with toks:=s.toks+1}):
 wpAny (model prog w) A (getAttr (.ref x) name a) Q E s:=by
 obtain⟨j,J,d⟩:=I.look;exact PySem.W.get_value X J (plainGet_of g).1 (PySem.W.findObj_own e i rfl (by rw[d,c])) b h
theorem AI{pl:Sem Bool}{Q:Value×List Value->Shared->Prop}(X:K.In s.heap)(I:uU s.heap x dx C mA)(a:plainGet K C name=true)
 (g:findIn K (.ref C) name=some (some (.ref f)))(d:isFn K (.ref f)=true)(c:mA name=none)(h:Q (.ref f,[.ref x]) s):
 wpAny (model prog w) A (getMethod (.ref x) name pl) Q E s:=by
 obtain⟨b,J,e⟩:=I.look;exact PySem.W.method_fn X J (plainGet_of a).1 (plainGet_of a).2 g (Iy.mp d) (by show(lookIn name b).map (·.isSome)=some false;rw[e,c];rfl) h
theorem DS{ns:List Str}{Q:Unit->Shared->Prop}(X:K.In s.heap)(I:uU s.heap x dx C mA)
 (k:findIn K (.ref C) "__setattr__"=some (some (.builtin "object.__setattr__")))(l:plainOver K C=true)(j:takerIn K C name=some none)(m:hasDictIn K C=true)
 (i:PySem.Within mA ns)(hsz:ns.length<=sizeLine)
 (h:∀h',uU h' x dx C (λy=>if y=name then some v else mA y)->Heap.SameBut dx s.heap h'->Q () {s with heap:=h',toks:=s.toks+2}):
 wpAny (model prog w) A (setAttr (.ref x) name v) Q E s:=by
 obtain⟨u,J,B⟩:=I.look;refine PySem.W.set_plain X J k (PySem.W.osa_open (s:={s with toks:=s.toks+1}) (r:=none) X J l j λb=>?_);obtain⟨D,n,e⟩:=PySem.W.any_some m;have g:s.heap.get? x=some ⟨.ref C,some dx,.plain,#[]⟩:=I.obj;refine Bz (GM (Bz (Bz (wpAny_loadPart g (Bz (PySem.W.Looks.here (s:={s with toks:=s.toks+1}) (PySem.W.looks_clsIn X n) ?_))))));rw[e];refine GM (a:=some dx) (Bz (GM (Bz ?_)));refine wpAny_nsSet1 (s:={s with toks:=s.toks+1}) I.ns λh' d c=>?_;obtain⟨z,o,F,p,t,q⟩:=d.count (PySem.Within.cons name v i);refine Bz (wpAny_lookBehind p (by rw[t];exact pastItsLine_dict (GE q (by rw[AE];lia))) ?_);exact GM (h _ ⟨(c.2 _ (On I.ne)).trans I.obj,d,I.ne⟩ c)
theorem AJ{R:Result->Shared->Prop}{vs:List Value}{b:List (Str×Value)}(X:K.In s.heap)(c:makesIn K C=true)
 (e:findIn K (.ref C) "__init__"=some (some (.ref f)))(i:PySem.W.typeIn K (.ref f)=some (.type "function"))
 (h:codeAny (model prog w) (A.under (.builtin "type.__call__" ⟨.ref C::vs,b⟩)) (.call (.ref f) ⟨.ref (s.heap.objs.size+1)::vs,b⟩) (PySem.W.InitBack (s.heap.objs.size+1) R)
   {s with heap:=(s.heap.push emptyDict).push (instObj C s.heap.objs.size)}):
 codeAny (model prog w) A (.call (.ref C) ⟨vs,b⟩) R s:=by
 obtain⟨k,g,d,t,j⟩:=s;exact PySem.W.make_core (PySem.W.makes_of X c) (PySem.W.looks_findIn X e) (λa=>PySem.W.bind_fn X a i) (.inl rfl) h
end
noncomputable def gf(f:Str)(v:V):List (Str×V)->List (Str×V)
 |[]=>[(f,v)]
 |(g,x)::r=>if g=f then(g,v)::r else(g,x)::gf f v r
theorem kP(f g:Str)(v:V):∀c:List (Str×V),(gf f v c).lookup g=if g=f then some v else c.lookup g
 |[]=>by
  show JW g [(f,v)]=_;by_cases h:g=f
  .have a:(g==f)=true:=Iy.mpr h;simp only[JW,a,Do h]
  .have a:(g==f)=false:=PP.mpr h;simp only[JW,a,Bn h]
 |(k,x)::r=>by
  have d:=kP f g v r;rw[show gf f v ((k,x)::r)=(if k=f then(k,v)::r else(k,x)::gf f v r)from rfl];by_cases b:k=f
  .rw[Do b];by_cases h:g=k
   .have a:(g==k)=true:=Iy.mpr h;simp only[JW,a,Do (h.trans b)]
   .have a:(g==k)=false:=PP.mpr h;simp only[JW,a,Bn (λe:g=f=>h (e.trans b.symm))]
  .rw[Bn b];by_cases h:g=k
   .have a:(g==k)=true:=Iy.mpr h;simp only[JW,a,Bn (λe:g=f=>b (h.symm.trans e))]
   .have a:(g==k)=false:=PP.mpr h;simp only[JW,a];exact d
theorem jV(f:Str)(v:V):∀b:List (Str×V),f∈(gf f v b).map (·.1)/\∀g,g∈b.map (·.1)->g∈(gf f v b).map (·.1)
 |[]=>⟨by simp[gf],λg h=>by simp at h⟩
 |(k,x)::r=>by
  obtain⟨i1,c⟩:=jV f v r;rw[show gf f v ((k,x)::r)=(if k=f then(k,v)::r else(k,x)::gf f v r)from rfl];by_cases a:k=f
  .rw[Do a];subst a;exact⟨by simp,λg h=>by simpa using h⟩
  .rw[Bn a];refine⟨?_,λg h=>?_⟩
   .rw[Ha];exact BM _ i1
   .rw[Ha]at h⊢;rcases Ee.mp h with e|e
    .exact Ee.mpr (.inl e)
    .exact BM _ (c g e)
theorem kQ(f:Str)(v:V):∀b:List (Str×V),(gf f v b).length<=b.length+1
 |[]=>by simp[gf]
 |(k,x)::r=>by
  have ih:=kQ f v r;rw[show gf f v ((k,x)::r)=(if k=f then(k,v)::r else(k,x)::gf f v r)from rfl];by_cases a:k=f
  .rw[Do a,AE,AE];lia
  .rw[Bn a,AE,AE];lia
theorem gA.some_of{v:V}{o:Option Value}(r:gA (some v) o):∃u,o=some u/\RelV v u:=by
 cases o with
 |none=>exact(show False from r).elim
 |some u=>exact⟨u,rfl,r⟩
theorem gA.none_of{o:Option Value}(r:gA none o):o=none:=by
 cases o with
 |none=>rfl
 |some u=>exact(show False from r).elim
theorem yw{v:V}{u:Value}(r:RelV v u):PySem.W.handedIn u=true:=by
 cases v with
 |aI=>cases(show u=Value.none from r);rfl
 |bl b=>cases(show u=Value.bool b from r);rfl
 |int i=>obtain⟨t,e⟩:=(show∃t,u=Value.int i t from r);cases e;rfl
 |str x=>obtain⟨t,e⟩:=(show∃t,u=Value.str x t from r);cases e;rfl
 |zW b=>obtain⟨t,e⟩:=(show∃t,u=Value.bytes b t from r);cases e;rfl
 |Jm b=>obtain⟨t,e⟩:=(show∃t,u=Value.float b t from r);cases e;rfl
 |ref a=>cases(show u=Value.ref a from r);rfl
 |ty n=>cases(show u=Value.type n from r);rfl
section
variable{P:Program}{w:World}{H H':Hp}{h h':Heap}{a C dx:Addr}{fs fs':List (Str×V)}
theorem lW(c:gE P w H h)(e:H a=some (.ins C dx fs)):∃b,uU h a dx C b/\(∀f,gA (fs.lookup f) (b f))/\PySem.Within b (fs.map (·.1))/\fs.length<=1000/\H dx=some (.own a):=by obtain⟨d,z,i,g,b,n,r,q⟩:=(show bw P w H h a (.ins C dx fs)from c a _ e);exact⟨b,⟨g,n,i⟩,r,q,z,d⟩
end
structure DU(K:Frag)(C:Addr):Prop where
 pg:plainGet K C Str.empty=true
 hd:hasDictIn K C=true
 po:plainOver K C=true
 sa:findIn K (.ref C) "__setattr__"=some (some (.builtin "object.__setattr__"))
theorem DU.get{K:Frag}{C:Addr}(c:DU K C)(f:Str):plainGet K C f=true:=c.pg
noncomputable def gI(K:Frag)(C:Addr)(f:Str):Prop:=findIn K (.ref C) f=some none
theorem gI.OQ{K:Frag}{C:Addr}{f:Str}(n:gI K C f):takerIn K C f=some none:=by unfold takerIn;rw[show findIn K (.ref C) f=some none from n];rfl
structure Meth(K:Frag)(C:Addr)(m:Str)(f:Addr):Prop where
 at_:findIn K (.ref C) m=some (some (.ref f))
 fn:isFn K (.ref f)=true
 kp:keepIn K (.ref f)=true
section
variable{X:Cx}{pins:List (Addr×Obj)}{σ:St}{H:Hp}{s:Shared}{a C dx:Addr}{fs:List (Str×V)}{f:Str}{v:V}{A:Around}{E:Value->Shared->Prop}
theorem uV{b:Bool}{Q:Value->Shared->Prop}(I:Inv X pins σ H s)(e:H a=some (.ins C dx fs))(c:DU X.K C)(n:gI X.K C f)(l:fs.lookup f=some v)
 (h:∀u s',Inv X pins σ H s'->RelV v u->Q u s'):wpAny (model X.prog X.w) A (getAttr (.ref a) f b) Q E s:=by
 obtain⟨g,O,r,_,_,_⟩:=lW I.hok e;obtain⟨u,i,d⟩:=gA.some_of (v:=v) (o:=g f) (by rw[<-l];exact r f);exact get_map I.jQ O (c.get f) c.hd n i (yw d) (h u _ (I.tok _) d)
theorem iQ{m:Str}{g:Addr}{pl:Sem Bool}{Q:Value×List Value->Shared->Prop}(I:Inv X pins σ H s)(e:H a=some (.ins C dx fs))(c:DU X.K C)(k:Meth X.K C m g)(l:fs.lookup m=none)
 (h:Q (.ref g,[.ref a]) s):wpAny (model X.prog X.w) A (getMethod (.ref a) m pl) Q E s:=by
 obtain⟨b,O,r,_,_,_⟩:=lW I.hok e;have d:b m=none:=gA.none_of (by rw[<-l];exact r m);exact AI I.jQ O (c.get m) k.at_ k.fn d h
theorem uW{y:V}{u:Value}{Q:Unit->Shared->Prop}(I:Inv X pins σ H s)(e:H a=some (.ins C dx fs))(c:DU X.K C)(n:gI X.K C f)(D:fs.length<1000)(m:RelV y u)
 (h:∀s',Inv X pins σ (upd H a (.ins C dx (gf f y fs))) s'->Q () s'):wpAny (model X.prog X.w) A (setAttr (.ref a) f u) Q E s:=by
 obtain⟨j,O,r,i,_,k⟩:=lW I.hok e;have hz:(fs.map (·.1)).length<=sizeLine:=by rw[Fh,sizeLine_eq];lia
 refine DS I.jQ O c.sa c.po n.OQ c.hd i hz λB d l=>h _ ?_;have hd:∃o,B.get? dx=some o:=let⟨o,_,_,e',_⟩:=d.ns;⟨o,e'⟩
 refine I.write (x:=a) (e:=dx) (by rw[e];exact Gx) (.inr k) (λb q t z=>(l.2 b t).trans z) hd ?_;refine⟨by rw[au O.ne];exact k,?_,O.ne,d.obj,_,d.ns,λg=>?_,λg p=>?_⟩
 .have:=kQ f y fs;lia
 .show gA ((gf f y fs).lookup g) (if g=f then some u else j g);rw[kP];by_cases q:g=f
  .rw[Do q,Do q];exact m
  .rw[Bn q,Bn q];exact r g
 .by_cases q:g=f
  .rw[q];exact(jV f y fs).1
  .refine(jV f y fs).2 g (i g λz=>p ?_);show(if g=f then some u else j g)=none;rw[Bn q];exact z
theorem Inv.made(I:Inv X pins σ H s):Inv X pins σ (upd (upd H s.heap.objs.size (.own (s.heap.objs.size+1))) (s.heap.objs.size+1) (.ins C s.heap.objs.size []))
 {s with heap:=(s.heap.push emptyDict).push (instObj C s.heap.objs.size)}:=by
 have d:(s.heap.push emptyDict).get? s.heap.objs.size=some emptyDict:=Hk s.heap rfl;have j:((s.heap.push emptyDict).push (instObj C s.heap.objs.size)).get? (s.heap.objs.size+1)=some (instObj C s.heap.objs.size):=by have:=Hk (s.heap.push emptyDict) (o:=instObj C s.heap.objs.size) rfl;rwa [Heap.size_push]at this
 have i:(s.heap.push emptyDict).Ns s.heap.objs.size (λ_=>none):=⟨emptyDict,#[],_,d,rfl,(λe h=>absurd h (by simp)),λ_=>rfl⟩;have k:=I.laid (a:=s.heap.objs.size) (o:=.own (s.heap.objs.size+1)) (h':=s.heap.push emptyDict) (t':=s.toks) (λb u q=>Da _ q) (DL _) ⟨_,d⟩;refine k.laid (a:=s.heap.objs.size+1) (o:=.ins C s.heap.objs.size []) (t':=s.toks) (λb u q=>Da _ q) (OV (Heap.size_push _ _)) ?_;have c:s.heap.objs.size≠s.heap.objs.size+1:=Jn (P1 _);refine⟨by rw[au c,aA],Mo _,c,j,λ_=>none,(Heap.Ns1.of_empty i).at λo q=>Da _ q,λ_=>Gx,λy g=>absurd rfl g⟩
theorem DV{prog:Program}{w:World}{env:Env}{e:Expr}{f:Str}{pos:Pos}{s:Shared}{Q:Value->Shared->Prop}(c:attributeBase e f env (eval e env)=eval e env)
 (h:wpAny (model prog w) A (eval e env) (λo b=>wpAny (model prog w) A (getAttr o f true) Q E b) E s):wpAny (model prog w) A (eval (.Attribute e f pos) env) Q E s:=
 Attribute_any_ h (by rw[arm_eval_Attribute,c])
end
noncomputable def R4(K:Frag)(ta:TE)(f:Str):TE:=λd H Q=>ta d H λx c=>∃a C e b v,x=.ref a/\c a=some (.ins C e b)/\DU K C/\gI K C f/\b.lookup f=some v/\Q v c
noncomputable def OR(K:Frag)(ta g:TE)(f:Str):TS:=λD b H=>g b H λy h=>ta b h λx e=>∃a C d c,x=.ref a/\e a=some (.ins C d c)/\DU K C/\gI K C f/\c.length<1000/\
 D.nx b (upd e a (.ins C d (gf f y c)))
section
variable{X:Cx}{o e value:Expr}{f:Str}{pos pos' tpos:Pos}{ta tv:TE}
theorem AK(he:PE X e ta)(j:attributeBase e f X.env (eval e X.env)=eval e X.env):PE X (.Attribute e f pos) (R4 X.K ta f):=by intro b s d H Q I h;refine DV j (bq (he b s d H _ I h) λu w hz=>?_);obtain⟨x,r,p,g,a,C,z,y,v,ex,k,c,n,l,q⟩:=hz;subst ex;obtain rfl:u=Value.ref a:=g;exact uV p k c n l λt s2 m i=>⟨v,r,m,i,q⟩
theorem jW(t:PE X o ta)(p:PE X value tv)(r:swapsWith value (some (.Attribute o f pos')) pos.line X.env=pure false):PS X (.Assign [.Attribute o f pos'] value pos) (OR X.K ta tv f):=by intro b s d H D I h;refine plainObj_wpAny_Assign_Attribute (bq (p b s d H _ I h) λu g ⟨y,B,A,i,q⟩=>bq (t b g d B _ A q) λm s2 hz=>?_) r;obtain⟨x,J,z,j,a,C,F,E,ex,v,c,n,l,k⟩:=hz;subst ex;obtain rfl:m=Value.ref a:=j;exact uW z v c n l i λs3 w=>⟨d,_,w,k⟩
end
section
variable{X:Cx}{pins:List (Addr×Obj)}{σ:St}{H:Hp}{s:Shared}{A:Around}{E:Value->Shared->Prop}{Q:Value->Shared->Prop}{c:Value}{b:Bool}
inductive lD(K:Frag)(H:Hp):V->Value->Prop where
 |aI:lD K H .aI (.type "NoneType")
 |bl (x:Bool):lD K H (.bl x) (.type "bool")
 |int (i:Int):lD K H (.int i) (.type "int")
 |str (x:Str):lD K H (.str x) (.type "str")
 |Jm (x:UInt64):lD K H (.Jm x) (.type "float")
 |lst {a:Addr} {xs:List V} (e:H a=some (.lst xs)):lD K H (.ref a) (.type "list")
 |uK {a:Addr} {o:Obj} {xs:List V} (e:H a=some (.uK o (.lst xs))):lD K H (.ref a) (.type "list")
 |tup {a:Addr} {xs:List V} (e:H a=some (.tup xs)):lD K H (.ref a) (.type "tuple")
 |dK {a:Addr} {kvs:List (Key×V)} (e:H a=some (.dK kvs)):lD K H (.ref a) (.type "dict")
 |dT {a:Addr} {kvs:List (List Key×V)} (e:H a=some (.dT kvs)):lD K H (.ref a) (.type "dict")
 |ins {a C dx:Addr} {fs:List (Str×V)} (e:H a=some (.ins C dx fs)) (cl:DU K C) (ha:findIn K (.ref C) "__class__"=some (some (.builtin "object.__class__")))
   (hn:PySem.W.specialIn K (.builtin "object.__class__") "__get__"=some (some (.builtin "getset_descriptor.__get__"))) (htk:PySem.W.takesIn K (.builtin "object.__class__")=some true)
   (hm:mroIn K C (.type "object")=some true):lD K H (.ref a) (.ref C)
theorem fM{x:V}{u t:Value}(I:Inv X pins σ H s)(d:RelV x u)(v:lD X.K H x t)(e:kitOne X.K t c=some b)(h:∀B,Q (.bool b) {s with toks:=B}):
 wpAny (model X.prog X.w) A (call (.builtin "isinstance") [u,c]) Q E s:=by
 cases v with
 |aI=>cases(show u=Value.none from d);exact Oy PySem.W.kitx_none I.jQ Gx e (λz=>nomatch z) h
 |bl y=>cases(show u=Value.bool y from d);exact Oy PySem.W.kitx_bool I.jQ Gx e (λz=>nomatch z) h
 |int i=>obtain⟨t,q⟩:=(show∃t,u=Value.int i t from d);cases q;exact Oy PySem.W.kitx_int I.jQ Gx e (λz=>nomatch z) h
 |str y=>obtain⟨t,q⟩:=(show∃t,u=Value.str y t from d);cases q;exact Oy PySem.W.kitx_str I.jQ Gx e (λz=>nomatch z) h
 |Jm y=>obtain⟨t,q⟩:=(show∃t,u=Value.float y t from d);cases q;exact Oy PySem.W.kitx_float I.jQ Gx e (λz=>nomatch z) h
 |@lst a k f=>
  cases(show u=Value.ref a from d);obtain⟨_,_,n,_,g⟩:=(show bw X.prog X.w H s.heap a (.lst k)from I.hok a _ f);exact Oy PySem.W.kitx_list I.jQ ⟨_,g,rfl⟩ e (λz=>nomatch z) h
 |@uK a D k f=>
  cases(show u=Value.ref a from d);obtain⟨_,_,_,n,_,g⟩:=(show bw X.prog X.w H s.heap a (.uK D (.lst k))from I.hok a _ f);exact Oy PySem.W.kitx_list I.jQ ⟨_,g,rfl⟩ e (λz=>nomatch z) h
 |@tup a k f=>
  cases(show u=Value.ref a from d);obtain⟨_,_,_,p⟩:=(show bw X.prog X.w H s.heap a (.tup k)from I.hok a _ f);obtain⟨o,g,l,_⟩:=p;exact Oy PySem.W.kitx_tuple I.jQ ⟨o,g,l⟩ e (λz=>nomatch z) h
 |@dK a j f=>
  cases(show u=Value.ref a from d);obtain⟨_,_,R,_,p⟩:=(show bw X.prog X.w H s.heap a (.dK j)from I.hok a _ f);obtain⟨o,N,P,g,l,_⟩:=p;exact Oy PySem.W.kitx_dict I.jQ ⟨o,g,l.1⟩ e (λz=>nomatch z) h
 |@dT a j f=>
  cases(show u=Value.ref a from d);obtain⟨_,_,k,_,o,N,P,g,l,_⟩:=(show bw X.prog X.w H s.heap a (.dT j)from I.hok a _ f);exact Oy PySem.W.kitx_dict I.jQ ⟨o,g,l.1⟩ e (λz=>nomatch z) h
 |@ins a C Y U f r M F m L=>
  cases(show u=Value.ref a from d);obtain⟨T,O,_⟩:=lW I.hok f;obtain⟨S,J,_⟩:=O.look;exact Oy (PySem.W.kitx_own (r.get _) r.hd M F m L) I.jQ J e (λz=>nomatch z) h
end
structure ck(k:Nat)(A:Around):Prop where
 hd:A.handled=none
 dp:A.depth+3*k+120<recursionLimit
 un:A.units+16*k+200<cLine
theorem ck.mono{j k:Nat}{A:Around}(r:ck k A)(h:j<=k):ck j A:=⟨r.hd,by have:=r.dp;lia,by have:=r.un;lia⟩
theorem ck.deeper{k:Nat}{A:Around}(r:ck (k+1) A)(env:Env):ck k (A.deeper env):=
 ⟨r.hd,by have:=r.dp;show A.depth+1+3*k+120<_;lia,by have:=r.un;show A.units+3+16*k+200<_;lia⟩
theorem uX{A:Around}{C:Addr}{us:List Value}{a:List (Str×Value)}:(A.under (.builtin "type.__call__" ⟨.ref C::us,a⟩)).depth=A.depth+1:=by first|rfl|simp[Around.under,Code.weight,Code.isCreation,Code.isGuard,Code.isCaller,Code.frames,Code.isFrame,guardIds]
theorem uY{A:Around}{C:Addr}{us:List Value}{a:List (Str×Value)}:(A.under (.builtin "type.__call__" ⟨.ref C::us,a⟩)).units=A.units+1:=by first|rfl|simp[Around.under,Code.cUnits,Code.frames,Code.isFrame]
theorem ck.make{k:Nat}{A:Around}(r:ck (k+1) A)(C:Addr)(us:List Value)(a:List (Str×Value)):ck k (A.under (.builtin "type.__call__" ⟨.ref C::us,a⟩)):=
 ⟨r.hd,by have:=r.dp;rw[uX];lia,by have:=r.un;rw[uY];lia⟩
theorem ck.depth{k:Nat}{A:Around}(r:ck k A):A.depth<recursionLimit:=by have:=r.dp;lia
theorem ck.units{k:Nat}{A:Around}(r:ck k A):A.units+64<cLine:=by have:=r.un;lia
noncomputable def yx:TA:=λ_ H Q=>Q [] H
noncomputable def pV(ta:TE)(c:TA):TA:=λa H Q=>ta a H λx e=>c a e λb d=>Q (x::b) d
section
variable{X:Cx}{e:Expr}{es:List Expr}{te:TE}{t:TA}{pos:Pos}
theorem bZ:PA X [] yx:=λ_ _ _ _ H Q I h=>Calls.spliced_nil ⟨[],H,I,.nil,h⟩
theorem aR(m:PE X e te)(l:PA X es t)(k:starEach (e::es) X.env=(false,eval e X.env)::starEach es X.env:=by rfl):PA X (e::es) (pV te t):=by intro pos a s b H Q I h;rw[k];show wpAny _ _ (spliced ((false,eval e X.env)::backTo pos (starEach es X.env))) _ _ s;refine Calls.spliced_cons (bq (m a s b H _ I h) λu d ⟨x,q,o,g,j⟩=>?_);exact bq (l pos a d b q _ o j) λr s2 ⟨c,p,n,f,i⟩=>⟨x::c,p,n,.cons g f,i⟩
noncomputable def R5(t:TA):TE:=λc H Q=>t c H λa b=>a.length<=sizeLine/\∀p,b p=none->Q (.ref p) (upd b p (.tup a))
noncomputable def R6(t:TA):TE:=λc H Q=>t c H λa b=>a.length<=sizeLine/\∀p,b p=none->Q (.ref p) (upd b p (.lst a))
theorem uZ{j}(h:PA X es t):PE X (.Tuple es j pos) (R5 t):=by intro a s g H Q I l;refine wpAny_Tuple_spliced (bq (h pos a s g H _ I l) λk c ⟨i,f,d,r,z,q⟩=>⟨by rw[<-r.length];exact z,?_⟩);have m:f c.heap.objs.size=none:=d.hok.fresh (DL _);refine⟨.ref c.heap.objs.size,upd f c.heap.objs.size (.tup i),d.laid (t':=c.toks) (λb u e=>Da _ e) (DL _) ?_,rfl,q _ m⟩;exact⟨z,k,r,⟨_,Hk _ rfl,rfl,_,rfl⟩⟩
theorem u0(h:PA X es t):PE X (.List es pos) (R6 t):=by intro a s g H Q I k;refine wpAny_List_spliced (bq (h pos a s g H _ I k) λj c ⟨i,f,d,r,z,q⟩=>⟨by rw[<-r.length];exact z,?_⟩);have l:f c.heap.objs.size=none:=d.hok.fresh (DL _);refine⟨.ref c.heap.objs.size,upd f c.heap.objs.size (.lst i),d.laid (t':=c.toks) (λb u e=>Da _ e) (DL _) ?_,rfl,q _ l⟩;exact⟨z,j,0,r,Hk _ rfl⟩
end
abbrev Sp:=List V->Hp->VK->XK->Prop
abbrev yy:=List Env->Hp->Shared->XK->Value->Shared->Prop
structure u5(P:Program)(w:World)(K:Frag)(mg:Str->Option Value)(base:Heap)(A:Around)(outer:List Env)(s:Shared)(H:Hp):Prop where
 frames:A.frames=some outer
 mod:Mod K mg base
 bs:∀b o,base.get? b=some o->s.heap.get? b=some o/\H b=none
 DF:base.objs.size<=s.heap.objs.size
 lC:s.heap.FunFrames base outer
 Jq:∀b∈frs outer,H b=none
 hok:gE P w H s.heap
 bare:AllBare s.gens
 tree:P.given.tree=none
noncomputable def CE(a:List Env)(P:Program)(w:World)(H:Hp)(s:Shared)(Q:VK)(u:Value)(s':Shared):Prop:=
 ∃v b,s'.os=s.os/\AllBare s'.gens/\Un (frs a) [] H b s.heap s'.heap/\gE P w b s'.heap/\RelV v u/\Q v b
noncomputable def CR(CX:yy)(a:List Env)(P:Program)(w:World)(H:Hp)(s:Shared)(Q:VK)(E:XK)(r:Result)(s':Shared):Prop:=
 match r with
 |.ok (.ret u)=>CE a P w H s Q u s'
 |.ok _=>False
 |.error e=>CX a H s E e s'
structure bL(P:Program)(w:World)(K:Frag)(mg:Str->Option Value)(base:Heap)(CX:yy)(k:Nat)(f:Addr)(fd:FuncData)(ps:List Str)(sp:Sp):Prop where
 len:∀vs H Q E,sp vs H Q E->vs.length=ps.length
 run:∀(A:Around)(outer:List Env)(s:Shared)(H:Hp)(args:Args)(us:List Value)(vs:List V)(Q:VK)(E:XK),ck k A->u5 P w K mg base A outer s H->BindsTo s fd args (ps.zip us)->Vals vs us->sp vs H Q E->
  codeAny (model P w) A (.call (.ref f) args) (CR CX outer P w H s Q E) s
theorem bL.imp{P:Program}{w:World}{K:Frag}{c:Str->Option Value}{base:Heap}{CX:yy}{k:Nat}{f:Addr}{d:FuncData}{ps:List Str}{sp e:Sp}(F:bL P w K c base CX k f d ps sp)
 (h:∀vs H Q E,e vs H Q E->sp vs H Q E):bL P w K c base CX k f d ps e:=
 ⟨λvs H Q E q=>F.len vs H Q E (h _ _ _ _ q),λA a s H b g vs Q E l m n i j=>F.run A a s H b g vs Q E l m n i (h _ _ _ _ j)⟩
theorem u5.make{P:Program}{w:World}{K:Frag}{b:Str->Option Value}{base:Heap}{A:Around}{a:List Env}{s:Shared}{H:Hp}(e:u5 P w K b base A a s H)(C:Addr)(us:List Value)(c:List (Str×Value)):
 u5 P w K b base (A.under (.builtin "type.__call__" ⟨.ref C::us,c⟩)) a s H:=⟨by first|exact e.frames|(simpa[Around.under,Code.envs,Code.isFrame,pushEnvs]using e.frames),e.mod,e.bs,e.DF,e.lC,e.Jq,e.hok,e.bare,e.tree⟩
section
variable{X:Cx}{pins:List (Addr×Obj)}{σ:St}{H:Hp}{s s':Shared}
theorem Inv.OS(I:Inv X pins σ H s):u5 X.prog X.w X.K X.mg X.base X.A X.stack s H:=
 ⟨I.ok.frames,I.ok.mod,I.bs,GE I.ok.DF I.sz,I.stack,I.jn,I.hok,I.bare,I.ok.tree⟩
theorem Inv.after{Q:VK}{u:Value}(I:Inv X pins σ H s)(h:CE X.stack X.prog X.w H s Q u s'):EP X pins σ Q u s':=by obtain⟨v,j,os,a,f,e,r,q⟩:=h;obtain⟨i,g,d,t,c⟩:=s';obtain rfl:c=s.os:=os;exact⟨v,j,I.call (h':=i) (g':=g) (d':=d) (t':=t) (ch:=[]) f e a (λb z=>absurd z (by simp)),r,q⟩
end
noncomputable def Binds(K:Frag)(b:FuncData)(ps:List Str)(ds:List Value):Prop:=
 ∀(s:Shared)(a:List Value),K.In s.heap->(a++ds).length=ps.length->BindsTo s b ⟨a,[]⟩ (ps.zip (a++ds))
theorem Binds.all{K:Frag}{b:FuncData}{ps:List Str}(h:∀us:List Value,us.length=ps.length->bindArgs b ⟨us,[]⟩=pure (ps.zip us)):Binds K b ps []:=λs us _ a=>by rw[Kt]at a⊢;exact .of_eq (h us a)
noncomputable def Passes(CX:yy)(X:Cx)(E:XK):Prop:=∀(a:List (Addr×Obj))(c:St)(H:Hp)(s:Shared)(e:Value)(b:Shared),Inv X a c H s->CX X.stack H s E e b->X.xe e b
section
variable{X:Cx}{CX:yy}{k:Nat}{f C:Addr}{fd:FuncData}{ps:List Str}{sp:Sp}{zX:List V}{ds:List Value}{E:XK}{x m:Str}{p pos apos:Pos}{e o:Expr}{es:List Expr}{ta:TE}{t:TA}
theorem qG{a:List (Addr×Obj)}{c:St}{H:Hp}{s:Shared}{Q:VK}{us:List Value}{vs:List V}(F:bL X.prog X.w X.K X.mg X.base CX k f fd ps sp)(j:ck k X.A)(n:Binds X.K fd ps ds)(hd:Vals zX ds)(i:Passes CX X E)
 (I:Inv X a c H s)(r:Vals vs us)(h:sp (vs++zX) H Q E):wpAny (model X.prog X.w) X.A (call (.ref f) us) (EP X a c Q) X.xe s:=by
 have d:Vals (vs++zX) (us++ds):=r.append hd;have l:(us++ds).length=ps.length:=by rw[<-d.length];exact F.len _ _ _ _ h
 refine wpAny_call (Y6 (F.run X.A X.stack s H ⟨us,[]⟩ (us++ds) (vs++zX) Q E j I.OS (n s us I.jQ l) d h) λr g b=>?_);cases r with
 |error e=>exact i a c H s e g I b
 |ok q=>
  cases q with
  |ret u=>exact I.after b
  |next=>exact Ey b
  |brk=>exact Ey b
  |cont=>exact Ey b
structure Mk(K:Frag)(C f:Addr):Prop where
 makes:makesIn K C=true
 init:findIn K (.ref C) "__init__"=some (some (.ref f))
 fn:isFn K (.ref f)=true
 kp:keepIn K (.ref C)=true
theorem AL{a:List (Addr×Obj)}{g:St}{H:Hp}{s:Shared}{Q:VK}{us:List Value}{vs:List V}(M:Mk X.K C f)(F:bL X.prog X.w X.K X.mg X.base CX k f fd ps sp)(y:ck (k+1) X.A)(B:Binds X.K fd ps ds)(hd:Vals zX ds)
 (q:Passes CX X E)(I:Inv X a g H s)(r:Vals vs us)
 (h:∀x c,H x=none->H c=none->c≠x->sp (.ref x::(vs++zX)) (upd (upd H c (.own x)) x (.ins C c [])) (λv L=>v=.aI/\Q (.ref x) L) E):
 wpAny (model X.prog X.w) X.A (call (.ref C) us) (EP X a g Q) X.xe s:=by
 have j:=h (s.heap.objs.size+1) s.heap.objs.size (I.hok.fresh (YK _)) (I.hok.fresh (DL _)) (Jn (P1 _));have d:=Inv.made (C:=C) I;have i:Vals (V.ref (s.heap.objs.size+1)::(vs++zX)) (Value.ref (s.heap.objs.size+1)::(us++ds)):=.cons rfl (r.append hd);have z:(Value.ref (s.heap.objs.size+1)::us++ds).length=ps.length:=by have e:=i.length;rw[F.len _ _ _ _ j]at e;exact e.symm
 refine wpAny_call (AJ (f:=f) I.jQ M.makes M.init (Iy.mp M.fn) (Y6 (F.run _ X.stack _ _ ⟨Value.ref (s.heap.objs.size+1)::us,[]⟩ (Value.ref (s.heap.objs.size+1)::(us++ds)) _ _ E (y.make C us [])
  (d.OS.make C us []) (B _ (Value.ref (s.heap.objs.size+1)::us) d.jQ z) i j) λr l b=>?_))
 cases r with
 |error e=>exact q a g _ _ e l d b
 |ok D=>
  cases D with
  |ret u=>obtain⟨v,N,J,rv,ev,n⟩:=d.after b;subst ev;exact⟨rv,⟨V.ref (s.heap.objs.size+1),N,J,rfl,n⟩⟩
  |next=>exact Ey b
  |brk=>exact Ey b
  |cont=>exact Ey b
end
section
variable{X:Cx}{CX:yy}{k:Nat}{f C:Addr}{fd:FuncData}{ps ks:List Str}{sp:Sp}{E:XK}{x m:Str}{p pos apos kpos:Pos}{e o:Expr}{es:List Expr}{kws:List Keyword}{te ta:TE}{t tk:TA}{nm:Option Str}
variable{g:List Value->List Value->List Value}{gV:List V->List V->List V}
end
structure eY(N P:List Str)(sc:Scope):Prop where
 kind:sc.kind=.function
 co:sc.isCoroutine=false
 gen:sc.isGenerator=false
 nd:N.Nodup
 pre:N.take P.length=P
 par:∀x∈P,sc.names.lookup x=some .local\/sc.names.lookup x=some .cell
 JM:∀y∈sc.names,y.2≠.free
theorem pW{b:Str->Option NameKind}{x:Str}:∀{a:List (Str×Value)}{m:Str->Option Value},(∀v,(x,v)∉a)->bindL b a m x=m x
 |[],_,_=>rfl
 |(n,v)::r,m,h=>by
  unfold bindL;rw[pW λw c=>h w (BM _ c)];split
  .have:x≠n:=by rintro rfl;exact h v Bi
   simp[this]
  .rfl
theorem pX{b:Str->Option NameKind}{x:Str}:∀{a:List (Str×Value)}{m:Str->Option Value},(∀v,(x,v)∉a)->bindC b a m x=m x
 |[],_,_=>rfl
 |(n,v)::r,m,h=>by
  unfold bindC;rw[pX λw c=>h w (BM _ c)];split
  .rfl
  .have:x≠n:=by rintro rfl;exact h v Bi
   simp[this]
theorem pY{a:Str->Option NameKind}{x:Str}{v:Value}:∀{P:List Str}{vs:List Value}{i:Nat}{m:Str->Option Value},P.Nodup->P[i]?=some x->vs[i]?=some v->a x=some .local->
 bindL a (P.zip vs) m x=some v
 |[],_,_,_,_,h,_,_=>by simp at h
 |_::_,[],_,_,_,_,h,_=>by simp at h
 |p::P,w::vs,0,m,d,c,b,e=>by simp at c b;subst c;subst b;show bindL a ((p,w)::P.zip vs) m p=_;unfold bindL;rw[pW λv f=>(He.mp d).1 (Pz f).1,Do e];simp
 |p::P,w::vs,i+1,m,d,c,b,e=>by show bindL a ((p,w)::P.zip vs) m x=_;unfold bindL;exact pY (i:=i) (He.mp d).2 (by simpa using c) (by simpa using b) e
theorem pZ{a:Str->Option NameKind}{x:Str}{v:Value}:∀{P:List Str}{vs:List Value}{i:Nat}{m:Str->Option Value},P.Nodup->P[i]?=some x->vs[i]?=some v->a x≠some .local->
 bindC a (P.zip vs) m x=some v
 |[],_,_,_,_,h,_,_=>by simp at h
 |_::_,[],_,_,_,_,h,_=>by simp at h
 |p::P,w::vs,0,m,d,c,b,e=>by simp at c b;subst c;subst b;show bindC a ((p,w)::P.zip vs) m p=_;unfold bindC;rw[pX λv f=>(He.mp d).1 (Pz f).1,Bn e];simp
 |p::P,w::vs,i+1,m,d,c,b,e=>by show bindC a ((p,w)::P.zip vs) m x=_;unfold bindC;exact pZ (i:=i) (He.mp d).2 (by simpa using c) (by simpa using b) e
noncomputable def start(N:List Str)(vs:List V):St:=vs.map some++A0 (N.length -vs.length) none
noncomputable def yz(CX:yy)(P:Program)(w:World)(K:Frag)(mg:Str->Option Value)(base:Heap)(N:List Str)(b:Str)(a:Scope)(f:Addr)(d:Value)(A:Around)(outer:List Env)(s:Shared)(H:Hp)(E:XK):Cx where
 prog:=P
 w:=w
 K:=K
 mg:=mg
 base:=base
 A:=A.deeper (envOfC b a s.heap.objs.size f d)
 N:=N
 s₀:=s
 H₀:=H
 env:=envOfC b a s.heap.objs.size f d
 outer:=outer
 stack:=envOfC b a s.heap.objs.size f d::outer
 ex:=[]
 calm:=true
 fn:=λ_=>true
 pn:=[]
 xe:=λe g=>wpAny (model P w) (A.deeper (envOfC b a s.heap.objs.size f d)) (leaving (envOfC b a s.heap.objs.size f d) e) (λ_ c=>CX outer H s E e c) (λh c=>CX outer H s E h c) g
theorem sL{sc:Scope}{n:Nat}{x:Str}(h:sc.names.lookup x=some .cell):∃c,(cellsFrom n sc.names []).lookup x=some c:=by have q:=PySem.W.cellsFrom_some sc.names n [] (.inl h);exact Pl.mp q
theorem yC{CX:yy}{P:Program}{w:World}{K:Frag}{I:Str->Option Value}{base:Heap}{N ps:List Str}{l:Str}{d:Scope}{f:Addr}{F:Value}{A:Around}{g:List Env}{s L:Shared}{H:Hp}{E:XK}{us:List Value}{vs:List V}
 (S:eY N ps d)(hd:A.handled=none)(Yh:A.depth+110<recursionLimit)(j:u5 P w K I base A g s H)(Z:vs.length=ps.length)(r:Vals vs us)
 (x:InCallC s s.heap.objs.size (bindL (envOfC l d s.heap.objs.size f F).kindOf (ps.zip us) λ_=>none) (cellsFrom (s.heap.objs.size+1) d.names []) (bindC (envOfC l d s.heap.objs.size f F).kindOf (ps.zip us) λ_=>none) L):
 Inv (yz CX P w K I base N l d f F A g s H E) [] (start N vs) H L:=by
 have Q:ps.length<=N.length:=by have:=Ki IY S.pre;rw[Sr]at this;lia
 obtain⟨D,X,rfl,B⟩:=x.done;have J:∀b:Addr,b∉(yz CX P w K I base N l d f F A g s H E).ex:=λb z=>absurd (show b∈([]:List Addr)from z) (by simp);refine⟨⟨j.mod,S.kind,rfl,rfl,DL _,λy z c D m=>?_,λy o=>?_,λy c _ h=>?_,λ_=>hd,Around.frames_deeper j.frames,.inr ⟨rfl,rfl⟩,λb z=>absurd z (J b),j.bs,j.DF,λb _ _=>J b,λb z=>absurd z (J b),j.lC,j.Jq,j.tree,λA' Y R U B=>PylongRoom.of (j.mod.nolimit.keeps B) (by rw[U];show A.depth+1+100<_;lia) (SeerAt.of (j.mod.seer.keeps B) j.tree (R.trans (Around.frames_deeper j.frames)) S.gen S.co rfl rfl)⟩,
  rfl,j.bare,Un.kept B,⟨_,x.toInCall.ns,λi y v D m h3=>?_⟩,λy c h=>⟨_,x.cell y c h⟩,j.hok.fresh (DL _),λy c h=>?_,λp t=>absurd (show p∈([]:List (Addr×Obj))from t) (by simp),j.hok.kept B,?_⟩
 .exact name_of_addr x.apart (N0 D) (N0 m)
 .have o:d.names.lookup y=some .cell\/d.names.lookup y=some .free:=o;rcases o with o|o
  .exact sL o
  .exact absurd rfl (S.JM _ (N0 o))
 .exact Ta (x.above y c (N0 h))
 .have C:i<vs.length:=by
   unfold start at m;by_cases C:i<vs.length
   .exact C
   .rw[IH (by simpa using C)]at m;rw[YC]at m;split at m<;>cases m
  have T:vs[i]?=some v:=by
   unfold start at m;rw[P3 (by simpa using C),Hb]at m;cases e:vs[i]? with
   |none=>rw[e]at m;cases m
   |some a=>rw[e]at m;cases m;rfl
  obtain⟨u,M,rv⟩:=r.get T;have t:ps[i]?=some y:=by rw[<-S.pre,List.getElem?_take_of_lt (by lia)];exact D
  have O:ps.Nodup:=by rw[<-S.pre];exact S.nd.sublist (List.take_sublist _ _)
  refine⟨u,rv,?_⟩;rcases S.par y (Kx t)with k|k
  .exact .inl ⟨k,pY O t M k⟩
  .obtain⟨c,e⟩:=sL (n:=s.heap.objs.size+1) k;refine .inr ⟨.inl k,c,e,?_⟩;have q:=x.cell y c e;rw[pZ O t M (by show d.names.lookup y≠_;rw[k];decide)]at q;exact q
 .exact j.hok.fresh (Ta (x.above y c (N0 h)))
 .unfold start;show _=N.length;rw[B1,Fh,SC];lia
theorem OU{CX:yy}{P:Program}{w:World}{K:Frag}{F:Str->Option Value}{base:Heap}{k:Nat}{f:Addr}{name d:Str}{h:Arguments}{i:List Stmt}{a:Scope}{Z kV D Y g ct oc:Value}{an od:Option Addr}
 {O:Array (Option Value)}{N ps:List Str}{sp:Sp}(lk:K.lookup f=some ⟨oc,od,.func (fnOf name d h i a Z kV D Y an g ct),O⟩)(T:codeIn K g d=true)(S:eY N ps a)
 (z:∀vs H Q E,sp vs H Q E->vs.length=ps.length)
 (m:∀(A:Around)(c:List Env)(s:Shared)(H:Hp)(vs:List V)(Q:VK)(E:XK),ck k (A.deeper (envOfC d a s.heap.objs.size f g))->sp vs H Q E->
   ∃t,sG (yz CX P w K F base N d a f g A c s H E) i t/\t {nx:=λ_ H'=>Q .aI H',rt:=Q} (start N vs) H):
 bL P w K F base CX (k+1) f (fnOf name d h i a Z kV D Y an g ct) ps sp:=by
 refine⟨z,λA c s H args us vs Q E L C hb r U=>?_⟩;have hl:=z _ _ _ _ U;have KX:K.In s.heap:=C.mod.NB.keeps λb o e=>(C.bs b o e).1;have R:s.heap.NoLimit:=C.mod.nolimit.keeps λb o e=>(C.bs b o e).1;have l:∀y∈ps.zip us,a.names.lookup y.1=some .local\/(a.names.lookup y.1=some .cell/\((cellsFrom (s.heap.objs.size+1) a.names []).lookup y.1).isSome=true):=λ⟨n,v⟩ hy=>by
  rcases S.par n (Pz hy).1 with q|q
  .exact .inl q
  .exact .inr ⟨q,PySem.W.cellsFrom_some _ _ _ (.inl q)⟩
 refine codeAny_call_function L.depth (KX _ _ lk) rfl S.co S.gen rfl (PySem.W.codeRec_of KX T) (hb _ _ _ _ ?_);refine wpAny_newFunctionEnv_cells S.kind l λenv he X x=>?_;subst he;refine⟨R.keeps x.toInCall.keep,codeAny_func ?_⟩;obtain⟨t,ht,hq⟩:=m A c s H vs Q E (L.deeper _) U;have I:Inv (yz CX P w K F base N d a f g A c s H E) [] (start N vs) H X:=yC S L.hd (by have:=L.dp;lia) C hl r x;refine QQ (ht [] X (start N vs) H _ I hq) (λfl M p=>?_) λe M p=>p;have B:∀{j:St}{H':Hp}{v:V}{u:Value},Inv (yz CX P w K F base N d a f g A c s H E) [] j H' M->RelV v u->Q v H'->CE c P w H s Q u M:=
  λ{j H' v u} J rv q=>⟨v,H',J.os,J.bare,J.base,J.hok,rv,q⟩
 cases fl with
 |ret u=>obtain⟨v,j,H',J,rv,q⟩:=p;exact B J rv q
 |next=>obtain⟨j,H',J,q⟩:=p;exact B (v:=V.aI) (u:=Value.none) J rfl q
 |brk=>obtain⟨_,_,_,q⟩:=p;exact Ey q
 |cont=>obtain⟨_,_,_,q⟩:=p;exact Ey q
section
variable{X:Cx}{x:Str}{p pos:Pos}{e:Expr}{es:List Expr}{t:TA}{id T:String}{r:List V->Hp->VK->Prop}
noncomputable def UJ(r:List V->Hp->VK->Prop)(t:TA):TE:=λa H Q=>t a H λb c=>r b c Q
theorem jr(q:bE X (.builtin id) r)(o:Gl X x)(n:X.mg x=none)(l:bootBuiltins x=some (.builtin id))(u:PA X (e::es) t)(m:x≠"__name__":=by decide)(c:(x==("__debug__":Str))=false:=by decide)
 (he:starEach (e::es) X.env=(false,eval e X.env)::starEach es X.env:=by rfl)(b:(backTo pos (starEach es X.env)).any (·.1)=false:=by rfl):PE X (.Call (.Name x p) (e::es) [] pos) (UJ r t):=by
 intro a s d H Q I h;refine Ts (jT I o n l ?_ m c);exact VD (bq (u pos a s d H _ I h) λg i ⟨f,w,v,j,k⟩=>q a i d w f g Q v j k) he b
theorem jX(q:bE X (.type T) r)(o:Gl X x)(n:X.mg x=none)(l:bootBuiltins x=some (.type T))(u:PA X (e::es) t)(m:x≠"__name__":=by decide)(c:(x==("__debug__":Str))=false:=by decide)
 (he:starEach (e::es) X.env=(false,eval e X.env)::starEach es X.env:=by rfl)(b:(backTo pos (starEach es X.env)).any (·.1)=false:=by rfl):PE X (.Call (.Name x p) (e::es) [] pos) (UJ r t):=by
 intro a s d H Q I h;refine Ts (jT I o n l ?_ m c);exact SF (bq (u pos a s d H _ I h) λg i ⟨f,w,v,j,k⟩=>q a i d w f g Q v j k) he b
end
end L2
namespace HT
open PySem PyProof.Rows
noncomputable def lexLt:List Int->List Int->Bool
 |[],[]=>false
 |[],_::_=>true
 |_::_,[]=>false
 |x::b,y::a=>if x=y then lexLt b a else decide (x<y)
theorem mQ(x y:Int)(b a:List Int):lexLt (x::b) (y::a)=if x=y then lexLt b a else decide (x<y):=rfl
theorem oU:lexLt [] []=false:=rfl
theorem mR(y:Int)(a:List Int):lexLt [] (y::a)=true:=rfl
theorem mT(x:Int)(a:List Int):lexLt (x::a) []=false:=rfl
theorem AM(A:Around)(s:Shared)(a:Int)(t:Tok)(c:Int)(u:Tok):∃e,SeqAt.EqAt A s (.int a t) (.int c u) e/\(e=true↔a=c):=
 ⟨(a==c),U2 a t c u,by simp⟩
theorem sM(A:Around)(s:Shared)(a:Int)(t:Tok)(c:Int)(u:Tok)(prog:Program)(w:World)(E:Value->Shared->Prop)(Q:Value->Shared->Prop)(h:Q (.bool (decide (a<c))) s):
 wpAny (model prog w) A (richCompare .Lt (.int a t) (.int c u)) Q E s:=
 (V3 h:wpAny (model prog w) A (compareOp .Lt (.int a t) (.int c u)) Q E s)
section
open PySem.SeqAt
open PySem.AutoSeq1 (wpAny_loadPart')
open PySem.MeetsSeq PySem.MeetsSeq2 PySem.MeetsSeq3
end
section
variable{prog:Program}{w:World}{A:Around}{E:Value->Shared->Prop}{s:Shared}
theorem DW{t b:Addr}{vs a:List Value}{Q:Value->Shared->Prop}(r:IsTup s.heap t vs.toArray)(u:IsTup s.heap b a.toArray)(o:vs≠[])
 (x:a=[]->Q (.ref t) s)(v:a≠[]->Q (.ref s.heap.objs.size) {s with heap:=s.heap.push {cls:=.type "tuple",data:=.seq (vs++a).toArray}})
 (hsz:vs.length+a.length<=sizeLine):wpAny (model prog w) A (binaryOp .Add (.ref t) (.ref b)) Q E s:=by
 obtain⟨⟨cls,q,data,l⟩,j,p,n,hd⟩:=id r;obtain⟨⟨y,h,k,d⟩,c,g,m,f⟩:=id u;simp only at p hd g f;subst p hd g f;have e:vs.toArray++a.toArray=(vs++a).toArray:=by simp
 by_cases i:a=[]
 .exact concat_meets ⟨_,j,rfl⟩ ⟨_,c,rfl⟩ noFill_tuple_add seq_tuple_add PySem.F.slot_tuple_add PySem.F.entry_tuple_add (PySem.F.args_tuple_add_2 _ _)
   (tuple_addW1 t b vs.toArray a.toArray n m q h l d (by simpa using o) (by simp[i])) ⟨j,c,x i⟩
 .refine concat_meets ⟨_,j,rfl⟩ ⟨_,c,rfl⟩ noFill_tuple_add seq_tuple_add PySem.F.slot_tuple_add PySem.F.entry_tuple_add (PySem.F.args_tuple_add_2 _ _)
   (tuple_addW2 t b vs.toArray a.toArray n m q h l d (by simpa using o) (by simpa using i) (by rw[Fm,Fm];exact hsz)) ⟨j,c,?_⟩
  rw[e];exact v i
noncomputable def bV(n d:Nat):Option Int->Nat
 |none=>d
 |some v=>if v<0 then(v+(n:Int)).toNat else min v.toNat n
theorem JN(n d:Nat)(hd:d<=n)(o:Option Int):bV n d o<=n:=by
 cases o with
 |none=>exact hd
 |some v=>
  show(if v<0 then(v+(n:Int)).toNat else min v.toNat n)<=n;by_cases a:v<0
  .rw[Do a];lia
  .rw[Bn a];exact Nat.min_le_right _ _
theorem wB(v:Int)(n d:Nat):(if v<0 then max (v+(n:Int)) 0 else min v (n:Int))=((bV n d (some v):Nat):Int):=by
 show(if v<0 then max (v+(n:Int)) 0 else min v (n:Int))=(((if v<0 then(v+(n:Int)).toNat else min v.toNat n):Nat):Int);by_cases a:v<0
 .simp only[Do a];lia
 .simp only[Bn a];lia
theorem u6(a b:Option Int)(n:Nat):Builtin.Slice.sliceAdjust a b 1 (n:Int)=(((bV n 0 a:Nat):Int),((bV n n b:Nat):Int)):=by
 have c:¬((1:Int)<0):=by lia
 unfold Builtin.Slice.sliceAdjust;simp only[c,if_false];refine Prod.ext ?_ ?_
 .cases a with
  |none=>rfl
  |some v=>exact wB v n 0
 .cases b with
  |none=>rfl
  |some v=>exact wB v n n
theorem u7(i j:Nat):Builtin.Slice.slicePlaces (i:Int) (j:Int) 1=j -i:=by
 unfold Builtin.Slice.slicePlaces;have a:(1:Int)>0:=by lia
 simp only[a,YE,Int.ediv_one];split<;>lia
theorem mU{v:Value}{o:Option Int}{Q:Option Int->Shared->Prop}(p:IsPart v o)(h:Q o s):wpAny (model prog w) A (Builtin.Slice.slicePartIndex v) Q E s:=by
 cases p with
 |none=>exact slicePart_none h
 |int i t=>exact slicePart_int h
theorem jY{g:Addr}{f e:Value}{a c:Option Int}{n:Nat}{Q:Int×Int×Nat->Shared->Prop}(j:s.heap.IsSliceOf g f e .none)(pl:IsPart f a)(i:IsPart e c)
 (h:Q (((bV n 0 a:Nat):Int),1,bV n n c -bV n 0 a) s):wpAny (model prog w) A (Builtin.Slice.sliceApplied (.ref g) (pure (n:Int))) Q E s:=by
 obtain⟨l,b,k,d⟩:=id j;unfold Builtin.Slice.sliceApplied Builtin.Slice.sliceFields;refine Bz (Bz (wpAny_field b d (x:=f) rfl (Bz (wpAny_field b d (x:=e) rfl (Bz (wpAny_field b d (x:=.none) rfl (GM ?_)))))));refine Bz (slicePart_none ?_);show wpAny _ _ (if((1:Int)==0)=true then _ else _) _ _ s;rw[Bn (by decide)];refine Bz (mU pl (Bz (mU i (Bz (GM ?_)))));show wpAny _ _ (match Builtin.Slice.sliceAdjust a c 1 (n:Int)with|(a,c)=>pure (a,(1:Int),Builtin.Slice.slicePlaces a c 1)) _ _ s;rw[u6 a c n];show wpAny _ _ (pure (((bV n 0 a:Nat):Int),(1:Int),Builtin.Slice.slicePlaces ((bV n 0 a:Nat):Int) ((bV n n c:Nat):Int) 1)) _ _ s;rw[u7];exact GM h
theorem AN(a:Array Value)(i k:Nat):((Gr k).filterMap λ(m:Nat)=>a[((i:Int)+(m:Int)*1).toNat]?).toArray=((a.toList.drop i).take k).toArray:=by
 have e:(λ(m:Nat)=>a[((i:Int)+(m:Int)*1).toNat]?)=λm=>a[i+m]?:=by
  funext m;have:((i:Int)+(m:Int)*1).toNat=i+m:=by lia
  rw[this]
 rw[e];have:=pick_run a i k;rw[List.filterMap_map]at this;have b:((λx=>a[x]?)∘λx=>i+x)=λm=>a[i+m]?:=rfl;rw[b]at this;rw[this]
theorem ju{t e:Addr}{items:Array Value}{k j:Value}{a b:Option Int}{Q:Value->Shared->Prop}(d:IsTup s.heap t items)(l:s.heap.IsSliceOf e k j .none)(pl:IsPart k a)(n:IsPart j b)
 (p:¬(bV items.size 0 a=0/\bV items.size items.size b=items.size))
 (h:Q (.ref s.heap.objs.size) {s with heap:=s.heap.push {cls:=.type "tuple",data:=.seq ((items.toList.drop (bV items.size 0 a)).take (bV items.size items.size b -bV items.size 0 a)).toArray}})
 (hsz:items.size<=sizeLine):wpAny (model prog w) A (getItem (.ref t) (.ref e)) Q E s:=by
 have c:sizeOk (.seq ((items.toList.drop (bV items.size 0 a)).take (bV items.size items.size b -bV items.size 0 a)).toArray):=by show((items.toList.drop (bV items.size 0 a)).take (bV items.size items.size b -bV items.size 0 a)).toArray.size<=sizeLine;rw[Fm,Sr,Y9,G1];lia
 have y:bV items.size items.size b<=items.size:=JN _ _ (DL _) b;obtain⟨o,f,i,r⟩:=id l;have u:s.TypeIs (.ref e) "slice":=⟨o,f,i⟩;unfold getItem
 try with_reducible refine YH ?_
 first|refine Bz (GM ?_)|skip
 refine Bz (wpAny_sequenceKey d.typeIs (by decide) ?_);refine Bz (wpAny_callSpecial?_slot (name:=Str.ofString "__getitem__") d.typeIs UF
  (wpAny_call_entry UF d.typeIs entry_tuple_getitem ?_ (args_tuple_getitem _ _)))
 show wpAny _ _ (Builtin.Tuple.tupleItemsOf (.ref t)>>=_) _ _ s;refine Bz (tupleItemsOf_ d ?_);refine Bz (wpAny_typeOf u ?_);rw[Do (by decide)];refine Bz (jY l pl n ?_);have g:¬((((bV items.size 0 a:Nat):Int)==0&&(1:Int)==1&&(bV items.size items.size b -bV items.size 0 a)==items.size)=true):=by intro q;rw[AC,AC]at q;have x:((bV items.size 0 a:Nat):Int)=0:=eq_of_beq q.1.1;have v:bV items.size items.size b -bV items.size 0 a=items.size:=eq_of_beq q.2;exact p ⟨by lia,by lia⟩
 show wpAny _ _ (if(((bV items.size 0 a:Nat):Int)==0&&(1:Int)==1&&(bV items.size items.size b -bV items.size 0 a)==items.size)=true then _ else _) _ _ s;rw[Bn g,AN]
 first
  |exact Bz (m:=Builtin.Tuple.tupleExact _) (QP (GM ⟨_,rfl,GM h⟩) c)
  |exact Bz (m:=Builtin.Tuple.tupleExact _) (QP (Bz (GM (GM ⟨_,rfl,GM h⟩))) c)
  |exact Bz (Bz (m:=Builtin.Tuple.tupleExact _) (QP (GM (GM ⟨_,rfl,GM h⟩)) c))
  |exact Bz (Bz (m:=Builtin.Tuple.tupleExact _) (QP (GM ⟨_,rfl,GM h⟩) c))
end
end HT
namespace L2
open PySem PySem.Spec PyProof.Rows
abbrev TO:=St->Hp->(Option Int->Hp->Prop)->Prop
noncomputable def PO(X:Cx)(e:Option Expr)(t:TO):Prop:=
 ∀(a:List (Addr×Obj))(s:Shared)(b:St)(H:Hp)(Q:Option Int->Hp->Prop),Inv X a b H s->t b H Q->
  wpAny (model X.prog X.w) X.A (evalPart e X.env) (λu d=>∃o c,Inv X a b c d/\IsPart u o/\Q o c) X.xe s
noncomputable def DX:TO:=λ_ H Q=>Q none H
noncomputable def OW(t:TE):TO:=λa H Q=>t a H λx b=>∃i,x=.int i/\Q (some i) b
theorem intsAre_of{a:List Int}:∀{us:List Value},Vals (a.map V.int) us->IntsAre us a:=by
 induction a with
 |nil=>intro us r;rw[YF]at r;cases r;exact .nil
 |cons n a d=>
  intro us r;rw[Ha]at r;cases r with
  |cons c b=>obtain⟨t,e⟩:=c;subst e;exact .cons n t (d b)
section
variable{X:Cx}{e:Expr}{te:TE}{lo hi:Option Expr}{tl th:TO}{pos p2:Pos}
theorem DY:PO X none DX:=by intro a s b H Q I h;rw[evalPart_none];exact GM ⟨none,H,I,.none,h⟩
theorem DZ(h:PE X e te):PO X (some e) (OW te):=by intro a s b H Q I f;rw[evalPart_some];refine bq (h a s b H _ I f) λu k ⟨x,j,g,c,d⟩=>?_;obtain⟨i,rfl,q⟩:=d;obtain⟨t,rfl⟩:=c;exact⟨some i,j,g,.int i t,q⟩
noncomputable def HR(X:Cx)(r:V->Option Int->Option Int->Hp->VK->Prop):Prop:=
 ∀(a:List (Addr×Obj))(s:Shared)(b:St)(H:Hp)(x:V)(v d c:Value)(lo hi:Option Int)(f:Addr)(Q:VK),Inv X a b H s->RelV x v->s.heap.IsSliceOf f d c .none->IsPart d lo->IsPart c hi->r x lo hi H Q->
  ∃T g,typeLookup (.type T) "__getitem__"=pure (some (.builtin g))/\s.TypeIs v T/\wpAny (model X.prog X.w) X.A (getItem v (.ref f)) (EP X a b Q) X.xe s
theorem HR.or{r i:V->Option Int->Option Int->Hp->VK->Prop}(h:HR X r)(h':HR X i):HR X (λx lo hi H Q=>r x lo hi H Q\/i x lo hi H Q):=by
 intro a s b H x v d c lo hi f Q I g l k j q;rcases q with q|q
 .exact h a s b H x v d c lo hi f Q I g l k j q
 .exact h' a s b H x v d c lo hi f Q I g l k j q
noncomputable def V4(r:V->Option Int->Option Int->Hp->VK->Prop)(te:TE)(tl th:TO):TE:=λa H Q=>te a H λx d=>tl a d λl c=>th a c λu b=>r x l u b Q
theorem sN{r:V->Option Int->Option Int->Hp->VK->Prop}(z:HR X r)(he:PE X e te)(B:PO X lo tl)(t:PO X hi th):PE X (.Subscript e (.Slice lo hi none p2) pos) (V4 r te tl th):=by intro a s c H Q I h;refine Subscript_ (bq (he a s c H _ I h) λv i ⟨x,M,K,j,n⟩=>?_);refine wpAny_Slice (bq (B a i c M _ K n) λf s2 ⟨l,L,J,p,m⟩=>bq (t a s2 c L _ J m) λd s3 ⟨u,g,F,o,k⟩=>?_);rw[evalPart_none];refine GM ?_;have E:Inv X a c g {s3 with heap:=s3.heap.push {cls:=.type "slice",data:=.fields #[f,d,.none]}}:=F.kept (t':=s3.toks) λb N q=>Da _ q;obtain⟨T,O,D,y,C⟩:=z a {s3 with heap:=s3.heap.push {cls:=.type "slice",data:=.fields #[f,d,.none]}} c g x v f d l u s3.heap.objs.size Q E j (Heap.IsSliceOf.new ..) p o k;show wpAny (model X.prog X.w) X.A (subscriptTail e (.Slice lo hi none p2) v (.ref s3.heap.objs.size)) (EP X a c Q) X.xe {s3 with heap:=s3.heap.push {cls:=.type "slice",data:=.fields #[f,d,.none]}};exact tail_any (ops:=[.ref s3.heap.objs.size,v]) y D C (by with_unfolding_all rfl)
noncomputable def sO(a:List V)(lo hi:Option Int):List V:=(a.drop (HT.bV a.length 0 lo)).take (HT.bV a.length a.length hi -HT.bV a.length 0 lo)
theorem kR(a:List V)(lo hi:Option Int):(sO a lo hi).length<=a.length:=by unfold sO;rw[Sr,Y9];lia
noncomputable def R7(K:Frag):V->Option Int->Option Int->Hp->VK->Prop:=λx lo hi H Q=>∃a b,x=.ref a/\iK K H a b/\
 ¬(HT.bV b.length 0 lo=0/\HT.bV b.length b.length hi=b.length)/\∀p,H p=none->Q (.ref p) (upd H p (.tup (sO b lo hi)))
theorem JO:HR X (R7 X.K):=by
 intro g s t H x v w u lo hi y Q I j p l k h;obtain⟨a,d,rfl,m,n,q⟩:=h;cases j;obtain⟨f,r,i,hz⟩:=I.tuple m;have c:f.toArray.size=d.length:=by rw[Fm];exact r.length.symm
 refine⟨"tuple",_,UF.lookup,i.typeIs,?_⟩;refine HT.ju i p l k (by rw[c];exact n) ?_ (by rw[c];exact hz);rw[c];refine⟨.ref s.heap.objs.size,_,I.laid (t':=s.toks) (o:=.tup (sO d lo hi)) (λb z q=>Da _ q) (DL _) ?_,rfl,q _ (I.hok.fresh (DL _))⟩;exact⟨GE (kR d lo hi) hz,_,(r.drop (HT.bV d.length 0 lo)).take (HT.bV d.length d.length hi -HT.bV d.length 0 lo),IsTup.new _ _⟩
noncomputable def OX(K:Frag):R2:=λx y H Q=>∃a b d c,x=.ref a/\y=.ref b/\iK K H a d/\iK K H b c/\d≠[]/\d.length+c.length<=sizeLine/\
 (c=[]->Q (.ref a) H)/\(c≠[]->∀p,H p=none->Q (.ref p) (upd H p (.tup (d++c))))
theorem Vals.qH{a:List V}{us:List Value}(r:Vals a us):us=[]↔a=[]:=by
 cases r with
 |nil=>simp
 |cons _ _=>simp
theorem Ea:jj X (binaryOp .Add) (OX X.K):=by intro f s C H x y v u Q I l k h;obtain⟨a,b,j,i,rfl,rfl,B,A,t,hz,n,m⟩:=h;cases l;cases k;obtain⟨r,d,p,_⟩:=I.tuple B;obtain⟨g,c,p2,_⟩:=I.tuple A;refine HT.DW p p2 (λz=>t (d.qH.mp z)) (λz=>⟨.ref a,H,I,rfl,n (c.qH.mp z)⟩) (λz=>?_) (by rw[<-d.length,<-c.length];exact hz);refine⟨.ref s.heap.objs.size,_,I.laid (t':=s.toks) (o:=.tup (j++i)) (λb D q=>Da _ q) (DL _) ?_,rfl,m (λw=>z (c.qH.mpr w)) _ (I.hok.fresh (DL _))⟩;exact⟨by rw[B1];exact hz,_,d.append c,IsTup.new _ _⟩
end
noncomputable def AO(n:Nat)(i:Int):Option Nat:=if 0<=i then(if i<n then some i.toNat else none)else if-(n:Int)<=i then some (i+n).toNat else none
noncomputable def ig{α:Type}(a:List α)(i:Int):Option α:=(AO a.length i).bind λj=>a[j]?
theorem Eb{n:Nat}{i:Int}{j:Nat}(h:AO n i=some j):seqIndex? i n=some j/\j<n/\-(n:Int)<=i/\i<n:=by
 unfold AO at h;by_cases b:0<=i
 .rw[Do b]at h;by_cases a:i<n
  .rw[Do a]at h;have e:i.toNat=j:=Hn h;exact⟨by rw[seqIndex_of b a,e],by lia,by lia,a⟩
  .rw[Bn a]at h;cases h
 .rw[Bn b]at h;by_cases a: -(n:Int)<=i
  .rw[Do a]at h;have e:(i+n).toNat=j:=Hn h;exact⟨by rw[seqIndex_neg (by lia) a,e],by lia,a,by lia⟩
  .rw[Bn a]at h;cases h
theorem qI{α:Type}{a:List α}{i:Int}{v:α}(h:ig a i=some v):∃j,seqIndex? i a.length=some j/\a[j]?=some v/\j<a.length/\-(a.length:Int)<=i/\i<a.length:=by
 unfold ig at h;cases e:AO a.length i with
 |none=>rw[e]at h;cases h
 |some j=>rw[e]at h;obtain⟨f,d,c,b⟩:=Eb e;exact⟨j,f,h,d,c,b⟩
theorem qJ{α:Type}{a:List α}{j:Nat}{v:α}(h:a[j]?=some v):ig a (j:Int)=some v:=by
 have b:j<a.length:=(GT.mp h).1;have e:AO a.length (j:Int)=some j:=by unfold AO;rw[Do (by lia),Do (by lia)];simp
 unfold ig;rw[e];exact h
noncomputable def jv(b:Expr):Prop:=∀o i,subscripted b false o i=operate [o,i] (getItem o i)
noncomputable def Ec(X:Cx)(r:R2):Prop:=
 ∀(c a:Expr)(b:List (Addr×Obj))(s:Shared)(d:St)(H:Hp)(x y:V)(v u:Value)(Q:VK),Inv X b d H s->RelV x v->RelV y u->r x y H Q->
  subscripted a false v u=operate [v,u] (getItem v u)->wpAny (model X.prog X.w) X.A (subscriptTail c a v u) (EP X b d Q) X.xe s
noncomputable def R8(X:Cx)(e:String)(r:V->List V->Hp->VK->Prop):Prop:=
 ∀(a:List (Addr×Obj))(s:Shared)(b:St)(H:Hp)(x:V)(c:List V)(v:Value)(d:List Value)(Q:VK),Inv X a b H s->RelV x v->Vals c d->r x c H Q->
  wpAny (model X.prog X.w) X.A (call (.builtin e) (v::d)) (EP X a b Q) X.xe s
section
variable{X:Cx}{a b:Expr}{ta tb:TE}{pos:Pos}
theorem Ec.or{r j:R2}(h:Ec X r)(h':Ec X j):Ec X (λx y H Q=>r x y H Q\/j x y H Q):=by
 intro c d e s f H x y v u Q I i g q k;rcases q with q|q
 .exact h c d e s f H x y v u Q I i g q k
 .exact h' c d e s f H x y v u Q I i g q k
theorem AQ{r:R2}(i:Ec X r)(k:PE X a ta)(j:PE X b tb)(g:jv b):PE X (.Subscript a b pos) (VR r ta tb):=by intro c s d H Q I h;exact Subscript_ (R1 k j I h λv u s2 x y m l f e q=>i a b c s2 d m x y v u Q l f e q (g _ _))
noncomputable def OY(K:Frag):R2:=λx y H Q=>∃p c i v,x=.ref p/\y=.int i/\iP K H p c/\ig c i=some v/\Q v H
noncomputable def OZ(K:Frag):R2:=λx y H Q=>∃p c i v,x=.ref p/\y=.int i/\iK K H p c/\ig c i=some v/\Q v H
noncomputable def O2:R2:=λx y H Q=>∃z i c,x=.str z/\y=.int i/\z.length<=sizeLine/\ig z.cps.toList i=some c/\Q (.str ⟨#[c]⟩) H
theorem Ed:Ec X (OY X.K):=by
 intro f g c s o H x y v u Q I F E h A;obtain⟨p,R,i,z,rfl,rfl,J,M,q⟩:=h;cases F;obtain⟨t,rfl⟩:=E;obtain⟨m,r,l,hz⟩:=I.list J;obtain⟨j,e,P,T,O,N⟩:=qI M;obtain⟨w,C,k⟩:=r.get P;have L:=r.length;have S:=mP;have d:EP X c o Q w s:=⟨z,H,I,k,q⟩;by_cases B:0<=i
 .have n:i.toNat=j:=by rw[seqIndex_of B N]at e;exact Hn e
  exact item_listR l.isList B (by lia) (by rw[n];simpa using C) d A
 .have n:(i+(m.toArray.size:Int)).toNat=j:=by rw[seqIndex_neg (by lia) O]at e;rw[Fm,<-L];exact Hn e
  exact subscriptTail_builtinR (x:=w) l.isList.typeIs slot_list_getitem.lookup
   (wpAny_getItem_list_neg (Q:=λr D=>r=w/\EP X c o Q r D) l.isList (by lia) (by rw[Fm]<;>lia) (by lia) (by rw[n];simpa using C) ⟨rfl,d⟩) A
theorem JP:Ec X (OZ X.K):=by
 intro d e c s k H x y v u Q I o n h B;obtain⟨p,M,i,z,rfl,rfl,C,E,q⟩:=h;cases o;obtain⟨t,rfl⟩:=n;obtain⟨A,r,l,hz⟩:=I.tuple C;obtain⟨j,J,F,R,P,O⟩:=qI E;obtain⟨w,L,f⟩:=r.get F;have D:=r.length;have N:=mP;have g:EP X c k Q w s:=⟨z,H,I,f,q⟩;exact subscriptTail_builtinR (x:=w) l.typeIs slot_tuple_getitem.lookup
  (getItem_tuple (j:=j) (Q:=λr m=>r=w/\EP X c k Q r m) l (by lia) (by lia) (by rw[Fm,<-D];exact J) (by simpa using L) ⟨rfl,g⟩) B
theorem JQ:Ec X O2:=by
 intro d e f s C H x y v u Q I l k h m;obtain⟨z,i,c,rfl,rfl,hz,o,q⟩:=h;obtain⟨t,rfl⟩:=l;obtain⟨D,rfl⟩:=k;obtain⟨j,g,w,F,r,p⟩:=qI o;have n:z.cps.toList.length=z.length:=by simp[Str.length]
 rw[n]at g r p;have E:=mP;exact tail_any (typeIs_str s z t) slot_str_getitem.lookup (getItem_str (c:=c) (by have B:decide (i< -(2^63:Int))=false:=FM (by lia);have A:decide (i>=2^63)=false:=FM (by lia);rw[B,A,Qr]) (by rw[g];simpa using w) ⟨.str ⟨#[c]⟩,H,I.tok _,⟨_,rfl⟩,q⟩) m
noncomputable def V5(K:Frag):R2:=λx y H Q=>OY K x y H Q\/OZ K x y H Q\/O2 x y H Q
theorem u9:Ec X (V5 X.K):=Ed.or (JP.or JQ)
theorem Inv.lst{d:List (Addr×Obj)}{g:St}{H:Hp}{s:Shared}{p:Addr}{f:List V}(I:Inv X d g H s)(h:H p=some (.lst f)):
 ∃(c:List Value)(n:Nat),Vals f c/\s.heap.get? p=some {cls:=.type "list",data:=.seq c.toArray n}/\f.length<=sizeLine:=by
 obtain⟨z,c,n,r,e⟩:=I.hok p _ h;exact⟨c,n,r,e,z⟩
theorem jw(c d:Option Int)(n:Nat):(sliceBounds c d none n).1=((HT.bV n 0 c:Nat):Int)/\(sliceBounds c d none n).2.1=((HT.bV n n d:Nat):Int)/\(sliceBounds c d none n).2.2=1:=by
 refine⟨?_,?_,rfl⟩
 .cases c with
  |none=>simp[sliceBounds,HT.bV]
  |some i=>
   simp only[sliceBounds,HT.bV,SM,show(1:Int)>0 by decide,YE];by_cases h:i<0
   .simp only[h,YE]<;>lia
   .simp only[h,if_false]<;>lia
 .cases d with
  |none=>simp[sliceBounds,HT.bV]
  |some i=>
   simp only[sliceBounds,HT.bV,SM,show(1:Int)>0 by decide,YE];by_cases h:i<0
   .simp only[h,YE]<;>lia
   .simp only[h,if_false]<;>lia
theorem oV(c:List Value)(d e:Option Int):slicePick c.toArray d e none=((c.drop (HT.bV c.length 0 d)).take (HT.bV c.length c.length e -HT.bV c.length 0 d)).toArray:=by obtain⟨h,g,f⟩:=jw d e c.toArray.size;unfold slicePick;rw[h,g,f];simp only[sliceRange_one,pick_run,Fm]<;>rfl
noncomputable def R9(K:Frag):V->Option Int->Option Int->Hp->VK->Prop:=λx d e H Q=>∃a c,x=.ref a/\iP K H a c/\∀p,H p=none->Q (.ref p) (upd H p (.lst (sO c d e)))
theorem Ef:HR X (R9 X.K):=by intro g s t H x v w u e f y Q I j p l k h;obtain⟨a,c,rfl,n,q⟩:=h;cases j;obtain⟨m,r,i,hz⟩:=I.list n;have d:=r.length;refine⟨"list",_,slot_list_getitem.lookup,i.isList.typeIs,?_⟩;refine wpAny_getItem_list_slice i.isList p l k .none (by simp) ?_ (by rw[Fm]<;>lia);rw[oV,<-d];refine⟨.ref s.heap.objs.size,_,I.laid (t':=s.toks) (o:=.lst (sO c e f)) (λb z q=>Da _ q) (DL _) ?_,rfl,q _ (I.hok.fresh (DL _))⟩;exact⟨GE (kR c e f) hz,_,0,(r.drop (HT.bV c.length 0 e)).take (HT.bV c.length c.length f -HT.bV c.length 0 e),Hk _ rfl⟩
noncomputable def jx:V->Bool
 |.aI=>true
 |.bl _=>true
 |.int _=>true
 |.str _=>true
 |_=>false
noncomputable def HS:V->V->Bool
 |.aI,.aI=>true
 |.bl a,.bl b=>a==b
 |.bl a,.int b=>(if a then 1 else 0)==b
 |.int a,.bl b=>a==(if b then 1 else 0)
 |.int a,.int b=>a==b
 |.str a,.str b=>a==b
 |_,_=>false
theorem JR{A:Around}{s:Shared}{y x:V}{u v:Value}(e:RelV y u)(c:RelV x v)(g:jx y=true)(f:jx x=true):SeqAt.EqAt A s u v (HS y x):=by
 cases y with
 |aI=>
  cases e;cases x with
  |aI=>cases c;exact SeqAt.EqAt.same _
  |bl b=>cases c;exact SeqAt.EqAt.none_bool b
  |int b=>obtain⟨t,rfl⟩:=c;exact SeqAt.EqAt.none_int b t
  |str b=>obtain⟨t,rfl⟩:=c;exact SeqAt.EqAt.none_str b t
  |_=>exact absurd (show false=true from f) Fs
 |bl a=>
  cases e;cases x with
  |aI=>cases c;exact SeqAt.EqAt.bool_none a
  |bl b=>cases c;exact SeqAt.EqAt.bool_bool a b
  |int b=>obtain⟨t,rfl⟩:=c;exact SeqAt.EqAt.bool_int a b t
  |str b=>obtain⟨t,rfl⟩:=c;exact SeqAt.EqAt.bool_str a b t
  |_=>exact absurd (show false=true from f) Fs
 |int a=>
  obtain⟨d,rfl⟩:=e;cases x with
  |aI=>cases c;exact SeqAt.EqAt.int_none a d
  |bl b=>cases c;exact SeqAt.EqAt.int_bool a d b
  |int b=>obtain⟨t,rfl⟩:=c;exact U2 a d b t
  |str b=>obtain⟨t,rfl⟩:=c;exact SeqAt.EqAt.int_str a d b t
  |_=>exact absurd (show false=true from f) Fs
 |str a=>
  obtain⟨d,rfl⟩:=e;cases x with
  |aI=>cases c;exact SeqAt.EqAt.str_none a d
  |bl b=>cases c;exact SeqAt.EqAt.str_bool a d b
  |int b=>obtain⟨t,rfl⟩:=c;exact SeqAt.EqAt.str_int a d b t
  |str b=>obtain⟨t,rfl⟩:=c;exact SeqAt.EqAt.str_str a d b t
  |_=>exact absurd (show false=true from f) Fs
 |_=>exact absurd (show false=true from g) Fs
noncomputable def Eg(x:V)(u:Value):Bool:=match u with
 |.none=>HS .aI x
 |.bool b=>HS (.bl b) x
 |.int i _=>HS (.int i) x
 |.str z _=>HS (.str z) x
 |_=>false
theorem AR{x y:V}{u:Value}(r:RelV y u)(f:jx y=true):Eg x u=HS y x:=by
 cases y with
 |aI=>cases r;rfl
 |bl b=>cases r;rfl
 |int i=>obtain⟨t,rfl⟩:=r;rfl
 |str z=>obtain⟨t,rfl⟩:=r;rfl
 |_=>exact absurd (show false=true from f) Fs
theorem qK{x:V}:∀{c:List V}{us:List Value},Vals c us->c.all jx=true->us.any (Eg x)=c.any λy=>HS y x
 |_,_,.nil,_=>rfl
 |y::c,u::us,.cons r t,f=>by rw[AU,AC]at f;rw[IJ,IJ,AR r f.1,qK t f.2]
theorem mV{A:Around}{s:Shared}{x:V}{v:Value}(e:RelV x v)(g:jx x=true):∀{d:List V}{us:List Value},Vals d us->d.all jx=true->∀u∈us,SeqAt.EqAt A s u v (Eg x u)
 |_,_,.nil,_=>λu c=>by cases c
 |y::d,u::us,.cons r t,f=>λh c=>by
  rw[AU,AC]at f;rcases Ee.mp c with rfl|c
  .rw[AR r f.1];exact JR r e f.1 g
  .exact mV e g t f.2 h c
noncomputable def Q8(x:V)(c:List V):Bool:=c.any λy=>HS y x
noncomputable def V6(K:Frag)(d:Bool):R2:=λx y H Q=>∃p c,y=.ref p/\(iP K H p c\/iK K H p c)/\jx x=true/\c.all jx=true/\Q (.bl (if d then !Q8 x c else Q8 x c)) H
theorem p8:jj X (compareOp .In) (V6 X.K false):=by
 intro j s m H x y v u Q I i l h;obtain⟨p,n,rfl,d,k,e,q⟩:=h;cases l;rcases d with d|d
 .obtain⟨c,r,f,hz⟩:=I.list d;refine SeqAt.in_listAt (Eg x) f.isList (λw g=>mV i k r e w (by simpa using g)) ⟨.bl _,H,I,rfl,?_⟩;rw[show c.toArray.any (Eg x)=c.any (Eg x) by simp,qK r e];exact q
 .obtain⟨c,r,f,hz⟩:=I.tuple d;refine SeqAt.in_tupleAt (Eg x) f (λw g=>mV i k r e w (by simpa using g)) ⟨.bl _,H,I,rfl,?_⟩;rw[show c.toArray.any (Eg x)=c.any (Eg x) by simp,qK r e];exact q
theorem gh:bE X (.builtin "len") (λj H Q=>∃p d,j=[.ref p]/\(iP X.K H p d\/iK X.K H p d)/\Q (.int d.length) H):=by
 intro k s m H j n Q I r h;obtain⟨p,d,rfl,e,q⟩:=h;obtain⟨u,rfl,l⟩:=vals1 r;cases l;have o:=mP;rcases e with e|e
 .obtain⟨i,f,g,hz⟩:=I.list e;have c:=f.length;exact Calls.call_len_list g.isList (by simp only[Fm]<;>lia) ⟨.int d.length,H,I.tok _,⟨s.toks+1,by rw[Fm,c]⟩,q⟩
 .obtain⟨i,f,g,hz⟩:=I.tuple e;have c:=f.length;exact len_tuple g (by simp only[Fm]<;>lia) ⟨.int d.length,H,I.tok _,⟨s.toks+1,by rw[Fm,c]⟩,q⟩
theorem qL:bE X (.builtin "len") (λc H Q=>∃z,c=[.str z]/\z.length<=sizeLine/\Q (.int z.length) H):=by intro d s e H c f Q I r h;obtain⟨z,rfl,hz,q⟩:=h;obtain⟨u,rfl,t,rfl⟩:=vals1 r;have g:=mP;exact len_str (by lia) ⟨.int z.length,H,I.tok _,⟨_,rfl⟩,q⟩
theorem jy:bE X (.type "list") (λA H Q=>∃p f,A=[.ref p]/\(iP X.K H p f\/iK X.K H p f)/\∀l,H l=none->Q (.ref l) (upd H l (.lst f))):=by
 intro j s C H A E Q I r h;obtain⟨p,f,rfl,m,q⟩:=h;obtain⟨u,rfl,D⟩:=vals1 r;cases D;have v:∀(c:List Value),Vals f c->f.length<=sizeLine->∀(d:Heap)(i:Nat),(∀b B,s.heap.get? b=some B->d.get? b=some B)->
  d.get? s.heap.objs.size=some {cls:=.type "list",dict:=none,data:=.seq c.toArray i,slots:= #[]}->EP X j C Q (.ref s.heap.objs.size) {s with heap:=d}:=λc g hz d i k e=>
  ⟨.ref s.heap.objs.size,_,I.laid (t':=s.toks) k (DL _) (show bw X.prog X.w _ d _ (.lst f)from⟨hz,c,i,g,e⟩),rfl,q _ (I.hok.fresh (DL _))⟩
 rcases m with m|m
 .obtain⟨c,g,x,hz⟩:=I.list m;have t:=g.length;obtain⟨o,y,z,n,hd⟩:=x.isList;exact call_list_seq p (.inl rfl) y z hd (λd i k e=>v c g hz d i k e) (by simp only[Fm]<;>lia)
 .obtain⟨c,g,x,hz⟩:=I.tuple m;have t:=g.length;obtain⟨o,y,z,n,hd⟩:=x;exact call_list_seq p (.inr rfl) y z hd (λd i k e=>v c g hz d i k e) (by simp only[Fm]<;>lia)
theorem fD:bE X (.type "tuple") (λn H Q=>∃p f,n=[.ref p]/\((iP X.K H p f/\∀l,H l=none->Q (.ref l) (upd H l (.tup f)))\/(iK X.K H p f/\Q (.ref p) H))):=by
 intro c s m H n A Q I r h;obtain⟨p,f,rfl,h⟩:=h;obtain⟨u,rfl,x⟩:=vals1 r;cases x;rcases h with⟨k,q⟩|⟨k,q⟩
 .obtain⟨d,i,j,hz⟩:=I.list k;have t:=i.length;refine call_tuple_list j.isList (λg y=>?_) (by simp only[Fm]<;>lia);have v:Inv X c m H {s with heap:=g}:=I.kept (t':=s.toks) y;have z:Inv X c m (upd H g.objs.size (.tup f)) {s with heap:=g.push {cls:=.type "tuple",data:=.seq d.toArray}}:=
   v.laid (t':=s.toks) (λb o e=>Da _ e) (DL _) (show bw X.prog X.w _ _ _ (.tup f)from⟨hz,d,i,IsTup.new _ _⟩)
  exact⟨.ref g.objs.size,_,z,rfl,q _ (v.hok.fresh (DL _))⟩
 .obtain⟨d,i,j,hz⟩:=I.tuple k;exact call_tuple_same j ⟨.ref p,H,I,rfl,q⟩
noncomputable def Sa(K:Frag)(T:String)(x:V)(H:Hp):Prop:=match x with
 |.str _=>T="str"
 |.int _=>T="int"
 |.ref p=>(T="list"/\∃d,iP K H p d)\/(T="tuple"/\∃o,K.lookup p=some o/\o.cls=.type "tuple"/\o.dict=none)\/
   (T="dict"/\((∃c,H p=some (.dK c))\/∃c,H p=some (.dT c)))\/(T="set"/\∃S n,H p=some (.set S n))
 |_=>False
theorem AS{f:List (Addr×Obj)}{m:St}{H:Hp}{s:Shared}{T:String}{x:V}{v:Value}(I:Inv X f m H s)(r:RelV x v)(g:Sa X.K T x H):
 s.TypeIs v T/\∀a,v=.ref a->∃l,s.heap.get? a=some l/\l.dict=none:=by
 cases x with
 |str z=>obtain⟨t,rfl⟩:=r;cases(show T="str"from g);exact⟨typeIs_str s z t,λ_ e=>nomatch e⟩
 |int i=>obtain⟨t,rfl⟩:=r;cases(show T="int"from g);exact⟨typeIs_int s i t,λ_ e=>nomatch e⟩
 |ref p=>
  cases r;rcases g with⟨rfl,y,u⟩|⟨rfl,o,d,w,hd⟩|⟨rfl,d⟩|⟨rfl,S,n,d⟩
  .obtain⟨q,_,k,_⟩:=I.list u;refine⟨k.isList.typeIs,λa e=>?_⟩;cases e;obtain⟨o,n,e,c,hd,_⟩:=k;exact⟨o,e,hd⟩
  .refine⟨⟨o,I.jQ p o d,w⟩,λa e=>?_⟩;cases e;exact⟨o,I.jQ _ o d,hd⟩
  .have z:∃o,s.heap.get? p=some o/\o.ExactDict:=by
    rcases d with⟨h,d⟩|⟨h,d⟩
    .obtain⟨_,_,_,_,o,_,_,e,ex,_⟩:=I.hok p _ d;exact⟨o,e,ex⟩
    .obtain⟨_,_,_,_,o,_,_,e,ex,_⟩:=I.hok p _ d;exact⟨o,e,ex⟩
   obtain⟨o,e,ex⟩:=z;refine⟨⟨o,e,ex.1⟩,λa j=>?_⟩;cases j;exact⟨o,e,ex.2.1⟩
  .obtain⟨o,_,_,_,e,ex,_⟩:=I.hok p _ d;refine⟨⟨o,e,ex.1⟩,λa j=>?_⟩;cases j;exact⟨o,e,ex.2.1⟩
 |_=>exact Ey g
noncomputable def Sb(K:Frag)(T:String)(r:V->List V->Hp->VK->Prop)(e:TE):TE:=λd H Q=>e d H λx c=>Sa K T x c/\r x [] c Q
noncomputable def NF(K:Frag)(T:String)(r:V->List V->Hp->VK->Prop)(f:TE)(t:TA):TE:=λc H Q=>f c H λx d=>Sa K T x d/\t c d λe g=>r x e g Q
variable{o e:Expr}{es:List Expr}{to:TE}{t:TA}{name:Str}{apos cpos:Pos}{T id:String}{r:V->List V->Hp->VK->Prop}
theorem JS(q:PlainAttrs T)(g:Slot T name id)(i:typeOf (.builtin id)=pure (.type "method_descriptor"))(w:R8 X id r)(u:PE X o to)
 (f:attributeBase o name X.env (eval o X.env)=eval o X.env:=by rfl)(d:(apos.endLine==cpos.line)=true:=by rfl):PE X (.Call (.Attribute o name apos) [] [] cpos) (Sb X.K T r to):=by
 intro c s j H Q I h;refine wpAny_Call_method0_late f d (bq (u c s j H _ I h) λv n ⟨x,A,l,k,m,p⟩=>?_);obtain⟨z,y⟩:=AS l k m;exact⟨T,id,q,g,i,z,y,Calls.callWith_builtin rfl (PySem.evalArgs_none (w c n j A x [] v [] Q l k .nil p))⟩
theorem p9(C:PlainAttrs T)(i:Slot T name id)(l:typeOf (.builtin id)=pure (.type "method_descriptor"))(F:R8 X id r)(E:PE X o to)(J:PA X (e::es) t)
 (g:attributeBase o name X.env (eval o X.env)=eval o X.env:=by rfl)
 (j:((backTo cpos (starEach (e::es) X.env)).all (λx=>!x.1)&&(backToKw cpos (keywordEach [] X.env)).all (λx=>x.1.isSome)
   &&decide ((e::es).length+([]:List Keyword).length+(if([]:List Keyword).isEmpty then 0 else 1)<30))=true:=by rfl)
 (f:(apos.endLine==cpos.line)=true:=by rfl)(D:starEach (e::es) X.env=(false,eval e X.env)::starEach es X.env:=by rfl)(d:(backTo cpos (starEach es X.env)).any (·.1)=false:=by rfl):
 PE X (.Call (.Attribute o name apos) (e::es) [] cpos) (NF X.K T r to t):=by
 intro c s k H Q I h;refine wpAny_Call_method_late g j f rfl (bq (E c s k H _ I h) λv y ⟨x,P,p,m,w,B⟩=>?_);obtain⟨M,L⟩:=AS p m w;refine⟨T,id,C,i,l,M,L,?_⟩;have n:=J cpos c y k P _ p B;rw[D]at n⊢;refine Calls.callWith_builtin (by show(false||(backTo cpos (starEach es X.env)).any (·.1))=false;rw[d]<;>rfl) (Calls.evalArgs_plain ?_);exact bq n λu s2 ⟨q,O,N,z,A⟩=>F c s2 k O x q v u Q N m z A
end
noncomputable def Sd(X:Cx)(e:String)(r:V->List V->Hp->VK->Prop):Prop:=
 ∀(a:List (Addr×Obj))(s:Shared)(b:St)(H:Hp)(x:V)(c:List V)(v:Value)(d:List Value)(Q:VK),Inv X a b H s->RelV x v->Vals c d->r x c H Q->
  wpAny (model X.prog X.w) X.A (call (.builtin e) (v::d)) (EP X a b Q) X.xe s
theorem Vals.one{x:V}{us:List Value}(h:Vals [x] us):∃u,us=[u]/\RelV x u:=by
 cases h with
 |cons r h=>
  cases h;exact⟨_,rfl,r⟩
theorem Vals.zero:∀{us:List Value},Vals [] us->us=[]
 |_,.nil=>rfl
theorem Vals.dropLast{a:List V}{us:List Value}(h:Vals a us):Vals a.dropLast us.dropLast:=by
 induction h with
 |nil=>exact .nil
 |cons r t b=>
  cases t with
  |nil=>exact .nil
  |cons q c=>exact .cons r b
theorem Vals.reverse{a:List V}{us:List Value}(h:Vals a us):Vals a.reverse us.reverse:=by
 induction h with
 |nil=>exact .nil
 |cons r t b=>rw[Y4,Y4];exact Vals.append b (.cons r .nil)
theorem Vals.rep{a:List V}{us:List Value}(h:Vals a us):∀k:Nat,Vals (A0 k a).flatten (A0 k us).flatten
 |0=>.nil
 |k+1=>by rw[Er,Er,HU,HU];exact Vals.append h (Vals.rep h k)
theorem vd{α:Type}(l:List α):l.eraseIdx (l.length -1)=l.dropLast:=by
 induction l with
 |nil=>rfl
 |cons a r c=>
  cases r with
  |nil=>rfl
  |cons b r=>
   have e:(a::b::r).length -1=((b::r).length -1)+1:=by have f:(a::b::r).length=r.length+2:=rfl;have d:(b::r).length=r.length+1:=rfl;lia
   rw[e,List.eraseIdx_cons_succ,c]
   all_goals rfl
theorem foldl_rep(a:List Value):∀(k:Nat)(b:List Value),
 SW (λd c=>d++c) b.toArray (A0 k a.toArray)=(b++(A0 k a).flatten).toArray
 |0,b=>by simp
 |k+1,b=>by
  have e:b.toArray++a.toArray=(b++a).toArray:=by simp
  have f:(b++a)++(A0 k a).flatten=b++(A0 (k+1) a).flatten:=by rw[Er,HU,KF]
  rw[<-f,<-foldl_rep a k (b++a),<-e,Er,List.foldl_cons]
section
variable{X:Cx}{pins:List (Addr×Obj)}{σ:St}{H:Hp}{s:Shared}{l b:Addr}{xs ys zs:List V}
theorem Inv.JT{a its':List Value}{n:Nat}{f:Array Value->Array Value}{t':Nat}(I:Inv X pins σ H s)(i:H l=some (.lst xs))
 (e:s.heap.get? l=some {cls:=.type "list",data:=.seq a.toArray n})(g:f a.toArray=its'.toArray)(c:Vals ys its')(hz:ys.length<=sizeLine):
 Inv X pins σ (upd H l (.lst ys)) {s with heap:=s.heap.update l (Obj.mapSeq f),toks:=t'}:=by
 have q:=PySem.IsL.update e f;rw[g]at q;refine I.write (x:=l) (e:=l) (by rw[i];exact trivial) (.inl rfl) (λj u h d=>(Heap.get?_update_other s.heap (Obj.mapSeq f) (On h)).trans d) ⟨_,q⟩ ?_;exact⟨hz,its',_,c,q⟩
theorem Inv.O3{a:List Value}{t':Nat}(I:Inv X pins σ H s)(c:Vals ys a)(hz:ys.length<=sizeLine):
 Inv X pins σ (upd H s.heap.objs.size (.lst ys)) {s with heap:=s.heap.push {cls:=.type "list",data:=.seq a.toArray},toks:=t'}:=
 I.laid (λ_ _ q=>Da _ q) (DL _) ⟨hz,a,0,c,Hk _ rfl⟩
theorem Inv.fresh(I:Inv X pins σ H s):H s.heap.objs.size=none:=I.hok.fresh (DL _)
theorem Inv.Eh(I:Inv X pins σ H s)(c:H l=some (.lst xs)):xs.length<=sizeLine/\∃(a:List Value)(n:Nat),Vals xs a/\xs.length=a.length/\s.heap.get? l=some {cls:=.type "list",data:=.seq a.toArray n}:=by obtain⟨z,a,n,r,e⟩:=I.hok l _ c;exact⟨z,a,n,r,r.length,e⟩
theorem sP{n:Nat}(h:n<=sizeLine):Builtin.List.listTooLong n=false:=by unfold Builtin.List.listTooLong;exact FM (by lia)
end
section
variable{X:Cx}
noncomputable def jz:V->List V->Hp->VK->Prop:=λx b H Q=>∃l a y,x=.ref l/\b=[y]/\H l=some (.lst a)/\a.length<sizeLine/\Q .aI (upd H l (.lst (a++[y])))
theorem fN:Sd X "list.append" jz:=by intro b s g H x j v k Q I d rv h;obtain⟨l,i,y,rfl,rfl,c,hz,q⟩:=h;cases d;obtain⟨u,rfl,f⟩:=rv.one;obtain⟨z,a,n,r,m,e⟩:=I.Eh c;refine call_meets F.slot_list_append ⟨_,e,rfl⟩ F.entry_list_append (F.args_list_append_2 _ _) (PySem.list_append l a.toArray n u (by rw[Fm];lia)) ⟨e,?_⟩;refine⟨.aI,_,I.JT (its':=a++[u]) c e (by simp) (r.append (.cons f .nil)) ?_,rfl,q⟩;rw[B1,HK];lia
noncomputable def wD:V->List V->Hp->VK->Prop:=λx d H Q=>∃l b c a,x=.ref l/\d=[.ref b]/\H l=some (.lst c)/\H b=some (.lst a)/\c.length+a.length<=sizeLine/\Q .aI (upd H l (.lst (c++a)))
theorem yD:Sd X "list.extend" wD:=by
 intro f s y H x D v E Q I i rv h;obtain⟨l,b,C,A,rfl,rfl,g,p,hz,q⟩:=h;cases i;obtain⟨u,rfl,j⟩:=rv.one;cases j;obtain⟨z,c,n,r,J,e⟩:=I.Eh g;obtain⟨B,a,m,k,o,t⟩:=I.Eh p;have d:c.toArray.size+a.toArray.size<=sizeLine:=by rw[Fm,Fm];lia
 have w:¬(!c.toArray.isEmpty&&Builtin.List.listTooLong (c.toArray.size+a.toArray.size))=true:=by rw[sP d,Re];exact Fs
 refine call_meets F.slot_list_extend ⟨_,e,rfl⟩ F.entry_list_extend (F.args_list_extend_2 _ _)
  (AutoSeq1.list_extend_list_list_0 l c.toArray n b a.toArray m w (by rw[Fm];lia) (by lia)) ⟨e,t,?_⟩
 refine⟨.aI,_,I.JT (its':=c++a) g e (by simp) (r.append k) ?_,rfl,q⟩;rw[B1];lia
noncomputable def Se:V->List V->Hp->VK->Prop:=λx b H Q=>∃l a y,x=.ref l/\b=[]/\H l=some (.lst a)/\a[a.length -1]?=some y/\Q y (upd H l (.lst a.dropLast))
theorem JU:Sd X "list.pop" Se:=by
 intro c s o H x t v w Q I f rv h;obtain⟨l,p,y,rfl,rfl,d,i,q⟩:=h;cases f;have m:=rv.zero;subst m;obtain⟨z,a,n,r,k,e⟩:=I.Eh d;obtain⟨u,j,g⟩:=r.get i;have b:a.toArray[a.toArray.size -1]?=some u:=by show a.toArray[a.length -1]?=some u;rw[<-Rc,<-k];exact j
 refine call_meets F.slot_list_pop ⟨_,e,rfl⟩ F.entry_list_pop (F.args_list_pop_1 _) (MeetsSeq.list_pop_last l a.toArray n u b (by rw[Fm];lia)) ⟨e,?_⟩;refine⟨y,_,I.JT (its':=a.dropLast) d e ?_ r.dropLast ?_,g,q⟩
 .show a.toArray.eraseIdxIfInBounds (a.toArray.size -1)=a.dropLast.toArray;rw[Fm,List.eraseIdxIfInBounds_toArray,vd]
 .rw[List.length_dropLast];lia
theorem len_rep{α:Type}(a:List α)(k:Nat):(A0 k a).flatten.length=k*a.length:=by
 induction k with
 |zero=>simp
 |succ k b=>rw[Er,HU,B1,b,Nat.succ_mul,Nat.add_comm]
end
section
variable{prog:Program}{w:World}{A:Around}{E:Value->Shared->Prop}{s:Shared}
end
section
variable{X:Cx}
end
end L2
namespace UK
open PySem PySem.W PySem.Calls PyProof.Rows
theorem lE{P:Params}{h:Heap}:∀(c:List Int)(vs:List Value),WellAll P h vs (c.map WData.int)->IntsAre vs c:=by
 intro c
 induction c with
 |nil=>intro vs w;rw[YF]at w;cases w;exact .nil
 |cons n c d=>
  intro vs w;rw[Ha]at w;cases w with
  |cons a b=>
   cases a;exact .cons _ _ (d _ b)
theorem yE{l:OpenLaw}{n:Nat}(v:l.most=some n){P:Params}{h:Heap}{args:List WData}{c:List Value}
 (e:l.row.toRowW.claim.pre args=true)(k:WellAll P h c args):
 ∃a vs b,c=[Value.ref a]/\args=[WData.list (b.map WData.int)]/\h.get? a=some {cls:=.type "list",data:=.seq vs.toArray}/\IntsAre vs b/\b.length<=n:=by
 have m:WShape.hasAll [] args [.list .int]=true:=(pre_splitW e).1;have o:l.pre.holds [] {args:=args}=true:=(pre_splitW e).2;obtain⟨d,r,rfl,y,x⟩:=hasAllW_cons m;obtain rfl:=hasAllW_nil x;obtain⟨z,rfl,w⟩:=hasW_list y;obtain⟨b,rfl⟩:=items_int w;have f:b.length<=n:=by
  unfold OpenLaw.pre at o;have j:(WTm.not (.lt (.lit (.int (n:Int))) (.len (.arg 0)))).holds [] {args:=[.list (b.map .int)]}=true:=by have j:=(holds_andW o).1;rw[v]at j;exact j
  have i:=condW_of j (w_not (w_lt w_lit (w_len_list (w_arg rfl))));rw[Fh]at i;refine Te λq=>?_;have t:(n:Int)<((b.length:Nat):Int):=by lia
  first
   |(rw[FC t]at i;exact absurd i (by decide))
   |(simp at i;lia)
 cases k with
 |cons s p=>
  cases p;cases s with
  |list u g=>exact⟨_,_,b,rfl,rfl,u,lE b _ g,f⟩
theorem yF(l:OpenLaw)(args:List WData):l.row.toRowW.claim.post args (.bool true) args=true:=
 postW_of (r:=l.row.toRowW) (X:=(true==true))
  (show WShape.has [] (.bool true) .bool=true by first|rfl|decide|simp[WShape.has,WShape.arms,WShape.armsAll])
  (show(WTm.eq .res (.lit (.bool true))).value [] {args:=args,res:=some (.bool true),after:=args}=some (.bool (true==true))from w_eq_bool (w_res rfl) w_lit) rfl
theorem sQ{l:OpenLaw}{n:Nat}{q:Program}{e:List Str}{H:(Str->Option Value)->Heap->Prop}{F:World->Heap->Prop}{d:DefRec}
 (L:l.most=some n)(z:d.params.defaults=[])
 (call:∀(w:World)(c b:Shared)(s v:Str->Option Value)(m:Addr)(o:Obj)(u t h:Value)(a:Addr)(vs:List Value)(p:List Int),
   Ground q e [] H w c s v b.heap->F w b.heap->
   b.heap.get? m=some o->o.data=.func (docDef d.name d.params d.body d.scope u t h)->b.heap.CodeRec t d.name->s d.name=some (.ref m)->
   b.heap.get? a=some {cls:=.type "list",data:=.seq vs.toArray}->IntsAre vs p->p.length<=n->b.gens= #[]->
   codeAny (model l.prog w) callerA (.call (.ref m) ⟨[.ref a],[]⟩) (λr s'=>r=.ok (.ret (.bool true))/\OldK b.heap s'.heap/\s'.os=b.os/\AllBare s'.gens) b):
 WalkO q e H F l.row.toRowW d [] (λf vs=>PySem.call f vs):=by
 intro w c b s v G Y m o u t h S kV K hd A D y O E B T i C I x N;obtain rfl:S=.none:=Dflts.none D z;obtain rfl:kV=.none:=Dflts.noKw D;obtain⟨a,vs,p,rfl,rfl,j,g,k⟩:=yE L i x;refine enter_call (Y6 (call w c b s v m o u t h a vs p G Y K (fd_plain hd) A y j g k O) λr s' J=>?_);obtain⟨rfl,R,Q,P⟩:=J;exact⟨.inl ⟨.bool true,.bool true,[],rfl,λ_=>rfl,.bool true,yF l _,λ_=>⟨V0,λ_ M=>(nomatch M)⟩⟩,R,Q,P⟩
section
variable{prog:Program}{w:World}{A:Around}{E:Value->Shared->Prop}{s:Shared}{K:Frag}
end
end UK
namespace L2
open PySem PySem.Spec PyProof.Rows
theorem qa:∀{vs:List Value}{a:List Int},IntsAre vs a->Vals (a.map V.int) vs
 |_,_,.nil=>.nil
 |_,_,.cons n t h=>.cons ⟨t,rfl⟩ (qa h)
noncomputable def AV(H:Hp):Prop:=∀b,H b=none\/∃o a,H b=some (.uK o (.lst a))
theorem AW{P:Program}{w:World}{K:Frag}{t O:Str->Option Value}{CX:yy}{k:Nat}{S a:Addr}{fd:FuncData}{x:Str}{sp:Sp}{c:Shared}{vs:List Value}{p:List Int}
 (KX:K.In c.heap)(A:c.heap.Ns mainGlobals t)(f:c.heap.Ns builtinsNs O)(Dq:∀x:Str,x≠"__name__"->O x=bootBuiltins x)(B:c.heap.NoLimit)(L:c.heap.NoSeer)(O4:P.given.tree=none)(hg:c.gens= #[])
 (C:c.heap.get? a=some {cls:=.type "list",data:=.seq vs.toArray})(Y:IntsAre vs p)(X:p.length<=sizeLine)(hr:ck k callerA)
 (F:∀base:Heap,K.In base->base.Ns mainGlobals t->bL P w K t base CX k S fd [x] sp)(j:∀(s:Shared)(u:Value),BindsTo s fd ⟨[u],[]⟩ [(x,u)])
 (sj:∀H:Hp,AV H->iP K H a (p.map V.int)->sp [.ref a] H (λv _=>v=.bl true) λ_ _ _=>False)
 (Sg:∀H e s',CX [] H c (λ_ _ _=>False) e s'->False):
 codeAny (model P w) callerA (.call (.ref S) ⟨[.ref a],[]⟩) (λr s'=>r=.ok (.ret (.bool true))/\OldK c.heap s'.heap/\s'.os=c.os/\AllBare s'.gens) c:=by
 have rv:=qa Y;have Sh:=Y.length;have g:∀H:Hp,AV H->iP K H a (p.map V.int)->gE P w H c.heap->(∀b,H b≠none->b=a)->(H a≠none->K.lookup a=none)->
  codeAny (model P w) callerA (.call (.ref S) ⟨[.ref a],[]⟩) (λr s'=>r=.ok (.ret (.bool true))/\OldK c.heap s'.heap/\s'.os=c.os/\AllBare s'.gens) c:=by
  intro H Z hS y R hK;have M:∀{b:Addr}{o:Obj},c.heap.get? b=some o->H b=none->(qB c.heap H).get? b=some o:=λe n=>Am e n;have OT:∀{b:Addr}{o:Obj}{D:Array DictEntry}{E:Nat},c.heap.get? b=some o->o.data=.dict D E->H b=none:=λ{b o D E} e d=>by
   cases q:H b with
   |none=>rfl
   |some u=>have I:b=a:=R b (by rw[q];simp);subst I;rw[C]at e;cases e;have T:Data.seq vs.toArray _=Data.dict D E:=d;cases T
  have i:∀{b:Addr}{m:Str->Option Value},c.heap.Ns b m->(qB c.heap H).Ns b m:=λ{b m} ⟨o,D,E,e,d,r⟩=>⟨o,D,E,M e (OT e d),d,r⟩;have UL:K.In (qB c.heap H):=λb o e=>M (KX b o e) (by
   cases q:H b with
   |none=>rfl
   |some u=>have I:b=a:=R b (by rw[q];simp);subst I;rw[hK (by rw[q];simp)]at e;cases e)
  have V8:∀{b:Addr}{o:Obj},c.heap.get? b=some o->o.cls=.type "module"->H b=none:=λ{b o} e d=>by
   cases q:H b with
   |none=>rfl
   |some u=>have I:b=a:=R b (by rw[q];simp);subst I;rw[C]at e;cases e;have T:Value.type "list"=Value.type "module":=d;exact absurd T (by decide)
  have hM:Mod K t (qB c.heap H):=⟨UL,i A,⟨O,i f,Dq⟩,let⟨mc,h1,h2⟩:=B;⟨mc,i h1,h2⟩,⟨let⟨m,h1,h2⟩:=L.statics;⟨m,i h1,h2⟩,let⟨m,h1,h2⟩:=L.mods;⟨m,i h1,h2⟩,let⟨m,h1,h2⟩:=L.imp;⟨m,i h1,h2⟩,let⟨m,bm,N,h1,h2,h3,h4,h5⟩:=L.main;⟨m,bm,N,i h1,h2,M h3 (V8 h3 h4),h4,h5⟩⟩⟩;have e0:u5 P w K t (qB c.heap H) callerA [] c H:=⟨rfl,hM,λb o e=>DC e,OV (yi _ _),trivial,λb f=>absurd (show b∈([]:List Addr)from f) (by simp),y,.of_eq hg,O4⟩;refine Y6 ((F _ UL (i A)).run callerA [] c H ⟨[.ref a],[]⟩ [.ref a] [.ref a] _ _ hr e0 (j c (.ref a)) (.cons rfl .nil) (sj H Z hS)) λr s' h=>?_;cases r with
  |error e=>exact(Sg H e s' h).elim
  |ok fl=>
   cases fl with
   |next=>exact Ey h
   |brk=>exact Ey h
   |cont=>exact Ey h
   |ret u=>
    obtain⟨v,H',os,J,U,Si,r',q⟩:=h;have q':v=.bl true:=q;subst q';obtain rfl:u=Value.bool true:=r';refine⟨rfl,OldK.of_keep λb o e=>?_,os,J⟩;cases q:H b with
    |none=>exact U.keep b o e q (by intro z;exact absurd (show b∈([]:List Addr)from z) (by simp)) (by simp)
    |some u=>
     rcases Z b with z|⟨N,xs,z⟩
     .rw[q]at z;cases z
     .have z2:=U.jS b N _ z;obtain⟨e1,_⟩:=y b _ z;obtain⟨e2,_⟩:=Si b _ z2;rw[e]at e1;cases e1;exact e2
 cases Q:K.lookup a with
 |some o=>have e:=KX a o Q;rw[C]at e;cases e;refine g (λ_=>none) (λ_=>.inl rfl) (.inr ⟨_,vs.toArray,_,Q,rfl,rfl,rfl,by rw[Fm,Sh];exact X,by simpa using rv⟩) (λb u z=>by have l:(none:Option HO)=some u:=z;cases l) (λb z=>absurd rfl z) λz=>absurd rfl z
 |none=>
  refine g (λb=>if b=a then some (.uK {cls:=.type "list",data:=.seq vs.toArray} (.lst (p.map V.int)))else none) (λb=>?_) (.inl (.inr ⟨{cls:=.type "list",data:=.seq vs.toArray},Do rfl⟩)) (λb u z=>?_) (λb z=>?_) λ_=>Q
  .by_cases f:b=a
   .exact .inr ⟨_,_,Do f⟩
   .exact .inl (Bn f)
  .by_cases f:b=a
   .have l:=(Do f).symm.trans z;cases l;subst f;exact⟨C,by rw[Fh];exact X,vs,_,rv,C⟩
   .have l:=(Bn f).symm.trans z;cases l
  .by_cases f:b=a
   .exact f
   .exact absurd (Bn f) z
theorem Ej{l:PySem.W.OpenLaw}{n k:Nat}{q:Program}{i:List Str}{XP:(Str->Option Value)->Heap->Prop}{I:World->Heap->Prop}{d:DefRec}{K:Params->Frag}{CX:World->yy}{sp:World->Sp}{x:Str}
 (N:l.most=some n)(A:n<=sizeLine)(C:d.params.defaults=[])(M:ck k callerA)(Sj:importsNone q=true)(z:l.prog.given.tree=none)
 (R:∀(w:World)(h:Heap),I w h->(K w.params).In h)
 (F:∀(w:World)(m:Str->Option Value)(y:Addr)(h:Heap),(K w.params).In h->h.Ns mainGlobals m->m d.name=some (.ref y)->
   ∃D:FuncData,(∀(s:Shared)(u:Value),BindsTo s D ⟨[u],[]⟩ [(x,u)])/\
    ∀base:Heap,(K w.params).In base->base.Ns mainGlobals m->bL l.prog w (K w.params) m base (CX w) k y D [x] (sp w))
 (L:∀(w:World)(H:Hp)(a:Addr)(t:List Int),t.length<=n->AV H->iP (K w.params) H a (t.map V.int)->sp w [.ref a] H (λv _=>v=.bl true) λ_ _ _=>False)
 (Sg:∀(w:World)(H:Hp)(s:Shared)(e:Value)(s':Shared),CX w [] H s (λ_ _ _=>False) e s'->False):
 PySem.W.WalkO q i XP I l.row.toRowW d [] (λf vs=>PySem.call f vs):=by
 refine UK.sQ N C λw E p m mb y o pm cd Z a vs t G Y ho hd P B r j c O=>?_;have J:=R w _ Y;obtain⟨D,Q,X⟩:=F w m y _ J G.T.g B;exact AW J G.T.g G.T.b G.T.builtins G.T.nolimit (G.T.seer Sj) z O r j (GE c A) M X Q (λH U S=>L w H a t c U S) λH e s'=>Sg w H p e s'
noncomputable def inClass(s:Stmt)(j:Nat):Stmt:=match s with
 |.ClassDef _ _ _ body _ _ _ _ _ _ _=>body.getD j (.Pass ⟨0,0,0,0⟩)
 |_=>.Pass ⟨0,0,0,0⟩
noncomputable def bN(s:Stmt):Arguments:=match s with
 |.FunctionDef _ a _ _ _ _ _ _ _ _=>a
 |_=>{posonlyargs:=[],args:=[],vararg:=none,kwonlyargs:=[],kw_defaults:=[],kwarg:=none,defaults:=[]}
noncomputable def aS(s:Stmt):List Stmt:=match s with
 |.FunctionDef _ _ b _ _ _ _ _ _ _=>b
 |_=>[]
noncomputable def ak(s:Stmt):Scope:=match s with
 |.FunctionDef _ _ _ _ _ _ sc _ _ _=>sc
 |_=>{kind:=.function,names:=[],isGenerator:=false,isCoroutine:=false}
abbrev O5:yy:=λ_ _ _ _ _ _=>False
abbrev E0:XK:=λ_ _ _=>False
structure AX(K:Frag)(x qual:Str)(st:Stmt)(f:Addr)(fd:FuncData):Prop where
 ex:∃(oc:Value)(od:Option Addr)(kV doc pm:Value)(an:Option Addr)(cdv ct:Value)(osl:Array (Option Value)),
  fd=fnOf x qual (bN st) (aS st) (ak st) .none kV doc pm an cdv ct/\K.lookup f=some ⟨oc,od,.func fd,osl⟩/\codeIn K cdv qual=true
 kp:keepIn K (.ref f)=true
section
variable{P:Program}{w:World}{K:Frag}{mg:Str->Option Value}{base:Heap}
theorem AX.binds{x a:Str}{st:Stmt}{f:Addr}{i:FuncData}{ps:List Str}(F:AX K x a st f i)
 (h:∀(kV b d:Value)(g:Option Addr)(c e:Value)(us:List Value),us.length=ps.length->bindArgs (fnOf x a (bN st) (aS st) (ak st) .none kV b d g c e) ⟨us,[]⟩=pure (ps.zip us)):Binds K i ps []:=by
 obtain⟨m,l,kV,b,d,g,c,e,j,rfl,n,k⟩:=F.ex;exact .all (h kV b d g c e)
theorem AY{x a:Str}{st:Stmt}{f:Addr}{m:Value}{j i:Option Addr}{e:Array (Option Value)}{kV d g b h:Value}(l:K.lookup f=some ⟨m,j,.func (fnOf x a (bN st) (aS st) (ak st) .none kV d g i b h),e⟩)
 (c:codeIn K b a=true)(k:keepIn K (.ref f)=true):AX K x a st f (fnOf x a (bN st) (aS st) (ak st) .none kV d g i b h):=⟨⟨m,j,kV,d,g,i,b,h,e,rfl,l,c⟩,k⟩
end
section
variable{X:Cx}
theorem pv(i:Nat){x:Str}{pos:Pos}(c:X.N[i]?=some x:=by rfl)(b:Oh X.env.scope x:=by first|exact Or.inl rfl|exact VH (Or.inl rfl)|exact VH (VH rfl))(hd:(x==("__debug__":Str))=false:=by decide)
 (a:(x==("__classdict__":Str))=false:=by decide):PE X (.Name x pos) (gG i):=Aq c b hd a
end
noncomputable def ao(H H':Hp):Prop:=∀b o,H b=some o->H' b=some o
theorem ao.refl(H:Hp):ao H H:=λ_ _ h=>h
theorem ao.trans{H H1 d:Hp}(a:ao H H1)(b:ao H1 d):ao H d:=λc o h=>b c o (a c o h)
theorem ao.free{H H':Hp}(e:ao H H'){l:Addr}(h:H' l=U3):H l=U3:=by
 cases q:H l with
 |none=>rfl
 |some o=>rw[e l o q]at h;cases h
theorem bits_le{x:Int}{n:Nat}(h:x.natAbs<2^n):Builtin.Int.intBits x<=n:=by
 unfold Builtin.Int.intBits;split
 .exact Mo _
 .rename_i hx
  have a:x.natAbs≠0:=λe=>hx (by simp[Int.natAbs_eq_zero.mp e]);have:=(Rw a).mpr h;omega
theorem ve{i j:Int}(h:Builtin.Int.intBits i+Builtin.Int.intBits j<=134217728):IntMulOk i j:=by
 unfold IntMulOk Builtin.Int.intTooBig;have a:¬((Builtin.Int.intBits i:Int)+(Builtin.Int.intBits j:Int)>((bitsLine:Nat):Int)):=by rw[bitsLine_eq];omega
 intro z;rw[AC]at z;exact a (Ap z.2)
section
variable{X:Cx}
theorem Ek:jj X (binaryOp .Mult) (rI IntMulOk λi j=>.int (i*j)):=OH λ_ _ _ _ _ _ _ a q=>mul_int q a
noncomputable def sR(_ j:Int):Prop:=j≠0/\j.natAbs.log2<1000000000
theorem AZ:jj X (binaryOp .FloorDiv) (rI sR λi j=>.int (i.fdiv j)):=λa s e H x y v u Q I c b h=>by obtain⟨i,j,rfl,rfl,d,q⟩:=h;obtain⟨t,rfl⟩:=c;obtain⟨f,rfl⟩:=b;exact floordiv_int d.1 ⟨.int (i.fdiv j),H,I.tok _,⟨_,rfl⟩,q⟩ (.inr (I.ok.Q4 X.A s rfl rfl I.bk))
end
theorem aG{H:Hp}{p:Addr}(h:H p=none)(o:HO):ao H (upd H p o):=λb u q=>by rw[au (bz q h)];exact q
theorem ao.tup{K:Frag}{H H':Hp}{a:Addr}{b:List V}(e:ao H H')(h:iK K H a b):iK K H' a b:=by
 rcases h with(h|⟨o,h⟩)|h
 .exact .inl (.inl (e _ _ h))
 .exact .inl (.inr ⟨o,e _ _ h⟩)
 .exact .inr h
theorem yG{n:Nat}(h:n<=100000):n<=sizeLine:=GE h (by decide)
end L2
namespace L2
theorem dS{i j:Int}(c:0<=j)(b:j<=1000000)(a:i.natAbs<2^64):uR i j:=⟨c,b,a⟩
end L2
namespace L2
open PySem PySem.Spec PyProof.Rows
theorem sS{H:Hp}{p q:Addr}{o u:HO}(a:H q=some u)(b:H p=none):upd H p o q=some u:=by rw[au (bz a b)];exact a
theorem bw.thing{P:Program}{w:World}{H:Hp}{h:Heap}{a:Addr}{o:HO}(x:bw P w H h a o):∃b,h.get? a=some b:=by
 cases o with
 |lst d=>obtain⟨_,_,_,_,e⟩:=x;exact⟨_,e⟩
 |tup d=>obtain⟨_,_,_,b,e,_⟩:=x;exact⟨_,e⟩
 |dK c=>obtain⟨_,_,_,_,b,_,_,e,_⟩:=x;exact⟨_,e⟩
 |dT c=>obtain⟨_,_,_,_,b,_,_,e,_⟩:=x;exact⟨_,e⟩
 |set S n=>obtain⟨b,_,_,_,e,_⟩:=x;exact⟨_,e⟩
 |ins C l g=>obtain⟨_,_,_,e,_⟩:=x;exact⟨_,e⟩
 |own y=>exact x
 |xd g=>obtain⟨_,⟨_,_,_,e,_⟩,_⟩:=x;exact⟨_,e⟩
 |pS j k=>obtain⟨_,_,_,e⟩:=x;exact⟨_,e⟩
 |uK b u=>obtain⟨e,_⟩:=x;exact⟨_,e⟩
 |HJ i=>exact⟨_,x⟩
 |met f y=>exact⟨_,x⟩
 |ext φ=>obtain⟨_,e,_⟩:=x;exact e
theorem gE.gone{P:Program}{w:World}{H:Hp}{h:Heap}{a:Addr}(x:gE P w H h)(e:h.get? a=none):H a=none:=by
 cases q:H a with
 |none=>rfl
 |some u=>obtain⟨b,z⟩:=(x a u q).thing;rw[e]at z;cases z
theorem gE.tracked{P:Program}{w:World}{H:Hp}{h h':Heap}(x:gE P w H h)(k:∀b u c,H b=some u->h.get? b=some c->h'.get? b=some c):gE P w H h':=λa o e=>
 (x a o e).stay (λb u z q=>by
   rcases z with rfl|z
   .exact k b o u e q
   .exact k b _ u z q) (λ_ q=>q) λ_ _ q=>q
structure V9(P:Program)(w:World)(outer:List Env)(H:Hp)(s:Shared)(H':Hp)(a C:Addr)(s':Shared):Prop where
 os:s'.os=s.os
 bare:AllBare s'.gens
 un:Un (frs outer) [] H H' s.heap s'.heap
 hok:gE P w H' s'.heap
 new:H' a=none
 old:s.heap.get? a=none
 Wa:∃(B:Heap)(a0:Value),Heap.FlyingW B outer a (.ref C) a0 s'.heap/\∀b o,s'.heap.get? b=some o->b∉frs outer->((∃o',s.heap.get? b=some o')\/∃u,H' b=some u)->B.get? b=some o
noncomputable def iL(P:Program)(w:World):yy:=λb H s E e d=>∃a C c,e=.ref a/\V9 P w b H s c a C d/\E (.ref C) none c
section
variable{P:Program}{w:World}{K:Frag}{mg:Str->Option Value}{base:Heap}{N:List Str}{qual:Str}{scope:Scope}{f:Addr}{cd:Value}{A:Around}{outer:List Env}{s:Shared}{H:Hp}{E:XK}
abbrev jk(P:Program)(w:World)(K:Frag)(mg:Str->Option Value)(base:Heap)(N:List Str)(qual:Str)(scope:Scope)(f:Addr)(cd:Value)(A:Around)(outer:List Env)(s:Shared)(H:Hp)(E:XK):Cx:=
 yz (iL P w) P w K mg base N qual scope f cd A outer s H E
theorem mW{e:Env}{l:List Env}{L b:Addr}(a:e.frame=some L):b∈frs (e::l)↔b=L\/b∈frs l:=by unfold frs;rw[Jp,a];exact Ee
theorem sU{g:List (Addr×Obj)}{t:St}{H1 r:Hp}{i:Shared}{p:Heap}(I:Inv (jk P w K mg base N qual scope f cd A outer s H E) g t H1 i)
 (u:Un (frs (jk P w K mg base N qual scope f cd A outer s H E).stack) [] H1 r i.heap p):Un (frs outer) [] H r s.heap p:=by
 have C:(jk P w K mg base N qual scope f cd A outer s H E).env.frame=some s.heap.objs.size:=rfl;have m:∀b,b∈frs (jk P w K mg base N qual scope f cd A outer s H E).stack↔b=s.heap.objs.size\/b∈frs outer:=λb=>mW C;have c:Un (frs outer) [] H H1 s.heap i.heap:=I.base;have D:∀b o,s.heap.get? b=some o->b∉frs outer->b∉frs (jk P w K mg base N qual scope f cd A outer s H E).stack:=λb o q d z=>by
  rcases(m b).mp z with z|z
  .exact absurd (Fk q) (by rw[z];exact Pm _)
  .exact d z
 refine⟨λb o q n d a=>?_,λb o q n d a=>?_,λb o q n a=>?_,λb o q a=>?_,λb l q=>u.tups b l (c.tups b l q),λb o v q=>u.jS b o v (c.jS b o v q),λb x q=>?_⟩
 .exact u.keep b o (c.keep b o q n d a) (c.free b o q n a) (D b o q d) a
 .obtain⟨F,e⟩:=c.slot b o q n d a;obtain⟨h,k⟩:=u.slot b _ e (c.free b o q n a) ((m b).mpr (.inr d)) a;exact⟨h,k⟩
 .obtain⟨j,e⟩:=c.there b o q a;exact u.free b j e (c.free b o q n a) a
 .obtain⟨j,e⟩:=c.there b o q a;exact u.there b j e a
 .obtain⟨B,e⟩:=c.lB b x q;obtain⟨y,k⟩:=u.lB b _ e;exact⟨B++y,by rw[k,SK]⟩
theorem A3{l:List Env}{H1 t:Hp}{p g h:Heap}(u:Un (frs l) [] H1 t p g)(k:∀b o,g.get? b=some o->b∉frs l->((∃c,p.get? b=some c)\/∃u,t b=some u)->h.get? b=some o)
 (ff:∀b,b∈frs l->∃o,g.get? b=some o/\∀vs,o.data≠.fields vs)(up:g.UpToSlots h):Un (frs l) [] H1 t p h:=by
 have v:∀b o,b∈frs l->g.get? b=some o->∃m,h.get? b=some {o with slots:=m}:=λb o a q=>by obtain⟨c,e,x⟩:=ff b a;rw[q]at e;cases e;exact up b o q x
 refine⟨λb o q n a d=>k b o (u.keep b o q n a d) a (.inl ⟨o,q⟩),λb o q n a d=>?_,u.free,λb o q d=>?_,u.tups,u.jS,u.lB⟩
 .obtain⟨m,i⟩:=u.slot b o q n a d;obtain⟨j,r⟩:=v b _ a i;exact⟨j,r⟩
 .obtain⟨c,i⟩:=u.there b o q d;by_cases a:b∈frs l
  .obtain⟨m,r⟩:=v b c a i;exact⟨_,r⟩
  .exact⟨c,k b c i a (.inl ⟨o,q⟩)⟩
theorem A4{b:List (Addr×Obj)}{d:St}{H1:Hp}{c:Shared}{a:Addr}(I:Inv (jk P w K mg base N qual scope f cd A outer s H E) b d H1 c)(e:c.heap.get? a=none):s.heap.get? a=none:=by
 have g:Un (frs outer) [] H H1 s.heap c.heap:=I.base;cases q:s.heap.get? a with
 |none=>rfl
 |some o=>obtain⟨h,z⟩:=g.there a o q (by simp);rw[e]at z;cases z
theorem vf{d:List (Addr×Obj)}{L:St}{H1:Hp}{c:Shared}{h':Heap}{a C:Addr}{j:List Value}(I:Inv (jk P w K mg base N qual scope f cd A outer s H E) d L H1 c)
 (k:Heap.MadeExcOf c.heap h' a (.ref C) j)(q:E (.ref C) none H1):(jk P w K mg base N qual scope f cd A outer s H E).xe (.ref a) {c with heap:=h'}:=by
 have B:(jk P w K mg base N qual scope f cd A outer s H E).env.frame=some s.heap.objs.size:=rfl;have S:∀b,b∈frs (jk P w K mg base N qual scope f cd A outer s H E).stack↔b=s.heap.objs.size\/b∈frs outer:=λb=>mW B;have ff:=I.stack;have n:∀env∈(jk P w K mg base N qual scope f cd A outer s H E).stack,∀b,env.frame=some b->b∈frs (jk P w K mg base N qual scope f cd A outer s H E).stack:=λenv U b p=>N2.mpr ⟨env,U,p⟩;have F:=PySem.W.funFrames_hide ff n;refine wpAny_leaves_madeW (base:=PySem.W.hideAll c.heap (frs (jk P w K mg base N qual scope f cd A outer s H E).stack)) (h:=c.heap) I.ok.frames B (λb o z=>PySem.W.of_hideAll _ z) F k λl t x Z Y O=>?_;have r:∀b o,c.heap.get? b=some o->b∉frs (jk P w K mg base N qual scope f cd A outer s H E).stack->l.get? b=some o:=λb o z g=>x.1 b o (hideAll_get _ z g);have fm:∀b,b∈frs (jk P w K mg base N qual scope f cd A outer s H E).stack->∃o,c.heap.get? b=some o/\∀Q,o.data≠.fields Q:=λb p=>(F.mem p).2;have up:c.heap.UpToSlots l:=(Heap.UpToSlots.of_keeps k.keeps).trans O;have R:Un (frs (jk P w K mg base N qual scope f cd A outer s H E).stack) [] H1 H1 c.heap l:=A3 Un.refl (λb o z g _=>r b o z g) fm up;refine⟨a,C,H1,rfl,⟨I.os,I.bare,sU I R,I.hok.tracked λb u T z M=>r b T M λm=>?_,I.hok.gone k.new,A4 I k.new,_,_,x,λb o z g i=>?_⟩,q⟩
 .have:=I.jn b m;rw[z]at this;cases this
 .have J:b∉frs (jk P w K mg base N qual scope f cd A outer s H E).stack:=λm=>by
   rcases i with⟨y,e⟩|⟨u,e⟩
   .rcases(S b).mp m with m|m
    .exact absurd (Fk e) (by rw[m];exact Pm _)
    .exact g m
   .have:=I.jn b m;rw[e]at this;cases this
  have:∃o1,c.heap.get? b=some o1:=by
   rcases i with⟨y,e⟩|⟨u,e⟩
   .exact Un.there (show Un (frs outer) [] H H1 s.heap c.heap from I.base) b y e (by simp)
   .exact(I.hok b u e).thing
  obtain⟨o1,D⟩:=this;have X:=r b o1 D J;have v:l.get? b=some o:=z;rw[X]at v;cases v;exact hideAll_get _ D J
theorem A5{g:List (Addr×Obj)}{J:St}{H1:Hp}{i s':Shared}{e:Value}(I:Inv (jk P w K mg base N qual scope f cd A outer s H E) g J H1 i)
 (T:iL P w (jk P w K mg base N qual scope f cd A outer s H E).stack H1 i E e s'):(jk P w K mg base N qual scope f cd A outer s H E).xe e s':=by
 obtain⟨a,C,n,rfl,F,q⟩:=T;obtain⟨B,Z,x,k⟩:=F.Wa;have t:(jk P w K mg base N qual scope f cd A outer s H E).env.frame=some s.heap.objs.size:=rfl;have R:∀b,b∈frs (jk P w K mg base N qual scope f cd A outer s H E).stack↔b=s.heap.objs.size\/b∈frs outer:=λb=>mW t;refine wpAny_leaves_onW I.ok.frames t x λX h M=>?_;have fm:∀b,b∈frs (jk P w K mg base N qual scope f cd A outer s H E).stack->∃o,s'.heap.get? b=some o/\∀O,o.data≠.fields O:=λb U=>(x.2.2.1.mem U).2;have D:∀b u,n b=some u->b∉frs (jk P w K mg base N qual scope f cd A outer s H E).stack:=λb u z m=>by have l:=I.jn b m;obtain⟨o,S,_⟩:=I.stack.mem m|>.2;rw[F.un.free b o S l (by simp)]at z;cases z
 have Q:=A3 F.un (λb o z j c=>h.1 b o (k b o z j c)) fm M;refine⟨a,C,n,rfl,⟨F.os.trans I.os,F.bare,sU I Q,F.hok.tracked λb u r z L=>h.1 b r (k b r L (D b u z) (.inr ⟨u,z⟩)),F.new,A4 I F.old,B,Z,h,λb o z j c=>?_⟩,q⟩;have Q9:b∉frs (jk P w K mg base N qual scope f cd A outer s H E).stack:=λm=>by
  rcases c with⟨d,e⟩|⟨u,e⟩
  .rcases(R b).mp m with m|m
   .exact absurd (Fk e) (by rw[m];exact Pm _)
   .exact j m
  .exact D b u e m
 have y:(∃d,i.heap.get? b=some d)\/∃u,n b=some u:=by
  rcases c with⟨d,e⟩|z
  .exact .inl (Un.there (show Un (frs outer) [] H H1 s.heap i.heap from I.base) b d e (by simp))
  .exact .inr z
 have:∃o1,s'.heap.get? b=some o1:=by
  rcases y with⟨d,e⟩|⟨u,e⟩
  .exact F.un.there b d e (by simp)
  .exact(F.hok b u e).thing
 obtain⟨o1,l⟩:=this;have v:=k b o1 l Q9 y;have Y:=h.1 b o1 v;have p:X.get? b=some o:=z;rw[Y]at p;cases p;exact v
theorem HV:Passes (iL P w) (jk P w K mg base N qual scope f cd A outer s H E) E:=λ_ _ _ _ _ _ I h=>A5 I h
end
abbrev Wc:List Value:=[.type "ValueError",.type "Exception",.type "BaseException",.type "object"]
structure Sk(K:Frag)(C:Addr):Prop where
 exc:PySem.W.excIn K C Wc "ValueError.__new__"=true
 ga:findIn K (.ref C) "__getattribute__"=some (some (.builtin "BaseException.__getattribute__"))
 gt:findIn K (.ref C) "__getattr__"=some none
 cl:findIn K (.ref C) "__class__"=some (some (.builtin "object.__class__"))
 ob:mroIn K C (.type "object")=some true
 bs:mroIn K C (.type "BaseException")=some true
theorem Ra{p:Prop}(h:false=true):p:=nomatch h
theorem NG{o:Option Obj}{F:Option Addr->ClassData->Array (Option Value)->Bool}(q:PySem.W.excIn.match_6 (λ_=>Bool) o F (λ_=>false)=true):∃d c l,o=some ⟨.type "type",d,.cls c,l⟩/\F d c l=true:=by
 rcases o with _|⟨b,g,a,f⟩
 .exact Ra q
 cases b with
 |type s=>
  by_cases e:s="type"
  .subst e;cases a with
   |cls h=>exact⟨_,_,_,rfl,q⟩
   |_=>exact Ra q
  .delta PySem.W.excIn.match_6 at q
   exact Ra ((dif_neg e).symm.trans q)
 |_=>exact Ra q
noncomputable def A6(X:Cx)(R:Addr->Hp->Prop):Prop:=∀(b:List (Addr×Obj))(e:St)(H:Hp)(s:Shared)(d:Heap)(a C:Addr)(c:List Value),Inv X b e H s->Heap.MadeExcOf s.heap d a (.ref C) c->R C H->X.xe (.ref a) {s with heap:=d}
theorem wF{P:Program}{w:World}{K:Frag}{d:Str->Option Value}{base:Heap}{N:List Str}{c:Str}{a:Scope}{f:Addr}{g:Value}{A:Around}{b:List Env}{s:Shared}{H:Hp}{E:XK}:
 A6 (jk P w K d base N c a f g A b s H E) (λC H'=>E (.ref C) none H'):=λ_ _ _ _ _ _ _ _ I e q=>vf I e q
section
variable{X:Cx}{x:Str}{C:Addr}{e:Expr}{t:TA}{np cpos pos:Pos}{R:Addr->Hp->Prop}
end
theorem PS.kO{X:Cx}{st:Stmt}{t:TS}(h:PS X.kO st t):PS X st t:=λa s b H D I c=>QQ (h a s b H D (I.oR _) c) (λ_ _ q=>q.gH) λ_ _ z=>Ey z
theorem AX.Rb{P:Program}{w:World}{K:Frag}{i:Str->Option Value}{base:Heap}{x b:Str}{st:Stmt}{f:Addr}{j:FuncData}{N ps:List Str}{k:Nat}{sp:Sp}(F:AX K x b st f j)(S:eY N ps (ak st))
 (d:∀vs H Q E,sp vs H Q E->vs.length=ps.length)
 (o:∀(c:Value)(A:Around)(a:List Env)(s:Shared)(H:Hp)(vs:List V)(Q:VK)(E:XK),ck k (A.deeper (envOfC b (ak st) s.heap.objs.size f c))->sp vs H Q E->
   ∃t,sG (jk P w K i base N b (ak st) f c A a s H E) (aS st) t/\t {nx:=λ_ H'=>Q .aI H',rt:=Q} (start N vs) H):bL P w K i base (iL P w) (k+1) f j ps sp:=by
 obtain⟨u,r,kV,p,q,y,c,v,l,e,m,g⟩:=F.ex;subst e;exact OU m g S d λA a s H vs Q E n h=>o c A a s H vs Q E n h
theorem bL.O7{P:Program}{w:World}{K:Frag}{c:Str->Option Value}{base:Heap}{k:Nat}{f:Addr}{d:FuncData}{ps:List Str}{sp:Sp}(F:bL P w K c base (iL P w) k f d ps sp):
 bL P w K c base O5 k f d ps (λvs H Q _=>sp vs H Q E0):=
 ⟨λvs H Q E h=>F.len vs H Q E0 h,λA a s H b g vs Q E i m j r h=>Y6 (F.run A a s H b g vs Q E0 i m j r h) λr n z=>by
   cases r with
   |error e=>obtain⟨_,_,_,_,_,q⟩:=z;exact q.elim
   |ok l=>cases l<;>exact z⟩
noncomputable def FX(X:Cx)(a:List (Addr×Obj))(d:St)(E:XK)(e:Value)(s':Shared):Prop:=∃c b,Inv X a d c b/\iL X.prog X.w X.stack c b E e s'
section
variable{X:Cx}{k:Nat}{f:Addr}{fd:FuncData}{ps:List Str}{sp:Sp}{x:Str}{p pos:Pos}{e:Expr}{es:List Expr}{t:TA}
end
noncomputable def O8(a C:Addr)(h:Heap):Prop:=∃b c,h.get? a=some b/\b.cls=.ref C/\b.data=.fields c
noncomputable def Sl(a C:Addr):HO:=.ext (O8 a C)
section
variable{X:Cx}{pins:List (Addr×Obj)}{σ:St}{H:Hp}{s:Shared}
end
section
variable{prog:Program}{w:World}{A:Around}{E:Value->Shared->Prop}{s:Shared}{K:Frag}{a C:Addr}
end
inductive O9:V->Value->Prop where
 |own (D:Addr):O9 (.ref D) (.ref D)
 |ty (n:String):O9 (.ty n) (.type n)
section
variable{κ:Type}[DecidableEq κ]
noncomputable def jZ(kvs:List (κ×V))(k:κ):Option V:=(kvs.find? λa=>decide (a.1=k)).map (·.2)
noncomputable def putK(kvs:List (κ×V))(k:κ)(v:V):List (κ×V):=
 if(kvs.any λa=>decide (a.1=k))=true then kvs.map (λa=>if a.1=k then(a.1,v)else a)else kvs++[(k,v)]
theorem jA{p:κ×V}{r:List (κ×V)}{k:κ}(e:p.1=k):jZ (p::r) k=some p.2:=by simp[jZ,JV,e]
theorem jB{p:κ×V}{r:List (κ×V)}{k:κ}(e:¬p.1=k):jZ (p::r) k=jZ r k:=by simp[jZ,JV,e]
theorem sW(k:κ):∀kvs:List (κ×V),(kvs.any λa=>decide (a.1=k))=(jZ kvs k).isSome
 |[]=>rfl
 |p::r=>by
  rw[IJ];by_cases e:p.1=k
  .simp only[jA e,FC e,UM,Option.isSome_some]
  .rw[jB e,FM e,UE];exact sW k r
theorem gJ(kvs:List (κ×V))(k:κ)(v:V):(putK kvs k v).length<=kvs.length+1:=by
 unfold putK;split
 .rw[Fh];omega
 .rw[B1,AE,Gw];omega
theorem gA.yH{o:Option V}{u:Option Value}(r:gA o u):o.isSome=u.isSome:=by
 cases o with
 |none=>cases u with
  |none=>rfl
  |some _=>exact(show False from r).elim
 |some _=>cases u with
  |none=>exact(show False from r).elim
  |some _=>rfl
theorem gA.getD{o:Option V}{u:Option Value}{d:V}{d':Value}(r:gA o u)(rd:RelV d d'):RelV (o.getD d) (u.getD d'):=by
 cases o with
 |none=>cases u with
  |none=>exact rd
  |some _=>exact(show False from r).elim
 |some _=>cases u with
  |none=>exact(show False from r).elim
  |some _=>exact r
theorem KV.val{kvs:List (κ×V)}{vs:List (κ×Value)}(r:KV kvs vs)(k:κ):gA (jZ kvs k) (valueAt vs k):=by
 unfold KV at r
 induction r with
 |nil=>exact Gx
 |@cons p q i a h t f=>
  obtain⟨d,g⟩:=h;by_cases e:p.1=k
  .have c:q.1=k:=d.symm.trans e;have b:valueAt (q::a) k=some q.2:=by simp[valueAt,JV,c]
   rw[jA e,b];exact g
  .have c:¬q.1=k:=λz=>e (d.trans z);have b:valueAt (q::a) k=valueAt a k:=by simp[valueAt,JV,c]
   rw[jB e,b];exact f
theorem KV.any{kvs:List (κ×V)}{vs:List (κ×Value)}(r:KV kvs vs)(k:κ):(kvs.any λa=>decide (a.1=k))=vs.any λa=>decide (a.1=k):=by
 unfold KV at r
 induction r with
 |nil=>rfl
 |cons h t b=>rw[IJ,IJ,b,h.1]
theorem KV.repl{kvs:List (κ×V)}{vs:List (κ×Value)}(r:KV kvs vs)(k:κ){y:V}{u:Value}(c:RelV y u):
 KV (kvs.map λa=>if a.1=k then(a.1,y)else a) (vs.map λa=>if a.1=k then(a.1,u)else a):=by
 unfold KV at r⊢
 induction r with
 |nil=>exact .nil
 |@cons p q i g h t d=>
  rw[Ha,Ha];refine .cons ?_ d;obtain⟨b,f⟩:=h;by_cases e:p.1=k
  .rw[Do e,Do (b.symm.trans e)];exact⟨b,c⟩
  .rw[Bn e,Bn (λz=>e (b.trans z))];exact⟨b,f⟩
theorem KV.put{kvs:List (κ×V)}{vs:List (κ×Value)}(r:KV kvs vs)(k:κ){y:V}{u:Value}(a:RelV y u):KV (putK kvs k y) (stored vs k u):=by
 unfold putK stored;rw[r.any k];by_cases e:(vs.any λb=>decide (b.1=k))=true
 .rw[Do e,Do e];exact r.repl k a
 .rw[Bn e,Bn e];exact Paired.snoc r ⟨rfl,a⟩
theorem KV.keys{kvs:List (κ×V)}{vs:List (κ×Value)}(r:KV kvs vs):kvs.map (·.1)=vs.map (·.1):=by
 unfold KV at r
 induction r with
 |nil=>rfl
 |cons h t a=>rw[Ha,Ha,a,h.1]
theorem KV.length{kvs:List (κ×V)}{vs:List (κ×Value)}(r:KV kvs vs):kvs.length=vs.length:=Paired.length r
end
theorem wG{P:Program}{w:World}{k:Key}{u:Value}(r:RelV (kV k) u):(bu P w).is k u=true:=by
 cases k with
 |inl i=>obtain⟨t,e⟩:=(show∃t,u=Value.int i t from r);subst e;exact sD P w i t
 |inr x=>obtain⟨t,e⟩:=(show∃t,u=Value.str x t from r);subst e;exact sE P w x t
theorem qb{P:Program}{w:World}:∀{a:List Key}{us:List Value},Vals (a.map kV) us->ItemsAre (bu P w) a us
 |[],_,r=>by rw[YF]at r;cases r;exact .nil
 |k::a,_,r=>by
  rw[Ha]at r;cases r with
  |cons h t=>exact .cons (wG h) (qb t)
abbrev KT(H:Hp):List (List Key×V)->List (List Key×Addr×Value)->Prop:=Paired λp q=>p.1=q.1/\H q.2.1=some (.tup (p.1.map kV))/\RelV p.2 q.2.2
theorem KT.val{H:Hp}{kvs:List (List Key×V)}{d:List (List Key×Addr×Value)}(r:KT H kvs d)(k:List Key):gA (jZ kvs k) ((atKey d k).map (·.2)):=by
 induction r with
 |nil=>exact Gx
 |@cons p q j a h t g=>
  obtain⟨f,_,i⟩:=h;by_cases e:p.1=k
  .have c:q.1=k:=f.symm.trans e;have b:atKey (q::a) k=some q.2:=by simp[atKey,JV,c]
   rw[jA e,b];exact i
  .have c:¬q.1=k:=λz=>e (f.trans z);have b:atKey (q::a) k=atKey a k:=by simp[atKey,JV,c]
   rw[jB e,b];exact g
theorem KT.repl{H:Hp}{kvs:List (List Key×V)}{c:List (List Key×Addr×Value)}(r:KT H kvs c)(k:List Key){y:V}{u:Value}(f:RelV y u):
 KT H (kvs.map λb=>if b.1=k then(b.1,y)else b) (c.map (putAt k u)):=by
 induction r with
 |nil=>exact .nil
 |@cons p q l j h t g=>
  rw[Ha,Ha];refine .cons ?_ g;obtain⟨a,d,i⟩:=h;unfold putAt;by_cases e:p.1=k
  .rw[Do e,Do (a.symm.trans e)];exact⟨a,d,f⟩
  .rw[Bn e,Bn (λz=>e (a.trans z))];exact⟨a,d,i⟩
theorem KT.put{H:Hp}{kvs:List (List Key×V)}{a:List (List Key×Addr×Value)}(r:KT H kvs a)(k:List Key){b:Addr}{y:V}{u:Value}(f:H b=some (.tup (k.map kV)))(c:RelV y u):
 KT H (putK kvs k y) (storedH a k b u):=by
 have e:(kvs.any λd=>decide (d.1=k))=(atKey a k).isSome:=by rw[sW,(r.val k).yH,Option.isSome_map]
 unfold putK storedH;rw[e];by_cases q:(atKey a k).isSome=true
 .rw[Do q,Do q];exact r.repl k c
 .rw[Bn q,Bn q];exact Paired.snoc r ⟨rfl,f,c⟩
theorem KT.keeps{H H':Hp}{kvs:List (List Key×V)}{c:List (List Key×Addr×Value)}(r:KT H kvs c)(d:∀b a,H b=some (.tup a)->H' b=some (.tup a)):KT H' kvs c:=
 Paired.Jo r λ_ _ z=>⟨z.1,d _ _ z.2.1,z.2.2⟩
section
variable{P:Program}{w:World}{H:Hp}{h:Heap}{a:Addr}
theorem HW{u:HO}(ok:gE P w H h)(e:Rd H a u):bw P w H h a u:=e.ok ok
theorem wH{kvs:List (Key×V)}(b:gE P w H h)(e:Rd H a (.dK kvs)):kvs.length<=sizeLine/\(a==sysModules)=false/\∃vs,KV kvs vs/\h.DictOf (bu P w) a vs:=
 show bw P w H h a (.dK kvs)from HW b e
theorem HX{kvs:List (Key×V)}(b:gE P w H h)(e:H a=some (.dK kvs)):kvs.length<=sizeLine/\(a==sysModules)=false/\∃vs,KV kvs vs/\h.DictOf (bu P w) a vs:=wH b (.inl e)
theorem vg{b:List Key}(d:gE P w H h)(e:H a=some (.tup (b.map kV))):(tupleKind (bu P w)).is h b a:=by obtain⟨_,c,r,o,i,g,n,f⟩:=(show bw P w H h a (.tup (b.map kV))from d a _ e);exact⟨o,c.toArray,n,i,g,f,by simpa using qb r⟩
theorem A7{kvs:List (List Key×V)}(f:gE P w H h)(e:Rd H a (.dT kvs)):kvs.length<=sizeLine/\(a==sysModules)=false/\
 ∃c,KT H kvs c/\h.DictOfH (tupleKind (bu P w)) a c:=by
 obtain⟨z,y,c,r,o,v,A,u,s,n,k,j⟩:=(show bw P w H h a (.dT kvs)from HW f e);refine⟨z,y,c,r,o,v,A,u,s,n,k,λx b=>?_,j⟩;have d:∀{l:List (List Key×V)}{m:List (List Key×Addr×Value)},KT H l m->∀x∈m,(tupleKind (bu P w)).is h x.1 x.2.1:=by
  intro l m q
  induction q with
  |nil=>intro x b;exact nomatch b
  |@cons p q C B g t i=>
   intro x b;rcases Ee.mp b with e|b
   .subst e;exact vg f (by rw[<-g.1];exact g.2.1)
   .exact i x b
 exact d r x b
theorem Pa{kvs:List (List Key×V)}(c:gE P w H h)(e:H a=some (.dT kvs)):kvs.length<=sizeLine/\(a==sysModules)=false/\
 ∃b,KT H kvs b/\h.DictOfH (tupleKind (bu P w)) a b:=A7 c (.inl e)
end
noncomputable def yI(H:Hp)(a:Addr)(y:V)(r:Option V):Prop:=
 (∃c k,Rd H a (.dK c)/\y=kV k/\r=jZ c k)\/∃c k b,Rd H a (.dT c)/\y=.ref b/\H b=some (.tup (k.map kV))/\r=jZ c k
noncomputable def A8(H:Hp)(a:Addr)(y v:V)(H':Hp):Prop:=
 (∃c k,H a=some (.dK c)/\y=kV k/\c.length<sizeLine/\H'=upd H a (.dK (putK c k v)))\/
 ∃c k b,H a=some (.dT c)/\y=.ref b/\H b=some (.tup (k.map kV))/\c.length<sizeLine/\H'=upd H a (.dT (putK c k v))
theorem yI.k{H:Hp}{a:Addr}{kvs:List (Key×V)}{k:Key}(e:H a=some (.dK kvs)):yI H a (kV k) (jZ kvs k):=.inl ⟨kvs,k,.inl e,rfl,rfl⟩
theorem A8.k{H:Hp}{a:Addr}{kvs:List (Key×V)}{k:Key}{v:V}(e:H a=some (.dK kvs))(b:kvs.length<sizeLine):A8 H a (kV k) v (upd H a (.dK (putK kvs k v))):=.inl ⟨kvs,k,e,rfl,b,rfl⟩
section
variable{X:Cx}{pins:List (Addr×Obj)}{σ:St}{H:Hp}{s:Shared}{a:Addr}{y v:V}{u r:Value}{o:Option V}{A:Around}{E:Value->Shared->Prop}
theorem Inv.big(I:Inv X pins σ H s):sysModules<s.heap.objs.size:=by have h:mainGlobals<s.heap.objs.size:=(I.mod.glob.keeps I.bk).lt;exact Nat.lt_trans (by decide) h
theorem yJ{Q:Value->Shared->Prop}(B:A.units+1<cLine)(I:Inv X pins σ H s)(g:yI H a y (some v))(q:RelV y u)(h:∀w' s',Inv X pins σ H s'->RelV v w'->Q w' s'):
 wpAny (model X.prog X.w) A (getItem (.ref a) u) Q E s:=by
 rcases g with⟨f,k,e,m,l⟩|⟨f,k,b,e,m,D,l⟩
 .subst m;obtain⟨z,hd,x,d,n⟩:=wH I.hok e;obtain⟨w',i,c⟩:=gA.some_of (v:=v) (o:=valueAt x k) (by rw[l];exact d.val k);exact wpAny_getItem_of (wG q) n.mapOf i (h w' _ (I.tok _) c)
 .subst m;cases(show u=Value.ref b from q);obtain⟨z,hd,t,d,n⟩:=A7 I.hok e;obtain⟨w',i,c⟩:=gA.some_of (v:=v) (o:=(atKey t k).map (·.2)) (by rw[l];exact d.val k);obtain⟨p,C,j⟩:=Kb.mp i;refine wpAny_getItem_heap (tupleKind_room_in1 B) (vg I.hok D) n C ?_;rw[j];exact h w' _ (I.tok _) c
theorem qN{h':Heap}{t':Nat}{c:HO}(I:Inv X pins σ H s)(f:Of (H a))(g:Heap.SameBut a s.heap h')(he:∃q,h'.get? a=some q)(d:bw X.prog X.w (upd H a c) h' a c):
 Inv X pins σ (upd H a c) {s with heap:=h',toks:=t'}:=
 I.write (x:=a) (e:=a) f (.inl rfl) (λb q h z=>(g.2 b h).trans z) he d
theorem A9{P:Program}{w:World}{H':Hp}{h':Heap}{kvs:List (Key×V)}{vs:List (Key×Value)}(z:kvs.length<=sizeLine)(hd:(a==sysModules)=false)(b:KV kvs vs)(c:h'.DictOf (bu P w) a vs):
 bw P w H' h' a (.dK kvs):=⟨z,hd,vs,b,c⟩
theorem yK{H':Hp}{Q:Unit->Shared->Prop}(L:A.units+1<cLine)(I:Inv X pins σ H s)(g:A8 H a y v H')(B:RelV y u)(rv:RelV v r)(h:∀s',Inv X pins σ H' s'->Q () s'):
 wpAny (model X.prog X.w) A (setItem (.ref a) u r) Q E s:=by
 rcases g with⟨f,k,e,p,l,t⟩|⟨f,k,b,e,p,F,l,t⟩
 .subst p t;obtain⟨z,hd,K,d,x⟩:=HX I.hok e;have hz:K.length<=sizeLine:=by rw[<-d.length];exact z
  have n:(putK f k v).length<=sizeLine:=by have:=gJ f k v;omega
  refine wpAny_setItem_pairs (hsz:=hz) (wG B) x λC j m=>h _ ?_;have M:∃q,C.get? a=some q:=let⟨q,_,_,i,_⟩:=j;⟨q,i⟩
  exact qN I (by rw[e];exact Gx) m M (A9 n hd (d.put k rv) j)
 .subst p t;cases(show u=Value.ref b from B);obtain⟨z,hd,J,d,x⟩:=Pa I.hok e;have hz:J.length<=sizeLine:=by rw[<-Paired.length d];exact z
  have n:(putK f k v).length<=sizeLine:=by have:=gJ f k v;omega
  refine wpAny_setItem_heap (hsz:=hz) (tupleKind_room_in1 L) (vg I.hok F) x λC j m=>h _ ?_;obtain⟨q,S,T,i,R,P,O,_,N⟩:=j;refine qN I (by rw[e];exact Gx) m ⟨q,i⟩ ⟨n,hd,_,(d.put k F rv).keeps λc U D=>?_,q,S,T,i,R,P,O,N⟩;rw[au (Oe D e (λz=>nomatch z))];exact D
end
section
variable{X:Cx}{pins:List (Addr×Obj)}{σ:St}{H:Hp}{s:Shared}{a:Addr}{kvs:List (Key×V)}{k:Key}{u:Value}{A:Around}{E:Value->Shared->Prop}
end
noncomputable def JX(i:Expr):Prop:=∀a b,subscripted i false a b=operate [a,b] (getItem a b)
theorem El{prog:Program}{w:World}{A:Around}{E:Value->Shared->Prop}{s:Shared}{env:Env}{b a:Expr}{pos:Pos}{T m:String}{Q:Value->Shared->Prop}
 (p:typeLookup (.type T) "__getitem__"=pure (some (.builtin m)))(n:JX a)
 (h:wpAny (model prog w) A (eval b env) (λo f=>wpAny (model prog w) A (eval a env) (λi c=>c.TypeIs o T/\wpAny (model prog w) A (getItem o i) Q E c) E f) E s):
 wpAny (model prog w) A (eval (.Subscript b a pos) env) Q E s:=by
 refine Subscript_ (QQ h (λo f k=>QQ k (λi c d=>?_) λ_ _ x=>x) λ_ _ x=>x);obtain⟨l,d⟩:=d;unfold subscriptTail;refine Bz ?_;rw[getitemInPython_of_ne l.not_modules];refine Bz (wpAny_specialOf l p ?_);have g:wpAny (model prog w) A (subscripted a false o i) (λr e=>wpAny (model prog w) A (letTemporaryGo b o r>>=λ_=>pure r) Q E e) E c:=by rw[n o i];exact wpAny_operating (QQ d (λr e j=>Bz (wpAny_letTemporaryGo (GM j))) λ_ _ x=>x)
 first
  |exact GM (Bz g)
  |exact Bz (GM (Bz g))
  |exact Bz g
theorem sX{X:Cx}{c:List (Addr×Obj)}{h:St}{H:Hp}{s:Shared}{a:Addr}{y:V}{o:Option V}(I:Inv X c h H s)(g:yI H a y o):s.TypeIs (.ref a) "dict":=by
 rcases g with⟨d,k,e,_,_⟩|⟨d,k,b,e,_,_,_⟩
 .obtain⟨_,_,j,_,f⟩:=wH I.hok e;exact f.typeIs
 .obtain⟨_,_,i,_,f⟩:=A7 I.hok e;exact f.typeIs
noncomputable def Pb(e d:TE):TE:=λb H Q=>e b H λx f=>d b f λy c=>∃a v,x=.ref a/\yI c a y (some v)/\Q v c
section
variable{X:Cx}{o i e value:Expr}{pos pos' tpos:Pos}{td ty tv:TE}
theorem Em(p:X.A.units+1<cLine)(r:PE X o td)(t:PE X i ty)(q:JX i):PE X (.Subscript o i pos) (Pb td ty):=by intro b s d H Q I h;refine El PySem.F.slot_dict_getitem.lookup q (bq (r b s d H _ I h) λu j ⟨x,C,z,l,n⟩=>bq (t b j d C _ z n) λE s2 ⟨y,B,f,k,a,v,ex,g,m⟩=>?_);subst ex;obtain rfl:u=Value.ref a:=l;exact⟨sX f g,yJ p f g k λD s3 w c=>⟨v,B,w,c,m⟩⟩
end
theorem sY{P:Program}{w:World}{H:Hp}(h:Heap)(a:sysModules<h.objs.size):bw P w H (h.push {cls:=.type "dict",data:=.dict #[]}) h.objs.size (.dK []):=
 ⟨Mo _,PP.mpr (On (Jn a)),[],.nil,Heap.DictOf.new h⟩
noncomputable def JY:TE:=λ_ H Q=>∀p,H p=none->Q (.ref p) (upd H p (.dK []))
section
variable{X:Cx}{pos:Pos}
theorem Ba:PE X (.Dict [] [] pos) JY:=λb s c H Q I h=>wpAny_Dict_empty ⟨.ref s.heap.objs.size,_,I.laid (a:=s.heap.objs.size) (o:=.dK []) (t':=s.toks) (λ_ _ q=>Da _ q) (DL _) (sY s.heap I.big),rfl,h _ (I.hok.fresh (DL _))⟩
end
noncomputable def qO:List (TE×TE)->St->Hp->(List (V×V)->Hp->Prop)->Prop
 |[],_,H,Q=>Q [] H
 |(tk,tv)::r,σ,H,Q=>tk σ H λx H1=>tv σ H1 λy b=>qO r σ b λps a=>Q ((x,y)::ps) a
abbrev VV:List (V×V)->List (Value×Value)->Prop:=Paired λp q=>RelV p.1 q.1/\RelV p.2 q.2
noncomputable def Pc(X:Cx)(pos:Pos)(c:List (Option Expr))(a:List Expr)(i:List (TE×TE)):Prop:=
 ∀(b:List (Addr×Obj))(s:Shared)(d:St)(H:Hp)(Q:List (V×V)->Hp->Prop),Inv X b d H s->qO i d H Q->
  wpAny (model X.prog X.w) X.A (evalPairs (pairTrees c a X.env pos)) (λg h=>∃e f,Inv X b d f h/\VV e g/\Q e f) X.xe s
theorem Eo{X:Cx}{pos:Pos}:Pc X pos [] [] []:=λa s b H Q I h=>pairTrees_nil_walk ⟨[],H,I,.nil,h⟩
theorem Bb{X:Cx}{pos:Pos}{k v:Expr}{f:List (Option Expr)}{vs:List Expr}{e d:TE}{g:List (TE×TE)}(t:PE X k e)(q:PE X v d)(r:Pc X pos f vs g):
 Pc X pos (some k::f) (v::vs) ((e,d)::g):=λa s b H Q I h=>
 pairTrees_cons_walk (bq (t a s b H _ I h) λu i ⟨x,D,A,l,o⟩=>bq (q a i b D _ A o) λF s2 ⟨y,C,z,j,n⟩=>bq (r a s2 b C _ z n) λE s3 ⟨p,B,w,c,m⟩=>⟨(x,y)::p,B,w,.cons ⟨l,j⟩ c,m⟩)
noncomputable def iR(kvs a:List (Key×V)):List (Key×V):=a.foldl (λb c=>putK b c.1 c.2) kvs
theorem KV.merge:∀{a:List (Key×V)}{b:List (Key×Value)}{kvs:List (Key×V)}{vs:List (Key×Value)},KV a b->KV kvs vs->KV (iR kvs a) (merged vs b):=by
 intro a b kvs vs r;unfold KV at r
 induction r generalizing kvs vs with
 |nil=>intro q;exact q
 |@cons p q g f h t d=>
  intro c;have e:KV (putK kvs p.1 p.2) (stored vs q.1 q.2):=by have:=c.put p.1 h.2;rw[<-h.1];exact this
  exact d e
theorem iM:∀(a kvs:List (Key×V)),(iR kvs a).length<=kvs.length+a.length
 |[],kvs=>by show kvs.length<=kvs.length+0;omega
 |p::r,kvs=>by have h1:=iM r (putK kvs p.1 p.2);have b:=gJ kvs p.1 p.2;show(iR (putK kvs p.1 p.2) r).length<=_;rw[AE];omega
theorem mX{P:Program}{w:World}:∀{kvs:List (Key×V)}{e:List (Value×Value)},VV (kvs.map λf=>(kV f.1,f.2)) e->∃d,Carries (bu P w) e d/\KV kvs d
 |[],_,r=>by rw[YF]at r;cases r;exact⟨[],Gx,.nil⟩
 |p::kvs,_,r=>by
  rw[Ha]at r;cases r with
  |@cons a b k i h t=>obtain⟨d,c,q⟩:=mX (P:=P) (w:=w) t;obtain⟨j,g⟩:=b;exact⟨(p.1,g)::d,⟨wG h.1,rfl,c⟩,.cons ⟨rfl,h.2⟩ q⟩
noncomputable def Pd(f:List (TE×TE)):TE:=λd H Q=>∀p,H p=none->qO f d (upd H p (.dK [])) λe c=>c p=some (.dK [])/\∃a:List (Key×V),e=a.map (λb=>(kV b.1,b.2))/\a.length<=15/\Q (.ref p) (upd c p (.dK (iR [] a)))
theorem Ep{X:Cx}{pos:Pos}{b:List (Option Expr)}{d:List Expr}{m:List (TE×TE)}(h:Pc X pos b d m)(i:b.all (·.isSome)=true)(y:b.length=d.length)(C:b≠[])
 (F:b.length<=15):PE X (.Dict b d pos) (Pd m):=by
 intro f s n H Q I q;have x:=I.hok.fresh (DL s.heap.objs.size);have J:=I.laid (a:=s.heap.objs.size) (o:=.dK []) (h':=s.heap.push {cls:=.type "dict",data:=.dict #[]}) (t':=s.toks) (λ_ _ q=>Da _ q) (DL _) (sY s.heap I.big);refine wpAny_Dict_walk (knd:=bu X.prog X.w) i y C F (bq (h f _ n _ _ J (q _ x)) λK s2 ⟨L,O,l,j,e,g,D,M,u⟩=>?_);subst D;obtain⟨p,c,r⟩:=mX (P:=X.prog) (w:=X.w) j;obtain⟨z,hd,N,t,E⟩:=HX l.hok e;cases t;refine⟨p,c,E,λh' k v=>⟨.ref s.heap.objs.size,_,?_,rfl,u⟩⟩;have hz:(iR [] g).length<=sizeLine:=by have B:=iM g [];rw[Gw]at B;rw[sizeLine_eq];omega
 have A:∃q,h'.get? s.heap.objs.size=some q:=let⟨q,_,_,hq,_⟩:=k;⟨q,hq⟩
 exact qN l (by rw[e];exact Gx) v A (A9 hz hd (r.merge .nil) k)
structure M2(X:Cx)(o:Expr)(m:Str)(apos:Pos)(e f:Expr)(cpos:Pos):Prop where
 base:attributeBase o m X.env (eval o X.env)=eval o X.env
 few:((backTo cpos (starEach [e,f] X.env)).all (λx=>!x.1)&&(backToKw cpos (keywordEach [] X.env)).all (λx=>x.1.isSome)
  &&decide (([e,f]:List Expr).length+([]:List Keyword).length+(if([]:List Keyword).isEmpty then 0 else 1)<30))=true
 line:(apos.endLine==cpos.line)=true
 trees:backTo cpos (starEach [e,f] X.env)=[(false,eval e X.env),(false,eval f X.env)]
section
variable{X:Cx}{pins:List (Addr×Obj)}{σ:St}{H:Hp}{s:Shared}{a:Addr}{y d:V}{u r:Value}{o:Option V}{A:Around}{E:Value->Shared->Prop}
end
section
variable{X:Cx}{o e f:Expr}{apos cpos:Pos}{td ty tx:TE}
end
section
variable{X:Cx}{pins:List (Addr×Obj)}{σ:St}{H:Hp}{s:Shared}{a:Addr}{kvs:List (Key×V)}{A:Around}{E:Value->Shared->Prop}
end
section
variable{X:Cx}{pins:List (Addr×Obj)}{σ:St}{H:Hp}{s:Shared}{a:Addr}{y:V}{u:Value}{A:Around}{E:Value->Shared->Prop}
end
end L2
namespace L2
open PySem PySem.Spec PyProof.Rows PySem.W
variable{X:Cx}
theorem Bc{prog:Program}{w:World}{A:Around}{E:Value->Shared->Prop}{s:Shared}{T:String}{r d:Addr}{n:Nat}{P:Nat->Value->Prop}{v:Heap->Prop}{R:List Value->Shared->Prop}(K:KdlSrc prog w T r d n P v)(B:A.handled=none)(p:v s.heap)(z:n<=sizeLine)
 (h:∀(g:Heap)(i:Nat)(a:Array Value),s.heap.objs.size<g.objs.size->(∀b o,s.heap.get? b=some o->g.get? b=some o)->ItemsOf P a n->R a.toList {s with heap:=g,toks:=i}):wpAny (model prog w) A (collect (.ref r)) R E s:=by
 have u:=K.there _ p;unfold collect;refine Bz (wpAny_runValue (codeAny_builtin entry_proto_collect' ?_));rw[X9 PySem.F.plain_proto_collect _];show wpAny _ A.in1 (newList []>>=λl=>again (.builtin "list.__iadd__" ⟨[l,.ref r],[]⟩)) _ _ s;refine Bz (QP ?_);refine GM ⟨plainId_quiet PySem.F.plain_list_iadd _,codeAny_builtin entry_list_iadd' ?_⟩;rw[X9 PySem.F.plain_list_iadd _];have D:(s.heap.push {cls:=.type "list",data:=.seq ([]:List Value).toArray}).get? s.heap.objs.size=some {cls:=.type "list",data:=.seq #[]}:=Hk _ rfl;show wpAny _ A.in1 (Builtin.List.listExtendWith (.ref s.heap.objs.size) (.ref r) (.ref s.heap.objs.size)) _ _ _;have m:=kdl_extend (A:=A) (s:={s with heap:=s.heap.push {cls:=.type "list",data:=.seq ([]:List Value).toArray}}) (R:=λ(q:Result)(t:Shared)=>∃(g:Heap)(i:Nat)(a:Array Value)(c:Nat),q=.ok (.ret (.ref s.heap.objs.size))/\t={s with heap:=g,toks:=i}/\
  (∀b o,s.heap.get? b=some o->g.get? b=some o)/\g.get? s.heap.objs.size=some {cls:=.type "list",dict:=none,data:=.seq a c,slots:= #[]}/\ItemsOf P a n) K B (K.keep _ _ p λb _ o e=>Da _ e) s.heap.objs.size (Nz u.1) (Nz u.2) (.ref s.heap.objs.size) 0 D
  (λg i a c k j a2=>⟨g,i,a,c,rfl,rfl,λb o e=>k b o (Jn (Fk e)) (Da _ e),j,a2⟩) z
 refine QQ m (λf t x=>?_) λe t x=>?_
 .cases f with
  |done f=>
   obtain⟨g,i,a,c,e,rfl,k,j,a2⟩:=x;cases e;show wpAny _ A (load s.heap.objs.size>>=_) _ _ _
   exact Bz (wpAny_load j (GM (h g i a (Fk j) k a2)))
  |again H=>refine⟨x.1,Y6 x.2 λq s2 y=>?_⟩;obtain⟨g,i,a,c,rfl,rfl,k,j,a2⟩:=y;show wpAny _ A (load s.heap.objs.size>>=_) _ _ _;exact Bz (wpAny_load j (GM (h g i a (Fk j) k a2)))
 .obtain⟨_,_,_,_,C,_⟩:=x;cases C
end L2
namespace L2
open PySem PySem.Spec PyProof.Rows
noncomputable def j3(cells:List (Str×Addr)):List (Str×NameKind)->List (Str×Addr)->List (Str×Addr)
 |[],acc=>acc
 |(n,k)::r,acc=>j3 cells r (if k=.free then(n,(cells.lookup n).getD 0)::acc else acc)
theorem mY{env:Env}:∀(l:List (Str×NameKind))(a:List (Str×Addr)),(∀p∈l,p.2=.free->∃c,env.cells.lookup p.1=some c)->
 (forIn l a λ(x:Str×NameKind)(cs:List (Str×Addr))=>if(x.2==NameKind.free)=true then(do let c<-cellOf env x.1;pure (J0 ((x.1,c)::cs)))else(pure (J0 cs):Sem _))=pure (j3 env.cells l a)
 |[],a,_=>rfl
 |(n,k)::r,a,h=>by
  have ih:=λa=>mY (env:=env) r a λp g=>h p (BM _ g);rw[List.forIn_cons];by_cases b:k=.free
  .obtain⟨c,i⟩:=h (n,k) Bi b;have d:env.cells.lookup n=some c:=i;have e:cellOf env n=pure c:=by unfold cellOf;rw[d]
   have f:(k==NameKind.free)=true:=by simp[b]
   simp only[f,YE,e,pure_bind,ih];simp only[j3,b,YE,d,IB]
  .have f:(k==NameKind.free)=false:=by simpa using b
   simp only[f,TF,if_false,pure_bind,ih];simp only[j3,b,if_false]
theorem mZ{a:Scope}{env:Env}(h:∀p∈a.names,p.2=.free->∃c,env.cells.lookup p.1=some c):closureFor a env=pure (j3 env.cells a.names []):=by have:=mY (env:=env) a.names [] h;unfold closureFor;simp only[bind_pure];exact this
theorem sZ{cells:List (Str×Addr)}:∀(l:List (Str×NameKind))(a:List (Str×Addr)),(∀p∈l,p.2=.free->∃c,cells.lookup p.1=some c)->(∀y c,a.lookup y=some c->cells.lookup y=some c)->
 ∀y c,(j3 cells l a).lookup y=some c->cells.lookup y=some c
 |[],_,_,ha,y,c,h=>ha y c h
 |(n,k)::r,a,hl,ha,y,c,h=>by
  refine sZ r _ (λp i=>hl p (BM _ i)) (λz d hz=>?_) y c h;by_cases b:k=.free
  .rw[Do b,Ei]at hz;obtain⟨m,g⟩:=hl (n,k) Bi b;have f:cells.lookup n=some m:=g;split at hz
   .rename_i e
    have j:z=n:=by simpa using e
    subst j;rw[f]at hz⊢;exact hz
   .exact ha z d hz
  .rw[Bn b]at hz;exact ha z d hz
theorem m5{cells:List (Str×Addr)}:∀(l:List (Str×NameKind))(a:List (Str×Addr))(y:Str),((a.lookup y).isSome=true\/(y,NameKind.free)∈l)->((j3 cells l a).lookup y).isSome=true
 |[],_,_,h=>h.elim id λz=>nomatch z
 |(n,k)::r,a,y,h=>by
  refine m5 r _ y ?_;by_cases b:k=.free
  .rw[Do b,Ei];by_cases e:(y==n)=true
   .left;rw[e];rfl
   .rw[RF]at e;rw[e];rcases h with h|h
    .exact .inl h
    .rcases Ee.mp h with h|h
     .have:y=n:=Ki Prod.fst h;subst this;simp at e
     .exact .inr h
  .rw[Bn b];rcases h with h|h
   .exact .inl h
   .rcases Ee.mp h with h|h
    .have:NameKind.free=k:=Ki Prod.snd h;exact absurd this.symm b
    .exact .inr h
theorem qc{cells:List (Str×Addr)}:∀(l:List (Str×NameKind))(a:List (Str×Addr))(y:Str)(c:Addr),(j3 cells l a).lookup y=some c->(∃b,a.lookup y=some b)\/(y,NameKind.free)∈l
 |[],_,y,c,h=>.inl ⟨c,h⟩
 |(n,k)::r,a,y,c,h=>by
  rcases qc r _ y c h with⟨b,h'⟩|h'
  .by_cases d:k=.free
   .rw[Do d,Ei]at h';split at h'
    .rename_i e
     have f:y=n:=by simpa using e
     subst f;subst d;exact .inr Bi
    .exact .inl ⟨b,h'⟩
   .rw[Bn d]at h';exact .inl ⟨b,h'⟩
  .exact .inr (BM _ h')
theorem gK{env:Env}(d:env.scope.kind=.function):∀(l:List (Str×NameKind))(y:Str),
 (l.map λ(n,k)=>if(k==NameKind.free&&env.scope.kind==.function&&env.kindOf n==some .cell)then(n,NameKind.cell)else(n,k)).lookup y=(l.lookup y).map λk=>if(k==NameKind.free&&env.kindOf y==some .cell)=true then NameKind.cell else k
 |[],_=>rfl
 |(n,k)::r,y=>by
  have ih:=gK d r y;have b:(env.scope.kind==ScopeKind.function)=true:=by rw[d];rfl
  rw[Ha,Ei];by_cases e:(y==n)=true
  .have f:y=n:=by simpa using e
   subst f;by_cases c:(k==NameKind.free&&env.kindOf y==some .cell)=true
   .have a:(k==NameKind.free&&env.scope.kind==.function&&env.kindOf y==some .cell)=true:=by rw[b,UH];exact c
    simp only[a,YE,Ei,Pi,JD,c]
   .have a:¬(k==NameKind.free&&env.scope.kind==.function&&env.kindOf y==some .cell)=true:=by rw[b,UH];exact c
    rw[Bn a];simp only[Ei,Pi,JD];rw[Bn c]
  .rw[RF]at e;by_cases a:(k==NameKind.free&&env.scope.kind==.function&&env.kindOf n==some .cell)=true
   .simp only[a,YE,e,Ei];exact ih
   .rw[RF]at a;simp only[a,TF,if_false,e,Ei];exact ih
noncomputable def cZ(sc c:Scope)(N a b:List Str):Bool:=
 sc.kind==.function&&b.all (λx=>sc.names.lookup x==some .local&&!a.contains x)&&
 sc.names.all (λp=>p.2 !=.cell&&(p.2 !=.local||sc.names.lookup p.1==some .local)&&(p.2 !=.free||(c.names.lookup p.1==some .cell&&sc.names.lookup p.1==some .free)))&&
 a.all (λy=>sc.names.lookup y !=some .local)&&(N.length==a.length&&(N.zip a).all (λp=>p.1==p.2||sc.names.lookup p.2==none))
structure fE(sc NH:Scope)(N N' xs:List Str):Prop where
 kind:sc.kind=.function
 own:∀x∈xs,sc.names.lookup x=some .local/\x∉N'
 vh:∀p∈sc.names,p.2≠.cell
 loc:∀p∈sc.names,p.2=.local->sc.names.lookup p.1=some .local
 free:∀p∈sc.names,p.2=.free->NH.names.lookup p.1=some .cell/\sc.names.lookup p.1=some .free
 out:∀y∈N',sc.names.lookup y≠some .local
 len:N.length=N'.length
 pair:∀(i:Nat)(y:Str),N'[i]?=some y->sc.names.lookup y≠none->N[i]?=some y
theorem fE.of{sc l:Scope}{N b d:List Str}(h:cZ sc l N b d=true):fE sc l N b d:=by
 unfold cZ at h;simp only[AC,HI,Wp,bne_iff_ne,Iy,Y5,ne_eq]at h;obtain⟨⟨⟨⟨s,k⟩,c⟩,r⟩,q,o⟩:=h;refine⟨s,λx g=>⟨(k x g).1,λz=>?_⟩,λp a=>(c p a).1.1,λp a e=>?_,λp a e=>?_,r,q,λi y f m=>?_⟩
 .have:=(k x g).2;rw[List.contains_eq_mem]at this;simp[z]at this
 .rcases(c p a).1.2 with z|z
  .exact absurd e z
  .exact z
 .rcases(c p a).2 with z|z
  .exact absurd e z
  .exact z
 .have t:i<b.length:=(GT.mp f).1;have j:N[i]?=some (N[i]'(by lia)):=Dx (by lia);have n:(N[i]'(by lia),y)∈N.zip b:=by refine Kx (i:=i) ?_;rw[List.getElem?_zip_eq_some];exact⟨j,f⟩
  rcases o _ n with z|z
  .rw[j];exact Ki some z
  .exact absurd z m
noncomputable def aN(X:Cx)(a:Scope)(C:Addr)(b d:List Str)(s:Shared)(H:Hp)(c:List Addr):Cx:=
 {X with N:=b++d,s₀:=s,H₀:=H,env:=compEnvC a (j3 X.env.cells a.names []) C X.env,outer:=X.stack,stack:=X.stack,ex:=c,fn:=λy=>b.contains y,pn:=[],xe:=λ_ _=>False}
section
variable{X:Cx}{pins:List (Addr×Obj)}{σ:St}{H:Hp}{s:Shared}{scope:Scope}{xs N':List Str}{fp:List Addr}
theorem iS(I:Inv X pins σ H s)(O:fE scope X.env.scope X.N N' xs):∀p∈scope.names,p.2=.free->∃c,X.env.cells.lookup p.1=some c:=λp a e=>I.ok.has p.1 (.inl (O.free p a e).1)
theorem fO(I:Inv X pins σ H s)(O:fE scope X.env.scope X.N N' xs)(y:Str):(relabel scope X.env).names.lookup y=(scope.names.lookup y).map λk=>if k=.free then NameKind.cell else k:=by
 unfold relabel;show(List.map _ scope.names).lookup y=_;rw[gK I.ok.kind];cases e:scope.names.lookup y with
 |none=>rfl
 |some k=>
  rw[JD,JD];by_cases a:k=.free
  .subst a;have:=(O.free (y,.free) (N0 e) rfl).1;have b:X.env.kindOf y=some .cell:=this;rw[b];rfl
  .rw[Bn a,Bn (by simp[a])]
theorem Bd{n:Heap}{R:Nat}(I:Inv X pins σ H s)(O:fE scope X.env.scope X.N N' xs)(A:∀b∈fp,oS X pins H b)(D:∀b∈fp,b<s.heap.objs.size){L:Str->Option Value}
 (Y:n.Ns s.heap.objs.size L)(g:∀b o,s.heap.get? b=some o->n.get? b=some o):
 Inv (aN X scope s.heap.objs.size xs N' s H fp) [] (xs.map (λ_=>none)++σ) H {s with heap:=n,toks:=R}:=by
 have f:=sZ (cells:=X.env.cells) scope.names [] (iS I O) (λy c z=>nomatch z);refine⟨⟨I.ok.mod,?_,I.ok.glob,I.ok.blt,DL _,λx y c n F=>I.ok.inj x y c (f x c n) (f y c F),λy B=>?_,λy c n F=>?_,I.ok.hd,I.ok.frames,.inl rfl,λb j=>⟨Jn (D b j),λx c e=>(A b j).2.2.2.2.1 x c (f x c e)⟩,
  I.bs,GE I.ok.DF I.sz,λb o e j=>?_,λb j z=>?_,I.stack,I.jn,I.ok.tree,I.ok.Q4⟩,rfl,I.bare,Un.kept g,⟨L,Y,λi y v e1 h e3=>?_⟩,λy c e=>?_,I.hok.fresh (DL _),λy c e=>I.gF y c (f y c e),λp T=>absurd (show p∈([]:List (Addr×Obj))from T) (by simp),I.hok.kept g,?_⟩
 .show scope.kind=_;exact O.kind
 .have d:(relabel scope X.env).names.lookup y=some .cell\/(relabel scope X.env).names.lookup y=some .free:=B;rw[fO I O]at d;have a:scope.names.lookup y=some .free:=by
   cases e:scope.names.lookup y with
   |none=>rw[e]at d;rcases d with z|z<;>cases z
   |some k=>
    rw[e]at d;by_cases g:k=.free
    .rw[g]
    .rw[JD,Bn g]at d;rcases d with z|z
     .have:k=.cell:=Hn z;exact absurd this (O.vh (y,k) (N0 e))
     .exact absurd (Hn z) g
  exact Pl.mp (m5 scope.names [] y (.inr (N0 a)))
 .have E:(j3 X.env.cells scope.names []).lookup y=some c:=F;have B:y∈xs:=by have Rf:xs.contains y=true:=n;simpa using Rf
  rcases qc scope.names [] y c E with⟨_,z⟩|z
  .cases z
  .have K:=(O.free (y,.free) z rfl).2;rw[(O.own y B).1]at K;cases K
 .have P:X.base.get? b=some o:=e;rcases(A b j).2.2.2.1 with z|z
  .exact I.ok.An b o P z
  .exact absurd (FR (Fk P) (GE I.ok.DF z)) (Pm _)
 .rcases Ee.mp (I.uO b z)with q|q
  .exact(A b j).2.1 q
  .exact(A b j).2.2.1 q
 .have J:(xs++N')[i]?=some y:=e1;by_cases M:i<xs.length
  .rw[P3 (by simpa using M),Hb]at h;cases q:xs[i]? with
   |none=>rw[q]at h;cases h
   |some z=>rw[q]at h;cases h
  .rw[IH (by simpa using M)]at h;rw[IH (by lia)]at J;rw[Fh]at h;have We:y∈N':=Kx J;have t:Oh (relabel scope X.env) y:=e3;unfold Oh at t;rw[fO I O]at t;have a:scope.names.lookup y=some .free:=by
    cases e:scope.names.lookup y with
    |none=>rw[e]at t;rcases t with z|z|z<;>cases z
    |some k=>
     rw[e]at t;by_cases g:k=.free
     .rw[g]
     .rw[JD,Bn g]at t;rcases t with z|z|z
      .have:k=.local:=Hn z;subst this;exact absurd e (O.out y We)
      .have:k=.cell:=Hn z;exact absurd this (O.vh (y,k) (N0 e))
      .exact absurd (Hn z) g
   have Q:=(O.free (y,.free) (N0 a) rfl).1;obtain⟨m,U,Z⟩:=I.loc;have Wf:=O.pair _ y J (by rw[a];simp);obtain⟨u,r,l⟩:=Z _ y v Wf h (.inr (.inl Q));refine⟨u,r,?_⟩;rcases l with⟨S,_⟩|⟨_,c,hc,o,C,hd⟩
   .have:X.env.scope.names.lookup y=some .local:=S;rw[Q]at this;cases this
   .refine .inr ⟨.inl ?_,c,?_,o,g c o C,hd⟩
    .show(relabel scope X.env).names.lookup y=_;rw[fO I O,a];rfl
    .obtain⟨c',w⟩:=Pl.mp (m5 (cells:=X.env.cells) scope.names [] y (.inr (N0 a)));have q:=f y c' w;rw[hc]at q;show(j3 X.env.cells scope.names []).lookup y=some c;rw[w,<-Hn q]
 .obtain⟨v,o,C,hd⟩:=I.cell y c (f y c e);exact⟨v,o,g c o C,hd⟩
 .show(xs.map (λ_=>none)++σ).length=(xs++N').length;rw[B1,B1,Fh,I.len,O.len]
end
noncomputable def PF(X:Cx)(d:List Expr)(t:TT):Prop:=
 ∀(a:List (Addr×Obj))(s:Shared)(b:St)(H:Hp)(Q:Bool->Hp->Prop),Inv X a b H s->t b H Q->
  wpAny (model X.prog X.w) X.A (forIn d true λc r=>if r=true then do let ok<-isTrue c X.env (eval c X.env);pure (J0 ok)else pure (J0 r)) (TP X a b Q) X.xe s
noncomputable def Sm:TT:=λ_ H Q=>Q true H
theorem J1{X:Cx}:PF X [] Sm:=λ_ _ _ H _ I h=>wpAny_tests_nil ⟨H,I,h⟩
theorem J2{X:Cx}{c:Expr}{t:TT}(h:PT X c t):PF X [c] t:=λa s b H Q I q=>wpAny_tests_one (h a s b H Q I q)
noncomputable def Be(k:Nat)(q:TI)(g:TG)(tc:TT)(te:TE):TE:=λe H Q=>q e H λJ p=>∀D,p D=none->∃W:Nat->Nat->Hp->Prop,(∃m,W 0 m (upd p D (.lst [])))/\∀i m d,W i m d->
 (J.stop i d/\Q (.ref D) d)\/(J.go i d/\∀x o,J.OB i d x o->∀j:List (Option V),j.length=k->g x (j++e) o λa r=>∃h:List (Option V),h.length=k/\a=h++e/\
   tc a r λb n=>if b=true then te a n λy l=>∃f,l D=some (.lst f)/\f.length<sizeLine/\∃c,c<m/\W (i+1) c (upd l D (.lst (f++[y])))else∃c,c<m/\W (i+1) c n)
theorem qP{prog:Program}{w:World}{A:Around}{R:Result->Shared->Prop}{s:Shared}{u a l:Expr}{q:List Expr}{f:Scope}{pos:Pos}{E y:Value}{env:Env}(I:Nat->Shared->Prop)
 (z:∀n s,I n s->wpAny (model prog w) A (pyNext E) (λr e=>match r with
   |none=>R (.ok .next) e
   |some v=>wpAny (model prog w) A (letOwnedTupleGo a E v) (λ_ d=>wpAny (model prog w) A (assign a env v) (λ_ k=>
     wpAny (model prog w) A (forIn q true λc r=>if r=true then do let ok<-isTrue c env (eval c env);pure (J0 ok)else pure (J0 r)) (λok b=>
      if ok=true then wpAny (model prog w) A (eval u env) (λx j=>wpAny (model prog w) A (call (.builtin "list.append") [y,x]) (λ_ i=>∃m,m<n/\I m i) (λ_ _=>False) j) (λ_ _=>False) b
      else∃m,m<n/\I m b) (λ_ _=>False) k) (λ_ _=>False) d) (λ_ _=>False) e) (λ_ _=>False) s)
 (n:Nat)(h:I n s):
 codeAny (model prog w) A (.compLoop (.ListComp u [⟨a,l,q,0⟩] f pos) 0 E y env) R s:=by
 refine codeAny_loop rfl I (λn s F=>?_) n h;show wpAny _ A ((compTurn (.ListComp u [⟨a,l,q,0⟩] f pos) 0 E y env).onRaise (λx=>do noteFrame x env;theTreesLotGoes x)) _ _ s;refine wpAny_noted ?_;rw[compTurn_list];refine Bz (YG (Bz (QQ (z n s F) (λr e p=>?_) λ_ _ g=>g.elim)));cases r with
 |none=>exact GM p
 |some v=>
  refine Bz (QQ p (λ_ d t=>?_) λ_ _ g=>g.elim);refine Bz (QQ t (λ_ k D=>Bz (QQ D (λok b o=>?_) λ_ _ g=>g.elim)) λ_ _ g=>g.elim);cases ok with
  |false=>exact GM ⟨rfl,o⟩
  |true=>exact Bz (Bz (QQ o (λx j C=>Bz (QQ C (λ_ i B=>GM (GM ⟨rfl,B⟩)) λ_ _ g=>g.elim)) λ_ _ g=>g.elim))
section
variable{X:Cx}
theorem m6{tg M Y:Expr}{S:List Expr}{scope:Scope}{l F:List Str}{pos:Pos}{g:TG}{tc:TT}{te:TE}(hc:X.calm=true)(O:fE scope X.env.scope X.N F l)
 (hg:∀C s0 H0 j,PG (aN X scope C l F s0 H0 j) tg g)(hf:∀C s0 H0 j,PF (aN X scope C l F s0 H0 j) S tc)(he:∀C s0 H0 j,PE (aN X scope C l F s0 H0 j) Y te)
 {s:List (Addr×Obj)}{t:St}{H1:Hp}{s2:Shared}{it:Addr}{j:List Addr}{tn:Nat->Heap->Prop}{J:It}{Q:VK}{E:Value->Shared->Prop}{RR:Value->Addr->Result->Shared->Prop}
 (I2:Inv X s t H1 s2)(T:Turn X.prog X.w X.K tg J j it tn)(st2:tn 0 s2.heap)(f2:∀b∈j,oS X s H1 b)
 (h:∀D,H1 D=none->∃W:Nat->Nat->Hp->Prop,(∃m,W 0 m (upd H1 D (.lst [])))/\∀i m H2,W i m H2->
   (J.stop i H2/\Q (.ref D) H2)\/(J.go i H2/\∀x H3,J.OB i H2 x H3->∀v:List (Option V),v.length=l.length->g x (v++t) H3 λR H4=>∃I:List (Option V),I.length=l.length/\R=I++t/\
     tc R H4 λb H=>if b=true then te R H λy H6=>∃ys,H6 D=some (.lst ys)/\ys.length<sizeLine/\∃B,B<m/\W (i+1) B (upd H6 D (.lst (ys++[y])))else∃B,B<m/\W (i+1) B H))
 (hRR:∀D C s' H',(∃m,s'.heap.Ns C m)->(∀h',Heap.SameBut C s'.heap h'->Inv X s t H' {s' with heap:=h'})->s2.heap.objs.size<=D->s2.heap.objs.size<=C->H' C=none->Q (.ref D) H'->RR (.ref D) C (.ok .next) s'):
 wpAny (model X.prog X.w) X.A (newList []) (λacc s₃=>wpAny (model X.prog X.w) X.A (newFunctionEnv scope X.env.globals (j3 X.env.cells scope.names []) [] X.env.qual none .none (some X.env)) (λP s₄=>codeAny (model X.prog X.w) X.A (.compStart (.ListComp Y [⟨tg,M,S,0⟩] scope pos) 0 (.ref it) acc {P with scope:=relabel scope X.env}) (RR acc P.locals) s₄) E s₃) E s2:=by
 refine QP (wpAny_newFunctionEnv O.vh (by intro y hy;simp at hy) (λk Bf Bg=>?_) O.kind);dsimp only at Bf Bg⊢;have hD:H1 s2.heap.objs.size=none:=I2.hok.fresh (DL _);obtain⟨W,⟨m0,w0⟩,turn⟩:=h s2.heap.objs.size hD;have I3:Inv X s t (upd H1 s2.heap.objs.size (.lst [])) {s2 with heap:=s2.heap.push {cls:=.type "list",dict:=none,data:=.seq ([]:List Value).toArray}}:=
  I2.laid (t':=s2.toks) (λb u e=>Da _ e) (DL _) ⟨Mo _,[],0,.nil,Hk _ rfl⟩
 have Sn:∀b∈j,b<s2.heap.objs.size:=λb f=>by obtain⟨o,e,_⟩:=T.obj _ _ st2 b f;exact Fk e
 have f3:∀b∈j,oS X s (upd H1 s2.heap.objs.size (.lst [])) b:=λb f=>by obtain⟨q0,q⟩:=f2 b f;exact⟨by rw[au (Jn (Sn b f))];exact q0,q⟩
 generalize NI:({s2 with heap:=s2.heap.push {cls:=.type "list",dict:=none,data:=.seq ([]:List Value).toArray}}:Shared)=s3 at I3;have qd:s3.heap=s2.heap.push {cls:=.type "list",dict:=none,data:=.seq ([]:List Value).toArray}:=by rw[<-NI]
 have U:s3.heap.objs.size=s2.heap.objs.size+1:=by rw[qd,Heap.size_push]
 have old:∀b o,s3.heap.get? b=some o->k.get? b=some o:=λb o e=>Bg.extBut b o (by rw[<-qd];exact Jn (Fk e)) (Da _ (by rw[<-qd];exact e));have J4:Inv (aN X scope s3.heap.objs.size l F s3 (upd H1 s2.heap.objs.size (.lst [])) j) [] (l.map (λ_=>none)++t) (upd H1 s2.heap.objs.size (.lst [])) {s3 with heap:=k,toks:=s2.toks+([]:List (Str×Value)).length}:=
  Bd I3 O f3 (λb f=>by rw[U];exact O6 (Sn b f)) (by rw[qd];exact Bf) old
 have Wg:({s3 with heap:=k,toks:=s2.toks+([]:List (Str×Value)).length}:Shared)={s2 with heap:=k,toks:=s2.toks+([]:List (Str×Value)).length}:=by rw[<-NI]
 rw[Wg]at J4;have UO:tn 0 k:=T.keep _ _ _ st2 λb f o e=>old b o (by rw[qd];exact Da _ e);have hC:(s2.heap.push {cls:=.type "list",dict:=none,data:=.seq ([]:List Value).toArray}).objs.size=s3.heap.objs.size:=by rw[qd]
 have So:∀{H':Hp},(∀b∈j,H' b=none)->∀b∈j,oS (aN X scope s3.heap.objs.size l F s3 (upd H1 s2.heap.objs.size (.lst [])) j) [] H' b:=λhn b f=>⟨hn b f,Jn (by rw[U];exact O6 (Sn b f)),J4.ok.Ao b f,.inl f,λx c e=>((J4.ok.RI b f).2 x c e),λp hp=>absurd (show p∈([]:List (Addr×Obj))from hp) (by simp)⟩;have L:codeAny (model X.prog X.w) X.A (.compLoop (.ListComp Y [⟨tg,M,S,0⟩] scope pos) 0 (.ref it) (.ref s2.heap.objs.size) (compEnvC scope (j3 X.env.cells scope.names []) s3.heap.objs.size X.env))
  (RR (.ref s2.heap.objs.size) s3.heap.objs.size) {s2 with heap:=k,toks:=s2.toks+([]:List (Str×Value)).length}:=by
  refine qP (λn s'=>∃(i:Nat)(v:List (Option V))(H':Hp),v.length=l.length/\Inv (aN X scope s3.heap.objs.size l F s3 (upd H1 s2.heap.objs.size (.lst [])) j) [] (v++t) H' s'/\tn i s'.heap/\(∀b∈j,H' b=none)/\W i n H') ?_ m0
   ⟨0,l.map (λ_=>none),_,Fh _,J4,UO,λb f=>(f3 b f).1,w0⟩
  rintro n s5 ⟨i,v,H,hv0,I5,ND,Q7,w5⟩;rcases turn i n H w5 with⟨stop,qn⟩|⟨go,step⟩
  .refine bq (T.done (aN X scope s3.heap.objs.size l F s3 (upd H1 s2.heap.objs.size (.lst [])) j) rfl rfl rfl hc i [] s5 (v++t) H _ I5 (So Q7) ND stop) ?_;rintro r s6 ⟨hr,Z⟩;subst hr;obtain⟨m,hnm,_⟩:=Z.loc;refine hRR _ _ s6 H ⟨m,hnm⟩ (λh' HY=>?_) (DL _) (by rw[U];exact YK _) Z.free qn;have Sq:∀b o,s3.heap.get? b=some o->b≠s3.heap.objs.size:=λb o e=>Jn (Fk e);have u:=Z.base;have Wh:=I3.HL (s':={s6 with heap:=h'}) (H':=H) (ch:=j) Z.os ⟨λb o e n f hx=>HY.extBut b _ (Sq b o e) (u.keep b o e n f hx),λb o e n f hx=>by
    obtain⟨sl,q⟩:=u.slot b o e n f hx;exact⟨sl,HY.extBut b _ (Sq b o e) q⟩,u.free,λb o e hx=>by
    obtain⟨o',q⟩:=u.there b o e hx;exact⟨o',HY.extBut b _ (Sq b o e) q⟩,u.tups,u.jS,u.lB⟩ (λa o e=>?_) Z.bare (λb f=>?_)
   .exact Wh
   .have UP:∀b u,H b=some u->b≠s3.heap.objs.size:=λb u e z=>by subst z;have:=Z.free;have e2:H s3.heap.objs.size=none:=this;rw[e2]at e;cases e
    refine(Z.hok a o e).stay (λb u f q=>HY.extBut b u ?_ q) (λ_ q=>q) λ_ _ q=>q;rcases f with rfl|f
    .exact UP _ _ e
    .exact UP _ _ f
   .obtain⟨q0,q1,q2,q3,q4,q5⟩:=f3 b f;exact⟨q3,q1,q4,q5⟩
  .refine bq (T.item (aN X scope s3.heap.objs.size l F s3 (upd H1 s2.heap.objs.size (.lst [])) j) rfl rfl rfl hc i [] s5 (v++t) H _ I5 (So Q7) ND go) ?_;rintro r s6 ⟨u,hr,h6⟩;subst hr;refine bq h6 ?_;rintro _ s7 ⟨x,H7,I7,r7,y7,Su,Wi⟩;have Wj:=I7.pinned (So Wi) (T.obj _ _ Su);refine bq (hg _ _ _ _ _ s7 (v++t) H7 x u _ Wj r7 (step x H7 y7 v hv0)) ?_;rintro _ s8 ⟨Yi,H8,I8,I,hv1,e8,q8⟩;subst e8;have fin:∀{s9:Shared}{H9:Hp},Inv (aN X scope s3.heap.objs.size l F s3 (upd H1 s2.heap.objs.size (.lst [])) j) ([]++mO j s7.heap) (I++t) H9 s9->(∃B,B<n/\W (i+1) B H9)->
    ∃m,m<n/\∃(i:Nat)(v:List (Option V))(H':Hp),v.length=l.length/\Inv (aN X scope s3.heap.objs.size l F s3 (upd H1 s2.heap.objs.size (.lst [])) j) [] (v++t) H' s9/\tn i s9.heap/\(∀b∈j,H' b=none)/\W i m H':=λ{s9 H9} I9 ⟨B,hm,w9⟩=>by
    refine⟨B,hm,i+1,I,H9,hv1,I9.jq,T.keep _ _ _ Su λb f o e=>(I9.pin (b,o) (FK _ (FK _ (gc f e)))).1,λb f=>?_,w9⟩;obtain⟨o,e,d⟩:=T.obj _ _ Su b f;exact(I9.pin (b,o) (FK _ (FK _ (gc f e)))).2.1
   refine bq (hf _ _ _ _ _ s8 (I++t) H8 _ I8 q8) ?_;rintro ok s9 ⟨H9,I9,q9⟩;cases ok with
   |false=>exact fin I9 q9
   |true=>show wpAny _ _ _ _ _ _;refine bq (he _ _ _ _ _ s9 (I++t) H9 _ I9 q9) ?_;rintro y Wk ⟨vy,Wl,Wm,Wn,ys,hys,hl,Wo⟩;refine bq (fN (X:=aN X scope s3.heap.objs.size l F s3 (upd H1 s2.heap.objs.size (.lst [])) j) _ Wk (I++t) Wl (.ref s2.heap.objs.size) [vy] _ [y] (λ_ H'=>∃B,B<n/\W (i+1) B H') Wm rfl (.cons Wn .nil) ⟨_,ys,vy,rfl,rfl,hys,hl,Wo⟩) ?_;rintro _ Yj ⟨_,Yk,Wq,_,Wr⟩;exact fin Wq Wr
 rw[hC];exact codeAny_compStart_list L (T.self X.A 0 _ _ _ UO L)
theorem Es{tg a j:Expr}{i:List Expr}{scope:Scope}(d l:List Str){pos:Pos}{p:TI}{g:TG}{tc:TT}{te:TE}(K:X.calm=true)(x:cZ scope X.env.scope X.N l d=true)(B:PI X tg a p)
 (E:∀C f k c,PG (aN X scope C d l f k c) tg g)(F:∀C f k c,PF (aN X scope C d l f k c) i tc)(he:∀C f k c,PE (aN X scope C d l f k c) j te)
 (t:∀z,foldedSetIterable a X.env z=pure z:=by intro _;rfl):PE X (.ListComp j [⟨tg,a,i,0⟩] scope pos) (Be d.length p g tc te):=by
 intro b s o H Q I h;have O:=fE.of x;rw[eval_ListComp];refine wpAny_comprehension_free (use:=none) rfl t (mZ (iS I O)) O.kind O.loc (bq (B b s o H _ I h) λv s1 P=>bq P λr s2 M=>?_);obtain⟨it,c,tn,J,H2,e,U,T,st2,S,u⟩:=M;subst e;refine m6 (RR:=λn C=>compPost (model X.prog X.w) X.A X.xe none (EP X b o Q) n C) K O E F he U T st2 S u ?_;rintro D C s' Z ⟨m,y⟩ L _ _ _ q;exact⟨m,y,λR Y=>⟨.ref D,Z,L R Y,rfl,q⟩⟩
end
theorem qe{a:List Bool}:∀{us:List Value},Vals (a.map V.bl) us->us=a.map Value.bool:=by
 induction a with
 |nil=>intro us r;rw[YF]at r;cases r;rfl
 |cons b a f=>
  intro us r;rw[Ha]at r;cases r with
  |cons d c=>have e:_=Value.bool b:=d;rw[e,f c];rfl
theorem vj(d:List Bool):((Gr d.length).all λi=>(d[i]?).getD true)=d.all id:=by
 rw[Qb,HI,HI];constructor
 .intro h b e;obtain⟨i,c,rfl⟩:=X1 e;have:=h i (Tb.mpr c);simp only[Dx c,IB]at this;exact this
 .intro h i c;have a:=Tb.mp c;simp only[Dx a,IB];exact h _ (Os a)
section
variable{X:Cx}
theorem yL(l:X.calm=true):bE X (.builtin "sum") (λa H Q=>∃(p:Addr)(b:List Int),a=[.ref p]/\iP X.K H p (b.map V.int)/\Q (.int b.sum) H):=by
 intro e s t H a v Q I r h;obtain⟨p,b,rfl,m,q⟩:=h;obtain⟨u,rfl,i⟩:=Vals.one r;cases(show u=Value.ref p from i);obtain⟨c,rv,j,_⟩:=I.list m;have g:=intsAre_of rv;obtain⟨a,f⟩:=g.allInts.items;have d:s.heap.IsList p (intItems a):=f▸j.isList;refine sum_intListG (I.ok.hd l) d λy w x k=>?_;have o:b=a.toList.map (·.1):=by rw[<-nums_intItems,<-f];exact(show numsOf c.toArray.toList=b from g.numsOf).symm
 have n:preSum (numAt a) a.size=b.sum:=by rw[preSum_eq,RB (by simp),o]
 rw[n];exact⟨.int b.sum,H,I.kept k,⟨_,rfl⟩,q⟩
theorem yM(y:X.calm=true):bE X (.builtin "all") (λj H Q=>∃(p:Addr)(c:List Bool),j=[.ref p]/\iP X.K H p (c.map V.bl)/\Q (.bl (c.all id)) H):=by
 intro k s E H j F Q I r h;obtain⟨p,c,rfl,B,q⟩:=h;obtain⟨u,rfl,n⟩:=Vals.one r;cases(show u=Value.ref p from n);obtain⟨a,rv,t,_⟩:=I.list B;have l:=qe rv;have g:=t.isList;have f:p<s.heap.objs.size:=by obtain⟨_,e,_⟩:=g;exact Fk e
 refine call_all_walk (wpAny_pyIter_list g ?_);refine⟨s.heap.objs.size,[s.heap.objs.size,p],[s.heap.objs.size],a.toArray.size,_,_,λi=>(c[i]?).getD true,rfl,Walks.list (A:=X.A.in1) (I.ok.hd y) _ p (Jn f) a.toArray,
  ⟨⟨_,Hk _ rfl,rfl,rfl⟩,g.push _⟩,λi v L N O C m=>?_,λM J x=>?_⟩
 .have d:a[i]?=some v:=by simpa using C
  rw[l,Hb]at d;cases e:c[i]? with
  |none=>rw[e]at d;cases d
  |some b=>rw[e]at d;simp only[e,IB]at m;have:v=Value.bool b:=(Hn d).symm;subst this;exact Q1 m
 .have e:((Gr a.toArray.size).all λi=>(c[i]?).getD true)=c.all id:=by
   have D:a.toArray.size=c.length:=by rw[Fm,l,Fh]
   rw[D];exact vj c
  rw[e];exact⟨.bl _,H,I.kept λb o z=>x b o (λw=>by rw[Fn.mp w]at z;exact Pm _ (Fk z)) (Da _ z),rfl,q⟩
theorem Et{i:Nat}{x:Str}{tg f r:Expr}{k:List Expr}{scope:Scope}{d pos t:Pos}(F R:List Str){wi:TI}{g:TG}{tc:TT}{te:TE}(hN:X.N.Nodup)(hi:X.N[i]?=some x)(B:Loc X.env.scope x)(hc:X.calm=true)(ho:cZ scope X.env.scope X.N R F=true)(Pe:PI X tg f wi)
 (hg:∀C L P K,PG (aN X scope C F R L P K) tg g)(hf:∀C L P K,PF (aN X scope C F R L P K) k tc)(he:∀C L P K,PE (aN X scope C F R L P K) r te)
 (Z:swapsWith (.ListComp r [⟨tg,f,k,0⟩] scope pos) (some (.Name x d)) t.line X.env=pure true:=by rfl)
 (hs:∀z,foldedSetIterable f X.env z=pure z:=by intro _;rfl)(hfn:X.fn x=true\/X.env.scope.names.lookup x=some .local:=by first|exact .inl rfl|exact .inr rfl|assumption):
 PS X (.Assign [.Name x d] (.ListComp r [⟨tg,f,k,0⟩] scope pos) t) (mL (Be F.length wi g tc te) (fL i)):=by
 intro j s S H W I h;have O:=fE.of ho;rw[exec_Assign_Name_used _ _ _ _ Z];refine Bz (YG (Bz ?_));show wpAny _ X.A (do let _<-comprehension (.ListComp r [⟨tg,f,k,0⟩] scope pos) scope X.env _ (newList []) false (eval f X.env) (some (assign (.Name x d) X.env))) _ _ s;refine Bz (QQ (wpAny_comprehension_free (use:=some (assign (.Name x d) X.env)) (Q:=λ_ s'=>SP X j W .next s') rfl hs (mZ (iS I O)) O.kind O.loc (bq (Pe j s S H _ I h) λv s1 h1=>bq h1 λitv s2 h2=>?_)) (λ_ s' hq=>GM (GM hq)) λ_ _ e=>e);obtain⟨it,K,tn,J,H2,e,M,T,st2,f2,hq⟩:=h2;subst e;refine m6 (Q:=λx H1=>fL i x S H1 W.nx) (RR:=λacc C=>compPost (model X.prog X.w) X.A X.xe (some (assign (.Name x d) X.env)) (λ_ s'=>SP X j W .next s') acc C) hc O hg hf he M T st2 f2 hq ?_;rintro D C s' H' ⟨m,hm⟩ hI _ hC fC q;have I':Inv X j S H' s':=hI s'.heap ⟨rfl,λ_ _=>rfl⟩;have Y:∀b o,s2.heap.get? b=some o->b≠C:=λb o e=>Jn (FR (Fk e) hC);have nL:C≠X.env.locals:=λe=>by obtain⟨m2,hn2,_⟩:=M.loc;obtain⟨o,_,_,ho2,_⟩:=hn2;exact Y _ o ho2 e.symm
 have nC:∀y c,X.env.cells.lookup y=some c->c≠C:=λy c e z=>by obtain⟨v,o,e1,_⟩:=M.cell y c e;exact Y _ o e1 z
 have nP:∀p∈X.pn++j,p.1≠C:=λp hp z=>Y _ _ (M.pin p hp).1 z;show wpAny _ X.A (assign (.Name x d) X.env (.ref D)) _ _ _;refine wpAny_assign_Name (pU I' hN hi B (v:=.ref D) rfl (λU Sv hsm=>?_) hfn);obtain⟨a,HY,ha⟩:=hsm;have aC:a≠C:=by
  rcases ha with rfl|ha
  .exact On nL
  .exact nC x a ha
 refine⟨m,hm.sameBut HY (On aC),λh' l=>⟨_,H',?_,q⟩⟩;refine Sv.HL (s':={U with heap:=h'}) (H':=H') (ch:=[C]) rfl ⟨λb o e n E B=>l.extBut b o (λz=>B (by rw[z];exact Fn.mpr rfl)) e,λb o e n E B=>⟨o.slots,l.extBut b o (λz=>B (by rw[z];exact Fn.mpr rfl)) e⟩,λb o e n B=>n,λb o e B=>⟨o,l.extBut b o (λz=>B (by rw[z];exact Fn.mpr rfl)) e⟩,λb F q=>q,λb o u q=>q,λb ps q=>⟨#[],by rw[Array.append_empty];exact q⟩⟩ (λa o e=>?_) Sv.bare (λb E=>?_)
 .refine(Sv.hok a o e).stay (λb u E q=>l.extBut b u ?_ q) (λ_ q=>q) λ_ _ q=>q;rintro rfl;rcases E with rfl|E
  .rw[fC]at e;cases e
  .rw[fC]at E;cases E
 .rw[Fn.mp E];exact⟨.inr (GE M.sz hC),nL,λy c e z=>nC y c e z,nP⟩
end
end L2
namespace L2
open PySem PySem.Spec PyProof.Rows PySem.W
noncomputable def tx(l:List Nat):Str:=⟨l.toArray⟩
theorem j4(x:Str):tx x.cps.toList=x:=by unfold tx;rw[Array.toArray_toList]
theorem mG(l:List Nat):(tx l).length=l.length:=rfl
theorem jR(l:List Nat):(tx l).cps.toList=l:=rfl
theorem vm{a b:List Nat}(h:tx a=tx b):a=b:=by have:=Ki (λx=>x.cps.toList) h;exact this
theorem aY(a b:List Nat):tx a++tx b=tx (a++b):=by show Str.mk (a.toArray++b.toArray)=Str.mk (a++b).toArray;congr 1;exact List.append_toArray a b
theorem j5(x:Str):x.length=x.cps.toList.length:=by unfold Str.length;exact(G1).symm
noncomputable def oW(l:List Nat)(a b:Option Int):List Nat:=(l.drop (HT.bV l.length 0 a)).take (HT.bV l.length l.length b -HT.bV l.length 0 a)
section
variable{X:Cx}
theorem J3(a b:Option Int)(n:Nat):Builtin.Str.strSliceIndices a b 1 n=(Gr (HT.bV n n b -HT.bV n 0 a)).map (HT.bV n 0 a+·):=by obtain⟨d,c,f⟩:=jw a b n;have e:Builtin.Str.strSliceIndices a b 1 n=sliceRange (sliceBounds a b none n).1 (sliceBounds a b none n).2.1 1:=rfl;rw[e,d,c,sliceRange_one]
theorem Bh(x:Str)(a c:Option Int):Txt.slice x a c=tx (oW x.cps.toList a c):=by
 unfold Txt.slice;rw[J3,pick_run];have b:=j5 x;unfold oW;rw[<-b];split
 .rename_i h
  simp only[Pi,Qo,Iy,Fh,TJ]at h;rw[h];have z:HT.bV x.length 0 a=0\/x.length=0:=by
   have:HT.bV x.length x.length c<=x.length:=by
    unfold HT.bV;split
    .exact DL _
    .split<;>omega
   omega
  rcases z with z|z
  .rw[z,YL,RB (by rw[b];exact DL _),j4]
  .have:x.cps.toList=[]:=Kk.mp (by rw[<-b,z]);rw[this,z];simp only[List.drop_nil,List.take_zero];rw[<-this,j4]
 .rfl
theorem J5:HR X (λx b c H Q=>∃z:Str,x=.str z/\z.length<=sizeLine/\Q (.str (tx (oW z.cps.toList b c))) H):=by
 intro a s m H x v o n b c p Q I r g y f h;obtain⟨z,rfl,hz,q⟩:=h;obtain⟨t,rfl⟩:=r;refine⟨"str",_,PySem.F.slot_str_getitem.lookup,typeIs_str _ _ _,?_⟩;have d:∀l u:Option (Int×Tok),o=partValue l->n=partValue u->b=l.map (·.1)->c=u.map (·.1)->wpAny (model X.prog X.w) X.A (getItem (.str z t) (.ref p)) (EP X a m Q) X.xe s:=λl u E D C B=>by
  refine wpAny_getItem_str_slice (l:=l) (u:=u) (st:=none) (by rw[E,D]at g;exact g) rfl ?_;refine post_val_or_str ?_;have e:(if((none:Option (Int×Tok)).map (·.1)).getD 1==1&&(slicePicked z l u none).length==z.length then z else⟨((slicePicked z l u none).filterMap (z.cps[·]?)).toArray⟩)=Txt.slice z b c:=by rw[C,B];rfl
  rw[e];exact⟨GE (Txt.slice_le z _ _) hz,λJ k=>⟨.str (Txt.slice z b c),H,I.tok _,⟨_,rfl⟩,by rw[Bh];exact q⟩⟩
 cases y with
 |none=>
  cases f with
  |none=>exact d none none rfl rfl rfl rfl
  |int j u=>exact d none (some (j,u)) rfl rfl rfl rfl
 |int i w=>
  cases f with
  |none=>exact d (some (i,w)) none rfl rfl rfl rfl
  |int j u=>exact d (some (i,w)) (some (j,u)) rfl rfl rfl rfl
theorem yN:bE X (.type "str") (λa H Q=>(∃x,a=[.str x]/\Q (.str x) H)):=by intro b s d H a e Q I r h;obtain⟨x,rfl,q⟩:=h;obtain⟨u,rfl,c⟩:=vals1 r;obtain⟨t,rfl⟩:=c;exact PySem.P.str_of_str ⟨.str x,H,I,⟨_,rfl⟩,q⟩
theorem yO:bE X (.type "int") (λa H Q=>(∃x n,a=[.str x]/\PySem.intText? x=some n/\x.length<=640/\Q (.int n) H)):=by intro b s f H a g Q I r h;obtain⟨x,n,rfl,e,d,q⟩:=h;obtain⟨u,rfl,c⟩:=vals1 r;obtain⟨t,rfl⟩:=c;exact PySem.W.KIN.call_text e d ⟨.int n,H,I.tok _,⟨_,rfl⟩,q⟩
theorem Eu:jj X (binaryOp .Mult) (λx y H Q=>∃z:Str,x=.str z/\y=.int 3/\z.length<=1000/\Q (.str (tx (z.cps.toList++z.cps.toList++z.cps.toList))) H):=by
 intro a s f H x y v u Q I c b h;obtain⟨z,rfl,rfl,j,q⟩:=h;obtain⟨t,rfl⟩:=c;obtain⟨i,rfl⟩:=b;refine SB.mul ⟨by decide,λ_ _=>?_,λ_ _=>?_⟩ λg k=>⟨.str _,H,I.tok _,⟨_,rfl⟩,?_⟩
 .have:((2^63 -1)/3:Int)>1000:=by decide
  omega
 .unfold Builtin.Str.tooLong;exact FM (by rw[sizeLine_eq];show¬z.length*3>_;omega)
 .have e:Txt.mul z 3=tx (z.cps.toList++z.cps.toList++z.cps.toList):=by
   unfold Txt.mul;rw[Bn (by decide)];split
   .rename_i h
    have d:z.length=0:=by simpa using h
    have:z.cps.toList=[]:=Kk.mp (by rw[<-j5,d]);rw[this];exact(j4 z).symm.trans (by rw[this];rfl)
   .show Str.mk (((#[]++z.cps)++z.cps)++z.cps)=_;unfold tx;congr 1;apply TR.mp;simp
  rw[e];exact q
theorem yP:R8 X "str.startswith" (λx d H Q=>∃(z y:Str)(i:Nat),x=.str z/\d=[.str y,.int i]/\i<=z.length/\Q (.bl (y.cps.toList.isPrefixOf (z.cps.toList.drop i))) H):=by
 intro f s p H x d v u Q I k r h;obtain⟨z,y,i,rfl,rfl,n,q⟩:=h;obtain⟨t,rfl⟩:=k;obtain⟨A,w,rfl,m,l⟩:=vals2 r;obtain⟨j,rfl⟩:=m;obtain⟨g,rfl⟩:=l;refine call_gives PySem.F.slot_str_startswith (typeIs_str _ _ _) PySem.F.entry_str_startswith (PySem.F.args_str_startswith_3 _ _ _) (gives_str_startswith_from z y i t j g) ?_;refine⟨.bl _,H,I,rfl,?_⟩;have e:fromIndex z.length (i:Int)=i:=by unfold fromIndex;omega
 rw[e];have o:(decide (i+y.length<=z.length)&&Builtin.Str.subAt z y i)=y.cps.toList.isPrefixOf (z.cps.toList.drop i):=by
  rw[Qb,AC,Kj,Y2,List.prefix_iff_eq_take];unfold Builtin.Str.subAt;rw[Iy,<-TR,Array.toList_extract,j5 y,j5 z];have hz:i<=z.cps.toList.length:=by rw[<-j5];exact n
  generalize z.cps.toList=a at*;generalize y.cps.toList=b at*;rw[List.extract_eq_take_drop,Y8];constructor
  .rintro⟨B,c⟩;exact c.symm
  .intro c;refine⟨?_,c.symm⟩;have:=Ki IY c;rw[Sr,Y9]at this;omega
 rw[o];exact q
end
end L2
namespace lF
open L2 PySem
noncomputable def dg(m:Nat):List Nat:=(M3 10 m).map Char.toNat
theorem j6(m:Nat):(Str.ofString (toString ((m:Nat):Int)))=tx (dg m):=by have h:=PySem.W.KIN.signs_num m;have:tx (Str.ofString (toString ((m:Nat):Int))).cps.toList=Str.ofString (toString ((m:Nat):Int)):=j4 _;rw[<-this,h];rfl
theorem j7(m:Nat):∀c∈dg m,48<=c/\c<=57:=by intro c b;obtain⟨d,a,e⟩:=KB.mp b;have r:=VC (Nat.isDigit_of_mem_toDigits (by decide) (by decide) a);rw[<-e];exact r
theorem vn(m:Nat):PySem.NumText.digitsVal (dg m)=m:=PySem.W.KIN.val_back m
theorem m7(m:Nat):dg m≠[]:=by
 intro h;have:=vn m;have b:(M3 10 m).length=0:=by have:=Ki IY h;unfold dg at this;rw[Fh]at this;exact this
 have a:=V1 10 m;omega
theorem gM{m k:Nat}(a:1<=k)(h:m<10^k):(dg m).length<=k:=by unfold dg;rw[Fh];exact V7 a h
theorem Bj{m:Nat}(h:m<10):dg m=[m+48]:=by
 have:∀m,m<10->dg m=[m+48]:=by decide
 exact this m h
theorem J6{m:Nat}(h:10<=m):dg m=dg (m/10)++dg (m%10):=by have t:M3 10 (m/10)++M3 10 (m%10)=M3 10 (10*(m/10)+m%10):=Nat.toDigits_append_toDigits (by decide) (by omega) (Nat.mod_lt _ (by decide));rw[Nat.div_add_mod]at t;unfold dg;rw[<-t,NA]
theorem Ew(m:Nat):∀c r,dg m=c::r->c=48->r=[]:=by
 induction m using Nat.strongRecOn with
 |ind m f=>
  intro c r e b;rcases OK m 10 with h|h
  .rw[Bj h]at e;cases e;rfl
  .rw[J6 h]at e;cases hd:dg (m/10)with
   |nil=>exact absurd hd (m7 _)
   |cons a s=>
    rw[hd]at e;have d:a=c:=by have:=TK e;exact this.1
    have:=f (m/10) (by omega) a s hd (d.trans b);subst this;have v:=vn (m/10);rw[hd,d,b]at v;have:PySem.NumText.digitsVal [48]=0:=rfl;omega
end lF
namespace L2
open PySem PySem.Spec PyProof.Rows
section
variable{X:Cx}
noncomputable def Rg(a st:Int)(n:Nat):It:=⟨λi _=>i<n,λi H x b=>b=H/\x=.int (a+i*st),λi _=>n<=i⟩
theorem tu{P:Program}{w:World}{K:Frag}{tg:Expr}(c:Addr)(g st:Int)(n:Nat):Turn P w K tg (Rg g st n) [c] c (λi h=>IsRangeIter h c (g+(i:Nat)*st) ((n:Int) -(i:Nat)) st)where
 mem:=by simp
 obj:=λi h st b d=>by
  have e:b=c:=by simpa using d
  subst e;exact⟨_,st,λv z=>by have L:Data.fields _=Data.cell v:=z;cases L⟩
 keep:=λi h l st k=>k c (by simp) _ st
 item:=by intro X r m u q i a s F H E I j D p;subst r m u;obtain⟨C,B,O,A,y,x⟩:=j c (by simp);have W:=Walks.range (prog:=X.prog) (w:=X.w) (I.ok.hd q) c g st n;refine W.item i s _ _ p D λv l J N f M=>?_;obtain⟨t,rfl⟩:=N;have R:Inv X a F H {s with heap:=l,toks:=J}:=I.turned (λb o d e=>M b o (by simpa using d) e) C B A y x;exact⟨_,rfl,wk (s:={s with heap:=l,toks:=J}) (n:="range_iterator") f rfl rfl (by decide) ⟨.int (g+i*st),H,R,⟨t,rfl⟩,⟨rfl,rfl⟩,f,λb d=>(j b d).1⟩⟩
 done:=by intro X r m u q i a s F H E I j D p;subst r m u;obtain⟨C,B,O,A,y,x⟩:=j c (by simp);exact wpAny_pyNext_range_end (I.ok.hd q) D (by have:n<=i:=p;omega) λl Q=>⟨rfl,I.turned (t':=s.toks) (λb o d e=>Q b o d e) C B A y x⟩
 self:=λ_ _ _ _ _ st h=>wpAny_pyIter_rangeiter st h
theorem yQ{tg:Expr}{c:List (Addr×Obj)}{f:St}{H:Hp}{s:Shared}{R:It->Hp->Prop}{E:Value->Shared->Prop}{a d st:Int}{n:Nat}{t u v:Tok}{g:Nat}(I:Inv X c f H s)(i:Builtin.Range.small a d st=true)(j:Builtin.Range.rangeSize a d st=(n:Int))
 (q:R (Rg a st n) H):wpAny (model X.prog X.w) X.A (pyIter (.ref s.heap.objs.size)) (RW X c f tg R) E {s with heap:=s.heap.push {cls:=.type "range",data:=.fields #[.int a t,.int d u,.int st v]},toks:=g}:=by
 refine wpAny_pyIter_range (IsRange.new ..) i ?_;have h:Inv X c f H {s with heap:=s.heap.push {cls:=.type "range",data:=.fields #[.int a t,.int d u,.int st v]},toks:=g}:=I.kept λb o e=>Da _ e;refine⟨(s.heap.push {cls:=.type "range",data:=.fields #[.int a t,.int d u,.int st v]}).objs.size,[(s.heap.push {cls:=.type "range",data:=.fields #[.int a t,.int d u,.int st v]}).objs.size],_,_,H,rfl,
  h.kept (t':=g) λb o e=>Da _ e,tu _ a st n,?_,λb k=>?_,q⟩
 .have m:a+((0:Nat):Int)*st=a:=by simp
  have l:(n:Int) -((0:Nat):Int)=Builtin.Range.rangeSize a d st:=by rw[j];simp
  show IsRangeIter _ _ (a+((0:Nat):Int)*st) ((n:Int) -((0:Nat):Int)) st;rw[m,l];exact Hk _ rfl
 .have e:b=(s.heap.push {cls:=.type "range",data:=.fields #[.int a t,.int d u,.int st v]}).objs.size:=by simpa using k
  subst e;exact h.DN (DL _) (h.hok.fresh (DL _))
noncomputable def Pf(ta:TA):TI:=λa H R=>ta a H λb c=>∃(i j k:Int)(n:Nat),b=[.int i,.int j,.int k]/\(k≠0/\k.natAbs<1073741824/\Builtin.Range.small i j k=true/\Builtin.Range.rangeSize i j k=(n:Int))/\R (Rg i k n) c
theorem yR{tg a b c:Expr}{ta:TA}{p pos:Pos}(C:Gl X "range")(B:X.mg "range"=none)(D:PA X [a,b,c] ta)(A:starEach [a,b,c] X.env=[(false,eval a X.env),(false,eval b X.env),(false,eval c X.env)]:=by rfl)(g:starEach [b,c] X.env=[(false,eval b X.env),(false,eval c X.env)]:=by rfl):
 PI X tg (.Call (.Name "range" p) [a,b,c] [] pos) (Pf ta):=by
 intro f s o H R I h;refine Call_ (jT I C B boot_range (SF (bq (D pos f s o H _ I h) λJ L ⟨F,M,E,v,m⟩=>?_) (by rw[A,g]) (by rw[g];rfl)));obtain⟨i,j,k,n,e,⟨m,z,y,x⟩,q⟩:=m;subst e;cases v with
 |cons r d=>
  cases d with
  |cons w d=>
   cases d with
   |cons l d=>
    cases d;obtain⟨t,rfl⟩:=r;obtain⟨K,rfl⟩:=w;obtain⟨u,rfl⟩:=l;exact call_range_3 m (yQ E y x q) (.inl (Q5 z))
end
end L2
namespace L2
open PySem
end L2
namespace L2
open PySem PySem.Spec PyProof.Rows
noncomputable def Dt(X:Cx)(H:Hp)(x:V)(d:PyData):Prop:=
 ∀(a:List (Addr×Obj))(b:St)(s:Shared)(u:Value),Inv X a b H s->RelV x u->∃c,Reads s.heap u d c
section
variable{X:Cx}{H:Hp}
theorem J7(i:Int):Dt X H (.int i) (.int i):=λ_ _ s u _ r=>by obtain⟨t,rfl⟩:=r;exact⟨_,.int i t⟩
theorem Pg(b:Bool):Dt X H (.bl b) (.bool b):=λ_ _ s u _ r=>by
 cases(show u=Value.bool b from r);exact⟨_,.bool b⟩
theorem J8(x:Str):Dt X H (.str x) (.str x):=λ_ _ s u _ r=>by obtain⟨t,rfl⟩:=r;exact⟨_,.str x t⟩
theorem J9:Dt X H .aI .none:=λ_ _ s u _ r=>by
 cases(show u=Value.none from r);exact⟨_,.none⟩
theorem vo{a:List (Addr×Obj)}{d:St}{s:Shared}(I:Inv X a d H s):∀{b:List V}{ds:List PyData}{us:List Value},Paired (Dt X H) b ds->Vals b us->∃c,ReadsAll s.heap us ds c
 |_,_,_,.nil,.nil=>⟨_,.nil⟩
 |_,_,_,.cons h t,.cons r e=>by obtain⟨c,q⟩:=h _ _ _ _ I r;obtain⟨g,f⟩:=vo I t e;exact⟨_,.cons q f⟩
theorem Bk{a:Addr}{c:List V}{ds:List PyData}(h:iP X.K H a c)(b:Paired (Dt X H) c ds):Dt X H (.ref a) (.list ds):=λ_ _ s u I r=>by
 cases(show u=Value.ref a from r);obtain⟨e,rv,d,_⟩:=I.list h;obtain⟨i,q⟩:=vo I b rv;obtain⟨o,f,g,n,hd⟩:=d.isList;exact⟨_,.list f g hd (by simpa using q)⟩
theorem Ka{a:Addr}{c:List V}{ds:List PyData}(h:iK X.K H a c)(b:Paired (Dt X H) c ds):Dt X H (.ref a) (.tuple ds):=λ_ _ s u I r=>by
 cases(show u=Value.ref a from r);obtain⟨d,rv,e,_⟩:=I.tuple h;obtain⟨i,q⟩:=vo I b rv;obtain⟨o,f,g,n,hd⟩:=e;exact⟨_,.tuple f g hd (by simpa using q)⟩
noncomputable def Sw(X:Cx):R2:=λx y H Q=>∃b a,Dt X H x b/\Dt X H y a/\(SeqAt.shaped b=true/\SeqAt.shaped a=true/\SeqAt.noMix b a=true)/\Q (.bl (PySem.Spec.same b a)) H
noncomputable def Sx(X:Cx):R2:=λx y H Q=>∃b a,Dt X H x b/\Dt X H y a/\(SeqAt.shaped b=true/\SeqAt.shaped a=true/\SeqAt.noMix b a=true)/\Q (.bl (!PySem.Spec.same b a)) H
theorem Kc(j:X.A.units+64<cLine):jj X (compareOp .Eq) (Sw X):=by intro a s m H x y v u Q I c b h;obtain⟨o,n,l,k,⟨i,g,f⟩,q⟩:=h;obtain⟨r,e⟩:=l _ _ _ _ I c;obtain⟨p,d⟩:=k _ _ _ _ I b;exact eq_dataH_same e d i g j f ⟨.bl _,H,I,rfl,q⟩
theorem Kd(j:X.A.units+64<cLine):jj X (compareOp .NotEq) (Sx X):=by intro a s m H x y v u Q I c b h;obtain⟨o,n,l,k,⟨i,g,f⟩,q⟩:=h;obtain⟨r,e⟩:=l _ _ _ _ I c;obtain⟨p,d⟩:=k _ _ _ _ I b;exact ne_dataH_same e d i g j f ⟨.bl _,H,I,rfl,q⟩
end
section
variable{X:Cx}
end
section
variable{X:Cx}{tg:Expr}
end
section
variable{prog:Program}{w:World}{A:Around}{E:Value->Shared->Prop}
end
theorem yS{X:Cx}(D:X.calm=true):bE X (.builtin "min") (λb H Q=>∃(p:Addr)(a:List Int),b=[.ref p]/\iP X.K H p (a.map V.int)/\a≠[]/\∀m∈a,(∀n∈a,m<=n)->Q (.int m) H):=by
 intro g s L H b M Q I r h;obtain⟨p,a,rfl,E,x,q⟩:=h;obtain⟨u,rfl,o⟩:=Vals.one r;cases(show u=Value.ref p from o);obtain⟨e,rv,w,_⟩:=I.list E;have k:=intsAre_of rv;obtain⟨b,i⟩:=k.allInts.items;have f:s.heap.IsList p (intItems b):=i▸w.isList;have l:a=b.toList.map (·.1):=by rw[<-nums_intItems,<-i];exact(show numsOf e.toArray.toList=a from k.numsOf).symm
 have B:a.length=b.size:=by rw[l,Fh,G1]
 have z:0<b.size:=by rw[<-B];exact T1.mpr x
 refine min_intList (I.ok.hd D) f z λv O N y C=>?_;obtain⟨t,rfl⟩:=intItems_at y;obtain⟨P,J⟩:=argBest_lt (numAt b) (b.size -1);have d:∀j,j<a.length->numAt b j=a.getD j 0:=λj _=>by rw[numAt_eq,<-l]
 have F:∀j,j<a.length->a.getD j 0∈a:=λj c=>by rw[SU,Dx c];exact Os c
 refine⟨.int _,H,I.kept C,⟨_,rfl⟩,q _ ?_ λn A=>?_⟩
 .rw[d _ (by lia)];exact F _ (by lia)
 .obtain⟨j,c,rfl⟩:=X1 A;have:=J j (by lia);rw[d j c,SU,Dx c]at this;exact this
theorem yT{X:Cx}(D:X.calm=true):bE X (.builtin "max") (λb H Q=>∃(p:Addr)(a:List Int),b=[.ref p]/\iP X.K H p (a.map V.int)/\a≠[]/\∀m∈a,(∀n∈a,n<=m)->Q (.int m) H):=by
 intro g s L H b M Q I r h;obtain⟨p,a,rfl,E,x,q⟩:=h;obtain⟨u,rfl,o⟩:=Vals.one r;cases(show u=Value.ref p from o);obtain⟨e,rv,w,_⟩:=I.list E;have k:=intsAre_of rv;obtain⟨b,i⟩:=k.allInts.items;have f:s.heap.IsList p (intItems b):=i▸w.isList;have l:a=b.toList.map (·.1):=by rw[<-nums_intItems,<-i];exact(show numsOf e.toArray.toList=a from k.numsOf).symm
 have B:a.length=b.size:=by rw[l,Fh,G1]
 have z:0<b.size:=by rw[<-B];exact T1.mpr x
 refine max_intList (I.ok.hd D) f z λv O N y C=>?_;obtain⟨t,rfl⟩:=intItems_at y;obtain⟨P,J⟩:=argBest_gt (numAt b) (b.size -1);have d:∀j,j<a.length->numAt b j=a.getD j 0:=λj _=>by rw[numAt_eq,<-l]
 have F:∀j,j<a.length->a.getD j 0∈a:=λj c=>by rw[SU,Dx c];exact Os c
 refine⟨.int _,H,I.kept C,⟨_,rfl⟩,q _ ?_ λn A=>?_⟩
 .rw[d _ (by lia)];exact F _ (by lia)
 .obtain⟨j,c,rfl⟩:=X1 A;have:=J j (by lia);rw[d j c,SU,Dx c]at this;exact this
end L2
namespace L2
open PySem
variable{r:List Expr}{env:Env}{pos:Pos}
inductive Ke:List Expr->List (Int×Int)->Prop where
 |nil:Ke [] []
 |cons {a b:Int} {j1 j2 k:Nat} {p1 p2 pos:Pos} {es:List Expr} {qs:List (Int×Int)} (h:Ke es qs):Ke (.Tuple [.Constant (.int a) j1 p1,.Constant (.int b) j2 p2] k pos::es) ((a,b)::qs)
end L2
namespace L2
open PySem PySem.Spec PyProof.Rows
section
variable{X:Cx}{H:Hp}
end
mutual
noncomputable def aH:PyData->Bool
 |.int _=>true
 |.list a=>dU a
 |.tuple a=>dU a
 |.none=>false
 |.bool _=>false
 |.str _=>false
 |.dict _=>false
noncomputable def dU:List PyData->Bool
 |[]=>true
 |x::a=>aH x&&dU a
end
mutual
theorem Bl:∀d:PyData,aH d=true->d.canLay0=true
 |.int _,_=>by simp[PyData.canLay0]
 |.list a,h=>by rw[aH]at h;rw[PyData.canLay0];exact j8 a h
 |.tuple a,h=>by rw[aH]at h;rw[PyData.canLay0];exact j8 a h
 |.none,h=>by simp[aH]at h
 |.bool _,h=>by simp[aH]at h
 |.str _,h=>by simp[aH]at h
 |.dict _,h=>by simp[aH]at h
theorem j8:∀a:List PyData,dU a=true->PyData.canLayAll0 a=true
 |[],_=>by simp[PyData.canLayAll0]
 |x::a,h=>by rw[dU,AC]at h;rw[PyData.canLayAll0,Bl x h.1,j8 a h.2];rfl
end
mutual
theorem Bm:∀d e:PyData,aH d=true->aH e=true->SeqAt.noMix d e=true
 |.int _,.int _,_,_=>by simp[SeqAt.noMix]
 |.int _,.list _,_,_=>by simp[SeqAt.noMix]
 |.int _,.tuple _,_,_=>by simp[SeqAt.noMix]
 |.list _,.int _,_,_=>by simp[SeqAt.noMix]
 |.list _,.tuple _,_,_=>by simp[SeqAt.noMix]
 |.tuple _,.int _,_,_=>by simp[SeqAt.noMix]
 |.tuple _,.list _,_,_=>by simp[SeqAt.noMix]
 |.list c,.list b,h,a=>by rw[aH]at h a;rw[SeqAt.noMix];exact j9 c b h a
 |.tuple c,.tuple b,h,a=>by rw[aH]at h a;rw[SeqAt.noMix];exact j9 c b h a
 |.none,_,h,_=>by simp[aH]at h
 |.bool _,_,h,_=>by simp[aH]at h
 |.str _,_,h,_=>by simp[aH]at h
 |.dict _,_,h,_=>by simp[aH]at h
 |.int _,.none,_,h=>by simp[aH]at h
 |.int _,.bool _,_,h=>by simp[aH]at h
 |.int _,.str _,_,h=>by simp[aH]at h
 |.int _,.dict _,_,h=>by simp[aH]at h
 |.list _,.none,_,h=>by simp[aH]at h
 |.list _,.bool _,_,h=>by simp[aH]at h
 |.list _,.str _,_,h=>by simp[aH]at h
 |.list _,.dict _,_,h=>by simp[aH]at h
 |.tuple _,.none,_,h=>by simp[aH]at h
 |.tuple _,.bool _,_,h=>by simp[aH]at h
 |.tuple _,.str _,_,h=>by simp[aH]at h
 |.tuple _,.dict _,_,h=>by simp[aH]at h
theorem j9:∀b a:List PyData,dU b=true->dU a=true->SeqAt.noMixAll b a=true
 |[],[],_,_=>by simp[SeqAt.noMixAll]
 |[],_::_,_,_=>by simp[SeqAt.noMixAll]
 |_::_,[],_,_=>by simp[SeqAt.noMixAll]
 |x::b,y::a,h,c=>by rw[dU,AC]at h c;rw[SeqAt.noMixAll,Bm x y h.1 c.1,j9 b a h.2 c.2];rfl
end
mutual
theorem yU:∀d e:PyData,aH d=true->aH e=true->(same d e=true↔d=e)
 |.int a,.int b,_,_=>by simp[same]
 |.int _,.list _,_,_=>by simp[same]
 |.int _,.tuple _,_,_=>by simp[same]
 |.list _,.int _,_,_=>by simp[same]
 |.list _,.tuple _,_,_=>by simp[same]
 |.tuple _,.int _,_,_=>by simp[same]
 |.tuple _,.list _,_,_=>by simp[same]
 |.list g,.list f,h,c=>by rw[aH]at h c;rw[same,iT g f h c,PyData.list.injEq]
 |.tuple g,.tuple f,h,c=>by rw[aH]at h c;rw[same,iT g f h c,PyData.tuple.injEq]
 |.none,_,h,_=>by simp[aH]at h
 |.bool _,_,h,_=>by simp[aH]at h
 |.str _,_,h,_=>by simp[aH]at h
 |.dict _,_,h,_=>by simp[aH]at h
 |.int _,.none,_,h=>by simp[aH]at h
 |.int _,.bool _,_,h=>by simp[aH]at h
 |.int _,.str _,_,h=>by simp[aH]at h
 |.int _,.dict _,_,h=>by simp[aH]at h
 |.list _,.none,_,h=>by simp[aH]at h
 |.list _,.bool _,_,h=>by simp[aH]at h
 |.list _,.str _,_,h=>by simp[aH]at h
 |.list _,.dict _,_,h=>by simp[aH]at h
 |.tuple _,.none,_,h=>by simp[aH]at h
 |.tuple _,.bool _,_,h=>by simp[aH]at h
 |.tuple _,.str _,_,h=>by simp[aH]at h
 |.tuple _,.dict _,_,h=>by simp[aH]at h
theorem iT:∀b a:List PyData,dU b=true->dU a=true->(sameAll b a=true↔b=a)
 |[],[],_,_=>by simp[sameAll]
 |[],_::_,_,_=>by simp[sameAll]
 |_::_,[],_,_=>by simp[sameAll]
 |x::b,y::a,h,c=>by rw[dU,AC]at h c;rw[sameAll,AC,yU x y h.1 c.1,iT b a h.2 c.2,VZ]
end
section
variable{X:Cx}
end
theorem tw{a:List PyData}{n:Nat}(h:∀x∈a,x.depth<=n):PyData.depthAll a<=n:=by
 induction a with
 |nil=>simp[PyData.depthAll]
 |cons x a b=>rw[PyData.depthAll];have:=h x (Bi ..);have:=b λy c=>h y (BM _ c);lia
theorem vp(d:List Bool):((Gr d.length).any λi=>(d[i]?).getD false)=d.any id:=by
 rw[Qb,YD,YD];constructor
 .rintro⟨i,c,h⟩;have a:=Tb.mp c;simp only[Dx a,IB]at h;exact⟨_,Os a,h⟩
 .rintro⟨b,e,h⟩;obtain⟨i,c,rfl⟩:=X1 e;refine⟨i,Tb.mpr c,?_⟩;simp only[Dx c,IB];exact h
section
variable{X:Cx}
theorem yV(y:X.calm=true):bE X (.builtin "any") (λj H Q=>∃(p:Addr)(c:List Bool),j=[.ref p]/\iP X.K H p (c.map V.bl)/\Q (.bl (c.any id)) H):=by
 intro k s E H j F Q I r h;obtain⟨p,c,rfl,B,q⟩:=h;obtain⟨u,rfl,n⟩:=Vals.one r;cases(show u=Value.ref p from n);obtain⟨a,rv,t,_⟩:=I.list B;have l:=qe rv;have g:=t.isList;have f:p<s.heap.objs.size:=by obtain⟨_,e,_⟩:=g;exact Fk e
 refine call_any_walk (wpAny_pyIter_list g ?_);refine⟨s.heap.objs.size,[s.heap.objs.size,p],[s.heap.objs.size],a.toArray.size,_,_,λi=>(c[i]?).getD false,rfl,Walks.list (A:=X.A.in1) (I.ok.hd y) _ p (Jn f) a.toArray,
  ⟨⟨_,Hk _ rfl,rfl,rfl⟩,g.push _⟩,λi v L N O C m=>?_,λM J x=>?_⟩
 .have d:a[i]?=some v:=by simpa using C
  rw[l,Hb]at d;cases e:c[i]? with
  |none=>rw[e]at d;cases d
  |some b=>rw[e]at d;simp only[e,IB]at m;have:v=Value.bool b:=(Hn d).symm;subst this;exact Q1 m
 .have e:((Gr a.toArray.size).any λi=>(c[i]?).getD false)=c.any id:=by
   have D:a.toArray.size=c.length:=by rw[Fm,l,Fh]
   rw[D];exact vp c
  rw[e];exact⟨.bl _,H,I.kept λb o z=>x b o (λw=>by rw[Fn.mp w]at z;exact Pm _ (Fk z)) (Da _ z),rfl,q⟩
end
end L2
set_option genSizeOf false
set_option genInjectivity false
namespace Num
noncomputable def ev(x:Rat):List Rat->Rat
 |[]=>0
 |r::a=>r+x*ev x a
noncomputable def sm(f:Nat->Int):Nat->Int
 |0=>0
 |n+1=>sm f n+f n
end Num
namespace Sub
abbrev Ix:=Bool×Nat
abbrev Vc:=Ix->Int
noncomputable def ex(D:List Vc->Int)(r:Ix):List Vc->List Vc->Int
 |_,[]=>0
 |pre,c::post=>c r*D (pre++post) -ex D r (pre++[c]) post
noncomputable def det:List Ix->List Vc->Int
 |[],[]=>1
 |[],_::_=>0
 |r::a,cs=>ex (det a) r [] cs
noncomputable def sg(n:Nat):Int:=(-1)^n
noncomputable def sh(j:Nat)(P:Vc):Vc:=λi=>if j<=i.2 then P (i.1,i.2 -j)else 0
noncomputable def Sy(P:Vc):Nat->List Vc
 |0=>[]
 |n+1=>sh n P::Sy P n
noncomputable def rws:Nat->Nat->List Ix
 |_,0=>[]
 |0,_+1=>[]
 |E+1,c+1=>(false,E)::rws E c
noncomputable def comb(c:Int)(a:Vc):List (Int×Vc)->Vc
 |[]=>λi=>c*a i+0*a i
 |z::L=>λi=>1*comb c a L i+z.1*z.2 i
noncomputable def SS(E:Nat)(A B:Vc)(a b:Nat)(c:Ix):Int:=det (rws E (a+b -1)++[c]) (Sy A a++Sy B b)
noncomputable def less(c:Int)(A B:Vc)(L:List (Int×Nat)):Vc:=comb c A (L.map λz=>(z.1,sh z.2 B))
noncomputable def Ws(a:Int):Prop:=a=1\/a= -1
structure Ch(A B:Vc)(m n:Nat)(P Q:Vc)(p q:Nat)(lp lq h:Int):Prop where
 hpq:q<=p
 Yl:lp≠0
 h0:h≠0
 Ym:lq≠0
 lead:Q (false,q)=lq
 zero:∀t,q<t->Q (false,t)=0
 inv:∀k,k<=q->k<p->∃ε:Int,Ws ε/\∀ρ,SS (p+q -k) P Q (q -k) (p -k) ρ=ε*(lp^(q -k)*h^(p -k -1))*SS (m+n -k) A B (n -k) (m -k) ρ
end Sub
namespace Sub
open Num
noncomputable def vc(r f:List Int):Vc:=λi=>if i.1 then f.getD i.2 0 else r.getD i.2 0
end Sub
namespace Num
end Num
namespace Sub
open Num
structure CS(ns ms f0 g0:List Int)(w E b1:Nat)(P Q fP fQ:List Int)(ld h:Int):Prop where
 ch:Ch (vc ns f0) (vc ms g0) (ns.length -1) (ms.length -1) (vc P fP) (vc Q fQ) (P.length -1) (Q.length -1) ld (Q.getD (Q.length -1) 0) h
 lq:0<Q.length
 Yn:Q.length<=P.length
 lp:P.length<=ns.length
 Yo:Q.length<=ms.length
 lf:fP.length+Q.length<=b1
 Wt:fQ=[]\/fQ.length+P.length<=b1
 bP:∀i,(vc P fP i).natAbs<=2^(w*(ns.length -1+(ms.length -1)+1))
 bQ:∀i,(vc Q fQ i).natAbs<=2^(w*(ns.length -1+(ms.length -1)+1))
 bl:ld.natAbs<=2^(w*(ns.length -1+(ms.length -1)+1))
 bh:h.natAbs<=2^(w*(ns.length -1+(ms.length -1) -2*(P.length -1)))
structure FX(ns ms f0 g0:List Int)(w E:Nat):Prop where
 l1:ms.length<=ns.length
 l2:ns.length<=50
 M:∃M:Nat,(∀i,(vc ns f0 i).natAbs<=M)/\(∀i,(vc ms g0 i).natAbs<=M)/\1<=M/\(ns.length -1+(ms.length -1)+1)*M<=2^w
 E1:∀p,(ns.length -1+(ms.length -1) -2*p)*p+(ns.length -1+(ms.length -1)+1)<=E
end Sub
namespace Num
abbrev co(a:List Int):Nat->Int:=λi=>a.getD i 0
end Num
namespace Sub
open Num
end Sub
namespace Num
noncomputable def wt:Nat->List Rat->List Rat
 |_,[]=>[]
 |k,r::a=>((k:Int):Rat)*r::wt (k+1) a
noncomputable def hz(t:Int):List Int->List Int
 |[]=>[]
 |r::a=>(r+t*(hz t a).headD 0)::hz t a
noncomputable def cs(l:List Int):List Rat:=l.map λx:Int=>((x:Int):Rat)
noncomputable def sc(u b:Rat):List Rat->List Rat
 |[]=>[]
 |r::a=>r*u*b^a.length::sc u b a
end Num
namespace VL
open PySem PySem.Spec PyProof.Rows L2
theorem ff{C:Prop}(h:false=true):C:=Bool.noConfusion h
theorem nn{α:Type}{a:α}{C:Prop}(h:none=some a):C:=Option.noConfusion rfl (heq_of_eq h)
inductive W where
 |aI|bl (b:Bool)|int (i:Int)|str (x:Str)|ty (n:String)|cls (C:Addr)|err (C:Addr)|fn (f:Addr)
 |tup (l:List W)|lst (l:List W)|dct (ks vs:List W)|obj (C:Addr) (fs:List Str) (vs:List W)|cY (ns:List Int)
noncomputable def wJ:HO->Bool
 |.lst _|.ins _ _ _|.dK _|.dT _|.set _ _=>true
 |_=>false
noncomputable def lG:Key->W
 |.inl i=>.int i
 |.inr x=>.str x
noncomputable def oX(K:Frag)(C:Addr)(a:List Str):Prop:=DU K C/\a.length<1000/\a.Nodup/\∀x∈a,gI K C x
noncomputable def Rz(H:Hp)(a:Addr)(u:HO):Prop:=H a=some u\/False
theorem Rz.rd{H:Hp}{a:Addr}{u:HO}(h:Rz H a u):Rd H a u:=h.elim .inl Ey
theorem Rz.at{H:Hp}{a:Addr}{u:HO}(h:Rz H a u):H a=some u:=h.elim id Ey
mutual
noncomputable def Rep(K:Frag)(A:Addr->Prop)(H:Hp):W->V->Prop
 |.aI,v=>v=.aI
 |.bl b,v=>v=.bl b
 |.int i,v=>v=.int i
 |.str x,v=>v=.str x
 |.ty n,v=>v=.ty n
 |.cls C,v=>v=.ref C
 |.fn f,v=>v=.ref f
 |.err C,v=>∃a,v=.ref a/\H a=some (Sl a C)/\¬A a
 |.tup l,v=>∃p vs,v=.ref p/\H p=some (.tup vs)/\af K A H l vs
 |.lst l,v=>∃p vs,v=.ref p/\¬A p/\Rz H p (.lst vs)/\af K A H l vs
 |.dct g c,v=>∃p kvs,v=.ref p/\¬A p/\H p=some (.dK kvs)/\g=kvs.map (λx=>lG x.1)/\af K A H c (kvs.map (·.2))
 |.obj C d c,v=>∃p h vs,v=.ref p/\¬A p/\H p=some (.ins C h (d.zip vs))/\vs.length=d.length/\oX K C d/\af K A H c vs
 |.cY e,v=>∃p,v=.ref p/\((∃o,H p=some (.uK o (.lst (e.map V.int))))\/iP K (λ_=>none) p (e.map V.int))
noncomputable def af(K:Frag)(A:Addr->Prop)(H:Hp):List W->List V->Prop
 |[],vs=>vs=[]
 |w::a,vs=>∃v r,vs=v::r/\Rep K A H w v/\af K A H a r
end
section
variable{K:Frag}{A B:Addr->Prop}{H H':Hp}
theorem ao.rz{p:Addr}{u:HO}(s:ao H H')(h:Rz H p u):Rz H' p u:=.inl (s _ _ h.at)
theorem ao.rd{p:Addr}{u:HO}(s:ao H H')(h:Rd H p u):Rd H' p u:=by
 rcases h with h|⟨o,h⟩
 .exact .inl (s _ _ h)
 .exact .inr ⟨o,s _ _ h⟩
noncomputable def qf(B:Addr->Prop)(H H':Hp):Prop:=∀p o,H p=some o->(wJ o=true/\B p)\/H' p=some o
theorem qf.un{p:Addr}{o:HO}(h:qf A H H')(e:H p=some o)(n:wJ o=true->¬A p):H' p=some o:=by
 rcases h p o e with⟨z,y⟩|z
 .exact(n z y).elim
 .exact z
mutual
theorem Rep.chg(h:qf A H H')(d:∀p o,H p=some o->B p->A p):∀(w:W){v:V},Rep K A H w v->Rep K B H' w v
 |.aI,_,r=>by dsimp only[Rep]at r⊢;exact r
 |.bl _,_,r=>by dsimp only[Rep]at r⊢;exact r
 |.int _,_,r=>by dsimp only[Rep]at r⊢;exact r
 |.str _,_,r=>by dsimp only[Rep]at r⊢;exact r
 |.ty _,_,r=>by dsimp only[Rep]at r⊢;exact r
 |.cls _,_,r=>by dsimp only[Rep]at r⊢;exact r
 |.fn _,_,r=>by dsimp only[Rep]at r⊢;exact r
 |.err C,v,r=>by obtain⟨a,e,b,c⟩:=r;exact⟨a,e,h.un b (λz=>by cases z),λz=>c (d a _ b z)⟩
 |.tup l,v,r=>by obtain⟨p,f,e,b,c⟩:=r;exact⟨p,f,e,h.un b (λz=>by cases z),af.chg h d l c⟩
 |.lst l,v,r=>by
  dsimp only[Rep]at r⊢;obtain⟨p,f,e,n,b,c⟩:=r;refine⟨p,f,e,λz=>?_,?_,af.chg h d l c⟩
  .exact n (d p _ b.at z)
  .exact .inl (h.un b.at λ_=>n)
 |.dct s g,v,r=>by obtain⟨p,i,e,n,b,c,j⟩:=r;exact⟨p,i,e,λz=>n (d p _ b z),h.un b λ_=>n,c,af.chg h d g j⟩
 |.obj C t g,v,r=>by obtain⟨p,m,f,e,n,b,c,k,j⟩:=r;exact⟨p,m,f,e,λz=>n (d p _ b z),h.un b λ_=>n,c,k,af.chg h d g j⟩
 |.cY q,v,r=>by obtain⟨p,e,b⟩:=r;exact⟨p,e,b.imp (by rintro⟨o,z⟩;exact⟨o,h.un z λz=>by cases z⟩) id⟩
theorem af.chg(h:qf A H H')(a:∀p o,H p=some o->B p->A p):∀(l:List W){vs:List V},af K A H l vs->af K B H' l vs
 |[],_,r=>by dsimp only[af]at r⊢;exact r
 |w::l,vs,r=>by obtain⟨v,b,e,d,c⟩:=r;exact⟨v,b,e,Rep.chg h a w d,af.chg h a l c⟩
end
theorem qf.same(s:ao H H'):qf A H H':=λ_ _ e=>.inr (s _ _ e)
theorem qf.put{p:Addr}{a o:HO}(b:H p=some a)(c:wJ a=true)(d:A p):qf A H (upd H p o):=λq u e=>by
 by_cases n:q=p
 .subst n;rw[b]at e;cases e;exact .inl ⟨c,d⟩
 .exact .inr (by rw[au n];exact e)
theorem Rep.mv(s:ao H H')(a:∀p o,H p=some o->B p->A p)(w:W){v:V}(h:Rep K A H w v):Rep K B H' w v:=Rep.chg (.same s) a w h
theorem af.mv(s:ao H H')(a:∀p o,H p=some o->B p->A p)(l:List W){vs:List V}(h:af K A H l vs):af K B H' l vs:=af.chg (.same s) a l h
theorem Rep.same{w:W}{v:V}(s:ao H H')(h:Rep K A H w v):Rep K A H' w v:=Rep.mv s (λ_ _ _ z=>z) w h
theorem af.same{l:List W}{vs:List V}(s:ao H H')(h:af K A H l vs):af K A H' l vs:=af.mv s (λ_ _ _ z=>z) l h
theorem Rep.less{w:W}{v:V}(a:∀p,B p->A p)(h:Rep K A H w v):Rep K B H w v:=Rep.mv (ao.refl H) (λp _ _ z=>a p z) w h
theorem af.less{l:List W}{vs:List V}(a:∀p,B p->A p)(h:af K A H l vs):af K B H l vs:=af.mv (ao.refl H) (λp _ _ z=>a p z) l h
theorem af.put{p:Addr}{a:List V}{o:HO}(b:H p=some (.lst a))(c:A p)(l:List W){vs:List V}(h:af K A H l vs):af K A (upd H p o) l vs:=af.chg (.put b rfl c) (λ_ _ _ z=>z) l h
theorem af.nil:af K A H [] []:=by dsimp only[af]
theorem af.cons{w:W}{v:V}{l:List W}{vs:List V}(b:Rep K A H w v)(a:af K A H l vs):af K A H (w::l) (v::vs):=by dsimp only[af];exact⟨v,vs,rfl,b,a⟩
theorem af.nil_inv{vs:List V}(h:af K A H [] vs):vs=[]:=by dsimp only[af]at h;exact h
theorem af.cons_inv{w:W}{l:List W}{vs:List V}(h:af K A H (w::l) vs):∃v r,vs=v::r/\Rep K A H w v/\af K A H l r:=by dsimp only[af]at h;exact h
theorem af.len:∀{l:List W}{vs:List V},af K A H l vs->vs.length=l.length
 |[],vs,h=>by rw[h.nil_inv];rfl
 |w::l,vs,h=>by obtain⟨v,r,rfl,_,a⟩:=h.cons_inv;rw[AE,AE,a.len]
theorem af.app:∀{l m:List W}{vs us:List V},af K A H l vs->af K A H m us->af K A H (l++m) (vs++us)
 |[],m,vs,us,h,k=>by rw[h.nil_inv];exact k
 |w::l,m,vs,us,h,k=>by obtain⟨v,r,rfl,b,a⟩:=h.cons_inv;exact .cons b (a.app k)
theorem af.get:∀{l:List W}{vs:List V}{i:Nat}{w:W},af K A H l vs->l[i]?=some w->∃v,vs[i]?=some v/\Rep K A H w v
 |[],_,_,_,_,e=>by simp at e
 |x::l,vs,0,w,h,e=>by obtain⟨v,r,rfl,b,a⟩:=h.cons_inv;simp at e;subst e;exact⟨v,rfl,b⟩
 |x::l,vs,i+1,w,h,e=>by obtain⟨v,r,rfl,b,a⟩:=h.cons_inv;obtain⟨u,d,c⟩:=a.get (i:=i) (by simpa using e);exact⟨u,by simpa using d,c⟩
theorem af.set:∀{l:List W}{vs:List V}{i:Nat}{w:W}{v:V},af K A H l vs->Rep K A H w v->af K A H (l.set i w) (vs.set i v)
 |[],_,_,_,_,h,_=>by rw[h.nil_inv];exact .nil
 |x::l,vs,0,w,v,h,e=>by obtain⟨c,r,rfl,b,a⟩:=h.cons_inv;exact .cons e a
 |x::l,vs,i+1,w,v,h,e=>by obtain⟨c,r,rfl,b,a⟩:=h.cons_inv;exact .cons b (a.set e)
theorem af.take:∀{l:List W}{vs:List V}(n:Nat),af K A H l vs->af K A H (l.take n) (vs.take n)
 |_,_,0,_=>.nil
 |[],vs,n+1,h=>by rw[h.nil_inv];exact .nil
 |x::l,vs,n+1,h=>by obtain⟨c,r,rfl,b,a⟩:=h.cons_inv;exact .cons b (a.take n)
theorem af.drop:∀{l:List W}{vs:List V}(n:Nat),af K A H l vs->af K A H (l.drop n) (vs.drop n)
 |_,_,0,h=>h
 |[],vs,n+1,h=>by rw[h.nil_inv];exact .nil
 |x::l,vs,n+1,h=>by obtain⟨b,r,rfl,c,a⟩:=h.cons_inv;exact a.drop n
theorem af.dropLast{l:List W}{vs:List V}(h:af K A H l vs):af K A H l.dropLast vs.dropLast:=by rw[Ru,Ru,h.len];exact h.take _
theorem af.rep{l:List W}{vs:List V}(h:af K A H l vs):∀n:Nat,af K A H (A0 n l).flatten (A0 n vs).flatten
 |0=>.nil
 |n+1=>by rw[Er,Er,HU,HU];exact h.app (h.rep n)
theorem af.ints{a:List Int}:∀{vs:List V},af K A H (a.map W.int) vs->vs=a.map V.int:=by
 induction a with
 |nil=>intro vs h;exact h.nil_inv
 |cons n a c=>intro vs h;obtain⟨v,r,rfl,b,d⟩:=h.cons_inv;dsimp only[Rep]at b;rw[b,c d];rfl
theorem af.Ez(a:List Int):af K A H (a.map W.int) (a.map V.int):=by
 induction a with
 |nil=>exact .nil
 |cons n a b=>exact .cons (by dsimp only[Rep]) b
theorem af.UQ{a:List Bool}:∀{vs:List V},af K A H (a.map W.bl) vs->vs=a.map V.bl:=by
 induction a with
 |nil=>intro vs h;exact h.nil_inv
 |cons n e c=>intro vs h;obtain⟨v,r,rfl,b,d⟩:=h.cons_inv;dsimp only[Rep]at b;rw[b,c d];rfl
end
end VL
set_option genSizeOf false
set_option genInjectivity false
namespace VL
open PySem PySem.Spec
open PyProof.Rows hiding St
open L2
inductive Md where
 |s|f|t (ms:List Md)|o (fs:List Str) (ms:List Md)
 |io (m:Md)
 |ls (m:Md)
 |d
noncomputable def fF(P:W->V->List Addr->Prop):List W->List V->List Addr->Prop
 |[],vs,F=>vs=[]/\F=[]
 |w::d,vs,F=>∃v a c b,vs=v::a/\F=c++b/\P w v c/\fF P d a b
mutual
noncomputable def Fp(K:Frag)(B:Addr->Prop)(H:Hp):Md->W->V->List Addr->Prop
 |.s,w,v,F=>F=[]/\Rep K B H w v
 |.f,w,v,F=>∃a p vs,w=.lst a/\v=.ref p/\F=[p]/\H p=some (.lst vs)/\af K B H a vs
 |.t c,w,v,F=>∃a p vs,w=.tup a/\v=.ref p/\H p=some (.tup vs)/\cX K B H c a vs F
 |.o b c,w,v,F=>∃C g a p vs F',w=.obj C b a/\v=.ref p/\F=p::F'/\H p=some (.ins C g (b.zip vs))/\vs.length=b.length/\oX K C b/\cX K B H c a vs F'
 |.io _,_,_,_=>False
 |.d,w,v,F=>∃e a p kvs,w=.dct e a/\v=.ref p/\F=[p]/\H p=some (.dK kvs)/\e=kvs.map (λx=>lG x.1)/\af K B H a (kvs.map (·.2))
 |.ls m,w,v,F=>∃a p vs F',w=.lst a/\v=.ref p/\F=p::F'/\H p=some (.lst vs)/\fF (Fp K B H m) a vs F'
noncomputable def cX(K:Frag)(B:Addr->Prop)(H:Hp):List Md->List W->List V->List Addr->Prop
 |[],b,vs,F=>b=[]/\vs=[]/\F=[]
 |m::f,b,vs,F=>∃w c v a e d,b=w::c/\vs=v::a/\F=e++d/\Fp K B H m w v e/\cX K B H f c a d
end
theorem fF.mono{P Q:W->V->List Addr->Prop}:∀{a:List W}{vs:List V}{F:List Addr},(∀w v F',(∀p∈F',p∈F)->P w v F'->Q w v F')->fF P a vs F->fF Q a vs F
 |[],_,_,_,h=>h
 |w::a,vs,F,k,⟨v,b,e,j,i,d,g,f⟩=>⟨v,b,e,j,i,d,k w v e (λp c=>by rw[d];exact Gc _ c) g,fF.mono (λw v F' h=>k w v F' λp c=>by rw[d];exact FK _ (h p c)) f⟩
theorem fF.len{P:W->V->List Addr->Prop}:∀{a:List W}{vs:List V}{F:List Addr},fF P a vs F->vs.length=a.length
 |[],_,_,h=>by rw[h.1];rfl
 |w::a,vs,F,⟨v,b,i,g,d,f,e,c⟩=>by rw[d,AE,AE,fF.len c]
theorem fF.app{P:W->V->List Addr->Prop}:∀{b us:List W}{vs a:List V}{F G:List Addr},fF P b vs F->fF P us a G->fF P (b++us) (vs++a) (F++G)
 |[],us,vs,a,F,G,⟨e,d⟩,k=>by rw[e,d];exact k
 |w::b,us,vs,a,F,G,⟨v,c,i,h,e,d,g,f⟩,k=>⟨v,c++a,i,h++G,by rw[e];rfl,by rw[d,KF],g,fF.app f k⟩
noncomputable def lH(B G:Addr->Prop)(H H':Hp):Prop:=∀p o,H p=some o->(wJ o=true/\B p/\¬G p)\/H' p=some o
section
variable{K:Frag}{A B G:Addr->Prop}{H H':Hp}
theorem lH.c(h:lH A G H H'):qf A H H':=λp o e=>(h p o e).imp (λz=>⟨z.1,z.2.1⟩) id
theorem lH.un{p:Addr}{o:HO}(h:lH A G H H')(e:H p=some o)(g:wJ o=true->G p):H' p=some o:=by
 rcases h p o e with⟨z,_,y⟩|z
 .exact(y (g z)).elim
 .exact z
mutual
theorem Fp.chg(h:lH A G H H')(l:∀p o,H p=some o->B p->A p):∀(m:Md){w:W}{v:V}{F:List Addr},(∀p∈F,G p)->Fp K A H m w v F->Fp K B H' m w v F
 |.s,w,v,F,a,r=>by dsimp only[Fp]at r⊢;exact⟨r.1,Rep.chg h.c l w r.2⟩
 |.f,w,v,F,a,r=>by obtain⟨e,p,vs,k,j,b,i,g⟩:=r;exact⟨e,p,vs,k,j,b,h.un i (λ_=>a p (by rw[b];exact Bi)),af.chg h.c l e g⟩
 |.t n,w,v,F,a,r=>by obtain⟨e,p,vs,k,j,i,g⟩:=r;exact⟨e,p,vs,k,j,h.un i (λz=>by cases z),cX.chg h l n a g⟩
 |.o N n,w,v,F,a,r=>by obtain⟨C,M,e,p,vs,y,k,j,b,i,g,I,L⟩:=r;exact⟨C,M,e,p,vs,y,k,j,b,h.un i (λ_=>a p (by rw[b];exact Bi)),g,I,cX.chg h l n (λq x=>a q (by rw[b];exact BM _ x)) L⟩
 |.io _,w,v,F,a,r=>Ey r
 |.d,w,v,F,a,r=>by obtain⟨D,e,p,u,k,j,b,i,E,g⟩:=r;exact⟨D,e,p,u,k,j,b,h.un i (λ_=>a p (by rw[b];exact Bi)),E,af.chg h.c l e g⟩
 |.ls m,w,v,F,a,r=>by obtain⟨e,p,vs,y,k,j,b,i,g⟩:=r;exact⟨e,p,vs,y,k,j,b,h.un i (λ_=>a p (by rw[b];exact Bi)),g.mono λw v G J z=>Fp.chg h l m (λq x=>a q (by rw[b];exact BM _ (J q x))) z⟩
theorem cX.chg(h:lH A G H H')(f:∀p o,H p=some o->B p->A p):∀(a:List Md){b:List W}{vs:List V}{F:List Addr},(∀p∈F,G p)->cX K A H a b vs F->cX K B H' a b vs F
 |[],_,_,_,_,r=>by dsimp only[cX]at r⊢;exact r
 |m::a,b,vs,F,g,r=>by obtain⟨w,n,v,c,s,q,l,k,e,j,i⟩:=r;exact⟨w,n,v,c,s,q,l,k,e,Fp.chg h f m (λp d=>g p (by rw[e];exact Gc _ d)) j,cX.chg h f a (λp d=>g p (by rw[e];exact FK _ d)) i⟩
end
theorem lH.same(s:ao H H'):lH A (λ_=>True) H H':=λ_ _ e=>.inr (s _ _ e)
theorem Fp.mv(s:ao H H')(a:∀p o,H p=some o->B p->A p)(m:Md){w:W}{v:V}{F:List Addr}(h:Fp K A H m w v F):Fp K B H' m w v F:=Fp.chg (.same s) a m (λ_ _=>trivial) h
theorem cX.mv(s:ao H H')(b:∀p o,H p=some o->B p->A p)(a:List Md){w:List W}{v:List V}{F:List Addr}(h:cX K A H a w v F):cX K B H' a w v F:=cX.chg (.same s) b a (λ_ _=>trivial) h
mutual
theorem Fp.rep(j:∀p,B p->A p):∀(m:Md){w:W}{v:V}{F:List Addr},(∀p∈F,¬B p)->Fp K A H m w v F->Rep K B H w v
 |.s,w,v,F,a,h=>by dsimp only[Fp]at h;exact h.2.less j
 |.f,w,v,F,a,h=>by obtain⟨b,p,vs,rfl,rfl,rfl,e,c⟩:=h;exact⟨p,vs,rfl,a p (Fn.mpr rfl),.inl e,c.less j⟩
 |.t l,w,v,F,a,h=>by obtain⟨b,p,vs,rfl,rfl,e,c⟩:=h;exact⟨p,vs,rfl,e,cX.rep j l a c⟩
 |.o J l,w,v,F,a,h=>by obtain⟨C,D,b,p,vs,i,rfl,rfl,rfl,e,c,x,y⟩:=h;exact⟨p,D,vs,rfl,a p Bi,e,c,x,cX.rep j l (λq g=>a q (BM _ g)) y⟩
 |.io _,w,v,F,a,h=>Ey h
 |.d,w,v,F,a,h=>by obtain⟨I,b,p,n,rfl,rfl,rfl,e,u,c⟩:=h;exact⟨p,n,rfl,a p (Fn.mpr rfl),e,u,c.less j⟩
 |.ls m,w,v,F,a,h=>by
  obtain⟨b,p,vs,i,rfl,rfl,rfl,e,c⟩:=h;dsimp only[Rep];have z:∀(b:List W)(vs:List V)(i:List Addr),(∀q∈i,¬B q)->fF (Fp K A H m) b vs i->af K B H b vs:=λb=>by
   induction b with
   |nil=>rintro vs i _ ⟨rfl,_⟩;exact .nil
   |cons w b r=>rintro vs i a ⟨v,k,L,E,rfl,rfl,e,c⟩;exact .cons (Fp.rep j m (λq g=>a q (Gc _ g)) e) (r k E (λq g=>a q (FK _ g)) c)
  exact⟨p,vs,rfl,a p Bi,.inl e,z b vs i (λq g=>a q (BM _ g)) c⟩
theorem cX.rep(e:∀p,B p->A p):∀(b:List Md){a:List W}{vs:List V}{F:List Addr},(∀p∈F,¬B p)->cX K A H b a vs F->af K B H a vs
 |[],_,_,_,_,h=>by obtain⟨rfl,rfl,_⟩:=h;exact .nil
 |m::b,a,vs,F,d,h=>by obtain⟨w,j,v,f,l,k,rfl,rfl,rfl,i,g⟩:=h;exact .cons (Fp.rep e m (λp c=>d p (Gc _ c)) i) (cX.rep e b (λp c=>d p (FK _ c)) g)
end
mutual
theorem Fp.mu:∀(m:Md){w:W}{v:V}{F:List Addr},Fp K A H m w v F->∀p∈F,∃o,H p=some o/\wJ o=true
 |.s,w,v,F,h,p,a=>by dsimp only[Fp]at h;rw[h.1]at a;cases a
 |.f,w,v,F,h,p,a=>by obtain⟨b,q,vs,_,_,rfl,c,_⟩:=h;rw[Fn.mp a];exact⟨_,c,rfl⟩
 |.t i,w,v,F,h,p,a=>by obtain⟨b,q,vs,_,_,c,k⟩:=h;exact cX.mu i k p a
 |.o y i,w,v,F,h,p,a=>by
  obtain⟨C,z,b,q,vs,e,_,_,rfl,c,_,_,j⟩:=h;rcases Ee.mp a with rfl|a
  .exact⟨_,c,rfl⟩
  .exact cX.mu i j p a
 |.io _,w,v,F,h,p,a=>Ey h
 |.d,w,v,F,h,p,a=>by obtain⟨x,b,q,l,_,_,rfl,c,_⟩:=h;rw[Fn.mp a];exact⟨_,c,rfl⟩
 |.ls m,w,v,F,h,p,a=>by
  obtain⟨b,q,vs,e,_,_,rfl,c,j⟩:=h;have r:∀(b:List W)(vs:List V)(e:List Addr),fF (Fp K A H m) b vs e->∀p∈e,∃o,H p=some o/\wJ o=true:=λb=>by
   induction b with
   |nil=>rintro vs e ⟨_,rfl⟩ p a;cases a
   |cons w b n=>
    rintro vs e ⟨v,g,D,u,rfl,rfl,c,k⟩ p a;rcases FV.mp a with a|a
    .exact Fp.mu m c p a
    .exact n g u k p a
  rcases Ee.mp a with rfl|a
  .exact⟨_,c,rfl⟩
  .exact r b vs e j p a
theorem cX.mu:∀(b:List Md){c:List W}{vs:List V}{F:List Addr},cX K A H b c vs F->∀p∈F,∃o,H p=some o/\wJ o=true
 |[],_,_,_,h,p,a=>by dsimp only[cX]at h;rw[h.2.2]at a;cases a
 |m::b,c,vs,F,h,p,a=>by
  obtain⟨w,g,v,d,j,i,_,_,rfl,f,e⟩:=h;rcases FV.mp a with a|a
  .exact Fp.mu m f p a
  .exact cX.mu b e p a
end
inductive ir where
 |ix (n:Nat)|fl (n:Nat) (x:Str)
noncomputable def bD:W->List ir->Option W
 |w,[]=>some w
 |.tup l,.ix n::π=>match l[n]? with
  |some u=>bD u π
  |none=>none
 |.lst l,.ix n::π=>match l[n]? with
  |some u=>bD u π
  |none=>none
 |.obj _ _ l,.fl n _::π=>match l[n]? with
  |some u=>bD u π
  |none=>none
 |_,_=>none
noncomputable def setAt:W->List ir->W->W
 |_,[],u=>u
 |.tup l,.ix n::π,u=>match l[n]? with
  |some x=>.tup (l.set n (setAt x π u))
  |none=>.tup l
 |.lst l,.ix n::π,u=>match l[n]? with
  |some x=>.lst (l.set n (setAt x π u))
  |none=>.lst l
 |.obj C a l,.fl n _::π,u=>match l[n]? with
  |some x=>.obj C a (l.set n (setAt x π u))
  |none=>.obj C a l
 |w,_,_=>w
noncomputable def gC:Md->List ir->Option Md
 |m,[]=>some m
 |.t a,.ix n::π=>match a[n]? with
  |some m=>gC m π
  |none=>none
 |.o b a,.fl n x::π=>if b[n]?=some x then(match a[n]? with
  |some m=>gC m π
  |none=>none)else none
 |.ls m,.ix _::π=>gC m π
 |_,_=>none
noncomputable def sq(K:Frag)(H:Hp):V->List ir->V->Prop
 |v,[],u=>u=v
 |v,.ix n::π,u=>∃p vs x,v=.ref p/\(H p=some (.tup vs)\/H p=some (.lst vs))/\vs[n]?=some x/\sq K H x π u
 |v,.fl n f::π,u=>∃p vs x,v=.ref p/\(∃(C b:Addr)(a:List Str),H p=some (.ins C b (a.zip vs))/\vs.length=a.length/\oX K C a/\a[n]?=some f)/\vs[n]?=some x/\sq K H x π u
theorem gO{α:Type}:∀{l:List α}{n:Nat}{x:α},l[n]?=some x->l.set n x=l
 |[],_,_,e=>by cases e
 |y::l,0,x,e=>by cases e;rfl
 |y::l,n+1,x,e=>by rw[SV,gO (by simpa using e)]
theorem cX.at:∀(i:List Md){l:List W}{vs:List V}{F:List Addr}{n:Nat}{m:Md}{w:W},cX K A H i l vs F->i[n]?=some m->l[n]?=some w->
 ∃v d F' k,vs[n]?=some v/\F=d++F'++k/\Fp K A H m w v F'/\∀(H':Hp)(B:Addr->Prop) w' g j,Fp K B H' m w' g j->lH A (·∈d++k) H H'->(∀p o,H p=some o->B p->A p)->cX K B H' i (l.set n w') (vs.set n g) (d++j++k)
 |[],_,_,_,n,m,w,_,e,_=>by cases e
 |m0::i,l,vs,F,0,m,w,h,D,C=>by obtain⟨I,E,v,f,d,k,rfl,rfl,rfl,x,t⟩:=h;cases D;cases C;refine⟨v,[],d,k,rfl,by simp,x,λH' B w' g j y q r=>?_⟩;exact⟨w',E,g,f,j,k,rfl,rfl,by simp,y,cX.chg q r i (λp s=>by simpa using s) t⟩
 |m0::i,l,vs,F,n+1,m,w,h,D,C=>by obtain⟨I,E,v,f,d,k,rfl,rfl,rfl,x,t⟩:=h;obtain⟨u,L,P,J,O,rfl,N,M⟩:=cX.at i t (n:=n) (by simpa using D) (by simpa using C);refine⟨u,d++L,P,J,by simpa using O,by simp,N,λH' B w' g j y q r=>?_⟩;refine⟨I,E.set n w',v,f.set n g,d,L++j++J,rfl,rfl,by simp,Fp.chg q r m0 (λp s=>by simp[s]) x,M H' B w' g j y (λp o e=>(q p o e).imp (λ⟨a,b,c⟩=>⟨a,b,λz=>c ?_⟩) id) r⟩;rcases FV.mp z with z|z<;>simp[z]
theorem fF.at{m:Md}:∀{q:List W}{vs:List V}{F:List Addr}{n:Nat}{w:W},fF (Fp K A H m) q vs F->q[n]?=some w->
 ∃v d F' j,vs[n]?=some v/\F=d++F'++j/\Fp K A H m w v F'/\∀(H':Hp)(B:Addr->Prop) w' g i,Fp K B H' m w' g i->lH A (·∈d++j) H H'->(∀p o,H p=some o->B p->A p)->fF (Fp K B H' m) (q.set n w') (vs.set n g) (d++i++j)
 |[],_,_,n,w,_,e=>by cases e
 |w0::M,vs,F,0,w,h,y=>by obtain⟨v,f,d,j,rfl,rfl,t,s⟩:=h;cases y;refine⟨v,[],d,j,rfl,by simp,t,λH' B w' g i x k l=>?_⟩;exact⟨g,f,i,j,rfl,by simp,x,s.mono λw v G L z=>Fp.chg k l m (λp r=>by simpa using L p r) z⟩
 |w0::M,vs,F,n+1,w,h,y=>by obtain⟨v,f,d,j,rfl,rfl,t,s⟩:=h;obtain⟨u,D,N,C,J,rfl,I,E⟩:=fF.at s (n:=n) (by simpa using y);refine⟨u,d++D,N,C,by simpa using J,by simp,I,λH' B w' g i x k l=>?_⟩;refine⟨v,f.set n g,d,D++i++C,rfl,by simp,Fp.chg k l m (λp r=>by simp[r]) t,E H' B w' g i x (λp o e=>(k p o e).imp (λ⟨a,b,c⟩=>⟨a,b,λz=>c ?_⟩) id) l⟩;rcases FV.mp z with z|z<;>simp[z]
noncomputable def Wu(K:Frag)(A:Addr->Prop)(H:Hp)(m:Md)(w:W)(v:V)(F:List Addr)(π:List ir)(e:Md)(w':W):Prop:=
 ∃b d g c,F=d++g++c/\sq K H v π b/\Fp K A H e w' b g/\∀(H':Hp)(B:Addr->Prop) a f,Fp K B H' e a b f->lH A (·∈d++c) H H'->(∀p o,H p=some o->B p->A p)->Fp K B H' m (setAt w π a) v (d++f++c)
theorem Fp.path:∀(π:List ir)(m:Md){w:W}{v:V}{F:List Addr}{l:Md}{w':W},Fp K A H m w v F->gC m π=some l->bD w π=some w'->Wu K A H m w v F π l w'
 |[],m,w,v,F,l,w',h,g,i=>by dsimp only[gC]at g;dsimp only[bD]at i;cases g;cases i;refine⟨v,[],F,[],by simp,rfl,h,λH' B k y h' _ _=>?_⟩;dsimp only[setAt];simpa using h'
 |n::π,.s,w,v,F,l,w',h,g,i=>by cases n<;>exact nn g
 |n::π,.f,w,v,F,l,w',h,g,i=>by cases n<;>exact nn g
 |n::π,.io _,w,v,F,l,w',h,g,i=>by cases n<;>exact nn g
 |n::π,.d,w,v,F,l,w',h,g,i=>by cases n<;>exact nn g
 |.fl n _::π,.t x,w,v,F,l,w',h,g,i=>by cases g
 |.fl n _::π,.ls x,w,v,F,l,w',h,g,i=>by cases g
 |.ix n::π,.ls X,w,v,F,l,w',h,g,i=>by
  obtain⟨O,p,vs,F0,rfl,rfl,rfl,E,Z⟩:=h;dsimp only[gC]at g;dsimp only[bD]at i;cases j:O[n]? with
  |none=>rw[j]at i;exact nn i
  |some w1=>rw[j]at i;obtain⟨r,N,F',M,u,rfl,U,T⟩:=fF.at Z j;obtain⟨P,L,G',J,rfl,S,R,Q⟩:=Fp.path π X U g i;refine⟨P,p::N++L,G',J++M,by simp,⟨p,vs,r,rfl,.inr E,u,S⟩,R,λH' B k y h' q D=>?_⟩;dsimp only[setAt];rw[j];dsimp only[Fp];have a:=T H' B _ r _ (Q H' B k y h' (λp o e=>(q p o e).imp (by rintro⟨a,b,c⟩;exact⟨a,b,λz=>c (by rcases FV.mp z with z|z<;>simp[z])⟩) id) D) (λp o e=>(q p o e).imp (by rintro⟨a,b,c⟩;exact⟨a,b,λz=>c (by rcases FV.mp z with z|z<;>simp[z])⟩) id) D;rw[gO u]at a;exact⟨_,p,vs,N++(L++y++J)++M,rfl,rfl,by simp,q.un E (λ_=>by simp),a⟩
 |.ix n::π,.o fs x,w,v,F,l,w',h,g,i=>by cases g
 |.ix n::π,.t x,w,v,F,l,w',h,g,i=>by
  obtain⟨O,p,vs,rfl,rfl,E,Z⟩:=h;dsimp only[gC]at g;dsimp only[bD]at i;cases I:x[n]? with
  |none=>rw[I]at g;exact nn g
  |some X=>
   cases j:O[n]? with
   |none=>rw[j]at i;exact nn i
   |some w1=>rw[I]at g;rw[j]at i;obtain⟨r,N,F',M,u,rfl,U,T⟩:=cX.at x Z I j;obtain⟨P,L,G',J,rfl,S,R,Q⟩:=Fp.path π X U g i;refine⟨P,N++L,G',J++M,by simp,⟨p,vs,r,rfl,.inl E,u,S⟩,R,λH' B k y h' q D=>?_⟩;dsimp only[setAt];rw[j];dsimp only[Fp];have a:=T H' B _ r _ (Q H' B k y h' (λp o e=>(q p o e).imp (by rintro⟨a,b,c⟩;exact⟨a,b,λz=>c (by rcases FV.mp z with z|z<;>simp[z])⟩) id) D) (λp o e=>(q p o e).imp (by rintro⟨a,b,c⟩;exact⟨a,b,λz=>c (by rcases FV.mp z with z|z<;>simp[z])⟩) id) D;rw[gO u]at a;refine⟨_,p,vs,rfl,rfl,q.un E (λz=>by cases z),?_⟩;simpa using a
 |.fl n f::π,.o fs x,w,v,F,l,w',h,g,i=>by
  obtain⟨C,dx,O,p,vs,F0,rfl,rfl,rfl,E,hl,Y,Z⟩:=h;dsimp only[gC]at g;dsimp only[bD]at i;by_cases hf:fs[n]?=some f;rotate_left
  .rw[Bn hf]at g;cases g
  rw[Do hf]at g;cases I:x[n]? with
  |none=>rw[I]at g;exact nn g
  |some X=>
   cases j:O[n]? with
   |none=>rw[j]at i;exact nn i
   |some w1=>rw[I]at g;rw[j]at i;obtain⟨r,N,F',M,u,rfl,U,T⟩:=cX.at x Z I j;obtain⟨P,L,G',J,rfl,S,R,Q⟩:=Fp.path π X U g i;refine⟨P,p::N++L,G',J++M,by simp,⟨p,vs,r,rfl,⟨C,dx,fs,E,hl,Y,hf⟩,u,S⟩,R,λH' B k y h' q D=>?_⟩;dsimp only[setAt];rw[j];dsimp only[Fp];have a:=T H' B _ r _ (Q H' B k y h' (λp o e=>(q p o e).imp (by rintro⟨a,b,c⟩;exact⟨a,b,λz=>c (by rcases FV.mp z with z|z<;>simp[z])⟩) id) D) (λp o e=>(q p o e).imp (by rintro⟨a,b,c⟩;exact⟨a,b,λz=>c (by rcases FV.mp z with z|z<;>simp[z])⟩) id) D;rw[gO u]at a;refine⟨C,dx,_,p,vs,N++(L++y++J)++M,rfl,rfl,by simp,q.un E (λ_=>by simp),hl,Y,a⟩
end
noncomputable def cI(K:Frag)(A:Addr->Prop)(H H':Hp)(m:Md)(w:W)(v:V):Prop:=
 ∃F:List Addr,F.Nodup/\(∀p∈F,H p=none)/\Fp K (λq=>A q\/q∈F) H' m w v F
noncomputable def Dom(A:Addr->Prop)(H:Hp):Prop:=∀p,A p->∃o,H p=some o
theorem Dom.no{A:Addr->Prop}{H:Hp}(d:Dom A H){p:Addr}(h:H p=none):¬A p:=λz=>by obtain⟨o,e⟩:=d p z;rw[h]at e;cases e
theorem Dom.same{A:Addr->Prop}{H H':Hp}(d:Dom A H)(s:ao H H'):Dom A H':=λp z=>by obtain⟨o,e⟩:=d p z;exact⟨o,s _ _ e⟩
section
variable{K:Frag}{A B:Addr->Prop}{H H':Hp}{m:Md}{w:W}{v:V}
theorem cI.rep(d:Dom A H)(h:cI K A H H' m w v):Rep K A H' w v:=by obtain⟨F,c,a,h⟩:=h;exact Fp.rep (λp z=>.inl z) m (λp b=>d.no (a p b)) h
theorem cI.of(h:Rep K A H' w v):cI K A H H' .s w v:=⟨[],Y1,by simp,by dsimp only[Fp];exact⟨rfl,h.less λp z=>by simpa using z⟩⟩
theorem cI.s(d:Dom A H)(h:cI K A H H' m w v):cI K A H H' .s w v:=.of (h.rep d)
theorem cI.new{a:List W}{p:Addr}{vs:List V}(b:H p=none)(d:H' p=some (.lst vs))(e:af K A H' a vs)(c:af K (λq=>A q\/q=p) H' a vs):cI K A H H' .f (.lst a) (.ref p):=
 ⟨[p],(by simp),(by simpa using b),by dsimp only[Fp];exact⟨a,p,vs,rfl,rfl,rfl,d,c.less λq z=>by simpa using z⟩⟩
theorem cI.fresh{a:List W}{p:Addr}{vs:List V}{H1:Hp}(s:ao H H1)(b:H1 p=none)(h:af K A H1 a vs):cI K A H (upd H1 p (.lst vs)) .f (.lst a) (.ref p):=by
 have sm:=aG b (.lst vs);refine .new (s.free b) aA (h.same sm) (af.mv sm (λq o z y=>?_) a h);rcases y with y|y
 .exact y
 .rw[y,b]at z;cases z
theorem cI.HZ(h:cI K A H H' .f w v):∃a p vs,w=.lst a/\v=.ref p/\H p=none/\H' p=some (.lst vs)/\af K (λq=>A q\/q=p) H' a vs:=by obtain⟨F,e,b,h⟩:=h;obtain⟨a,p,vs,rfl,rfl,rfl,d,c⟩:=h;exact⟨a,p,vs,rfl,rfl,b p (Fn.mpr rfl),d,c.less λq z=>by simpa using z⟩
theorem cI.back{a:Hp}(s:ao a H)(e:∀p,B p->A p)(h:cI K A H H' m w v):cI K B a H' m w v:=by obtain⟨F,c,b,h⟩:=h;exact⟨F,c,λp d=>s.free (b p d),Fp.mv (ao.refl _) (λp o _ z=>z.imp (e p) id) m h⟩
end
abbrev Ev:=List (Option W)
noncomputable def look:Ev->Nat->Option W
 |[],_=>none
 |x::_,0=>x
 |_::l,n+1=>look l n
theorem aV:∀{a:Ev}{i:Nat}{w:W},look a i=some w↔a[i]?=some (some w)
 |[],i,w=>by simp[look]
 |x::l,0,w=>by simp[look]
 |x::l,i+1,w=>by rw[look,aV];simp
abbrev Ms:=List (Nat×Md)
noncomputable def aJ(M:Ms)(i:Nat):Prop:=∃m,(i,m)∈M
structure Fz where
 ab:Addr->Prop
 B:Addr->Prop
 s0:Option V
abbrev FB(A:Fz)(M:Ms)(σ:St):Addr->Prop:=A.B
structure Kf(K:Frag)(M:Ms)(A:Fz)(H0:Hp)(σ:St)(H:Hp)(ε:Ev)(F:Nat->List Addr):Prop where
 un:∀i m m',(i,m)∈M->(i,m')∈M->m=m'
 val:∀i m w,(i,m)∈M->look ε i=some w->∃v,σ[i]?=some (some v)/\Fp K A.B H m w v (F i)
 emp:∀i,aJ M i->look ε i=none->F i=[]
 nd:∀i,aJ M i->(F i).Nodup
 ds:∀i j p,aJ M i->aJ M j->p∈F i->p∈F j->i=j
 nw:∀i p,aJ M i->p∈F i->H0 p=none
 na:∀i p,aJ M i->p∈F i->¬A.ab p
 all:∀p,A.B p↔A.ab p\/∃i,aJ M i/\p∈F i
structure SR(K:Frag)(M:Ms)(A:Fz)(H0:Hp)(σ:St)(H:Hp)(ε:Ev):Prop where
 len:σ.length=ε.length
 sh:∀i w,¬aJ M i->look ε i=some w->∃v,σ[i]?=some (some v)/\Rep K A.B H w v
 sm:ao H0 H
 dm:Dom A.ab H
 sl:∀v,A.s0=some v->σ[0]?=some (some v)/\aJ M 0
 ow:∃F,Kf K M A H0 σ H ε F
theorem aE{a:Ev}{i j:Nat}{x:Option W}(h:i≠j):look (a.set i x) j=look a j:=by
 cases e:look a j with
 |none=>
  cases b:look (a.set i x) j with
  |none=>rfl
  |some w=>rw[aV,KE h,<-aV,e]at b;cases b
 |some w=>rw[aV,KE h,<-aV];exact e
theorem fR{a:Ev}{i:Nat}{w w':W}(h:look (a.set i (some w)) i=some w'):w'=w:=by
 rw[aV,List.getElem?_set]at h;rw[Do rfl]at h;split at h
 .cases h;rfl
 .cases h
theorem jC{a:Ev}{i:Nat}{w:W}(h:look a i=some w):i<a.length:=by rw[aV]at h;exact(GT.mp h).1
section
variable{K:Frag}{M M':Ms}{A:Fz}{H0 H H1:Hp}{σ:St}{ε:Ev}{F:Nat->List Addr}
theorem Kf.has(O:Kf K M A H0 σ H ε F){i:Nat}{p:Addr}(c:aJ M i)(a:p∈F i):∃o,H p=some o/\wJ o=true:=by
 cases b:look ε i with
 |none=>rw[O.emp i c b]at a;cases a
 |some w=>obtain⟨m,d⟩:=c;obtain⟨v,_,h⟩:=O.val i m w d b;exact Fp.mu m h p a
theorem SR.dom(S:SR K M A H0 σ H ε):Dom A.B H:=λp z=>by
 obtain⟨F,O⟩:=S.ow;rcases(O.all p).mp z with z|⟨i,b,a⟩
 .exact S.dm p z
 .obtain⟨o,e,_⟩:=O.has b a;exact⟨o,e⟩
theorem SR.sub'(S:SR K M A H0 σ H ε):∀p,A.ab p->A.B p:=λp z=>by obtain⟨F,O⟩:=S.ow;exact(O.all p).mpr (.inl z)
theorem SR.same(S:SR K M A H0 σ H ε)(s:ao H H1):SR K M A H0 σ H1 ε:=by
 obtain⟨F,O⟩:=S.ow;exact⟨S.len,λi w b e=>let⟨v,h1,h2⟩:=S.sh i w b e;⟨v,h1,h2.same s⟩,S.sm.trans s,S.dm.same s,S.sl,F,
  ⟨O.un,λi m w a e=>let⟨v,h1,h2⟩:=O.val i m w a e;⟨v,h1,Fp.mv s (λ_ _ _ z=>z) m h2⟩,O.emp,O.nd,O.ds,O.nw,O.na,O.all⟩⟩
theorem SR.sub(S:SR K M A H0 σ H ε)(h:∀x∈M',x∈M)(s:Option V)(hz:∀v,s=some v->A.s0=some v/\aJ M' 0):∃r,r.ab=A.ab/\r.s0=s/\(∀p,r.B p->A.B p)/\SR K M' r H0 σ H ε:=by
 obtain⟨F,O⟩:=S.ow;have d:∀i,aJ M' i->aJ M i:=by rintro i ⟨m,f⟩;exact⟨m,h _ f⟩
 have q:∀p,(A.ab p\/∃i,aJ M' i/\p∈F i)->A.B p:=λp z=>(O.all p).mpr (z.imp id<|by rintro⟨i,c,n⟩;exact⟨i,d i c,n⟩);refine⟨⟨A.ab,λp=>A.ab p\/∃i,aJ M' i/\p∈F i,s⟩,rfl,rfl,q,S.len,λi w t e=>?_,S.sm,S.dm,λv e=>⟨(S.sl v (hz v e).1).1,(hz v e).2⟩,F,⟨λi m u a b=>O.un i m u (h _ a) (h _ b),λi m w f e=>?_,λi c=>O.emp i (d i c),λi c=>O.nd i (d i c),λi j p c o=>O.ds i j p (d i c) (d j o),λi p c=>O.nw i p (d i c),λi p c=>O.na i p (d i c),λp=>TX⟩⟩
 .by_cases c:aJ M i
  .have g:=c;obtain⟨m,f⟩:=c;obtain⟨v,l,k⟩:=O.val i m w f e;refine⟨v,l,Fp.rep q m (λp n z=>?_) k⟩;rcases z with z|⟨j,o,y⟩
   .exact O.na i p g n z
   .have:=O.ds i j p g (d j o) n y;subst this;exact t o
  .obtain⟨v,l,k⟩:=S.sh i w c e;exact⟨v,l,k.less q⟩
 .obtain⟨v,l,k⟩:=O.val i m w (h _ f) e;exact⟨v,l,Fp.mv (ao.refl _) (λp _ _ z=>q p z) m k⟩
theorem SR.go(S:SR K M A H0 σ H ε):SR K [] ⟨A.ab,A.ab,none⟩ H0 σ H ε:=by
 obtain⟨a,b,c,h,d⟩:=S.sub (M':=[]) (λx f=>by cases f) none (λv e=>by cases e);obtain⟨F,O⟩:=d.ow;have e:∀p,a.B p↔A.ab p:=λp=>by rw[O.all p,b];exact⟨λz=>z.elim id (by rintro⟨i,⟨m,g⟩,_⟩;cases g),.inl⟩
 have:a.B=A.ab:=funext λp=>propext (e p);have:a=⟨A.ab,A.ab,none⟩:=by
  cases a;simp only at b c this;rw[b,this,c]
 rw[<-this];exact d
theorem SR.set(S:SR K M A H0 σ H ε){i:Nat}{w:W}{v:V}(g:¬aJ M i)(h:Rep K A.B H w v):SR K M A H0 (σ.set i (some v)) H (ε.set i (some w)):=by
 obtain⟨F,O⟩:=S.ow;refine⟨by rw[NM,NM];exact S.len,λj f d e=>?_,S.sm,S.dm,λu e=>?_,F,⟨O.un,λj m f k e=>?_,λj d e=>?_,O.nd,O.ds,O.nw,O.na,O.all⟩⟩
 .by_cases a:i=j
  .subst a;have l:i<σ.length:=by rw[S.len];have:=jC e;rwa [NM]at this
   have:=fR e;subst this;exact⟨v,L9 l,h⟩
  .rw[aE a]at e;obtain⟨u,c,b⟩:=S.sh j f d e;exact⟨u,by rw[KE a];exact c,b⟩
 .obtain⟨c,b⟩:=S.sl u e;exact⟨by rw[KE (by rintro rfl;exact g b)];exact c,b⟩
 .have a:i≠j:=by rintro rfl;exact g ⟨m,k⟩
  rw[aE a]at e;obtain⟨u,c,b⟩:=O.val j m f k e;exact⟨u,by rw[KE a];exact c,b⟩
 .have a:i≠j:=by rintro rfl;exact g d
  rw[aE a]at e;exact O.emp j d e
theorem SR.own(S:SR K M' A H0 σ H ε){i:Nat}{m:Md}{w:W}{v:V}(y:∀x,x∈M↔x=(i,m)\/x∈M')(Q:¬aJ M' i)(s:ao H H1)(h:cI K A.B H H1 m w v):
 ∃N,N.ab=A.ab/\N.s0=A.s0/\(∀p o,H p=some o->N.B p->A.B p)/\SR K M N H0 (σ.set i (some v)) H1 (ε.set i (some w)):=by
 obtain⟨F,O⟩:=S.ow;obtain⟨G,nd,nw,L⟩:∃G:List Addr,G.Nodup/\(∀p∈G,H p=none)/\(i<ε.length->Fp K (λq=>A.B q\/q∈G) H1 m w v G)/\(ε.length<=i->G=[]):=by
  by_cases g:i<ε.length
  .obtain⟨G,nd,nw,L⟩:=h;exact⟨G,nd,nw,λ_=>L,λz=>by lia⟩
  .exact⟨[],Y1,by simp,λz=>(g z).elim,λ_=>rfl⟩
 have f:∀j,aJ M j↔j=i\/aJ M' j:=λj=>by
  constructor
  .rintro⟨r,R⟩;rcases(y _).mp R with e|e
   .cases e;exact .inl rfl
   .exact .inr ⟨r,e⟩
  .rintro(rfl|⟨r,R⟩)
   .exact⟨m,(y _).mpr (.inl rfl)⟩
   .exact⟨r,(y _).mpr (.inr R)⟩
 have P:∀j,aJ M' j->j≠i:=λj c e=>by subst e;exact Q c
 have E:∀j p,aJ M' j->p∈F j->p∉G:=λj p c d z=>by obtain⟨o,e,_⟩:=O.has c d;rw[nw p z]at e;cases e
 have T:∀p o,H p=some o->(A.B p\/p∈G)->A.B p:=λp o e z=>by
  rcases z with z|z
  .exact z
  .rw[nw p z]at e;cases e
 refine⟨⟨A.ab,λp=>A.B p\/p∈G,A.s0⟩,rfl,rfl,T,by rw[NM,NM];exact S.len,λj J c e=>?_,S.sm.trans s,S.dm.same s,λu e=>?_,λj=>if j=i then G else F j,⟨λj Y X a b=>?_,λj r J c e=>?_,λj c e=>?_,λj c=>?_,λj k p c U a b=>?_,λj p c d=>?_,λj p c d=>?_,λp=>?_⟩⟩
 .have t:j≠i/\¬aJ M' j:=⟨λz=>c ((f j).mpr (.inl z)),λz=>c ((f j).mpr (.inr z))⟩;rw[aE (On t.1)]at e;obtain⟨u,I,D⟩:=S.sh j J t.2 e;exact⟨u,by rw[KE (On t.1)];exact I,Rep.mv s T J D⟩
 .obtain⟨I,D⟩:=S.sl u e;exact⟨by rw[KE (On (P 0 D))];exact I,(f 0).mpr (.inr D)⟩
 .rcases(y _).mp a with a|a
  .rcases(y _).mp b with b|b
   .cases a;cases b;rfl
   .cases a;exact(Q ⟨_,b⟩).elim
  .rcases(y _).mp b with b|b
   .cases b;exact(Q ⟨_,a⟩).elim
   .exact O.un j Y X a b
 .rcases(y _).mp c with a|a
  .cases a;have g:i<ε.length:=by have:=jC e;rwa [NM]at this
   have:=fR e;subst this;exact⟨v,L9 (by rw[S.len];exact g),by rw[Do rfl];exact L.1 g⟩
  .have n:=P j ⟨r,a⟩;rw[aE (On n)]at e;obtain⟨u,I,D⟩:=O.val j r J a e;exact⟨u,by rw[KE (On n)];exact I,by rw[Bn n];exact Fp.mv s T r D⟩
 .by_cases n:j=i
  .subst n;rw[Do rfl];refine L.2 (Te λg=>?_);have:look (ε.set j (some w)) j=some w:=by rw[aV];exact L9 g
   rw[this]at e;cases e
  .rw[aE (On n)]at e;rw[Bn n];exact O.emp j (((f j).mp c).resolve_left n) e
 .by_cases n:j=i
  .rw[Do n];exact nd
  .rw[Bn n];exact O.nd j (((f j).mp c).resolve_left n)
 .by_cases C:j=i
  .by_cases l:k=i
   .rw[C,l]
   .rw[Do C]at a;rw[Bn l]at b;exact(E k p (((f k).mp U).resolve_left l) b a).elim
  .by_cases l:k=i
   .rw[Bn C]at a;rw[Do l]at b;exact(E j p (((f j).mp c).resolve_left C) a b).elim
   .rw[Bn C]at a;rw[Bn l]at b;exact O.ds j k p (((f j).mp c).resolve_left C) (((f k).mp U).resolve_left l) a b
 .by_cases n:j=i
  .rw[Do n]at d;exact S.sm.free (nw p d)
  .rw[Bn n]at d;exact O.nw j p (((f j).mp c).resolve_left n) d
 .by_cases n:j=i
  .rw[Do n]at d;exact S.dm.no (nw p d)
  .rw[Bn n]at d;exact O.na j p (((f j).mp c).resolve_left n) d
 .constructor
  .rintro(z|z)
   .rcases(O.all p).mp z with z|⟨j,c,d⟩
    .exact .inl z
    .exact .inr ⟨j,(f j).mpr (.inr c),by rw[Bn (P j c)];exact d⟩
   .exact .inr ⟨i,(f i).mpr (.inl rfl),by rw[Do rfl];exact z⟩
  .rintro(z|⟨j,c,d⟩)
   .exact .inl ((O.all p).mpr (.inl z))
   .by_cases n:j=i
    .rw[Do n]at d;exact .inr d
    .rw[Bn n]at d;exact .inl ((O.all p).mpr (.inr ⟨j,((f j).mp c).resolve_left n,d⟩))
theorem Kf.chg(S:SR K M A H0 σ H ε)(O:Kf K M A H0 σ H ε F){i:Nat}{m:Md}{w w':W}{v:V}{F':List Addr}(N:(i,m)∈M)(R:look ε i=some w)(Q:σ[i]?=some (some v))
 (x:∀p o,H p=some o->(wJ o=true/\p∈F i)\/H1 p=some o)(nd:F'.Nodup)(nw:∀p∈F',p∈F i\/H p=none)(h:Fp K (λp=>(A.B p/\p∉F i)\/p∈F') H1 m w' v F'):
 ∃s,s.ab=A.ab/\s.s0=A.s0/\(∀p,s.B p↔(A.B p/\p∉F i)\/p∈F')/\(∀p o,H p=some o->s.B p->A.B p)/\qf A.B H H1/\SR K M s H0 σ H1 (ε.set i (some w')):=by
 have f:aJ M i:=⟨m,N⟩;have J:∀p,p∈F i->A.B p:=λp c=>(O.all p).mpr (.inr ⟨i,f,c⟩);have P:qf A.B H H1:=λp o e=>(x p o e).imp (λz=>⟨z.1,J p z.2⟩) id;have I:∀p o,H p=some o->((A.B p/\p∉F i)\/p∈F')->A.B p:=λp o e z=>by
  rcases z with z|z
  .exact z.1
  .rcases nw p z with z|z
   .exact J p z
   .rw[z]at e;cases e
 have C:∀j p,aJ M j->j≠i->p∈F j->p∉F i/\p∉F':=λj p d n c=>by
  have a:p∉F i:=λz=>n (O.ds j i p d f c z);refine⟨a,λz=>?_⟩;rcases nw p z with z|z
  .exact a z
  .obtain⟨o,e,_⟩:=O.has d c;rw[z]at e;cases e
 refine⟨⟨A.ab,λp=>(A.B p/\p∉F i)\/p∈F',A.s0⟩,rfl,rfl,λ_=>TX,I,P,by rw[NM];exact S.len,λj g d e=>?_,λp o e=>?_,λp z=>?_,S.sl,λj=>if j=i then F' else F j,⟨O.un,λj t g d e=>?_,λj d e=>?_,λj d=>?_,λj k p d L a b=>?_,λj p d c=>?_,λj p d c=>?_,λp=>?_⟩⟩
 .have n:i≠j:=by rintro rfl;exact d f
  rw[aE n]at e;obtain⟨u,E,D⟩:=S.sh j g d e;exact⟨u,E,Rep.chg P I g D⟩
 .rcases x p o (S.sm p o e)with⟨_,z⟩|z
  .rw[O.nw i p f z]at e;cases e
  .exact z
 .obtain⟨o,e⟩:=S.dm p z;rcases x p o e with⟨_,y⟩|y
  .exact(O.na i p f y z).elim
  .exact⟨o,y⟩
 .by_cases n:j=i
  .subst n;have T:=O.un j m t N d;subst T;have:=fR e;subst this;exact⟨v,Q,by rw[Do rfl];exact h⟩
  .rw[aE (On n)]at e;obtain⟨u,E,D⟩:=O.val j t g d e;refine⟨u,E,?_⟩;rw[Bn n];refine Fp.chg (G:=λp=>p∈F j) (λp o e=>?_) I t (λp c=>c) D;rcases x p o e with⟨z,y⟩|z
   .exact .inl ⟨z,J p y,λq=>(C j p ⟨t,d⟩ n q).1 y⟩
   .exact .inr z
 .by_cases n:j=i
  .subst n;have:look (ε.set j (some w')) j=some w':=by rw[aV];exact L9 (jC R)
   rw[this]at e;cases e
  .rw[aE (On n)]at e;rw[Bn n];exact O.emp j d e
 .by_cases n:j=i
  .rw[Do n];exact nd
  .rw[Bn n];exact O.nd j d
 .by_cases r:j=i
  .by_cases l:k=i
   .rw[r,l]
   .rw[Do r]at a;rw[Bn l]at b;exact((C k p L l b).2 a).elim
  .by_cases l:k=i
   .rw[Bn r]at a;rw[Do l]at b;exact((C j p d r a).2 b).elim
   .rw[Bn r]at a;rw[Bn l]at b;exact O.ds j k p d L a b
 .by_cases n:j=i
  .rw[Do n]at c;rcases nw p c with z|z
   .exact O.nw i p f z
   .exact S.sm.free z
  .rw[Bn n]at c;exact O.nw j p d c
 .by_cases n:j=i
  .rw[Do n]at c;rcases nw p c with z|z
   .exact O.na i p f z
   .exact S.dm.no z
  .rw[Bn n]at c;exact O.na j p d c
 .constructor
  .rintro(⟨z,y⟩|z)
   .rcases(O.all p).mp z with z|⟨j,d,c⟩
    .exact .inl z
    .have n:j≠i:=by rintro rfl;exact y c
     exact .inr ⟨j,d,by rw[Bn n];exact c⟩
   .exact .inr ⟨i,f,by rw[Do rfl];exact z⟩
  .rintro(z|⟨j,d,c⟩)
   .exact .inl ⟨(O.all p).mpr (.inl z),λy=>O.na i p f y z⟩
   .by_cases n:j=i
    .rw[Do n]at c;exact .inr c
    .rw[Bn n]at c;exact .inl ⟨(O.all p).mpr (.inr ⟨j,d,c⟩),(C j p d n c).1⟩
end
end VL
namespace HT
open PySem PySem.Spec PyProof.Rows
section
open PySem.SeqAt
open PySem.AutoSeq1 (wpAny_loadPart')
open PySem.MeetsSeq PySem.MeetsSeq2 PySem.MeetsSeq3
theorem qQ(l b:Addr)(items f:Array Value)(n Q:Nat)(dd M:Option Addr)(P H:Array (Option Value))(k:Nat):
 ∀(i:Nat)(E x:List Int),items.size -i=k->i<=items.size->i<=f.size->IntsAre (items.toList.drop i) E->IntsAre (f.toList.drop i) x->Meets (Builtin.«list.__eq__.loop» ⟨[.ref l,.ref b,rawInt i,rawInt 0],[]⟩)
  (λA R s=>s.heap.get? l=some {cls:=.type "list",dict:=dd,data:=.seq items n,slots:=P}/\s.heap.get? b=some {cls:=.type "list",dict:=M,data:=.seq f Q,slots:=H}/\
    R (.ok (.ret (.bool (lexLt E x)))) s):=by
 induction k with
 |zero=>
  intro i E x U i1 T C z j w A R s h;obtain⟨J,g,d,F,I⟩:=s;obtain⟨y,B,h⟩:=h
  wp_walk using KM y,KM B
  have o:items[((i:Nat):Int).toNat]?=none:=by simp;omega
  have Z:items.toList.drop i=[]:=by simp;omega
  rw[Z]at C;cases C;rw[o];have e:lexLt [] x=decide (items.size<f.size):=by
   have hz:=z.length;rw[Y9,G1]at hz;cases x with
   |nil=>rw[Gw]at hz;rw[oU];exact(FM (by omega)).symm
   |cons m x=>rw[AE]at hz;rw[mR];exact(FC (by omega)).symm
  rw[e]at h
  wp_walk using KM y,KM B
  exact h
 |succ k S=>
  intro i E x U i1 T C z j w A R s h;obtain⟨J,g,d,F,I⟩:=s;obtain⟨y,B,h⟩:=h
  wp_walk using KM y,KM B
  have D:i<items.size:=by omega
  have o:items[((i:Nat):Int).toNat]?=some items[i]:=by simp[D]
  have d1:items.toList.drop i=items[i]::items.toList.drop (i+1):=by simp[PQ,D]
  rw[d1]at C;generalize items[i]=v at C o;cases C with
  |cons a t L=>
  by_cases O:i<f.size
  .have p:f[((i:Nat):Int).toNat]?=some f[i]:=by simp[O]
   have N:f.toList.drop i=f[i]::f.toList.drop (i+1):=by simp[PQ,O]
   rw[N]at z;generalize f[i]=v2 at z p;cases z with
   |cons c u K=>
   have Y:((i:Int)+1)=((i+1:Nat):Int):=by push_cast;rfl
   rw[mQ]at h;rw[o,p];obtain⟨e,X,r⟩:=AM A.in1 ⟨J,g,d,F,I⟩ a t c u;refine Bz (X j w _ _ ?_);cases e with
   |true=>
    rw[Do (r.mp rfl)]at h
    wp_walk
    rw[Y];exact⟨plainId_quiet plain_eq_loop _,codeAny_builtin entry_eq_loop (by rw[X9 plain_eq_loop _];exact S (i+1) _ _ (by omega) (by omega) (by omega) L K j w A R _ ⟨y,B,h⟩)⟩
   |false=>
    rw[Bn (λq=>absurd (r.mpr q) Fs)]at h;have SA:=sM A.in1 ⟨J,g,d,F,I⟩ a t c u j w
    wp_walk using KM y,KM B
    rw[o,p]
    wp_walk using SA
    exact h
  .have p:f[((i:Nat):Int).toNat]?=none:=by simp;omega
   have N:f.toList.drop i=[]:=by simp;omega
   rw[N]at z;cases z;rw[mT]at h;rw[o,p]
   wp_walk using KM y,KM B
   have e:decide (items.size<f.size)=false:=FM (by omega);show R (.ok (.ret (.bool (decide (items.size<f.size))))) _;rw[e];exact h
theorem qR(l b:Addr)(items a:Array Value)(n m:Nat)(q f:Option Addr)(k c:Array (Option Value))(i j:List Int)(t:IntsAre items.toList i)(r:IntsAre a.toList j):
 Meets (Builtin.«list.__lt__» ⟨[.ref l,.ref b],[]⟩)
  (λ_ R s=>s.heap.get? l=some {cls:=.type "list",dict:=q,data:=.seq items n,slots:=k}/\s.heap.get? b=some {cls:=.type "list",dict:=f,data:=.seq a m,slots:=c}/\
    R (.ok (.ret (.bool (lexLt i j)))) s):=by
 intro e w A R s h;obtain⟨x,g,d,u,v⟩:=s;obtain⟨o,p,h⟩:=h;have y:=AutoSeq1.sub_list_list
 wp_walk using KM o,KM p
 exact⟨plainId_quiet plain_eq_loop _,codeAny_builtin entry_eq_loop (by rw[X9 plain_eq_loop _];exact qQ l b items a n m q f k c _ 0 i j rfl (Mo _) (Mo _) t r e w A R _ ⟨o,p,h⟩)⟩
end
section
variable{prog:Program}{w:World}{A:Around}{E:Value->Shared->Prop}{s:Shared}
theorem vq{l b:Addr}{items a:Array Value}{c d:List Int}{Q:Value->Shared->Prop}(u:s.heap.IsList l items)(z:s.heap.IsList b a)(y:IntsAre items.toList c)(v:IntsAre a.toList d)
 (t:A.units<cLine)(h:Q (.bool (lexLt c d)) s):wpAny (model prog w) A (compareOp .Lt (.ref l) (.ref b)) Q E s:=by
 obtain⟨⟨C,B,p,q⟩,m,o,n,hd⟩:=id u;obtain⟨⟨D,j,k,i⟩,e,g,r,f⟩:=id z;simp only at o hd g f;subst o hd g f;exact richCompare_meets_room (op:=.Lt) ⟨_,m,rfl⟩ ⟨_,e,rfl⟩ PySem.F.slot_list_lt PySem.F.entry_list_lt (PySem.F.args_list_lt_2 _ _) (qR l b items a n r B j q i c d y v)
  ⟨m,e,show Value.bool (lexLt c d)≠Value.notImplemented/\Q (.bool (lexLt c d)) s from⟨(λx=>nomatch x),h⟩⟩ t
end
end HT
namespace VL
open PySem PySem.Spec PySem.Calls PyProof.Rows
theorem ints_get:∀{vs:List Value}{a:List Int},IntsAre vs a->∀(j:Nat)(h:j<vs.length),∃t,vs[j]=.int (a.getD j 0) t
 |_,_,.cons n t _,0,_=>⟨t,rfl⟩
 |_,_,.cons n t r,j+1,h=>by obtain⟨u,e⟩:=ints_get r j (by simpa using h);exact⟨u,by simpa using e⟩
theorem all_eq:∀(a b:List Int),a.length=b.length->(Gr a.length).all (λj=>a.getD j 0==b.getD j 0)=decide (a=b)
 |[],[],_=>rfl
 |n::a,m::b,h=>by
  have ih:=all_eq a b (by simpa using h);rw[AE,RH,AU,List.all_map];have:((λj=>(n::a).getD j 0==(m::b).getD j 0)∘VI)=λj=>a.getD j 0==b.getD j 0:=by funext j;rfl
  rw[this,ih];show((n==m)&&decide (a=b))=_;by_cases e:n=m<;>by_cases c:a=b<;>simp[e,c]
 |[],_::_,h=>by simp at h
 |_::_,[],h=>by simp at h
theorem tE:∀{vs:List Value}{a b:List Int},IntsAre vs a->IntsAre vs b->a=b
 |_,_,_,.nil,.nil=>rfl
 |_,_,_,.cons n t r,.cons _ _ c=>by rw[tE r c]
section
variable{A:Around}{s:Shared}
theorem Bo{l b:Addr}{items a:Array Value}{c d:List Int}(h:s.heap.IsList l items)(m:s.heap.IsList b a)(k:IntsAre items.toList c)(i:IntsAre a.toList d)(r:A.units<cLine):
 SeqAt.EqAt A s (.ref l) (.ref b) (decide (c=d)):=by
 have p:items.size=c.length:=by rw[<-k.length];simp
 have x:a.size=d.length:=by rw[<-i.length];simp
 by_cases e:l=b
 .subst e;obtain⟨o,y,_,n,hd⟩:=h;obtain⟨C,f,_,D,g⟩:=m;rw[y]at f;cases f;rw[hd]at g;cases g;rw[FC (tE k i)];exact SeqAt.EqAt.same _
 .refine SeqAt.EqAt.of_refs e ?_;by_cases hz:items.size=a.size
  .have:=SeqAt.RcAt.lists (e:=λj=>c.getD j 0==d.getD j 0) h m hz r λj w v=>by obtain⟨t,B⟩:=ints_get k j (by simpa using w);obtain⟨u,z⟩:=ints_get i j (by simpa using v);rw[show items[j]=items.toList[j]'(by simpa using w) by simp,show a[j]=a.toList[j]'(by simpa using v) by simp,B,z];exact U2 _ _ _ _
   rw[p,all_eq c d (by omega)]at this;exact this
  .rw[FM (λq=>hz (by rw[p,x,q]))];exact SeqAt.RcAt.lists_lengths h m (by simpa using hz) r
end
theorem m8:∀a:List Int,HT.lexLt a a=false
 |[]=>rfl
 |x::b=>by rw[HT.mQ,Do rfl];exact m8 b
end VL
namespace HT
open PySem PySem.Spec PyProof.Rows
noncomputable def SD(A:Around)(s:Shared)(x y:Value)(c:Bool):Prop:=∀(a:Program)(w:World)(E:Value->Shared->Prop)(Q:Value->Shared->Prop),Q (.bool c) s->wpAny (model a w) A (richCompare .Lt x y) Q E s
inductive qS(A:Around)(s:Shared):List Value->List Value->Bool->Prop where
 |nn:qS A s [] [] false
 |nc {y ys}:qS A s [] (y::ys) true
 |cn {x xs}:qS A s (x::xs) [] false
 |eq {x y xs ys c} (h:SeqAt.EqAt A s x y true) (r:qS A s xs ys c):qS A s (x::xs) (y::ys) c
 |ne {x y xs ys c} (h:SeqAt.EqAt A s x y false) (r:SD A s x y c):qS A s (x::xs) (y::ys) c
section
open PySem.SeqAt
open PySem.AutoSeq1 (wpAny_loadPart')
open PySem.MeetsSeq PySem.MeetsSeq2 PySem.MeetsSeq3
theorem tF(l b:Addr)(items a:Array Value)(n D:Nat)(I u:Option Addr)(C q:Array (Option Value))(c:Bool):
 Meets (Builtin.«tuple.__lt__» ⟨[.ref l,.ref b],[]⟩)
  (λA R s=>s.heap.get? l=some {cls:=.type "tuple",dict:=I,data:=.seq items n,slots:=C}/\s.heap.get? b=some {cls:=.type "tuple",dict:=u,data:=.seq a D,slots:=q}/\
    qS A.in1 s items.toList a.toList c/\R (.ok (.ret (.bool c))) s):=
 .of_wp λf w A R s h=>by
  obtain⟨B,g,d,v,z⟩:=s;obtain⟨F,H,o,h⟩:=h;have M:=AutoSeq1.sub_tuple_tuple;have L:items.size=items.toList.length:=by simp
  have K:a.size=a.toList.length:=by simp
  wp_walk using KM F,KM H,wpAny_forIn_list _ (λrest b t=>b.1=none/\t=⟨B,g,d,v,z⟩/\∃(m k:List Value),rest=m.zip k/\
   qS A.in1 ⟨B,g,d,v,z⟩ m k c/\m.length+a.size=k.length+items.size) _
  case turn=>
   rintro⟨y,x⟩ rest b t ⟨j,rfl,m,k,hz,i,e⟩;cases i with
   |nn=>cases hz
   |nc=>cases hz
   |cn=>cases hz
   |eq p r=>
    rw[En]at hz;injection hz with hyx hrest;injection hyx with hy o;subst hy o;simp only[AE]at e;refine Bz (p f w _ _ ?_)
    wp_walk
    exact⟨rfl,rfl,_,_,hrest,r,by omega⟩
   |ne p r=>
    rw[En]at hz;injection hz with hyx hrest;injection hyx with hy o;subst hy o;refine Bz (p f w _ _ ?_);have J:=r f w
    wp_walk using J
    exact⟨_,rfl,by simpa using h⟩
  case fin=>
   rintro⟨O,N⟩ t ⟨j,rfl,m,k,hz,i,e⟩;simp only at j;subst j;have E:c=decide (items.size<a.size):=by
    cases i with
    |nn=>simp only[Gw]at e;exact(FM (by omega)).symm
    |nc=>simp only[Gw,AE]at e;exact(FC (by omega)).symm
    |cn=>simp only[Gw,AE]at e;exact(FM (by omega)).symm
    |eq p r=>rw[En]at hz;cases hz
    |ne p r=>rw[En]at hz;cases hz
   rw[E]at h
   wp_walk
   exact⟨_,rfl,by simpa[Builtin.Tuple.tupleCompareSizes]using h⟩
  case h=>exact⟨rfl,rfl,items.toList,a.toList,rfl,o,by omega⟩
end
section
variable{prog:Program}{w:World}{A:Around}{E:Value->Shared->Prop}{s:Shared}
theorem Bp{l b:Addr}{items a:Array Value}{c:Bool}{Q:Value->Shared->Prop}(u:IsTup s.heap l items)(v:IsTup s.heap b a)(r:qS A.in1 s items.toList a.toList c)
 (t:A.units<cLine)(h:Q (.bool c) s):wpAny (model prog w) A (compareOp .Lt (.ref l) (.ref b)) Q E s:=by
 obtain⟨⟨z,y,o,p⟩,k,m,n,hd⟩:=id u;obtain⟨⟨B,i,j,g⟩,d,f,q,e⟩:=id v;simp only at m hd f e;subst m hd f e;exact richCompare_meets_room (op:=.Lt) ⟨_,k,rfl⟩ ⟨_,d,rfl⟩ PySem.F.slot_tuple_lt PySem.F.entry_tuple_lt (PySem.F.args_tuple_lt_2 _ _) (tF l b items a n q y i p g c)
  ⟨k,d,r,show Value.bool c≠Value.notImplemented/\Q (.bool c) s from⟨(λx=>nomatch x),h⟩⟩ t
end
end HT
set_option genSizeOf false
set_option genInjectivity false
namespace VL
open PySem PySem.Spec
open PyProof.Rows hiding St
open L2
inductive BI where
 |len|abs|max2|min2|sum|all|any|list|tuple|Bq|int|Ri|str
 deriving DecidableEq
inductive CE where
 |var (i:Nat)|int (i:Int)|bl (b:Bool)|str (x:Str)|aI|Dr (n:String)|glob (g:Nat)
 |bin (op:Operator) (a b:CE)|neg (a:CE)|not (a:CE)
 |cmp (op:CmpOp) (a b:CE)
 |and (as:List CE)|or (as:List CE)|ite (c a b:CE)
 |tup (as:List CE)|lst (as:List CE)
 |ix (a i:CE)|sl (a lo hi:CE)
 |call (f:Nat) (as:List CE)|blt (b:BI) (as:List CE)
 |comp (ts:List Nat) (one:Bool) (n:Nat) (it:CE) (c:CE) (e:CE)
 |pS (as:List CE)
 |pop (i:Nat)
 |own (i:Nat) (π:List ir)|jm (i g f:Nat) (as:List CE)
 |slt (a lo hi:CE)|NJ (a b c:CE)|Kg (a:CE) (n:Nat) (x:Str)|qT (g f:Nat) (a:CE)
 |Br (i g f:Nat) (as:List CE)|fst (as:List CE)|fmt (a:CE)
 |NK (i:Nat)|NL (ks:List Str) (vs:List Int) (k:CE)
inductive CS where
 |set (i:Nat) (e:CE)|NN (ts:List Nat) (e:CE)|par (ts:List Nat) (es:List CE)
 |app (i:Nat) (e:CE)|oY (j:Nat) (e:CE)
 |ret (e:CE)|iff (c:CE) (a b:List CS)|NO (c:CE) (b:List CS)
 |fr (ts:List Nat) (one:Bool) (it:CE) (b:List CS)
 |brk
 |Ia (i:Nat) (π:List ir) (e:CE)|Bs (i n:Nat) (e:CE)
 |Ib (e:CE)|zZ (e:CE)|NP (c:CE) (a b:List CS)|Ph (c:CE) (b:List CS)|Kh (i:Nat) (e:CE)
 |yW
 |Kl (is:List Nat) (b:List CS)
 |Rj (i:Nat)
 |NG (i:Nat) (π:List ir) (e:CE)|Pj (i n:Nat) (e:CE)|Pk (c:CE) (a b:List CS)|Pn (e:CE)|Rk (i:Nat) (k e:CE)
noncomputable def Po:W->W->(W->Prop)->Prop
 |.int i,.int j,Q=>Q (.int (i+j))
 |.lst a,.lst b,Q=>a.length+b.length<=sizeLine/\Q (.lst (a++b))
 |.tup a,.tup b,Q=>a≠[]/\a.length+b.length<=sizeLine/\Q (.tup (a++b))
 |.str a,.str b,Q=>a.length+b.length<=sizeLine/\Q (.str (a++b))
 |_,_,_=>False
noncomputable def Pp:W->W->(W->Prop)->Prop
 |.int i,.int j,Q=>IntMulOk i j/\Q (.int (i*j))
 |.lst a,.int k,Q=> -(2^63)<=k/\k<2^63/\a.length*k.toNat<=sizeLine/\Q (.lst (A0 k.toNat a).flatten)
 |.str a,.int k,Q=>k=3/\a.length<=1000/\Q (.str (tx (a.cps.toList++a.cps.toList++a.cps.toList)))
 |_,_,_=>False
noncomputable def NQ(C:Int->Int->Prop)(g:Int->Int->Int):W->W->(W->Prop)->Prop
 |.int i,.int j,Q=>C i j/\Q (.int (g i j))
 |_,_,_=>False
noncomputable def Pq:W->W->(W->Prop)->Prop
 |.int i,.int j,Q=>Q (.int (i -j))
 |_,_,_=>False
noncomputable def eV:Operator->W->W->(W->Prop)->Prop
 |.Add=>Po
 |.Sub=>Pq
 |.Mult=>Pp
 |.FloorDiv=>NQ sR λi j=>i.fdiv j
 |.Mod=>NQ (λ_ j=>j≠0) λi j=>i.fmod j
 |.Pow=>NQ uR λi j=>i^j.toNat
 |.LShift=>NQ uR λi j=>i*2^j.toNat
 |.RShift=>NQ (λ_ j=>0<=j) λi j=>i/2^j.toNat
 |_=>λ_ _ _=>False
noncomputable def lI:Nat->W->Bool
 |_,.int _=>true
 |_,.str x=>PyData.strOk x
 |_,.aI=>true
 |n+1,.lst l=>l.all (lI n)
 |n+1,.tup l=>l.all (lI n)
 |_,_=>false
noncomputable def Ic:Nat->W->Bool
 |_,.bl _=>true
 |_,.str x=>PyData.strOk x
 |_,.aI=>true
 |n+1,.lst l=>l.all (Ic n)
 |n+1,.tup l=>l.all (Ic n)
 |_,_=>false
noncomputable def SG(a:Bool):W->W->(W->Prop)->Prop
 |.int i,.int j,Q=>Q (.bl (if a then !decide (i=j)else decide (i=j)))
 |.str i,.str j,Q=>Q (.bl (if a then !decide (i=j)else decide (i=j)))
 |.bl i,.bl j,Q=>Q (.bl (if a then !decide (i=j)else decide (i=j)))
 |x,y,Q=>((lI 9 x=true/\lI 9 y=true)\/(Ic 9 x=true/\Ic 9 y=true)\/(lI 60 x=true/\lI 60 y=true))/\∀b:Bool,(b=true↔x=y)->Q (.bl (if a then !b else b))
noncomputable def Bt(p:Int->Int->Bool):W->W->(W->Prop)->Prop
 |.int i,.int j,Q=>Q (.bl (p i j))
 |_,_,_=>False
noncomputable def Pr(x y:W)(Q:W->Prop):Prop:=∃(a b:Int)(c d:List Int),x=.tup [.int a,.lst (c.map W.int)]/\y=.tup [.int b,.lst (d.map W.int)]/\Q (.bl (if a=b then HT.lexLt c d else decide (a<b)))
noncomputable def UR:W->W->(W->Prop)->Prop
 |.int i,.int j,Q=>Q (.bl (decide (i<j)))
 |.tup a,.tup b,Q=>Pr (.tup a) (.tup b) Q
 |_,_,_=>False
noncomputable def SH(a:Bool):W->W->(W->Prop)->Prop
 |.aI,.aI,Q=>Q (.bl (!a))
 |.bl _,.aI,Q=>Q (.bl a)
 |.int _,.aI,Q=>Q (.bl a)
 |.str _,.aI,Q=>Q (.bl a)
 |.lst _,.aI,Q=>Q (.bl a)
 |.tup _,.aI,Q=>Q (.bl a)
 |.err _,.aI,Q=>Q (.bl a)
 |_,_,_=>False
noncomputable def US:W->W->(W->Prop)->Prop
 |.str i,.str j,Q=>∃c,i=tx [c]/\Q (.bl (decide (c∈j.cps.toList)))
 |.str i,.lst l,Q=>∃a:List Str,l=a.map W.str/\Q (.bl (decide (i∈a)))
 |.str i,.tup l,Q=>∃a:List Str,l=a.map W.str/\Q (.bl (decide (i∈a)))
 |_,_,_=>False
noncomputable def dM:CmpOp->W->W->(W->Prop)->Prop
 |.Eq=>SG false
 |.NotEq=>SG true
 |.Lt=>UR
 |.LtE=>Bt λi j=>decide (i<=j)
 |.Gt=>Bt λi j=>decide (j<i)
 |.GtE=>Bt λi j=>decide (j<=i)
 |.Is=>SH false
 |.IsNot=>SH true
 |.In=>US
 |_=>λ_ _ _=>False
noncomputable def Ie:CmpOp->W->W->(W->Prop)->Prop
 |.Lt=>Bt λi j=>decide (i<j)
 |o=>dM o
noncomputable def Ig:W->W->(W->Prop)->Prop
 |.lst l,.int i,Q=>∃w,ig l i=some w/\Q w
 |.tup l,.int i,Q=>∃w,ig l i=some w/\Q w
 |.cY a,.int i,Q=>∃n,ig a i=some n/\Q (.int n)
 |.str x,.int i,Q=>x.length<=sizeLine/\∃c,ig x.cps.toList i=some c/\Q (.str (tx [c]))
 |_,_,_=>False
noncomputable def Pu:W->Bool
 |.str _=>true
 |_=>false
noncomputable def Km:W->W->W->(W->Prop)->Prop
 |.str z,.str y,.int i,Q=>0<=i/\i<=z.length/\Q (.bl (y.cps.toList.isPrefixOf (z.cps.toList.drop i.toNat)))
 |_,_,_,_=>False
noncomputable def Bu:W->(W->Prop)->Prop
 |.str x,Q=>x.length<=1000/\Q (.str x)
 |.int i,Q=>i.natAbs.log2<1920/\Q (.str (toString i))
 |_,_=>False
noncomputable def Kn(n:Nat)(x:Str):W->(W->Prop)->Prop
 |.obj _ b a,Q=>b[n]?=some x/\∃w,a[n]?=some w/\Q w
 |_,_=>False
noncomputable def kh(l:List W)(a b:Option Int):List W:=(l.drop (HT.bV l.length 0 a)).take (HT.bV l.length l.length b -HT.bV l.length 0 a)
noncomputable def gx:CE->Bool
 |.aI=>true
 |_=>false
noncomputable def Wv:W->(Option Int->Prop)->Prop
 |.int i,Q=>Q (some i)
 |_,_=>False
noncomputable def z3(c:CE)(y:W)(Q:Option Int->Prop):Prop:=cond (gx c) (Q none) (Wv y Q)
noncomputable def Rl:W->Option Int->Option Int->(W->Prop)->Prop
 |.lst l,a,b,Q=>Q (.lst (kh l a b))
 |.cY c,a,b,Q=>Q (.lst (kh (c.map W.int) a b))
 |_,_,_,_=>False
noncomputable def EA:W->Option Int->Option Int->(W->Prop)->Prop
 |.str x,a,b,Q=>x.length<=sizeLine/\Q (.str (tx (oW x.cps.toList a b)))
 |.tup l,a,b,Q=>¬(HT.bV l.length 0 a=0/\HT.bV l.length l.length b=l.length)/\Q (.tup (kh l a b))
 |_,_,_,_=>False
noncomputable def Ww:W->Option String
 |.aI=>some "NoneType"
 |.bl _=>some "bool"
 |.int _=>some "int"
 |.str _=>some "str"
 |.lst _=>some "list"
 |.tup _=>some "tuple"
 |_=>none
noncomputable def yX(a b:String):Bool:=a==b||(a=="bool"&&b=="int")
noncomputable def lJ:BI->List W->(W->Prop)->Prop
 |.len,[.lst l],Q=>Q (.int l.length)
 |.len,[.tup l],Q=>Q (.int l.length)
 |.len,[.cY c],Q=>Q (.int c.length)
 |.len,[.str x],Q=>x.length<=sizeLine/\Q (.int x.length)
 |.abs,[.int i],Q=>Q (.int (if i<0 then-i else i))
 |.max2,[.int i,.int j],Q=>Q (.int (if j>i then j else i))
 |.max2,[.lst l],Q=>∃c:List Int,l=c.map W.int/\c≠[]/\∀m∈c,(∀n∈c,n<=m)->Q (.int m)
 |.min2,[.int i,.int j],Q=>Q (.int (if j<i then j else i))
 |.min2,[.lst l],Q=>∃c:List Int,l=c.map W.int/\c≠[]/\∀m∈c,(∀n∈c,m<=n)->Q (.int m)
 |.sum,[.lst l],Q=>∃c:List Int,l=c.map W.int/\Q (.int c.sum)
 |.all,[.lst l],Q=>∃d:List Bool,l=d.map W.bl/\Q (.bl (d.all id))
 |.any,[.lst l],Q=>∃d:List Bool,l=d.map W.bl/\Q (.bl (d.any id))
 |.list,[.lst l],Q=>Q (.lst l)
 |.list,[.tup l],Q=>Q (.lst l)
 |.tuple,[.lst l],Q=>Q (.tup l)
 |.tuple,[.tup l],Q=>Q (.tup l)
 |.Bq,[w,.ty n],Q=>∃a,Ww w=some a/\Q (.bl (yX a n))
 |.int,[.bl b],Q=>Q (.int (if b then 1 else 0))
 |.int,[.str x],Q=>∃n,PySem.intText? x=some n/\x.length<=640/\Q (.int n)
 |.str,[.int i],Q=>i.natAbs.log2<1920/\Q (.str (toString i))
 |.str,[.str x],Q=>Q (.str x)
 |.Ri,[.int i,.int j],Q=>(0<j/\j<1073741824)/\Q (.tup [.int (i/j),.int (i%j)])
 |_,_,_=>False
noncomputable def NR(j:Str):W->Bool
 |.str i=>decide (i=j)
 |_=>false
noncomputable def wK(j:Str)(a:List W):List W:=if a.any (NR j)=true then a else a++[.str j]
noncomputable def wL(j:Str)(u:W)(b a:List W):List W:=if b.any (NR j)=true then Qt (λx w=>if NR j x=true then u else w) b a else a++[u]
noncomputable def jD(j:Str):List Str->List Int->Option Int
 |x::b,w::a=>if x=j then some w else jD j b a
 |_,_=>none
noncomputable def bY(a:Ev):List Nat->List W->Ev
 |i::c,w::b=>bY (a.set i (some w)) c b
 |_,_=>a
noncomputable def wT(b:Bool)(a:List Nat)(w:W)(c:Ev)(Q:Ev->Prop):Prop:=
 match b,a,w with
 |true,[i],w=>Q (c.set i (some w))
 |false,a,.tup l=>l.length=a.length/\Q (bY c a l)
 |_,_,_=>False
noncomputable def qU(f:W->(Option W->Prop)->Prop):List W->List W->(List W->Prop)->Prop
 |[],acc,Q=>Q acc
 |w::a,acc,Q=>f w λr=>match r with
  |some y=>acc.length<sizeLine/\qU f a (acc++[y]) Q
  |none=>qU f a acc Q
noncomputable def truth:W->(Bool->Prop)->Prop
 |.bl b,Q=>Q b
 |_,_=>False
noncomputable def items:W->(List W->Prop)->Prop
 |.lst l,Q=>Q l
 |.tup l,Q=>Q l
 |_,_=>False
noncomputable def gi(a st:Int)(n:Nat):List W:=(Gr n).map λ(i:Nat)=>W.int (a+(i:Int)*st)
noncomputable def EB:List W->(List W->Prop)->Prop
 |[.int j],Q=> -(2^62)<=j/\j<2^62/\Q (gi 0 1 j.toNat)
 |[.int i,.int j],Q=>(-(2^62)<=i/\i<2^62/\-(2^62)<=j/\j<2^62)/\Q (gi i 1 (j -i).toNat)
 |[.int i,.int j,.int k],Q=>∃n:Nat,(k≠0/\k.natAbs<1073741824/\Builtin.Range.small i j k=true/\Builtin.Range.rangeSize i j k=(n:Int))/\Q (gi i k n)
 |_,_=>False
mutual
noncomputable def Ds:W->Bool
 |.aI=>true
 |.bl _=>true
 |.int _=>true
 |.str _=>true
 |.tup l=>Bv l
 |_=>false
noncomputable def Bv:List W->Bool
 |[]=>true
 |w::l=>Ds w&&Bv l
end
mutual
noncomputable def flat:Md->W->Bool
 |.s,w=>Ds w
 |.f,w=>match w with
  |.lst l=>Bv l
  |_=>false
 |.t a,w=>match w with
  |.tup l=>wM a l
  |_=>false
 |.o _ _,_=>false
 |.io _,_=>false
 |.d,_=>false
 |.ls _,_=>false
noncomputable def wM:List Md->List W->Bool
 |[],l=>l.isEmpty
 |m::a,l=>match l with
  |w::l=>flat m w&&wM a l
  |[]=>false
end
abbrev aU:=List W->(W->Prop)->(Addr->Prop)->Prop
section
variable(Φ:Nat->aU)(G:Nat->W)
mutual
noncomputable def wE(R:Addr->Prop):CE->Ev->(W->Prop)->Prop
 |.var i,d,Q=>match look d i with
  |some w=>Q w
  |none=>False
 |.int i,_,Q=>Q (.int i)
 |.bl b,_,Q=>Q (.bl b)
 |.str x,_,Q=>Q (.str x)
 |.aI,_,Q=>Q .aI
 |.Dr n,_,Q=>Q (.ty n)
 |.glob g,_,Q=>Q (G g)
 |.bin op a b,d,Q=>wE R a d λx=>wE R b d λy=>eV op x y Q
 |.neg a,d,Q=>wE R a d λx=>match x with
  |.int i=>Q (.int (-i))
  |_=>False
 |.not a,d,Q=>wE R a d λx=>truth x λb=>Q (.bl (!b))
 |.cmp op a b,d,Q=>wE R a d λx=>wE R b d λy=>dM op x y Q
 |.and o,d,Q=>yf R o d Q
 |.or o,d,Q=>Ny R o d Q
 |.ite c a b,d,Q=>wE R c d λx=>truth x λk=>if k=true then wE R a d Q else wE R b d Q
 |.tup o,d,Q=>wA R o d λm=>m.length<=sizeLine/\Q (.tup m)
 |.lst o,d,Q=>wA R o d λm=>m.length<=sizeLine/\Q (.lst m)
 |.ix a i,d,Q=>wE R a d λx=>wE R i d λy=>Ig x y Q
 |.sl a q r,d,Q=>wE R a d λx=>wE R q d λy=>z3 q y λl=>wE R r d λz=>z3 r z λh=>Rl x l h Q
 |.call f o,d,Q=>wA R o d λm=>Φ f m Q R
 |.blt b o,d,Q=>wA R o d λm=>lJ b m Q
 |.comp A one n B c e,d,Q=>wE R B d λz=>items z λm=>qU (λw K=>wT one A w (A0 n none++d) λp=>wE (λ_=>False) c p λx=>truth x λk=>if k=true then wE (λ_=>False) e p λy=>K (some y)else K none) m [] λl=>Q (.lst l)
 |.pS o,d,Q=>wA R o d λm=>EB m λl=>Q (.lst l)
 |.pop _,_,_=>False
 |.own i π,d,Q=>match look d i with
  |some w=>match bD w π with
   |some u=>Q u
   |none=>False
  |none=>False
 |.jm _ _ _ _,_,_=>False
 |.Br _ _ _ _,_,_=>False
 |.fst o,d,Q=>NY R o [] d Q
 |.fmt a,d,Q=>wE R a d λw=>Bu w Q
 |.slt a q r,d,Q=>wE R a d λx=>wE R q d λy=>z3 q y λl=>wE R r d λz=>z3 r z λh=>EA x l h Q
 |.NJ a b c,d,Q=>wE R a d λx=>Pu x=true/\wE R b d λy=>wE R c d λz=>Km x y z Q
 |.Kg a n x,d,Q=>wE R a d λw=>Kn n x w Q
 |.qT g f a,d,Q=>wE R a d λx=>match x with
  |.obj C D m=>G g=.cls C/\Φ f [.obj C D m] Q R
  |_=>False
 |.NK i,d,Q=>match look d i with
  |some (.dct v vs)=>∃t:List Str,v=t.map W.str/\t.length<64/\∀s:List Str,s.Perm t->V2 s=true->Q (.lst (s.map W.str))
  |_=>False
 |.NL v vs k,d,Q=>wE R k d λx=>match x with
  |.str j=>∃n,jD j v vs=some n/\Q (.int n)
  |_=>False
noncomputable def NY(R:Addr->Prop):List CE->List Nat->Ev->(W->Prop)->Prop
 |[],acc,_,Q=>Q (.str (tx acc))
 |a::c,acc,b,Q=>wE R a b λx=>match x with
  |.str y=>acc.length+y.length<=2000/\NY R c (acc++y.cps.toList) b Q
  |_=>False
noncomputable def wA(R:Addr->Prop):List CE->Ev->(List W->Prop)->Prop
 |[],_,Q=>Q []
 |a::d,b,Q=>wE R a b λx=>wA R d b λc=>Q (x::c)
noncomputable def yf(R:Addr->Prop):List CE->Ev->(W->Prop)->Prop
 |[],_,_=>False
 |a::e,c,Q=>match e with
  |[]=>wE R a c Q
  |b::d=>wE R a c λx=>truth x λk=>if k=true then yf R (b::d) c Q else Q (.bl false)
noncomputable def Ny(R:Addr->Prop):List CE->Ev->(W->Prop)->Prop
 |[],_,_=>False
 |a::e,c,Q=>match e with
  |[]=>wE R a c Q
  |b::d=>wE R a c λx=>truth x λk=>if k=true then Q (.bl true)else Ny R (b::d) c Q
end
structure Dn where
 nx:Ev->Prop
 rt:W->Prop
 bk:Ev->Prop
 ct:Ev->Prop
 ex:Addr->Prop
mutual
noncomputable def wP(R:Addr->Prop):CE->Ev->(W->Ev->Prop)->Prop
 |.pop i,c,Q=>match look c i with
  |some (.lst l)=>∃w,l[l.length -1]?=some w/\Q w (c.set i (some (.lst l.dropLast)))
  |_=>False
 |.Br i g f h,c,Q=>match look c i with
  |some (.fn a)=>G g=.fn a/\z9 R h c λj d=>Φ f j (λw=>Q w d) R
  |_=>False
 |.jm i g f h,c,Q=>match look c i with
  |some (.obj C _ _)=>G g=.cls C/\z9 R h c λj d=>match look d i with
   |some n=>Φ f (n::j) (λr=>∃w y,r=.tup [w,y]/\Q w (d.set i (some y))) R
   |none=>False
  |_=>False
 |.bin op a b,c,Q=>wP R a c λx m=>wP R b m λy k=>eV op x y λz=>Q z k
 |.cmp op a b,c,Q=>wP R a c λx m=>wP R b m λy k=>dM op x y λz=>Q z k
 |.call f h,c,Q=>z9 R h c λj d=>Φ f j (λw=>Q w d) R
 |.blt b h,c,Q=>z9 R h c λj d=>lJ b j λw=>Q w d
 |.ix a b,c,Q=>wP R a c λx m=>wP R b m λy k=>Ig x y λz=>Q z k
 |.lst h,c,Q=>z9 R h c λj d=>j.length<=sizeLine/\Q (.lst j) d
 |.tup h,c,Q=>z9 R h c λj d=>j.length<=sizeLine/\Q (.tup j) d
 |.and h,c,Q=>vZ R h c Q
 |.or h,c,Q=>DA R h c Q
 |e,c,Q=>wE Φ G R e c λw=>Q w c
noncomputable def z9(R:Addr->Prop):List CE->Ev->(List W->Ev->Prop)->Prop
 |[],b,Q=>Q [] b
 |a::f,b,Q=>wP R a b λx e=>z9 R f e λc d=>Q (x::c) d
noncomputable def vZ(R:Addr->Prop):List CE->Ev->(W->Ev->Prop)->Prop
 |[],_,_=>False
 |a::f,d,Q=>match f with
  |[]=>wP R a d Q
  |b::e=>wP R a d λx c=>truth x λk=>if k=true then vZ R (b::e) c Q else Q (.bl false) c
noncomputable def DA(R:Addr->Prop):List CE->Ev->(W->Ev->Prop)->Prop
 |[],_,_=>False
 |a::f,d,Q=>match f with
  |[]=>wP R a d Q
  |b::e=>wP R a d λx c=>truth x λk=>if k=true then Q (.bl true) c else DA R (b::e) c Q
end
noncomputable def fS(b:W->Dn->Ev->Prop)(D:Dn):List W->Ev->Prop
 |[],a=>D.nx a
 |w::c,a=>b w {nx:=fS b D c,rt:=D.rt,bk:=D.nx,ct:=fS b D c,ex:=λ_=>False} a
noncomputable def Pw(c:Ev->(Bool->Ev->Prop)->Prop)(b:Dn->Ev->Prop)(D:Dn)(d:Ev):Prop:=
 ∃J:Nat->Ev->Prop,(∃m,J m d)/\∀m d,J m d->c d λk f=>if k=true then∃N:Ev->Prop,(∀a,N a->∃e,e<m/\J e a)/\b {nx:=N,rt:=D.rt,bk:=D.nx,ct:=N,ex:=λ_=>False} f else D.nx f
noncomputable def Ko(c:Ev->(Bool->Prop)->Prop)(b:Dn->Ev->Prop)(D:Dn)(a:Ev):Prop:=
 ∃J:Nat->Ev->Prop,(∃m,J m a)/\∀m a,J m a->c a λk=>if k=true then∃N:Ev->Prop,(∀d,N d->∃e,e<m/\J e d)/\b {nx:=N,rt:=D.rt,bk:=D.nx,ct:=N,ex:=λ_=>False} a else D.nx a
mutual
noncomputable def wS:CS->Dn->Ev->Prop
 |.set i e,D,d=>wE Φ G D.ex e d λw=>D.nx (d.set i (some w))
 |.NN m e,D,d=>wE Φ G D.ex e d λw=>match w with
  |.tup l=>l.length=m.length/\D.nx (bY d m l)
  |_=>False
 |.par m es,D,d=>wA Φ G D.ex es d λg=>g.length=m.length/\D.nx (bY d m g)
 |.app i e,D,d=>match look d i with
  |some (.lst l)=>wE Φ G D.ex e d λw=>l.length<sizeLine/\D.nx (d.set i (some (.lst (l++[w]))))
  |_=>False
 |.oY j e,D,d=>wP Φ G D.ex e d λw f=>D.nx (f.set j (some w))
 |.ret e,D,d=>wE Φ G D.ex e d D.rt
 |.iff c a b,D,d=>wE Φ G D.ex c d λx=>truth x λk=>if k=true then wSs a D d else wSs b D d
 |.NO c b,D,d=>Ko (λd Q=>wE Φ G (λ_=>False) c d λx=>truth x Q) (wSs b) D d
 |.fr m one s b,D,d=>wE Φ G (λ_=>False) s d λz=>items z λg=>fS (λw u f=>wT one m w f λt=>wSs b u t) D g d
 |.brk,D,d=>D.bk d
 |.Ia i π e,D,d=>match look d i with
  |some h=>match bD h π with
   |some (.lst l)=>wE Φ G D.ex e d λw=>l.length<sizeLine/\D.nx (d.set i (some (setAt h π (.lst (l++[w])))))
   |_=>False
  |none=>False
 |.Bs i n e,D,d=>wE Φ G D.ex e d λw=>match look d i with
  |some (.obj C o g)=>n<g.length/\D.nx (d.set i (some (.obj C o (g.set n w))))
  |_=>False
 |.Ib e,D,d=>wE Φ G D.ex e d λw=>match look d 0 with
  |some h=>D.rt (.tup [w,h])
  |none=>False
 |.zZ e,D,d=>wP Φ G D.ex e d λ_ f=>D.nx f
 |.NP c a b,D,d=>wP Φ G D.ex c d λx f=>truth x λk=>if k=true then wSs a D f else wSs b D f
 |.Ph c b,D,d=>Pw (λd Q=>wP Φ G (λ_=>False) c d λx f=>truth x λk=>Q k f) (wSs b) D d
 |.Kh i e,D,d=>match look d i with
  |some (.lst _)=>wP Φ G D.ex e d λw f=>match look f i with
   |some (.lst l)=>l.length<sizeLine/\D.nx (f.set i (some (.lst (l++[w]))))
   |_=>False
  |_=>False
 |.yW,_,_=>False
 |.Rj i,D,d=>D.nx (d.set i (some (.dct [] [])))
 |.NG i π e,D,d=>match look d i with
  |some h=>match bD h π with
   |some (.lst l)=>wE Φ G D.ex e d λw=>match w with
    |.lst r=>l.length+r.length<=sizeLine/\D.nx (d.set i (some (setAt h π (.lst (l++r)))))
    |_=>False
   |_=>False
  |none=>False
 |.Pj i n e,D,d=>match look d i with
  |some (.obj C o g)=>∃l,g[n]?=some (.lst l)/\∀a:Addr,wP Φ G D.ex e (d.set i (some (.obj C o (g.set n (.cls a))))) λw f=>∃q,look f i=some (.obj C o q)/\q[n]?=some (.cls a)/\l.length<sizeLine/\D.nx (f.set i (some (.obj C o (q.set n (.lst (l++[w]))))))
  |_=>False
 |.Pn e,D,d=>wP Φ G D.ex e d λw _=>D.rt w
 |.Pk c a b,D,d=>wP Φ G D.ex c d λx f=>truth x λk=>if(!k)=true then wSs a D f else wSs b D f
 |.Rk i k e,D,d=>wE Φ G D.ex e d λw=>match look d i with
  |some (.dct p vs)=>wE Φ G D.ex k d λx=>match x with
   |.str j=>p.length<sizeLine/\D.nx (d.set i (some (.dct (wK j p) (wL j w p vs))))
   |_=>False
  |_=>False
 |.Kl _ b,D,d=>wSs b {D with nx:=λ_=>False,bk:=λ_=>False,ct:=λ_=>False} d
noncomputable def wSs:List CS->Dn->Ev->Prop
 |[],D,a=>D.nx a
 |s::c,D,a=>match c with
  |[]=>wS s D a
  |t::b=>wS s {D with nx:=wSs (t::b) D} a
end
end
noncomputable def aT(K:Frag)(B:Addr->Prop)(H:Hp)(w:W)(v:V):Prop:=
 match w with
 |.lst l=>∃p a,v=.ref p/\Rz H p (.lst a)/\af K B H l a
 |w=>Rep K B H w v
section
variable{K:Frag}{A B:Addr->Prop}{H H':Hp}{w:W}{v:V}
theorem Rep.b(h:Rep K B H w v):aT K B H w v:=by
 cases w with
 |lst l=>obtain⟨p,a,e,_,d,c⟩:=h;exact⟨p,a,e,d,c⟩
 |_=>exact h
theorem aT.same(s:ao H H')(h:aT K B H w v):aT K B H' w v:=by
 cases w with
 |lst l=>obtain⟨p,a,e,c,b⟩:=h;exact⟨p,a,e,VL.ao.rz s c,b.same s⟩
 |_=>exact Rep.same s h
theorem aT.lst{l:List W}(h:aT K B H (.lst l) v):∃p vs,v=.ref p/\Rz H p (.lst vs)/\af K B H l vs:=h
theorem aT.Px{l:List W}(h:aT K B H (.tup l) v):∃p vs,v=.ref p/\H p=some (.tup vs)/\af K B H l vs:=by have h:Rep K B H (.tup l) v:=h;dsimp only[Rep]at h;exact h
theorem aT.tup{l:List W}(h:aT K B H (.tup l) v):∃p vs,v=.ref p/\iK K H p vs/\af K B H l vs:=by have h:Rep K B H (.tup l) v:=h;obtain⟨p,vs,e,b,a⟩:=h;exact⟨p,vs,e,iK.of b,a⟩
theorem aT.int{i:Int}(h:aT K B H (.int i) v):v=.int i:=by have h:Rep K B H (.int i) v:=h;dsimp only[Rep]at h;exact h
theorem aT.bl{i:Bool}(h:aT K B H (.bl i) v):v=.bl i:=by have h:Rep K B H (.bl i) v:=h;dsimp only[Rep]at h;exact h
theorem aT.str{i:Str}(h:aT K B H (.str i) v):v=.str i:=by have h:Rep K B H (.str i) v:=h;dsimp only[Rep]at h;exact h
theorem aT.aI(h:aT K B H .aI v):v=.aI:=by have h:Rep K B H .aI v:=h;dsimp only[Rep]at h;exact h
theorem aT.ty{n:String}(h:aT K B H (.ty n) v):v=.ty n:=by have h:Rep K B H (.ty n) v:=h;dsimp only[Rep]at h;exact h
theorem dN(i:Int):Rep K B H (.int i) (.int i):=by dsimp only[Rep]
theorem qg(i:Bool):Rep K B H (.bl i) (.bl i):=by dsimp only[Rep]
theorem kj(i:Str):Rep K B H (.str i) (.str i):=by dsimp only[Rep]
theorem Py:Rep K B H .aI .aI:=by dsimp only[Rep]
theorem Wx(n:String):Rep K B H (.ty n) (.ty n):=by dsimp only[Rep]
theorem qV{l:List W}{p:Addr}{vs:List V}(b:H p=some (.tup vs))(a:af K B H l vs):Rep K B H (.tup l) (.ref p):=by dsimp only[Rep];exact⟨p,vs,rfl,b,a⟩
end
abbrev KP:=W->Prop
noncomputable def Cont(K:Frag)(B:Addr->Prop)(H:Hp)(m:Md)(P:KP)(Q:VK):Prop:=∀w v a,P w->ao H a->cI K B H a m w v->Q v a
theorem Cont.now{K:Frag}{B:Addr->Prop}{H:Hp}{P:KP}{Q:VK}(c:Cont K B H .s P Q){w:W}{v:V}(p:P w)(h:Rep K B H w v):Q v H:=c w v H p (ao.refl H) (.of h)
theorem Cont.s{K:Frag}{B:Addr->Prop}{H:Hp}{m:Md}{P:KP}{Q:VK}(d:Dom B H)(c:Cont K B H .s P Q):Cont K B H m P Q:=λw v b p a h=>c w v b p a (h.s d)
noncomputable def z4(X:Cx)(f:Value->Value->Sem Value)(r:W->W->KP->Prop)(m:W->W->Md):Prop:=
 ∀(a:List (Addr×Obj))(s:Shared)(b:St)(H:Hp)(B:Addr->Prop)(x y:W)(d c:V)(v u:Value)(P:KP)(Q:VK),Inv X a b H s->Dom B H->RelV d v->RelV c u->aT X.K B H x d->aT X.K B H y c->r x y P->Cont X.K B H (m x y) P Q->
  wpAny (model X.prog X.w) X.A (f v u) (EP X a b Q) X.xe s
section
variable{X:Cx}
theorem EC:jj X (binaryOp .Add) (λx y H Q=>∃l b f d,x=.ref l/\y=.ref b/\Rd H l (.lst f)/\Rd H b (.lst d)/\f.length+d.length<=sizeLine/\∀p,H p=none->Q (.ref p) (upd H p (.lst (f++d)))):=by
 intro i s B H x y v u Q I k j h;obtain⟨l,b,f,d,rfl,rfl,o,t,hz,q⟩:=h;cases k;cases j;obtain⟨z,c,n,r,e⟩:=o.ok I.hok;obtain⟨C,a,D,g,A⟩:=t.ok I.hok;have E:=r.length;have m:=g.length;refine PySem.P.add_list e A ?_ (by rw[Fm,Fm];lia);have w:c.toArray++a.toArray=(c++a).toArray:=by simp
 rw[w];exact⟨.ref _,_,I.O3 (t':=s.toks) (r.append g) (by rw[B1];lia),rfl,q _ I.fresh⟩
theorem ED:jj X (binaryOp .Mult) (λx y H Q=>∃l k i,x=.ref l/\y=.int k/\Rd H l (.lst i)/\-(2^63)<=k/\k<2^63/\i.length*k.toNat<=sizeLine/\∀p,H p=none->Q (.ref p) (upd H p (.lst (A0 k.toNat i).flatten))):=by
 intro w s N H x y v u Q I C B h;obtain⟨l,k,i,rfl,rfl,E,K,J,hz,q⟩:=h;cases C;obtain⟨t,rfl⟩:=B;obtain⟨z,b,n,r,e⟩:=E.ok I.hok;have D:=r.length;have d:b.toArray.size*k.toNat<=sizeLine:=by rw[Fm,<-D];exact hz
 have g:¬b.toArray.size*k.toNat>(2^63 -1)/8:=by
  have:(sizeLine:Nat)<=(2^63 -1)/8:=by decide
  lia
 have f:¬(!Builtin.List.listFitsIndex k)=true:=by rw[fitsIndex_both K J];exact Fs
 have M:¬Builtin.List.listTooLong (b.toArray.size*k.toNat)=true:=by rw[sP d];exact Fs
 have c:SW (λo j=>o++j) #[] (A0 (if b.toArray.isEmpty=true then 0 else k.toNat) b.toArray)=(A0 k.toNat b).flatten.toArray:=by
  have L:∀m:Nat,SW (λo j=>o++j) #[] (A0 m b.toArray)=(A0 m b).flatten.toArray:=λm=>by have:=foldl_rep b m [];rw[Jd]at this;exact this
  rw[L];cases b with
  |nil=>simp
  |cons a O=>rw[Bn (by simp)]
 refine wpAny_binaryOp_repeat_ref (T:="list") (U:="int") (by decide) ⟨_,e,rfl⟩ (λA=>typeIs_int A k t) noFill_list_mul F.fills_int_mul F.slot_int_rmul repeat_list F.slot_int_index.lookup
  (call_meets F.slot_int_rmul (typeIs_int s k t) F.entry_int_rmul (F.args_int_rmul_2 _ _) (int___rmul___int_list k t l b.toArray n)
    ⟨e,rfl,⟨_,e,rfl⟩,call_meets F.slot_list_mul ⟨_,e,rfl⟩ F.entry_list_mul (F.args_list_mul_2 _ _) (AutoListH.list___mul___list_int_3 l b.toArray n k t f g M) ⟨e,?_⟩⟩)
 rw[c];exact⟨.ref _,_,I.O3 (t':=s.toks) (r.rep k.toNat) (by rw[len_rep,Nat.mul_comm];exact hz),rfl,q _ I.fresh⟩
noncomputable def EF:W->W->Md
 |.lst _,_=>.f
 |_,_=>.s
theorem Kp:z4 X (binaryOp .Add) Po EF:=by
 intro f s m H B x y N M v u P Q I d t o A w h c;cases x with
 |int i=>
  cases y with
  |int j=>
   cases A.int;cases w.int;exact JE f s m H _ _ v u Q I t o ⟨i,j,rfl,rfl,c.now h (dN _)⟩
  |_=>exact h.elim
 |str i=>
  cases y with
  |str j=>
   cases A.str;cases w.str;exact uT f s m H _ _ v u Q I t o ⟨i,j,rfl,rfl,h.1,c.now h.2 (kj _)⟩
  |_=>exact h.elim
 |lst a=>
  cases y with
  |lst b=>obtain⟨p,n,rfl,J,g⟩:=A.lst;obtain⟨q,C,rfl,D,k⟩:=w.lst;obtain⟨F,h⟩:=h;refine EC f s m H _ _ v u Q I t o ⟨p,q,n,C,rfl,rfl,J.rd,D.rd,by rw[g.len,k.len];exact F,λr l=>?_⟩;exact c _ _ _ h (aG l _) (.fresh (ao.refl H) l (g.app k))
  |_=>exact h.elim
 |tup a=>
  cases y with
  |tup b=>
   obtain⟨p,n,rfl,L,g⟩:=A.Px;have J:iK X.K H p n:=iK.of L;obtain⟨q,C,rfl,D,k⟩:=w.tup;obtain⟨E,F,h⟩:=h;refine Ea f s m H _ _ v u Q I t o ⟨p,q,n,C,rfl,rfl,J,D,λz=>E ?_,by rw[g.len,k.len];exact F,λz=>?_,λ_ r l=>?_⟩
   .have:=g.len;rw[z]at this;exact Kk.mp this.symm
   .have:=k.len;rw[z]at this;have e:b=[]:=Kk.mp this.symm;subst e;rw[Kt]at h;exact c.now h (qV L g)
   .exact c _ _ _ h (aG l _) (.of (qV aA ((g.app k).same (aG l _))))
  |_=>exact h.elim
 |_=>exact h.elim
theorem Kq:z4 X (binaryOp .Mult) Pp EF:=by
 intro b s e H B x y D C v u P Q I d g f m l h c;cases x with
 |int i=>
  cases y with
  |int j=>
   cases m.int;cases l.int;exact Ek b s e H _ _ v u Q I g f ⟨i,j,rfl,rfl,h.1,c.now h.2 (dN _)⟩
  |_=>exact h.elim
 |lst a=>
  cases y with
  |int k=>obtain⟨p,t,rfl,n,q⟩:=m.lst;cases l.int;obtain⟨z,w,A,h⟩:=h;refine ED b s e H _ _ v u Q I g f ⟨p,k,t,rfl,rfl,n.rd,z,w,by rw[q.len];exact A,λr o=>?_⟩;exact c _ _ _ h (aG o _) (.fresh (ao.refl H) o (q.rep _))
  |_=>exact h.elim
 |str a=>
  cases y with
  |int k=>
   cases m.str;cases l.int;obtain⟨rfl,n,h⟩:=h;exact Eu b s e H _ _ v u Q I g f ⟨a,rfl,rfl,n,c.now h (kj _)⟩
  |_=>exact h.elim
 |_=>exact h.elim
noncomputable def mS:W->W->Md:=λ_ _=>.s
theorem Kr:z4 X (binaryOp .Sub) Pq mS:=by
 intro a s b H B x y m l v u P Q I d f e k g h c;cases x with
 |int i=>
  cases y with
  |int j=>
   cases k.int;cases g.int;exact JF a s b H _ _ v u Q I f e ⟨i,j,rfl,rfl,c.now h (dN _)⟩
  |_=>exact h.elim
 |_=>exact h.elim
theorem tG{f:Value->Value->Sem Value}{C:Int->Int->Prop}{g:Int->Int->Int}(n:jj X f (rI C λi j=>.int (g i j))):z4 X f (NQ C g) mS:=by
 intro a s b H B x y p o v u P Q I d k e m l h c;cases x with
 |int i=>
  cases y with
  |int j=>
   cases m.int;cases l.int;exact n a s b H _ _ v u Q I k e ⟨i,j,rfl,rfl,h.1,c.now h.2 (dN _)⟩
  |_=>exact h.elim
 |_=>exact h.elim
noncomputable def EG:Operator->W->W->Md
 |.Add=>EF
 |.Mult=>EF
 |_=>mS
theorem vt(op:Operator):z4 X (binaryOp op) (eV op) (EG op):=by
 cases op with
 |Add=>exact Kp
 |Sub=>exact Kr
 |Mult=>exact Kq
 |FloorDiv=>exact tG AZ
 |Mod=>exact tG DQ
 |Pow=>exact tG JG
 |LShift=>exact tG JH
 |RShift=>exact tG JI
 |_=>exact λa s b H B x y f e v u P Q I d i g k j h c=>h.elim
theorem qW{f:Value->Value->Sem Value}{p:Int->Int->Bool}(m:jj X f (DO λi j=>.bl (p i j))):z4 X f (Bt p) mS:=by
 intro a s b H B x y o n v u P Q I d g e l k h c;cases x with
 |int i=>
  cases y with
  |int j=>
   cases l.int;cases k.int;exact m a s b H _ _ v u Q I g e ⟨i,j,rfl,rfl,c.now h (qg _)⟩
  |_=>exact h.elim
 |_=>exact h.elim
end
mutual
noncomputable def toD:W->PyData
 |.aI=>.none
 |.bl b=>.bool b
 |.int i=>.int i
 |.str x=>.str x
 |.lst l=>.list (toDL l)
 |.tup l=>.tuple (toDL l)
 |_=>.none
noncomputable def toDL:List W->List PyData
 |[]=>[]
 |w::l=>toD w::toDL l
end
mutual
noncomputable def uL:W->Bool
 |.aI=>true
 |.bl _=>true
 |.int _=>true
 |.str x=>PyData.strOk x
 |.lst l=>qX l
 |.tup l=>qX l
 |_=>false
noncomputable def qX:List W->Bool
 |[]=>true
 |w::l=>uL w&&qX l
end
section
variable{X:Cx}{B:Addr->Prop}{H:Hp}
mutual
theorem PB:∀(w:W){v:V},uL w=true->Rep X.K B H w v->Dt X H v (toD w)
 |.aI,v,_,h=>by obtain rfl:=h;exact J9
 |.bl b,v,_,h=>by obtain rfl:=h;exact Pg b
 |.int i,v,_,h=>by obtain rfl:=h;exact J7 i
 |.str x,v,_,h=>by obtain rfl:=h;exact J8 x
 |.lst l,v,d,h=>by obtain⟨p,e,rfl,_,c,a⟩:=h;exact Bk (.inl c.rd) (wN l d a)
 |.tup l,v,d,h=>by obtain⟨p,e,rfl,c,a⟩:=h;exact Ka (iK.of c) (wN l d a)
 |.ty _,_,d,_=>ff d
 |.cls _,_,d,_=>ff d
 |.fn _,_,d,_=>ff d
 |.err _,_,d,_=>ff d
 |.dct _ _,_,d,_=>ff d
 |.obj _ _ _,_,d,_=>ff d
 |.cY _,_,d,_=>ff d
theorem wN:∀(l:List W){vs:List V},qX l=true->af X.K B H l vs->Paired (Dt X H) vs (toDL l)
 |[],vs,_,h=>by rw[h.nil_inv];exact .nil
 |w::l,vs,d,h=>by obtain⟨v,r,rfl,b,a⟩:=h.cons_inv;have d:=IR.mp d;exact .cons (PB w d.1 b) (wN l d.2 a)
end
theorem EH{w:W}{v:V}(d:uL w=true)(h:aT X.K B H w v):Dt X H v (toD w):=by
 cases w with
 |lst l=>obtain⟨p,c,rfl,b,a⟩:=h.lst;exact Bk (.inl b.rd) (wN l d a)
 |_=>exact PB (B:=B) _ d h
end
mutual
theorem toD_lay:∀w:W,uL w=true->(toD w).canLay0=true
 |.aI,_=>rfl
 |.bl _,_=>rfl
 |.int _,_=>rfl
 |.str x,d=>d
 |.lst l,d=>toDL_lay l d
 |.tup l,d=>toDL_lay l d
 |.ty _,d=>ff d
 |.cls _,d=>ff d
 |.fn _,d=>ff d
 |.err _,d=>ff d
 |.dct _ _,d=>ff d
 |.obj _ _ _,d=>ff d
 |.cY _,d=>ff d
theorem toDL_lay:∀l:List W,qX l=true->PyData.canLayAll0 (toDL l)=true
 |[],_=>rfl
 |w::l,d=>by have d:=IR.mp d;exact IR.mpr ⟨toD_lay w d.1,toDL_lay l d.2⟩
end
mutual
theorem toD_inj:∀x y:W,uL x=true->uL y=true->same (toD x) (toD y)=true->x=y
 |.aI,.aI,_,_,_=>rfl
 |.aI,.bl _,_,_,h=>ff h
 |.aI,.int _,_,_,h=>ff h
 |.aI,.str _,_,_,h=>ff h
 |.aI,.lst _,_,_,h=>ff h
 |.aI,.tup _,_,_,h=>ff h
 |.bl _,.aI,_,_,h=>ff h
 |.bl _,.int _,_,_,h=>ff h
 |.bl _,.str _,_,_,h=>ff h
 |.bl _,.lst _,_,_,h=>ff h
 |.bl _,.tup _,_,_,h=>ff h
 |.int _,.aI,_,_,h=>ff h
 |.int _,.bl _,_,_,h=>ff h
 |.int _,.str _,_,_,h=>ff h
 |.int _,.lst _,_,_,h=>ff h
 |.int _,.tup _,_,_,h=>ff h
 |.str _,.aI,_,_,h=>ff h
 |.str _,.bl _,_,_,h=>ff h
 |.str _,.int _,_,_,h=>ff h
 |.str _,.lst _,_,_,h=>ff h
 |.str _,.tup _,_,_,h=>ff h
 |.lst _,.aI,_,_,h=>ff h
 |.lst _,.bl _,_,_,h=>ff h
 |.lst _,.int _,_,_,h=>ff h
 |.lst _,.str _,_,_,h=>ff h
 |.lst _,.tup _,_,_,h=>ff h
 |.tup _,.aI,_,_,h=>ff h
 |.tup _,.bl _,_,_,h=>ff h
 |.tup _,.int _,_,_,h=>ff h
 |.tup _,.str _,_,_,h=>ff h
 |.tup _,.lst _,_,_,h=>ff h
 |.bl a,.bl b,_,_,h=>Ki _ (eq_of_beq h)
 |.int a,.int b,_,_,h=>Ki _ (eq_of_beq h)
 |.str a,.str b,_,_,h=>Ki _ (eq_of_beq h)
 |.lst a,.lst b,d,e,h=>Ki _ (toDL_inj a b d e h)
 |.tup a,.tup b,d,e,h=>Ki _ (toDL_inj a b d e h)
 |.ty _,_,d,_,_=>ff d
 |.cls _,_,d,_,_=>ff d
 |.fn _,_,d,_,_=>ff d
 |.err _,_,d,_,_=>ff d
 |.dct _ _,_,d,_,_=>ff d
 |.obj _ _ _,_,d,_,_=>ff d
 |.cY _,_,d,_,_=>ff d
 |_,.ty _,_,d,_=>ff d
 |_,.cls _,_,d,_=>ff d
 |_,.fn _,_,d,_=>ff d
 |_,.err _,_,d,_=>ff d
 |_,.dct _ _,_,d,_=>ff d
 |_,.obj _ _ _,_,d,_=>ff d
 |_,.cY _,_,d,_=>ff d
theorem toDL_inj:∀x y:List W,qX x=true->qX y=true->sameAll (toDL x) (toDL y)=true->x=y
 |[],[],_,_,_=>rfl
 |[],_::_,_,_,h=>ff h
 |_::_,[],_,_,h=>ff h
 |x::b,y::a,d,e,h=>by have d:=IR.mp d;have e:=IR.mp e;have h:=IR.mp h;rw[toD_inj x y d.1 e.1 h.1,toDL_inj b a d.2 e.2 h.2]
end
mutual
theorem toD_refl:∀x:W,uL x=true->same (toD x) (toD x)=true
 |.aI,_=>rfl
 |.bl a,_=>Pi a
 |.int a,_=>Pi a
 |.str a,_=>Pi a
 |.lst a,d=>toDL_refl a d
 |.tup a,d=>toDL_refl a d
 |.ty _,d=>ff d
 |.cls _,d=>ff d
 |.fn _,d=>ff d
 |.err _,d=>ff d
 |.dct _ _,d=>ff d
 |.obj _ _ _,d=>ff d
 |.cY _,d=>ff d
theorem toDL_refl:∀x:List W,qX x=true->sameAll (toDL x) (toDL x)=true
 |[],_=>rfl
 |x::a,d=>by have d:=IR.mp d;exact IR.mpr ⟨toD_refl x d.1,toDL_refl a d.2⟩
end
theorem toD_same(x y:W)(d:uL x=true)(e:uL y=true):same (toD x) (toD y)=true↔x=y:=⟨toD_inj x y d e,by rintro rfl;exact toD_refl x d⟩
theorem toDL_map:∀l:List W,toDL l=l.map toD
 |[]=>rfl
 |w::l=>Ki (toD w::·) (toDL_map l)
theorem m9:∀l:List W,qX l=l.all uL
 |[]=>rfl
 |w::l=>Ki (uL w&&·) (m9 l)
theorem tH:∀(n:Nat)(w:W),(lI n w=true\/Ic n w=true)->uL w=true/\(toD w).depth<=n+1
 |n,.aI,_=>⟨rfl,Mo _⟩
 |n,.bl _,_=>⟨rfl,Mo _⟩
 |n,.int _,_=>⟨rfl,Mo _⟩
 |n,.str x,h=>by
  have:PyData.strOk x=true:=by
   rcases h with h|h
   .cases n<;>exact h
   .cases n<;>exact h
  exact⟨this,Mo _⟩
 |0,.lst l,h=>h.elim ff ff
 |0,.tup l,h=>h.elim ff ff
 |n+1,.lst l,h=>by
  have b:∀w∈l,uL w=true/\(toD w).depth<=n+1:=λw a=>by
   refine tH n w ?_;rcases h with h|h
   .exact .inl (HI.mp h w a)
   .exact .inr (HI.mp h w a)
  refine⟨(m9 l).trans (HI.mpr λw a=>(b w a).1),?_⟩;dsimp only[toD];rw[toDL_map];exact Oj (tw λx c=>by obtain⟨w,a,rfl⟩:=KB.mp c;exact(b w a).2)
 |n+1,.tup l,h=>by
  have b:∀w∈l,uL w=true/\(toD w).depth<=n+1:=λw a=>by
   refine tH n w ?_;rcases h with h|h
   .exact .inl (HI.mp h w a)
   .exact .inr (HI.mp h w a)
  refine⟨(m9 l).trans (HI.mpr λw a=>(b w a).1),?_⟩;dsimp only[toD];rw[toDL_map];exact Oj (tw λx c=>by obtain⟨w,a,rfl⟩:=KB.mp c;exact(b w a).2)
 |0,.ty _,h=>h.elim ff ff
 |0,.cls _,h=>h.elim ff ff
 |0,.fn _,h=>h.elim ff ff
 |0,.err _,h=>h.elim ff ff
 |0,.dct _ _,h=>h.elim ff ff
 |0,.obj _ _ _,h=>h.elim ff ff
 |0,.cY _,h=>h.elim ff ff
 |n+1,.ty _,h=>h.elim ff ff
 |n+1,.cls _,h=>h.elim ff ff
 |n+1,.fn _,h=>h.elim ff ff
 |n+1,.err _,h=>h.elim ff ff
 |n+1,.dct _ _,h=>h.elim ff ff
 |n+1,.obj _ _ _,h=>h.elim ff ff
 |n+1,.cY _,h=>h.elim ff ff
inductive wO(b:Bool):PyData->Prop where
 |none:wO b .none
 |str (x:Str):wO b (.str x)
 |bool (x:Bool) (h:b=true):wO b (.bool x)
 |int (x:Int) (h:b=false):wO b (.int x)
 |list {l:List PyData} (h:∀x∈l,wO b x):wO b (.list l)
 |tuple {l:List PyData} (h:∀x∈l,wO b x):wO b (.tuple l)
mutual
theorem lX{b:Bool}:∀d e:PyData,wO b d->wO b e->SeqAt.noMix d e=true
 |.list c,.list a,h,k=>by
  cases h with
  |list h=>
   cases k with
   |list k=>rw[SeqAt.noMix];exact ng c a h k
 |.tuple c,.tuple a,h,k=>by
  cases h with
  |tuple h=>
   cases k with
   |tuple k=>rw[SeqAt.noMix];exact ng c a h k
 |.bool _,.int _,h,k=>by
  cases h with
  |bool _ h=>
   cases k with
   |int _ k=>rw[h]at k;cases k
 |.int _,.bool _,h,k=>by
  cases h with
  |int _ h=>
   cases k with
   |bool _ k=>rw[h]at k;exact ff k
 |.dict _,_,h,_=>by cases h
 |.none,.none,_,_=>by simp[SeqAt.noMix]
 |.none,.bool _,_,_=>by simp[SeqAt.noMix]
 |.none,.int _,_,_=>by simp[SeqAt.noMix]
 |.none,.str _,_,_=>by simp[SeqAt.noMix]
 |.none,.list _,_,_=>by simp[SeqAt.noMix]
 |.none,.tuple _,_,_=>by simp[SeqAt.noMix]
 |.none,.dict _,_,_=>by simp[SeqAt.noMix]
 |.bool _,.none,_,_=>by simp[SeqAt.noMix]
 |.bool _,.bool _,_,_=>by simp[SeqAt.noMix]
 |.bool _,.str _,_,_=>by simp[SeqAt.noMix]
 |.bool _,.list _,_,_=>by simp[SeqAt.noMix]
 |.bool _,.tuple _,_,_=>by simp[SeqAt.noMix]
 |.bool _,.dict _,_,_=>by simp[SeqAt.noMix]
 |.int _,.none,_,_=>by simp[SeqAt.noMix]
 |.int _,.int _,_,_=>by simp[SeqAt.noMix]
 |.int _,.str _,_,_=>by simp[SeqAt.noMix]
 |.int _,.list _,_,_=>by simp[SeqAt.noMix]
 |.int _,.tuple _,_,_=>by simp[SeqAt.noMix]
 |.int _,.dict _,_,_=>by simp[SeqAt.noMix]
 |.str _,.none,_,_=>by simp[SeqAt.noMix]
 |.str _,.bool _,_,_=>by simp[SeqAt.noMix]
 |.str _,.int _,_,_=>by simp[SeqAt.noMix]
 |.str _,.str _,_,_=>by simp[SeqAt.noMix]
 |.str _,.list _,_,_=>by simp[SeqAt.noMix]
 |.str _,.tuple _,_,_=>by simp[SeqAt.noMix]
 |.str _,.dict _,_,_=>by simp[SeqAt.noMix]
 |.list _,.none,_,_=>by simp[SeqAt.noMix]
 |.list _,.bool _,_,_=>by simp[SeqAt.noMix]
 |.list _,.int _,_,_=>by simp[SeqAt.noMix]
 |.list _,.str _,_,_=>by simp[SeqAt.noMix]
 |.list _,.tuple _,_,_=>by simp[SeqAt.noMix]
 |.list _,.dict _,_,_=>by simp[SeqAt.noMix]
 |.tuple _,.none,_,_=>by simp[SeqAt.noMix]
 |.tuple _,.bool _,_,_=>by simp[SeqAt.noMix]
 |.tuple _,.int _,_,_=>by simp[SeqAt.noMix]
 |.tuple _,.str _,_,_=>by simp[SeqAt.noMix]
 |.tuple _,.list _,_,_=>by simp[SeqAt.noMix]
 |.tuple _,.dict _,_,_=>by simp[SeqAt.noMix]
theorem ng{b:Bool}:∀c a:List PyData,(∀x∈c,wO b x)->(∀y∈a,wO b y)->SeqAt.noMixAll c a=true
 |[],[],_,_=>by simp[SeqAt.noMixAll]
 |[],_::_,_,_=>by simp[SeqAt.noMixAll]
 |_::_,[],_,_=>by simp[SeqAt.noMixAll]
 |x::c,y::a,h,k=>by rw[SeqAt.noMixAll,lX x y (h x Bi) (k y Bi),ng c a (λz hz=>h z (BM _ hz)) λz hz=>k z (BM _ hz)];rfl
end
theorem ko:∀(n:Nat)(w:W),lI n w=true->wO false (toD w)
 |n,.aI,_=>.none
 |n,.int i,_=>.int i rfl
 |n,.str x,_=>.str x
 |n,.bl _,h=>by cases n<;>exact ff h
 |n+1,.lst l,h=>by dsimp only[toD];rw[toDL_map];exact .list λx a=>by obtain⟨w,b,rfl⟩:=KB.mp a;exact ko n w (HI.mp h w b)
 |n+1,.tup l,h=>by dsimp only[toD];rw[toDL_map];exact .tuple λx a=>by obtain⟨w,b,rfl⟩:=KB.mp a;exact ko n w (HI.mp h w b)
 |0,.lst l,h=>ff h
 |0,.tup l,h=>ff h
 |n,.ty _,h=>by cases n<;>exact ff h
 |n,.cls _,h=>by cases n<;>exact ff h
 |n,.fn _,h=>by cases n<;>exact ff h
 |n,.err _,h=>by cases n<;>exact ff h
 |n,.dct _ _,h=>by cases n<;>exact ff h
 |n,.obj _ _ _,h=>by cases n<;>exact ff h
 |n,.cY _,h=>by cases n<;>exact ff h
theorem qY:∀(n:Nat)(w:W),Ic n w=true->wO true (toD w)
 |n,.aI,_=>.none
 |n,.bl i,_=>.bool i rfl
 |n,.str x,_=>.str x
 |n,.int _,h=>by cases n<;>exact ff h
 |n+1,.lst l,h=>by dsimp only[toD];rw[toDL_map];exact .list λx a=>by obtain⟨w,b,rfl⟩:=KB.mp a;exact qY n w (HI.mp h w b)
 |n+1,.tup l,h=>by dsimp only[toD];rw[toDL_map];exact .tuple λx a=>by obtain⟨w,b,rfl⟩:=KB.mp a;exact qY n w (HI.mp h w b)
 |0,.lst l,h=>ff h
 |0,.tup l,h=>ff h
 |n,.ty _,h=>by cases n<;>exact ff h
 |n,.cls _,h=>by cases n<;>exact ff h
 |n,.fn _,h=>by cases n<;>exact ff h
 |n,.err _,h=>by cases n<;>exact ff h
 |n,.dct _ _,h=>by cases n<;>exact ff h
 |n,.obj _ _ _,h=>by cases n<;>exact ff h
 |n,.cY _,h=>by cases n<;>exact ff h
section
variable{X:Cx}
theorem qZ(E:X.A.units+64<cLine)(j:Bool){a:List (Addr×Obj)}{s:Shared}{i:St}{H:Hp}{B:Addr->Prop}{x y:W}{m l:V}{v u:Value}{P:KP}{Q:VK}(I:Inv X a i H s)(r:RelV m v)(p:RelV l u)(D:aT X.K B H x m)(C:aT X.K B H y l)
 (h:((lI 9 x=true/\lI 9 y=true)\/(Ic 9 x=true/\Ic 9 y=true)\/(lI 60 x=true/\lI 60 y=true))/\∀b:Bool,(b=true↔x=y)->P (.bl (if j then !b else b)))(c:Cont X.K B H .s P Q):
 wpAny (model X.prog X.w) X.A (compareOp (if j then .NotEq else .Eq) v u) (EP X a i Q) X.xe s:=by
 obtain⟨k,h⟩:=h;have g:uL x=true/\(toD x).depth<=61:=by
  rcases k with h|h|h
  .exact(tH 9 x (.inl h.1)).imp id λz=>GE z (by decide)
  .exact(tH 9 x (.inr h.1)).imp id λz=>GE z (by decide)
  .exact tH 60 x (.inl h.1)
 have f:uL y=true/\(toD y).depth<=61:=by
  rcases k with h|h|h
  .exact(tH 9 y (.inl h.2)).imp id λz=>GE z (by decide)
  .exact(tH 9 y (.inr h.2)).imp id λz=>GE z (by decide)
  .exact tH 60 y (.inl h.2)
 have o:SeqAt.shaped (toD x)=true:=by unfold SeqAt.shaped;rw[toD_lay x g.1,FC (GE g.2 (by decide))];rfl
 have n:SeqAt.shaped (toD y)=true:=by unfold SeqAt.shaped;rw[toD_lay y f.1,FC (GE f.2 (by decide))];rfl
 have t:SeqAt.noMix (toD x) (toD y)=true:=by
  rcases k with⟨e,d⟩|⟨e,d⟩|⟨e,d⟩
  .exact lX _ _ (ko 9 x e) (ko 9 y d)
  .exact lX _ _ (qY 9 x e) (qY 9 y d)
  .exact lX _ _ (ko 60 x e) (ko 60 y d)
 have q:=h (same (toD x) (toD y)) (toD_same x y g.1 f.1);cases j with
 |true=>exact Kd E a s i H _ _ v u Q I r p ⟨_,_,EH g.1 D,EH f.1 C,⟨o,n,t⟩,c.now q (qg _)⟩
 |false=>exact Kc E a s i H _ _ v u Q I r p ⟨_,_,EH g.1 D,EH f.1 C,⟨o,n,t⟩,c.now q (qg _)⟩
theorem Ih(p:X.A.units+64<cLine)(e:Bool):z4 X (compareOp (if e then .NotEq else .Eq)) (SG e) mS:=by
 intro f s r H B x y E D v u P Q I d l g n m h c;have sc:∀a b:V,JK a b=true->(∀k:Bool,k=decide (a=b)->Q (.bl (if e then !k else k)) H)->RelV a v->RelV b u->wpAny (model X.prog X.w) X.A (compareOp (if e then .NotEq else .Eq) v u) (EP X f r Q) X.xe s:=λa b C q z t=>by
  cases e with
  |true=>exact OL f s r H _ _ v u Q I z t ⟨C,q _ rfl⟩
  |false=>exact OJ f s r H _ _ v u Q I z t ⟨C,q _ rfl⟩
 cases x with
 |int i=>
  cases y with
  |int j=>
   cases n.int;cases m.int;refine sc _ _ rfl (λk o=>c.now (w:=.bl (if e then !k else k)) ?_ (qg _)) l g;rw[o,show decide (V.int i=V.int j)=decide (i=j)from by simp];exact h
  |_=>exact qZ p e I l g n m h c
 |str i=>
  cases y with
  |str j=>
   cases n.str;cases m.str;refine sc _ _ rfl (λk o=>c.now (w:=.bl (if e then !k else k)) ?_ (qg _)) l g;rw[o,show decide (V.str i=V.str j)=decide (i=j)from by simp];exact h
  |_=>exact qZ p e I l g n m h c
 |bl i=>
  cases y with
  |bl j=>
   cases n.bl;cases m.bl;refine sc _ _ rfl (λk o=>c.now (w:=.bl (if e then !k else k)) ?_ (qg _)) l g;rw[o,show decide (V.bl i=V.bl j)=decide (i=j)from by simp];exact h
  |_=>exact qZ p e I l g n m h c
 |_=>exact qZ p e I l g n m h c
theorem Ii(i:Bool):z4 X (compareOp (if i then .IsNot else .Is)) (SH i) mS:=by
 intro j s m H B x y n t v u P Q I d r o l C h c;have a:t=.aI->(∀k:Bool,k=decide (n=.aI)->P (.bl (if i then !k else k)))->wpAny (model X.prog X.w) X.A (compareOp (if i then .IsNot else .Is) v u) (EP X j m Q) X.xe s:=λe q=>by
  cases i with
  |true=>exact DR j s m H _ _ v u Q I r o ⟨e,c.now (q _ rfl) (qg _)⟩
  |false=>exact JL j s m H _ _ v u Q I r o ⟨e,c.now (q _ rfl) (qg _)⟩
 cases y with
 |aI=>
  have e:=C.aI;cases x with
  |aI=>have g:=l.aI;refine a e λk f=>?_;rw[f,g];cases i<;>exact h
  |bl b=>have g:=l.bl;refine a e λk f=>?_;rw[f,g];cases i<;>exact h
  |int b=>have g:=l.int;refine a e λk f=>?_;rw[f,g];cases i<;>exact h
  |str b=>have g:=l.str;refine a e λk f=>?_;rw[f,g];cases i<;>exact h
  |lst b=>obtain⟨p,z,g,_⟩:=l.lst;refine a e λk f=>?_;rw[f,g];cases i<;>exact h
  |tup b=>obtain⟨p,z,g,_⟩:=l.tup;refine a e λk f=>?_;rw[f,g];cases i<;>exact h
  |err b=>have l:Rep X.K B H (.err b) n:=l;obtain⟨p,g,_⟩:=l;refine a e λk f=>?_;rw[f,g];cases i<;>exact h
  |_=>exact h.elim
 |_=>
  exfalso
  cases x<;>exact h
theorem tK{K:Frag}{A:Addr->Prop}{H:Hp}:∀{l:List Int}{vs:List V},af K A H (l.map W.int) vs->vs=l.map V.int
 |[],_,h=>h.nil_inv
 |i::l,vs,h=>by obtain⟨x,r,rfl,b,a⟩:=h.cons_inv;rw[tK a];have:x=.int i:=b;rw[this];rfl
theorem wQ{X:Cx}{b:List (Addr×Obj)}{i:St}{H:Hp}{s:Shared}{B:Addr->Prop}{a:Int}{f:List Int}{v:V}(I:Inv X b i H s)(h:Rep X.K B H (.tup [.int a,.lst (f.map W.int)]) v):
 ∃p t q items,v=.ref p/\IsTup s.heap p #[.int a t,.ref q]/\s.heap.IsList q items/\IntsAre items.toList f:=by
 obtain⟨p,F,rfl,A,d⟩:=h;obtain⟨x,l,rfl,e,d⟩:=d.cons_inv;obtain⟨y,l,rfl,w,d⟩:=d.cons_inv;obtain rfl:=d.nil_inv;have e:x=.int a:=e;subst e;obtain⟨q,J,rfl,_,g,z⟩:=w;rw[tK z]at g;obtain⟨u,r,j,_⟩:=I.tuple (.inl (.inl A));obtain⟨c,n,⟨o2,o,C,E,_,D⟩,_⟩:=I.list (.inl g.rd);cases r with
 |cons m r=>
 cases r with
 |cons k r=>
 cases r;obtain⟨t,rfl⟩:=m;cases k;exact⟨p,t,q,c.toArray,rfl,j,⟨o2,C,E,o,D⟩,intsAre_of n⟩
theorem Ks{X:Cx}(hu:X.A.units+64<cLine):z4 X (compareOp .Lt) Pr mS:=by
 rintro z s U H B x y L J v u P Q I d N M R O ⟨a,b,j,g,rfl,rfl,h⟩ c;obtain⟨p,t,q,items,rfl,T,D,i1⟩:=wQ I (show Rep X.K B H (.tup [.int a,.lst (j.map W.int)]) L from R);obtain⟨Z,r,Y,l,rfl,S,C,F⟩:=wQ I (show Rep X.K B H (.tup [.int b,.lst (g.map W.int)]) J from O);cases N;cases M;have o:X.A.in1.units<cLine:=by show X.A.units+1<_;omega
 refine HT.Bp (c:=if a=b then HT.lexLt j g else decide (a<b)) T S ?_ (by omega) ⟨.bl (if a=b then HT.lexLt j g else decide (a<b)),H,I,rfl,c.now h (qg _)⟩;by_cases e:a=b
 .rw[Do e];have k:=U2 (A:=X.A.in1) (s:=s) a t b r;rw[show(a==b)=true by simpa using e]at k;refine .eq k ?_;have m:=Bo D C i1 F o;by_cases f:j=g
  .rw[FC f]at m;have:HT.lexLt j g=false:=by rw[f];exact m8 g
   rw[this];exact .eq m .nn
  .rw[FM f]at m;exact .ne m λi w E Q n=>HT.vq D C i1 F o n
 .rw[Bn e];have k:=U2 (A:=X.A.in1) (s:=s) a t b r;rw[show(a==b)=false by simpa using e]at k;exact .ne k λi w E Q n=>HT.sM _ _ _ _ _ _ _ _ _ _ n
theorem PC(q:X.A.units+64<cLine):z4 X (compareOp .Lt) UR mS:=by
 intro e s f H B x y k g v u P Q I d m l o n h c;cases x with
 |int i=>
  cases y with
  |int j=>exact qW (p:=λi j=>decide (i<j)) OM e s f H B (.int i) (.int j) k g v u P Q I d m l o n h c
  |_=>exact h.elim
 |tup a=>
  cases y with
  |tup b=>exact Ks q e s f H B (.tup a) (.tup b) k g v u P Q I d m l o n h c
  |_=>exact h.elim
 |_=>exact h.elim
theorem nh{K:Frag}{A:Addr->Prop}{H:Hp}:∀{l:List Str}{vs:List V},af K A H (l.map W.str) vs->vs=l.map V.str
 |[],_,h=>h.nil_inv
 |i::l,vs,h=>by obtain⟨x,r,rfl,b,a⟩:=h.cons_inv;rw[nh a];have:x=.str i:=b;rw[this];rfl
theorem ri(i:Str):∀l:List Str,Q8 (.str i) (l.map V.str)=decide (i∈l)
 |[]=>rfl
 |x::l=>by
  have ih:=ri i l;unfold Q8 at ih⊢;rw[Ha,IJ,ih];show((x==i)||_)=_;by_cases e:x=i
  .rw[Iy.mpr e,FC (show i∈x::l by rw[e];exact Bi)];rfl
  .rw[PP.mpr e,UE];exact UV.mpr ⟨BM _,λz=>(Ee.mp z).resolve_left λq=>e q.symm⟩
theorem ni:∀l:List Str,(l.map V.str).all jx=true
 |[]=>rfl
 |x::l=>ni l
theorem PD:z4 X (compareOp .In) US mS:=by
 intro a s b H B x y z w v u P Q I d k g t m h c;cases x with
 |str i=>
  cases t.str;cases y with
  |str j=>
   cases m.str;obtain⟨n,rfl,h⟩:=h;refine yq a s b H _ _ v u Q I k g ⟨_,j,rfl,rfl,?_⟩;rw[show tx [n]=⟨#[n]⟩from rfl,PySem.StrLaws.found_one];exact c.now h (qg _)
  |lst l=>obtain⟨f,rfl,h⟩:=h;obtain⟨p,r,rfl,q,o⟩:=m.lst;have e:=nh o;subst e;refine p8 a s b H _ _ v u Q I k g ⟨p,_,rfl,.inl (.inl q.rd),rfl,ni f,?_⟩;rw[ri];exact c.now h (qg _)
  |tup l=>obtain⟨f,rfl,h⟩:=h;obtain⟨p,r,rfl,q,o⟩:=m.tup;have e:=nh o;subst e;refine p8 a s b H _ _ v u Q I k g ⟨p,_,rfl,.inr q,rfl,ni f,?_⟩;rw[ri];exact c.now h (qg _)
  |_=>exact h.elim
 |_=>exact h.elim
theorem rj(a:X.A.units+64<cLine)(op:CmpOp):z4 X (compareOp op) (dM op) mS:=by
 cases op with
 |Eq=>exact Ih a false
 |NotEq=>exact Ih a true
 |Lt=>exact PC a
 |LtE=>exact qW ON
 |Gt=>exact qW OO
 |GtE=>exact qW OP
 |Is=>exact Ii false
 |IsNot=>exact Ii true
 |In=>exact PD
 |_=>exact λb s e H B x y g f v u P Q I d j i l k h c=>h.elim
end
noncomputable def ER(X:Cx)(b:Hp)(R:Addr->Prop):Prop:=∃E:XK,Passes (iL X.prog X.w) X E/\(∀C a,R C->ao b a->E (.ref C) none a)/\A6 X (λC a=>R C/\ao b a)
theorem yY{X:Cx}:Passes (iL X.prog X.w) X E0:=λ_ _ _ _ _ _ _ h=>by obtain⟨_,_,_,_,_,q⟩:=h;exact q.elim
theorem ER.none{X:Cx}{a:Hp}:ER X a λ_=>False:=⟨E0,yY,λ_ _ z=>z.elim,λ_ _ _ _ _ _ _ _ _ _ z=>z.1.elim⟩
abbrev RL:=(Addr->Prop)->Hp->Hp->W->V->Prop
abbrev WT:=Ev->(W->Prop)->Prop
noncomputable def Ku(K:Frag)(m:Md):RL:=λB H a w v=>cI K B H a m w v
noncomputable def UT(K:Frag):RL:=λB _ a w v=>aT K B a w v
noncomputable def tV(X:Cx)(M:Ms)(R:Addr->Prop)(e:RL)(t:WT):TE:=λb H Q=>∃A d c P,SR X.K M A d b H c/\ER X d R/\t c P/\∀w v a,P w->ao H a->e (FB A M b) H a w v->Q v a
noncomputable def UU(X:Cx)(M:Ms)(R:Addr->Prop)(t:WT):TT:=λe H Q=>∃A c a P,SR X.K M A c e H a/\ER X c R/\t a P/\∀x d,P x->ao H d->∃b,x=.bl b/\Q b d
abbrev SI:=(Addr->Prop)->Hp->List W->List V->Prop
noncomputable def UW(X:Cx)(M:Ms)(R:Addr->Prop)(g:SI)(t:Ev->(List W->Prop)->Prop):TA:=λb H Q=>∃A f c P,SR X.K M A f b H c/\ER X f R/\t c P/\∀d e a,P d->ao H a->g (FB A M b) a d e->Q e a
abbrev VE(X:Cx)(M:Ms)(R:Addr->Prop)(m:Md)(e:Expr)(t:WT):Prop:=PE X e (tV X M R (Ku X.K m) t)
abbrev VB(X:Cx)(M:Ms)(R:Addr->Prop)(e:Expr)(t:WT):Prop:=PE X e (tV X M R (UT X.K) t)
abbrev VT(X:Cx)(M:Ms)(R:Addr->Prop)(e:Expr)(t:WT):Prop:=PT X e (UU X M R t)
noncomputable def kT(K:Frag)(B:Addr->Prop)(H:Hp):List W->List V->Prop
 |[],vs=>vs=[]
 |w::a,vs=>∃v r,vs=v::r/\aT K B H w v/\kT K B H a r
noncomputable def Wy(K:Frag):SI:=λB H a b=>af K B H a b
noncomputable def SJ(K:Frag):SI:=λB H a b=>kT K B H a b
abbrev VA(X:Cx)(M:Ms)(R:Addr->Prop)(es:List Expr)(t:Ev->(List W->Prop)->Prop):Prop:=PA X es (UW X M R (Wy X.K) t)
abbrev NS(X:Cx)(M:Ms)(R:Addr->Prop)(es:List Expr)(t:Ev->(List W->Prop)->Prop):Prop:=PA X es (UW X M R (SJ X.K) t)
theorem PE.imp{X:Cx}{e:Expr}{t t':TE}(h:PE X e t)(k:∀a H Q,t' a H Q->t a H Q):PE X e t':=λb s a H Q I w=>h b s a H Q I (k a H Q w)
theorem PT.imp{X:Cx}{e:Expr}{t t':TT}(h:PT X e t)(k:∀a H Q,t' a H Q->t a H Q):PT X e t':=λb s a H Q I w=>h b s a H Q I (k a H Q w)
theorem PW.imp{X:Cx}{e:Expr}{t t':TT}(h:PW X e t)(k:∀a H Q,t' a H Q->t a H Q):PW X e t':=λc b s a H Q I w=>h c b s a H Q I (k a H Q w)
theorem PA.imp{X:Cx}{e:List Expr}{t t':TA}(h:PA X e t)(k:∀a H Q,t' a H Q->t a H Q):PA X e t':=λc b s a H Q I w=>h c b s a H Q I (k a H Q w)
section
variable{X:Cx}{M:Ms}{R:Addr->Prop}{e a b c:Expr}{t ta tb tc:WT}{m:Md}{pos:Pos}
theorem Bw(h:VE X M R m e t):VE X M R .s e t:=PE.imp h<|by rintro l H Q ⟨A,i,d,P,S,g,p,k⟩;exact⟨A,i,d,P,S,g,p,λw v j f s r=>k w v j f s (r.s S.dom)⟩
theorem PJ(h:VE X M R m e t):VB X M R e t:=PE.imp h<|by rintro l H Q ⟨A,i,d,P,S,g,p,k⟩;exact⟨A,i,d,P,S,g,p,λw v j f s r=>k w v j f s (r.rep S.dom).b⟩
theorem Bx{i:Nat}(h:PE X e (gG i))(r:aJ M i->(i,.f)∈M):VB X M R e (λd Q=>match look d i with|some w=>Q w|none=>False):=PE.imp h<|by
 rintro x H Q ⟨A,B,d,P,S,z,p,k⟩
 revert p
 cases l:look d i with
 |none=>exact λp=>p.elim
 |some w=>
  intro p;by_cases n:aJ M i
  .obtain⟨F,O⟩:=S.ow;obtain⟨v,j,g⟩:=O.val i .f w (r n) l;obtain⟨y,q,o,rfl,rfl,_,u,s⟩:=g;exact⟨_,j,k _ _ H p (ao.refl H) ⟨q,o,rfl,.inl u,s⟩⟩
  .obtain⟨v,j,g⟩:=S.sh i w n l;exact⟨v,j,k _ _ H p (ao.refl H) g.b⟩
theorem Kv{i:Nat}(h:PE X e (gG i))(g:¬aJ M i):VE X M R .s e (λd Q=>match look d i with|some w=>Q w|none=>False):=PE.imp h<|by
 rintro n H Q ⟨A,q,d,P,S,o,p,k⟩
 revert p
 cases f:look d i with
 |none=>exact λp=>p.elim
 |some w=>intro p;obtain⟨v,l,j⟩:=S.sh i w g f;exact⟨v,l,k _ _ H p (ao.refl H) (.of j)⟩
noncomputable def kq(K:Frag)(i:Nat)(π:List ir):TE:=λd H Q=>∃v u,d[i]?=some (some v)/\sq K H v π u/\Q u H
theorem By{i:Nat}{π:List ir}{m h:Md}{K:Frag}{A:Fz}{s H:Hp}{f:St}{g:Ev}{w u:W}(S:SR K M A s f H g)(l:(i,m)∈M)(k:gC m π=some h)(n:look g i=some w)(j:bD w π=some u):
 ∃v d F,f[i]?=some (some v)/\sq K H v π d/\Fp K A.B H h u d F:=by
 obtain⟨F,O⟩:=S.ow;obtain⟨v,p,o⟩:=O.val i m w l n;obtain⟨d,z,x,y,_,r,q,_⟩:=Fp.path π m o k j;exact⟨v,d,x,p,r,q⟩
theorem tL{d:Ev}{i:Nat}{π:List ir}{Q:W->Prop}(h:match look d i with|some w=>(match bD w π with|some u=>Q u|none=>False)|none=>False):∃w u,look d i=some w/\bD w π=some u/\Q u:=by
 cases g:look d i with
 |none=>rw[g]at h;exact h.elim
 |some w=>
  rw[g]at h;dsimp only at h;cases f:bD w π with
  |none=>rw[f]at h;exact h.elim
  |some u=>rw[f]at h;exact⟨w,u,rfl,f,h⟩
theorem Kw{i:Nat}{π:List ir}{j:Md}(h:PE X e (kq X.K i π))(r:(i,j)∈M)(o:gC j π=some .f):VB X M R e (λg Q=>match look g i with|some w=>(match bD w π with|some u=>Q u|none=>False)|none=>False):=PE.imp h<|by rintro C H Q ⟨A,J,g,P,S,I,p,k⟩;obtain⟨w,u,B,z,q⟩:=tL p;obtain⟨v,E,F,y,x,d⟩:=By S r o B z;obtain⟨D,n,l,rfl,rfl,_,d,s⟩:=d;exact⟨v,_,y,x,k _ _ H q (ao.refl H) ⟨n,l,rfl,.inl d,s⟩⟩
theorem Ky{i:Nat}{π:List ir}{f:Md}(h:PE X e (kq X.K i π))(n:(i,f)∈M)(l:gC f π=some .s):VE X M R .s e (λd Q=>match look d i with|some w=>(match bD w π with|some u=>Q u|none=>False)|none=>False):=PE.imp h<|by rintro z H Q ⟨A,C,d,P,S,B,p,k⟩;obtain⟨w,u,y,x,q⟩:=tL p;obtain⟨v,j,F,r,o,g⟩:=By S n l y x;dsimp only[Fp]at g;exact⟨v,j,r,o,k _ _ H q (ao.refl H) (.of g.2)⟩
theorem yZ{v:V}{w:W}(h:PE X e (tC v))(d:∀B H,Rep X.K B H w v):VE X M R .s e (λ_ Q=>Q w):=PE.imp h<|by rintro f H Q ⟨A,j,g,P,S,i,p,k⟩;exact k _ _ H p (ao.refl H) (.of (d _ _))
theorem BA{op:Operator}(U:VB X M R a ta)(T:VB X M R b tb)(O:∀x y,EG op x y=m\/m=.s):VE X M R m (.BinOp a op b pos) (λi Q=>ta i λx=>tb i λy=>eV op x y Q):=by
 rintro j s g H Q I ⟨A,D,i,P,S,C,p,k⟩;refine wpAny_BinOp (bin U T I (R:=λn l f=>∃x y,eV op x y P/\ao H f/\aT X.K (FB A M g) f x n/\aT X.K (FB A M g) f y l) ⟨A,D,i,_,S,C,p,λx n H1 q B J=>⟨A,D,i,_,S.same B,C,q,λy l f o s2 F=>⟨x,y,o,B.trans s2,aT.same s2 J,F⟩⟩⟩ ?_);rintro v u s2 n l f Y rv L ⟨x,y,h,sm,q,o⟩;have d:=(S.same sm).dom;refine vt op j s2 g f (FB A M g) x y n l v u P Q Y d rv L q o h ?_;have c:Cont X.K (FB A M g) f m P Q:=λw z Z N E r=>k w z Z N (sm.trans E) (r.back sm λ_ z=>z);rcases O x y with e|e
 .rw[e];exact c
 .subst e;exact Cont.s d c
end
theorem aQ{x:W}{Q:Bool->Prop}(h:truth x Q):∃b,x=.bl b/\Q b:=by
 cases x with
 |bl b=>exact⟨b,rfl,h⟩
 |_=>exact h.elim
theorem Rep.iU{K:Frag}{B:Addr->Prop}{H:Hp}{b:Bool}{v:V}(h:Rep K B H (.bl b) v):v=.bl b:=by dsimp only[Rep]at h;exact h
theorem Rep.int_inv{K:Frag}{B:Addr->Prop}{H:Hp}{b:Int}{v:V}(h:Rep K B H (.int b) v):v=.int b:=by dsimp only[Rep]at h;exact h
theorem cI.aO{K:Frag}{B:Addr->Prop}{H H':Hp}{w:W}{v:V}(h:cI K B H H' .s w v):Rep K B H' w v:=by obtain⟨F,_,_,h⟩:=h;obtain⟨rfl,h⟩:=h;exact h.less λp z=>.inl z
section
variable{X:Cx}{M:Ms}{R:Addr->Prop}{e a b c:Expr}{t ta tb tc:WT}{m:Md}{pos:Pos}{rest es:List Expr}
noncomputable def Kz:W->Bool
 |.lst _=>true
 |_=>false
theorem KA{op:Operator}{x y:W}{P:W->Prop}(h:eV op x y P)(d:(op=.Add/\(Kz x=true\/Kz y=true))\/(op=.Mult/\Kz x=true)):EG op x y=.f:=by
 rcases d with⟨rfl,d⟩|⟨rfl,d⟩
 .cases x with
  |lst l=>rfl
  |_=>
   rcases d with d|d
   .cases d
   .cases y<;>first|exact h.elim|exact ff d
 .cases x<;>first|rfl|exact ff d
theorem vv{op:Operator}{F E:RL}(ha:PE X a (tV X M R F ta))(hb:PE X b (tV X M R E tb))(h1:∀B H H' w v,Dom B H->F B H H' w v->aT X.K B H' w v)(h2:∀B H H' w v,Dom B H->E B H H' w v->aT X.K B H' w v)
 (ho:∀B H H' w v B2 g Wz J U,F B H H' w v->E B2 g Wz J U->(op=.Add/\(Kz w=true\/Kz J=true))\/(op=.Mult/\Kz w=true)):VE X M R .f (.BinOp a op b pos) (λi Q=>ta i λx=>tb i λy=>eV op x y Q):=by
 rintro j s l H Q I ⟨A,T,i,P,S,O,p,k⟩;refine wpAny_BinOp (bin ha hb I (R:=λo n g=>∃x y,eV op x y P/\ao H g/\aT X.K (FB A M l) g x o/\aT X.K (FB A M l) g y n/\EG op x y=.f) ⟨A,T,i,_,S,O,p,λx o H1 D C N=>⟨A,T,i,_,S.same C,O,D,λy n g q s2 L=>⟨x,y,q,C.trans s2,aT.same s2 (h1 _ _ _ _ _ S.dom N),h2 _ _ _ _ _ (S.same C).dom L,KA q (ho _ _ _ _ _ _ _ _ _ _ N L)⟩⟩⟩ ?_);rintro v u s2 o n g I2 rv Z ⟨x,y,h,sm,D,q,em⟩;have d:=(S.same sm).dom;refine vt op j s2 l g (FB A M l) x y o n v u P Q I2 d rv Z D q h ?_;rw[em];exact λw z H' pw Y r=>k w z H' pw (sm.trans Y) (r.back sm λ_ z=>z)
theorem KC(j:VE X M R .s a ta):VE X M R .s (.UnaryOp .USub a pos) (λd Q=>ta d λx=>match x with|.int i=>Q (.int (-i))|_=>False):=PE.imp (OG JJ j)<|by
 rintro q H Q ⟨A,o,d,P,S,l,p,k⟩;refine⟨A,o,d,_,S,l,p,λx r n f g h=>?_⟩;cases x with
 |int i=>exact⟨i,h.aO.int_inv,k _ _ n f g (.of (dN _))⟩
 |_=>exact f.elim
theorem KD(i:VE X M R .s a ta):VE X M R .s (.UnaryOp .Not a pos) (λd Q=>ta d λx=>truth x λb=>Q (.bl (!b))):=PE.imp (Ju i)<|by rintro o H Q ⟨A,n,d,P,S,j,p,k⟩;refine⟨A,n,d,_,S,j,p,λx q l f g h=>?_⟩;obtain⟨b,rfl,f⟩:=aQ f;exact⟨b,h.aO.iU,k _ _ l f g (.of (qg _))⟩
theorem KG{op:CmpOp}(N:X.A.units+64<cLine)(O:behindInMarks op b=false)(U:VB X M R a ta)(T:VB X M R b tb):VE X M R .s (.Compare a [op] [b] pos) (λf Q=>ta f λx=>tb f λy=>dM op x y Q):=by rintro g s i H Q I ⟨A,C,f,P,S,B,p,k⟩;refine wpAny_Compare1 (bin U T I (R:=λl j d=>∃x y,dM op x y P/\ao H d/\aT X.K (FB A M i) d x l/\aT X.K (FB A M i) d y j) ⟨A,C,f,_,S,B,p,λx l H1 o q F=>⟨A,C,f,_,S.same q,B,o,λy j d n s2 E=>⟨x,y,n,q.trans s2,aT.same s2 F,E⟩⟩⟩ ?_) O;rintro v u s2 l j d Y rv J ⟨x,y,h,sm,o,n⟩;exact rj N op g s2 i d (FB A M i) x y l j v u P Q Y (S.same sm).dom rv J o n h λw z Z L D r=>k w z Z L (sm.trans D) (r.back sm λ_ z=>z)
theorem KH{op:CmpOp}(hu:X.A.units+64<cLine)(hm:behindInMarks op b=false)(ha:VB X M R a ta)(hb:VB X M R b tb):VT X M R (.Compare a [op] [b] pos) (λj Q=>ta j λx=>tb j λy=>dM op x y Q):=by
 rintro d s i H Q I ⟨A,F,j,P,S,E,p,k⟩;have q:=bin ha hb I (R:=λn l g=>∃x y,dM op x y P/\ao H g/\aT X.K (FB A M i) g x n/\aT X.K (FB A M i) g y l) ⟨A,F,j,_,S,E,p,λx n H1 C o N=>⟨A,F,j,_,S.same o,E,C,λy l g B s2 L=>⟨x,y,B,o.trans s2,aT.same s2 N,L⟩⟩⟩
  (f:=compareOp op) (Q:=EP X d i λz D=>∃b,z=.bl b/\Q b D)<|by rintro v u s2 n l g I2 rv O ⟨x,y,h,sm,C,B⟩;refine rj hu op d s2 i g (FB A M i) x y n l v u _ _ I2 (S.same sm).dom rv O C B h λw z D pw J r=>?_;obtain⟨b,rfl,q⟩:=k w D pw (sm.trans J);exact⟨b,r.aO.iU,q⟩
 refine wpAny_isTrue_Compare1 (bq q λv o Z=>bq Z λu s2 Y=>bq Y λc s3 ⟨z,H3,I3,T,b,ez,U⟩=>?_) hm;subst ez;cases T;exact Q1 ⟨H3,I3,U⟩
theorem KI(r:VE X M R .s a ta)(p:VE X M R .s (.BoolOp .And (b::rest) pos) tb):VE X M R .s (.BoolOp .And (a::b::rest) pos) (λd Q=>ta d λx=>truth x λk=>if k=true then tb d Q else Q (.bl false)):=
 PE.imp (Jt r p)<|by
  rintro w H Q ⟨A,j,d,P,S,i,h,k⟩;refine⟨A,j,d,_,S,i,h,λx C v g f n=>?_⟩;obtain⟨q,rfl,g⟩:=aQ g;refine⟨q,n.aO.iU,?_⟩;cases q with
  |true=>exact⟨A,j,d,_,S.same f,i,g,λy B u o s2 l=>k _ _ u o (f.trans s2) (l.back f λ_ z=>z)⟩
  |false=>exact k _ _ v g f (.of (qg _))
theorem PK(r:VE X M R .s a ta)(p:VE X M R .s (.BoolOp .Or (b::rest) pos) tb):VE X M R .s (.BoolOp .Or (a::b::rest) pos) (λd Q=>ta d λx=>truth x λk=>if k=true then Q (.bl true)else tb d Q):=
 PE.imp (Ot r p)<|by
  rintro w H Q ⟨A,j,d,P,S,i,h,k⟩;refine⟨A,j,d,_,S,i,h,λx C v g f n=>?_⟩;obtain⟨q,rfl,g⟩:=aQ g;refine⟨q,n.aO.iU,?_⟩;cases q with
  |false=>exact⟨A,j,d,_,S.same f,i,g,λy B u o s2 l=>k _ _ u o (f.trans s2) (l.back f λ_ z=>z)⟩
  |true=>exact k _ _ v g f (.of (qg _))
abbrev Ij(X:Cx)(M:Ms)(R:Addr->Prop)(e:Expr)(t:WT):Prop:=PW X e (UU X M R t)
theorem EI(d:VT X M R a ta):Ij X M R (.BoolOp .And [a] pos) ta:=wg d
theorem KJ(d:VT X M R a ta):Ij X M R (.BoolOp .Or [a] pos) ta:=Au d
theorem KL(o:VT X M R a ta)(n:Ij X M R (.BoolOp .And (b::rest) pos) tb):Ij X M R (.BoolOp .And (a::b::rest) pos) (λd Q=>ta d λx=>truth x λk=>if k=true then tb d Q else Q (.bl false)):=
 PW.imp (Av o n)<|by
  rintro s H Q ⟨A,j,d,P,S,i,h,k⟩;refine⟨A,j,d,_,S,i,h,λx r f g=>?_⟩;obtain⟨q,rfl,f⟩:=aQ f;refine⟨q,rfl,?_⟩;cases q with
  |true=>exact⟨A,j,d,P,S.same g,i,f,λy p l s2=>k _ p l (g.trans s2)⟩
  |false=>obtain⟨b,e,q⟩:=k _ r f g;cases e;exact q
theorem PL(o:VT X M R a ta)(n:Ij X M R (.BoolOp .Or (b::rest) pos) tb):Ij X M R (.BoolOp .Or (a::b::rest) pos) (λd Q=>ta d λx=>truth x λk=>if k=true then Q (.bl true)else tb d Q):=
 PW.imp (HM o n)<|by
  rintro s H Q ⟨A,j,d,P,S,i,h,k⟩;refine⟨A,j,d,_,S,i,h,λx r f g=>?_⟩;obtain⟨q,rfl,f⟩:=aQ f;refine⟨q,rfl,?_⟩;cases q with
  |false=>exact⟨A,j,d,P,S.same g,i,f,λy p l s2=>k _ p l (g.trans s2)⟩
  |true=>obtain⟨b,e,q⟩:=k _ r f g;cases e;exact q
theorem KN(i:VT X M R a ta):VT X M R (.UnaryOp .Not a pos) (λd Q=>ta d λx=>truth x λb=>Q (.bl (!b))):=PT.imp (Aw i)<|by rintro o H Q ⟨A,n,d,P,S,j,h,k⟩;refine⟨A,n,d,_,S,j,h,λx l f g=>?_⟩;obtain⟨q,rfl,f⟩:=aQ f;obtain⟨b,e,z⟩:=k _ l f g;cases e;exact⟨q,rfl,z⟩
theorem vA(he:∀d,isTrue e X.env d=(do let v<-d;standAt e.pos;holding [v] (truthy v)))(h:VE X M R .s e t):VT X M R e t:=PT.imp (As h he)<|by rintro p H Q ⟨A,o,f,P,S,l,h,k⟩;refine⟨A,o,f,P,S,l,h,λx q n j g i=>?_⟩;obtain⟨b,rfl,z⟩:=k _ n j g;exact⟨b,i.aO.iU,z⟩
theorem BB(r:VT X M R c tc)(u:VE X M R m a ta)(s:VE X M R m b tb):VE X M R m (.IfExp c a b pos) (λd Q=>tc d λx=>truth x λk=>if k=true then ta d Q else tb d Q):=PE.imp (Ay r u s)<|by
 rintro v H Q ⟨A,o,d,P,S,l,h,k⟩;refine⟨A,o,d,_,S,l,h,λx w g f=>?_⟩;obtain⟨q,rfl,g⟩:=aQ g;refine⟨q,rfl,?_⟩;cases q with
 |true=>exact⟨A,o,d,_,S.same f,l,g,λy p n j s2 i=>k _ _ n j (f.trans s2) (i.back f λ_ z=>z)⟩
 |false=>exact⟨A,o,d,_,S.same f,l,g,λy p n j s2 i=>k _ _ n j (f.trans s2) (i.back f λ_ z=>z)⟩
theorem KO:VA X M R [] (λ_ Q=>Q []):=PA.imp bZ<|by rintro d H Q ⟨A,i,f,P,S,g,h,k⟩;exact k [] [] H h (ao.refl H) .nil
theorem EJ{i:Ev->(List W->Prop)->Prop}(r:starEach (a::es) X.env=(false,eval a X.env)::starEach es X.env)(v:VE X M R .s a ta)(u:VA X M R es i):VA X M R (a::es) (λd Q=>ta d λx=>i d λg=>Q (x::g)):=
 PA.imp (aR v u r)<|by rintro y H Q ⟨A,n,d,P,S,l,h,k⟩;refine⟨A,n,d,_,S,l,h,λx z C q j o=>⟨A,n,d,_,S.same j,l,q,λg B w f s2 p=>?_⟩⟩;exact k _ _ w f (j.trans s2) (.cons (o.aO.same s2) p)
theorem EK:NS X M R [] (λ_ Q=>Q []):=PA.imp bZ<|by rintro d H Q ⟨A,i,f,P,S,g,h,k⟩;exact k [] [] H h (ao.refl H) rfl
theorem BC{i:Ev->(List W->Prop)->Prop}(u:starEach (a::es) X.env=(false,eval a X.env)::starEach es X.env)(w:VB X M R a ta)(v:NS X M R es i):NS X M R (a::es) (λd Q=>ta d λx=>i d λg=>Q (x::g)):=
 PA.imp (aR w v u)<|by rintro z H Q ⟨A,n,d,P,S,l,h,k⟩;refine⟨A,n,d,_,S,l,h,λx o B s j q=>⟨A,n,d,_,S.same j,l,s,λg p y f s2 r=>?_⟩⟩;exact k _ _ y f (j.trans s2) ⟨o,p,rfl,aT.same s2 q,r⟩
theorem KQ{i:Ev->(List W->Prop)->Prop}(h:VA X M R es i):VE X M R .f (.List es pos) (λd Q=>i d λg=>g.length<=sizeLine/\Q (.lst g)):=PE.imp (u0 h)<|by rintro s H Q ⟨A,r,d,P,S,q,h,k⟩;refine⟨A,r,d,_,S,q,h,λg u v n j l=>?_⟩;refine⟨by rw[af.len l];exact n.1,λp o=>?_⟩;exact k _ _ _ n.2 (j.trans (aG o _)) (.fresh j o l)
theorem KR{g:Ev->(List W->Prop)->Prop}{n:Nat}(h:VA X M R es g):VE X M R .s (.Tuple es n pos) (λd Q=>g d λf=>f.length<=sizeLine/\Q (.tup f)):=PE.imp (uZ h)<|by rintro u H Q ⟨A,r,d,P,S,q,h,k⟩;refine⟨A,r,d,_,S,q,h,λf v w j o i=>?_⟩;refine⟨by rw[af.len i];exact j.1,λp l=>?_⟩;exact k _ _ _ j.2 (o.trans (aG l _)) (.of (qV aA (af.same (aG l _) i)))
theorem wR{K:Frag}{B:Addr->Prop}{H:Hp}{l:List W}{vs:List V}{i:Int}{w:W}(h:af K B H l vs)(e:ig l i=some w):∃v,ig vs i=some v/\Rep K B H w v:=by
 unfold ig at e⊢;rw[h.len];cases d:AO l.length i with
 |none=>rw[d]at e;exact nn e
 |some j=>rw[d]at e;exact h.get e
theorem aT.cY{K:Frag}{B:Addr->Prop}{H:Hp}{d:List Int}{v:V}(h:aT K B H (.cY d) v):∃p,v=.ref p/\iP K H p (d.map V.int):=by
 have h:Rep K B H (.cY d) v:=h;obtain⟨p,e,h⟩:=h;refine⟨p,e,?_⟩;rcases h with⟨o,h⟩|h
 .exact .inl (.inr ⟨o,h⟩)
 .rcases h with(h|⟨o,h⟩)|h
  .cases h
  .cases h
  .exact .inr h
theorem wU{d:List Int}{i n:Int}(e:ig d i=some n):ig (d.map V.int) i=some (.int n):=by
 unfold ig at e⊢;rw[Fh];cases f:AO d.length i with
 |none=>rw[f]at e;exact nn e
 |some j=>rw[f]at e;show(d.map V.int)[j]?=_;have e:d[j]?=some n:=e;rw[Hb,e];rfl
theorem PM(J:jv b)(L:VB X M R a ta)(K:VE X M R .s b tb):VE X M R .s (.Subscript a b pos) (λg Q=>ta g λx=>tb g λy=>Ig x y Q):=PE.imp (AQ u9 L K J)<|by
 rintro N H Q ⟨A,F,g,P,S,E,h,k⟩;refine⟨A,F,g,_,S,E,h,λx T Y I j f=>⟨A,F,g,_,S.same j,E,I,λy O r d s2 q=>?_⟩⟩;have f:=aT.same s2 f;cases x with
 |lst l=>
  cases y with
  |int i=>obtain⟨p,u,rfl,o,C⟩:=f.lst;obtain⟨w,e,d⟩:=d;obtain⟨v,D,B⟩:=wR C e;exact .inl ⟨p,u,i,v,rfl,q.aO.int_inv,.inl o.rd,D,k _ _ r d (j.trans s2) (.of B)⟩
  |_=>exact d.elim
 |tup l=>
  cases y with
  |int i=>obtain⟨p,u,rfl,o,C⟩:=f.tup;obtain⟨w,e,d⟩:=d;obtain⟨v,D,B⟩:=wR C e;exact .inr (.inl ⟨p,u,i,v,rfl,q.aO.int_inv,o,D,k _ _ r d (j.trans s2) (.of B)⟩)
  |_=>exact d.elim
 |cY U=>
  cases y with
  |int i=>obtain⟨p,rfl,o⟩:=f.cY;obtain⟨n,e,d⟩:=d;exact .inl ⟨p,_,i,_,rfl,q.aO.int_inv,o,wU e,k _ _ r d (j.trans s2) (.of (dN _))⟩
  |_=>exact d.elim
 |str z=>
  cases y with
  |int i=>
   cases f.str;obtain⟨hz,n,e,d⟩:=d;exact .inr (.inr ⟨z,i,n,rfl,q.aO.int_inv,hz,e,k _ _ r d (j.trans s2) (.of (kj _))⟩)
  |_=>exact d.elim
 |_=>exact d.elim
theorem BD{K:Frag}{B:Addr->Prop}{H:Hp}{l:List W}{vs:List V}(h:af K B H l vs)(d f:Option Int):af K B H (kh l d f) (sO vs d f):=by unfold kh sO;rw[h.len];exact(h.drop _).take _
noncomputable def KU(X:Cx)(M:Ms)(R:Addr->Prop)(t:Ev->(Option Int->Prop)->Prop):TO:=λh H Q=>∃A f d P,SR X.K M A f h H d/\ER X f R/\t d P/\∀o g,P o->ao H g->Q o g
theorem PO.imp{e:Option Expr}{t t':TO}(h:PO X e t)(k:∀d H Q,t' d H Q->t d H Q):PO X e t':=λf s d H Q I w=>h f s d H Q I (k d H Q w)
theorem EL:PO X none (KU X M R λ_ Q=>Q none):=PO.imp DY<|by rintro d H Q ⟨A,i,f,P,S,g,h,k⟩;exact k none H h (ao.refl H)
theorem EM(l:VE X M R .s a ta):PO X (some a) (KU X M R λd Q=>ta d λy=>match y with|.int i=>Q (some i)|_=>False):=PO.imp (DZ l)<|by
 rintro q H Q ⟨A,p,d,P,S,n,h,k⟩;refine⟨A,p,d,_,S,n,h,λx r o f g j=>?_⟩;cases x with
 |int i=>exact⟨i,j.aO.int_inv,k _ o f g⟩
 |_=>exact f.elim
theorem PN{w y:Option Expr}{p2:Pos}{tl v:Ev->(Option Int->Prop)->Prop}(D:VB X M R a ta)(o:PO X w (KU X M R tl))(j:PO X y (KU X M R v)):VE X M R .f (.Subscript a (.Slice w y none p2) pos) (λd Q=>ta d λx=>tl d λl=>v d λh=>Rl x l h Q):=
 PE.imp (sN Ef D o j)<|by
  rintro F H Q ⟨A,u,d,P,S,s,h,k⟩;refine⟨A,u,d,_,S,s,h,λx J N C g n=>⟨A,u,d,_,S.same g,s,C,λl L o s2=>⟨A,u,d,_,S.same (g.trans s2),s,o,λh K j s3=>?_⟩⟩⟩;have n:=aT.same (s2.trans s3) n;cases x with
  |lst I=>obtain⟨p,z,rfl,r,E⟩:=n.lst;refine⟨p,z,rfl,.inl r.rd,λq i=>?_⟩;exact k _ _ _ j (((g.trans s2).trans s3).trans (aG i _)) (.fresh ((g.trans s2).trans s3) i (BD E l h))
  |cY B=>obtain⟨p,rfl,r⟩:=n.cY;refine⟨p,_,rfl,r,λq i=>?_⟩;exact k _ _ _ j (((g.trans s2).trans s3).trans (aG i _)) (.fresh ((g.trans s2).trans s3) i (BD (af.Ez B) l h))
  |_=>exact j.elim
noncomputable def PR:BI->Md
 |.list=>.f
 |_=>.s
noncomputable def eZ(X:Cx)(f:Value)(b:BI):Prop:=
 ∀(d:List (Addr×Obj))(s:Shared)(g:St)(H:Hp)(B:Addr->Prop)(h:List W)(i:List V)(j:List Value)(P:KP)(Q:VK),Inv X d g H s->Dom B H->Vals i j->kT X.K B H h i->lJ b h P->Cont X.K B H (PR b) P Q->
  wpAny (model X.prog X.w) X.A (call f j) (EP X d g Q) X.xe s
noncomputable def KW(K:Frag)(b:BI):List V->Hp->VK->Prop:=λf H Q=>∃(B:Addr->Prop)(d:List W)(P:KP),Dom B H/\kT K B H d f/\lJ b d P/\Cont K B H (PR b) P Q
theorem eZ.r{f:Value}{b:BI}(h:eZ X f b):bE X f (KW X.K b):=by rintro g s i H l n Q I r ⟨B,j,P,d,p,o,k⟩;exact h g s i H B j l n P Q I d r p o k
theorem cJ{K:Frag}{B:Addr->Prop}{H:Hp}{w:W}{vs:List V}(h:kT K B H [w] vs):∃v,vs=[v]/\aT K B H w v:=by obtain⟨v,r,rfl,f,d⟩:=h;cases(show r=[]from d);exact⟨v,rfl,f⟩
theorem wV{K:Frag}{B:Addr->Prop}{H:Hp}{w w':W}{vs:List V}(h:kT K B H [w,w'] vs):∃v d,vs=[v,d]/\aT K B H w v/\aT K B H w' d:=by obtain⟨v,r,rfl,i,g⟩:=h;obtain⟨d,rfl,f⟩:=cJ g;exact⟨v,d,rfl,i,f⟩
theorem cw_len:eZ X (.builtin "len") .len:=by
 intro f s k H B q u n P Q I d r o h c
 match q,h with
 |[.lst l],h=>obtain⟨v,rfl,g⟩:=cJ o;obtain⟨p,i,rfl,g,j⟩:=g.lst;exact gh f s k H _ n Q I r ⟨p,i,rfl,.inl (.inl g.rd),c.now (w:=.int i.length) (by rw[j.len];exact h) (dN _)⟩
 |[.tup l],h=>obtain⟨v,rfl,g⟩:=cJ o;obtain⟨p,i,rfl,g,j⟩:=g.tup;exact gh f s k H _ n Q I r ⟨p,i,rfl,.inr g,c.now (w:=.int i.length) (by rw[j.len];exact h) (dN _)⟩
 |[.cY ns],h=>obtain⟨v,rfl,g⟩:=cJ o;obtain⟨p,rfl,j⟩:=g.cY;exact gh f s k H _ n Q I r ⟨p,_,rfl,.inl j,c.now (w:=.int ns.length) h (by rw[Fh];exact dN _)⟩
 |[.str z],h=>obtain⟨v,rfl,g⟩:=cJ o;cases g.str;exact qL f s k H _ n Q I r ⟨z,rfl,h.1,c.now h.2 (dN _)⟩
theorem cw_abs:eZ X (.builtin "abs") .abs:=by
 intro f s g H B j o k P Q I d r l h c
 match j,h with
 |[.int i],h=>obtain⟨v,rfl,n⟩:=cJ l;cases n.int;exact AH f s g H _ k Q I r ⟨i,rfl,c.now h (dN _)⟩
theorem cw_max(q:X.calm=true):eZ X (.builtin "max") .max2:=by
 intro f s n H B w D o P Q I d r u h c
 match w,h with
 |[.int i,.int j],h=>obtain⟨v,E,rfl,g,k⟩:=wV u;cases g.int;cases k.int;exact yr q f s n H _ o Q I r ⟨i,j,rfl,c.now h (dN _)⟩
 |[.lst l],h=>obtain⟨x,rfl,y,h⟩:=h;obtain⟨v,rfl,g⟩:=cJ u;obtain⟨p,C,rfl,g,k⟩:=g.lst;have e:=af.ints k;subst e;exact yT q f s n H _ o Q I r ⟨p,x,rfl,.inl g.rd,y,λm A z=>c.now (h m A z) (dN _)⟩
theorem cw_dvm:eZ X (.builtin "divmod") .Ri:=by
 intro f s g H B k w l P Q I d r o h c
 match k,h with
 |[.int i,.int j],h=>obtain⟨v,x,rfl,u,p⟩:=wV o;cases u.int;cases p.int;exact sJ f s g H _ l Q I r ⟨i,j,rfl,h.1,λq n=>c _ _ _ h.2 (aG n _) (.of (qV aA (.cons (dN _) (.cons (dN _) .nil))))⟩
theorem cw_min(q:X.calm=true):eZ X (.builtin "min") .min2:=by
 intro f s n H B w D o P Q I d r u h c
 match w,h with
 |[.int i,.int j],h=>obtain⟨v,E,rfl,g,k⟩:=wV u;cases g.int;cases k.int;exact yt q f s n H _ o Q I r ⟨i,j,rfl,c.now h (dN _)⟩
 |[.lst l],h=>obtain⟨x,rfl,y,h⟩:=h;obtain⟨v,rfl,g⟩:=cJ u;obtain⟨p,C,rfl,g,k⟩:=g.lst;have e:=af.ints k;subst e;exact yS q f s n H _ o Q I r ⟨p,x,rfl,.inl g.rd,y,λm A z=>c.now (h m A z) (dN _)⟩
theorem cw_sum(o:X.calm=true):eZ X (.builtin "sum") .sum:=by
 intro f s i H B j x k P Q I d r q h c
 match j,h with
 |[.lst l],h=>obtain⟨n,rfl,h⟩:=h;obtain⟨v,rfl,g⟩:=cJ q;obtain⟨p,w,rfl,g,u⟩:=g.lst;have e:=af.ints u;subst e;exact yL o f s i H _ k Q I r ⟨p,n,rfl,.inl g.rd,c.now h (dN _)⟩
theorem cw_all(n:X.calm=true):eZ X (.builtin "all") .all:=by
 intro f s i H B j x k P Q I d r o h c
 match j,h with
 |[.lst l],h=>obtain⟨u,rfl,h⟩:=h;obtain⟨v,rfl,g⟩:=cJ o;obtain⟨p,w,rfl,g,q⟩:=g.lst;have e:=af.UQ q;subst e;exact yM n f s i H _ k Q I r ⟨p,u,rfl,.inl g.rd,c.now h (qg _)⟩
theorem cw_any(n:X.calm=true):eZ X (.builtin "any") .any:=by
 intro f s i H B j x k P Q I d r o h c
 match j,h with
 |[.lst l],h=>obtain⟨u,rfl,h⟩:=h;obtain⟨v,rfl,g⟩:=cJ o;obtain⟨p,w,rfl,g,q⟩:=g.lst;have e:=af.UQ q;subst e;exact yV n f s i H _ k Q I r ⟨p,u,rfl,.inl g.rd,c.now h (qg _)⟩
theorem cw_list:eZ X (.type "list") .list:=by
 intro f s n H B w x o P Q I d r u h c
 match w,h with
 |[.lst l],h=>obtain⟨v,rfl,g⟩:=cJ u;obtain⟨p,j,rfl,g,k⟩:=g.lst;exact jy f s n H _ o Q I r ⟨p,j,rfl,.inl (.inl g.rd),λq i=>c _ _ _ h (aG i _) (.fresh (ao.refl H) i k)⟩
 |[.tup l],h=>obtain⟨v,rfl,g⟩:=cJ u;obtain⟨p,j,rfl,g,k⟩:=g.tup;exact jy f s n H _ o Q I r ⟨p,j,rfl,.inr g,λq i=>c _ _ _ h (aG i _) (.fresh (ao.refl H) i k)⟩
theorem cw_int:eZ X (.type "int") .int:=by
 intro f s j H B o u k P Q I d r l h c
 match o,h with
 |[.bl i],h=>obtain⟨v,rfl,g⟩:=cJ l;cases g.bl;exact yu f s j H _ k Q I r (.inr ⟨i,rfl,c.now h (dN _)⟩)
 |[.str z],h=>obtain⟨v,rfl,g⟩:=cJ l;cases g.str;obtain⟨n,q,p,h⟩:=h;exact yO f s j H _ k Q I r ⟨z,n,rfl,q,p,c.now h (dN _)⟩
theorem cw_str:eZ X (.type "str") .str:=by
 intro f s j H B n o k P Q I d r l h c
 match n,h with
 |[.int i],h=>obtain⟨v,rfl,g⟩:=cJ l;cases g.int;exact qF f s j H _ k Q I r ⟨i,rfl,h.1,c.now h.2 (kj _)⟩
 |[.str z],h=>obtain⟨v,rfl,g⟩:=cJ l;cases g.str;exact yN f s j H _ k Q I r ⟨z,rfl,c.now h (kj _)⟩
theorem cw_tuple:eZ X (.type "tuple") .tuple:=by
 intro f s k H B x y n P Q I d r u h c
 match x,h with
 |[.lst l],h=>obtain⟨v,rfl,g⟩:=cJ u;obtain⟨p,i,rfl,g,j⟩:=g.lst;exact fD f s k H _ n Q I r ⟨p,i,rfl,.inl ⟨.inl g.rd,λq o=>c _ _ _ h (aG o _) (.of (qV aA (af.same (aG o _) j)))⟩⟩
 |[.tup l],h=>obtain⟨v,rfl,g⟩:=cJ u;obtain⟨p,i,rfl,w,j⟩:=g.Px;have g:iK X.K H p i:=iK.of w;exact fD f s k H _ n Q I r ⟨p,i,rfl,.inr ⟨g,c.now h (qV w j)⟩⟩
noncomputable def tM(K:Frag):Prop:=∀a∈["NoneType","bool","int","str","list","tuple"],∀b∈["int","bool","tuple","list","str","dict"],kitOne K (.type a) (.type b)=some (yX a b)
theorem cw_isi(O:tM X.K):bE X (.builtin "isinstance") (λvs H Q=>∃(B:Addr->Prop)(w:W)(n:String)(P:KP),n∈["int","bool","tuple","list","str","dict"]/\kT X.K B H [w,.ty n] vs/\lJ .Bq [w,.ty n] P/\Cont X.K B H .s P Q):=by
 rintro k s A H vs us Q I r ⟨B,w,n,P,N,S,h,c⟩;obtain⟨v,Z,rfl,i,T⟩:=wV S;cases T.ty;obtain⟨a,d,h⟩:=h;have x:Q (.bl (yX a n)) H:=c.now h (qg _);obtain⟨E,D,rfl,f,F⟩:=vals2 r;cases(show D=Value.type n from F);have g:∀q,q∈["NoneType","bool","int","str","list","tuple"]->a=q->kitOne X.K (.type q) (.type n)=some (yX a n):=λq m e=>by rw[e];exact O q m n N
 have j:∀y:Tok,EP X k A Q (.bool (yX a n)) {s with toks:=y}:=λy=>⟨.bl _,H,I.tok _,rfl,x⟩;cases w with
 |aI=>
  cases i.aI;cases d;exact fM I f .aI (g _ (by simp) rfl) j
 |bl b=>
  cases i.bl;cases d;exact fM I f (.bl b) (g _ (by simp) rfl) j
 |int b=>
  cases i.int;cases d;exact fM I f (.int b) (g _ (by simp) rfl) j
 |str b=>
  cases i.str;cases d;exact fM I f (.str b) (g _ (by simp) rfl) j
 |lst l=>obtain⟨p,C,rfl,u,J⟩:=i.lst;cases d;exact fM I f (.lst u.at) (g _ (by simp) rfl) j
 |tup l=>obtain⟨p,C,rfl,u,J⟩:=i.tup;cases d;cases(show E=Value.ref p from f);obtain⟨L,r',⟨o,Y,U,_⟩,_⟩:=I.tuple u;exact Oy PySem.W.kitx_tuple I.jQ ⟨o,Y,U⟩ (g _ (by simp) rfl) (λz=>nomatch z) j
 |_=>exact nn d
end
noncomputable def z5(K:Frag)(n:Nat)(m:Md)(sp:aU):Sp:=λc H Q E=>∃A a P R,a.length=n/\af K A H a c/\Dom A H/\sp a P R/\Cont K A H m P Q/\∀C b,R C->ao H b->E (.ref C) none b
noncomputable def PU(K:Frag)(n:Nat)(h:Md)(sp:aU):Sp:=λi H Q E=>∃(b:Addr->Prop)(F:List Addr)(g:W)(f:V)(e:List W)(c:List V)(P:W->Prop)(R:Addr->Prop),i=f::c/\e.length+1=n/\F.Nodup/\(∀p∈F,¬b p)/\Dom b H/\Fp K (λp=>b p\/p∈F) H h g f F/\af K (λp=>b p\/p∈F) H e c/\sp (g::e) P R/\
 (∀w y v d a,P (.tup [w,y])->qf (·∈F) H a->d.Nodup->(∀p∈d,p∈F\/H p=none)->Fp K (λp=>b p\/p∈d) a h y f d->Rep K (λp=>b p\/p∈d) a w v->Q v a)/\(∀C a,R C->qf (·∈F) H a->E (.ref C) none a)
noncomputable def oZ(K:Frag)(n:Nat)(m:Md)(sp:aU):Sp:=
 match m with
 |.io a=>PU K n a sp
 |m=>z5 K n m sp
inductive bW(P:Program)(w:World)(K:Frag)(mg:Str->Option Value)(base:Heap):Nat->Value->Nat->Sp->Prop where
 |fn {k:Nat} {f:Addr} {fd:FuncData} {ps:List Str} {sp:Sp} (kp:keepIn K (.ref f)=true) (b:Binds K fd ps []) (F:bL P w K mg base (iL P w) k f fd ps sp):bW P w K mg base k (.ref f) ps.length sp
 |mk {k n:Nat} {C f:Addr} {fd:FuncData} {ps:List Str} {sp UX:Sp} (M:Mk K C f) (b:Binds K fd ps []) (F:bL P w K mg base (iL P w) k f fd ps UX)
  (h:∀vs H Q E,sp vs H Q E->∀x dx,H x=none->H dx=none->dx≠x->UX (.ref x::vs) (upd (upd H dx (.own x)) x (.ins C dx [])) (λv H2=>v=.aI/\Q (.ref x) H2) E):bW P w K mg base (k+1) (.ref C) n sp
theorem bW.keep{P:Program}{w:World}{K:Frag}{b:Str->Option Value}{base:Heap}{k n:Nat}{a:Value}{sp:Sp}(c:bW P w K b base k a n sp):keepIn K a=true:=by
 cases c with
 |fn kp _ _=>exact kp
 |mk M _ _ _=>exact M.kp
theorem bW.run{X:Cx}{k n:Nat}{g:Value}{sp:Sp}{a:List (Addr×Obj)}{d:St}{H:Hp}{s:Shared}{Q:VK}{E:XK}{us:List Value}{vs:List V}(c:bW X.prog X.w X.K X.mg X.base k g n sp)(f:ck k X.A)(e:Passes (iL X.prog X.w) X E)(I:Inv X a d H s)(r:Vals vs us)(h:sp vs H Q E):
 wpAny (model X.prog X.w) X.A (call g us) (EP X a d Q) X.xe s:=by
 cases c with
 |fn p b F=>exact qG (ds:=[]) (zX:=[]) F f b .nil e I r (by rw[Kt];exact h)
 |mk M b F l=>exact AL (ds:=[]) (zX:=[]) M F f b .nil e I r (λx o m j i=>by rw[Kt];exact l vs H Q E h x o m j i)
section
variable{X:Cx}{M:Ms}{R:Addr->Prop}{e a b c:Expr}{t ta tb tc:WT}{m:Md}{pos p:Pos}{es:List Expr}{x:Str}
theorem wW{D:Ev->(List W->Prop)->Prop}{k n:Nat}{T:Value}{sp:aU}(F:bW X.prog X.w X.K X.mg X.base k T n (z5 X.K n m sp))(hr:ck k X.A)(hg:Gl X x)(hm:X.mg x=some T)
 (hn:∀d P R,sp d P R->d.length=n)(ha:VA X M R (e::es) D)(y:(x==("__debug__":Str))=false)(he:starEach (e::es) X.env=(false,eval e X.env)::starEach es X.env)(u:(backTo pos (starEach es X.env)).any (·.1)=false):
 VE X M R m (.Call (.Name x p) (e::es) [] pos) (λj Q=>D j λd=>sp d Q R):=by
 rintro f s i H Q I ⟨A,H0,j,P,S,er,h,kk⟩;obtain⟨E,N,O,hR⟩:=er;refine Ts (qC I hg hm ?_ y);refine X2 (h₀:=X.base) I.ok.mod.NB F.keep (bq (ha pos f s i H (λl g=>∃d,ao H g/\af X.K (FB A M i) g d l/\sp d P R) I ⟨A,H0,j,_,S,⟨E,N,O,hR⟩,h,λd l g hw L q=>⟨d,L,q,hw⟩⟩) λus L ⟨l,g,U,r,d,sm,q,J⟩=>⟨U.jQ,?_⟩) he u;exact F.run hr N U r ⟨FB A M i,d,P,R,hn _ _ _ J,q,(S.same sm).dom,J,λw v B pw o Z=>kk w v B pw (sm.trans o) (Z.back sm λ_ z=>z),λC B Y o=>O C B Y (S.sm.trans (sm.trans o))⟩
theorem KY{l:Ev->(List W->Prop)->Prop}{bi:BI}{n:String}(F:bE X (.builtin n) (KW X.K bi))(E:Gl X x)(D:X.mg x=none)(B:bootBuiltins x=some (.builtin n))(I:NS X M R (e::es) l)(C:x≠"__name__")(j:(x==("__debug__":Str))=false)
 (he:starEach (e::es) X.env=(false,eval e X.env)::starEach es X.env)(i:(backTo pos (starEach es X.env)).any (·.1)=false):VE X M R (PR bi) (.Call (.Name x p) (e::es) [] pos) (λd Q=>l d λf=>lJ bi f Q):=
 PE.imp (jr F E D B I C j he i)<|by rintro o H Q ⟨A,L,d,P,S,J,h,k⟩;exact⟨A,L,d,_,S,J,h,λf O T y g s=>⟨FB A M o,f,P,(S.same g).dom,s,y,λw v N u q r=>k w v N u (g.trans q) (r.back g λ_ z=>z)⟩⟩
theorem KZ{l:Ev->(List W->Prop)->Prop}{bi:BI}{n:String}(F:bE X (.type n) (KW X.K bi))(E:Gl X x)(D:X.mg x=none)(B:bootBuiltins x=some (.type n))(I:NS X M R (e::es) l)(C:x≠"__name__")(j:(x==("__debug__":Str))=false)
 (he:starEach (e::es) X.env=(false,eval e X.env)::starEach es X.env)(i:(backTo pos (starEach es X.env)).any (·.1)=false):VE X M R (PR bi) (.Call (.Name x p) (e::es) [] pos) (λd Q=>l d λf=>lJ bi f Q):=
 PE.imp (jX F E D B I C j he i)<|by rintro o H Q ⟨A,L,d,P,S,J,h,k⟩;exact⟨A,L,d,_,S,J,h,λf O T y g s=>⟨FB A M o,f,P,(S.same g).dom,s,y,λw v N u q r=>k w v N u (g.trans q) (r.back g λ_ z=>z)⟩⟩
theorem K0{n:String}(T:tM X.K)(i:n∈["int","bool","tuple","list","str","dict"])(U:Gl X x)(O:X.mg x=none)(L:bootBuiltins x=some (.builtin "isinstance"))(Z:VB X M R a ta)(Y:VB X M R b (λ_ Q=>Q (.ty n)))(N:x≠"__name__")(j:(x==("__debug__":Str))=false)
 (he:starEach [a,b] X.env=(false,eval a X.env)::starEach [b] X.env)(WA:starEach [b] X.env=(false,eval b X.env)::starEach [] X.env)(g:(backTo pos (starEach [b] X.env)).any (·.1)=false):
 VE X M R .s (.Call (.Name x p) [a,b] [] pos) (λd Q=>ta d λw=>lJ .Bq [w,.ty n] Q):=
 PE.imp (jr (cw_isi T) U O L (aR Z (aR Y bZ WA) he) N j he g)<|by rintro y H Q ⟨A,u,d,P,S,q,h,k⟩;refine⟨A,u,d,_,S,q,h,λw v H1 J f F=>⟨A,u,d,λl=>l=.ty n,S.same f,q,rfl,λl o H2 Du s2 E=>?_⟩⟩;subst Du;exact⟨FB A M y,w,n,P,i,⟨v,[o],rfl,aT.same s2 F,o,[],rfl,E,rfl⟩,J,λB C H' I D r=>k B C H' I ((f.trans s2).trans D) (r.back (f.trans s2) λ_ z=>z)⟩
end
inductive BE(K:Frag)(br:Bool)(B:Addr->Prop)(H:Hp):It->List W->Prop where
 |lst {a:Addr} {vs:List V} {ws:List W} (h:Rz H a (.lst vs)) (n:br=false->¬B a) (r:af K B H ws vs):BE K br B H (RX K a) ws
 |tup {a:Addr} {vs:List V} {ws:List W} (h:iK K H a vs) (r:af K B H ws vs):BE K br B H (RY K a) ws
 |pS (lo:Int) (n:Nat):BE K br B H (OC lo n) (gi lo 1 n)
 |EN (lo st:Int) (n:Nat):BE K br B H (Rg lo st n) (gi lo st n)
structure IW(K:Frag)(B:Addr->Prop)(Hs:Hp)(J:It)(ws:List W):Prop where
 go:∀i H,ao Hs H->i<ws.length->J.go i H
 yl:∀i H x H' w,ao Hs H->ws[i]?=some w->J.OB i H x H'->ao H H'/\∀B':Addr->Prop,(∀p o,Hs p=some o->B' p->B p)->Rep K B' H' w x
 st:∀i H,ao Hs H->i=ws.length->J.stop i H
theorem jE(a st:Int)(n:Nat):(gi a st n).length=n:=by unfold gi;simp
theorem tN{b st:Int}{n i:Nat}{w:W}(h:(gi b st n)[i]?=some w):w=.int (b+i*st)/\i<n:=by
 unfold gi at h;rw[Hb]at h;by_cases a:i<n
 .rw[S7 a]at h;cases h;exact⟨rfl,a⟩
 .rw[List.getElem?_eq_none (by simpa using a)]at h;cases h
theorem BE.iw{K:Frag}{br:Bool}{B:Addr->Prop}{g:Hp}{J:It}{o:List W}(h:BE K br B g J o):IW K B g J o:=by
 cases h with
 |@lst a c _ h n r=>
  have q:∀H,ao g H->iP K H a c:=λH s=>.inl (VL.ao.rd s h.rd);refine⟨λi H s b=>?_,λi H x l w s d y=>?_,λi H s b=>⟨c,q H s,by rw[r.len,b];exact DL _⟩⟩
  .have f:i<c.length:=by rw[r.len];exact b
   exact⟨c,c[i],q H s,Dx f⟩
  .obtain⟨rfl,y⟩:=y;obtain⟨v,e,j⟩:=r.get d;have:=y c (q _ s);rw[e]at this;cases this;exact⟨ao.refl _,λm k=>Rep.mv s k w j⟩
 |@tup a c _ h r=>
  have q:∀H,ao g H->iK K H a c:=λH s=>L2.ao.tup s h;refine⟨λi H s b=>?_,λi H x l w s d y=>?_,λi H s b=>⟨c,q H s,by rw[r.len,b];exact DL _⟩⟩
  .have f:i<c.length:=by rw[r.len];exact b
   exact⟨c,c[i],q H s,Dx f⟩
  .obtain⟨rfl,y⟩:=y;obtain⟨v,e,j⟩:=r.get d;have:=y c (q _ s);rw[e]at this;cases this;exact⟨ao.refl _,λm k=>Rep.mv s k w j⟩
 |pS p n=>refine⟨λi H s b=>by rw[jE]at b;exact b,λi H x l w s d y=>?_,λi H s b=>by rw[jE]at b;exact OV b.symm⟩;obtain⟨rfl,rfl⟩:=y;obtain⟨rfl,_⟩:=tN d;exact⟨ao.refl _,λm _=>by rw[VF];exact dN _⟩
 |EN p t n=>refine⟨λi H s b=>by rw[jE]at b;exact b,λi H x l w s d y=>?_,λi H s b=>by rw[jE]at b;exact OV b.symm⟩;obtain⟨rfl,rfl⟩:=y;obtain⟨rfl,_⟩:=tN d;exact⟨ao.refl _,λm _=>dN _⟩
noncomputable def itemsOf:W->Option (List W)
 |.lst l=>some l
 |.tup l=>some l
 |_=>none
theorem qh{z:W}{Q:List W->Prop}:items z Q↔∃a,itemsOf z=some a/\Q a:=by
 cases z<;>simp[items,itemsOf]
noncomputable def EO(X:Cx)(M:Ms)(R:Addr->Prop)(br:Bool)(t:WT):TI:=λb H Q=>∃A e c P,SR X.K M A e b H c/\ER X e R/\t c P/\∀z,P z->∃d,itemsOf z=some d/\∀J a,ao H a->BE X.K br (FB A M b) a J d->Q J a
theorem PI.imp{X:Cx}{tg e:Expr}{t t':TI}(h:PI X tg e t)(k:∀a H Q,t' a H Q->t a H Q):PI X tg e t':=λb s a H Q I w=>h b s a H Q I (k a H Q w)
section
variable{X:Cx}{M:Ms}{R:Addr->Prop}{e a b c tg:Expr}{t ta tb tc:WT}{m:Md}{pos p:Pos}{es:List Expr}{x:Str}{br:Bool}
theorem K1{l:Expr}{tl:TE}(y:PE X l tl):PI X tg l (λk H Q=>tl k H λx H1=>∃a,x=.ref a/\(((∃g,iP X.K H1 a g)/\Q (RX X.K a) H1)\/((∃g,iK X.K H1 a g)/\Q (RY X.K a) H1))):=by
 intro i s k H Q I h;refine bq (y i s k H _ I h) ?_;rintro v d ⟨x,H1,f,u,w⟩;obtain⟨a,e,q⟩:=w;subst e;cases u;rcases q with⟨⟨g,n⟩,q⟩|⟨⟨g,n⟩,q⟩
 .obtain⟨j,rv,p,hz⟩:=f.list n;refine wpAny_pyIter_list p.isList ?_;refine⟨d.heap.objs.size,[d.heap.objs.size],_,_,H1,rfl,f.kept (t':=d.toks) λb o e=>Da _ e,yk a _,⟨_,Hk _ rfl,rfl,rfl⟩,λb r=>?_,q⟩;have e:b=d.heap.objs.size:=by simpa using r
  subst e;exact f.DN (DL _) (f.hok.fresh (DL _))
 .obtain⟨j,rv,p,hz⟩:=f.tuple n;refine wpAny_pyIter_tuple (show d.heap.IsTuple a j.toArray from p) ?_;refine⟨d.heap.objs.size,[d.heap.objs.size],_,_,H1,rfl,f.kept (t':=d.toks) λb o e=>Da _ e,uP a _,⟨_,Hk _ rfl,rfl,rfl⟩,λb r=>?_,q⟩;have e:b=d.heap.objs.size:=by simpa using r
  subst e;exact f.DN (DL _) (f.hok.fresh (DL _))
noncomputable def PV(K:Frag)(br:Bool):RL:=λB _ d w v=>aT K B d w v/\(br=false->Rep K B d w v)
theorem kU(h:VE X M R m e t):PE X e (tV X M R (PV X.K br) t):=PE.imp h<|by rintro l H Q ⟨A,i,d,P,S,g,p,k⟩;exact⟨A,i,d,P,S,g,p,λw v j f s r=>k w v j f s ⟨(r.rep S.dom).b,λ_=>r.rep S.dom⟩⟩
theorem PX(h:VB X M R e t):PE X e (tV X M R (PV X.K true) t):=PE.imp h<|by rintro l H Q ⟨A,i,d,P,S,g,p,k⟩;exact⟨A,i,d,P,S,g,p,λw v j f s r=>k w v j f s ⟨r,λz=>by cases z⟩⟩
theorem PV.lst{K:Frag}{B:Addr->Prop}{H H':Hp}{l:List W}{v:V}(h:PV K br B H H' (.lst l) v):∃p vs,v=.ref p/\Rz H' p (.lst vs)/\(br=false->¬B p)/\af K B H' l vs:=by obtain⟨p,vs,rfl,f,d⟩:=h.1.lst;refine⟨p,vs,rfl,f,λe=>?_,d⟩;have:=h.2 e;obtain⟨i,_,g,n,_⟩:=this;cases g;exact n
theorem fG(r:PE X a (tV X M R (PV X.K br) ta)):PI X tg a (EO X M R br ta):=PI.imp (K1 r)<|by
 rintro y H Q ⟨A,w,q,P,S,u,h,k⟩;refine⟨A,w,q,P,S,u,h,λz v o hz j n=>?_⟩;obtain⟨B,g,k⟩:=k z hz;cases z with
 |lst l=>
  cases g;obtain⟨p,f,rfl,d,i,s⟩:=n.lst;exact⟨p,rfl,.inl ⟨⟨f,.inl d.rd⟩,k _ o j (.lst d i s)⟩⟩
 |tup l=>
  cases g;obtain⟨p,f,rfl,d,i⟩:=n.1.tup;exact⟨p,rfl,.inr ⟨⟨f,d⟩,k _ o j (.tup d i)⟩⟩
 |_=>exact nn g
theorem ES(u:Gl X "range")(q:X.mg "range"=none)(v:VE X M R .s a ta)(f:starEach [a] X.env=(false,eval a X.env)::starEach [] X.env):
 PI X tg (.Call (.Name "range" p) [a] [] pos) (EO X M R br (λd Q=>ta d λx=>EB [x] λl=>Q (.lst l))):=
 PI.imp (ym u q (aR v bZ f) f)<|by
  rintro B H Q ⟨A,z,d,P,S,w,h,k⟩;refine⟨A,z,d,_,S,w,h,λx C y hz g i=>?_⟩;cases x with
  |int j=>obtain⟨o,n,hz⟩:=hz;obtain⟨D,r,k⟩:=k _ hz;cases r;cases i.aO.int_inv;exact⟨j,rfl,o,n,k _ y g (.pS 0 j.toNat)⟩
  |_=>exact hz.elim
theorem ET(B:Gl X "range")(w:X.mg "range"=none)(D:VE X M R .s a ta)(C:VE X M R .s b tb)(n:starEach [a,b] X.env=(false,eval a X.env)::starEach [b] X.env)(d:starEach [b] X.env=(false,eval b X.env)::starEach [] X.env):
 PI X tg (.Call (.Name "range" p) [a,b] [] pos) (EO X M R br (λf Q=>ta f λx=>tb f λy=>EB [x,y] λl=>Q (.lst l))):=
 PI.imp (yo B w (aR D (aR C bZ d) n) (by rw[n,d];rfl) d)<|by
  rintro F H Q ⟨A,q,f,P,S,o,h,k⟩;refine⟨A,q,f,_,S,o,h,λx J L hz g u=>⟨A,q,f,_,S.same g,o,hz,λy I E hz s2 r=>?_⟩⟩;cases x with
  |int i=>
   cases y with
   |int j=>obtain⟨v,hz⟩:=hz;obtain⟨K,z,k⟩:=k _ hz;cases z;cases u.aO.int_inv;cases r.aO.int_inv;exact⟨i,j,rfl,v,k _ E (g.trans s2) (.pS i (j -i).toNat)⟩
   |_=>exact hz.elim
  |_=>exact hz.elim
theorem EU(F:Gl X "range")(D:X.mg "range"=none)(K:VE X M R .s a ta)(J:VE X M R .s b tb)(I:VE X M R .s c tc)(u:starEach [a,b,c] X.env=(false,eval a X.env)::starEach [b,c] X.env)(f:starEach [b,c] X.env=(false,eval b X.env)::starEach [c] X.env)(q:starEach [c] X.env=(false,eval c X.env)::starEach [] X.env):
 PI X tg (.Call (.Name "range" p) [a,b,c] [] pos) (EO X M R br (λd Q=>ta d λx=>tb d λy=>tc d λz=>EB [x,y,z] λl=>Q (.lst l))):=
 PI.imp (yR F D (aR K (aR J (aR I bZ q) f) u) (by rw[u,f,q];rfl) (by rw[f,q];rfl))<|by
  rintro N H Q ⟨A,r,d,P,S,o,h,k⟩;refine⟨A,r,d,_,S,o,h,λx U H1 hz g B=>⟨A,r,d,_,S.same g,o,hz,λy T Z hz s2 w=>⟨A,r,d,_,S.same (g.trans s2),o,hz,λz O L hz s3 v=>?_⟩⟩⟩;cases x with
  |int i=>
   cases y with
   |int j=>
    cases z with
    |int l=>obtain⟨n,C,hz⟩:=hz;obtain⟨Y,E,k⟩:=k _ hz;cases E;cases B.aO.int_inv;cases w.aO.int_inv;cases v.aO.int_inv;exact⟨i,j,l,n,rfl,C,k _ L ((g.trans s2).trans s3) (.EN i l n)⟩
    |_=>exact hz.elim
   |_=>exact hz.elim
  |_=>exact hz.elim
end
noncomputable def up(M:Ms)(n:Nat):Ms:=M.map λx=>(x.1+n,x.2)
section
variable{K:Frag}{M:Ms}{A:Fz}{H0 H H1:Hp}{σ v0:St}{ε δ:Ev}
theorem kr{n i:Nat}{m:Md}:(i,m)∈up M n↔n<=i/\(i -n,m)∈M:=by
 unfold up;rw[KB];constructor
 .rintro⟨⟨j,b⟩,a,e⟩;cases e;exact⟨Nat.le_add_left _ _,by rw[Y0];exact a⟩
 .rintro⟨h,a⟩;exact⟨(i -n,m),a,by simp;omega⟩
theorem c6{n i:Nat}:aJ (up M n) i↔n<=i/\aJ M (i -n):=by
 constructor
 .rintro⟨m,h⟩;exact⟨(kr.mp h).1,m,(kr.mp h).2⟩
 .rintro⟨h,m,a⟩;exact⟨m,kr.mpr ⟨h,a⟩⟩
theorem nj{n i:Nat}(c:δ.length=n)(h:n<=i):look (δ++ε) i=look ε (i -n):=by
 have e:∀w,look (δ++ε) i=some w↔look ε (i -n)=some w:=λw=>by rw[aV,aV,IH (by lia),c]
 cases b:look ε (i -n)with
 |none=>
  cases a:look (δ++ε) i with
  |none=>rfl
  |some w=>rw[e]at a;rw[b]at a;cases a
 |some w=>exact(e w).mpr b
theorem SR.block(S:SR K M A H0 σ H ε){n:Nat}(r:v0.length=n)(s:ao H H1){D:Addr}{o:HO}(x:H D=none)(I:H1 D=some o):SR K (up M n) ⟨λq=>A.ab q\/q=D,λq=>A.B q\/q=D,none⟩ H0 (v0++σ) H1 (A0 n none++ε):=by
 obtain⟨F,O⟩:=S.ow;have hd:(A0 n (none:Option W)).length=n:=by simp
 have y:∀{i:Nat},n<=i->(v0++σ)[i]?=σ[i -n]?:=λ{i} h=>by rw[IH (by lia),r]
 have u:∀p o,H p=some o->(A.B p\/p=D)->A.B p:=λp o e z=>by
  rcases z with z|rfl
  .exact z
  .rw[x]at e;cases e
 refine⟨by rw[B1,B1,r,hd,S.len],λi w c e=>?_,S.sm.trans s,λp z=>?_,(λv e=>by cases e),λi=>F (i -n),⟨λi m C a b=>O.un _ m C (kr.mp a).2 (kr.mp b).2,λi m w E e=>?_,λi c e=>?_,λi c=>O.nd _ (c6.mp c).2,λi j p c t a b=>?_,λi p c d=>O.nw _ p (c6.mp c).2 d,λi p c d z=>?_,λp=>?_⟩⟩
 .by_cases f:n<=i
  .rw[nj hd f]at e;rw[y f];obtain⟨v,k,g⟩:=S.sh (i -n) w (λz=>c (c6.mpr ⟨f,z⟩)) e;exact⟨v,k,Rep.mv s u w g⟩
  .rw[aV,P3 (by rw[hd];lia),YC,Do (by lia)]at e;cases e
 .rcases z with z|rfl
  .exact(S.dm.same s) p z
  .exact⟨_,I⟩
 .obtain⟨f,l⟩:=kr.mp E;rw[nj hd f]at e;rw[y f];obtain⟨v,k,g⟩:=O.val _ m w l e;exact⟨v,k,Fp.mv s u m g⟩
 .obtain⟨f,l⟩:=c6.mp c;rw[nj hd f]at e;exact O.emp _ l e
 .have:=O.ds _ _ p (c6.mp c).2 (c6.mp t).2 a b;have:=(c6.mp c).1;have:=(c6.mp t).1;lia
 .rcases z with z|rfl
  .exact O.na _ p (c6.mp c).2 d z
  .obtain⟨o,e,_⟩:=O.has (c6.mp c).2 d;rw[x]at e;cases e
 .constructor
  .rintro(z|rfl)
   .rcases(O.all p).mp z with z|⟨i,c,d⟩
    .exact .inl (.inl z)
    .exact .inr ⟨i+n,c6.mpr ⟨by lia,by rw[Y0];exact c⟩,by rw[Y0];exact d⟩
   .exact .inl (.inr rfl)
  .rintro((z|rfl)|⟨i,c,d⟩)
   .exact .inl ((O.all p).mpr (.inl z))
   .exact .inr rfl
   .exact .inl ((O.all p).mpr (.inr ⟨i -n,(c6.mp c).2,d⟩))
end
noncomputable def PY:List Nat->HP
 |[]=>Oz
 |i::a=>HQ (fL i) (PY a)
noncomputable def gT(K:Frag)(b:Bool)(a:List Nat):TG:=
 match b,a with
 |true,[i]=>fL i
 |true,_=>λ_ _ _ _=>False
 |false,a=>Jx K a.length (PY a)
noncomputable def cu(a:St):List Nat->List V->St
 |i::b,v::vs=>cu (a.set i (some v)) b vs
 |_,_=>a
theorem tO:∀(b:List Nat)(vs:List V)(a:St),(cu a b vs).length=a.length
 |[],vs,a=>by rw[cu];simp
 |i::b,[],a=>by rw[cu];simp
 |i::b,v::vs,a=>by rw[cu,tO b vs,NM]
theorem tQ{n:Nat}:∀(c:List Nat)(vs:List V)(b a:St),b.length=n->(∀i∈c,i<n)->cu (b++a) c vs=cu b c vs++a
 |[],vs,b,a,_,_=>by rw[cu,cu]<;>simp
 |i::c,[],b,a,_,_=>by rw[cu,cu]<;>simp
 |i::c,v::vs,b,a,d,h=>by have hi:=h i Bi;rw[cu,cu,List.set_append_left _ _ (by lia),tQ c vs _ a (by rw[NM];exact d) λj e=>h j (BM _ e)]
section
variable{K:Frag}{M:Ms}{A:Fz}{H0 H:Hp}
theorem BF:∀(a:List Nat)(vs:List V)(b:St)(Q:St->Hp->Prop),vs.length=a.length->Q (cu b a vs) H->PY a vs b H Q
 |[],[],b,Q,_,q=>⟨rfl,q⟩
 |[],_::_,_,_,h,_=>by cases h
 |_::_,[],_,_,h,_=>by cases h
 |i::a,v::vs,b,Q,h,q=>⟨v,vs,rfl,BF a vs _ Q (by simpa using h) (by rw[cu]at q;exact q)⟩
theorem SR.bY:∀(a:List Nat)(c:List W)(vs:List V){b:St}{d:Ev},(∀i∈a,¬aJ M i)->SR K M A H0 b H d->af K (FB A M b) H c vs->c.length=a.length->SR K M A H0 (cu b a vs) H (bY d a c)
 |[],c,vs,b,d,_,S,_,_=>by rw[cu,VL.bY]<;>first|exact S|simp
 |i::a,[],vs,b,d,_,S,_,h=>by cases h
 |i::a,w::c,vs,b,d,e,S,r,h=>by obtain⟨v,f,rfl,m,l⟩:=r.cons_inv;rw[cu,VL.bY];have k:=e i Bi;exact SR.bY a c f (λj g=>e j (BM _ g)) (S.set k m) l (by simpa using h)
theorem tgt{c:St}{e:Ev}{b:Bool}{a:List Nat}{w:W}{v:V}{P:Ev->Prop}{Q:St->Hp->Prop}(m:∀i∈a,¬aJ M i)(S:SR K M A H0 c H e)(j:Rep K (FB A M c) H w v)(h:wT b a w e P)
 (k:∀vs d,P d->SR K M A H0 (cu c a vs) H d->Q (cu c a vs) H):gT K b a v c H Q:=by
 cases b with
 |true=>
  match a,h with
  |[i],h=>
   have:=k [v] (e.set i (some w)) h (by rw[cu,cu]<;>first|exact S.set (m i Bi) j|simp);rw[cu,cu]at this
   .exact this
   .simp
 |false=>
  cases w with
  |tup l=>obtain⟨f,h⟩:=h;obtain⟨p,vs,rfl,n,g⟩:=j;exact⟨p,vs,rfl,iK.of n,by rw[g.len,f],BF a vs c Q (by rw[g.len,f]) (k vs _ h (SR.bY a l vs m S g f))⟩
  |_=>exact h.elim
end
theorem PF.imp{X:Cx}{e:List Expr}{t t':TT}(h:PF X e t)(k:∀a H Q,t' a H Q->t a H Q):PF X e t':=λb s a H Q I w=>h b s a H Q I (k a H Q w)
noncomputable def SN(K:Frag)(M:Ms)(t:WT):TE:=λb H Q=>∃A d c P,SR K M A d b H c/\t c P/\∀w v a,P w->ao H a->Rep K (FB A M b) a w v->Q v a
noncomputable def SO(K:Frag)(M:Ms)(t:WT):TT:=λd H Q=>∃A e a P,SR K M A e d H a/\t a P/\∀x c,P x->ao H c->∃b,x=.bl b/\Q b c
section
variable{X:Cx}{M:Ms}{R:Addr->Prop}{tg iter elt:Expr}{ifs:List Expr}{scope:Scope}{xs N':List Str}{pos:Pos}{ti tc te:WT}{one:Bool}{ts:List Nat}
theorem tR(L:∀i∈ts,i<xs.length)(n:St)(H:Hp)(Q:VK)
 (hh:tV X M R (Ku X.K .f) (λt Q=>ti t λz=>items z λc=>qU (λw K=>wT one ts w (A0 xs.length none++t) λa=>tc a λx=>truth x λk=>if k=true then te a λy=>K (some y)else K none) c [] λl=>Q (.lst l)) n H Q):
 Be xs.length (EO X M R true ti) (gT X.K one ts) (SO X.K (up M xs.length) tc) (SN X.K (up M xs.length) te) n H Q:=by
 obtain⟨A,H0,t,P,S,er,h,k⟩:=hh;refine⟨A,H0,t,_,S,er,h,λz hz=>?_⟩;obtain⟨c,ez,hw⟩:=qh.mp hz;refine⟨c,ez,λJ H1 s1 it D Y=>?_⟩;have iw:=it.iw;generalize O:(λ(w:W)(K:Option W->Prop)=>wT one ts w (A0 xs.length none++t) λa=>tc a λx=>truth x λk=>if k=true then te a λy=>K (some y)else K none)=f at hw;have UY:H D=none:=s1.free Y;refine⟨λi m g=>∃d r,m=c.length -i/\i<=c.length/\ao H1 g/\g D=some (.lst r)/\af X.K (λq=>FB A M n q\/q=D) g d r/\qU f (c.drop i) d (λl=>P (.lst l)),
  ⟨c.length,[],[],rfl,Mo _,aG Y _,aA,.nil,hw⟩,?_⟩
 rintro i m g ⟨d,r,rfl,hi,s2,Rm,F,v⟩;by_cases E:i<c.length
 .refine .inr ⟨iw.go i g s2 E,λx T y u s=>?_⟩;have hwi:c[i]?=some c[i]:=Dx E;rw[PQ E]at v;generalize c[i]=w at*;obtain⟨s3,I⟩:=iw.yl i g x T w s2 hwi y;have WC:ao H T:=s1.trans (s2.trans s3);have WD:T D=some (.lst r):=s3 _ _ Rm;have S3:SR X.K (up M xs.length) ⟨λq=>A.ab q\/q=D,λq=>A.B q\/q=D,none⟩ H0 (u++n) T (A0 xs.length none++t):=S.block s WC UY WD;have WE:Rep X.K (λq=>A.B q\/q=D) T w x:=by
   refine I _ λp o e z=>?_;rcases z with z|rfl
   .exact z
   .rw[Y]at e;cases e
  have hM:∀j∈ts,¬aJ (up M xs.length) j:=λj hj z=>by have:=(c6.mp z).1;have:=L j hj;lia
  rw[qU,<-O]at v;rw[O]at v;refine tgt hM S3 WE v λC a hp S4=>?_;have e4:cu (u++n) ts C=cu u ts C++n:=tQ ts C u n s L;rw[e4]at S4⊢;have hv1:(cu u ts C).length=xs.length:=by rw[tO];exact s
  refine⟨cu u ts C,hv1,rfl,⟨_,H0,a,_,S4,hp,λq H5 U s5=>?_⟩⟩;obtain⟨b,rfl,U⟩:=aQ U;refine⟨b,rfl,?_⟩;have Z:ao g H5:=s3.trans s5;cases b with
  |false=>exact⟨c.length -(i+1),by lia,d,r,rfl,E,s2.trans Z,Z _ _ Rm,F.same Z,U⟩
  |true=>
   refine⟨_,H0,a,_,S4.same s5,U,λy vy H6 hy s6 ry=>?_⟩;obtain⟨N,hy⟩:=hy;have SQ:=Z.trans s6;have UZ:=SQ _ _ Rm;refine⟨r,UZ,by rw[F.len];exact N,c.length -(i+1),by lia,d++[y],r++[vy],rfl,E,λb o e=>?_,aA,?_,hy⟩
   .rw[au (bz e Y)];exact SQ _ _ (s2 _ _ e)
   .have WG:Rep X.K (λq=>A.B q\/q=D) H6 y vy:=ry;exact af.put UZ (.inr rfl) _ ((F.same SQ).app (.cons WG .nil))
 .have e:i=c.length:=by lia
  subst e;refine .inl ⟨iw.st _ g s2 rfl,?_⟩;rw[Og,qU]at v;exact k _ _ g v (s1.trans s2) (.new UY Rm (F.less λp z=>.inl z) F)
theorem EV(s:X.calm=true)(o:cZ scope X.env.scope X.N N' xs=true)(e:∀i∈ts,i<xs.length)(p:PI X tg iter (EO X M R true ti))(q:∀C b d c,PG (aN X scope C xs N' b d c) tg (gT X.K one ts))
 (r:∀C b d c,PF (aN X scope C xs N' b d c) ifs (SO X.K (up M xs.length) tc))(he:∀C b d c,PE (aN X scope C xs N' b d c) elt (SN X.K (up M xs.length) te))(n:∀z,foldedSetIterable iter X.env z=pure z):
 VE X M R .f (.ListComp elt [⟨tg,iter,ifs,0⟩] scope pos) (λg Q=>ti g λz=>items z λm=>qU (λw K=>wT one ts w (A0 xs.length none++g) λa=>tc a λx=>truth x λk=>if k=true then te a λy=>K (some y)else K none) m [] λl=>Q (.lst l)):=
 PE.imp (Es xs N' s o p q r he n) λj H Q h=>tR e j H Q h
end
section
variable{K:Frag}{M M':Ms}{A:Fz}{H0 H H1:Hp}{σ:St}{ε:Ev}
theorem SR.rb(S:SR K M A H0 σ H ε):∃f,SR K M A f σ H ε/\ao H0 f/\ao f H/\(∀p o,H p=some o->(wJ o=true/\A.B p)\/f p=some o):=by
 classical
 obtain⟨F,O⟩:=S.ow;have d:∀p o,(if(∃i,aJ M i/\p∈F i)then none else H p)=some o->H p=some o:=λp o z=>by
  split at z
  .cases z
  .exact z
 refine⟨λp=>if(∃i,aJ M i/\p∈F i)then none else H p,⟨S.len,S.sh,d,S.dm,S.sl,F,⟨O.un,O.val,O.emp,O.nd,O.ds,λi p c a=>Do ⟨i,c,a⟩,O.na,O.all⟩⟩,λb o z=>?_,d,λp o z=>?_⟩
 .try dsimp only
  rw[Bn]
  .exact S.sm _ _ z
  .rintro⟨i,c,e⟩;rw[O.nw i b c e]at z;cases z
 .by_cases a:∃i,aJ M i/\p∈F i
  .have g:=a;obtain⟨i,c,a⟩:=a;obtain⟨j,e,h⟩:=O.has c a;rw[z]at e;cases e;exact .inl ⟨h,(O.all p).mpr (.inr g)⟩
  .exact .inr ((Bn a).trans z)
end
section
variable{K:Frag}{B A:Addr->Prop}{H Hs:Hp}
theorem BE.low{J:It}{f:List W}(h:∀p o,H p=some o->(wJ o=true/\B p)\/Hs p=some o)(d:∀p,A p->B p)(i:BE K false B H J f):BE K false A Hs J f:=by
 have rd:∀{a:Addr}{b:List V},Rz H a (.lst b)->¬B a->Rz Hs a (.lst b):=λ{a b} r n=>by
  rcases h a _ r.at with⟨_,z⟩|z
  .exact(n z).elim
  .exact .inl z
 cases i with
 |lst q n r=>exact .lst (rd q (n rfl)) (λe z=>n e (d _ z)) (af.chg h (λp _ _ z=>d p z) _ r)
 |@tup a b _ q r=>
  refine .tup ?_ (af.chg h (λp _ _ z=>d p z) _ r);rcases q with(q|⟨o,q⟩)|q
  .rcases h a _ q with⟨z,_⟩|z
   .cases z
   .exact .inl (.inl z)
  .rcases h a _ q with⟨z,_⟩|z
   .cases z
   .exact .inl (.inr ⟨o,z⟩)
  .exact .inr q
 |pS c n=>exact .pS c n
 |EN c g n=>exact .EN c g n
end
abbrev WS:=Dn->Ev->Prop
noncomputable def dz:Md->Bool
 |.io _=>true
 |_=>false
noncomputable def vB(K:Frag)(b:Addr->Prop)(g:Option V)(f H':Hp)(m:Md)(w:W)(v:V):Prop:=
 match m with
 |.io h=>∃c d e a,w=.tup [c,d]/\g=some e/\a.Nodup/\(∀p∈a,f p=none/\¬b p)/\Fp K (λp=>b p\/p∈a) H' h d e a/\Rep K (λp=>b p\/p∈a) H' c v
 |m=>cI K b f H' m w v
theorem vB.of{K:Frag}{a:Addr->Prop}{c:Option V}{b H':Hp}{m:Md}{w:W}{v:V}(d:dz m=false)(h:cI K a b H' m w v):vB K a c b H' m w v:=by
 cases m with
 |io _=>cases d
 |_=>exact h
theorem vB.back{K:Frag}{d:Addr->Prop}{a:Option V}{f e H':Hp}{m:Md}{w:W}{v:V}(s:ao f e)(h:vB K d a e H' m w v):vB K d a f H' m w v:=by
 cases m with
 |io r=>obtain⟨g,i,j,q,o,n,l,c,k⟩:=h;exact⟨g,i,j,q,o,n,l,λp b=>⟨s.free (c p b).1,(c p b).2⟩,k⟩
 |_=>exact cI.back s (λ_ z=>z) h
structure KS(X:Cx)(M:Ms)(m:Md)(ab:Addr->Prop)(s0:Option V)(H0:Hp)(d:Dn)(D:Ends):Prop where
 nx:∀A ε σ H,A.ab=ab->A.s0=s0->d.nx ε->SR X.K M A H0 σ H ε->D.nx σ H
 rt:∀w v H',d.rt w->ao H0 H'->vB X.K ab s0 H0 H' m w v->D.rt v H'
 bk:∀A ε σ H,A.ab=ab->A.s0=s0->d.bk ε->SR X.K M A H0 σ H ε->D.bk σ H
 ct:∀A ε σ H,A.ab=ab->A.s0=s0->d.ct ε->SR X.K M A H0 σ H ε->D.ct σ H
noncomputable def sV(X:Cx)(M:Ms)(m:Md)(t:WS):TS:=λD c H=>∃A a b d,SR X.K M A a c H b/\ER X a d.ex/\A.s0.isSome=dz m/\t d b/\KS X M m A.ab A.s0 a d D
abbrev VS(X:Cx)(M:Ms)(m:Md)(st:Stmt)(t:WS):Prop:=PS X st (sV X M m t)
abbrev wY(X:Cx)(M:Ms)(m:Md)(st:List Stmt)(t:WS):Prop:=sG X st (sV X M m t)
theorem PS.imp{X:Cx}{e:Stmt}{t t':TS}(h:PS X e t)(k:∀D a H,t' D a H->t D a H):PS X e t':=λb s a H D I w=>h b s a H D I (k D a H w)
theorem sG.imp{X:Cx}{e:List Stmt}{t t':TS}(h:sG X e t)(k:∀D a H,t' D a H->t D a H):sG X e t':=λb s a H D I w=>h b s a H D I (k D a H w)
section
variable{X:Cx}{M M':Ms}{R:Addr->Prop}{m mr m0:Md}{st:Stmt}{rest:List Stmt}{t u:WS}{e e1 e2 c:Expr}{te t1 t2 tc:(Addr->Prop)->WT}{pos pos':Pos}{x:Str}{i:Nat}{π:List ir}
theorem EW:wY X M m [] (λd a=>d.nx a):=sG.imp DJ<|by rintro D b H ⟨A,g,a,d,S,f,hz,h,k⟩;exact k.nx A a b H rfl rfl h S
theorem EX(h:VS X M m st t):wY X M m [st] t:=qD h
theorem BG(h:VS X M m st t)(k:wY X M m rest u):wY X M m (st::rest) (λd b=>t {d with nx:=u d} b):=
 sG.imp (jo h k)<|by rintro D r H ⟨A,j,b,d,S,f,hz,h,k⟩;exact⟨A,j,b,{d with nx:=u d},S,f,hz,h,λq a l s o g n p=>⟨q,j,a,d,p,f,(by rw[g];exact hz),n,by rw[o,g];exact k⟩,k.rt,k.bk,k.ct⟩
theorem EY{st:List Stmt}(h:wY X M' m st t)(j:∀x∈M',x∈M)(g:dz m=true->aJ M 0->aJ M' 0):wY X M m st (λd a=>t {d with nx:=λ_=>False,bk:=λ_=>False,ct:=λ_=>False} a):=sG.imp h<|by rintro D B H ⟨A,p,a,d,S,l,hz,h,k⟩;obtain⟨y,n,b,_,o⟩:=S.sub (M':=M') j A.s0 (λv e=>⟨e,g (by rw[<-hz,e];rfl) (S.sl v e).2⟩);refine⟨y,p,a,{d with nx:=λ_=>False,bk:=λ_=>False,ct:=λ_=>False},o,l,by rw[b];exact hz,h,λ_ _ _ _ _ _ z=>z.elim,λw v q f s r=>k.rt w v q f s ?_,λ_ _ _ _ _ _ z=>z.elim,λ_ _ _ _ _ _ z=>z.elim⟩;rw[b,n]at r;exact r
theorem K2:VS X M m (.Break pos) (λd a=>d.bk a):=PS.imp AA<|by rintro D b H ⟨A,g,a,d,S,f,hz,h,k⟩;exact k.bk A a b H rfl rfl h S
theorem EZ(f:∀{l:TE},PE X e l->PS X st (mL l (fL i)))(j:∀x,x∈M↔x=(i,m0)\/x∈M')(E:¬aJ M' i)(g:dz m=true->i≠0)(he:∀R,VE X M' R m0 e (te R)):VS X M m st (λd b=>te d.ex b λw=>d.nx (b.set i (some w))):=by
 rintro a s o H D I ⟨A,U,b,d,S,K,hz,h,k⟩;have J:∀v,A.s0=some v->A.s0=some v/\aJ M' 0:=λv e=>by
  refine⟨e,?_⟩;have C:dz m=true:=by rw[<-hz,e];rfl
  obtain⟨q,F⟩:=(S.sl v e).2;rcases(j _).mp F with z|z
  .cases z;exact(g C rfl).elim
  .exact⟨q,z⟩
 obtain⟨Z,N,L,hb,n⟩:=S.sub (M':=M') (λx y=>(j x).mpr (.inr y)) A.s0 J;refine f (he d.ex) a s o H D I ⟨Z,U,b,_,n,K,h,λw v T B p r=>?_⟩;obtain⟨Y,P,O,_,Q⟩:=n.own j E p r;exact k.nx Y _ _ T (P.trans N) (O.trans L) B Q
theorem K3{f:List Nat}(g:∀{j:TE},PE X e j->PS X st (mL j (gT X.K false f)))(z:∀i∈f,¬aJ M i)(he:∀R,VE X M R .s e (te R)):
 VS X M m st (λd b=>te d.ex b λw=>match w with|.tup l=>l.length=f.length/\d.nx (bY b f l)|_=>False):=by
 rintro a s o H D I ⟨A,F,b,d,S,B,hz,h,k⟩;refine g (he d.ex) a s o H D I ⟨A,F,b,_,S,B,h,λw v E n q r=>?_⟩;cases w with
 |tup l=>exact tgt (P:=d.nx) z (S.same q) r.aO n λJ p y C=>k.nx A _ _ E rfl rfl y C
 |_=>exact n.elim
theorem K4{a:List Nat}{es:List Expr}{ta:(Addr->Prop)->Ev->(List W->Prop)->Prop}(n:∀{o:TA},PA X es o->PS X st (λD f H=>o f H λvs H1=>vs.length=a.length/\D.nx (cu f a vs) H1))(q:∀i∈a,¬aJ M i)(he:∀R,VA X M R es (ta R)):
 VS X M m st (λd g=>ta d.ex g λj=>j.length=a.length/\d.nx (bY g a j)):=by
 rintro b s f H D I ⟨A,w,g,d,S,v,hz,h,k⟩;refine n (he d.ex) b s f H D I ⟨A,w,g,_,S,v,h,λj vs H1 l p r=>?_⟩;exact⟨by rw[af.len r,l.1],k.nx A _ _ H1 rfl rfl l.2 (SR.bY a j vs q (S.same p) r l.1)⟩
theorem iu{K:Frag}{A:Fz}{L H:Hp}{C:St}{D:Ev}{w:W}{l:List W}(S:SR K M A L C H D)(b:(i,m0)∈M)(hp:gC m0 π=some .f)(N:look D i=some w)(hu:bD w π=some (.lst l)):
 ∃v p vs,C[i]?=some (some v)/\sq K H v π (.ref p)/\H p=some (.lst vs)/\af K A.B H l vs/\A.B p/\∀H1,ao H H1->∀(d:List W)(a:List V),af K A.B H1 d a->
  ∃h,h.ab=A.ab/\h.s0=A.s0/\(∀q o,H1 q=some o->h.B q->A.B q)/\qf A.B H1 (upd H1 p (.lst a))/\SR K M h L C (upd H1 p (.lst a)) (D.set i (some (setAt w π (.lst d)))):=by
 obtain⟨F,O⟩:=S.ow;obtain⟨v,g,j⟩:=O.val i m0 w b N;obtain⟨v',Y,F',U,I,r,fp,y⟩:=Fp.path π m0 j hp hu;obtain⟨ws,p,vs,e1,rfl,rfl,E,h4⟩:=fp;cases e1;have Z:p∈F i:=by rw[I];simp
 have J:A.B p:=(O.all p).mpr (.inr ⟨i,⟨m0,b⟩,Z⟩);refine⟨v,p,vs,g,r,E,h4,J,λH1 s d a hr=>?_⟩;have Q:=S.same s;obtain⟨F0,O0⟩:=Q.ow;have O1:Kf K M A L C H1 D F:=⟨O.un,λi m w b e=>let⟨v,g,j⟩:=O.val i m w b e;⟨v,g,Fp.mv s (λ_ _ _ z=>z) m j⟩,O.emp,O.nd,O.ds,O.nw,O.na,O.all⟩;have T:=s _ _ E;have P:qf A.B H1 (upd H1 p (.lst a)):=.put T rfl J;have SX:p∉Y++U:=by
  have:=O.nd i ⟨m0,b⟩;rw[I]at this;intro z;have g:=Pv.mp this;rcases FV.mp z with z|z
  .have j:=Pv.mp g.1;exact j.2.2 p z p (by simp) rfl
  .exact g.2.2 p (by simp) p z rfl
 have k:Fp K A.B (upd H1 p (.lst a)) m0 (setAt w π (.lst d)) v (Y++[p]++U):=by
  refine y (upd H1 p (.lst a)) A.B (.lst d) [p] ?_ (λq o e=>?_) (λq _ _ z=>z)
  .exact⟨d,p,a,rfl,rfl,rfl,aA,af.chg P (λ_ _ _ z=>z) d hr⟩
  .by_cases n:q=p
   .subst n;rw[E]at e;cases e;exact .inl ⟨rfl,J,SX⟩
   .exact .inr (by rw[au n];exact s _ _ e)
 rw[<-I]at k;have hc:∀q o,H1 q=some o->(wJ o=true/\q∈F i)\/upd H1 p (.lst a) q=some o:=λq o e=>by
  by_cases n:q=p
  .subst n;rw[T]at e;cases e;exact .inl ⟨rfl,Z⟩
  .exact .inr (by rw[au n];exact e)
 have P4:Fp K (λq=>(A.B q/\q∉F i)\/q∈F i) (upd H1 p (.lst a)) m0 (setAt w π (.lst d)) v (F i):=Fp.mv (ao.refl _) (λq _ _ z=>by
  rcases z with z|z
  .exact z.1
  .exact(O.all q).mpr (.inr ⟨i,⟨m0,b⟩,z⟩)) m0 k
 obtain⟨h,a1,a2,_,a3,a4,a5⟩:=O1.chg (F':=F i) Q b N g hc (O.nd i ⟨m0,b⟩) (λq hq=>.inl hq) P4;exact⟨h,a1,a2,a3,P,a5⟩
theorem rm{a:Ev}{P:List W->Prop}(h:match look a i with|some (.lst l)=>P l|_=>False):∃l,look a i=some (.lst l)/\P l:=by
 cases b:look a i with
 |none=>rw[b]at h;exact h.elim
 |some d=>
  rw[b]at h;cases d with
  |lst l=>exact⟨l,rfl,h⟩
  |_=>exact h.elim
theorem BH{b:Ev}{P:W->List W->Prop}(h:match look b i with|some a=>(match bD a π with|some (.lst l)=>P a l|_=>False)|none=>False):∃a l,look b i=some a/\bD a π=some (.lst l)/\P a l:=by
 cases f:look b i with
 |none=>rw[f]at h;exact h.elim
 |some a=>
  rw[f]at h;dsimp only at h;cases d:bD a π with
  |none=>rw[d]at h;exact h.elim
  |some u=>
   rw[d]at h;cases u with
   |lst l=>exact⟨a,l,rfl,d,h⟩
   |_=>exact h.elim
theorem Ro:gC m0 []=some m0:=by cases m0<;>rfl
theorem E3{w:W}:bD w []=some w:=by cases w<;>rfl
theorem K5{w u:W}:setAt w [] u=u:=by cases w<;>rfl
theorem K6(q:∀{y:TE},PE X e y->PS X st (mK (NF X.K "list" jz (kq X.K i π) (pV y yx))))(L:(i,m0)∈M)(J:gC m0 π=some .f)(he:∀R,VE X M R .s e (te R)):
 VS X M m st (λd a=>match look a i with|some j=>(match bD j π with|some (.lst l)=>te d.ex a λw=>l.length<sizeLine/\d.nx (a.set i (some (setAt j π (.lst (l++[w])))))|_=>False)|none=>False):=by
 rintro g s E H D I ⟨A,Y,a,d,S,P,hz,h,k⟩;obtain⟨j,l,e1,e2,h⟩:=BH h;obtain⟨F,p,n,O,N,C,B,hB,b⟩:=iu S L J e1 e2;refine q (he d.ex) g s E H D I ⟨F,_,O,N,.inl ⟨rfl,n,.inl (.inl C)⟩,A,Y,a,_,S,P,h,λw v U z o r=>?_⟩;obtain⟨Z,Q,a2,_,_,T⟩:=b U o (l++[w]) (n++[v]) ((B.same o).app (.cons r.aO .nil));exact⟨p,n,v,rfl,rfl,o _ _ C,by rw[B.len];exact z.1,k.nx Z _ _ _ Q a2 z.2 T⟩
theorem K7(o:∀{q:TE},PE X e q->PS X st (mK (NF X.K "list" jz (gG i) (pV q yx))))(F:(i,.f)∈M)(he:∀R,VE X M R .s e (te R)):
 VS X M m st (λd a=>match look a i with|some (.lst l)=>te d.ex a λw=>l.length<sizeLine/\d.nx (a.set i (some (.lst (l++[w]))))|_=>False):=by
 rintro g s E H D I ⟨A,Q,a,d,S,N,hz,h,k⟩;obtain⟨l,e1,h⟩:=rm h;obtain⟨U,p,j,L,J,B,z,Y,b⟩:=iu (π:=[]) S F Ro e1 E3;cases J;refine o (he d.ex) g s E H D I ⟨_,L,.inl ⟨rfl,j,.inl (.inl B)⟩,A,Q,a,_,S,N,h,λw v P y n r=>?_⟩;obtain⟨T,O,a2,_,_,C⟩:=b P n (l++[w]) (j++[v]) ((z.same n).app (.cons r.aO .nil));rw[K5]at C;exact⟨p,j,v,rfl,rfl,n _ _ B,by rw[z.len];exact y.1,k.nx T _ _ _ O a2 y.2 C⟩
theorem BJ(he:∀R,VE X [] R mr e (te R))(o:mr=m\/m=.s)(j:dz m=false):VS X M m (.Return (some e) pos) (λd b=>te d.ex b d.rt):=by
 rintro a s n H D I ⟨A,q,b,d,S,p,hz,h,k⟩;refine jU (he d.ex) a s n H D I ⟨_,q,b,_,S.go,p,h,λw v l g f r=>?_⟩;rcases o with rfl|rfl
 .exact k.rt w v l g (S.sm.trans f) (.of j (r.back S.sm λ_ z=>z))
 .exact k.rt w v l g (S.sm.trans f) (.of j ((r.s S.dm).back S.sm λ_ z=>z))
theorem E4(he:∀R,VE X M R .s e (te R)):VS X M .s (.Return (some e) pos) (λd b=>te d.ex b d.rt):=by rintro a s f H D I ⟨A,o,b,d,S,l,hz,h,k⟩;refine jU (he d.ex) a s f H D I ⟨A,o,b,_,S,l,h,λw v n j g r=>?_⟩;exact k.rt w v n j (S.sm.trans g) (.of rfl (cI.back S.sm S.sub' r))
theorem E5(he:∀R,VE X M R m e (te R))(l:dz m=false):VS X M m (.Return (some e) pos) (λd b=>te d.ex b d.rt):=by rintro a s f H D I ⟨A,p,b,d,S,n,hz,h,k⟩;refine jU (he d.ex) a s f H D I ⟨A,p,b,_,S,n,h,λw v o j g r=>?_⟩;exact k.rt w v o j (S.sm.trans g) (.of l (cI.back S.sm S.sub' r))
theorem E6(he:PE X e (gG i))(b:(i,m)∈M)(n:dz m=false):VS X M m (.Return (some e) pos) (λd f=>match look f i with|some w=>d.rt w|none=>False):=by
 rintro a s j H D I ⟨A,B,f,d,S,y,hz,h,k⟩
 try dsimp only at h
 cases g:look f i with
 |none=>rw[g]at h;exact h.elim
 |some w=>
  rw[g]at h;obtain⟨F,O⟩:=S.ow;obtain⟨v,r,o⟩:=O.val i m w b g;refine jU he a s j H D I ⟨_,r,k.rt _ _ H h S.sm (.of n ⟨F i,O.nd i ⟨m,b⟩,λp l=>O.nw i p ⟨m,b⟩ l,Fp.mv (ao.refl _) (λq _ _ z=>?_) m o⟩)⟩;rcases z with z|z
  .exact(O.all q).mpr (.inl z)
  .exact(O.all q).mpr (.inr ⟨i,⟨m,b⟩,z⟩)
theorem rq{K:Frag}{A:Fz}{n H:Hp}{o:St}{h:Ev}{g b:W}{v:V}(S:SR K M A n o H h)(a:(0,m0)∈M)(q:look h 0=some b)(f:∃d,A.s0=some d)(r:Rep K A.B H g v):vB K A.ab A.s0 n H (.io m0) (.tup [g,b]) v:=by obtain⟨d,f⟩:=f;obtain⟨F,O⟩:=S.ow;obtain⟨u,l,s⟩:=O.val 0 m0 b a q;rw[(S.sl d f).1]at l;cases l;have k:∀p,(A.ab p\/p∈F 0)->A.B p:=λp z=>(O.all p).mpr (z.imp id λz=>⟨0,⟨m0,a⟩,z⟩);exact⟨g,b,d,F 0,rfl,f,O.nd 0 ⟨m0,a⟩,λp j=>⟨O.nw 0 p ⟨m0,a⟩ j,O.na 0 p ⟨m0,a⟩ j⟩,Fp.mv (ao.refl _) (λp _ _ z=>k p z) m0 s,r.less k⟩
theorem P5{a b:List Stmt}(r:∀R,VT X M R c (tc R))(w:wY X M m a t)(v:wY X M m b u):VS X M m (.If c a b pos) (λd f=>tc d.ex f λx=>truth x λk=>if k=true then t d f else u d f):=by
 rintro g s p H D I ⟨A,n,f,d,S,l,hz,h,k⟩;refine HN (r d.ex) w v g s p H D I ⟨A,n,f,_,S,l,h,λx y j o=>?_⟩;obtain⟨q,rfl,j⟩:=aQ j;refine⟨q,rfl,?_⟩;cases q with
 |true=>exact⟨A,n,f,d,S.same o,l,hz,j,k⟩
 |false=>exact⟨A,n,f,d,S.same o,l,hz,j,k⟩
end
theorem vC{X:Cx}{st:Stmt}{t:TS}(h:PS X.kO st t):PS X st t:=PS.kO h
section
variable{X:Cx}{M:Ms}{m:Md}{body:List Stmt}{tb:WS}{c iter tg:Expr}{tc:WT}{ti:(Addr->Prop)->WT}{pos:Pos}{one:Bool}{ts:List Nat}
theorem K8(L:VT X.kO M (λ_=>False) c tc)(O:wY X.kO M m body tb):VS X M m (.While c body [] pos) (λd r=>Ko (λr Q=>tc r λx=>truth x Q) tb d r):=by
 refine PS.imp (vC (sH PassesOwn.never L O)) ?_;rintro D T H ⟨A,u,r,d,S,U,hz,h,k⟩;obtain⟨J,⟨B,F⟩,s⟩:=h;refine⟨λn b f=>∃e a,e.ab=A.ab/\e.s0=A.s0/\J n a/\SR X.K M e u b f a,⟨B,A,r,rfl,rfl,F,S⟩,?_⟩;rintro n z Y ⟨y,v,t,p,E,w⟩;refine⟨y,u,v,_,w,.none,s n v E,λx R o s2=>?_⟩;obtain⟨q,rfl,o⟩:=aQ o;refine⟨q,rfl,?_⟩;cases q with
 |true=>obtain⟨N,P,o⟩:=o;refine⟨λb f=>∃e a,e.ab=A.ab/\e.s0=A.s0/\N a/\SR X.K M e u b f a,λb f ⟨e,a,j,a2,i,g⟩=>?_,y,u,v,_,w.same s2,.none,(by rw[p];exact hz),o,⟨λe a b f j a2 i g=>⟨e,a,j.trans t,a2.trans p,i,g⟩,by rw[t,p];exact k.rt,λe a b f j a2 i g=>k.nx e a b f (j.trans t) (a2.trans p) i g,λe a b f j a2 i g=>⟨e,a,j.trans t,a2.trans p,i,g⟩⟩⟩;obtain⟨C,l,I⟩:=P a i;exact⟨C,l,e,a,j,a2,I,g⟩
 |false=>exact k.nx y _ _ R t p o (w.same s2)
theorem K9(hc:X.calm=true)(hM:∀i∈ts,¬aJ M i)(Z:PI X.kO tg iter (EO X.kO M (λ_=>False) false (ti λ_=>False)))(hg:PG X.kO tg (gT X.K one ts))(hb:wY X.kO M m body tb)(hs:∀x,foldedSetIterable iter X.env x=pure x):
 VS X M m (.For tg iter body [] pos) (λd I=>ti (λ_=>False) I λz=>items z λg=>fS (λw P a=>wT one ts w a λl=>tb P l) d g I):=by
 refine PS.imp (vC (JC PassesOwn.never hc Z hg hb hs)) ?_;rintro D σ H ⟨A,H0,I,d,S,er,hz,h,k⟩;refine⟨A,H0,I,_,S,.none,h,λz U=>?_⟩;obtain⟨g,ez,hw⟩:=qh.mp U;refine⟨g,ez,λJ H1 s1 it=>?_⟩;have S1:=S.same s1;obtain⟨N,Ss,Q,b1,b2⟩:=S1.rb;have low:BE X.K false A.ab N J g:=it.low (λp o e=>b2 p o e) λp z=>S.sub' p z;have iw:=low.iw;refine⟨λi n f r=>n=g.length -i/\i<=g.length/\∃b a,b.ab=A.ab/\b.s0=A.s0/\SR X.K M b N f r a/\fS (λw P a=>wT one ts w a λl=>tb P l) d (g.drop i) a,⟨g.length,rfl,Mo _,A,I,rfl,rfl,Ss,hw⟩,?_⟩;have up:∀{b:Fz}{f:St}{r:Hp}{a:Ev},SR X.K M b N f r a->SR X.K M b H0 f r a:=λ{b f r a} q=>by obtain⟨F,O⟩:=q.ow;exact⟨q.len,q.sh,Q.trans q.sm,q.dm,q.sl,F,⟨O.un,O.val,O.emp,O.nd,O.ds,λi p Z e=>Q.free (O.nw i p Z e),O.na,O.all⟩⟩
 rintro i n T H2 ⟨rfl,hi2,A2,dJ,C,B,E,R⟩;by_cases u:i<g.length
 .refine .inr ⟨iw.go i H2 E.sm u,λf r=>∃b a,b.ab=A.ab/\b.s0=A.s0/\SR X.K M b N f r a/\fS (λw P a=>wT one ts w a λl=>tb P l) d (g.drop (i+1)) a,by rintro f r ⟨b,a,v,a2,t,s⟩;exact⟨g.length -(i+1),by omega,rfl,u,b,a,v,a2,t,s⟩,λx H3 y=>?_⟩;have Y:g[i]?=some g[i]:=Dx u;rw[PQ u,fS]at R;generalize g[i]=w at*;obtain⟨s3,L⟩:=iw.yl i H2 x H3 w E.sm Y y;have hr:Rep X.K (FB A2 M T) H3 w x:=L _ λp o e z=>by
   obtain⟨F,O⟩:=E.ow;rcases(O.all p).mp z with z|⟨j,hj,e2⟩
   .rw[C]at z;exact z
   .rw[O.nw j p hj e2]at e;cases e
  refine tgt hM (E.same s3) hr R λvs a hp S4=>?_;exact⟨A2,N,a,_,S4,.none,(by rw[B];exact hz),hp,⟨λb l P6 U0 v a2 t s=>⟨b,l,v.trans C,a2.trans B,s,t⟩,λw' v' r t s q3=>k.rt w' v' r t (Q.trans s) (by rw[C,B]at q3;exact q3.back Q),λb l P6 U0 v a2 t s=>k.nx b _ _ _ (v.trans C) (a2.trans B) t (up s),λb l P6 U0 v a2 t s=>⟨b,l,v.trans C,a2.trans B,s,t⟩⟩⟩
 .have e:i=g.length:=by omega
  subst e;refine .inl ⟨iw.st _ H2 E.sm rfl,?_⟩;rw[Og,fS]at R;exact k.nx A2 _ _ _ C B R (up E)
end
structure Go(A:Fz)(H:Hp)(A':Fz)(H':Hp):Prop where
 ab:A'.ab=A.ab
 s0:A'.s0=A.s0
 B:∀p o,H p=some o->A'.B p->A.B p
 ch:qf A.B H H'
theorem Go.same{A:Fz}{H H':Hp}(s:ao H H'):Go A H A H':=⟨rfl,rfl,λ_ _ _ z=>z,.same s⟩
theorem Go.trans{A c b:Fz}{H H1 a:Hp}(g:Go A H c H1)(k:Go c H1 b a):Go A H b a:=by
 refine⟨k.ab.trans g.ab,k.s0.trans g.s0,λp o e z=>?_,λp o e=>?_⟩
 .rcases g.ch p o e with⟨_,y⟩|y
  .exact y
  .exact g.B p o e (k.B p o y z)
 .rcases g.ch p o e with y|y
  .exact .inl y
  .rcases k.ch p o y with⟨f,d⟩|h
   .exact .inl ⟨f,g.B p o e d⟩
   .exact .inr h
theorem Go.rep{K:Frag}{A a:Fz}{H H1:Hp}{w:W}{v:V}(g:Go A H a H1)(h:Rep K A.B H w v):Rep K a.B H1 w v:=Rep.chg g.ch g.B w h
theorem Go.SY{K:Frag}{A a:Fz}{H H1:Hp}{w:List W}{v:List V}(g:Go A H a H1)(h:af K A.B H w v):af K a.B H1 w v:=af.chg g.ch g.B w h
abbrev tS:=Ev->(W->Ev->Prop)->Prop
abbrev Ik:=Ev->(List W->Ev->Prop)->Prop
noncomputable def tP(X:Cx)(M:Ms)(R:Addr->Prop)(t:tS):TE:=λe H Q=>∃A c f P,SR X.K M A c e H f/\ER X c R/\t f P/\∀d w v b a,P w a->Go A H d b->SR X.K M d c e b a->Rep X.K d.B b w v->Q v b
noncomputable def U1(X:Cx)(M:Ms)(R:Addr->Prop)(t:tS):TT:=λe H Q=>∃A c f P,SR X.K M A c e H f/\ER X c R/\t f P/\∀g x d a,P x a->Go A H g d->SR X.K M g c e d a->∃b,x=.bl b/\Q b d
noncomputable def WH(X:Cx)(M:Ms)(R:Addr->Prop)(t:Ik):TA:=λe H Q=>∃A c f P,SR X.K M A c e H f/\ER X c R/\t f P/\∀d g h b a,P g a->Go A H d b->SR X.K M d c e b a->af X.K d.B b g h->Q h b
abbrev VP(X:Cx)(M:Ms)(R:Addr->Prop)(e:Expr)(t:tS):Prop:=PE X e (tP X M R t)
abbrev wZ(X:Cx)(M:Ms)(R:Addr->Prop)(e:Expr)(t:tS):Prop:=PT X e (U1 X M R t)
abbrev Il(X:Cx)(M:Ms)(R:Addr->Prop)(e:Expr)(t:tS):Prop:=PW X e (U1 X M R t)
abbrev BK(X:Cx)(M:Ms)(R:Addr->Prop)(es:List Expr)(t:Ik):Prop:=PA X es (WH X M R t)
section
variable{X:Cx}{M:Ms}{R:Addr->Prop}{m m0:Md}{e a b c:Expr}{es rest:List Expr}{t ta tb:tS}{tl:Ik}{pos apos cpos p:Pos}{i j:Nat}{st:Stmt}{x:Str}{π:List ir}
theorem P7{t:WT}(h:VE X M R .s e t):VP X M R e (λd Q=>t d λw=>Q w d):=PE.imp h<|by rintro o H Q ⟨A,l,d,P,S,g,h,k⟩;exact⟨A,l,d,_,S,g,h,λw v n f s r=>k A w v n d f (.same s) (S.same s) r.aO⟩
theorem La{t:WT}(h:VT X M R e t):wZ X M R e (λd Q=>t d λw=>Q w d):=PT.imp h<|by rintro o H Q ⟨A,l,d,P,S,g,h,k⟩;exact⟨A,l,d,_,S,g,h,λw n f s=>k A w n d f (.same s) (S.same s)⟩
theorem Lb(E:(i,.f)∈M)(C:PE X e (gG i))(n:attributeBase e "pop" X.env (eval e X.env)=eval e X.env)(d:(apos.endLine==cpos.line)=true):
 VP X M R (.Call (.Attribute e "pop" apos) [] [] cpos) (λs Q=>match look s i with|some (.lst l)=>∃w,l[l.length -1]?=some w/\Q w (s.set i (some (.lst l.dropLast)))|_=>False):=
 PE.imp (JS Pt PySem.F.slot_list_pop PySem.F.type_list_pop JU C n d)<|by rintro U H Q ⟨A,H0,s,P,S,er,h,k⟩;obtain⟨l,N,w,L,h⟩:=rm h;obtain⟨Y,q,r,J,I,y,u,Z,o⟩:=iu (π:=[]) S E Ro N E3;cases I;obtain⟨v,K,D⟩:=u.get L;obtain⟨B,T,a2,a3,O,z⟩:=o H (ao.refl H) l.dropLast r.dropLast u.dropLast;rw[K5]at z;have g:Go A H B (upd H q (.lst r.dropLast)):=⟨T,a2,a3,O⟩;exact⟨_,J,.inl ⟨rfl,r,.inl (.inl y)⟩,q,r,v,rfl,rfl,y,by rw[u.len];exact K,k B w v _ _ h g z (g.rep D)⟩
theorem Lc{op:Operator}(ha:VP X M R a ta)(hb:VP X M R b tb):VP X M R (.BinOp a op b pos) (λD Q=>ta D λx J=>tb J λy f=>eV op x y λz=>Q z f):=by rintro n s N H Q I ⟨A,L,D,P,S,U,p,k⟩;refine wpAny_BinOp (bin ha hb I (R:=λC q l=>∃x y d f,eV op x y (λz=>P z f)/\Go A H d l/\SR X.K M d L N l f/\Rep X.K d.B l x C/\Rep X.K d.B l y q) ⟨A,L,D,_,S,U,p,λA1 x C H1 J F g1 S1 Z=>⟨A1,L,J,_,S1,U,F,λd y q l f E T o Y=>⟨x,y,d,f,E,g1.trans T,o,T.rep Z,Y⟩⟩⟩ ?_);rintro v u s2 C q l I2 rv ru ⟨x,y,d,f,h,g,o,F,E⟩;exact vt op n s2 N l d.B x y C q v u _ Q I2 o.dom rv ru F.b E.b h λw z H' pw O r=>k d w z H' f pw (g.trans (.same O)) (o.same O) (r.rep o.dom)
theorem Ld{op:CmpOp}(hu:X.A.units+64<cLine)(hm:behindInMarks op b=false)(ha:VP X M R a ta)(hb:VP X M R b tb):VP X M R (.Compare a [op] [b] pos) (λD Q=>ta D λx J=>tb J λy f=>dM op x y λz=>Q z f):=by rintro n s N H Q I ⟨A,L,D,P,S,U,p,k⟩;refine wpAny_Compare1 (bin ha hb I (R:=λC q l=>∃x y d f,dM op x y (λz=>P z f)/\Go A H d l/\SR X.K M d L N l f/\Rep X.K d.B l x C/\Rep X.K d.B l y q) ⟨A,L,D,_,S,U,p,λA1 x C H1 J F g1 S1 Z=>⟨A1,L,J,_,S1,U,F,λd y q l f E T o Y=>⟨x,y,d,f,E,g1.trans T,o,T.rep Z,Y⟩⟩⟩ ?_) hm;rintro v u s2 C q l I2 rv ru ⟨x,y,d,f,h,g,o,F,E⟩;exact rj hu op n s2 N l d.B x y C q v u _ Q I2 o.dom rv ru F.b E.b h λw z H' pw O r=>k d w z H' f pw (g.trans (.same O)) (o.same O) (r.rep o.dom)
theorem E7{op:CmpOp}(hu:X.A.units+64<cLine)(hm:behindInMarks op b=false)(ha:VP X M R a ta)(hb:VP X M R b tb):wZ X M R (.Compare a [op] [b] pos) (λJ Q=>ta J λx O=>tb O λy n=>dM op x y λz=>Q z n):=by
 rintro l s F H Q I ⟨A,T,J,P,S,er,p,k⟩;have q:=bin ha hb I (R:=λD C o=>∃x y d n,dM op x y (λz=>P z n)/\Go A H d o/\SR X.K M d T F o n/\Rep X.K d.B o x D/\Rep X.K d.B o y C) ⟨A,T,J,_,S,er,p,λA1 x D H1 O N g1 S1 rx=>⟨A1,T,O,_,S1,er,N,λd y C o n L Z E ry=>⟨x,y,d,n,L,g1.trans Z,E,Z.rep rx,ry⟩⟩⟩
  (f:=compareOp op) (Q:=EP X l F λz U=>∃b,z=.bl b/\Q b U)<|by rintro v u s2 D C o I2 rv ru ⟨x,y,d,n,h,g,E,N,L⟩;refine rj hu op l s2 F o d.B x y D C v u _ _ I2 E.dom rv ru N.b L.b h λw z U pw Y r=>?_;obtain⟨b,rfl,q⟩:=k d w U n pw (g.trans (.same Y)) (E.same Y);exact⟨b,r.aO.iU,q⟩
 refine wpAny_isTrue_Compare1 (bq q λv s1 q1=>bq q1 λu s2 q2=>bq q2 λc s3 ⟨z,H3,I3,r3,b,ez,q3⟩=>?_) hm;subst ez;cases r3;exact Q1 ⟨H3,I3,q3⟩
theorem w4(he:∀d,isTrue e X.env d=(do let v<-d;standAt e.pos;holding [v] (truthy v)))(h:VP X M R e t):wZ X M R e t:=PT.imp (As h he)<|by rintro y H Q ⟨A,u,f,P,S,o,h,k⟩;refine⟨A,u,f,P,S,o,h,λw x B s q l n r g=>?_⟩;obtain⟨b,rfl,z⟩:=k w _ s q l n r;exact⟨b,g.iU,z⟩
theorem BL(d:wZ X M R a ta):Il X M R (.BoolOp .And [a] pos) ta:=wg d
theorem E8(z:wZ X M R a ta)(w:Il X M R (.BoolOp .And (b::rest) pos) tb):Il X M R (.BoolOp .And (a::b::rest) pos) (λg Q=>ta g λx d=>truth x λk=>if k=true then tb d Q else Q (.bl false) d):=
 PW.imp (Av z w)<|by
  rintro J H Q ⟨A,s,g,P,S,n,h,k⟩;refine⟨A,s,g,_,S,n,h,λu x F o f l r=>?_⟩;obtain⟨q,rfl,f⟩:=aQ f;refine⟨q,rfl,?_⟩;cases q with
  |true=>exact⟨u,s,o,P,r,n,f,λI y E C v B D=>k I _ E C v (l.trans B) D⟩
  |false=>obtain⟨b,e,q⟩:=k u _ F o f l r;cases e;exact q
theorem E9(d:wZ X M R a ta):Il X M R (.BoolOp .Or [a] pos) ta:=Au d
theorem Le(z:wZ X M R a ta)(w:Il X M R (.BoolOp .Or (b::rest) pos) tb):Il X M R (.BoolOp .Or (a::b::rest) pos) (λg Q=>ta g λx d=>truth x λk=>if k=true then Q (.bl true) d else tb d Q):=
 PW.imp (HM z w)<|by
  rintro J H Q ⟨A,s,g,P,S,n,h,k⟩;refine⟨A,s,g,_,S,n,h,λu x F o f l r=>?_⟩;obtain⟨q,rfl,f⟩:=aQ f;refine⟨q,rfl,?_⟩;cases q with
  |false=>exact⟨u,s,o,P,r,n,f,λI y E C v B D=>k I _ E C v (l.trans B) D⟩
  |true=>obtain⟨b,e,q⟩:=k u _ F o f l r;cases e;exact q
theorem Fb:BK X M R [] (λd Q=>Q [] d):=PA.imp bZ<|by rintro f H Q ⟨A,l,d,P,S,g,h,k⟩;exact k A [] [] H d h (.same (ao.refl H)) S .nil
theorem BN(w:starEach (a::es) X.env=(false,eval a X.env)::starEach es X.env)(z:VP X M R a ta)(y:BK X M R es tl):BK X M R (a::es) (λd Q=>ta d λx l=>tl l λn g=>Q (x::n) g):=
 PA.imp (aR z y w)<|by rintro J H Q ⟨A,r,d,P,S,q,h,k⟩;refine⟨A,r,d,_,S,q,h,λI x K N l v B D s=>⟨I,r,l,_,D,q,v,λF n L E g f o C u=>?_⟩⟩;exact k F _ _ E g f (B.trans o) C (.cons (o.rep s) u)
theorem P8(T:jv b)(Y:VP X M R a ta)(U:VP X M R b tb):VP X M R (.Subscript a b pos) (λD Q=>ta D λx K=>tb K λy g=>Ig x y λz=>Q z g):=PE.imp (AQ u9 Y U T)<|by
 rintro σ H Q ⟨A,N,D,P,S,L,h,k⟩;refine⟨A,N,D,_,S,L,h,λA1 x vx H1 K O s Z f=>⟨A1,N,K,_,Z,L,O,λC y vy B g d q u r=>?_⟩⟩;have f:=(q.rep f).b;cases x with
 |lst l=>
  cases y with
  |int i=>obtain⟨p,E,rfl,o,I⟩:=f.lst;obtain⟨w,e,d⟩:=d;obtain⟨v,J,F⟩:=wR I e;exact .inl ⟨p,E,i,v,rfl,r.int_inv,.inl o.rd,J,k C _ _ B g d (s.trans q) u F⟩
  |_=>exact d.elim
 |tup l=>
  cases y with
  |int i=>obtain⟨p,E,rfl,o,I⟩:=f.tup;obtain⟨w,e,d⟩:=d;obtain⟨v,J,F⟩:=wR I e;exact .inr (.inl ⟨p,E,i,v,rfl,r.int_inv,o,J,k C _ _ B g d (s.trans q) u F⟩)
  |_=>exact d.elim
 |cY ns=>
  cases y with
  |int i=>obtain⟨p,rfl,o⟩:=f.cY;obtain⟨n,e,d⟩:=d;exact .inl ⟨p,_,i,_,rfl,r.int_inv,o,wU e,k C _ _ B g d (s.trans q) u (dN _)⟩
  |_=>exact d.elim
 |str z=>
  cases y with
  |int i=>
   cases f.str;obtain⟨hz,n,e,d⟩:=d;exact .inr (.inr ⟨z,i,n,rfl,r.int_inv,hz,e,k C _ _ B g d (s.trans q) u (kj _)⟩)
  |_=>exact d.elim
 |_=>exact d.elim
theorem af.bl{K:Frag}{B:Addr->Prop}{H:Hp}:∀{d:List W}{vs:List V},af K B H d vs->kT K B H d vs
 |[],_,h=>h.nil_inv
 |w::d,_,h=>by obtain⟨v,r,rfl,g,f⟩:=h.cons_inv;exact⟨v,r,rfl,g.b,f.bl⟩
theorem Lf{bi:BI}{s:String}(L:bE X (.builtin s) (KW X.K bi))(J:Gl X x)(I:X.mg x=none)(E:bootBuiltins x=some (.builtin s))(N:BK X M R (e::es) tl)(F:x≠"__name__")(n:(x==("__debug__":Str))=false)
 (he:starEach (e::es) X.env=(false,eval e X.env)::starEach es X.env)(l:(backTo pos (starEach es X.env)).any (·.1)=false):VP X M R (.Call (.Name x p) (e::es) [] pos) (λf Q=>tl f λg d=>lJ bi g λw=>Q w d):=
 PE.imp (jr L J I E N F n he l)<|by rintro Z H Q ⟨A,U,f,P,S,T,h,k⟩;exact⟨A,U,f,_,S,T,h,λy g vs H1 u D O o z=>⟨y.B,g,λw=>P w u,o.dom,z.bl,D,λw v Y C q r=>k y w v Y u C (O.trans (.same q)) (o.same q) (r.rep o.dom)⟩⟩
theorem Lg{bi:BI}{s:String}(L:bE X (.type s) (KW X.K bi))(J:Gl X x)(I:X.mg x=none)(E:bootBuiltins x=some (.type s))(N:BK X M R (e::es) tl)(F:x≠"__name__")(n:(x==("__debug__":Str))=false)
 (he:starEach (e::es) X.env=(false,eval e X.env)::starEach es X.env)(l:(backTo pos (starEach es X.env)).any (·.1)=false):VP X M R (.Call (.Name x p) (e::es) [] pos) (λf Q=>tl f λg d=>lJ bi g λw=>Q w d):=
 PE.imp (jX L J I E N F n he l)<|by rintro Z H Q ⟨A,U,f,P,S,T,h,k⟩;exact⟨A,U,f,_,S,T,h,λy g vs H1 u D O o z=>⟨y.B,g,λw=>P w u,o.dom,z.bl,D,λw v Y C q r=>k y w v Y u C (O.trans (.same q)) (o.same q) (r.rep o.dom)⟩⟩
theorem Fc(o:∀{q:TE},PE X e q->PS X st (mL q (fL j)))(z:¬aJ M j){tt:(Addr->Prop)->tS}(he:∀R,VP X M R e (tt R)):VS X M m st (λd n=>tt d.ex n λw f=>d.nx (f.set j (some w))):=by rintro l s u H D I ⟨A,F,n,d,S,B,hz,h,k⟩;exact o (he d.ex) l s u H D I ⟨A,F,n,_,S,B,h,λJ w v E f y g C r=>k.nx J _ _ E g.ab g.s0 y (C.set z r)⟩
theorem Fd{tt:(Addr->Prop)->tS}(o:∀R,PS X st (mK (tP X M R (tt R)))):VS X M m st (λd n=>tt d.ex n λw f=>d.nx f):=by rintro l s q H D I ⟨A,C,n,d,S,y,hz,h,k⟩;exact o d.ex l s q H D I ⟨A,C,n,_,S,y,h,λE w v B f u g z r=>k.nx E _ _ B g.ab g.s0 u z⟩
theorem BO{x y:List Stmt}{tx v:WS}{tt:(Addr->Prop)->tS}(E:∀R,wZ X M R c (tt R))(J:wY X M m x tx)(F:wY X M m y v):VS X M m (.If c x y pos) (λd o=>tt d.ex o λx f=>truth x λk=>if k=true then tx d f else v d f):=by
 rintro l s C H D I ⟨A,u,o,d,S,r,hz,h,k⟩;refine HN (E d.ex) J F l s C H D I ⟨A,u,o,_,S,r,h,λB x K w n g z=>?_⟩;obtain⟨q,rfl,n⟩:=aQ n;refine⟨q,rfl,?_⟩;cases q with
 |true=>exact⟨B,u,w,d,z,r,(by rw[g.s0];exact hz),n,by rw[g.ab,g.s0];exact k⟩
 |false=>exact⟨B,u,w,d,z,r,(by rw[g.s0];exact hz),n,by rw[g.ab,g.s0];exact k⟩
theorem Lh{u:List Stmt}{tb:WS}{tt:tS}(hc:wZ X.kO M (λ_=>False) c tt)(hb:wY X.kO M m u tb):VS X M m (.While c u [] pos) (λd E=>Pw (λE Q=>tt E λx f=>truth x λk=>Q k f) tb d E):=by
 refine PS.imp (vC (sH PassesOwn.never hc hb)) ?_;rintro D σ H ⟨A,I,E,d,S,er,hz,h,k⟩;obtain⟨J,⟨m0,Z⟩,F⟩:=h;refine⟨λn o v=>∃r f,r.ab=A.ab/\r.s0=A.s0/\J n f/\SR X.K M r I o v f,⟨m0,A,E,rfl,rfl,Z,S⟩,?_⟩;rintro n T H1 ⟨A1,L,z,s,Y,S1⟩;refine⟨A1,I,L,_,S1,.none,F n L Y,λP x H2 dJ C g O=>?_⟩;obtain⟨q,rfl,C⟩:=aQ C;refine⟨q,rfl,?_⟩;have z:=g.ab.trans z;have s:=g.s0.trans s;cases q with
 |true=>obtain⟨N,hN,C⟩:=C;refine⟨λo v=>∃r f,r.ab=A.ab/\r.s0=A.s0/\N f/\SR X.K M r I o v f,λo v ⟨r,f,B,a2,y,w⟩=>?_,P,I,dJ,_,O,.none,(by rw[s];exact hz),C,⟨λr f o v B a2 y w=>⟨r,f,B.trans z,a2.trans s,y,w⟩,by rw[z,s];exact k.rt,λr f o v B a2 y w=>k.nx r f o v (B.trans z) (a2.trans s) y w,λr f o v B a2 y w=>⟨r,f,B.trans z,a2.trans s,y,w⟩⟩⟩;obtain⟨U,l,j'⟩:=hN f y;exact⟨U,l,r,f,B,a2,j',w⟩
 |false=>exact k.nx P _ _ H2 z s C O
theorem Li(z:∀{F:TE},PE X e F->PS X st (mK (NF X.K "list" jz (gG i) (pV F yx))))(J:(i,.f)∈M){tt:(Addr->Prop)->tS}(he:∀R,VP X M R e (tt R)):
 VS X M m st (λd u=>match look u i with|some (.lst _)=>(tt d.ex u λw n=>match look n i with|some (.lst l)=>l.length<sizeLine/\d.nx (n.set i (some (.lst (l++[w]))))|_=>False)|_=>False):=by
 rintro q s T H D I ⟨A,H0,u,d,S,er,hz,h,k⟩;obtain⟨l0,e0,h⟩:=rm h;obtain⟨v0,U,JZ,L,Z,Y,h4,_,_⟩:=iu (π:=[]) S J Ro e0 E3;cases Z;refine z (he d.ex) q s T H D I ⟨_,L,.inl ⟨rfl,JZ,.inl (.inl Y)⟩,A,H0,u,_,S,er,h,λA1 w v Q bF y g S1 r=>?_⟩;obtain⟨l,e1,y⟩:=rm y;obtain⟨v1,p1,E,P,C,B,N,hB,o⟩:=iu (π:=[]) S1 J Ro e1 E3;cases C;rw[L]at P;cases P;obtain⟨A',a1,a2,_,_,O⟩:=o Q (ao.refl Q) (l++[w]) (E++[v]) (N.app (.cons r .nil));rw[K5]at O;exact⟨U,E,v,rfl,rfl,B,by rw[N.len];exact y.1,k.nx A' _ _ _ (a1.trans g.ab) (a2.trans g.s0) y.2 O⟩
theorem Lj{te:(Addr->Prop)->WT}(he:∀R,VE X M R .s e (te R))(y:(0,m0)∈M):VS X M (.io m0) (.Return (some e) pos) (λd f=>te d.ex f λw=>match look f 0 with|some o=>(d.rt (.tup [w,o]))|none=>False):=by
 rintro g s u H D I ⟨A,C,f,d,S,z,hz,h,k⟩;refine jU (he d.ex) g s u H D I ⟨A,C,f,_,S,z,h,λw v B l q r=>?_⟩;cases n:look f 0 with
 |none=>rw[n]at l;exact l.elim
 |some o=>rw[n]at l;exact k.rt _ v B l (S.sm.trans q) (rq (S.same q) y n (Pl.mp hz) r.aO)
theorem Lk(q:(0,m0)∈M):VS X M (.io m0) (.Return none pos) (λd g=>match look g 0 with|some n=>(d.rt (.tup [.aI,n]))|none=>False):=by
 rintro f s o H D I ⟨A,u,g,d,S,r,hz,h,k⟩
 try dsimp only at h
 cases l:look g 0 with
 |none=>rw[l]at h;exact h.elim
 |some n=>rw[l]at h;exact wj f s o H D I (k.rt _ _ H h S.sm (rq S q l (Pl.mp hz) Py))
end
section
variable{X:Cx}{M:Ms}{R:Addr->Prop}{m m0:Md}{e o a b c:Expr}{es rest:List Expr}{t ta tb:tS}{tl:Ik}{pos apos cpos p:Pos}{i j n:Nat}{st:Stmt}{x:Str}{π:List ir}
theorem Fe{k n:Nat}{fv:Value}{sp:aU}(F:bW X.prog X.w X.K X.mg X.base k fv n (z5 X.K n m sp))(hr:ck k X.A)(hg:Gl X x)(hm:X.mg x=some fv)
 (hn:∀d P R,sp d P R->d.length=n)(ha:BK X M R (e::es) tl)(O:(x==("__debug__":Str))=false)(he:starEach (e::es) X.env=(false,eval e X.env)::starEach es X.env)(N:(backTo pos (starEach es X.env)).any (·.1)=false):
 VP X M R (.Call (.Name x p) (e::es) [] pos) (λD Q=>tl D λd z=>sp d (λw=>Q w z) R):=by
 rintro q s Y H Q I ⟨A,H0,D,P,S,er,h,kk⟩;obtain⟨E,pE,hE,hR⟩:=er;refine Ts (qC I hg hm ?_ O);refine X2 (h₀:=X.base) I.ok.mod.NB F.keep (bq (ha pos q s Y H (λJ u=>∃d f g,Go A H f u/\SR X.K M f H0 Y u g/\af X.K f.B u d J/\sp d (λw=>P w g) R) I ⟨A,H0,D,_,S,⟨E,pE,hE,hR⟩,h,λf d J u g hw T l L=>⟨d,f,g,T,l,L,hw⟩⟩) λus s1 hz=>?_) he N;obtain⟨J,u,I1,r,d,f,g,T,l,L,Z⟩:=hz;exact⟨I1.jQ,F.run hr pE I1 r ⟨f.B,d,_,R,hn _ _ _ Z,L,l.dom,Z,λw v U pw y r'=>kk f w v U g pw (T.trans (.same y)) (l.same y) (r'.rep l.dom),λC U rc y=>hE C U rc (l.sm.trans y)⟩⟩
theorem Im{K:Frag}{A:Fz}{N H:Hp}{l:St}{q:Ev}{k:W}{sp:aU}{g:List W}{vs:List V}{P:W->Ev->Prop}{Q:VK}{E:XK}{s:V}(S:SR K M A N l H q)(I:(i,m0)∈M)(U:look q i=some k)(T:l[i]?=some (some s))(rs:af K A.B H g vs)(hn:g.length+1=n)
 (h:sp (k::g) (λr=>∃w y,r=.tup [w,y]/\P w (q.set i (some y))) R)(hE:∀C H',R C->ao N H'->E (.ref C) none H')(kk:∀f w v H' d,P w d->Go A H f H'->SR K M f N l H' d->Rep K f.B H' w v->Q v H'):PU K n m0 sp (s::vs) H Q E:=by
 obtain⟨F,O⟩:=S.ow;obtain⟨v,Y,h2⟩:=O.val i m0 k I U;rw[T]at Y;cases Y;have J:aJ M i:=⟨m0,I⟩;have Z:∀p,((A.B p/\p∉F i)\/p∈F i)->A.B p:=λp z=>by
  rcases z with z|z
  .exact z.1
  .exact(O.all p).mpr (.inr ⟨i,J,z⟩)
 refine⟨λp=>A.B p/\p∉F i,F i,k,s,g,vs,_,R,rfl,hn,O.nd i J,λp hp z=>z.2 hp,λp z=>S.dom p z.1,Fp.mv (ao.refl _) (λp _ _ z=>Z p z) m0 h2,rs.less Z,h,λw y v F' H' D L nd nw fp u=>?_,λC H' rc L=>hE C H' rc λp o e=>?_⟩
 .obtain⟨w',y',e,D⟩:=D;cases e;obtain⟨f,a1,a2,aB,a3,a4,S'⟩:=O.chg (F':=F') S I U T (λp o e=>(L p o e).imp (λz=>⟨z.1,z.2⟩) id) nd nw fp;exact kk f w v H' _ D ⟨a1,a2,a3,a4⟩ S' (u.less λp z=>(aB p).mp z)
 .rcases L p o (S.sm p o e)with⟨_,z⟩|z
  .rw[O.nw i p J z]at e;cases e
  .exact z
theorem Ll{pl:Sem Bool}{G:W}{k n:Nat}{f:Addr}{fd:FuncData}{ps fs:List Str}{ms:List Md}{sp:aU}(hG:∀C,G=.cls C->Meth X.K C x f)(F:bL X.prog X.w X.K X.mg X.base (iL X.prog X.w) k f fd ps (PU X.K n (.o fs ms) sp))(hr:ck k X.A)(hb:Binds X.K fd ps [])(hi:(i,.o fs ms)∈M)(Z:fs.contains x=false)
 (hn:∀D P R,sp D P R->D.length=n)(hv:PE X o (gG i))(ha:BK X M R (e::es) tl)(hst:starEach (e::es) X.env=(false,eval e X.env)::starEach es X.env)(hpl:(backTo pos (starEach es X.env)).any (·.1)=false)
 (ht:eval (.Call (.Attribute o x apos) (e::es) [] pos) X.env=(do
   let ov<-eval o X.env
   standAt apos.atName
   let(f,first)<-holding [ov] (getMethod ov x pl)
   callWith pos f first (backTo pos (starEach (e::es) X.env)) (backToKw pos (keywordEach [] X.env)))):
 VP X M R (.Call (.Attribute o x apos) (e::es) [] pos) (λY Q=>match look Y i with|some (.obj C _ _)=>G=.cls C/\(tl Y λD J=>match look J i with|some N=>sp (N::D) (λr=>∃w y,r=.tup [w,y]/\Q w (J.set i (some y))) R|none=>False)|_=>False):=by
 rintro L s σ H Q I ⟨A,H0,Y,P,S,er,h,kk⟩;obtain⟨E,pE,hE,hR⟩:=er
 try dsimp only at h
 cases hl:look Y i with
 |none=>rw[hl]at h;exact h.elim
 |some w1=>
  rw[hl]at h;cases w1 with
  |obj C fs' WI=>
   obtain⟨hg,h⟩:=h;obtain⟨F0,O0⟩:=S.ow;obtain⟨v0,hv0,S0⟩:=O0.val i _ _ hi hl;obtain⟨C',dx,cF,q,JZ,F',e1,rfl,e3,h1,h2,hc,_⟩:=S0;cases e1;have lk:(fs.zip JZ).lookup x=none:=by
    have:∀(l:List Str)(r:List V),l.contains x=false->(l.zip r).lookup x=none:=λl=>by
     induction l with
     |nil=>intro r _;rfl
     |cons y l ih=>
      intro r Z;cases r with
      |nil=>rfl
      |cons z r=>rw[Sz,YM]at Z;rw[En,Ei,Z.1];exact ih r Z.2
    exact this fs JZ Z
   have mt:=hG C hg;refine YI (pl:=pl) (bq (hv L s σ H (λv' H'=>v'=V.ref q/\H'=H) I ⟨_,hv0,rfl,rfl⟩) λu s1 ⟨x1,H1,I1,rx,ex,eh⟩=>?_) ht;subst ex;subst eh;obtain rfl:u=Value.ref q:=rx;refine iQ I1 h1 hc.1 mt lk ?_;refine X2 (first:=[.ref q]) (h₀:=X.base) I.ok.mod.NB mt.kp (bq (ha pos L s1 σ H1 (λvs' S5=>∃D U T N,Go A H1 U S5/\SR X.K M U H0 σ S5 T/\af X.K U.B S5 D vs'/\look T i=some N/\sp (N::D) (λr=>∃w y,r=.tup [w,y]/\P w (T.set i (some y))) R) I1 ⟨A,H0,Y,_,S,⟨E,pE,hE,hR⟩,h,λU D vs H1 T O g1 S1 rs=>?_⟩) λus s2 hz=>?_) hst hpl
   .try dsimp only at O
    cases d:look T i with
    |none=>rw[d]at O;exact O.elim
    |some N=>rw[d]at O;exact⟨D,U,T,N,g1,S1,rs,d,O⟩
   .obtain⟨vs,H2,I2,r,D,U,T,N,g1,S1,rs,d,sj⟩:=hz;refine⟨I2.jQ,qG (us:=.ref q::us) (vs:=.ref q::vs) (ds:=[]) (zX:=[]) F hr hb .nil pE I2 (.cons rfl r) ?_⟩;rw[Kt];exact Im S1 hi d hv0 rs (by have:=hn _ _ _ sj;simpa using this) sj hE λA' w v H' J O g S' rr=>kk A' w v H' J O (g1.trans g) S' rr
  |_=>exact h.elim
end
theorem Lm{x:Str}:∀(l:List Str)(r:List V),l.contains x=false->(l.zip r).lookup x=none:=λl=>by
 induction l with
 |nil=>intro r _;rfl
 |cons y l b=>
  intro r a;cases r with
  |nil=>rfl
  |cons z r=>rw[Sz,YM]at a;rw[En,Ei,a.1];exact b r a.2
theorem BP{x:Str}{n:Nat}{v:V}:∀(l:List Str)(r:List V)(n:Nat),l.Nodup->l[n]?=some x->r[n]?=some v->(l.zip r).lookup x=some v:=λl=>by
 induction l with
 |nil=>intro r n _ e _;exact nn e
 |cons y l g=>
  intro r n b c a;cases r with
  |nil=>exact nn a
  |cons z r=>
   rw[En,Ei];cases n with
   |zero=>
    cases c;cases a;rw[Pi]
   |succ n=>
    have d:l[n]?=some x:=by simpa using c
    have f:(x==y)=false:=by rw[PP];rintro rfl;exact(He.mp b).1 (Kx d)
    rw[f];exact g r n (He.mp b).2 d (by simpa using a)
theorem Ff{x:Str}{v:V}:∀(l:List Str)(r:List V)(n:Nat),l.Nodup->l[n]?=some x->r.length=l.length->gf x v (l.zip r)=l.zip (r.set n v):=λl=>by
 induction l with
 |nil=>intro r n _ e _;exact nn e
 |cons y l g=>
  intro r n b d c;cases r with
  |nil=>cases c
  |cons z r=>
   cases n with
   |zero=>
    cases d;rw[List.set_cons_zero,En,En,gf];rw[Do (by first|rfl|simp)]
   |succ n=>
    have f:l[n]?=some x:=by simpa using d
    have a:y≠x:=by rintro rfl;exact(He.mp b).1 (Kx f)
    rw[SV,En,En,gf];rw[Bn (by first|exact a|simpa using a),g r n (He.mp b).2 f (by simpa using c)]
section
variable{X:Cx}{M:Ms}{R:Addr->Prop}{m m0:Md}{e o a b c:Expr}{es rest:List Expr}{t ta tb:tS}{tl:Ik}{pos apos cpos p:Pos}{i j n:Nat}{st:Stmt}{x:Str}{π:List ir}
theorem Fg{pl:Sem Bool}{G:W}{k n:Nat}{f:Addr}{Z:FuncData}{ps D:List Str}{U:List Md}{sp:aU}(hG:∀C,G=.cls C->Meth X.K C x f)(F:bL X.prog X.w X.K X.mg X.base (iL X.prog X.w) k f Z ps (PU X.K n (.o D U) sp))(hr:ck k X.A)(hb:Binds X.K Z ps [])(Y:(i,.o D U)∈M)(hx:D.contains x=false)
 (hn:∀O P R,sp O P R->O.length=n)(hv:PE X o (gG i))
 (ht:eval (.Call (.Attribute o x apos) [] [] pos) X.env=(do
   let ov<-eval o X.env
   standAt apos.atName
   let(f,first)<-holding [ov] (getMethod ov x pl)
   callWith pos f first (backTo pos (starEach [] X.env)) (backToKw pos (keywordEach [] X.env)))):
 VP X M R (.Call (.Attribute o x apos) [] [] pos) (λd Q=>match look d i with|some (.obj C _ _)=>G=.cls C/\(match look d i with|some w0=>sp [w0] (λr=>∃w y,r=.tup [w,y]/\Q w (d.set i (some y))) R|none=>False)|_=>False):=by
 rintro l s σ H Q I ⟨A,H0,d,P,S,er,h,kk⟩;obtain⟨E,pE,hE,hR⟩:=er
 try dsimp only at h
 cases B:look d i with
 |none=>rw[B]at h;exact h.elim
 |some w1=>
  rw[B]at h;cases w1 with
  |obj C fs' WI=>obtain⟨hg,h⟩:=h;obtain⟨F0,O0⟩:=S.ow;obtain⟨v0,z,S0⟩:=O0.val i _ _ Y B;obtain⟨C',dx,cF,q,JZ,F',e1,rfl,e3,h1,h2,hc,_⟩:=S0;cases e1;have T:=hG C hg;refine YI (pl:=pl) (bq (hv l s σ H (λv' N=>v'=V.ref q/\N=H) I ⟨_,z,rfl,rfl⟩) λu s1 ⟨x1,H1,L,rx,ex,eh⟩=>?_) ht;subst ex;subst eh;obtain rfl:u=Value.ref q:=rx;refine iQ L h1 hc.1 T (Lm D JZ hx) ?_;refine PySem.W.callWith_K0 (first:=[.ref q]) L.jQ T.kp (qG (us:=[.ref q]) (vs:=[.ref q]) (ds:=[]) (zX:=[]) F hr hb .nil pE L (.cons rfl .nil) ?_);exact Im S Y B z .nil (by have:=hn _ _ _ h;simpa using this) h hE λA' w v N J hw g S' rr=>kk A' w v N J hw g S' rr
  |_=>exact h.elim
theorem SR.more{K:Frag}{A:Fz}{u H H1:Hp}{h:St}{k:Ev}{G:List Addr}(S:SR K M A u h H k)(s:ao H H1)(nw:∀q∈G,H q=none)(ex:∀q∈G,∃o,H1 q=some o):SR K M ⟨λq=>A.ab q\/q∈G,λq=>A.B q\/q∈G,A.s0⟩ u h H1 k:=by
 obtain⟨F,O⟩:=S.ow;have r:∀p o,H p=some o->(A.B p\/p∈G)->A.B p:=λp o e z=>by
  rcases z with z|z
  .exact z
  .rw[nw p z]at e;cases e
 refine⟨S.len,λi w d e=>?_,S.sm.trans s,λp z=>?_,S.sl,F,⟨O.un,λi m w y e=>?_,O.emp,O.nd,O.ds,O.nw,λi p d l z=>?_,λp=>?_⟩⟩
 .obtain⟨v,g,f⟩:=S.sh i w d e;exact⟨v,g,Rep.mv s r w f⟩
 .rcases z with z|z
  .exact S.dm.same s p z
  .exact ex p z
 .obtain⟨v,g,f⟩:=O.val i m w y e;exact⟨v,g,Fp.mv s r m f⟩
 .rcases z with z|z
  .exact O.na i p d l z
  .obtain⟨o,e,_⟩:=O.has d l;rw[nw p z]at e;cases e
 .show(A.B p\/p∈G)↔_;rw[O.all p];constructor
  .rintro((z|z)|z)
   .exact .inl (.inl z)
   .exact .inr z
   .exact .inl (.inr z)
  .rintro((z|z)|z)
   .exact .inl (.inl z)
   .exact .inr z
   .exact .inl (.inr z)
theorem BQ(h:PE X e (gG i)):PE X e (kq X.K i []):=PE.imp h<|by rintro g H Q ⟨v,u,f,d,q⟩;cases d;exact⟨v,f,q⟩
theorem sq.ix{K:Frag}{H:Hp}{n:Nat}:∀(π:List ir){v u:V},sq K H v (π++[.ix n]) u->∃p vs,sq K H v π (.ref p)/\(H p=some (.tup vs)\/H p=some (.lst vs))/\vs[n]?=some u
 |[],v,u,h=>by obtain⟨p,vs,x,e,k,g,f⟩:=h;cases f;exact⟨p,vs,by rw[e];rfl,k,g⟩
 |.ix m::π,v,u,h=>by obtain⟨p,vs,x,e,k,g,f⟩:=h;obtain⟨q,d,a,b,c⟩:=sq.ix π f;exact⟨q,d,⟨p,vs,x,e,k,g,a⟩,b,c⟩
 |.fl m _::π,v,u,h=>by obtain⟨p,vs,x,e,k,g,f⟩:=h;obtain⟨q,d,a,b,c⟩:=sq.ix π f;exact⟨q,d,⟨p,vs,x,e,k,g,a⟩,b,c⟩
theorem P9(h:PE X a (kq X.K i π))(s:PE X b (tC (.int n)))(l:jv b):PE X (.Subscript a b pos) (kq X.K i (π++[.ix n])):=
 PE.imp (AQ u9 h s l)<|by rintro z H Q ⟨v,u,y,w,g⟩;obtain⟨q,f,r,d,k⟩:=sq.ix π w;exact⟨v,.ref q,y,r,d.elim (λd=>.inr (.inl ⟨q,f,n,u,rfl,rfl,iK.of d,qJ k,g⟩)) λd=>.inl ⟨q,f,n,u,rfl,rfl,iP.of d,qJ k,g⟩⟩
theorem sq.fl{K:Frag}{H:Hp}{n:Nat}{f:Str}:∀(π:List ir){v u:V},sq K H v (π++[.fl n f]) u->∃p vs C k d,sq K H v π (.ref p)/\H p=some (.ins C k (List.zip d vs))/\oX K C d/\d[n]?=some f/\vs[n]?=some u
 |[],v,u,h=>by obtain⟨p,vs,x,e,⟨C,k,d,s,_,y,w⟩,r,l⟩:=h;cases l;exact⟨p,vs,C,k,d,by rw[e];rfl,s,y,w,r⟩
 |.ix m::π,v,u,h=>by obtain⟨p,vs,x,e,s,r,l⟩:=h;obtain⟨q,g,C,k,d,a,b,c⟩:=sq.fl π l;exact⟨q,g,C,k,d,⟨p,vs,x,e,s,r,a⟩,b,c⟩
 |.fl m _::π,v,u,h=>by obtain⟨p,vs,x,e,s,r,l⟩:=h;obtain⟨q,g,C,k,d,a,b,c⟩:=sq.fl π l;exact⟨q,g,C,k,d,⟨p,vs,x,e,s,r,a⟩,b,c⟩
theorem BR{f:Str}(h:PE X a (kq X.K i π))(s:attributeBase a f X.env (eval a X.env)=eval a X.env):PE X (.Attribute a f pos) (kq X.K i (π++[.fl n f])):=
 PE.imp (AK h s)<|by rintro E H Q ⟨v,u,A,z,l⟩;obtain⟨q,k,C,D,B,r,y,d,g,w⟩:=sq.fl π z;exact⟨v,.ref q,A,r,q,C,D,_,u,rfl,y,d.1,d.2.2.2 f (Kx g),BP (v:=u) (n:=n) B k n d.2.2.1 g w,l⟩
theorem Ln{f:Str}{g:List Str}{U:List Md}{te:(Addr->Prop)->WT}(hps:∀{tv:TE},PE X e tv->PS X st (OR X.K (gG i) tv f))(J:(i,.o g U)∈M)(hf:g[n]?=some f)(hm:U[n]?=some .s)(he:∀R,VE X M R .s e (te R)):
 VS X M m st (λd y=>te d.ex y λw=>match look y i with|some (.obj C g u)=>n<u.length/\d.nx (y.set i (some (.obj C g (u.set n w))))|_=>False):=by
 rintro L s σ H D I ⟨A,H0,y,d,S,er,hz,h,k⟩;refine hps (he d.ex) L s σ H D I ⟨A,H0,y,_,S,er,h,λw v H1 l s1 r=>?_⟩
 try dsimp only at l
 cases Y:look y i with
 |none=>rw[Y]at l;exact l.elim
 |some w1=>
  rw[Y]at l;cases w1 with
  |obj C fs' u=>
   obtain⟨hn,l⟩:=l;have S1:=S.same s1;obtain⟨F,O⟩:=S1.ow;obtain⟨v0,P,fp⟩:=O.val i _ _ J Y;obtain⟨C',T,cF,q,E,F',e1,rfl,e3,Z,h2,Q,h3⟩:=fp;cases e1;have r:=r.aO;have hB:A.B q:=(O.all q).mpr (.inr ⟨i,⟨_,J⟩,by rw[e3];exact Bi⟩);obtain⟨w0,hw0⟩:∃w0,u[n]?=some w0:=⟨_,Dx hn⟩;obtain⟨v1,F1,G,F2,q1,e4,q3,q4⟩:=cX.at U h3 hm hw0;obtain⟨rfl,_⟩:=q3;have cB:qf A.B H1 (upd H1 q (.ins C T (g.zip (E.set n v)))):=.put Z rfl hB;have SX:q∉F':=by have:=O.nd i ⟨_,J⟩;rw[e3]at this;exact(He.mp this).1
   have fp':cX X.K A.B (upd H1 q (.ins C T (g.zip (E.set n v)))) U (u.set n w) (E.set n v) F':=by
    rw[e4];refine q4 _ A.B w v [] ?_ (λp o e=>?_) (λ_ _ _ z=>z)
    .exact⟨rfl,Rep.chg cB (λ_ _ _ z=>z) w r⟩
    .by_cases N:p=q
     .subst N;rw[Z]at e;cases e;refine .inl ⟨rfl,hB,λz=>SX ?_⟩;rw[e4];rcases FV.mp z with z|z<;>simp[z]
     .exact .inr (by rw[au N];exact e)
   refine⟨_,P,q,C,T,_,rfl,Z,Q.1,Q.2.2.2 f (Kx hf),?_,?_⟩
   .rw[List.length_zip,h2,Nat.min_self];exact Q.2.1
   .rw[Ff g E n Q.2.2.1 hf h2];obtain⟨A',a1,a2,_,_,_,S'⟩:=O.chg (F':=F i) (H1:=upd H1 q (.ins C T (g.zip (E.set n v)))) (w':=.obj C g (u.set n w)) S1 J Y P (λp o e=>by
     by_cases N:p=q
     .subst N;rw[Z]at e;cases e;exact .inl ⟨rfl,by rw[e3];exact Bi⟩
     .exact .inr (by rw[au N];exact e)) (O.nd i ⟨_,J⟩) (λp hp=>.inl hp) (Fp.mv (ao.refl _) (λp _ _ z=>by
      rcases z with z|z
      .exact z.1
      .exact(O.all p).mpr (.inr ⟨i,⟨_,J⟩,z⟩)) _ (by exact⟨C,T,u.set n w,q,E.set n v,F',rfl,rfl,e3,aA,by rw[NM];exact h2,Q,fp'⟩))
    exact k.nx A' _ _ _ a1 a2 l S'
  |_=>exact l.elim
end
end VL
namespace L2
open PySem PySem.Spec PyProof.Rows
section
variable{pr:Program}{wo:World}{B:Around}{EE:Value->Shared->Prop}
end
section
variable{X:Cx}{pos:Pos}
end
end L2
namespace VL
open PySem PySem.Spec
open PyProof.Rows hiding St
open L2
section
variable{K:Frag}{M M':Ms}{A:Fz}{H0 H H1:Hp}{σ:St}{ε:Ev}
theorem SR.take(S:SR K M' A H0 σ H ε){i:Nat}{m:Md}{w:W}{v:V}{F:List Addr}(l:∀x,x∈M↔x=(i,m)\/x∈M')(D:¬aJ M' i)(s:i<ε.length)(nd:F.Nodup)(E:∀p∈F,A.ab p)(nw:∀p∈F,H0 p=none)(P:Fp K A.B H m w v F):
 SR K M ⟨λp=>A.ab p/\p∉F,A.B,A.s0⟩ H0 (σ.set i (some v)) H (ε.set i (some w)):=by
 obtain⟨G,O⟩:=S.ow;have f:∀j,aJ M j↔j=i\/aJ M' j:=λj=>by
  constructor
  .rintro⟨q,I⟩;rcases(l _).mp I with e|e
   .cases e;exact .inl rfl
   .exact .inr ⟨q,e⟩
  .rintro(rfl|⟨q,I⟩)
   .exact⟨m,(l _).mpr (.inl rfl)⟩
   .exact⟨q,(l _).mpr (.inr I)⟩
 have C:∀j,aJ M' j->j≠i:=λj c e=>by subst e;exact D c
 refine⟨by rw[NM,NM];exact S.len,λj y c e=>?_,S.sm,λp z=>S.dm p z.1,λu e=>?_,λj=>if j=i then F else G j,⟨λj N L a b=>?_,λj q y c e=>?_,λj c e=>?_,λj c=>?_,λj k p c J a b=>?_,λj p c d=>?_,λj p c d=>?_,λp=>?_⟩⟩
 .have h:j≠i/\¬aJ M' j:=⟨λz=>c ((f j).mpr (.inl z)),λz=>c ((f j).mpr (.inr z))⟩;rw[aE (On h.1)]at e;obtain⟨u,t,r⟩:=S.sh j y h.2 e;exact⟨u,by rw[KE (On h.1)];exact t,r⟩
 .obtain⟨t,r⟩:=S.sl u e;exact⟨by rw[KE (On (C 0 r))];exact t,(f 0).mpr (.inr r)⟩
 .rcases(l _).mp a with a|a
  .rcases(l _).mp b with b|b
   .cases a;cases b;rfl
   .cases a;exact(D ⟨_,b⟩).elim
  .rcases(l _).mp b with b|b
   .cases b;exact(D ⟨_,a⟩).elim
   .exact O.un j N L a b
 .rcases(l _).mp c with a|a
  .cases a;have:=fR e;subst this;exact⟨v,L9 (by rw[S.len];exact s),by rw[Do rfl];exact P⟩
  .have n:=C j ⟨q,a⟩;rw[aE (On n)]at e;obtain⟨u,t,r⟩:=O.val j q y a e;exact⟨u,by rw[KE (On n)];exact t,by rw[Bn n];exact r⟩
 .by_cases n:j=i
  .subst n;have:look (ε.set j (some w)) j=some w:=by rw[aV];exact L9 s
   rw[this]at e;cases e
  .rw[aE (On n)]at e;rw[Bn n];exact O.emp j (((f j).mp c).resolve_left n) e
 .by_cases n:j=i
  .rw[Do n];exact nd
  .rw[Bn n];exact O.nd j (((f j).mp c).resolve_left n)
 .by_cases o:j=i
  .by_cases g:k=i
   .rw[o,g]
   .rw[Do o]at a;rw[Bn g]at b;exact(O.na k p (((f k).mp J).resolve_left g) b (E p a)).elim
  .by_cases g:k=i
   .rw[Bn o]at a;rw[Do g]at b;exact(O.na j p (((f j).mp c).resolve_left o) a (E p b)).elim
   .rw[Bn o]at a;rw[Bn g]at b;exact O.ds j k p (((f j).mp c).resolve_left o) (((f k).mp J).resolve_left g) a b
 .by_cases n:j=i
  .rw[Do n]at d;exact nw p d
  .rw[Bn n]at d;exact O.nw j p (((f j).mp c).resolve_left n) d
 .by_cases n:j=i
  .rw[Do n]at d;exact λz=>z.2 d
  .rw[Bn n]at d;exact λz=>O.na j p (((f j).mp c).resolve_left n) d z.1
 .constructor
  .intro z;by_cases d:p∈F
   .exact .inr ⟨i,(f i).mpr (.inl rfl),by rw[Do rfl];exact d⟩
   .rcases(O.all p).mp z with z|⟨j,c,Q⟩
    .exact .inl ⟨z,d⟩
    .exact .inr ⟨j,(f j).mpr (.inr c),by rw[Bn (C j c)];exact Q⟩
  .rintro(z|⟨j,c,d⟩)
   .exact(O.all p).mpr (.inl z.1)
   .by_cases n:j=i
    .rw[Do n]at d;exact(O.all p).mpr (.inl (E p d))
    .rw[Bn n]at d;exact(O.all p).mpr (.inr ⟨j,((f j).mp c).resolve_left n,d⟩)
end
section
variable{X:Cx}{M M':Ms}{m:Md}{st:Stmt}{te:(Addr->Prop)->WT}
end
section
variable{K:Frag}{B B':Addr->Prop}{H:Hp}
mutual
theorem Rep.Ds:∀(w:W){v:V},Ds w=true->Rep K B H w v->Rep K B' H w v
 |.aI,_,_,r=>by dsimp only[Rep]at r⊢;exact r
 |.bl _,_,_,r=>by dsimp only[Rep]at r⊢;exact r
 |.int _,_,_,r=>by dsimp only[Rep]at r⊢;exact r
 |.str _,_,_,r=>by dsimp only[Rep]at r⊢;exact r
 |.tup l,v,h,r=>by obtain⟨p,vs,e,b,a⟩:=r;exact⟨p,vs,e,b,af.Ds l h a⟩
 |.ty _,_,h,_=>ff h
 |.cls _,_,h,_=>ff h
 |.fn _,_,h,_=>ff h
 |.err _,_,h,_=>ff h
 |.lst _,_,h,_=>ff h
 |.dct _ _,_,h,_=>ff h
 |.obj _ _ _,_,h,_=>ff h
 |.cY _,_,h,_=>ff h
theorem af.Ds:∀(l:List W){vs:List V},Bv l=true->af K B H l vs->af K B' H l vs
 |[],_,_,r=>by dsimp only[af]at r⊢;exact r
 |w::l,vs,h,r=>by obtain⟨v,us,rfl,b,a⟩:=r.cons_inv;rw[Bv,AC]at h;exact .cons (Rep.Ds w h.1 b) (af.Ds l h.2 a)
end
mutual
theorem Fp.flat:∀(m:Md){w:W}{v:V}{F:List Addr},Fp K B H m w v F->flat m w=true->(∀p∈F,¬B' p)->Rep K B' H w v
 |.s,w,v,F,h,f,_=>by dsimp only[Fp]at h;dsimp only[VL.flat]at f;exact Rep.Ds w f h.2
 |.f,w,v,F,h,f,n=>by obtain⟨c,p,vs,rfl,rfl,rfl,b,a⟩:=h;dsimp only[VL.flat]at f;exact⟨p,vs,rfl,n p (Fn.mpr rfl),.inl b,af.Ds c f a⟩
 |.t e,w,v,F,h,f,n=>by obtain⟨c,p,vs,rfl,rfl,b,a⟩:=h;dsimp only[VL.flat]at f;exact⟨p,vs,rfl,b,cX.flat e a f n⟩
 |.o _ _,w,v,F,h,f,n=>ff f
 |.io _,w,v,F,h,f,n=>ff f
 |.d,w,v,F,h,f,n=>ff f
 |.ls _,w,v,F,h,f,n=>ff f
theorem cX.flat:∀(b:List Md){a:List W}{vs:List V}{F:List Addr},cX K B H b a vs F->wM b a=true->(∀p∈F,¬B' p)->af K B' H a vs
 |[],a,vs,F,h,f,_=>by obtain⟨rfl,rfl,_⟩:=h;exact .nil
 |m::b,a,vs,F,h,f,n=>by obtain⟨w,i,v,d,k,j,rfl,rfl,rfl,g,e⟩:=h;rw[wM,AC]at f;exact .cons (Fp.flat m g f.1 λp c=>n p (Gc _ c)) (cX.flat b e f.2 λp c=>n p (FK _ c))
end
end
section
variable{X:Cx}{M M':Ms}{m m0:Md}{st:Stmt}{ti:(Addr->Prop)->WT}{tc te:WT}{one:Bool}{ts:List Nat}{i n:Nat}
end
section
variable{K:Frag}{M:Ms}{A:Fz}{H0 H:Hp}{σ:St}{ε:Ev}
end
section
variable{X:Cx}{M:Ms}{m:Md}{st:Stmt}{tg it e o:Expr}{j a b:Nat}{pos q:Pos}{x0:W}{te:WT}
end
section
variable{K:Frag}{M M':Ms}{A:Fz}{H0 Hs H H1:Hp}{σ:St}{ε:Ev}
end
section
variable{X:Cx}{M M':Ms}{m:Md}{st:Stmt}{ti:(Addr->Prop)->WT}{te:tS}{i:Nat}
theorem Lo{R:Addr->Prop}{es:List Expr}{pos:Pos}{tl:Ik}(n:BK X M R es tl):VP X M R (.List es pos) (λb Q=>tl b λc a=>c.length<=sizeLine/\Q (.lst c) a):=PE.imp (u0 n)<|by rintro s H Q ⟨A,q,b,P,S,o,h,k⟩;refine⟨A,q,b,_,S,o,h,λr c l t a e g j d=>⟨by rw[af.len d];exact e.1,λp f=>?_⟩⟩;have sm:=aG f (.lst l);exact k r _ _ _ a e.2 (g.trans (.same sm)) (j.same sm) ((cI.fresh (ao.refl _) f d).rep j.dom)
theorem Lp{R:Addr->Prop}{es:List Expr}{pos:Pos}{f:Nat}{tl:Ik}(n:BK X M R es tl):VP X M R (.Tuple es f pos) (λb Q=>tl b λc a=>c.length<=sizeLine/\Q (.tup c) a):=PE.imp (uZ n)<|by rintro t H Q ⟨A,r,b,P,S,o,h,k⟩;refine⟨A,r,b,_,S,o,h,λs c j u a e g q d=>⟨by rw[af.len d];exact e.1,λp l=>?_⟩⟩;have sm:=aG l (.tup j);exact k s _ _ _ a e.2 (g.trans (.same sm)) (q.same sm) (qV aA (af.same sm d))
end
section
variable{K:Frag}{B:Addr->Prop}{H:Hp}{j:Int}
end
theorem Io{K:Frag}{M:Ms}{A:Fz}{r H:Hp}{h:St}{j:Ev}{i:Nat}{u t:List W}(S:SR K M A r h H j)(c:(i,.d)∈M)(y:look j i=some (.dct u t)):
 ∃p kvs,h[i]?=some (some (.ref p))/\H p=some (.dK kvs)/\u=kvs.map (λx=>lG x.1)/\af K A.B H t (kvs.map (·.2))/\∀H1,ao H H1->∀(a:List (Key×V))(b f:List W),b=a.map (λx=>lG x.1)->af K A.B H1 f (a.map (·.2))->
  ∃g,g.ab=A.ab/\g.s0=A.s0/\SR K M g r h (upd H1 p (.dK a)) (j.set i (some (.dct b f))):=by
 obtain⟨F,O⟩:=S.ow;obtain⟨v,k,l⟩:=O.val i .d _ c y;obtain⟨Yq,Yr,p,kvs,T,rfl,D,C,N,Q⟩:=l;cases T;have I:p∈F i:=by rw[D];exact Bi
 have PZ:A.B p:=(O.all p).mpr (.inr ⟨i,⟨.d,c⟩,I⟩);refine⟨p,kvs,k,C,N,Q,λH1 s a b f R J=>?_⟩;have Z:=S.same s;have O1:Kf K M A r h H1 j F:=⟨O.un,λi m w c e=>let⟨v,k,l⟩:=O.val i m w c e;⟨v,k,Fp.mv s (λ_ _ _ z=>z) m l⟩,O.emp,O.nd,O.ds,O.nw,O.na,O.all⟩;have E:=s _ _ C;have U:qf A.B H1 (upd H1 p (.dK a)):=.put E rfl PZ;have P:∀q o,H1 q=some o->(wJ o=true/\q∈F i)\/upd H1 p (.dK a) q=some o:=λq o e=>by
  by_cases n:q=p
  .subst n;rw[E]at e;cases e;exact .inl ⟨rfl,I⟩
  .exact .inr (by rw[au n];exact e)
 have P4:Fp K (λq=>(A.B q/\q∉F i)\/q∈F i) (upd H1 p (.dK a)) .d (.dct b f) (.ref p) (F i):=⟨b,f,p,a,rfl,rfl,D,aA,R,af.chg U (λq _ _ z=>by
  rcases z with z|z
  .exact z.1
  .exact(O.all q).mpr (.inr ⟨i,⟨.d,c⟩,z⟩)) f J⟩
 obtain⟨g,Y,a2,_,a3,a4,X⟩:=O1.chg (F':=F i) Z c y k P (O.nd i ⟨.d,c⟩) (λq L=>.inl L) P4;exact⟨g,Y,a2,X⟩
section
variable{X:Cx}{M:Ms}{R:Addr->Prop}{o e f:Expr}{te tf:WT}{i:Nat}{pos:Pos}
theorem BS{b:Ev}{P:List W->List W->Prop}(h:match look b i with|some (.dct a vs)=>P a vs|_=>False):∃a vs,look b i=some (.dct a vs)/\P a vs:=by
 cases c:look b i with
 |none=>rw[c]at h;exact h.elim
 |some w=>
  rw[c]at h;cases w with
  |dct a vs=>exact⟨a,vs,rfl,h⟩
  |_=>exact h.elim
end
section
variable{X:Cx}{M M':Ms}{m:Md}{st:Stmt}{i:Nat}{e e1:Expr}{te t1:(Addr->Prop)->WT}
theorem Lq{R:Addr->Prop}{pos:Pos}:VE X M' R .d (.Dict [] [] pos) (λb Q=>Q (.dct [] [])):=PE.imp Ba<|by rintro f H Q ⟨A,j,b,P,S,g,h,k⟩;intro p a;refine k _ _ _ h (aG a _) ⟨[p],by simp,λq c=>?_,[],[],p,[],rfl,rfl,rfl,aA,rfl,.nil⟩;rw[Fn.mp c];exact a
noncomputable def Ip:V->V->V->Hp->(Hp->Prop)->Prop:=λo k v H Q=>∃p a,o=.ref p/\A8 H p k v a/\Q a
theorem set_dict(d:X.A.units+1<cLine):Ox X Ip:=by intro a s l H o k v r t u Q I b c rv h;obtain⟨p,j,rfl,f,q⟩:=h;cases b;exact yK d I f c rv λn g=>⟨j,g,q⟩
end
section
variable{K:Frag}{M:Ms}{A:Fz}{H0 H:Hp}{σ:St}{ε:Ev}
end
section
variable{X:Cx}{M M':Ms}{m:Md}{st:Stmt}{tg it Ys Yt e:Expr}{j a b t y:Nat}{pos pos2:Pos}{te:WT}
end
end VL
namespace L2
open PySem PySem.Spec PyProof.Rows PySem.W
section
variable{prog:Program}{w:World}{A:Around}{E:Value->Shared->Prop}{s:Shared}
end
noncomputable def S6(w:World)(a:Addr)(es:Array (Int×Value))(ep:Nat)(t:SetTable)(h:Heap):Prop:=h.get? a=some {cls:=.type "set",dict:=none,data:=.set es ep t,slots:= #[]}/\t.fits es.size=true/\(w.params.followText "set-order"=true\/t.led=true)/\(es= #[]\/t.plain=false)
section
variable{prog:Program}{w:World}{A:Around}{E:Value->Shared->Prop}{s:Shared}{a I tp:Addr}{es:Array (Int×Value)}{ep i:Nat}{t:SetTable}{vs:List Value}
theorem gO:Slot "set_iterator" "__iter__" "set_iterator.__iter__":=.of (owner:="set_iterator") (n:="__iter__") (by rw[typeLookup_type,builtinLookup_eq_fast];kernel_rfl) (by decide+kernel) (by decide+kernel) (by decide+kernel) (by first|exact .inl (by decide+kernel)|exact .inr (by decide+kernel)) (by rw[isSubtype_type];kernel_rfl)
end
section
variable{X:Cx}
theorem Inv.WJ{a:List (Addr×Obj)}{b:List (Option V)}{H:Hp}{s:Shared}(I:Inv X a b H s)(d:Drawn):Inv X a b H {s with drawn:=d}:=⟨I.ok,I.os,I.bare,I.base,I.loc,I.cell,I.free,I.gF,I.pin,I.hok,I.len⟩
theorem qi:∀{us:List Value}{a:List Str},StrsAre us a->Vals (a.map V.str) us
 |_,_,.nil=>.nil
 |_,_,.cons y t r=>.cons ⟨t,rfl⟩ (qi r)
theorem y9{f:List (Addr×Obj)}{C:List (Option V)}{H:Hp}{s:Shared}{Q:V->Hp->Prop}{r:Addr}(I:Inv X f C H s)(l:List Str)(i:l.length<64)
 (B:∀(R:List Value->Shared->Prop),(∀(g:Heap)(k:Nat)(d:Drawn)(vs:List Value)(c:List Str),s.heap.objs.size<=g.objs.size->(∀b o,s.heap.get? b=some o->g.get? b=some o)->StrsAre vs c->c.Perm l->R vs {s with heap:=g,toks:=k,drawn:=d})->wpAny (model X.prog X.w) X.A.in1 (collect (.ref r)) R X.xe s)
 (q:∀(p:Addr)(c:List Str),H p=none->c.Perm l->sortedS c=true->Q (.ref p) (upd H p (.lst (c.map V.str)))):wpAny (model X.prog X.w) X.A (call (.builtin "sorted") [.ref r]) (EP X f C Q) X.xe s:=by
 refine Calls.call_function_entry kind_sorted plain_sorted entry_sorted (args_sorted1 _) ?_;unfold Builtin.«sorted»;refine Bz (m:=checkCount "sorted" 1 1 _) (GM ?_);refine Bz (B _ λh' k d vs P j z n x=>?_);have J:vs.length=l.length:=by rw[<-x.length_eq];exact StrsAre.length n
 have L:vs.length<=sizeLine:=by rw[J];exact GE (Ta i) (by decide)
 refine Bz (wpAny_newList ?_ L);have y:(h'.push (seqObj "list" vs.toArray 0)).get? h'.objs.size=some (seqObj "list" vs.toArray 0):=Hk _ rfl;show wpAny _ _ _ _ _ {s with heap:=h'.push (seqObj "list" vs.toArray 0),toks:=k,drawn:=d};refine Bz (YH (wpAny_call_entry slot_list_sort ⟨_,y,rfl⟩ entry_list_sort (list_sort_treeK strKind_oneLt y n.keysOf (λE D rest e=>keyKind_strs (by rw[<-e];exact n)) (by rw[J];exact i) λh v t=>⟨_,rfl,?_⟩) (args_list_sort _)));obtain⟨c,M,a2,a3⟩:=sorted_out_str n v t;refine GM ⟨_,rfl,?_⟩;obtain⟨N,O⟩:=sortedHeap_at (out:=(arrOf h).map (·.2)) y;refine⟨.ref h'.objs.size,_,(I.laid (a:=h'.objs.size) (o:=.lst (c.map V.str)) (t':=k) (h':=sortedHeap (h'.push (seqObj "list" vs.toArray 0)) h'.objs.size vs ((arrOf h).map (·.2))) (λb u e=>?_) j ⟨?_,((arrOf h).map (·.2)).toList,N,qi M,?_⟩).WJ d,rfl,q _ c (I.hok.fresh j) (a2.trans x) a3⟩
 .have K:=z b u e;have F:=Fk K;rw[sortedHeap_old (Jn F) (by rw[size_push'];exact O6 F)];exact Da _ K
 .rw[Fh,a2.length_eq,x.length_eq];exact GE (Ta i) (by decide)
 .rw[O]
end
noncomputable def Lr(prog:Program)(w:World)(a:Addr)(P:Str->Prop)(n:Nat)(h:Heap):Prop:=∃b d t c,S6 w a b d t h/\ElemsOf (PySem.strKind prog w) b.toList/\StrsAre (b.toList.map (·.2)) c/\c.Nodup/\(∀z,z∈c↔P z)/\b.size<=n
section
variable{prog:Program}{w:World}{A:Around}{E:Value->Shared->Prop}{s:Shared}{a:Addr}{es:Array (Int×Value)}{ep:Nat}{t:SetTable}
theorem Lr.same{P d:Str->Prop}{n b:Nat}{h h':Heap}(x:Lr prog w a P n h)(k:∀o,h.get? a=some o->h'.get? a=some o)(e:∀z,P z↔d z)(g:n<=b):Lr prog w a d b h':=by obtain⟨es,ep,t,f,c,p,m,l,j,i⟩:=x;exact⟨es,ep,t,f,⟨k _ c.1,c.2⟩,p,m,l,λz=>(j z).trans (e z),GE i g⟩
end
section
variable{X:Cx}
theorem Fi{prog:Program}{w:World}{x:Str}{v:Value}(h:(bu prog w).is (.inr x) v=true):∃t,v=Value.str x t:=by
 have h:mH (.inr x) v=true:=h;rcases bg h with⟨i,t,e,rfl⟩|⟨y,t,e,rfl⟩
 .cases e
 .cases e;exact⟨t,rfl⟩
theorem Fj{a:List Str}:∀{us:List Value},us.length=a.length->(∀(j:Nat)(v:Value),us[j]?=some v->∃n t,a[j]?=some n/\v=Value.str n t)->StrsAre us a:=by
 induction a with
 |nil=>intro us h _;rw[Kk.mp h];exact .nil
 |cons n a b=>
  intro us h k;cases us with
  |nil=>cases h
  |cons u us=>obtain⟨f,t,d,c⟩:=k 0 u rfl;cases d;subst c;exact .cons n t (b (by simpa using h) λj v e=>k (j+1) v (by simpa using e))
theorem vD(S:X.calm=true):bE X (.builtin "sorted") (λC H Q=>∃(a:Addr)(kvs:List (Key×V))(b:List Str),C=[V.ref a]/\H a=some (.dK kvs)/\kvs.map (·.1)=b.map G2/\b.length<64/\
 ∀(p:Addr)(i:List Str),H p=none->i.Perm b->sortedS i=true->Q (.ref p) (upd H p (.lst (i.map V.str)))):=by
 intro D s σ H C us Q I r h;obtain⟨a,kvs,b,rfl,T,F,g,q⟩:=h;obtain⟨u,rfl,K⟩:=vals1 r;cases K;obtain⟨z,L,d,f,Z⟩:=wH I.hok (.inl T);obtain⟨ep,o⟩:=Z.dictAt;have E:d.length=b.length:=by have Y:=Ki IY F;rw[Fh,Fh]at Y;have y:=f.length;omega
 have keys:d.map (·.1)=b.map G2:=by rw[<-F];exact f.keys.symm
 have P:d.length<=sizeLine:=by rw[E];exact GE (Ta g) (by decide)
 refine y9 I b g (λR k=>Bc (A:=X.A.in1) (kdl_dict (knd:=bu X.prog X.w) (kvs:=d) (ep:=ep) L) (I.ok.hd S) o P λU J B l m c=>?_) q;refine k U J s.drawn B.toList b (Ta l) m (Fj (by rw[G1,c.1,E]) λj v e=>?_) (.refl _);obtain⟨M,x,N,O⟩:=c.2 j v (by rw[<-Rc];exact e);have y:(d.map (·.1))[j]?=some M:=by rw[Hb,N];rfl
 rw[keys,Hb]at y;obtain⟨n,en,rfl⟩:=Kb.mp y;obtain⟨t,rfl⟩:=Fi O;exact⟨n,t,en,rfl⟩
end
end L2
namespace VL
open PySem PySem.Spec
open PyProof.Rows hiding St
open L2
section
variable{X:Cx}{M:Ms}{R:Addr->Prop}{e a b c o:Expr}{ta tb tc:WT}{m:Md}{pos p:Pos}{x:Str}{i:Nat}
theorem Ls{v y:Option Expr}{p2:Pos}{tl u:Ev->(Option Int->Prop)->Prop}(E:VB X M R a ta)(n:PO X v (KU X M R tl))(f:PO X y (KU X M R u)):VE X M R .s (.Subscript a (.Slice v y none p2) pos) (λd Q=>ta d λx=>tl d λl=>u d λh=>EA x l h Q):=
 PE.imp (sN (J5.or JO) E n f)<|by
  rintro I H Q ⟨A,t,d,P,S,r,h,k⟩;refine⟨A,t,d,_,S,r,h,λx K O D g j=>⟨A,t,d,_,S.same g,r,D,λl N n s2=>⟨A,t,d,_,S.same (g.trans s2),r,n,λh L f s3=>?_⟩⟩⟩;have j:=aT.same (s2.trans s3) j;cases x with
  |str z=>
   cases j.str;exact .inl ⟨z,rfl,f.1,k _ _ _ f.2 ((g.trans s2).trans s3) (.of (kj _))⟩
  |tup J=>obtain⟨p,C,rfl,F,B⟩:=j.tup;refine .inr ⟨p,C,rfl,F,by rw[B.len];exact f.1,λq w=>?_⟩;exact k _ _ _ f.2 (((g.trans s2).trans s3).trans (aG w _)) (.of (qV aA (af.same (aG w _) (BD B l h))))
  |_=>exact f.elim
theorem Lu{apos d:Pos}(O:VE X M R .s a ta)(N:VE X M R .s b tb)(L:VE X M R .s c tc)(l:attributeBase a "startswith" X.env (eval a X.env)=eval a X.env)(j:(apos.endLine==d.line)=true)
 (g:starEach [b,c] X.env=(false,eval b X.env)::starEach [c] X.env)(s2:starEach [c] X.env=(false,eval c X.env)::starEach [] X.env):
 VE X M R .s (.Call (.Attribute a "startswith" apos) [b,c] [] d) (λf Q=>ta f λx=>Pu x=true/\tb f λy=>tc f λz=>Km x y z Q):=
 PE.imp (p9 PySem.F.plainAttrs_str PySem.F.slot_str_startswith PySem.F.type_str_startswith yP O (aR N (aR L bZ s2) g) l (by rw[g,s2];rfl) j g (by rw[s2];rfl))<|by
  rintro σ H Q ⟨A,u,f,P,S,t,h,k⟩;refine⟨A,u,f,_,S,t,h,λw v H1 r g J=>?_⟩;cases w with
  |str z=>
   obtain⟨_,r⟩:=r;have e:=J.aO;have e:v=.str z:=e;subst e;refine⟨rfl,A,u,f,_,S.same g,t,r,λC D H2 Du s2 I=>⟨A,u,f,_,S.same (g.trans s2),t,Du,λB v3 Z q s3 E=>?_⟩⟩;cases C with
   |str y=>
    cases B with
    |int n=>have Y:D=.str y:=I.aO;have U:=E.aO.int_inv;subst Y U;obtain⟨T,h2,q⟩:=q;obtain⟨K,rfl⟩:=Nw T;exact⟨z,y,K,rfl,rfl,by omega,k _ _ Z q ((g.trans s2).trans s3) (.of (qg _))⟩
    |_=>exact q.elim
   |_=>
    cases B<;>exact q.elim
  |_=>exact ff r.1
theorem Lw{n:Nat}(D:VE X M R .s a ta)(B:attributeBase a x X.env (eval a X.env)=eval a X.env):VE X M R .s (.Attribute a x pos) (λf Q=>ta f λw=>Kn n x w Q):=
 PE.imp (AK D B)<|by
  rintro U H Q ⟨A,T,f,P,S,J,h,k⟩;refine⟨A,T,f,_,S,J,h,λw v O d t z=>?_⟩;cases w with
  |obj C I Y=>obtain⟨j,u,L,d⟩:=d;obtain⟨q,N,l,rfl,Z,F,h2,g,E⟩:=z.aO;obtain⟨y,K,r⟩:=E.get L;exact⟨q,C,N,_,y,rfl,F,g.1,g.2.2.2 x (Kx j),BP (v:=y) (n:=n) I l n g.2.2.1 j K,k _ _ O d t (.of r)⟩
  |_=>exact d.elim
theorem Iq{K:Frag}{C:Addr}{f:Addr}(g:Meth K C x f):∀(l:List Str)(r:List V),(∀y∈l,gI K C y)->(l.zip r).lookup x=none
 |[],_,_=>rfl
 |y::l,[],_=>rfl
 |y::l,z::r,h=>by
  have d:=h y Bi;have j:(x==y)=false:=PP.mpr λe=>by have d:findIn K (.ref C) y=some none:=d;rw[<-e,g.at_]at d;cases d
  rw[En,Ei,j];exact Iq g l r λq k=>h q (BM _ k)
theorem Lx{pl:Sem Bool}{G:W}{k n:Nat}{f:Addr}{U:FuncData}{ps:List Str}{sp:aU}{apos:Pos}(hG:∀C,G=.cls C->Meth X.K C x f)(F:bL X.prog X.w X.K X.mg X.base (iL X.prog X.w) k f U ps (z5 X.K n m sp))(hr:ck k X.A)(hb:Binds X.K U ps [])
 (hn:∀d P R,sp d P R->d.length=n)(ho:VE X M R .s o ta)
 (ht:eval (.Call (.Attribute o x apos) [] [] pos) X.env=(do
   let ov<-eval o X.env
   standAt apos.atName
   let(f,first)<-holding [ov] (getMethod ov x pl)
   callWith pos f first (backTo pos (starEach [] X.env)) (backToKw pos (keywordEach [] X.env)))):
 VE X M R m (.Call (.Attribute o x apos) [] [] pos) (λB Q=>ta B λw=>match w with|.obj C j d=>G=.cls C/\sp [.obj C j d] Q R|_=>False):=by
 rintro r s y H Q I ⟨A,H0,B,P,S,Y,h,kk⟩;obtain⟨E,pE,hE,hR⟩:=id Y;refine YI (pl:=pl) (bq (ho r s y H (λZ l=>∃w,(match w with|.obj C j d=>G=.cls C/\sp [.obj C j d] P R|_=>False)/\ao H l/\Rep X.K (FB A M y) l w Z) I ⟨A,H0,B,_,S,Y,h,λw v H1 g O t=>⟨w,g,O,t.aO⟩⟩) λu O ⟨x1,H1,N,rx,w,g,sm,t⟩=>?_) ht;cases w with
 |obj C j d=>obtain⟨hg,g⟩:=g;have J:=t;obtain⟨q,dx,vs,rfl,na,h1,h2,T,h3⟩:=t;obtain rfl:u=Value.ref q:=rx;have L:=hG C hg;refine iQ N h1 T.1 L (Iq L j vs T.2.2.2) ?_;refine PySem.W.callWith_K0 (first:=[.ref q]) N.jQ L.kp (qG (us:=[.ref q]) (vs:=[.ref q]) (ds:=[]) (zX:=[]) F hr hb .nil pE N (.cons rfl .nil) ?_);rw[Kt];exact⟨FB A M y,[.obj C j d],P,R,hn _ _ _ g,.cons J .nil,(S.same sm).dom,g,λw v l pw D r'=>kk w v l pw (sm.trans D) (r'.back sm λ_ z=>z),λC l rc D=>hE C l rc (S.sm.trans (sm.trans D))⟩
 |_=>exact g.elim
theorem WL{a b c:Bool}(z:((a&&b)&&c)=true):(a=true/\b=true)/\c=true:=by cases a<;>cases b<;>cases c<;>first|exact⟨⟨rfl,rfl⟩,rfl⟩|exact ff z
noncomputable def pA:List Str->List Int->List (Key×V)
 |x::d,v::vs=>(.inr x,.int v)::pA d vs
 |_,_=>[]
noncomputable def Fl:List Str->List Int->List (Option Expr)->List Expr->Bool
 |[],[],[],[]=>true
 |x::f,v::vs,some k::d,e::es=>(match k with|.Constant (.str y) _ _=>decide (y=x)|_=>false)&&(match e with|.Constant (.int j) _ _=>decide (j=v)|_=>false)&&Fl f vs d es
 |_,_,_,_=>false
theorem w6(j:Str):∀(d:List Str)(vs:List Int)(n:Int),jD j d vs=some n->jZ (pA d vs) (.inr j)=some (.int n)
 |[],_,_,h=>nn h
 |_::_,[],_,h=>nn h
 |x::d,v::vs,n,h=>by
  have h:(if x=j then some v else jD j d vs)=some n:=h;by_cases e:x=j
  .rw[Do e]at h;cases h;exact jA (by rw[e])
  .rw[Bn e]at h;show jZ ((G2 x,V.int v)::pA d vs) _=_;rw[jB (by intro z;cases z;exact e rfl)];exact w6 j d vs n h
theorem qj:∀(f:List Str)(vs:List Int)(d:List (Key×V)),f.Nodup->(∀j∈d,∀x∈f,j.1≠G2 x)->iR d (pA f vs)=d++pA f vs
 |[],_,d,_,_=>(Kt d).symm
 |_::_,[],d,_,_=>(Kt d).symm
 |x::f,v::vs,d,l,h=>by
  obtain⟨q,n⟩:=He.mp l;have e:putK d (G2 x:Key) (V.int v)=d++[(G2 x,.int v)]:=by unfold putK;rw[Bn];intro z;obtain⟨j,g,e⟩:=YD.mp z;exact h j g x Bi (Ap e)
  show iR (putK d (G2 x:Key) (V.int v)) (pA f vs)=_;rw[e,qj f vs _ n λj g y k=>?_]
  .rw[KF];rfl
  .rcases FV.mp g with g|g
   .exact h j g y (BM _ k)
   .rw[Fn.mp g];intro z;cases z;exact q k
theorem xg:∀(f:List Str)(vs:List Int)(d:List (Option Expr))(es:List Expr),Fl f vs d es=true->Pc X p d es (Qt (λx v=>(tC (.str x),tC (.int v))) f vs)/\d.all (·.isSome)=true/\d.length=es.length/\d.length=f.length/\f.length=vs.length
 |[],[],[],[],_=>⟨Eo,rfl,rfl,rfl,rfl⟩
 |x::f,v::vs,some k::d,e::es,h=>by
  obtain⟨⟨j,g⟩,w⟩:=WL h;obtain⟨s,r,q,n,l⟩:=xg f vs d es w;have u:PE X k (tC (.str x)):=by
   cases k with
   |Constant c _ _=>
    cases c with
    |str y=>
     cases Ap j;exact Ar
    |_=>exact ff j
   |_=>exact ff j
  have t:PE X e (tC (.int v)):=by
   cases e with
   |Constant c _ _=>
    cases c with
    |int y=>
     cases Ap g;exact mJ
    |_=>exact ff g
   |_=>exact ff g
  exact⟨Bb u t s,r,Ki (·+1) q,Ki (·+1) n,Ki (·+1) l⟩
theorem qk:∀(d:List Str)(vs:List Int){g:St}{H:Hp}{Q:List (V×V)->Hp->Prop},Q ((pA d vs).map λf=>(kV f.1,f.2)) H->qO (Qt (λx v=>(tC (.str x),tC (.int v))) d vs) g H Q
 |[],_,_,_,_,h=>h
 |_::_,[],_,_,_,h=>h
 |x::d,v::vs,_,_,_,h=>qk d vs h
theorem xj:∀(d:List Str)(vs:List Int),(pA d vs).length<=d.length
 |[],_=>Mo _
 |_::_,[]=>Mo _
 |x::d,v::vs=>Oj (xj d vs)
theorem Ly{d:List Str}{vs:List Int}{r:List (Option Expr)}{es:List Expr}(E:X.A.units+1<cLine)(F:Fl d vs r es=true)(K:d.Nodup)(O:d≠[])(B:d.length<=15)(N:VE X M R .s b tb)(I:JX b):
 VE X M R .s (.Subscript (.Dict r es p) b pos) (λl Q=>tb l λx=>match x with|.str j=>∃n,jD j d vs=some n/\Q (.int n)|_=>False):=by
 obtain⟨t,D,C,y,r5⟩:=xg (X:=X) (p:=p) d vs r es F;refine PE.imp (Em E (Ep t D C (λz=>O (Kk.mp (by rw[<-y,z];rfl))) (by rw[y];exact B)) N I) ?_;rintro Z H Q ⟨A,Y,l,P,S,T,h,k⟩;intro q J;refine qk d vs ⟨aA,pA d vs,rfl,GE (xj d vs) B,?_⟩;rw[qj d vs [] K (λkv L=>by cases L),Jd,DB];have sm:ao H (upd H q (.dK (pA d vs))):=aG J _;refine⟨A,Y,l,_,S.same sm,T,h,λw v U f u t=>?_⟩;cases w with
 |str j=>obtain⟨n,e,f⟩:=f;have ev:v=.str j:=t.aO;subst ev;refine⟨q,.int n,rfl,?_,k _ _ U f (sm.trans u) (.of (dN _))⟩;have g:=yI.k (k:=G2 j) (u q _ aA);rw[w6 j d vs n e]at g;exact g
 |_=>exact f.elim
theorem tT:∀{kvs:List (Key×V)}{d:List Str},kvs.map (λx=>lG x.1)=d.map W.str->kvs.map (·.1)=d.map G2
 |[],[],_=>rfl
 |[],_::_,h=>by cases h
 |_::_,[],h=>by cases h
 |x::kvs,n::d,h=>by
  obtain⟨k,v⟩:=x;rw[Ha,Ha]at h;have f:=(TK h).1;have g:=tT (TK h).2;rw[Ha,Ha,g];cases k with
  |inl i=>cases f
  |inr y=>
   cases f;rfl
theorem nq{K:Frag}{B:Addr->Prop}{H:Hp}:∀d:List Str,af K B H (d.map W.str) (d.map V.str)
 |[]=>.nil
 |m::d=>.cons (kj m) (nq d)
theorem Lz{q:Pos}(F:X.calm=true)(B:(i,.d)∈M)(z:PE X o (gG i))(E:Gl X "sorted")(hz:X.mg "sorted"=none)(u:starEach [o] X.env=(false,eval o X.env)::starEach [] X.env):
 VE X M R .f (.Call (.Name "sorted" q) [o] [] pos) (λs Q=>match look s i with|some (.dct t vs)=>∃l:List Str,t=l.map W.str/\l.length<64/\∀j:List Str,j.Perm l->sortedS j=true->Q (.lst (j.map W.str))|_=>False):=
 PE.imp (jr (vD F) E hz boot_sorted (aR z bZ u) (he:=u))<|by rintro K H Q ⟨A,O,s,P,S,N,h,k⟩;obtain⟨t,vs,C,w,r,y,h⟩:=BS h;obtain⟨p,n,J,I,D,L,_⟩:=Io S B C;refine⟨_,J,p,n,w,rfl,I,tT (by rw[<-D];exact r),y,λq g v a b=>?_⟩;have sm:ao H (upd H q (.lst (g.map V.str))):=aG v _;exact k _ _ _ (h g a b) sm (.new v aA (nq g) (nq g))
theorem LA(D:VE X M R .s a ta):VE X M R .s (.FormattedValue a (-1) none pos) (λl Q=>ta l λw=>Bu w Q):=by
 rintro g s n H Q I ⟨A,F,l,P,S,E,h,k⟩;refine FormattedValue_plain (bq (D g s n H (λv d=>∃w,Bu w P/\ao H d/\Rep X.K (FB A M n) d w v) I ⟨A,F,l,_,S,E,h,λw v d f r j=>⟨w,f,r,j.aO⟩⟩) λu r ⟨q,d,z,y,w,f,sm,j⟩=>?_);cases w with
 |str x=>have e:q=.str x:=j;subst e;obtain⟨t,rfl⟩:=y;exact formatField_str (λC B=>⟨.str x,d,z.tok B,⟨C,rfl⟩,k _ _ d f.2 sm (.of (kj _))⟩) (GE f.1 (by decide))
 |int i=>have e:q=.int i:=j;subst e;obtain⟨t,rfl⟩:=y;exact formatField_int_small f.1 ⟨.str _,d,z.tok _,⟨_,rfl⟩,k _ _ d f.2 sm (.of (kj _))⟩
 |_=>exact f.elim
end
section
variable{X:Cx}{M M':Ms}{m m0:Md}{st:Stmt}{i n:Nat}{e e1:Expr}{te t1:(Addr->Prop)->WT}{π:List ir}
theorem LB(t:∀{x:TE},PE X e x->PS X st (mK (NF X.K "list" wD (kq X.K i π) (pV x yx))))(P:(i,m0)∈M)(O:gC m0 π=some .f)(he:∀R,VE X M R .f e (te R)):
 VS X M m st (λd a=>match look a i with|some g=>(match bD g π with|some (.lst l)=>(te d.ex a λw=>match w with|.lst y=>l.length+y.length<=sizeLine/\d.nx (a.set i (some (setAt g π (.lst (l++y)))))|_=>False)|_=>False)|none=>False):=by
 rintro c s J H D I ⟨A,H0,a,d,S,Y,hz,h,k⟩;obtain⟨g,l,e1,Z,h⟩:=BH h;obtain⟨N,p,j,T,Q,E,C,hB,b⟩:=iu S P O e1 Z;refine t (he d.ex) c s J H D I ⟨N,_,T,Q,.inl ⟨rfl,j,.inl (.inl E)⟩,A,H0,a,_,S,Y,h,λw v H1 B o r=>?_⟩;obtain⟨L,q,u,rfl,rfl,hq,U,F⟩:=cI.HZ r;obtain⟨A',a1,a2,_,_,S'⟩:=b H1 o (l++L) (j++u) ((C.same o).app (F.less λ_ z=>.inl z));exact⟨p,q,j,u,rfl,rfl,o _ _ E,U,by rw[C.len,F.len];exact B.1,k.nx A' _ _ _ a1 a2 B.2 S'⟩
section
variable{K:Frag}{B:Addr->Prop}{H:Hp}{j:Str}
theorem tU(k:Key):NR j (lG k)=decide (k=G2 j):=by
 cases k with
 |inr i=>
  show decide (i=j)=_;by_cases e:i=j
  .rw[e,FC rfl,FC rfl]
  .rw[FM e,FM (λz=>e (by cases z;rfl))]
 |inl x=>exact(FM (λz=>by cases z)).symm
theorem tW:∀kvs:List (Key×V),(kvs.map λx=>lG x.1).any (NR j)=kvs.any λa=>decide (a.1=G2 j)
 |[]=>rfl
 |x::kvs=>by rw[Ha,IJ,IJ,tW kvs,tU]
theorem zc{w:W}{v:V}{kvs:List (Key×V)}{a:List W}(h:af K B H a (kvs.map (·.2)))(r:Rep K B H w v):
 wK j (kvs.map λx=>lG x.1)=(putK kvs (.inr j) v).map (λx=>lG x.1)/\af K B H (wL j w (kvs.map λx=>lG x.1) a) ((putK kvs (.inr j) v).map (·.2)):=by
 unfold wK wL putK;rw[tW];by_cases e:(kvs.any λb=>decide (b.1=G2 j))=true
 .rw[Do e,Do e,Do e];clear e;constructor
  .rw[RK];refine Rx λx _=>?_;show _=lG (if x.1=G2 j then(x.1,v)else x).1;split<;>rfl
  .induction kvs generalizing a with
   |nil=>
    cases a with
    |nil=>exact .nil
    |cons _ _=>obtain⟨_,_,e,_⟩:=h;cases e
   |cons x kvs c=>
    cases a with
    |nil=>have h:(x::kvs).map (·.2)=[]:=h;cases h
    |cons u a=>
     obtain⟨y,q,e,f,d⟩:=h;cases e;refine⟨_,_,rfl,?_,c d⟩;show Rep K B H (if NR j (lG x.1)=true then w else u) (if x.1=G2 j then(x.1,v)else x).2;rw[tU];by_cases e:x.1=G2 j
     .rw[Do (FC e),Do e];exact r
     .rw[Bn (by rw[Kj];exact e),Bn e];exact f
 .rw[Bn e,Bn e,Bn e];constructor
  .rw[NA];rfl
  .rw[NA];exact h.app (.cons r .nil)
end
theorem LC(t:∀{y B:TE},PE X e y->PE X e1 B->PS X st (mL y (OA (gG i) B Ip)))(Y:(i,.d)∈M)(he:∀R,VE X M R .s e (te R))(U:∀R,VE X M R .s e1 (t1 R)):
 VS X M m st (λd b=>te d.ex b λw=>match look b i with|some (.dct l vs)=>(t1 d.ex b λx=>(match x with|.str j=>l.length<sizeLine/\d.nx (b.set i (some (.dct (wK j l) (wL j w l vs))))|_=>False))|_=>False):=by
 rintro g s O H D I ⟨A,N,b,d,S,K,hz,h,k⟩;refine t (he d.ex) (U d.ex) g s O H D I ⟨A,N,b,_,S,K,h,λw v H1 q C r=>?_⟩;obtain⟨l,vs,T,q⟩:=BS q;obtain⟨p,o,h1,h3,L,Z,f⟩:=Io S Y T;refine⟨_,h1,A,N,b,_,S.same C,K,q,λz P H2 a s2 Q=>?_⟩;cases z with
 |str j=>
  obtain⟨J,a⟩:=a;have c:=C.trans s2;have ez:P=.str j:=Q.aO;subst ez;obtain⟨F,E⟩:=zc (j:=j) (Z.same c) (r.aO.same s2);rw[<-L]at F E;obtain⟨A',a1,a2,S'⟩:=f H2 c _ _ _ F E;have u:o.length<sizeLine:=by have:=Ki IY L;rw[Fh]at this;omega
  exact⟨p,_,rfl,A8.k (k:=G2 j) (c _ _ h3) u,k.nx A' _ _ _ a1 a2 a S'⟩
 |_=>exact a.elim
theorem Fo{R:Addr->Prop}{a:Expr}{pos:Pos}{ta:tS}(g:wZ X M R a ta):wZ X M R (.UnaryOp .Not a pos) (λd Q=>ta d λx c=>truth x λb=>Q (.bl (!b)) c):=PT.imp (Aw g)<|by rintro u H Q ⟨A,s,d,P,S,l,h,k⟩;refine⟨A,s,d,_,S,l,h,λt x r o f j p=>?_⟩;obtain⟨q,rfl,f⟩:=aQ f;obtain⟨b,e,z⟩:=k t _ r o f j p;cases e;exact⟨q,rfl,z⟩
end
section
variable{X:Cx}{M:Ms}{R:Addr->Prop}{m:Md}{e:Expr}{es:List Expr}{tl:Ik}{pos p:Pos}{i:Nat}{x:Str}
theorem LD{k n:Nat}{Z:Value}{sp:aU}(F:bW X.prog X.w X.K X.mg X.base k Z n (z5 X.K n m sp))(hr:ck k X.A)(hv:PE X (.Name x p) (gG i))(hi:¬aJ M i)
 (hn:∀b P R,sp b P R->b.length=n)(ha:BK X M R (e::es) tl)(he:starEach (e::es) X.env=(false,eval e X.env)::starEach es X.env)(L:(backTo pos (starEach es X.env)).any (·.1)=false):
 VP X M R (.Call (.Name x p) (e::es) [] pos) (λj Q=>match look j i with|some (.fn a)=>Z=.ref a/\(tl j λb y=>sp b (λw=>Q w y) R)|_=>False):=by
 rintro c s t H Q I ⟨A,H0,j,P,S,er,h,kk⟩
 try dsimp only at h
 cases N:look j i with
 |none=>rw[N]at h;exact h.elim
 |some w0=>
  rw[N]at h;cases w0 with
  |fn a=>obtain⟨rfl,h⟩:=h;obtain⟨v0,hs,J⟩:=S.sh i _ hi N;have J:v0=.ref a:=J;subst J;obtain⟨E,U,Y,hR⟩:=er;refine Ts (bq (hv c s t H (λv o=>v=.ref a/\o=H) I ⟨_,hs,rfl,rfl⟩) λu s1 ⟨x1,H1,I1,rx,e1,e2⟩=>?_);subst e1 e2;obtain rfl:u=Value.ref a:=rx;refine X2 (h₀:=X.base) I1.ok.mod.NB F.keep (bq (ha pos c s1 t H1 (λz l=>∃b d f,Go A H1 d l/\SR X.K M d H0 t l f/\af X.K d.B l b z/\sp b (λw=>P w f) R) I1 ⟨A,H0,j,_,S,⟨E,U,Y,hR⟩,h,λd b z l f hw O g D=>⟨b,d,f,O,g,D,hw⟩⟩) λus s2 ⟨z,l,I2,r,b,d,f,O,g,D,T⟩=>⟨I2.jQ,?_⟩) he L;exact F.run hr U I2 r ⟨d.B,b,_,R,hn _ _ _ T,D,g.dom,T,λw v o pw q r'=>kk d w v o f pw (O.trans (.same q)) (g.same q) (r'.rep g.dom),λC o rc q=>Y C o rc (g.sm.trans q)⟩
  |_=>exact h.elim
theorem LF{tt:(Addr->Prop)->tS}(he:∀R,VP X M R e (tt R)):VS X M .s (.Return (some e) pos) (λd b=>tt d.ex b λw _=>d.rt w):=by rintro a s f H D I ⟨A,q,b,d,S,n,hz,h,k⟩;refine jU (he d.ex) a s f H D I ⟨A,q,b,_,S,n,h,λt w v o j l g c r=>?_⟩;exact k.rt w v o l c.sm (.of rfl (.of (r.less λp z=>c.sub' p (by rw[g.ab];exact z))))
end
noncomputable def LG(n:Nat):Md->Md
 |.o b a=>.o b (a.set n .s)
 |m=>m
noncomputable def Dv(M:Ms)(i n:Nat):Ms:=M.map λx=>if x.1=i then(x.1,LG n x.2)else x
theorem aL{M:Ms}{i n j:Nat}:aJ (Dv M i n) j↔aJ M j:=by
 constructor
 .rintro⟨m,h⟩;obtain⟨⟨a,b⟩,d,c⟩:=KB.mp h;by_cases e:a=i
  .rw[Do e]at c;cases c;exact⟨_,d⟩
  .rw[Bn e]at c;cases c;exact⟨_,d⟩
 .rintro⟨m,h⟩;by_cases e:j=i
  .exact⟨LG n m,KB.mpr ⟨_,h,by rw[Do e]⟩⟩
  .exact⟨m,KB.mpr ⟨_,h,by rw[Bn e]⟩⟩
theorem BU{M:Ms}{i n j:Nat}{m:Md}(h:(j,m)∈Dv M i n)(e:j≠i):(j,m)∈M:=by
 obtain⟨⟨a,b⟩,d,c⟩:=KB.mp h;by_cases q:a=i
 .rw[Do q]at c;cases c;exact(e q).elim
 .rw[Bn q]at c;cases c;exact d
theorem Qc{M:Ms}{i n j:Nat}{m:Md}(h:(j,m)∈M)(e:j≠i):(j,m)∈Dv M i n:=KB.mpr ⟨_,h,by rw[Bn e]⟩
theorem Qd{M:Ms}{i n:Nat}{m:Md}(h:(i,m)∈M):(i,LG n m)∈Dv M i n:=KB.mpr ⟨_,h,by rw[Do rfl]⟩
section
variable{K:Frag}{A B:Addr->Prop}{H H':Hp}
theorem cX.out:∀(c:List Md){i:List W}{vs:List V}{F:List Addr}{n:Nat}{l:List W},cX K A H c i vs F->c[n]?=some .f->i[n]?=some (.lst l)->
 ∃p b g d,vs[n]?=some (.ref p)/\F=g++p::d/\H p=some (.lst b)/\af K A H l b/\cX K A H (c.set n .s) (i.set n (.cls p)) vs (g++d)
 |[],_,_,_,n,l,_,e,_=>by cases e
 |m0::c,i,vs,F,0,l,h,o,m=>by obtain⟨r,q,v,a,g,d,rfl,rfl,rfl,k,j⟩:=h;cases o;cases m;obtain⟨E,p,b,e,rfl,rfl,D,C⟩:=k;cases e;exact⟨p,b,[],d,rfl,rfl,D,C,.cls p,q,.ref p,a,[],d,rfl,rfl,rfl,⟨rfl,rfl⟩,j⟩
 |m0::c,i,vs,F,n+1,l,h,o,m=>by obtain⟨r,q,v,a,g,d,rfl,rfl,rfl,k,j⟩:=h;obtain⟨p,b,u,t,z,rfl,y,x,w⟩:=cX.out c j (n:=n) (by simpa using o) (by simpa using m);exact⟨p,b,g++u,t,by simpa using z,by simp,y,x,r,q.set n (.cls p),v,a,g,u++t,rfl,rfl,by simp,k,w⟩
theorem cX.U4:∀(d:List Md){j:List W}{vs:List V}{F:List Addr}{n:Nat}{l:List W}{p:Addr}{c:List V},cX K A H (d.set n .s) j vs F->d[n]?=some .f->j[n]?=some (.cls p)->H p=some (.lst c)->af K A H l c->
 ∃i g,F=i++g/\cX K A H d (j.set n (.lst l)) vs (i++p::g)
 |[],_,_,_,n,l,p,c,_,e,_,_,_=>by cases e
 |m0::d,j,vs,F,0,l,p,c,h,t,r,m,k=>by obtain⟨w,u,v,a,i,g,rfl,rfl,rfl,b,o⟩:=h;cases t;cases r;obtain⟨rfl,b⟩:=b;have b:v=.ref p:=b;subst b;exact⟨[],g,rfl,.lst l,u,.ref p,a,[p],g,rfl,rfl,rfl,⟨l,p,c,rfl,rfl,rfl,m,k⟩,o⟩
 |m0::d,j,vs,F,n+1,l,p,c,h,t,r,m,k=>by obtain⟨w,u,v,a,i,g,rfl,rfl,rfl,b,o⟩:=h;obtain⟨y,x,rfl,q⟩:=cX.U4 d o (n:=n) (by simpa using t) (by simpa using r) m k;exact⟨i++y,x,by simp,w,u.set n (.lst l),v,a,i,y++p::x,rfl,rfl,by simp,b,q⟩
end
open Classical in
noncomputable def ql(B C:Addr->Prop)(H:Hp):Hp:=λp=>if B p/\¬C p then none else H p
theorem zd{B C:Addr->Prop}{H:Hp}{p:Addr}{o:HO}(h:ql B C H p=some o):H p=some o/\¬(B p/\¬C p):=by
 unfold ql at h;split at h
 .cases h
 .exact⟨h,by assumption⟩
theorem xm{B C:Addr->Prop}{H:Hp}{p:Addr}{o:HO}(h:H p=some o)(n:¬(B p/\¬C p)):ql B C H p=some o:=by unfold ql;rw[Bn n];exact h
theorem ER.up{X:Cx}{d H1:Hp}{R:Addr->Prop}(s:ao d H1)(h:ER X d R):ER X H1 R:=by obtain⟨E,p,l,k⟩:=h;exact⟨E,p,λC n i g=>l C n i (s.trans g),λb e H f m a C c I j q=>k b e H f m a C c I j ⟨q.1,s.trans q.2⟩⟩
section
variable{K:Frag}{M:Ms}{A:Fz}{H0 H:Hp}{σ:St}{ε:Ev}{i n:Nat}{fs:List Str}{ms:List Md}{C:Addr}{ws l:List W}
theorem SR.view(S:SR K M A H0 σ H ε)(X:(i,.o fs ms)∈M)(hn:ms[n]?=some .f)(hl:look ε i=some (.obj C fs ws))(hw:ws[n]?=some (.lst l)):
 ∃(q Q p:Addr)(vs L:List V)(T:Fz)(Fq:Hp),σ[i]?=some (some (.ref q))/\H q=some (.ins C Q (fs.zip vs))/\vs.length=fs.length/\oX K C fs/\vs[n]?=some (.ref p)/\H p=some (.lst L)/\af K A.B H l L/\ao H0 Fq/\Fq p=some (.lst L)/\H0 p=none/\¬A.ab p/\T.s0=A.s0/\(∀a,T.ab a↔A.ab a\/a=p)/\(∀a,T.B a↔A.B a)/\
  SR K (Dv M i n) T Fq σ H (ε.set i (some (.obj C fs (ws.set n (.cls p))))):=by
 obtain⟨F,O⟩:=S.ow;obtain⟨v,hv,fp⟩:=O.val i _ _ X hl;obtain⟨C',Q,cF,q,vs,F',e1,rfl,P,h1,h2,hc,fl⟩:=fp;cases e1;obtain⟨p,L,J,I,g1,rfl,Y,g4,g5⟩:=cX.out ms fl hn hw;have D:aJ M i:=⟨_,X⟩;have nd:(q::(J++p::I)).Nodup:=by rw[<-P];exact O.nd i D
 have Rp:=(He.mp nd).2;have N:p∈F i:=by rw[P];simp
 have pB:A.B p:=(O.all p).mpr (.inr ⟨i,D,N⟩);have WM:¬A.ab p:=O.na i p D N;have pn:p∉q::(J++I):=by
  intro z;rcases Ee.mp z with z|z
  .exact(He.mp nd).1 (by rw[<-z];simp)
  .obtain⟨E,a2,a3⟩:=Pv.mp Rp;rcases FV.mp z with z|z
   .exact a3 p z p Bi rfl
   .exact(He.mp a2).1 z
 let U5:Addr->Prop:=λa=>A.ab a\/a=p
 have lt:=jC hl;have r:∀a∈q::(J++I),a∈F i:=λa g=>by
  rw[P];rcases Ee.mp g with z|z
  .rw[z];exact Bi
  .refine BM _ ?_;rcases FV.mp z with z|z
   .exact Gc _ z
   .exact FK _ (BM _ z)
 have S8:∀a∈F i,a=p\/a∈q::(J++I):=λa g=>by
  rw[P]at g;rcases Ee.mp g with z|z
  .exact .inr (by rw[z];exact Bi)
  .rcases FV.mp z with z|z
   .exact .inr (BM _ (Gc _ z))
   .rcases Ee.mp z with z|z
    .exact .inl z
    .exact .inr (BM _ (FK _ z))
 refine⟨q,Q,p,vs,L,⟨U5,A.B,A.s0⟩,ql A.B U5 H,hv,h1,h2,hc,g1,Y,g4,λa o e=>?_,xm Y (λz=>z.2 (.inr rfl)),O.nw i p D N,WM,rfl,λa=>TX,λa=>TX,?_⟩
 .refine xm (S.sm a o e) λz=>?_;rcases(O.all a).mp z.1 with y|⟨j,d,s⟩
  .exact z.2 (.inl y)
  .rw[O.nw j a d s]at e;cases e
 .refine⟨by rw[NM];exact S.len,λj w d e=>?_,λa o e=>(zd e).1,λa z=>?_,λu e=>?_,λj=>if j=i then q::(J++I)else F j,⟨λj m1 m2 a b=>?_,λj m w d e=>?_,λj d e=>?_,λj d=>?_,λj k a d hk x y=>?_,λj a d g=>?_,λj a d g=>?_,λa=>?_⟩⟩
  .have d:¬aJ M j:=λz=>d (aL.mpr z);have c:i≠j:=by rintro rfl;exact d D
   rw[aE c]at e;exact S.sh j w d e
  .rcases z with z|z
   .exact S.dm a z
   .exact⟨_,by rw[z];exact Y⟩
  .exact⟨(S.sl u e).1,aL.mpr (S.sl u e).2⟩
  .by_cases c:j=i
   .subst c;obtain⟨⟨E,b1⟩,Z,t⟩:=KB.mp a;obtain⟨⟨a2,b2⟩,c2,R⟩:=KB.mp b;have U:E=j:=by
     by_cases z:E=j
     .exact z
     .rw[Bn z]at t;cases t;rfl
    have x2:a2=j:=by
     by_cases z:a2=j
     .exact z
     .rw[Bn z]at R;cases R;rfl
    subst U;subst x2;rw[Do rfl]at t R;have:=O.un _ _ _ Z c2;subst this;cases t;cases R;rfl
   .exact O.un j m1 m2 (BU a c) (BU b c)
  .by_cases c:j=i
   .subst c;have:=fR e;subst this;obtain⟨⟨E,b1⟩,Z,t⟩:=KB.mp d;have U:E=j:=by
     by_cases z:E=j
     .exact z
     .rw[Bn z]at t;cases t;rfl
    subst U;rw[Do rfl]at t;have:=O.un _ _ _ Z X;subst this;cases t;refine⟨_,hv,?_⟩;rw[Do rfl];exact⟨C,Q,ws.set n (.cls p),q,vs,J++I,rfl,rfl,rfl,h1,h2,hc,g5⟩
   .rw[aE (On c)]at e;rw[Bn c];exact O.val j m w (BU d c) e
  .by_cases c:j=i
   .subst c;have:look (ε.set j (some (.obj C fs (ws.set n (.cls p))))) j=some (.obj C fs (ws.set n (.cls p))):=by rw[aV];exact L9 lt
    rw[this]at e;cases e
   .rw[aE (On c)]at e;rw[Bn c];exact O.emp j (aL.mp d) e
  .by_cases c:j=i
   .rw[Do c];refine He.mpr ⟨λz=>(He.mp nd).1 ?_,?_⟩
    .rcases FV.mp z with z|z
     .exact Gc _ z
     .exact FK _ (BM _ z)
    .obtain⟨E,a2,a3⟩:=Pv.mp Rp;exact Pv.mpr ⟨E,(He.mp a2).2,λx hx y hy=>a3 x hx y (BM _ hy)⟩
   .rw[Bn c];exact O.nd j (aL.mp d)
  .have up:∀j,aJ (Dv M i n) j->∀a,a∈(if j=i then q::(J++I)else F j)->a∈F j:=λj d a g=>by
    by_cases c:j=i
    .rw[Do c]at g;rw[c];exact r a g
    .rw[Bn c]at g;exact g
   exact O.ds j k a (aL.mp d) (aL.mp hk) (up j d a x) (up k hk a y)
  .have h:a∈F j/\a≠p:=by
    by_cases c:j=i
    .rw[Do c]at g;exact⟨by rw[c];exact r a g,λz=>pn (by rw[<-z];exact g)⟩
    .rw[Bn c]at g;exact⟨g,λz=>c (O.ds j i p (aL.mp d) D (by rw[<-z];exact g) N)⟩
   unfold ql;rw[Do ⟨(O.all a).mpr (.inr ⟨j,aL.mp d,h.1⟩),λz=>z.elim (O.na j a (aL.mp d) h.1) h.2⟩]
  .have h:a∈F j/\a≠p:=by
    by_cases c:j=i
    .rw[Do c]at g;exact⟨by rw[c];exact r a g,λz=>pn (by rw[<-z];exact g)⟩
    .rw[Bn c]at g;exact⟨g,λz=>c (O.ds j i p (aL.mp d) D (by rw[<-z];exact g) N)⟩
   exact λz=>z.elim (O.na j a (aL.mp d) h.1) h.2
  .constructor
   .intro z;rcases(O.all a).mp z with y|⟨j,d,s⟩
    .exact .inl (.inl y)
    .by_cases c:j=i
     .subst c;rcases S8 a s with y|y
      .exact .inl (.inr y)
      .exact .inr ⟨j,aL.mpr d,by rw[Do rfl];exact y⟩
     .exact .inr ⟨j,aL.mpr d,by rw[Bn c];exact s⟩
   .rintro(z|⟨j,d,s⟩)
    .rcases z with z|z
     .exact(O.all a).mpr (.inl z)
     .rw[z];exact pB
    .by_cases c:j=i
     .rw[Do c]at s;exact(O.all a).mpr (.inr ⟨i,D,r a s⟩)
     .rw[Bn c]at s;exact(O.all a).mpr (.inr ⟨j,aL.mp d,s⟩)
theorem SR.back{t:Fz}{Z H1:Hp}{X:Ev}{p:Addr}{xs L:List V}{N J:List W}(un:∀j m1 m2,(j,m1)∈M->(j,m2)∈M->m1=m2)(D:SR K (Dv M i n) t Z σ H1 X)(Y:(i,.o fs ms)∈M)(hn:ms[n]?=some .f)(s0:ao H0 Z)(hp:Z p=some (.lst xs))(Q:H0 p=none)(U6:¬A.ab p)(es:t.s0=A.s0)(I:∀a,t.ab a↔A.ab a\/a=p)
 (hl:look X i=some (.obj C fs J))(hw:J[n]?=some (.cls p))(hr:af K t.B H1 N L):SR K M ⟨A.ab,t.B,A.s0⟩ H0 σ (upd H1 p (.lst L)) (X.set i (some (.obj C fs (J.set n (.lst N))))):=by
 obtain⟨F,O⟩:=D.ow;have r:aJ M i:=⟨_,Y⟩;have P:H1 p=some (.lst xs):=D.sm _ _ hp;have pB:t.B p:=(O.all p).mpr (.inl ((I p).mpr (.inr rfl)));have E:∀j,aJ M j->p∉F j:=λj c z=>O.na j p (aL.mpr c) z ((I p).mpr (.inr rfl));have cB:qf t.B H1 (upd H1 p (.lst L)):=.put P rfl pB;have cO:∀G:Addr->Prop,¬G p->lH t.B G H1 (upd H1 p (.lst L)):=λG hG a o e=>by
  by_cases z:a=p
  .subst z;rw[P]at e;cases e;exact .inl ⟨rfl,pB,hG⟩
  .exact .inr (by rw[au z];exact e)
 obtain⟨v,hv,fp⟩:=O.val i _ _ (Qd Y) hl;obtain⟨C',dx,Yu,q,vs,F',e1,rfl,d,h1,h2,hc,fl⟩:=fp;cases e1;have qp:q≠p:=λz=>E i r (by rw[d,<-z];exact Bi);have WO:cX K t.B (upd H1 p (.lst L)) (ms.set n .s) J vs F':=cX.chg (cO (·∈F') (λz=>E i r (by rw[d];exact BM _ z))) (λ_ _ _ z=>z) _ (λ_ z=>z) fl;obtain⟨U,T,rfl,WQ⟩:=cX.U4 ms WO hn hw aA (af.chg cB (λ_ _ _ z=>z) N hr);have lt:=jC hl;refine⟨by rw[NM];exact D.len,λj w c e=>?_,λa o e=>?_,λa z=>?_,λu e=>?_,λj=>if j=i then q::(U++p::T)else F j,⟨un,λj m w c e=>?_,λj c e=>?_,λj c=>?_,λj k a c hk x y=>?_,λj a c g=>?_,λj a c g=>?_,λa=>?_⟩⟩
 .have b:i≠j:=by rintro rfl;exact c r
  rw[aE b]at e;obtain⟨u,S,R⟩:=D.sh j w (λz=>c (aL.mp z)) e;exact⟨u,S,Rep.chg cB (λ_ _ _ z=>z) w R⟩
 .have:a≠p:=λz=>by rw[z,Q]at e;cases e
  rw[au this];exact D.sm _ _ (s0 _ _ e)
 .obtain⟨o,e⟩:=D.dm a ((I a).mpr (.inl z));exact⟨o,by rw[au (λy=>U6 (by rw[<-y];exact z))];exact e⟩
 .obtain⟨S,R⟩:=D.sl u (by rw[es];exact e);exact⟨S,aL.mp R⟩
 .by_cases b:j=i
  .subst b;have:=fR e;subst this;have:=un _ _ _ c Y;subst this;refine⟨_,hv,?_⟩;rw[Do rfl];exact⟨C,dx,_,q,vs,U++p::T,rfl,rfl,rfl,by rw[au qp];exact h1,h2,hc,WQ⟩
  .rw[aE (On b)]at e;rw[Bn b];obtain⟨u,S,R⟩:=O.val j m w (Qc c b) e;exact⟨u,S,Fp.chg (cO (·∈F j) (E j ⟨m,c⟩)) (λ_ _ _ z=>z) m (λ_ z=>z) R⟩
 .by_cases b:j=i
  .subst b;have:look (X.set j (some (.obj C fs (J.set n (.lst N))))) j=some (.obj C fs (J.set n (.lst N))):=by rw[aV];exact L9 lt
   rw[this]at e;cases e
  .rw[aE (On b)]at e;rw[Bn b];exact O.emp j (aL.mpr c) e
 .by_cases b:j=i
  .rw[Do b];have nd:(q::(U++T)).Nodup:=by rw[<-d];exact O.nd i (aL.mpr r)
   have pq:p∉q::(U++T):=by rw[<-d];exact E i r
   obtain⟨n1,n2⟩:=He.mp nd;obtain⟨a1,a2,a3⟩:=Pv.mp n2;refine He.mpr ⟨λz=>?_,Pv.mpr ⟨a1,He.mpr ⟨λz=>pq (BM _ (FK _ z)),a2⟩,λx hx y hy e=>?_⟩⟩
   .rcases FV.mp z with z|z
    .exact n1 (Gc _ z)
    .rcases Ee.mp z with z|z
     .exact qp z
     .exact n1 (FK _ z)
   .rcases Ee.mp hy with z|z
    .exact pq (by rw[<-z,<-e];exact BM _ (Gc _ hx))
    .exact a3 x hx y z e
  .rw[Bn b];exact O.nd j (aL.mpr c)
 .have up:∀j,∀a,a∈(if j=i then q::(U++p::T)else F j)->a∈F j\/(a=p/\j=i):=λj a g=>by
   by_cases b:j=i
   .rw[Do b]at g;rw[b,d];rcases Ee.mp g with z|z
    .exact .inl (by rw[z];exact Bi)
    .rcases FV.mp z with z|z
     .exact .inl (BM _ (Gc _ z))
     .rcases Ee.mp z with z|z
      .exact .inr ⟨z,rfl⟩
      .exact .inl (BM _ (FK _ z))
   .rw[Bn b]at g;exact .inl g
  rcases up j a x with x|⟨x,e⟩
  .rcases up k a y with y|⟨y,e⟩
   .exact O.ds j k a (aL.mpr c) (aL.mpr hk) x y
   .exact(E j c (by rw[<-y];exact x)).elim
  .rcases up k a y with y|⟨y,e'⟩
   .exact(E k hk (by rw[<-x];exact y)).elim
   .rw[e,e']
 .by_cases b:j=i
  .rw[Do b]at g;rcases Ee.mp g with z|z
   .rw[z];exact s0.free (O.nw i q (aL.mpr r) (by rw[d];exact Bi))
   .rcases FV.mp z with z|z
    .exact s0.free (O.nw i a (aL.mpr r) (by rw[d];exact BM _ (Gc _ z)))
    .rcases Ee.mp z with z|z
     .rw[z];exact Q
     .exact s0.free (O.nw i a (aL.mpr r) (by rw[d];exact BM _ (FK _ z)))
  .rw[Bn b]at g;exact s0.free (O.nw j a (aL.mpr c) g)
 .by_cases b:j=i
  .rw[Do b]at g;have na:∀a∈F i,¬A.ab a:=λa h z=>O.na i a (aL.mpr r) h ((I a).mpr (.inl z));rcases Ee.mp g with z|z
   .exact na a (by rw[d,z];exact Bi)
   .rcases FV.mp z with z|z
    .exact na a (by rw[d];exact BM _ (Gc _ z))
    .rcases Ee.mp z with z|z
     .rw[z];exact U6
     .exact na a (by rw[d];exact BM _ (FK _ z))
  .rw[Bn b]at g;exact λz=>O.na j a (aL.mpr c) g ((I a).mpr (.inl z))
 .show t.B a↔_;rw[O.all a,I a];constructor
  .rintro((z|z)|⟨j,c,z⟩)
   .exact .inl z
   .exact .inr ⟨i,r,by rw[Do rfl,z];exact BM _ (FK _ Bi)⟩
   .refine .inr ⟨j,aL.mp c,?_⟩;by_cases b:j=i
    .rw[Do b];rw[b,d]at z;rcases Ee.mp z with z|z
     .rw[z];exact Bi
     .refine BM _ ?_;rcases FV.mp z with z|z
      .exact Gc _ z
      .exact FK _ (BM _ z)
    .rw[Bn b];exact z
  .rintro(z|⟨j,c,z⟩)
   .exact .inl (.inl z)
   .by_cases b:j=i
    .rw[Do b]at z;rcases Ee.mp z with z|z
     .exact .inr ⟨i,aL.mpr r,by rw[d,z];exact Bi⟩
     .rcases FV.mp z with z|z
      .exact .inr ⟨i,aL.mpr r,by rw[d];exact BM _ (Gc _ z)⟩
      .rcases Ee.mp z with z|z
       .exact .inl (.inr z)
       .exact .inr ⟨i,aL.mpr r,by rw[d];exact BM _ (FK _ z)⟩
    .rw[Bn b]at z;exact .inr ⟨j,aL.mpr c,z⟩
end
section
variable{X:Cx}{M:Ms}{m:Md}{st:Stmt}{i n:Nat}{e:Expr}{fs:List Str}{ms:List Md}{x:Str}
theorem LH(Q:∀{Z:TE},PE X e Z->PS X st (mK (NF X.K "list" jz (kq X.K i [.fl n x]) (pV Z yx))))(T:(i,.o fs ms)∈M)(hf:fs[n]?=some x)(hn:ms[n]?=some .f)(un:∀j m1 m2,(j,m1)∈M->(j,m2)∈M->m1=m2){tt:(Addr->Prop)->tS}(he:∀R,VP X (Dv M i n) R e (tt R)):
 VS X M m st (λd J=>match look J i with|some (.obj C fs P)=>(∃l,P[n]?=some (.lst l)/\∀a:Addr,tt d.ex (J.set i (some (.obj C fs (P.set n (.cls a))))) λw c=>∃E,look c i=some (.obj C fs E)/\E[n]?=some (.cls a)/\l.length<sizeLine/\d.nx (c.set i (some (.obj C fs (E.set n (.lst (l++[w])))))))|_=>False):=by
 rintro t s σ H D I ⟨A,H0,J,d,S,er,hz,h,k⟩
 try dsimp only at h
 cases L:look J i with
 |none=>rw[L]at h;exact h.elim
 |some w0=>
  rw[L]at h;cases w0 with
  |obj C y P=>
   obtain⟨l,hw,h⟩:=h;have WR:y=fs:=by obtain⟨F,O⟩:=S.ow;obtain⟨v,hv,fp⟩:=O.val i _ _ T L;obtain⟨C',dx,E,q,Y,F',e1,_⟩:=fp;cases e1;rfl
   subst WR;obtain⟨q,dx,p,Y,N,A',Fq,g1,g2,g3,hc,g4,g5,g6,s0,g7,g8,g9,es,ea,eb,S'⟩:=S.view T hn L hw;refine Q (he d.ex) t s σ H D I ⟨.ref q,.ref p,g1,⟨q,Y,.ref p,rfl,⟨C,dx,y,g2,g3,hc,hf⟩,g4,rfl⟩,.inl ⟨rfl,N,.inl (.inl g5)⟩,A',Fq,_,_,S',er.up s0,h p,λA1 w v H1 bF b g S1 r=>?_⟩;obtain⟨E,U,Du,u,b⟩:=b;have hr:af X.K A1.B H1 l N:=g.SY (g6.less λa z=>(eb a).mp z);have S2:=SR.back (A:=A) un S1 T hn s0 g7 g8 g9 (g.s0.trans es) (λa=>by rw[g.ab];exact ea a) U Du (hr.app (.cons r .nil));exact⟨p,N,v,rfl,rfl,S1.sm _ _ g7,by rw[g6.len];exact u,k.nx ⟨A.ab,A1.B,A.s0⟩ _ _ _ rfl rfl b S2⟩
  |_=>exact h.elim
end
theorem a2{a b:Bool}(z:(a&&b)=true):a=true/\b=true:=by cases a<;>cases b<;>first|exact⟨rfl,rfl⟩|exact ff z
theorem a3{a b c:Bool}(z:((a&&b)&&c)=true):(a=true/\b=true)/\c=true:=⟨a2 (a2 z).1,(a2 z).2⟩
structure SE where
 N:List Str
 nk:List (Str×NameKind)
 M:Ms
 fn:List Str
 gn:List Str
 zn:List Str
 md:List Md
 mt:List (Nat×Nat)
noncomputable def gj:List Md->Nat->Md
 |[],_=>.s
 |x::_,0=>x
 |_::l,n+1=>gj l n
noncomputable def LI:Md->Bool
 |.f=>true
 |_=>false
noncomputable def Ft:Md->Bool
 |.s=>true
 |_=>false
noncomputable def rA(M:Ms)(i:Nat):Bool:=(M.lookup i).isSome
theorem iy{M:Ms}{i:Nat}(h:rA M i=false):¬aJ M i:=by
 rintro⟨m,d⟩;unfold rA at h;have:∀M:Ms,(i,m)∈M->(M.lookup i).isSome=true:=λM=>by
  induction M with
  |nil=>intro z;cases z
  |cons x M c=>
   intro z;obtain⟨a,b⟩:=x;rw[Ei];cases e:i==a with
   |true=>rfl
   |false=>
    rcases Ee.mp z with z|z
    .cases z;rw[Pi]at e;cases e
    .exact c z
 rw[this M d]at h;cases h
theorem dW{M:Ms}{i:Nat}{m:Md}(h:M.lookup i=some m):(i,m)∈M:=by
 induction M with
 |nil=>exact nn h
 |cons x M c=>
  obtain⟨a,b⟩:=x;rw[Ei]at h;cases e:i==a with
  |true=>rw[e]at h;cases h;cases Iy.mp e;exact Bi
  |false=>rw[e]at h;exact BM _ (c h)
noncomputable def tX(M:Ms)(i:Nat):Bool:=match M.lookup i with
 |none=>true
 |some m=>LI m
theorem tY{M:Ms}{i:Nat}(h:tX M i=true):aJ M i->(i,.f)∈M:=λa=>by
 unfold tX at h;cases e:M.lookup i with
 |none=>exact(iy (by unfold rA;rw[e];rfl) a).elim
 |some m=>rw[e]at h;cases m<;>first|exact dW e|exact ff h
noncomputable def Qe:Md->Bool
 |.d=>true
 |_=>false
noncomputable def ze(M:Ms)(i:Nat):Bool:=match M.lookup i with
 |none=>false
 |some m=>Qe m
theorem rB{M:Ms}{i:Nat}(h:ze M i=true):(i,.d)∈M:=by
 unfold ze at h;cases e:M.lookup i with
 |none=>rw[e]at h;exact ff h
 |some m=>rw[e]at h;cases m<;>first|exact dW e|exact ff h
noncomputable def zf(M:Ms)(i:Nat):Bool:=match M.lookup i with
 |none=>false
 |some m=>LI m
theorem lY{M:Ms}{i:Nat}(h:zf M i=true):(i,.f)∈M:=by
 unfold zf at h;cases e:M.lookup i with
 |none=>rw[e]at h;exact ff h
 |some m=>rw[e]at h;cases m<;>first|exact dW e|exact ff h
noncomputable def SE.sc(S:SE):Scope:={kind:=.function,names:=S.nk,isGenerator:=false,isCoroutine:=false}
noncomputable def Fv(S:SE)(x:Str):Bool:=S.nk.lookup x==some .local||(S.nk.lookup x==some .cell||S.nk.lookup x==some .free)
noncomputable def okN(x:Str):Bool:=!(x==("__debug__":Str))&&!(x==("__classdict__":Str))&&!(x==("__name__":Str))
noncomputable def pC(S:SE)(x:Str):Bool:=(S.nk.lookup x==some .globalImplicit)&&okN x
noncomputable def tys:List String:=["int","bool","tuple","list","str","dict"]
noncomputable def lZ:Expr->Bool
 |.Call _ _ _ _=>false
 |_=>true
noncomputable def mC(f:Const->Bool):Expr->Bool
 |.Constant c _ _=>f c
 |_=>false
noncomputable def S9(f:Str->Pos->Bool):Expr->Bool
 |.Name x p=>f x p
 |_=>false
noncomputable def tZ(f:Str->Bool):Expr->Bool:=S9 λx _=>f x
noncomputable def gP(S:SE)(i:Nat):Expr->Bool:=tZ λx=>S.N[i]?==some x&&Fv S x&&okN x
noncomputable def o1{α:Type}(f:α->Bool):List α->Bool
 |[a]=>f a
 |_=>false
noncomputable def Qf(f:Expr->List CmpOp->List Expr->Bool):Expr->Bool
 |.Compare l b a _=>f l b a
 |_=>false
noncomputable def qm(f:Expr->List Expr->Bool->Pos->Bool):Expr->Bool
 |.Call g es a p=>f g es a.isEmpty p
 |_=>false
noncomputable def rC(f:Expr->Str->Pos->Bool):Expr->Bool
 |.Attribute o m p=>f o m p
 |_=>false
noncomputable def U7(f:Option Expr->Option Expr->Option Expr->Bool):Expr->Bool
 |.Slice l h t _=>f l h t
 |_=>false
noncomputable def U8(f:Expr->List Comprehension->Scope->Bool):Expr->Bool
 |.ListComp x a s _=>f x a s
 |_=>false
noncomputable def BV(f:Operator->Expr->Expr->Bool):Expr->Bool
 |.BinOp l o r _=>f o l r
 |_=>false
noncomputable def Rq(f:UnaryOp->Expr->Bool):Expr->Bool
 |.UnaryOp o x _=>f o x
 |_=>false
noncomputable def BW(f:CmpOp->Expr->Expr->Bool):Expr->Bool:=Qf λl b a=>o1 (λo=>o1 (λr=>f o l r) a) b
noncomputable def o2{α:Type}(f:α->α->Bool):List α->Bool
 |a::l=>o1 (f a) l
 |_=>false
noncomputable def o3{α:Type}(f:α->α->α->Bool):List α->Bool
 |a::l=>o2 (f a) l
 |_=>false
noncomputable def LJ(f:BoolOp->List Expr->Bool):Expr->Bool
 |.BoolOp o es _=>f o es
 |_=>false
noncomputable def U9(f:Expr->Expr->Expr->Bool):Expr->Bool
 |.IfExp t x y _=>f t x y
 |_=>false
noncomputable def vE(f:List Expr->Bool):Expr->Bool
 |.Tuple es _ _=>f es
 |_=>false
noncomputable def LK(f:List Expr->Bool):Expr->Bool
 |.List es _=>f es
 |_=>false
noncomputable def vF(f:Expr->Expr->Bool):Expr->Bool
 |.Subscript v s _=>f v s
 |_=>false
noncomputable def Tc(f:Expr->Option Expr->Option Expr->Bool):Expr->Bool:=vF λv s=>U7 (λl h t=>t.isNone&&f v l h) s
noncomputable def kW(f:Str->List Expr->Bool):Expr->Bool:=qm λg a k _=>k&&tZ (λx=>f x a) g
noncomputable def vG(f:Expr->Str->Pos->Pos->Bool):Expr->Bool:=qm λg b k c=>k&&b.isEmpty&&rC (λo m a=>f o m a c) g
noncomputable def Ir(f:Expr->Expr->Expr->List Expr->Scope->Bool):Expr->Bool:=U8 λx a s=>o1 (λg=>decide (g.is_async=0)&&f x g.target g.iter g.ifs s) a
theorem fH{f:Const->Bool}{e:Expr}(h:mC f e=true):∃c k p,e=.Constant c k p/\f c=true:=by cases e<;>first|exact⟨_,_,_,rfl,h⟩|exact ff h
theorem xo{f:Str->Pos->Bool}{e:Expr}(h:S9 f e=true):∃x p,e=.Name x p/\f x p=true:=by cases e<;>first|exact⟨_,_,rfl,h⟩|exact ff h
theorem BX{f:Expr->List CmpOp->List Expr->Bool}{e:Expr}(h:Qf f e=true):∃l b a p,e=.Compare l b a p/\f l b a=true:=by cases e<;>first|exact⟨_,_,_,_,rfl,h⟩|exact ff h
theorem fT{f:Expr->List Expr->Bool->Pos->Bool}{e:Expr}(h:qm f e=true):∃g es a p,e=.Call g es a p/\f g es a.isEmpty p=true:=by cases e<;>first|exact⟨_,_,_,_,rfl,h⟩|exact ff h
theorem b9{f:Expr->Str->Pos->Bool}{e:Expr}(h:rC f e=true):∃o m p,e=.Attribute o m p/\f o m p=true:=by cases e<;>first|exact⟨_,_,_,rfl,h⟩|exact ff h
theorem Fw{f:Option Expr->Option Expr->Option Expr->Bool}{e:Expr}(h:U7 f e=true):∃l r t p,e=.Slice l r t p/\f l r t=true:=by cases e<;>first|exact⟨_,_,_,_,rfl,h⟩|exact ff h
theorem Fx{f:Expr->List Comprehension->Scope->Bool}{e:Expr}(h:U8 f e=true):∃x a s p,e=.ListComp x a s p/\f x a s=true:=by cases e<;>first|exact⟨_,_,_,_,rfl,h⟩|exact ff h
theorem c7{α:Type}{f:α->Bool}{l:List α}(h:o1 f l=true):∃a,l=[a]/\f a=true:=by rcases l with _|⟨a,_|_⟩<;>first|exact⟨_,rfl,h⟩|exact ff h
theorem LL{α:Type}{f:α->α->Bool}{l:List α}(h:o2 f l=true):∃a b,l=[a,b]/\f a b=true:=by
 cases l with
 |nil=>exact ff h
 |cons a l=>obtain⟨b,rfl,c⟩:=c7 h;exact⟨_,_,rfl,c⟩
theorem b5{f:Str->Bool}{e:Expr}(h:tZ f e=true):∃x p,e=.Name x p/\f x=true:=xo h
theorem ku{f:Operator->Expr->Expr->Bool}{e:Expr}(h:BV f e=true):∃l o r p,e=.BinOp l o r p/\f o l r=true:=by cases e<;>first|exact⟨_,_,_,_,rfl,h⟩|exact ff h
theorem jF{f:UnaryOp->Expr->Bool}{e:Expr}(h:Rq f e=true):∃o x p,e=.UnaryOp o x p/\f o x=true:=by cases e<;>first|exact⟨_,_,_,rfl,h⟩|exact ff h
theorem kC{f:CmpOp->Expr->Expr->Bool}{e:Expr}(h:BW f e=true):∃l o r p,e=.Compare l [o] [r] p/\f o l r=true:=by obtain⟨l,g,d,p,rfl,c⟩:=BX h;obtain⟨o,rfl,b⟩:=c7 c;obtain⟨r,rfl,a⟩:=c7 b;exact⟨_,_,_,_,rfl,a⟩
theorem iz{f:BoolOp->List Expr->Bool}{e:Expr}(h:LJ f e=true):∃o es p,e=.BoolOp o es p/\f o es=true:=by cases e<;>first|exact⟨_,_,_,rfl,h⟩|exact ff h
theorem Fy{f:Expr->Expr->Expr->Bool}{e:Expr}(h:U9 f e=true):∃t x y p,e=.IfExp t x y p/\f t x y=true:=by cases e<;>first|exact⟨_,_,_,_,rfl,h⟩|exact ff h
theorem dB{f:List Expr->Bool}{e:Expr}(h:vE f e=true):∃es k p,e=.Tuple es k p/\f es=true:=by cases e<;>first|exact⟨_,_,_,rfl,h⟩|exact ff h
theorem nt{f:List Expr->Bool}{e:Expr}(h:LK f e=true):∃es p,e=.List es p/\f es=true:=by cases e<;>first|exact⟨_,_,rfl,h⟩|exact ff h
theorem cK{f:Expr->Expr->Bool}{e:Expr}(h:vF f e=true):∃v s p,e=.Subscript v s p/\f v s=true:=by cases e<;>first|exact⟨_,_,_,rfl,h⟩|exact ff h
theorem l5{f:Expr->Option Expr->Option Expr->Bool}{e:Expr}(h:Tc f e=true):∃v l r q p,e=.Subscript v (.Slice l r none q) p/\f v l r=true:=by obtain⟨v,s,p,rfl,c⟩:=cK h;obtain⟨l,r,t,q,rfl,b⟩:=Fw c;obtain⟨k,a⟩:=a2 b;rw[Option.isNone_iff_eq_none.mp k];exact⟨_,_,_,_,_,rfl,a⟩
theorem aX{f:Str->List Expr->Bool}{e:Expr}(h:kW f e=true):∃x q es p,e=.Call (.Name x q) es [] p/\f x es=true:=by obtain⟨g,es,d,p,rfl,c⟩:=fT h;obtain⟨k,b⟩:=a2 c;obtain⟨x,q,rfl,a⟩:=b5 b;rw[Fu.mp k];exact⟨_,_,_,_,rfl,a⟩
theorem iV{f:Expr->Str->Pos->Pos->Bool}{e:Expr}(h:vG f e=true):∃o m a c,e=.Call (.Attribute o m a) [] [] c/\f o m a c=true:=by obtain⟨g,n,j,p,rfl,i⟩:=fT h;obtain⟨⟨k,l⟩,d⟩:=a3 i;obtain⟨o,m,a,rfl,b⟩:=b9 d;rw[Fu.mp k,Fu.mp l];exact⟨_,_,_,_,rfl,b⟩
noncomputable def BY(f:Expr->Str->Pos->Pos->Expr->Expr->Bool):Expr->Bool:=qm λg b k c=>k&&o2 (λx y=>rC (λo m a=>f o m a c x y) g) b
theorem nv{f:Expr->Str->Pos->Pos->Expr->Expr->Bool}{e:Expr}(h:BY f e=true):∃o m a c x y,e=.Call (.Attribute o m a) [x,y] [] c/\f o m a c x y=true:=by obtain⟨g,l,j,p,rfl,i⟩:=fT h;obtain⟨k,b⟩:=a2 i;obtain⟨x,y,rfl,b⟩:=LL b;obtain⟨o,m,a,rfl,d⟩:=b9 b;rw[Fu.mp k];exact⟨_,_,_,_,_,_,rfl,d⟩
theorem qo{f:Expr->Expr->Expr->List Expr->Scope->Bool}{e:Expr}(h:Ir f e=true):∃d tg b c a p,e=.ListComp d [⟨tg,b,c,0⟩] a p/\f d tg b c a=true:=by obtain⟨x,m,s,p,rfl,j⟩:=Fx h;obtain⟨⟨tg,l,n,z⟩,rfl,i⟩:=c7 j;obtain⟨k,g⟩:=a2 i;cases Ap k;exact⟨_,_,_,_,_,_,rfl,g⟩
noncomputable def WU(n:Int):Const->Bool
 |.int j=>decide (j=n)
 |_=>false
noncomputable def t6(S:SE)(i:Nat):List ir->Expr->Bool
 |[],e=>gP S i e
 |.fl _ x::π,e=>rC (λa f _=>decide (f=x)&&lZ a&&t6 S i π a) e
 |.ix n::π,e=>vF (λa k=>mC (WU n) k&&t6 S i π a) e
noncomputable def iN(S:SE)(m:Md->Bool)(i:Nat)(π:List ir)(e:Expr):Bool:=!π.isEmpty&&t6 S i π.reverse e&&(match S.M.lookup i with
 |some a=>(match gC a π with
  |some k=>m k
  |none=>false)
 |none=>false)
noncomputable def fJ(S:SE):CE->Expr->Bool
 |.var i,e=>gP S i e&&tX S.M i
 |.own i π,e=>iN S LI i π e
 |_,_=>false
noncomputable def Rr:BI->Str
 |.len=>"len"
 |.abs=>"abs"
 |.max2=>"max"
 |.min2=>"min"
 |.sum=>"sum"
 |.all=>"all"
 |.any=>"any"
 |.list=>"list"
 |.tuple=>"tuple"
 |.Bq=>"isinstance"
 |.int=>"int"
 |.Ri=>"divmod"
 |.str=>"str"
noncomputable def Va:BI->Nat->Bool
 |_,n=>0<n
noncomputable def z6:CE->Bool
 |.ite _ _ _=>false
 |.not a=>z6 a
 |.and b=>BZ b
 |.or b=>BZ b
 |_=>true
where BZ:List CE->Bool
 |[]=>true
 |a::b=>z6 a&&BZ b
noncomputable def t7:Expr->Bool
 |.Slice _ _ _ _=>false
 |_=>true
noncomputable def rD:Expr->Bool
 |.Set _ _ _=>false
 |_=>true
noncomputable def B0:List Expr->Option (List Str)
 |[]=>some []
 |.Name x _::es=>(B0 es).map λl=>x::l
 |_::_=>none
noncomputable def Qg:Expr->Option (Bool×List Str)
 |.Name x _=>some (true,[x])
 |.Tuple es _ _=>(B0 es).map λl=>(false,l)
 |_=>none
noncomputable def mask(a:List Str)(N:List Str):List Str:=N.map λy=>if a.contains y then y++("!":Str)else y
noncomputable def SE.comp(S:SE)(a:Scope)(b:List Str):SE:=
 {S with N:=b++mask b S.N,nk:=a.names.map λp=>(p.1,if p.2=.free then .cell else p.2),M:=up S.M b.length}
noncomputable def SE.lend(S:SE)(a:List Nat):SE:={S with M:=S.M.filter (λx=>!a.contains x.1)}
noncomputable def Qh:CE->Option String
 |.Dr n=>some n
 |_=>none
noncomputable def B3:CE->Bool
 |_=>false
noncomputable def B4(n:Bool)(f:Expr->Bool):Option Expr->Bool
 |none=>n
 |some e=>!n&&f e
noncomputable def Iu:CE->Bool
 |.bl b=>b
 |_=>false
noncomputable def Qi:BI->List CE->Bool
 |.Bq,[_,c]=>(Qh c).isSome
 |.Bq,_=>false
 |_,_=>true
noncomputable def Td(y:Bool)(f:Expr->Bool):List Expr->Bool
 |[]=>y
 |[e]=>f e
 |_=>false
noncomputable def xq(f:Expr->Bool)(g:List Expr->Bool):List Expr->Bool
 |e::es=>f e&&g es
 |[]=>false
noncomputable def Qj(f:Expr->Bool):List Expr->Bool:=o1 f
noncomputable def ny(S:SE)(g:List Nat)(d:Bool)(n:Nat)(k:Bool)(i:Expr->Bool)(j:SE->List Expr->Bool)(h:SE->Expr->Bool)(f tg b:Expr)(e:List Expr)(a:Scope):Bool:=
 match Qg tg with
 |some (o,c)=>(d==o)&&(n==c.length)&&(g==Gr n)&&cZ a S.sc S.N (mask c S.N) c&&decide (c++mask c S.N).Nodup&&rD b&&(!k||!d)&&i b&&j (S.comp a c) e&&h (S.comp a c) f
 |none=>false
noncomputable def Qk:Expr->Bool
 |.Call _ (_::_) _ _=>true
 |_=>false
noncomputable def Vb(f:List Expr->Bool):Expr->Bool
 |.JoinedStr vs _=>f vs
 |_=>false
noncomputable def Vd(f:Expr->Bool):Expr->Bool
 |.FormattedValue v c none _=>decide (c= -1)&&f v
 |_=>false
noncomputable def gk(c:Nat->Md):CE->Bool
 |.lst _=>true
 |.comp _ _ _ _ _ _=>true
 |.blt .list _=>true
 |.NK _=>true
 |.qT _ f _=>match c f with
  |.f=>true
  |_=>false
 |.sl _ _ _=>true
 |.bin .Add a b=>gk c a||gk c b
 |.bin .Mult a _=>gk c a
 |.call f _=>match c f with
  |.f=>true
  |_=>false
 |.ite _ a b=>gk c a&&gk c b
 |_=>false
noncomputable def mo(a:Nat->Md)(c:CE):Md:=if gk a c=true then .f else .s
noncomputable def Ql:Expr->Bool
 |.Name _ _=>true
 |_=>false
noncomputable def Tf(b:List Str)(vs:List Int):Expr->Bool
 |.Dict a es _=>Fl b vs a es
 |_=>false
mutual
noncomputable def aF(S:SE)(H:Bool):CE->Expr->Bool
 |.var i,e=>gP S i e&&!rA S.M i
 |.int i,e=>mC (λc=>decide (c=.int i)) e
 |.bl b,e=>mC (λc=>decide (c=.bool b)) e
 |.str x,e=>mC (λc=>decide (c=.str x)) e
 |.aI,e=>mC (λc=>decide (c=.none)) e
 |.Dr n,e=>tZ (λx=>decide (x=Str.ofString n)&&pC S x&&S.zn.contains x&&tys.contains n) e
 |.glob g,e=>tZ (λx=>S.gn[g]?==some x&&pC S x) e
 |.bin op a b,e=>BV (λo l r=>decide (op=o)&&(aF S false a l||fJ S a l)&&(aF S false b r||fJ S b r)) e
 |.neg a,e=>Rq (λo x=>decide (o=.USub)&&aF S false a x) e
 |.not a,e=>Rq (λo x=>decide (o=.Not)&&aF S false a x) e
 |.cmp op a b,e=>BW (λo l r=>decide (op=o)&&rD r&&(aF S false a l||fJ S a l)&&(aF S false b r||fJ S b r)) e
 |.and d,e=>LJ (λo es=>decide (o=.And)&&!es.isEmpty&&dX S d es) e
 |.or d,e=>LJ (λo es=>decide (o=.Or)&&!es.isEmpty&&dX S d es) e
 |.ite c a b,e=>U9 (λt x y=>aF S false c t&&z6 c&&aF S false a x&&aF S false b y) e
 |.tup d,e=>vE (λes=>dX S d es) e
 |.lst d,e=>LK (λes=>dX S d es) e
 |.ix a i,e=>vF (λv s=>t7 s&&(aF S false a v||fJ S a v)&&aF S false i s) e
 |.sl a z A,e=>Tc (λv l h=>(aF S false a v||fJ S a v)&&B4 (gx z) (λx=>aF S false z x) l&&B4 (gx A) (λx=>aF S false A x) h) e
 |.call f d,e=>kW (λx es=>S.fn[f]?==some x&&pC S x&&!es.isEmpty&&!dz (gj S.md f)&&!S.mt.any (·.1==f)&&dX S d es) e
 |.blt b d,e=>kW (λx es=>decide (x=Rr b)&&pC S x&&S.zn.contains x&&Va b es.length&&Qi b d&&kX S d es) e
 |.comp F one n i c x,e=>Ir (λw tg j q p=>ny S F one n (B3 i) (λj=>aF S true i j||fJ S i j) (λE q=>Td (Iu c) (λf=>aF E false c f&&z6 c) q) (λE w=>aF E false x w) w tg j q p) e
 |.pS d,e=>kW (λx es=>H&&decide (x=("range":Str))&&pC S x&&S.zn.contains x&&(d.length==1||d.length==2||d.length==3)&&dX S d es) e
 |.pop _,_=>false
 |.own i π,e=>iN S Ft i π e
 |.jm _ _ _ _,_=>false
 |.Br _ _ _ _,_=>false
 |.fst d,e=>Vb (λes=>dX S d es) e
 |.fmt a,e=>Vd (λv=>aF S false a v) e
 |.slt a z A,e=>Tc (λv l h=>(aF S false a v||fJ S a v)&&B4 (gx z) (λx=>aF S false z x) l&&B4 (gx A) (λx=>aF S false A x) h) e
 |.NJ a b c,e=>BY (λo m D C u v=>decide (m=("startswith":Str))&&(D.endLine==C.line)&&lZ o&&aF S false a o&&aF S false b u&&aF S false c v) e
 |.Kg a _ x,e=>rC (λo f _=>decide (f=x)&&lZ o&&aF S false a o) e
 |.qT g f a,e=>vG (λo x D C=>(D.endLine==C.line)&&(Ql o||Qk o)&&S.fn[f]?==some x&&S.mt.any (λy=>y.1==f&&y.2==g)&&!dz (gj S.md f)&&aF S false a o) e
 |.NK i,e=>kW (λx es=>decide (x=("sorted":Str))&&pC S x&&S.zn.contains x&&Qj (λv=>ze S.M i&&gP S i v) es) e
 |.NL B vs k,e=>vF (λv s=>t7 s&&Tf B vs v&&decide B.Nodup&&!B.isEmpty&&decide (B.length<=15)&&aF S false k s) e
noncomputable def dX(S:SE):List CE->List Expr->Bool
 |[],es=>es.isEmpty
 |a::b,es=>xq (λe=>aF S false a e) (λes=>dX S b es) es
noncomputable def kX(S:SE):List CE->List Expr->Bool
 |[],es=>es.isEmpty
 |a::b,es=>xq (λe=>aF S false a e||fJ S a e) (λes=>kX S b es) es
end
structure XOk(S:SE)(Φ:Nat->aU)(Ψ:Nat->Md)(G:Nat->W)(X:Cx):Prop where
 hN:X.N=S.N
 nd:X.N.Nodup
 calm:X.calm=true
 un:X.A.units+64<cLine
 nk:∀x,X.env.scope.names.lookup x=S.nk.lookup x
 fns:∀(j:Nat)(x:Str),S.fn[j]?=some x->S.mt.any (·.1==j)=false->∃fv n k,X.mg x=some fv/\bW X.prog X.w X.K X.mg X.base k fv n (oZ X.K n (Ψ j) (Φ j))/\ck k X.A/\∀ws P R,Φ j ws P R->ws.length=n
 qT:∀(j g:Nat)(x:Str),S.fn[j]?=some x->(j,g)∈S.mt->∃f fd ps n k,(∀C,G g=.cls C->Meth X.K C x f)/\Binds X.K fd ps []/\bL X.prog X.w X.K X.mg X.base (iL X.prog X.w) k f fd ps (oZ X.K n (Ψ j) (Φ j))/\ck k X.A/\∀ws P R,Φ j ws P R->ws.length=n
 Dw:Ψ=gj S.md
 Iv:∀(j:Nat)(x:Str),S.gn[j]?=some x->∃u v,X.mg x=some u/\RelV v u/\∀B H,Rep X.K B H (G j) v
 B5:∀x∈S.zn,X.mg x=none
 kit:tM X.K
section
variable{S:SE}{Φ:Nat->aU}{Ψ:Nat->Md}{G:Nat->W}{X:Cx}
theorem XOk.kO(h:XOk S Φ Ψ G X):XOk S Φ Ψ G X.kO:=⟨h.hN,h.nd,h.calm,h.un,h.nk,h.fns,h.qT,h.Dw,h.Iv,h.B5,h.kit⟩
theorem xr{x:Str}(h:okN x=true):(x==("__debug__":Str))=false/\(x==("__classdict__":Str))=false/\x≠"__name__":=by unfold okN at h;simp only[AC,Y5]at h;exact⟨h.1.1,h.1.2,λz=>by rw[z]at h;exact absurd h.2 (by simp)⟩
theorem cL{x:Str}(a:XOk S Φ Ψ G X)(h:pC S x=true):Gl X x/\(x==("__debug__":Str))=false/\x≠"__name__":=by unfold pC at h;rw[AC]at h;obtain⟨c,d,b⟩:=xr h.2;refine⟨?_,c,b⟩;show X.env.scope.names.lookup x=_;rw[a.nk];exact Iy.mp h.1
theorem cy(b:XOk S Φ Ψ G X){i:Nat}{e:Expr}(h:gP S i e=true):PE X e (gG i):=by obtain⟨x,c,rfl,h⟩:=b5 h;obtain⟨h,d⟩:=IR.mp h;obtain⟨f,a⟩:=IR.mp h;obtain⟨j,g,_⟩:=xr d;refine Aq (by rw[b.hN];exact Iy.mp f) ?_ j g;simp only[Fv,Wp,Iy]at a;rw[<-b.nk]at a;exact a
noncomputable def noStar:Expr->Bool
 |.Starred _ _=>false
 |_=>true
theorem aD{e:Expr}(h:noStar e=true)(es:List Expr)(env:Env):starEach (e::es) env=(false,eval e env)::starEach es env:=by
 cases e<;>first|rfl|exact ff h
theorem bH:∀{es:List Expr}(h:es.all noStar=true)(pos:Pos)(env:Env),(backTo pos (starEach es env)).any (·.1)=false
 |[],_,_,_=>rfl
 |e::es,h,pos,env=>by rw[AU,AC]at h;rw[aD h.1];show(false||(backTo pos (starEach es env)).any (·.1))=false;rw[bH h.2];rfl
theorem cG{m:Md->Bool}{i:Nat}{π:List ir}{e:Expr}(h:iN S m i π e=true):
 (∃g k,π≠[]/\t6 S i π.reverse e=true/\S.M.lookup i=some g/\gC g π=some k/\m k=true)/\((∃a f q,e=.Attribute a f q)\/∃a j c d q,e=.Subscript a (.Constant (.int j) c d) q):=by
 unfold iN at h;rw[AC,AC]at h;obtain⟨⟨y,l⟩,b⟩:=h;have u:π≠[]:=λz=>by rw[z]at y;exact ff y
 constructor
 .split at b
  .rename_i g hl
   split at b
   .rename_i k hk
    exact⟨g,k,u,l,hl,hk,b⟩
   .cases b
  .cases b
 .cases t:π.reverse with
  |nil=>exact(u (by simpa using t)).elim
  |cons s r=>
   rw[t]at l;cases s with
   |ix n=>obtain⟨v,s,p,rfl,w⟩:=cK l;obtain⟨c,k,q,rfl,A⟩:=fH (a2 w).1;cases c<;>first|exact .inr ⟨_,_,_,_,_,rfl⟩|exact ff A
   |fl n x=>obtain⟨o,m,p,rfl,w⟩:=b9 l;exact .inl ⟨_,_,_,rfl⟩
theorem nA{m:Md->Bool}{i:Nat}{π:List ir}{v:Expr}{p:Pos}(h:iN S m i π (.Starred v p)=true):False:=by rcases(cG h).2 with⟨_,_,_,e⟩|⟨_,_,_,_,_,e⟩<;>cases e
theorem aW{a:Bool}{c:CE}{e:Expr}(h:aF S a c e=true\/fJ S c e=true):noStar e=true:=by
 cases e with
 |Starred v p=>
  rcases h with h|h
  .cases c with
   |own i b=>exact(nA h).elim
   |_=>exact ff h
  .cases c<;>first|exact ff h|exact(nA h).elim
 |_=>rfl
theorem e9{a b:Bool}(h:(a||b)=true):a=true\/b=true:=by
 cases a
 .exact .inr h
 .exact .inl rfl
theorem kD:∀{cs:List CE}{es:List Expr},dX S cs es=true->es.all noStar=true
 |[],es,h=>by
  cases es with
  |nil=>rfl
  |cons _ _=>exact ff h
 |c::cs,[],h=>by cases h
 |c::cs,e::es,h=>by have h:=a2 h;rw[AU,aW (.inl h.1),kD h.2];rfl
theorem nB:∀{cs:List CE}{es:List Expr},kX S cs es=true->es.all noStar=true
 |[],es,h=>by
  cases es with
  |nil=>rfl
  |cons _ _=>exact ff h
 |c::cs,[],h=>by cases h
 |c::cs,e::es,h=>by have h:=a2 h;rw[AU,aW (e9 h.1),nB h.2];rfl
theorem rE{b:Expr}(h:t7 b=true):jv b:=λo i=>by cases b<;>first|rfl|exact ff h
theorem kF{a:Expr}(h:lZ a=true)(f:Str)(env:Env)(b:Sem Value):attributeBase a f env b=b:=by cases a<;>first|rfl|exact ff h
theorem nD(b:XOk S Φ Ψ G X){i:Nat}:∀(π:List ir)(e:Expr),t6 S i π e=true->PE X e (kq X.K i π.reverse)
 |[],e,h=>BQ (cy b h)
 |.fl n x::π,e,h=>by obtain⟨o,m,p,rfl,g⟩:=b9 h;obtain⟨⟨a,f⟩,d⟩:=a3 g;have a:=Ap a;subst a;rw[Y4];exact BR (nD b π _ d) (kF f _ _ _)
 |.ix n::π,e,h=>by
  obtain⟨v,s,p,rfl,g⟩:=cK h;obtain⟨f,d⟩:=a2 g;obtain⟨c,k,q,rfl,j⟩:=fH f;cases c<;>try exact ff j
  have a:=Ap j;subst a;rw[Y4];exact P9 (nD b π _ d) mJ (rE rfl)
theorem rF(b:XOk S Φ Ψ G X){m:Md->Bool}{i:Nat}{π:List ir}{e:Expr}(h:iN S m i π e=true):∃a k,(i,a)∈S.M/\gC a π=some k/\m k=true/\PE X e (kq X.K i π):=by obtain⟨⟨a,k,_,g,f,d,c⟩,_⟩:=cG h;have:=nD b π.reverse e g;rw[List.reverse_reverse]at this;exact⟨a,k,dW f,d,c,this⟩
theorem Qm(g:XOk S Φ Ψ G X){i:Nat}{π:List ir}{e:Expr}(h:iN S Ft i π e=true)(R:Addr->Prop):VE X S.M R .s e (λa Q=>match look a i with|some w=>(match bD w π with|some u=>Q u|none=>False)|none=>False):=by
 obtain⟨j,k,d,c,f,b⟩:=rF g h;cases k<;>first|(cases f;done)|skip
 exact Ky b d c
theorem Iw(g:XOk S Φ Ψ G X){i:Nat}{π:List ir}{e:Expr}(h:iN S LI i π e=true)(R:Addr->Prop):VB X S.M R e (λa Q=>match look a i with|some w=>(match bD w π with|some u=>Q u|none=>False)|none=>False):=by
 obtain⟨j,k,d,c,f,b⟩:=rF g h;cases k<;>first|(cases f;done)|skip
 exact Kw b d c
end
structure bT(Φ:Nat->aU)(Ψ:Nat->Md)(G:Nat->W)(c:CE):Prop where
 e:∀{S:SE}{X:Cx},XOk S Φ Ψ G X->∀ex,aF S false c ex=true->∀R,VE X S.M R (mo Ψ c) ex (wE Φ G R c)
 t:∀{S:SE}{X:Cx},XOk S Φ Ψ G X->∀ex,aF S false c ex=true->z6 c=true->∀R,VT X S.M R ex (wE Φ G R c)
 i:∀{S:SE}{X:Cx},XOk S Φ Ψ G X->∀tg br ex,(aF S true c ex||(br&&fJ S c ex))=true->(B3 c=true->∃elts kk tp,tg=Expr.Tuple elts kk tp)->∀R,PI X tg ex (EO X S.M R br (wE Φ G R c))
structure pD(Φ:Nat->aU)(Ψ:Nat->Md)(G:Nat->W)(cs:List CE):Prop where
 a:∀{S:SE}{X:Cx},XOk S Φ Ψ G X->∀es,dX S cs es=true->∀R,VA X S.M R es (wA Φ G R cs)
 b:∀{S:SE}{X:Cx},XOk S Φ Ψ G X->∀es,kX S cs es=true->∀R,NS X S.M R es (wA Φ G R cs)
 av:∀{S:SE}{X:Cx},XOk S Φ Ψ G X->∀es pos,es≠[]->dX S cs es=true->∀R,VE X S.M R .s (.BoolOp .And es pos) (yf Φ G R cs)
 ov:∀{S:SE}{X:Cx},XOk S Φ Ψ G X->∀es pos,es≠[]->dX S cs es=true->∀R,VE X S.M R .s (.BoolOp .Or es pos) (Ny Φ G R cs)
 «at»:∀{S:SE}{X:Cx},XOk S Φ Ψ G X->∀es pos,es≠[]->dX S cs es=true->z6.BZ cs=true->∀R,Ij X S.M R (.BoolOp .And es pos) (yf Φ G R cs)
 ot:∀{S:SE}{X:Cx},XOk S Φ Ψ G X->∀es pos,es≠[]->dX S cs es=true->z6.BZ cs=true->∀R,Ij X S.M R (.BoolOp .Or es pos) (Ny Φ G R cs)
section
variable{Φ:Nat->aU}{Ψ:Nat->Md}{G:Nat->W}
theorem cM{c:CE}(h:gk Ψ c=false):mo Ψ c=.s:=by unfold mo;rw[h];rfl
theorem gD{c:CE}(h:gk Ψ c=true):mo Ψ c=.f:=by unfold mo;rw[h];rfl
theorem bT.s{c:CE}(h:bT Φ Ψ G c){S:SE}{X:Cx}(a:XOk S Φ Ψ G X){ex:Expr}(k:aF S false c ex=true)(R:Addr->Prop):VE X S.M R .s ex (wE Φ G R c):=Bw (h.e a ex k R)
theorem bT.b{c:CE}(h:bT Φ Ψ G c){S:SE}{X:Cx}(a:XOk S Φ Ψ G X){ex:Expr}(k:(aF S false c ex||fJ S c ex)=true)(R:Addr->Prop):VB X S.M R ex (wE Φ G R c):=by
 rcases e9 k with k|k
 .exact PJ (h.e a ex k R)
 .cases c with
  |var i=>have k:(gP S i ex&&tX S.M i)=true:=k;rw[AC]at k;exact Bx (cy a k.1) (tY k.2)
  |own i d=>exact Iw a k R
  |_=>exact ff k
theorem bT.mk1{c:CE}(he:∀{S:SE}{X:Cx},XOk S Φ Ψ G X->∀ex,aF S false c ex=true->∀R,VE X S.M R (mo Ψ c) ex (wE Φ G R c))
 (e:∀{S:SE}{ex:Expr}(env:Env),aF S false c ex=true->∀a,isTrue ex env a=(do let v<-a;standAt ex.pos;holding [v] (truthy v)))
 (f:∀(S:SE)(ex:Expr),aF S true c ex=true->aF S false c ex=true)(d:∀(S:SE)(ex:Expr),fJ S c ex=false):bT Φ Ψ G c:=
 ⟨he,λb ex k _ R=>vA (e _ k) (Bw (he b ex k R)),λ{S X} b g br ex k _ R=>by rw[d,Re,Qr]at k;exact fG (kU (he b ex (f _ _ k) R))⟩
theorem LM(i:Nat):bT Φ Ψ G (.var i):=by
 have d:∀{S:SE}{X:Cx},XOk S Φ Ψ G X->∀ex,aF S false (.var i) ex=true->∀R,VE X S.M R (mo Ψ (.var i)) ex (wE Φ G R (.var i)):=λ{S X} a ex k R=>by have k:=a2 k;have e:¬aJ S.M i:=iy (by simpa using k.2);rw[cM rfl];exact Kv (cy a k.1) e
 refine⟨d,λ{S X} a ex k _ R=>vA (λc=>?_) (Bw (d a ex k R)),λ{S X} a f br ex k _ R=>?_⟩
 .have k:=a2 k;cases ex<;>first|rfl|(have:=k.1;exact ff this)
 .rcases e9 k with k|k
  .exact fG (kU (d a ex (by exact k) R))
  .rw[AC]at k;obtain⟨rfl,b⟩:=k;have b:(gP S i ex&&tX S.M i)=true:=b;rw[AC]at b;exact fG (PX (Bx (cy a b.1) (tY b.2)))
theorem LN(i:Nat)(π:List ir):bT Φ Ψ G (.own i π):=by
 have d:∀R,wE Φ G R (.own i π)=λe Q=>match look e i with|some w=>(match bD w π with|some u=>Q u|none=>False)|none=>False:=λR=>rfl
 have c:∀{S:SE}{X:Cx},XOk S Φ Ψ G X->∀ex,aF S false (.own i π) ex=true->∀R,VE X S.M R (mo Ψ (.own i π)) ex (wE Φ G R (.own i π)):=λ{S X} a ex k R=>by rw[cM rfl,d];exact Qm a k R
 refine⟨c,λ{S X} a ex k _ R=>vA (λb=>?_) (Bw (c a ex k R)),λ{S X} a g br ex k _ R=>?_⟩
 .rcases(cG k).2 with⟨_,_,_,rfl⟩|⟨_,_,_,_,_,rfl⟩<;>rfl
 .rcases e9 k with k|k
  .exact fG (kU (c a ex (by exact k) R))
  .rw[AC]at k;obtain⟨rfl,f⟩:=k;rw[d];exact fG (PX (Iw a f R))
theorem LO(i:Int):bT Φ Ψ G (.int i):=by
 refine .mk1 (λ{S X} d ex k R=>?_) (λ{S ex} b k a=>?_) (λS ex k=>by exact k) (λ_ _=>rfl)
 .obtain⟨c,q,p,rfl,k⟩:=fH k;cases Ap k;rw[cM rfl];exact yZ mJ λ_ _=>dN _
 .obtain⟨c,q,p,rfl,k⟩:=fH k;rfl
theorem Qn(i:Bool):bT Φ Ψ G (.bl i):=by
 refine .mk1 (λ{S X} d ex k R=>?_) (λ{S ex} b k a=>?_) (λS ex k=>by exact k) (λ_ _=>rfl)
 .obtain⟨c,q,p,rfl,k⟩:=fH k;cases Ap k;rw[cM rfl];exact yZ Om λ_ _=>qg _
 .obtain⟨c,q,p,rfl,k⟩:=fH k;rfl
theorem LP(i:Str):bT Φ Ψ G (.str i):=by
 refine .mk1 (λ{S X} d ex k R=>?_) (λ{S ex} b k a=>?_) (λS ex k=>by exact k) (λ_ _=>rfl)
 .obtain⟨c,q,p,rfl,k⟩:=fH k;cases Ap k;rw[cM rfl];exact yZ Ar λ_ _=>kj _
 .obtain⟨c,q,p,rfl,k⟩:=fH k;rfl
theorem LQ:bT Φ Ψ G .aI:=by
 refine .mk1 (λ{S X} d ex k R=>?_) (λ{S ex} b k a=>?_) (λS ex k=>by exact k) (λ_ _=>rfl)
 .obtain⟨c,q,p,rfl,k⟩:=fH k;cases Ap k;rw[cM rfl];exact yZ Js λ_ _=>Py
 .obtain⟨c,q,p,rfl,k⟩:=fH k;rfl
theorem FA{n:String}(h:tys.contains n=true):bootBuiltins (Str.ofString n)=some (.type n):=by
 have:n∈tys:=by simpa using h
 unfold tys at this;simp only[Ee,PH,W1]at this;rcases this with rfl|rfl|rfl|rfl|rfl|rfl<;>rfl
theorem LR(n:String):bT Φ Ψ G (.Dr n):=by
 refine .mk1 (λ{S X} d ex k R=>?_) (λ{S ex} l k a=>?_) (λS ex k=>by exact k) (λ_ _=>rfl)
 .obtain⟨x,q,rfl,b⟩:=b5 k
  replace k:=b
  simp only[AC]at k;obtain⟨⟨⟨c,g⟩,f⟩,e⟩:=k;obtain⟨j,i,h⟩:=cL d g;have c:=Ap c;subst c;rw[cM rfl];exact yZ (v:=.ty n) (DI j (d.B5 _ (by simpa using f)) (FA e) rfl h i) λ_ _=>Wx _
 .obtain⟨x,q,rfl,b⟩:=b5 k
  replace k:=b
  rfl
theorem FD(g:Nat):bT Φ Ψ G (.glob g):=by
 refine .mk1 (λ{S X} c ex k R=>?_) (λ{S ex} m k a=>?_) (λS ex k=>by exact k) (λ_ _=>rfl)
 .obtain⟨x,q,rfl,b⟩:=b5 k
  replace k:=b
  simp only[AC]at k;obtain⟨e,d⟩:=k;obtain⟨l,j,n⟩:=cL c d;obtain⟨u,v,i,h,f⟩:=c.Iv g _ (Iy.mp e);rw[cM rfl];exact yZ (DH l i h j) f
 .obtain⟨x,q,rfl,b⟩:=b5 k
  replace k:=b
  rfl
theorem vH{K:Frag}{B:Addr->Prop}{H H':Hp}{w:W}{v:V}(h:cI K B H H' .f w v):Kz w=true:=by obtain⟨a,p,b,rfl,_⟩:=h.HZ;rfl
theorem B6{S:SE}{a:CE}{l:Expr}(k:fJ S a l=true)(z:gk Ψ a=true):False:=by cases a<;>first|exact ff k|exact ff z
theorem LS(op:Operator){a b:CE}(J:bT Φ Ψ G a)(I:bT Φ Ψ G b):bT Φ Ψ G (.bin op a b):=by
 refine .mk1 (λ{S X} n ex k R=>?_) (λ{S ex} P k s=>?_) (λS ex k=>by exact k) (λ_ _=>rfl)
 .obtain⟨l,o,r,t,rfl,u⟩:=ku k
  replace k:=u
  simp only[AC]at k;obtain⟨⟨A,i⟩,g⟩:=k;have A:=Ap A;subst A;show VE X S.M R _ _ λF Q=>wE Φ G R a F λx=>wE Φ G R b F λy=>eV op x y Q;have E:∀B H m w v,Dom B H->UT X.K B H m w v->aT X.K B m w v:=λ_ _ _ _ _ _ h=>h;have D:∀B H m w v,Dom B H->Ku X.K .f B H m w v->aT X.K B m w v:=λ_ _ _ _ _ d h=>(cI.rep d h).b;have p:=J.b n i R;have j:=I.b n g R;have L:gk Ψ a=true->VE X S.M R .f l (wE Φ G R a):=λz=>by
   rcases e9 i with i|i
   .have:=J.e n l i R;rw[gD z]at this;exact this
   .exact(B6 i z).elim
  have O:gk Ψ b=true->VE X S.M R .f r (wE Φ G R b):=λz=>by
   rcases e9 g with g|g
   .have:=I.e n r g R;rw[gD z]at this;exact this
   .exact(B6 g z).elim
  cases op with
  |Add=>
   by_cases c:gk Ψ a=true
   .rw[gD (show gk Ψ (.bin .Add a b)=true by show(gk Ψ a||gk Ψ b)=true;rw[c];rfl)];exact vv (L c) j D E λ_ _ _ _ _ _ _ _ _ _ C _=>.inl ⟨rfl,.inl (vH C)⟩
   .by_cases q:gk Ψ b=true
    .rw[gD (show gk Ψ (.bin .Add a b)=true by show(gk Ψ a||gk Ψ b)=true;rw[q,Bool.or_true])];exact vv p (O q) E D λ_ _ _ _ _ _ _ _ _ _ _ N=>.inl ⟨rfl,.inr (vH N)⟩
    .rw[cM (show gk Ψ (.bin .Add a b)=false by show(gk Ψ a||gk Ψ b)=false;rw[RF _|>.mp c,RF _|>.mp q];rfl)];exact BA p j λ_ _=>.inr rfl
  |Mult=>
   by_cases c:gk Ψ a=true
   .rw[gD (show gk Ψ (.bin .Mult a b)=true from c)];exact vv (L c) j D E λ_ _ _ _ _ _ _ _ _ _ C _=>.inr ⟨rfl,vH C⟩
   .rw[cM (show gk Ψ (.bin .Mult a b)=false from RF _|>.mp c)];exact BA p j λ_ _=>.inr rfl
  |_=>rw[cM rfl];exact BA p j λ_ _=>.inr rfl
 .obtain⟨l,o,r,t,rfl,u⟩:=ku k
  replace k:=u
  rfl
theorem LU{a:CE}(e:bT Φ Ψ G a):bT Φ Ψ G (.neg a):=by
 refine .mk1 (λ{S X} f ex k R=>?_) (λ{S ex} g k b=>?_) (λS ex k=>by exact k) (λ_ _=>rfl)
 .obtain⟨o,x,c,rfl,d⟩:=jF k
  replace k:=d
  rw[AC]at k;cases Ap k.1;rw[cM rfl];exact KC (e.s f k.2 R)
 .obtain⟨o,x,c,rfl,d⟩:=jF k
  replace k:=d
  rw[AC]at k;cases Ap k.1;rfl
theorem LV{a:CE}(h:bT Φ Ψ G a):bT Φ Ψ G (.not a):=by
 have e:∀R,wE Φ G R (.not a)=λi Q=>wE Φ G R a i λx=>truth x λb=>Q (.bl (!b)):=λR=>rfl;have g:∀{S:SE}{X:Cx},XOk S Φ Ψ G X->∀ex,aF S false (.not a) ex=true->∀R,VE X S.M R (mo Ψ (.not a)) ex (wE Φ G R (.not a)):=λ{S X} c ex k R=>by
  obtain⟨o,x,d,rfl,f⟩:=jF k
  replace k:=f
  rw[AC]at k;cases Ap k.1;rw[cM rfl,e];exact KD (h.s c k.2 R)
 refine⟨g,λ{S X} c ex k j R=>?_,λ{S X} c m br ex k _ R=>?_⟩
 .obtain⟨o,x,d,rfl,f⟩:=jF k
  replace k:=f
  rw[AC]at k;cases Ap k.1;rw[e];exact KN (h.t c _ k.2 (by exact j) R)
 .have l:fJ S (.not a) ex=false:=rfl;rw[l,Re,Qr]at k;exact fG (kU (g c ex (by exact k) R))
theorem LW(op:CmpOp){a b:CE}(n:bT Φ Ψ G a)(m:bT Φ Ψ G b):bT Φ Ψ G (.cmp op a b):=by
 have e:∀R,wE Φ G R (.cmp op a b)=λg Q=>wE Φ G R a g λx=>wE Φ G R b g λy=>dM op x y Q:=λR=>rfl;have f:∀{S:SE}{X:Cx},XOk S Φ Ψ G X->∀ex,aF S false (.cmp op a b) ex=true->∀R,VE X S.M R .s ex (wE Φ G R (.cmp op a b))/\VT X S.M R ex (wE Φ G R (.cmp op a b)):=λ{S X} c ex k R=>by
  obtain⟨l,o,r,p,rfl,q⟩:=kC k
  replace k:=q
  simp only[AC,Y5]at k;obtain⟨⟨⟨d,t⟩,i⟩,h⟩:=k;have d:=Ap d;subst d;have j:behindInMarks op r=false:=by cases r<;>first|rfl|exact ff t
  rw[e];exact⟨KG c.un j (n.b c i R) (m.b c h R),KH c.un j (n.b c i R) (m.b c h R)⟩
 refine⟨λc ex k R=>by rw[cM rfl];exact(f c ex k R).1,λc ex k _ R=>(f c ex k R).2,λ{S X} c v br ex k _ R=>?_⟩;have u:fJ S (.cmp op a b) ex=false:=rfl;rw[u,Re,Qr]at k;exact fG (kU (f c ex (by exact k) R).1)
theorem iA{es:List Expr}(h:(!es.isEmpty)=true):es≠[]:=by rintro rfl;cases h
theorem LX{b:List CE}(g:pD Φ Ψ G b):bT Φ Ψ G (.and b):=by
 have e:∀R,wE Φ G R (.and b)=yf Φ G R b:=λR=>rfl;have f:∀{S:SE}{X:Cx},XOk S Φ Ψ G X->∀ex,aF S false (.and b) ex=true->∀R,VE X S.M R .s ex (wE Φ G R (.and b)):=λ{S X} a ex k R=>by
  obtain⟨o,j,c,rfl,d⟩:=iz k
  replace k:=d
  rw[AC,AC]at k;cases Ap k.1.1;rw[e];exact g.av a _ _ (iA k.1.2) k.2 R
 refine⟨λa ex k R=>by rw[cM rfl];exact f a ex k R,λ{S X} a ex k h R=>?_,λ{S X} a l br ex k _ R=>?_⟩
 .obtain⟨o,j,c,rfl,d⟩:=iz k
  replace k:=d
  rw[AC,AC]at k;cases Ap k.1.1;rw[e];exact(g.at a _ _ (iA k.1.2) k.2 (by exact h) R).pt
 .have i:fJ S (.and b) ex=false:=rfl;rw[i,Re,Qr]at k;exact fG (kU (f a ex (by exact k) R))
theorem Qp{b:List CE}(g:pD Φ Ψ G b):bT Φ Ψ G (.or b):=by
 have e:∀R,wE Φ G R (.or b)=Ny Φ G R b:=λR=>rfl;have f:∀{S:SE}{X:Cx},XOk S Φ Ψ G X->∀ex,aF S false (.or b) ex=true->∀R,VE X S.M R .s ex (wE Φ G R (.or b)):=λ{S X} a ex k R=>by
  obtain⟨o,j,c,rfl,d⟩:=iz k
  replace k:=d
  rw[AC,AC]at k;cases Ap k.1.1;rw[e];exact g.ov a _ _ (iA k.1.2) k.2 R
 refine⟨λa ex k R=>by rw[cM rfl];exact f a ex k R,λ{S X} a ex k h R=>?_,λ{S X} a l br ex k _ R=>?_⟩
 .obtain⟨o,j,c,rfl,d⟩:=iz k
  replace k:=d
  rw[AC,AC]at k;cases Ap k.1.1;rw[e];exact(g.ot a _ _ (iA k.1.2) k.2 (by exact h) R).pt
 .have i:fJ S (.or b) ex=false:=rfl;rw[i,Re,Qr]at k;exact fG (kU (f a ex (by exact k) R))
theorem Iz{X:Cx}{M:Ms}{R:Addr->Prop}{m:Md}{e:Expr}{t:WT}{c:CE}(h:VE X M R m e t)(a:mo Ψ c=m\/mo Ψ c=.s):VE X M R (mo Ψ c) e t:=by
 rcases a with z|z
 .rw[z];exact h
 .rw[z];exact Bw h
theorem LY{c a b:CE}(q:bT Φ Ψ G c)(u:bT Φ Ψ G a)(r:bT Φ Ψ G b):bT Φ Ψ G (.ite c a b):=by
 have e:∀R,wE Φ G R (.ite c a b)=λh Q=>wE Φ G R c h λx=>truth x λk=>if k=true then wE Φ G R a h Q else wE Φ G R b h Q:=λR=>rfl
 have o:∀{S:SE}{X:Cx},XOk S Φ Ψ G X->∀ex,aF S false (.ite c a b) ex=true->∀R,VE X S.M R (mo Ψ (.ite c a b)) ex (wE Φ G R (.ite c a b)):=λ{S X} d ex k R=>by
  obtain⟨t,x,y,p,rfl,i⟩:=Fy k;simp only[AC]at i;obtain⟨⟨⟨n,m⟩,l⟩,j⟩:=i;rw[e];by_cases z:gk Ψ a=true/\gk Ψ b=true
  .rw[gD (show gk Ψ (.ite c a b)=true by show(gk Ψ a&&gk Ψ b)=true;rw[z.1,z.2];rfl)];have g:=u.e d x l R;have f:=r.e d y j R;rw[gD z.1]at g;rw[gD z.2]at f;exact BB (q.t d t n m R) g f
  .rw[cM (show gk Ψ (.ite c a b)=false by
    show(gk Ψ a&&gk Ψ b)=false;cases g:gk Ψ a
    .rfl
    .cases f:gk Ψ b
     .rfl
     .exact absurd ⟨g,f⟩ z)]
   exact BB (q.t d t n m R) (u.s d l R) (r.s d j R)
 refine⟨o,(λd ex k v R=>by exact ff v),λ{S X} d A br ex k _ R=>?_⟩;have w:fJ S (.ite c a b) ex=false:=rfl;rw[w,Re,Qr]at k;exact fG (kU (o d ex (by exact k) R))
theorem LZ{e:List CE}(f:pD Φ Ψ G e):bT Φ Ψ G (.tup e):=by
 refine .mk1 (λ{S X} g ex k R=>?_) (λ{S ex} h k b=>?_) (λS ex k=>by exact k) (λ_ _=>rfl)
 .obtain⟨d,q,p,rfl,c⟩:=dB k;rw[cM rfl];exact KR (f.a g d c R)
 .obtain⟨d,q,p,rfl,c⟩:=dB k;rfl
theorem L3{e:List CE}(f:pD Φ Ψ G e):bT Φ Ψ G (.lst e):=by
 refine .mk1 (λ{S X} g ex k R=>?_) (λ{S ex} h k b=>?_) (λS ex k=>by exact k) (λ_ _=>rfl)
 .obtain⟨d,p,rfl,c⟩:=nt k;rw[gD rfl];exact KQ (f.a g d c R)
 .obtain⟨d,p,rfl,c⟩:=nt k;rfl
theorem Qq{a i:CE}(g:bT Φ Ψ G a)(f:bT Φ Ψ G i):bT Φ Ψ G (.ix a i):=by
 refine .mk1 (λ{S X} e ex k R=>?_) (λ{S ex} h k d=>?_) (λS ex k=>by exact k) (λ_ _=>rfl)
 .obtain⟨v,s,p,rfl,c⟩:=cK k;simp only[AC]at c;rw[cM rfl];exact PM (rE c.1.1) (g.b e c.1.2 R) (f.s e c.2 R)
 .obtain⟨v,s,p,rfl,c⟩:=cK k;rfl
theorem xu{a:CE}(d:bT Φ Ψ G a){S:SE}{X:Cx}(f:XOk S Φ Ψ G X){l:Option Expr}(k:B4 (gx a) (λx=>aF S false a x) l=true)(R:Addr->Prop):PO X l (KU X S.M R λb Q=>wE Φ G R a b λy=>z3 a y Q):=by
 cases l with
 |none=>
  have z:gx a=true:=k;cases a with
  |aI=>exact EL
  |_=>exact ff z
 |some x=>
  have k:(!gx a&&aF S false a x)=true:=k;rw[AC]at k;have e:(λ(b:Ev)(Q:Option Int->Prop)=>wE Φ G R a b λy=>z3 a y Q)=λb Q=>wE Φ G R a b λy=>match y with|.int i=>Q (some i)|_=>False:=by
   have c:gx a=false:=by simpa using k.1
   unfold z3;rw[c];funext b Q;congr 1;funext y;cases y<;>rfl
  rw[e];exact EM (d.s f k.2 R)
theorem Qs{a f g:CE}(j:bT Φ Ψ G a)(h:bT Φ Ψ G f)(i:bT Φ Ψ G g):bT Φ Ψ G (.sl a f g):=by
 refine .mk1 (λ{S X} e ex k R=>?_) (λ{S ex} m k d=>?_) (λS ex k=>by exact k) (λ_ _=>rfl)
 .obtain⟨v,l,r,q,p,rfl,c⟩:=l5 k;simp only[AC]at c;rw[gD rfl];exact PN (j.b e c.1.1 R) (xu h e c.1.2 R) (xu i e c.2 R)
 .obtain⟨v,l,r,q,p,rfl,c⟩:=l5 k;rfl
theorem FF(f:Nat){m:List CE}(C:pD Φ Ψ G m):bT Φ Ψ G (.call f m):=by
 refine .mk1 (λ{S X} b ex k R=>?_) (λ{S ex} I k c=>?_) (λS ex k=>by exact k) (λ_ _=>rfl)
 .obtain⟨x,q,l,p,rfl,g⟩:=aX k;simp only[AC]at g;obtain⟨⟨⟨⟨⟨v,u⟩,t⟩,i⟩,s⟩,o⟩:=g;obtain⟨E,D,J⟩:=cL b u;obtain⟨H,n,r,B,F,y,A⟩:=b.fns f x (Iy.mp v) (by simpa using s);have F:bW X.prog X.w X.K X.mg X.base r H n (z5 X.K n (Ψ f) (Φ f)):=by rw[<-b.Dw]at i;cases j:Ψ f<;>rw[j]at i F<;>first|exact F|exact ff i
  have d:=kD o;cases l with
  |nil=>exact ff t
  |cons e l=>
   rw[AU,AC]at d;have h:=wW (M:=S.M) (R:=R) (p:=q) (pos:=p) F y E B A (C.a b _ o R) D (aD d.1 _ _) (bH d.2 _ _);refine Iz h ?_;by_cases z:gk Ψ (.call f m)=true
   .rw[gD z];left;have z:(match Ψ f with|.f=>true|_=>false)=true:=z;cases j:Ψ f<;>rw[j]at z<;>first|rfl|exact ff z
   .exact .inr (cM (by simpa using z))
 .obtain⟨x,q,l,p,rfl,g⟩:=aX k;rfl
theorem t8{X:Cx}(c:X.calm=true):∀b:BI,b≠.Bq->(∃a,bootBuiltins (Rr b)=some (.builtin a)/\bE X (.builtin a) (KW X.K b))\/(∃a,bootBuiltins (Rr b)=some (.type a)/\bE X (.type a) (KW X.K b))
 |.len,_=>.inl ⟨"len",rfl,cw_len.r⟩
 |.abs,_=>.inl ⟨"abs",rfl,cw_abs.r⟩
 |.max2,_=>.inl ⟨"max",rfl,(cw_max c).r⟩
 |.min2,_=>.inl ⟨"min",rfl,(cw_min c).r⟩
 |.sum,_=>.inl ⟨"sum",rfl,(cw_sum c).r⟩
 |.all,_=>.inl ⟨"all",rfl,(cw_all c).r⟩
 |.list,_=>.inr ⟨"list",rfl,cw_list.r⟩
 |.tuple,_=>.inr ⟨"tuple",rfl,cw_tuple.r⟩
 |.int,_=>.inr ⟨"int",rfl,cw_int.r⟩
 |.Ri,_=>.inl ⟨"divmod",rfl,cw_dvm.r⟩
 |.str,_=>.inr ⟨"str",rfl,cw_str.r⟩
 |.any,_=>.inl ⟨"any",rfl,(cw_any c).r⟩
 |.Bq,h=>absurd rfl h
theorem dQ{S:SE}{a:CE}{b:List CE}{es:List Expr}(k:dX S (a::b) es=true):∃e r,es=e::r/\aF S false a e=true/\dX S b r=true:=by
 cases es with
 |nil=>exact ff k
 |cons e r=>exact⟨e,r,rfl,a2 k⟩
theorem nE{S:SE}{es:List Expr}(k:dX S [] es=true):es=[]:=Fu.mp k
theorem vI{S:SE}{a:CE}{b:List CE}{es:List Expr}(k:kX S (a::b) es=true):∃e r,es=e::r/\(aF S false a e||fJ S a e)=true/\kX S b r=true:=by
 cases es with
 |nil=>exact ff k
 |cons e r=>exact⟨e,r,rfl,a2 k⟩
theorem zg{S:SE}{es:List Expr}(k:kX S [] es=true):es=[]:=Fu.mp k
theorem L4(b:BI){i:List CE}(H:pD Φ Ψ G i)(g:∀c∈i,bT Φ Ψ G c):bT Φ Ψ G (.blt b i):=by
 refine .mk1 (λ{S X} h ex k R=>?_) (λ{S ex} Y k s=>?_) (λS ex k=>by exact k) (λ_ _=>rfl)
 .obtain⟨x,q,B,p,rfl,j⟩:=aX k;simp only[AC]at j;obtain⟨⟨⟨⟨⟨l,O⟩,N⟩,L⟩,D⟩,o⟩:=j;have l:=Ap l;obtain⟨A,w,v⟩:=cL h O;have hz:=h.B5 x (by simpa using N);have f:=nB o;cases B with
  |nil=>cases b<;>exact ff L
  |cons e B=>
   rw[AU,AC]at f;by_cases F:b=.Bq
   .subst F;rw[cM rfl];rcases i with _|⟨a,_|⟨c,_|⟨d,i⟩⟩⟩<;>try exact ff D
    obtain⟨n,E⟩:=Pl.mp D;have Z:c=.Dr n:=by cases c<;>first|(cases E;rfl)|exact nn E
    subst Z;obtain⟨K,J⟩:=a2 o;obtain⟨e2,r,rfl,C,FG⟩:=vI J;cases zg FG;have st2:=f.2;rw[AU,AC]at st2;have I:aF S false (.Dr n) e2=true:=by
     rcases e9 C with z|z
     .exact z
     .exact ff z
    have t:n∈["int","bool","tuple","list","str","dict"]:=by obtain⟨y,q2,rfl,j⟩:=b5 I;have:=(a2 j).2;unfold tys at this;exact Rv.mp this
    have U:=(g a Bi).b h K R;have T:=(g (.Dr n) (BM _ Bi)).b h C R;have m:bootBuiltins x=some (.builtin "isinstance"):=by rw[l];rfl
    exact K0 (M:=S.M) (R:=R) (p:=q) (pos:=p) h.kit t A hz m U T v w (aD f.1 _ _) (aD st2.1 _ _) (bH f.2 _ _)
   .have Q:mo Ψ (.blt b i)=PR b:=by
     cases b<;>first|rfl|exact cM rfl|exact gD rfl
    rw[Q];rcases t8 h.calm b F with⟨P,m,u⟩|⟨P,m,u⟩
    .exact KY u A hz (by rw[l];exact m) (H.b h _ o R) v w (aD f.1 _ _) (bH f.2 _ _)
    .exact KZ u A hz (by rw[l];exact m) (H.b h _ o R) v w (aD f.1 _ _) (bH f.2 _ _)
 .obtain⟨x,q,B,p,rfl,j⟩:=aX k;rfl
theorem nF{S:SE}{a:List Nat}:∀x∈(S.lend a).M,x∈S.M:=λx b=>(QR.mp b).1
theorem L5(i g f:Nat)(c:List CE):bT Φ Ψ G (.jm i g f c):=.mk1 (λd ex k R=>by cases k) (λb k a=>by cases k) (λS ex k=>by cases k) (λ_ _=>rfl)
theorem L6(i:Nat):bT Φ Ψ G (.pop i):=.mk1 (λc ex k R=>by cases k) (λb k a=>by cases k) (λS ex k=>by cases k) (λ_ _=>rfl)
theorem L7{o:List CE}(h:∀c∈o,bT Φ Ψ G c):bT Φ Ψ G (.pS o):=by
 refine⟨λ{S X} i ex k R=>?_,λ{S X} i ex k _ R=>?_,λ{S X} i tg br ex k _ R=>?_⟩
 .obtain⟨x,q,z,p,rfl,l⟩:=aX k;simp at l
 .obtain⟨x,q,z,p,rfl,l⟩:=aX k;simp at l
 .have D:fJ S (.pS o) ex=false:=rfl;rw[D,Re,Qr]at k;obtain⟨x,q,z,p,rfl,l⟩:=aX k;simp only[AC]at l;obtain⟨⟨⟨⟨⟨_,v⟩,C⟩,B⟩,y⟩,u⟩:=l;have v:=Ap v;subst v;obtain⟨w,H,F⟩:=cL i C;have hz:=i.B5 _ (by simpa using B);rcases o with _|⟨a,_|⟨b,_|⟨c,_|⟨d,o⟩⟩⟩⟩
  .simp at y
  .obtain⟨e,r,rfl,j,n⟩:=dQ u;cases nE n;exact ES (M:=S.M) (R:=R) (br:=br) (tg:=tg) (p:=q) (pos:=p) w hz ((h a Bi).s i j R) (aD (aW (.inl j)) _ _)
  .obtain⟨e,r,rfl,j,n⟩:=dQ u;obtain⟨f,r,rfl,m,t⟩:=dQ n;cases nE t;exact ET (M:=S.M) (R:=R) (br:=br) (tg:=tg) (p:=q) (pos:=p) w hz ((h a (by simp)).s i j R) ((h b (by simp)).s i m R) (aD (aW (.inl j)) _ _) (aD (aW (.inl m)) _ _)
  .obtain⟨e,r,rfl,j,n⟩:=dQ u;obtain⟨f,r,rfl,m,t⟩:=dQ n;obtain⟨g,r,rfl,A,E⟩:=dQ t;cases nE E;exact EU (M:=S.M) (R:=R) (br:=br) (tg:=tg) (p:=q) (pos:=p) w hz ((h a (by simp)).s i j R) ((h b (by simp)).s i m R) ((h c (by simp)).s i A R) (aD (aW (.inl j)) _ _) (aD (aW (.inl m)) _ _) (aD (aW (.inl A)) _ _)
  .simp at y
theorem hu1{X:Cx}(h:X.A.units+64<cLine):X.A.units+1<cLine:=by omega
theorem L8{a f g:CE}(j:bT Φ Ψ G a)(h:bT Φ Ψ G f)(i:bT Φ Ψ G g):bT Φ Ψ G (.slt a f g):=by
 refine .mk1 (λ{S X} e ex k R=>?_) (λ{S ex} m k d=>?_) (λS ex k=>by exact k) (λ_ _=>rfl)
 .obtain⟨v,l,r,q,p,rfl,c⟩:=l5 k;simp only[AC]at c;rw[cM rfl];exact Ls (j.b e c.1.1 R) (xu h e c.1.2 R) (xu i e c.2 R)
 .obtain⟨v,l,r,q,p,rfl,c⟩:=l5 k;rfl
theorem Ma{a b c:CE}(r:bT Φ Ψ G a)(q:bT Φ Ψ G b)(p:bT Φ Ψ G c):bT Φ Ψ G (.NJ a b c):=by
 refine .mk1 (λ{S X} g ex k R=>?_) (λ{S ex} t k d=>?_) (λS ex k=>by exact k) (λ_ _=>rfl)
 .obtain⟨o,m,v,u,x,y,rfl,e⟩:=nv k;simp only[AC]at e;obtain⟨⟨⟨⟨⟨f,n⟩,l⟩,j⟩,i⟩,h⟩:=e;have f:=Ap f;subst f;rw[cM rfl];exact Lu (r.s g j R) (q.s g i R) (p.s g h R) (kF l _ _ _) n (aD (aW (.inl i)) _ _) (aD (aW (.inl h)) _ _)
 .obtain⟨o,m,v,u,x,y,rfl,e⟩:=nv k;rfl
theorem Mb(n:Nat)(x:Str){a:CE}(h:bT Φ Ψ G a):bT Φ Ψ G (.Kg a n x):=by
 refine .mk1 (λ{S X} i ex k R=>?_) (λ{S ex} j k b=>?_) (λS ex k=>by exact k) (λ_ _=>rfl)
 .obtain⟨o,f,p,rfl,d⟩:=b9 k;obtain⟨⟨c,g⟩,e⟩:=a3 d;have c:=Ap c;subst c;rw[cM rfl];exact Lw (h.s i e R) (kF g _ _ _)
 .obtain⟨o,f,p,rfl,d⟩:=b9 k;rfl
theorem kG{o:Expr}{x:Str}{apos pos:Pos}{es:List Expr}{env:Env}(e:attributeBase o x env (eval o env)=eval o env)(b:(backTo pos (starEach es env)).any (·.1)=false)(d:es.length<30)(a:(apos.endLine==pos.line)=true):
 eval (.Call (.Attribute o x apos) es [] pos) env=(do
  let ov<-eval o env
  standAt apos.atName
  let(f,first)<-holding [ov] (getMethod ov x (do return (<-importBound o env).getD true))
  callWith pos f first (backTo pos (starEach es env)) (backToKw pos (keywordEach [] env))):=by
 have h:methodCallForm (es.length+([]:List Keyword).length) (backTo pos (starEach es env)) (backToKw pos (keywordEach [] env))=true:=by
  unfold methodCallForm;have g:(backTo pos (starEach es env)).all (λx=>!x.1)=true:=by rw[HI];intro z hz;rw[TN]at b;simpa using b z hz
  rw[g];show(true&&true&&decide (es.length+0+0<30))=true;simpa using d
 have c:methodCallPos true o env apos pos=pure pos:=by unfold methodCallPos;simp[a]
 rw[arm_eval_Call,e];unfold methodCall;rw[h,c];rfl
theorem B7{c:List (Nat×Nat)}{f g:Nat}(h:c.any (λy=>y.1==f&&y.2==g)=true):(f,g)∈c:=by obtain⟨⟨a,b⟩,d,e⟩:=YD.mp h;rw[AC]at e;cases Iy.mp e.1;cases Iy.mp e.2;exact d
theorem Mc(g f:Nat){a:CE}(H:bT Φ Ψ G a):bT Φ Ψ G (.qT g f a):=by
 refine .mk1 (λ{S X} j ex k R=>?_) (λ{S ex} env k b=>?_) (λS ex k=>by exact k) (λ_ _=>rfl)
 .obtain⟨o,x,q,m,rfl,d⟩:=iV k;simp only[AC]at d;obtain⟨⟨⟨⟨⟨B,l⟩,A⟩,v⟩,e⟩,u⟩:=d;obtain⟨L,J,r,n,t,I,E,F,C,D⟩:=j.qT f g x (Iy.mp A) (B7 v);have F:bL X.prog X.w X.K X.mg X.base (iL X.prog X.w) t L J r (z5 X.K n (Ψ f) (Φ f)):=by rw[<-j.Dw]at e;cases i:Ψ f<;>rw[i]at e F<;>first|exact F|exact ff e
  have N:attributeBase o x X.env (eval o X.env)=eval o X.env:=by
   cases o with
   |Name y O=>rfl
   |Call c es P p=>
    cases es with
    |nil=>exact ff l
    |cons _ _=>cases c<;>rfl
   |_=>exact ff l
  have h:=Lx (G:=G g) (M:=S.M) (R:=R) (pos:=m) (apos:=q) I F C E D (H.s j u R) (kG (es:=[]) N rfl (by show 0<30;decide) B);refine Iz h ?_;by_cases z:gk Ψ (.qT g f a)=true
  .rw[gD z];left;have z:(match Ψ f with|.f=>true|_=>false)=true:=z;cases i:Ψ f<;>rw[i]at z<;>first|rfl|exact ff z
  .exact .inr (cM (by simpa using z))
 .obtain⟨o,x,q,m,rfl,d⟩:=iV k;rfl
theorem Me(i:Nat):bT Φ Ψ G (.NK i):=by
 refine .mk1 (λ{S X} b ex k R=>?_) (λ{S ex} l k c=>?_) (λS ex k=>by exact k) (λ_ _=>rfl)
 .obtain⟨x,q,j,p,rfl,d⟩:=aX k;simp only[AC]at d;obtain⟨⟨⟨e,g⟩,f⟩,a⟩:=d;have e:=Ap e;subst e;obtain⟨v,rfl,a⟩:=c7 a;have a:(ze S.M i&&gP S i v)=true:=a;rw[AC]at a;rw[gD rfl];obtain⟨h,_,_⟩:=cL b g;exact Lz b.calm (rB a.1) (cy b a.2) h (b.B5 _ (by simpa using f)) (by obtain⟨y,z,rfl,_⟩:=b5 a.2;rfl)
 .obtain⟨x,q,j,p,rfl,d⟩:=aX k;rfl
theorem Mf(i g f:Nat)(c:List CE):bT Φ Ψ G (.Br i g f c):=.mk1 (λd ex k R=>by cases k) (λb k a=>by cases k) (λS ex k=>by cases k) (λ_ _=>rfl)
theorem xw{f:Expr->Bool}{e:Expr}(h:Vd f e=true):∃v p,e=.FormattedValue v (-1) none p/\f v=true:=by
 cases e with
 |FormattedValue v c a p=>
  cases a with
  |none=>obtain⟨d,b⟩:=a2 h;rw[Ap d];exact⟨v,p,rfl,b⟩
  |some _=>exact ff h
 |_=>exact ff h
theorem xx{f:List Expr->Bool}{e:Expr}(h:Vb f e=true):∃vs p,e=.JoinedStr vs p/\f vs=true:=by
 cases e with
 |JoinedStr vs p=>exact⟨vs,p,rfl,h⟩
 |_=>exact ff h
theorem Mg{a:CE}(d:bT Φ Ψ G a):bT Φ Ψ G (.fmt a):=by
 refine .mk1 (λ{S X} e ex k R=>?_) (λ{S ex} f k b=>?_) (λS ex k=>by exact k) (λ_ _=>rfl)
 .obtain⟨v,p,rfl,c⟩:=xw k;rw[cM rfl];exact LA (d.s e c R)
 .obtain⟨v,p,rfl,c⟩:=xw k;rfl
theorem B8{S:SE}{X:Cx}(D:XOk S Φ Ψ G X)(R:Addr->Prop):∀(g:List CE)(es:List Expr),(∀c∈g,bT Φ Ψ G c)->dX S g es=true->∀(b:List Nat){d:List (Addr×Obj)}{s:Shared}{f:St}{H:Hp}{Q:VK}{A:Fz}{l:Hp}{i:Ev}{P:W->Prop},Inv X d f H s->SR X.K S.M A l f H i->ER X l R->b.length<=2000->NY Φ G R g b i P->(∀w v H',P w->ao H H'->Rep X.K (FB A S.M f) H' w v->Q v H')->wpAny (model X.prog X.w) X.A (joinParts (tx b) (evalEach es X.env)) (EP X d f Q) X.xe s
 |[],es,_,k,b,d,s,f,H,Q,A,l,i,P,I,SS,o,B,h,c=>by rw[Fu.mp k];exact joinParts_nil ⟨.str (tx b),H,I.tok _,⟨_,rfl⟩,c _ _ H h (ao.refl H) (kj _)⟩ (GE B (by decide))
 |a::g,[],_,k,_,_,_,_,_,_,_,_,_,_,_,_,_,_,_,_=>ff k
 |a::g,e::es,C,k,b,d,s,f,H,Q,A,l,i,P,I,SS,o,B,h,c=>by
  obtain⟨N,k2⟩:=a2 k;refine joinParts_cons (bq ((C a Bi).s D N R d s f H (λv m=>∃w,(match w with|.str y=>b.length+y.length<=2000/\NY Φ G R g (b++y.cps.toList) i P|_=>False)/\ao H m/\Rep X.K (FB A S.M f) m w v) I ⟨A,l,i,_,SS,o,h,λw v m j q n=>⟨w,j,q,n.aO⟩⟩) λu q ⟨F,m,T,L,w,j,sm,n⟩=>?_);cases w with
  |str y=>
   have O:F=.str y:=n;subst O;obtain⟨t,rfl⟩:=L;have E:tx b++y=tx (b++y.cps.toList):=by rw[<-aY,j4]
   have x:(b++y.cps.toList).length<=2000:=by rw[B1,<-j5];exact j.1
   refine⟨by rw[E];exact GE x (by decide),?_⟩;rw[E];exact B8 D R g es (λz hz=>C z (BM _ hz)) k2 _ T (SS.same sm) o x j.2 λw v H' p J r=>c w v H' p (sm.trans J) r
  |_=>exact j.elim
theorem Mh{g:List CE}(i:∀c∈g,bT Φ Ψ G c):bT Φ Ψ G (.fst g):=by
 refine .mk1 (λ{S X} o ex k R=>?_) (λ{S ex} E k l=>?_) (λS ex k=>by exact k) (λ_ _=>rfl)
 .obtain⟨m,p,rfl,f⟩:=xx k;rw[cM rfl];rintro j s u H Q I ⟨A,J,x,P,SS,t,h,c⟩;have d:=B8 o R g m i f [] I SS t (Mo _) h λw v K p B r=>c w v K p B (.of r)
  match m,g,f,i,h,d with
  |[],g,f,i,h,d=>exact d
  |e1::L::rest,g,f,i,h,d=>exact JoinedStr_many d
  |[e],[],f,_,_,_=>exact ff f
  |[e],[a],f,i,h,d=>
   obtain⟨D,_⟩:=a2 f;refine JoinedStr_one ((i a Bi).s o D R j s u H Q I ⟨A,J,x,_,SS,t,h,λw v F n z C=>?_⟩);cases w with
   |str y=>have q:P (.str (tx ([]++y.cps.toList))):=n.2;rw[Jd,j4]at q;exact c _ v F q z C
   |_=>exact n.elim
  |[e],a::b::g,f,_,_,_=>exact ff (a2 f).2
 .obtain⟨m,p,rfl,f⟩:=xx k;rfl
theorem Mi(f:List Str)(vs:List Int){a:CE}(m:bT Φ Ψ G a):bT Φ Ψ G (.NL f vs a):=by
 refine .mk1 (λ{S X} e ex k R=>?_) (λ{S ex} n k b=>?_) (λS ex k=>by exact k) (λ_ _=>rfl)
 .obtain⟨v,s,p,rfl,c⟩:=cK k;simp only[AC]at c;obtain⟨⟨⟨⟨⟨l,d⟩,j⟩,i⟩,h⟩,g⟩:=c;cases v with
  |Dict o r q=>rw[cM rfl];exact Ly (hu1 e.un) d (Ap j) (by rintro rfl;cases i) (Ap h) (m.s e g R) λ_ _=>by cases s<;>first|rfl|exact ff l
  |_=>exact ff d
 .obtain⟨v,s,p,rfl,c⟩:=cK k;rfl
theorem nG{f:NameKind->NameKind}:∀(l:List (Str×NameKind))(y:Str),(l.map λp=>(p.1,f p.2)).lookup y=(l.lookup y).map f
 |[],_=>rfl
 |(n,k)::r,y=>by
  rw[Ha,Ei,Ei];by_cases e:(y==n)=true
  .rw[e];rfl
  .rw[RF]at e;rw[e];exact nG r y
theorem rG{sc a b:Scope}{N d c:List Str}(h:∀x,a.names.lookup x=b.names.lookup x):cZ sc a N d c=cZ sc b N d c:=by unfold cZ;simp only[h]
theorem FH{S:SE}{X:Cx}(a:XOk S Φ Ψ G X){scope:Scope}{b:List Str}(g:cZ scope X.env.scope X.N (mask b S.N) b=true)(h:(b++mask b S.N).Nodup){c:List (Addr×Obj)}{d:St}{H:Hp}{s:Shared}(I:Inv X c d H s)(C:Addr)(e:Shared)(j:Hp)(i:List Addr):
 XOk (S.comp scope b) Φ Ψ G (aN X scope C b (mask b S.N) e j i):=by
 refine⟨rfl,h,a.calm,a.un,λx=>?_,a.fns,a.qT,a.Dw,a.Iv,a.B5,a.kit⟩;show(relabel scope X.env).names.lookup x=_;rw[fO I (fE.of g)];show _=(scope.names.map λp=>(p.1,if p.2=.free then NameKind.cell else p.2)).lookup x;rw[nG (f:=λk=>if k=.free then NameKind.cell else k)]
noncomputable def fK(X:Cx)(i:Nat)(x:Str):Prop:=X.N[i]?=some x/\Loc X.env.scope x/\(X.fn x=true\/X.env.scope.names.lookup x=some .local)
noncomputable def di(X:Cx):List Nat->List Str->Prop
 |[],a=>a=[]
 |i::b,a=>∃x r,a=x::r/\fK X i x/\di X b r
theorem IA{X:Cx}(a:X.N.Nodup){i:Nat}{x:Str}{p:Pos}(h:fK X i x):PG X (.Name x p) (fL i):=DK a h.1 h.2.1 h.2.2
theorem B9{X:Cx}(d:X.N.Nodup):∀(es:List Expr)(b:List Str)(a:List Nat),B0 es=some b->di X a b->Ow X es (PY a)/\(assignEach es X.env).length=a.length/\(assignEach es X.env).findIdx? (·.1)=none
 |[],b,a,h,k=>by
  cases h;cases a with
  |nil=>exact⟨DM,rfl,rfl⟩
  |cons i c=>obtain⟨x,r,e,_⟩:=k;cases e
 |e::es,b,a,h,k=>by
  cases e with
  |Name x p=>
   obtain⟨l,m,rfl⟩:=Kb.mp h;cases a with
   |nil=>cases k
   |cons i c=>obtain⟨q,r,e,o,n⟩:=k;cases e;obtain⟨j,g,f⟩:=B9 d es l c m n;have e:assignEach (.Name x p::es) X.env=(false,assign (.Name x p) X.env)::assignEach es X.env:=rfl;refine⟨AB (IA d o) j rfl,by rw[e,AE,g,AE],?_⟩;rw[e,List.findIdx?_cons,f];rfl
  |_=>exact nn h
theorem Mj{X:Cx}(s:X.calm=true)(d:X.N.Nodup){tg:Expr}{b:Bool}{c:List Str}{a:List Nat}(h:Qg tg=some (b,c))(k:di X a c):PG X tg (gT X.K b a):=by
 cases tg with
 |Name x p=>
  cases h
  match a,k with
  |[i],k=>obtain⟨j,r,e,g,f⟩:=k;cases e;exact IA d g
  |[],k=>cases k
  |_::_::_,k=>obtain⟨j,r,e,g,f⟩:=k;cases e;obtain⟨v,w,u,_⟩:=f;cases u
 |Tuple t y p=>
  dsimp only[Qg]at h;obtain⟨l,q,e⟩:=Kb.mp h;cases e;obtain⟨o,n,m⟩:=B9 d t c a q k;have:gT X.K false a=Jx X.K a.length (PY a):=by cases a<;>rfl
  rw[this];exact Jy s o n m
 |_=>exact nn h
theorem kY{X:Cx}:∀(a:List Str)(n:Nat),(∀k x,a[k]?=some x->fK X (n+k) x)->di X ((Gr a.length).map (n+·)) a
 |[],n,_=>rfl
 |x::a,n,h=>by
  rw[AE,RH,Ha];refine⟨x,a,rfl,h 0 x rfl,?_⟩;have:=kY a (n+1) λk y b=>by have:=h (k+1) y (by simpa using b);rw[show n+1+k=n+(k+1) by lia];exact this
  rw[RK];have e:(Gr a.length).map (n+1+·)=(Gr a.length).map ((n+·)∘VI):=Rx λk _=>by show n+1+k=n+(k+1);lia
  rw[<-e];exact this
theorem t9{a:Expr}(h:rD a=true)(env:Env)(x:Value):foldedSetIterable a env x=pure x:=by
 cases a<;>first|rfl|exact ff h
theorem xy{e:List Nat}{b:Bool}{n:Nat}{i c x:CE}{R:Addr->Prop}:wE Φ G R (.comp e b n i c x)=λd Q=>wE Φ G R i d λz=>items z λg=>qU (λw K=>wT b e w (A0 n none++d) λa=>wE Φ G (λ_=>False) c a λf=>truth f λk=>if k=true then wE Φ G (λ_=>False) x a λy=>K (some y)else K none) g [] λl=>Q (.lst l):=rfl
theorem zh{S:SE}{X:Cx}(A:XOk S Φ Ψ G X){q:List Nat}{e:Bool}{n:Nat}{en:Bool}{L:Expr->Bool}{M:SE->List Expr->Bool}{J:SE->Expr->Bool}{m tg c:Expr}{l:List Expr}{scope:Scope}(g:ny S q e n en L M J m tg c l scope=true):
 ∃a,n=a.length/\(∀j∈q,j<a.length)/\cZ scope X.env.scope X.N (mask a S.N) a=true/\(∀z,foldedSetIterable c X.env z=pure z)/\(en=true->∃es k p,tg=Expr.Tuple es k p)/\L c=true/\M (S.comp scope a) l=true/\J (S.comp scope a) m=true/\
  ∀d s D H,Inv X d D H s->∀C f i h,PG (aN X scope C a (mask a S.N) f i h) tg (gT X.K e q)/\XOk (S.comp scope a) Φ Ψ G (aN X scope C a (mask a S.N) f i h):=by
 unfold ny at g;split at g;rotate_left
 .cases g
 rename_i o a Ml
 simp only[AC]at g;obtain⟨⟨⟨⟨⟨⟨⟨⟨⟨u,t⟩,r⟩,U⟩,T⟩,R⟩,F⟩,Q⟩,P⟩,FG⟩:=g;have u:=Iy.mp u;have t:=Iy.mp t;have r:=Iy.mp r;subst u t r;have x:=Ap T;have w:cZ scope X.env.scope X.N (mask a S.N) a=true:=by rw[A.hN,rG (b:=S.sc) λy=>A.nk y];exact U
 have O:=fE.of w;refine⟨a,rfl,λj Z=>Tb.mp Z,w,t9 R _,λz=>?_,Q,P,FG,λd s D H I C f i h=>?_⟩
 .have:e=false:=by rw[z]at F;simpa using F
  subst this;cases tg with
  |Tuple es g p=>exact⟨_,_,_,rfl⟩
  |Name y p=>cases Ml
  |_=>exact nn Ml
 .have B:=FH A w x I C f i h;refine⟨Mj B.calm B.nd Ml ?_,B⟩;have:=kY (X:=aN X scope C a (mask a S.N) f i h) a 0 λk y v=>?_
  .simpa using this
  .have Y:y∈a:=Kx v;have E:(aN X scope C a (mask a S.N) f i h).env.scope.names.lookup y=some .local:=by show(relabel scope X.env).names.lookup y=_;rw[fO I O,(O.own y Y).1];rfl
   refine⟨?_,.inl E,.inr E⟩;show(a++mask a S.N)[0+k]?=some y;rw[UN,P3 (GT.mp v).1];exact v
theorem nH{O:List Nat}{E:Bool}{n:Nat}{i c x:CE}(hi:bT Φ Ψ G i)(hc:bT Φ Ψ G c)(hx:bT Φ Ψ G x){S:SE}{X:Cx}(hX:XOk S Φ Ψ G X){ex:Expr}(k:aF S false (.comp O E n i c x) ex=true)(R:Addr->Prop):
 ∃B tg a y scope p d,ex=.ListComp B [⟨tg,a,y,0⟩] scope p/\n=d.length/\(∀j∈O,j<d.length)/\cZ scope X.env.scope X.N (mask d S.N) d=true/\(∀z,foldedSetIterable a X.env z=pure z)/\PI X tg a (EO X S.M R true (wE Φ G R i))/\
  ∀g s D H,Inv X g D H s->(∀C o l u,PG (aN X scope C d (mask d S.N) o l u) tg (gT X.K E O))/\(∀C o l u,PF (aN X scope C d (mask d S.N) o l u) y (SO X.K (up S.M d.length) (wE Φ G (λ_=>False) c)))/\
   ∀C o l u,(XOk (S.comp scope d) Φ Ψ G (aN X scope C d (mask d S.N) o l u)/\aF (S.comp scope d) false x B=true)/\PE (aN X scope C d (mask d S.N) o l u) B (SN X.K (up S.M d.length) (wE Φ G (λ_=>False) x)):=by
 obtain⟨B,tg,a,y,scope,p,rfl,kk⟩:=qo k;obtain⟨d,rfl,U,ho,Y,Z,k8,m,FG,T⟩:=zh hX kk;refine⟨B,tg,a,y,scope,p,d,rfl,rfl,U,ho,Y,hi.i hX tg true a (by rw[Qo];exact k8) Z R,λg s D H I=>⟨λC o l u=>(T g s D H I C o l u).1,λC o l u=>?_,λC o l u=>?_⟩⟩
 .have L:=(T g s D H I C o l u).2
  match y,m with
  |[],m=>
   have m:Iu c=true:=m;cases c with
   |bl b=>have:b=true:=m;subst this;refine PF.imp J1 ?_;rintro D H Q ⟨A,l,F,P,J,h,k⟩;obtain⟨b,e,q⟩:=k _ H h (ao.refl H);cases e;exact q
   |_=>exact ff m
  |[f],m=>have m:(aF (S.comp scope d) false c f&&z6 c)=true:=m;rw[AC]at m;exact PF.imp (J2 (hc.t L f m.1 m.2 λ_=>False))<|by rintro D H Q ⟨A,l,F,P,J,h,k⟩;exact⟨A,l,F,P,J,.none,h,k⟩
  |_::_::_,m=>exact ff m
 .have L:=(T g s D H I C o l u).2;refine⟨⟨L,FG⟩,?_⟩;exact PE.imp (hx.s L FG λ_=>False)<|by rintro D H Q ⟨A,l,F,P,J,h,k⟩;exact⟨A,l,F,P,J,.none,h,λw v H' pw s r=>k w v H' pw s r.aO⟩
theorem FI(q:List Nat)(f:Bool)(n:Nat){i c x:CE}(D:bT Φ Ψ G i)(E:bT Φ Ψ G c)(y:bT Φ Ψ G x):bT Φ Ψ G (.comp q f n i c x):=by
 refine .mk1 (λ{S X} o ex k R=>?_) (λ{S ex} J k e=>?_) (λS ex k=>by exact k) (λ_ _=>rfl)
 .obtain⟨l,r,d,g,b,p,M,rfl,rfl,h,B,j,K,A⟩:=nH D E y o k R;rw[gD rfl];rw[xy];intro a s m H Q I z;obtain⟨w,v,u⟩:=A a s m H I;exact EV o.calm B h K w v (λC t L F=>(u C t L F).2) j a s m H Q I z
 .obtain⟨l,r,d,g,b,p,rfl,N⟩:=qo k;rfl
theorem Mm:pD Φ Ψ G []:=by
 have en:∀{S:SE}{a:List Expr},dX S [] a=true->a=[]:=λ{S a} h=>by exact Fu.mp h
 have e:∀{S:SE}{a:List Expr},kX S [] a=true->a=[]:=λ{S a} h=>by exact Fu.mp h
 refine⟨λd a k R=>?_,λd a k R=>?_,λd a b c k R=>absurd (en k) c,λd a b c k R=>absurd (en k) c,λd a b c k _ R=>absurd (en k) c,λd a b c k _ R=>absurd (en k) c⟩
 .rw[en k];exact KO
 .rw[e k];exact EK
theorem FJ{a:CE}{m:List CE}(l:bT Φ Ψ G a)(o:pD Φ Ψ G m):pD Φ Ψ G (a::m):=by
 have p:∀{S:SE}{j:List Expr},dX S (a::m) j=true->∃e r,j=e::r/\aF S false a e=true/\dX S m r=true:=λ{S j} h=>by
  cases j with
  |nil=>exact ff h
  |cons e r=>have h:=IR.mp h;exact⟨e,r,rfl,h.1,h.2⟩
 have w:∀R,wA Φ G R (a::m)=λv Q=>wE Φ G R a v λx=>wA Φ G R m v λy=>Q (x::y):=λR=>rfl;refine⟨λc j k R=>?_,λ{S X} c j k R=>?_,λ{S X} c j f q k R=>?_,λ{S X} c j f q k R=>?_,λ{S X} c j f q k i R=>?_,λ{S X} c j f q k i R=>?_⟩
 .obtain⟨e,r,rfl,g,d⟩:=p k;rw[w];exact EJ (aD (aW (.inl g)) _ _) (l.s c g R) (o.a c r d R)
 .cases j with
  |nil=>exact ff k
  |cons e r=>have k:=IR.mp k;rw[w];exact BC (aD (aW (e9 k.1)) _ _) (l.b c k.1 R) (o.b c r k.2 R)
 .obtain⟨e,r,rfl,g,d⟩:=p k;cases m with
  |nil=>
   have:r=[]:=by exact Fu.mp d
   subst this;exact Ax (l.s c g R)
  |cons b u=>
   cases r with
   |nil=>exact ff d
   |cons n r=>exact KI (l.s c g R) (o.av c (n::r) f (by simp) d R)
 .obtain⟨e,r,rfl,g,d⟩:=p k;cases m with
  |nil=>
   have:r=[]:=by exact Fu.mp d
   subst this;exact Ax (l.s c g R)
  |cons b u=>
   cases r with
   |nil=>exact ff d
   |cons n r=>exact PK (l.s c g R) (o.ov c (n::r) f (by simp) d R)
 .obtain⟨e,r,rfl,g,d⟩:=p k;have i:=a2 i;cases m with
  |nil=>
   have:r=[]:=by exact Fu.mp d
   subst this;exact EI (l.t c e g i.1 R)
  |cons b u=>
   cases r with
   |nil=>exact ff d
   |cons n r=>exact KL (l.t c e g i.1 R) (o.at c (n::r) f (by simp) d i.2 R)
 .obtain⟨e,r,rfl,g,d⟩:=p k;have i:=a2 i;cases m with
  |nil=>
   have:r=[]:=by exact Fu.mp d
   subst this;exact KJ (l.t c e g i.1 R)
  |cons b u=>
   cases r with
   |nil=>exact ff d
   |cons n r=>exact PL (l.t c e g i.1 R) (o.ot c (n::r) f (by simp) d i.2 R)
variable(Φ Ψ G)
mutual
theorem snd:∀c:CE,bT Φ Ψ G c
 |.var i=>LM i
 |.int i=>LO i
 |.bl b=>Qn b
 |.str x=>LP x
 |.aI=>LQ
 |.Dr n=>LR n
 |.glob g=>FD g
 |.bin op a b=>LS op (snd a) (snd b)
 |.neg a=>LU (snd a)
 |.not a=>LV (snd a)
 |.cmp op a b=>LW op (snd a) (snd b)
 |.and d=>LX (kH d).1
 |.or d=>Qp (kH d).1
 |.ite c a b=>LY (snd c) (snd a) (snd b)
 |.tup d=>LZ (kH d).1
 |.lst d=>L3 (kH d).1
 |.ix a i=>Qq (snd a) (snd i)
 |.sl a e h=>Qs (snd a) (snd e) (snd h)
 |.call f d=>FF f (kH d).1
 |.blt b d=>L4 b (kH d).1 (kH d).2
 |.comp j one n i c x=>FI j one n (snd i) (snd c) (snd x)
 |.pS d=>L7 (kH d).2
 |.pop i=>L6 i
 |.own i π=>LN i π
 |.jm i g f d=>L5 i g f d
 |.slt a e h=>L8 (snd a) (snd e) (snd h)
 |.NJ a b c=>Ma (snd a) (snd b) (snd c)
 |.Kg a n x=>Mb n x (snd a)
 |.qT g f a=>Mc g f (snd a)
 |.NK i=>Me i
 |.NL l vs k=>Mi l vs (snd k)
 |.Br i g f d=>Mf i g f d
 |.fst d=>Mh (kH d).2
 |.fmt a=>Mg (snd a)
theorem kH:∀cs:List CE,pD Φ Ψ G cs/\∀c∈cs,bT Φ Ψ G c
 |[]=>⟨Mm,by simp⟩
 |c::cs=>⟨FJ (snd c) (kH cs).1,λd hd=>by
  rcases Ee.mp hd with e|h
  .rw[e];exact snd c
  .exact(kH cs).2 d h⟩
end
end
noncomputable def Mn(S:SE)(i:Nat)(x:Str):Bool:=S.N[i]?==some x&&(S.nk.lookup x==some .local||S.nk.lookup x==some .cell)
noncomputable def zj(S:SE):List Nat->List Str->Bool
 |[],a=>a.isEmpty
 |i::b,a=>match a with
  |x::r=>Mn S i x&&zj S b r
  |[]=>false
noncomputable def FL(S:SE)(a:List Nat):Bool:=a.all λi=>!rA S.M i
noncomputable def SE.less(S:SE)(i:Nat):SE:={S with M:=S.M.filter (·.1 !=i)}
noncomputable def SE.bare(S:SE):SE:={S with M:=[]}
noncomputable def Ca:Expr->Bool
 |.Tuple _ _ _=>false
 |_=>true
noncomputable def Cb:Expr->Bool
 |.ListComp _ _ _ _=>false
 |_=>true
noncomputable def NT(S:SE)(b vs:List Expr):Option (Option (List Str)):=
 if !(b.length==2||b.length==3)||vs.length !=b.length then some none
 else if vs.any λ|.Starred ..=>true|_=>false then some none
 else
  let line:=(b.head?.map (·.pos.line)).getD 0
  let a:=b.filterMap λ
   |.Name c pos=>if S.nk.lookup c==some .local&&pos.line==line then some c else none
   |_=>none
  if a.length !=b.length||a.eraseDups.length !=a.length then some none
  else if vs.all (foldedForSure 8)then some none
  else if vs.all (constantsAlone 8)then none
  else some (some a)
noncomputable def zk(f:List Expr->Expr->Bool):Stmt->Bool
 |.Assign a v _=>f a v
 |_=>false
noncomputable def Ve(f:Expr->List Stmt->List Stmt->Bool):Stmt->Bool
 |.While c a b _=>f c a b
 |_=>false
noncomputable def Vf(f:Expr->Expr->List Stmt->List Stmt->Bool):Stmt->Bool
 |.For t i a b _=>f t i a b
 |_=>false
noncomputable def Mp(f:Expr->Bool):Stmt->Bool
 |.Expr v _=>f v
 |_=>false
noncomputable def xA(f:Str->Pos->Expr->Bool):Stmt->Bool:=zk λa v=>o1 (S9 λx p=>f x p v) a
noncomputable def IC(f:List Expr->Expr->Bool):Stmt->Bool:=zk λa v=>o1 (vE λb=>f b v) a
noncomputable def ID(f:List Expr->List Expr->Bool):Stmt->Bool:=zk λb v=>o1 (vE λc=>vE (λa=>f c a) v) b
noncomputable def IE(f:Expr->Expr->Expr->Bool):Stmt->Bool:=zk λa v=>o1 (vF λo k=>f o k v) a
noncomputable def zl(f:Expr->Str->Pos->Pos->Expr->Bool):Stmt->Bool:=Mp (qm λg b k c=>k&&o1 (λv=>rC (λo m a=>f o m a c v) g) b)
noncomputable def FN(n:Bool)(f:Expr->Bool):Stmt->Bool
 |.Return (some v) _=>f v
 |.Return none _=>n
 |_=>false
noncomputable def FO(f:Expr->List Stmt->List Stmt->Bool):Stmt->Bool
 |.If c a b _=>f c a b
 |_=>false
noncomputable def Mq(f:Expr->List Stmt->Bool):Stmt->Bool:=Ve λc a b=>b.isEmpty&&f c a
noncomputable def Qu(f:Expr->Expr->List Stmt->Bool):Stmt->Bool:=Vf λt i a b=>b.isEmpty&&f t i a
noncomputable def Tg:Stmt->Bool
 |.Break _=>true
 |_=>false
noncomputable def Cc:Expr->Bool
 |.Dict [] [] _=>true
 |_=>false
theorem vJ{e:Expr}(h:Cc e=true):∃p,e=.Dict [] [] p:=by
 cases e with
 |Dict a b p=>
  cases a with
  |nil=>
   cases b with
   |nil=>exact⟨p,rfl⟩
   |cons _ _=>exact ff h
  |cons _ _=>exact ff h
 |_=>exact ff h
noncomputable def Cd(f:Stmt->Bool)(g:List Stmt->Bool):List Stmt->Bool
 |e::es=>f e&&g es
 |[]=>false
mutual
noncomputable def NU:Md->Md->Bool
 |.s,m=>Ft m
 |.f,m=>LI m
 |.t a,m=>match m with
  |.t b=>FP a b
  |_=>false
 |.o e a,m=>match m with
  |.o c b=>decide (e=c)&&FP a b
  |_=>false
 |.io a,m=>match m with
  |.io b=>NU a b
  |_=>false
 |.ls a,m=>match m with
  |.ls b=>NU a b
  |_=>false
 |.d,m=>Qe m
noncomputable def FP:List Md->List Md->Bool
 |[],l=>l.isEmpty
 |a::d,l=>match l with
  |b::c=>NU a b&&FP d c
  |[]=>false
end
mutual
theorem kI:∀{a b:Md},NU a b=true->a=b
 |.s,m,h=>by cases m<;>first|rfl|exact ff h
 |.f,m,h=>by cases m<;>first|rfl|exact ff h
 |.t a,m,h=>by
  cases m with
  |t b=>exact Ki _ (rH h)
  |_=>exact ff h
 |.o e a,m,h=>by
  cases m with
  |o c b=>have h:=IR.mp h;rw[Ap h.1,rH h.2]
  |_=>exact ff h
 |.io a,m,h=>by
  cases m with
  |io b=>exact Ki _ (kI h)
  |_=>exact ff h
 |.ls a,m,h=>by
  cases m with
  |ls b=>exact Ki _ (kI h)
  |_=>exact ff h
 |.d,m,h=>by cases m<;>first|rfl|exact ff h
theorem rH:∀{a b:List Md},FP a b=true->a=b
 |[],l,h=>by
  cases l with
  |nil=>rfl
  |cons b c=>exact ff h
 |a::d,l,h=>by
  cases l with
  |nil=>exact ff h
  |cons b c=>have h:=IR.mp h;rw[kI h.1,rH h.2]
end
noncomputable def hasB(M:Ms)(i:Nat)(m:Md):Bool:=match M.lookup i with
 |some k=>NU k m
 |none=>false
theorem iB{M:Ms}{i:Nat}{m:Md}(h:hasB M i m=true):(i,m)∈M:=by
 unfold hasB at h;cases e:M.lookup i with
 |none=>rw[e]at h;exact ff h
 |some k=>rw[e]at h;rw[<-kI h];exact dW e
noncomputable def IF(f:Expr->Str->List Expr->Bool):Expr->Bool:=qm λg b k c=>k&&rC (λo m a=>(a.endLine==c.line)&&decide (b.length<30)&&f o m b) g
mutual
noncomputable def eW(S:SE):CE->Expr->Bool
 |.pop i,e=>vG (λo m n k=>decide (m=("pop":Str))&&(n.endLine==k.line)&&zf S.M i&&gP S i o) e
 |.Br i g f d,e=>kW (λx es=>(S.N[i]?==some x&&Fv S x&&okN x)&&!rA S.M i&&(match S.fn[f]?,S.gn[g]? with
  |some y,some z=>decide (y=z)
  |_,_=>false)&&!es.isEmpty&&!dz (gj S.md f)&&!S.mt.any (·.1==f)&&jG S d es) e
 |.jm i g f d,e=>IF (λo x es=>S.fn[f]?==some x&&S.mt.any (λy=>y.1==f&&y.2==g)&&(match gj S.md f with
  |.io (.o h j)=>hasB S.M i (.o h j)&&!h.contains x
  |_=>false)&&gP S i o&&jG S d es) e
 |.bin op a b,e=>BV (λo l r=>decide (op=o)&&eW S a l&&eW S b r) e
 |.cmp op a b,e=>BW (λo l r=>decide (op=o)&&!decide (op=.In)&&!decide (op=.NotIn)&&eW S a l&&eW S b r) e
 |.call f d,e=>kW (λx es=>S.fn[f]?==some x&&pC S x&&!es.isEmpty&&!dz (gj S.md f)&&!S.mt.any (·.1==f)&&jG S d es) e
 |.blt b d,e=>kW (λx es=>decide (x=Rr b)&&pC S x&&S.zn.contains x&&Va b es.length&&!decide (b=.Bq)&&!es.isEmpty&&jG S d es) e
 |.ix a b,e=>vF (λv s=>t7 s&&eW S a v&&eW S b s) e
 |.lst d,e=>LK (λes=>jG S d es) e
 |.tup d,e=>vE (λes=>jG S d es) e
 |.and _,_=>false
 |.or _,_=>false
 |c,e=>aF S false c e
noncomputable def jG(S:SE):List CE->List Expr->Bool
 |[],es=>es.isEmpty
 |a::b,es=>xq (λe=>eW S a e) (λes=>jG S b es) es
end
noncomputable def kZ(S:SE):CE->Expr->Bool
 |.cmp op a b,e=>eW S (.cmp op a b) e
 |.jm i g f d,e=>eW S (.jm i g f d) e
 |.call f d,e=>eW S (.call f d) e
 |.pop _,_=>false
 |.bin _ _ _,_=>false
 |.blt _ _,_=>false
 |.ix _ _,_=>false
 |.lst _,_=>false
 |.tup _,_=>false
 |.and _,_=>false
 |.or _,_=>false
 |c,e=>aF S false c e&&z6 c
noncomputable def jH(S:SE):List CE->List Expr->Bool
 |[],_=>false
 |a::d,es=>match d with
  |[]=>Qj (λe=>kZ S a e) es
  |b::c=>xq (λe=>kZ S a e) (λes=>jH S (b::c) es) es
noncomputable def xB(S:SE):CE->Expr->Bool
 |.and a,e=>LJ (λo es=>decide (o=.And)&&jH S a es) e
 |.or a,e=>LJ (λo es=>decide (o=.Or)&&jH S a es) e
 |c,e=>kZ S c e
noncomputable def Th:Md->Bool
 |.s=>true
 |_=>false
noncomputable def Ti(a:Nat->Md):CE->Md
 |.tup b=>.t (b.map (mo a))
 |.call f _=>a f
 |c=>mo a c
noncomputable def isVar:CE->Option Nat
 |.var i=>some i
 |_=>none
noncomputable def Qv(S:SE)(m:Md)(e:CE)(v:Expr):Bool:=match isVar e with
 |some i=>hasB S.M i m&&gP S i v
 |none=>false
noncomputable def Qw(S:SE)(a:Nat->Md)(m:Md)(e:CE)(v:Expr):Bool:=
 !dz m&&((Th m&&(aF S.bare false e v||aF S false e v))||(NU (Ti a e) m&&(aF S.bare false e v||aF S false e v))||Qv S m e v)
noncomputable def Mr(S:SE)(m:Md):Bool:=match m with
 |.io k=>hasB S.M 0 k
 |_=>false
noncomputable def IG(f:Expr->Str->Expr->Bool):Stmt->Bool:=zk λa v=>o1 (rC λo x _=>f o x v) a
noncomputable def isCall:CE->Bool
 |.call _ _=>true
 |_=>false
noncomputable def Mu(S:SE)(i n:Nat)(x:Str):Bool:=match S.M.lookup i with
 |some (.o b a)=>b[n]?==some x&&(match a[n]? with
  |some k=>Ft k
  |none=>false)
 |_=>false
noncomputable def Vg(S:SE)(c:List Nat)(a h:Bool)(f:Expr->Bool)(g:List Stmt->Bool)(tg d:Expr)(b:List Stmt):Bool:=
 match Qg tg with
 |some (o,e)=>(a==o)&&zj S c e&&FL S c&&rD d&&(!h||!a)&&f d&&g b
 |none=>false
noncomputable def vK:Expr->Bool
 |.SetComp _ _ _ _=>false
 |.DictComp _ _ _ _ _=>false
 |_=>true
noncomputable def Vh(M:Ms)(i n:Nat):Option Str:=match M.lookup i with
 |some (.o a _)=>a[n]?
 |_=>none
noncomputable def Qx(M:Ms)(i n:Nat):Bool:=match M.lookup i with
 |some (.o _ a)=>(match a[n]? with
  |some .f=>true
  |_=>false)
 |_=>false
noncomputable def xC:Expr->Bool
 |.Starred _ _=>false
 |_=>true
mutual
noncomputable def FQ(S:SE)(d:Nat->Md)(m:Md):CS->Stmt->Bool
 |.set i e,st=>xA (λx _ v=>Mn S i x&&(if rA S.M i=true then(!dz m||!(i==0))&&((zf S.M i&&gk d e)||(isCall e&&hasB S.M i (Ti d e)))&&aF (S.less i) false e v else aF S false e v)) st
 |.NN l e,st=>IC (λes v=>(match B0 es with|some p=>zj S l p|none=>false)&&FL S l&&aF S false e v&&(Ca v||vE (λvs=>decide (NT S es vs=some none)) v)) st
 |.par l es,st=>ID (λtg vs=>(match B0 tg with|some p=>zj S l p&&decide (NT S tg vs=some (some p))&&decide p.Nodup&&p.all (λx=>S.nk.lookup x==some .local)|none=>false)&&FL S l&&dX S es vs) st
 |.app i e,st=>zl (λo f h g v=>decide (f=("append":Str))&&(h.endLine==g.line)&&zf S.M i&&gP S i o&&aF S false e v) st
 |.oY j e,st=>xA (λx _ v=>Mn S j x&&!rA S.M j&&Cb v&&vK v&&eW S e v) st
 |.ret e,st=>FN (gx e&&Th m) (λv=>Qw S d m e v) st
 |.iff c a b,st=>FO (λt x y=>aF S false c t&&z6 c&&cH S d m a x&&cH S d m b y) st
 |.NO c b,st=>Mq (λt x=>aF S false c t&&z6 c&&cH S d m b x) st
 |.fr l one q b,st=>Qu (λtg i x=>Vg S l one (B3 q) (λi=>aF S true q i) (λx=>cH S d m b x) tg i x) st
 |.brk,st=>Tg st
 |.Ia i π e,st=>zl (λo f h g v=>decide (f=("append":Str))&&(h.endLine==g.line)&&iN S LI i π o&&aF S false e v) st
 |.Bs i n e,st=>IG (λo x v=>Mu S i n x&&gP S i o&&aF S false e v) st
 |.Ib e,st=>FN (gx e&&Mr S m) (λv=>Mr S m&&aF S false e v) st
 |.zZ e,st=>Mp (λv=>Cb v&&vK v&&eW S e v) st
 |.NP c a b,st=>FO (λt x y=>xB S c t&&cH S d m a x&&cH S d m b y) st
 |.Ph c b,st=>Mq (λt x=>xB S c t&&cH S d m b x) st
 |.Kh i e,st=>zl (λo f h g v=>decide (f=("append":Str))&&(h.endLine==g.line)&&zf S.M i&&gP S i o&&xC v&&eW S e v) st
 |.yW,_=>true
 |.Rj i,st=>xA (λx _ v=>Mn S i x&&(!dz m||!(i==0))&&ze S.M i&&Cc v) st
 |.Rk i k e,st=>IE (λo j v=>ze S.M i&&gP S i o&&t7 j&&aF S false k j&&aF S false e v) st
 |.NG i π e,st=>zl (λo f h g v=>decide (f=("extend":Str))&&(h.endLine==g.line)&&iN S LI i π o&&gk d e&&aF S false e v) st
 |.Pn e,st=>FN false (λv=>Th m&&eW S e v) st
 |.Pk c a b,st=>FO (λt x y=>Rq (λo z=>decide (o=.Not)&&xB S c z) t&&cH S d m a x&&cH S d m b y) st
 |.Pj i n e,st=>zl (λo f h g v=>decide (f=("append":Str))&&(h.endLine==g.line)&&Qx S.M i n&&rC (λa x _=>decide (Vh S.M i n=some x)&&gP S i a) o&&xC v&&eW {S with M:=Dv S.M i n} e v) st
 |.Kl _ _,_=>false
noncomputable def cH(S:SE)(c:Nat->Md)(m:Md):List CS->List Stmt->Bool
 |[],es=>es.isEmpty
 |a::f,es=>match a with
  |.Kl d b=>f.isEmpty&&(!dz m||!d.contains 0)&&cH (S.lend d) c m b es
  |a=>Cd (λe=>FQ S c m a e) (λes=>cH S c m f es) es
end
structure vL(S:SE)(Φ:Nat->aU)(Ψ:Nat->Md)(G:Nat->W)(X:Cx):Prop extends XOk S Φ Ψ G X where
 bk:X.env.blockKind=.function
 NV:∀x,X.fn x=true
 Mv:∀j x C,S.gn[j]?=some x->G j=.cls C->Sk X.K C
 FT:∀i m m',(i,m)∈S.M->(i,m')∈S.M->m=m'
section
variable{S:SE}{Φ:Nat->aU}{Ψ:Nat->Md}{G:Nat->W}{X:Cx}
theorem vL.kO(h:vL S Φ Ψ G X):vL S Φ Ψ G X.kO:={toXOk:=h.toXOk.kO,bk:=h.bk,NV:=h.NV,Mv:=h.Mv,FT:=h.FT}
theorem XOk.Mw(h:XOk S Φ Ψ G X)(M:Ms):XOk {S with M:=M} Φ Ψ G X:=⟨h.hN,h.nd,h.calm,h.un,h.nk,h.fns,h.qT,h.Dw,h.Iv,h.B5,h.kit⟩
theorem nI(h:vL S Φ Ψ G X){i:Nat}{x:Str}(k:Mn S i x=true):fK X i x:=by unfold Mn at k;simp only[AC,Wp,Iy]at k;refine⟨by rw[h.hN];exact k.1,?_,.inl (h.NV x)⟩;unfold L2.Loc;rw[h.nk];exact k.2
theorem l6(h:vL S Φ Ψ G X):∀{b:List Nat}{a:List Str},zj S b a=true->di X b a
 |[],a,k=>Fu.mp k
 |i::c,[],k=>by cases k
 |i::c,x::r,k=>by rw[zj,AC]at k;exact⟨x,r,rfl,nI h k.1,l6 h k.2⟩
theorem rJ{a:List Nat}(h:FL S a=true):∀i∈a,¬aJ S.M i:=λi b=>iy (by simpa using HI.mp h i b)
theorem ua{i:Nat}{m:Md}(f:(i,m)∈S.M)(d:∀c,(i,c)∈S.M->c=m){x:Nat×Md}:x∈S.M↔x=(i,m)\/x∈(S.less i).M:=by
 show _↔_\/x∈S.M.filter (·.1 !=i);rw[QR,bne_iff_ne];obtain⟨a,b⟩:=x;constructor
 .intro h;by_cases e:a=i
  .subst e;rw[d b h];exact .inl rfl
  .exact .inr ⟨h,e⟩
 .rintro(e|h)
  .cases e;exact f
  .exact h.1
theorem uc{i:Nat}:¬aJ (S.less i).M i:=by rintro⟨m,h⟩;have h:(i,m)∈S.M.filter (·.1 !=i):=h;rw[QR,bne_iff_ne]at h;exact h.2 rfl
noncomputable def xD:Expr->Bool
 |.SetComp _ _ _ _=>false
 |.DictComp _ _ _ _ _=>false
 |_=>true
theorem Mx{b:Bool}{c:CE}{e:Expr}(h:aF S b c e=true):xD e=true:=by
 cases e with
 |SetComp _ _ _ _=>
  cases c with
  |own i a=>rcases(cG h).2 with⟨_,_,_,e⟩|⟨_,_,_,_,_,e⟩<;>cases e
  |_=>exact ff h
 |DictComp _ _ _ _ _=>
  cases c with
  |own i a=>rcases(cG h).2 with⟨_,_,_,e⟩|⟨_,_,_,_,_,e⟩<;>cases e
  |_=>exact ff h
 |_=>rfl
noncomputable def Tj(S:SE)(x:Str)(p:Pos):Expr->Bool
 |.ListComp _ _ scope q=>(S.nk.lookup x==some .local)&&(p.line==q.line)&&!(scope.names.any λ(n,k)=>n==x&&(k==.local||k==.cell))
 |_=>false
theorem Qy(h:vL S Φ Ψ G X){e:Expr}(he:xD e=true)(x:Str)(p:Pos)(l:Nat):swapsWith e (some (.Name x p)) l X.env=pure (Tj S x p e):=by
 cases e with
 |ListComp a b scope q=>show(pure _:Sem Bool)=pure _;rw[h.bk];show(pure (true&&(X.env.scope.names.lookup x==some .local)&&(p.line==q.line)&&_):Sem Bool)=_;rw[h.nk,Qo];rfl
 |SetComp _ _ _ _=>exact ff he
 |DictComp _ _ _ _ _=>exact ff he
 |_=>rfl
theorem FU{e:Expr}{es:List Expr}{k:Nat}{p:Pos}(l:Nat)(env:Env):swapsWithSole [.Tuple es k p] e l env=pure false:=by
 cases e<;>rfl
theorem Ce{e o i:Expr}{p:Pos}(l:Nat)(env:Env):swapsWithSole [.Subscript o i p] e l env=pure false:=by
 cases e<;>rfl
theorem FW{e:Expr}(he:Ca e=true)(es:List Expr)(k:Nat)(p:Pos)(env:Env):swappedStores [.Tuple es k p] e env=pure none:=by
 cases e<;>first|rfl|exact ff he
theorem Cf{e o i:Expr}{p:Pos}(env:Env):swappedStores [.Subscript o i p] e env=pure none:=by
 cases e<;>rfl
theorem Cg(h:vL S Φ Ψ G X){a vs:List Expr}{k k2:Nat}{p p2:Pos}{o:Option (List Str)}(e:NT S a vs=some o):swappedStores [.Tuple a k p] (.Tuple vs k2 p2) X.env=pure o:=by
 delta swappedStores
 unfold NT at e;have b:∀x,X.env.kindOf x=S.nk.lookup x:=λx=>h.nk x;simp only[b,h.bk,bne_self_eq_false,Qr];dsimp only at e;split at e
 .rename_i c
  cases e;exact Do c
 rename_i c1
 refine(Bn c1).trans ?_;split at e
 .rename_i c
  cases e;exact Do c
 rename_i c2
 refine(Bn c2).trans ?_;split at e
 .rename_i c
  cases e;exact Do c
 rename_i c3
 refine(Bn c3).trans ?_;split at e
 .rename_i c
  cases e;exact Do c
 rename_i c4
 refine(Bn c4).trans ?_;split at e
 .cases e
 rename_i c5
 cases e;exact Bn c5
end
theorem gQ{f:List Expr->Expr->Bool}{e:Stmt}(h:zk f e=true):∃a v q,e=.Assign a v q/\f a v=true:=by cases e<;>first|exact⟨_,_,_,rfl,h⟩|exact ff h
theorem FY{f:Expr->List Stmt->List Stmt->Bool}{e:Stmt}(h:Ve f e=true):∃c a b q,e=.While c a b q/\f c a b=true:=by cases e<;>first|exact⟨_,_,_,_,rfl,h⟩|exact ff h
theorem FZ{f:Expr->Expr->List Stmt->List Stmt->Bool}{e:Stmt}(h:Vf f e=true):∃t i a b q,e=.For t i a b q/\f t i a b=true:=by cases e<;>first|exact⟨_,_,_,_,_,rfl,h⟩|exact ff h
theorem ud{f:Expr->Bool}{st:Stmt}(h:Mp f st=true):∃v q,st=.Expr v q/\f v=true:=by cases st<;>first|exact⟨_,_,rfl,h⟩|exact ff h
theorem kJ{f:Str->Pos->Expr->Bool}{st:Stmt}(h:xA f st=true):∃x p v q,st=.Assign [.Name x p] v q/\f x p v=true:=by obtain⟨d,v,q,rfl,c⟩:=gQ h;obtain⟨t,rfl,b⟩:=c7 c;obtain⟨x,p,rfl,a⟩:=xo b;exact⟨_,_,_,_,rfl,a⟩
theorem zm{f:List Expr->Expr->Bool}{st:Stmt}(h:IC f st=true):∃es k p v q,st=.Assign [.Tuple es k p] v q/\f es v=true:=by obtain⟨d,v,q,rfl,c⟩:=gQ h;obtain⟨t,rfl,b⟩:=c7 c;obtain⟨es,k,p,rfl,a⟩:=dB b;exact⟨_,_,_,_,_,rfl,a⟩
theorem zo{f:List Expr->List Expr->Bool}{st:Stmt}(h:ID f st=true):∃es k p vs b a q,st=.Assign [.Tuple es k p] (.Tuple vs b a) q/\f es vs=true:=by obtain⟨i,v,q,rfl,g⟩:=gQ h;obtain⟨t,rfl,e⟩:=c7 g;obtain⟨es,k,p,rfl,d⟩:=dB e;obtain⟨vs,b,a,rfl,c⟩:=dB d;exact⟨_,_,_,_,_,_,_,rfl,c⟩
theorem zp{f:Expr->Expr->Expr->Bool}{st:Stmt}(h:IE f st=true):∃o k p v q,st=.Assign [.Subscript o k p] v q/\f o k v=true:=by obtain⟨d,v,q,rfl,c⟩:=gQ h;obtain⟨t,rfl,b⟩:=c7 c;obtain⟨o,k,p,rfl,a⟩:=cK b;exact⟨_,_,_,_,_,rfl,a⟩
theorem gR{f:Expr->Str->Pos->Pos->Expr->Bool}{st:Stmt}(h:zl f st=true):∃o m c v b q,st=.Expr (.Call (.Attribute o m c) [v] [] b) q/\f o m c b v=true:=by obtain⟨v,q,rfl,n⟩:=ud h;obtain⟨g,s,r,p,rfl,l⟩:=fT n;obtain⟨k,j⟩:=a2 l;obtain⟨e,rfl,i⟩:=c7 j;obtain⟨o,m,a,rfl,d⟩:=b9 i;rw[Fu.mp k];exact⟨_,_,_,_,_,_,rfl,d⟩
theorem nJ{n:Bool}{f:Expr->Bool}{st:Stmt}(h:FN n f st=true):(∃v q,st=.Return (some v) q/\f v=true)\/∃q,st=.Return none q/\n=true:=by
 cases st<;>try exact ff h
 rename_i v q
 cases v
 .exact .inr ⟨_,rfl,h⟩
 .exact .inl ⟨_,_,rfl,h⟩
theorem nK{f:Expr->List Stmt->List Stmt->Bool}{st:Stmt}(h:FO f st=true):∃c a b q,st=.If c a b q/\f c a b=true:=by
 cases st<;>try exact ff h
 exact⟨_,_,_,_,rfl,h⟩
theorem ue{f:Expr->List Stmt->Bool}{st:Stmt}(h:Mq f st=true):∃c a q,st=.While c a [] q/\f c a=true:=by obtain⟨c,a,b,q,rfl,e⟩:=FY h;obtain⟨k,d⟩:=a2 e;rw[Fu.mp k];exact⟨_,_,_,rfl,d⟩
theorem Ci{f:Expr->Expr->List Stmt->Bool}{st:Stmt}(h:Qu f st=true):∃tg c a q,st=.For tg c a [] q/\f tg c a=true:=by obtain⟨t,i,a,b,q,rfl,e⟩:=FZ h;obtain⟨k,d⟩:=a2 e;rw[Fu.mp k];exact⟨_,_,_,_,rfl,d⟩
section
variable{X:Cx}{M:Ms}{m:Md}{st:Stmt}{i j k:Nat}{e:Expr}{te:(Addr->Prop)->WT}{M':Ms}{m0:Md}
theorem F3{x y z:Str}{a b c:Expr}{ta:TA}{Q P O R pos:Pos}{S k2 Y}(hc:X.calm=true)(L:X.N.Nodup)(hi:X.N[i]?=some x)(hj:X.N[j]?=some y)(hk:X.N[k]?=some z)(K:i≠j)(J:i≠k)(F:j≠k)
 (U:X.env.scope.names.lookup x=some .local)(T:X.env.scope.names.lookup y=some .local)(hz:X.env.scope.names.lookup z=some .local)(ha:PA X [a,b,c] ta)
 (hw:swappedStores [.Tuple [.Name x Q,.Name y P,.Name z O] S R] (.Tuple [a,b,c] k2 Y) X.env=pure (some [x,y,z])):
 PS X (.Assign [.Tuple [.Name x Q,.Name y P,.Name z O] S R] (.Tuple [a,b,c] k2 Y) pos) (λD f H=>ta f H λvs H1=>∃v w u,vs=[v,w,u]/\D.nx (((f.set i (some v)).set j (some w)).set k (some u)) H1):=by
 intro d s f H D I h;rw[exec_Assign_arm];refine Bz (YG ?_);refine Bz (GM ?_);rw[Bn (by decide)];refine Bz (Tuple_ (bq (ha _ d s f H _ I h) λus r ⟨vs,H1,I1,r1,B⟩=>?_));obtain⟨v,w,u,e1,B⟩:=B;subst e1;obtain⟨n,l,g,rfl,rv,t,ru⟩:∃n l g,us=[n,l,g]/\RelV v n/\RelV w l/\RelV u g:=by
  cases r1 with
  |cons p q=>
   cases q with
   |cons p' q'=>
    cases q' with
    |cons C WX=>
     cases WX;exact⟨_,_,_,rfl,p,p',C⟩
 refine QP ?_ (by show 3<=sizeLine;decide);have I2:Inv X d f H1 {r with heap:=r.heap.push {cls:=.type "tuple",data:=.seq [n,l,g].toArray}}:=I1.kept (t':=r.toks) λb o e=>Da _ e;rw[hw];refine Bz (GM ?_);show wpAny (model X.prog X.w) X.A (do rule "assign.swapped-stores";let items<-unpackItems (.ref r.heap.objs.size) 3 none;assignInOrder [λv=>bindName X.env z v,λv=>bindName X.env y v,λv=>bindName X.env x v] items.reverse;pure Flow.next) _ _ _;refine Bz (wpAny_rule (Bz (unpackItems_tuple (items:= #[n,l,g]) (I.ok.hd hc) (IsTup.new r.heap _) λh' E=>?_)));have I3:=I2.kept (h':=h') (t':=r.toks) λb o e=>E b o (Jn (Fk e)) e;show wpAny _ _ (assignInOrder [λv=>bindName X.env z v,λv=>bindName X.env y v,λv=>bindName X.env x v] [g,l,n]>>=λ_=>pure Flow.next) _ _ _;refine Bz (T2 (Y7 (dR I3 L hk (.inl hz) ru (λs2 I4=>?_) (.inr hz))));refine T2 (Y7 (dR I4 L hj (.inl T) t (λs3 I5=>?_) (.inr T)));refine T2 (Y7 (dR I5 L hi (.inl U) rv (λs4 Z=>assignInOrder_nil (GM ?_)) (.inr U)));have e6:((f.set k (some u)).set j (some w)).set i (some v)=((f.set i (some v)).set j (some w)).set k (some u):=by rw[M4 _ _ (On F),M4 _ _ (On J),M4 _ _ (On K)]
 rw[e6]at Z;exact⟨_,H1,Z,B⟩
theorem F4(c:∀R,PS X st (mL (tV X M R (Ku X.K .s) (te R)) (fL i)))(n:¬aJ M i):VS X M m st (λd b=>te d.ex b λw=>d.nx (b.set i (some w))):=by rintro a s f H D I ⟨A,q,b,d,S,o,hz,h,k⟩;refine c d.ex a s f H D I ⟨A,q,b,_,S,o,h,λw v p l g r=>?_⟩;exact k.nx A _ _ p rfl rfl l ((S.same g).set n r.aO)
theorem Cj(c:∀R,PS X st (mL (tV X M' R (Ku X.K m0) (te R)) (fL i)))(g:∀x,x∈M↔x=(i,m0)\/x∈M')(y:¬aJ M' i)(f:dz m=true->i≠0):VS X M m st (λd b=>te d.ex b λw=>d.nx (b.set i (some w))):=by
 rintro a s n H D I ⟨A,Q,b,d,S,E,hz,h,k⟩;have C:∀v,A.s0=some v->A.s0=some v/\aJ M' 0:=λv e=>by
  refine⟨e,?_⟩;have u:dz m=true:=by rw[<-hz,e];rfl
  obtain⟨p,B⟩:=(S.sl v e).2;rcases(g _).mp B with z|z
  .cases z;exact(f u rfl).elim
  .exact⟨p,z⟩
 obtain⟨U,J,F,Y,l⟩:=S.sub (M':=M') (λx q=>(g x).mpr (.inr q)) A.s0 C;refine c d.ex a s n H D I ⟨U,Q,b,_,l,E,h,λw v P t o r=>?_⟩;obtain⟨T,N,L,_,O⟩:=l.own g y o r;exact k.nx T _ _ P (N.trans J) (L.trans F) t O
theorem F5{pos:Pos}:VS X M .s (.Return none pos) (λd c=>d.rt .aI):=by rintro a s b H D I ⟨A,g,c,d,S,f,hz,h,k⟩;exact wj a s b H D I (k.rt _ _ H h S.sm (.of rfl (.of (by dsimp only[Rep]))))
end
theorem qq{f:Expr->Str->List Expr->Bool}{e:Expr}(h:IF f e=true):∃o m a es c,e=.Call (.Attribute o m a) es [] c/\f o m es=true/\(a.endLine==c.line)=true/\es.length<30:=by obtain⟨g,es,l,p,rfl,j⟩:=fT h;obtain⟨k,i⟩:=a2 j;obtain⟨o,m,a,rfl,d⟩:=b9 i;rw[Fu.mp k];have b:=a3 d;exact⟨_,_,_,_,_,rfl,b.2,b.1.1,Ap b.1.2⟩
theorem zq{f:Expr->Str->Expr->Bool}{st:Stmt}(h:IG f st=true):∃o x p v q,st=.Assign [.Attribute o x p] v q/\f o x v=true:=by obtain⟨d,v,q,rfl,c⟩:=gQ h;obtain⟨t,rfl,b⟩:=c7 c;obtain⟨o,x,p,rfl,a⟩:=b9 b;exact⟨_,_,_,_,_,rfl,a⟩
noncomputable def Ck(X:Cx)(M:Ms)(R:Addr->Prop)(g:List Md)(t:Ev->(List W->Prop)->Prop):TA:=λf H Q=>∃A e b P,SR X.K M A e f H b/\ER X e R/\t b P/\∀c d a F,P c->ao H a->F.Nodup->(∀p∈F,H p=none)->cX X.K (λq=>A.B q\/q∈F) a g c d F->Q d a
section
variable{X:Cx}{M:Ms}{R:Addr->Prop}{a:Expr}{es:List Expr}{ta:WT}{m:Md}{ms:List Md}{pos:Pos}
theorem F6:PA X [] (Ck X M R [] λ_ Q=>Q []):=PA.imp bZ<|by rintro b H Q ⟨A,e,c,P,S,d,h,k⟩;exact k [] [] H [] h (ao.refl H) Y1 (by simp) (by dsimp only[cX];exact⟨rfl,rfl,rfl⟩)
theorem Cm{n:Ev->(List W->Prop)->Prop}(D:starEach (a::es) X.env=(false,eval a X.env)::starEach es X.env)(I:VE X M R m a ta)(E:PA X es (Ck X M R ms n)):PA X (a::es) (Ck X M R (m::ms) λc Q=>ta c λx=>n c λf=>Q (x::f)):=
 PA.imp (aR I E D)<|by
  rintro O H Q ⟨A,u,c,P,S,t,h,k⟩;refine⟨A,u,c,_,S,t,h,λx v N C g y=>?_⟩;obtain⟨G,B,r,s⟩:=y;have d:∀q∈G,∃o,N q=some o:=λq j=>let⟨o,e,_⟩:=Fp.mu m s q j;⟨o,e⟩
  refine⟨_,u,c,_,S.more g r d,t,C,λf w L F i s2 J l K=>?_⟩;refine k _ _ L (G++F) i (g.trans s2) ?_ (λp b=>?_) ?_
  .refine Pv.mpr ⟨B,J,λp b q j e=>?_⟩;subst e;obtain⟨o,e⟩:=d p b;rw[l p j]at e;cases e
  .rcases FV.mp b with b|b
   .exact r p b
   .exact g.free (l p b)
  .refine⟨x,f,v,w,G,F,rfl,rfl,rfl,Fp.mv s2 (λp o e z=>?_) m s,cX.mv (ao.refl _) (λp o e z=>?_) ms K⟩
   .rcases z with z|z
    .exact .inl z
    .rcases FV.mp z with z|z
     .exact .inr z
     .rw[l p z]at e;cases e
   .rcases z with z|z
    .exact .inl (.inl z)
    .rcases FV.mp z with z|z
     .exact .inl (.inr z)
     .exact .inr z
theorem F7{e:Ev->(List W->Prop)->Prop}{j:Nat}(h:PA X es (Ck X M R ms e)):VE X M R (.t ms) (.Tuple es j pos) (λd Q=>e d λb=>b.length<=sizeLine/\Q (.tup b)):=PE.imp (uZ h)<|by
 rintro E H Q ⟨A,D,d,P,S,y,h,k⟩;refine⟨A,D,d,_,S,y,h,λb c C F g n q o i=>?_⟩;have u:∀(ms:List Md){b:List W}{c:List V}{F:List Addr}{B:Addr->Prop},cX X.K B C ms b c F->c.length=b.length:=λms=>by
  induction ms with
  |nil=>intro b c F B h;dsimp only[cX]at h;rw[h.1,h.2.1];rfl
  |cons m ms r=>intro b c F B h;obtain⟨w,I,v,l,L,J,rfl,rfl,_,_,x⟩:=h;rw[AE,AE,r x]
 refine⟨by rw[u ms i];exact g.1,λp s=>?_⟩;have f:=aG s (.tup c);refine k _ _ _ g.2 (n.trans f) ⟨F,q,o,?_⟩;exact⟨b,p,c,rfl,rfl,aA,cX.mv f (λ_ _ _ z=>z) ms i⟩
end
noncomputable def c8(b:Nat->aU)(a:Nat->Md)(G:Nat->W)(s:CS):Prop:=∀{S:SE}{X:Cx}{m:Md},vL S b a G X->∀c,FQ S a m s c=true->VS X S.M m c (wS b G s)
noncomputable def dY(b:Nat->aU)(a:Nat->Md)(G:Nat->W)(s:List CS):Prop:=∀{S:SE}{X:Cx}{m:Md},vL S b a G X->∀c,cH S a m s c=true->wY X S.M m c (wSs b G s)
section
variable{Φ:Nat->aU}{Ψ:Nat->Md}{G:Nat->W}
theorem vL.Mw{S:SE}{X:Cx}(h:vL S Φ Ψ G X)(M:Ms)(b:∀i m a,(i,m)∈M->(i,a)∈M->m=a):vL {S with M:=M} Φ Ψ G X:={toXOk:=h.toXOk.Mw M,bk:=h.bk,NV:=h.NV,Mv:=h.Mv,FT:=b}
theorem Co{S:SE}{X:Cx}(b:XOk S Φ Ψ G X){f:Nat}{h:List CE}{v:Expr}(k:aF S false (.call f h) v=true)(R:Addr->Prop):VE X S.M R (Ψ f) v (wE Φ G R (.call f h))/\∃g es p,v=.Call g es [] p:=by
 obtain⟨x,q,es,p,rfl,i⟩:=aX k;simp only[AC]at i;obtain⟨⟨⟨⟨⟨s,r⟩,o⟩,d⟩,m⟩,j⟩:=i;obtain⟨B,A,D⟩:=cL b r;obtain⟨C,n,l,z,F,t,y⟩:=b.fns f x (Iy.mp s) (by simpa using m);have F:bW X.prog X.w X.K X.mg X.base l C n (z5 X.K n (Ψ f) (Φ f)):=by rw[<-b.Dw]at d;cases u:Ψ f<;>rw[u]at d F<;>first|exact F|exact ff d
 have c:=kD j;cases es with
 |nil=>exact ff o
 |cons e es=>rw[AU,AC]at c;refine⟨?_,_,_,_,rfl⟩;exact wW (M:=S.M) (R:=R) (p:=q) (pos:=p) F t B z y ((kH Φ Ψ G h).1.a b _ j R) A (aD c.1 _ _) (bH c.2 _ _)
theorem Cp{S:SE}{X:Cx}(c:XOk S Φ Ψ G X):∀(b:List CE)(es:List Expr),dX S b es=true->∀R,PA X es (Ck X S.M R (b.map (mo Ψ)) (wA Φ G R b))
 |[],es,k,R=>by rw[Fu.mp k];exact F6
 |a::b,[],k,R=>by cases k
 |a::b,e::es,k,R=>by have k:=a2 k;exact Cm (aD (aW (.inl k.1)) _ _) ((snd Φ Ψ G a).e c e k.1 R) (Cp c b es k.2 R)
theorem Cq{S:SE}{X:Cx}(a:XOk S Φ Ψ G X){e:CE}{v:Expr}(k:aF S false e v=true)(R:Addr->Prop):VE X S.M R (Ti Ψ e) v (wE Φ G R e):=by
 cases e with
 |tup b=>obtain⟨c,kd,p,rfl,k⟩:=dB k;exact F7 (Cp a b c k R)
 |call f b=>exact(Co a k R).1
 |_=>exact(snd Φ Ψ G _).e a v k R
theorem vM{e:CE}(h:isCall e=true):∃f a,e=.call f a:=by cases e<;>first|exact⟨_,_,rfl⟩|exact ff h
theorem qt{e:CE}(h:gx e=true):e=.aI:=by cases e<;>first|rfl|exact ff h
theorem zu{e:CE}{i:Nat}(h:isVar e=some i):e=.var i:=by cases e<;>first|(cases h;rfl)|exact nn h
theorem F8{S:SE}{x:Str}{p:Pos}{v:Expr}(h:Tj S x p v=true):∃a b c d,v=.ListComp a b c d:=by cases v<;>first|exact⟨_,_,_,_,rfl⟩|exact ff h
theorem My{S:SE}{e:CE}{a:Expr}{b:List Comprehension}{c:Scope}{d:Pos}(k:aF S false e (.ListComp a b c d)=true):∃g f n i c x,e=.comp g f n i c x:=by
 cases e with
 |comp g f n i c x=>exact⟨_,_,_,_,_,_,rfl⟩
 |own i h=>rcases(cG k).2 with⟨_,_,_,e⟩|⟨_,_,_,_,_,e⟩<;>cases e
 |_=>exact ff k
theorem xE{S:SE}{X:Cx}(d:vL S Φ Ψ G X){i:Nat}{x:Str}{p q:Pos}{e:CE}{v:Expr}(P:Mn S i x=true)(k:aF S false e v=true)(R:Addr->Prop):
 PS X (.Assign [.Name x p] v q) (mL (tV X S.M R (Ku X.K (mo Ψ e)) (wE Φ G R e)) (fL i)):=by
 have n:=nI d P;have a:=Qy d (Mx k) x p q.line;cases m:Tj S x p v with
 |false=>rw[m]at a;exact qE d.nd n.1 n.2.1 ((snd Φ Ψ G e).e d.toXOk v k R) a n.2.2
 |true=>rw[m]at a;obtain⟨T,gs,h,pp,rfl⟩:=F8 m;obtain⟨ts,B,n',E,c,y,rfl⟩:=My k;obtain⟨t,tg,r,F,f,p',o,U,rfl,j,O,l,Y,L⟩:=nH (snd Φ Ψ G E) (snd Φ Ψ G c) (snd Φ Ψ G y) d.toXOk k R;cases U;rw[gD rfl,xy];intro b s g H D I J;obtain⟨A,z,w⟩:=L b s g H I;exact Et o (mask o S.N) d.nd n.1 n.2.1 d.calm O Y A z (λC u Z Q=>(w C u Z Q).2) a l n.2.2 b s g H D I (tR j g H _ J)
theorem Mz(i:Nat)(e:CE):c8 Φ Ψ G (.set i e):=by
 intro S X m l st k;obtain⟨x,p,v,q,rfl,h⟩:=kJ k;rw[AC]at h;by_cases y:rA S.M i=true
 .rw[Do y]at h;simp only[AC]at h;obtain⟨F,⟨E,d⟩,C⟩:=h;have u:dz m=true->i≠0:=λz e=>by rw[z,e]at E;cases E
  have L:∀{t:Md},(i,t)∈S.M->(∀R,PS X (.Assign [.Name x p] v q) (mL (tV X (S.less i).M R (Ku X.K t) (wE Φ G R e)) (fL i)))->VS X S.M m (.Assign [.Name x p] v q) (λD o=>wE Φ G D.ex e o λw=>D.nx (o.set i (some w))):=λ{t} I O=>Cj (M':=(S.less i).M) (te:=λR=>wE Φ G R e) O (λj=>ua I (λm' T=>l.FT i _ _ T I)) uc u;have J:vL (S.less i) Φ Ψ G X:=l.Mw (S.less i).M λa b c B Q=>l.FT a b c (QR.mp B).1 (QR.mp Q).1;rcases e9 d with d|d
  .rw[AC]at d;refine L (lY d.1) λR=>?_;have:=xE J (p:=p) (q:=q) F C R;rw[gD d.2]at this;exact this
  .rw[AC]at d;refine L (iB d.2) λR=>?_;obtain⟨f,as,rfl⟩:=vM d.1;obtain⟨B,g,es,pp,rfl⟩:=Co J.toXOk C R;have n:=nI l F;exact qE l.nd n.1 n.2.1 B rfl n.2.2
 .rw[Bn y]at h;refine F4 (te:=λR=>wE Φ G R e) (λR=>?_) (iy (by simpa using y));refine PS.imp (xE l (p:=p) (q:=q) h.1 h.2 R)<|by rintro D σ H ⟨A,Y,o,P,S,U,p,k⟩;exact⟨A,Y,o,P,S,U,p,λw v Z N s r=>k w v Z N s (r.s S.dom)⟩
theorem MA(f:List Nat)(e:CE):c8 Φ Ψ G (.NN f e):=by
 intro S X m b u k;obtain⟨i,kd,p,v,q,rfl,g⟩:=zm k;simp only[AC]at g;obtain⟨⟨⟨c,h⟩,l⟩,a⟩:=g;split at c;rotate_left
 .cases c
 rename_i xs hxs
 have o:PG X (.Tuple i kd p) (gT X.K false f):=Mj b.calm b.nd (by dsimp only[Qg];rw[hxs];rfl) (l6 b c);have d:swappedStores [.Tuple i kd p] v X.env=pure none:=by
  rcases e9 a with a|a
  .exact FW a _ _ _ _
  .obtain⟨r,h,w,rfl,j⟩:=dB a;exact Cg b (Ap j)
 exact K3 (te:=λR=>wE Φ G R e) (λ{t} n=>AD n o (FU _ _) d rfl) (rJ h) λR=>(snd Φ Ψ G e).s b.toXOk l R
theorem nM{X:Cx}{a:List Nat}{x:Str}{b:List Str}(h:di X a (x::b)):∃i r,a=i::r/\fK X i x/\di X r b:=by
 cases a with
 |nil=>cases h
 |cons i r=>obtain⟨_,_,e,d,c⟩:=h;cases e;exact⟨i,r,rfl,d,c⟩
theorem F9{X:Cx}{a:List Nat}(h:di X a []):a=[]:=by
 cases a with
 |nil=>rfl
 |cons i r=>obtain⟨_,_,e,_⟩:=h;cases e
theorem xF{X:Cx}{a:List Nat}{x y:Str}(h:di X a [x,y]):∃i j,a=[i,j]/\fK X i x/\fK X j y:=by obtain⟨i,r,rfl,e,d⟩:=nM h;obtain⟨j,r,rfl,c,b⟩:=nM d;cases F9 b;exact⟨i,j,rfl,e,c⟩
theorem zv{X:Cx}{a:List Nat}{x y z:Str}(h:di X a [x,y,z]):∃i j k,a=[i,j,k]/\fK X i x/\fK X j y/\fK X k z:=by obtain⟨i,r,rfl,e,d⟩:=nM h;obtain⟨j,k,rfl,c,b⟩:=xF d;exact⟨i,j,k,rfl,e,c,b⟩
theorem Ga{α:Type}{l:List α}(h:l.length=2):∃a b,l=[a,b]:=by rcases l with _|⟨a,_|⟨b,_|_⟩⟩<;>first|exact⟨_,_,rfl⟩|(simp at h;done)
theorem MB{α:Type}{l:List α}(h:l.length=3):∃a b c,l=[a,b,c]:=by
 cases l with
 |nil=>cases h
 |cons a l=>obtain⟨b,c,rfl⟩:=Ga (TU h);exact⟨_,_,_,rfl⟩
theorem jI{es:List Expr}{x:Str}{b:List Str}(h:B0 es=some (x::b)):∃p r,es=.Name x p::r/\B0 r=some b:=by
 cases es with
 |nil=>cases h
 |cons e es=>
  cases e with
  |Name a p=>obtain⟨l,c,e⟩:=Kb.mp h;cases e;exact⟨_,_,rfl,c⟩
  |_=>exact nn h
theorem xG{es:List Expr}(h:B0 es=some []):es=[]:=by
 cases es with
 |nil=>rfl
 |cons e es=>
  cases e with
  |Name a p=>obtain⟨l,b,e⟩:=Kb.mp h;cases e
  |_=>exact nn h
theorem xH{es:List Expr}{x y:Str}(h:B0 es=some [x,y]):∃p q,es=[.Name x p,.Name y q]:=by obtain⟨p,r,rfl,b⟩:=jI h;obtain⟨q,r,rfl,a⟩:=jI b;rw[xG a];exact⟨_,_,rfl⟩
theorem zw{es:List Expr}{x y z:Str}(h:B0 es=some [x,y,z]):∃p q r,es=[.Name x p,.Name y q,.Name z r]:=by obtain⟨p,r,rfl,a⟩:=jI h;obtain⟨q,s,rfl⟩:=xH a;exact⟨_,_,_,rfl⟩
theorem Gb{S:SE}{a vs:List Expr}{b:List Str}(h:NT S a vs=some (some b)):(a.length=2\/a.length=3)/\vs.length=a.length:=by
 unfold NT at h;split at h
 .cases h
 .rename_i c
  simp only[Wp,Y5,bne_iff_ne,not_or,Bool.not_eq_false,Iy,ne_eq,Vo]at c;exact c
theorem xJ{es:List Expr}{a:List Str}(h:B0 es=some a):es.length=a.length:=by
 induction a generalizing es with
 |nil=>rw[xG h];rfl
 |cons x a b=>obtain⟨p,r,rfl,c⟩:=jI h;rw[AE,AE,b c]
theorem MC(Q:List Nat)(es:List CE):c8 Φ Ψ G (.par Q es):=by
 intro S X m o st k;obtain⟨tg,kd,p,f,WY,U,q,rfl,A⟩:=zo k;simp only[AC]at A;obtain⟨⟨C,k2⟩,Z⟩:=A;split at C;rotate_left
 .cases C
 rename_i xs hxs
 simp only[AC]at C;obtain⟨⟨⟨C,I⟩,B⟩,Y⟩:=C;have I:=Ap I;have B:=Ap B;obtain⟨r,M⟩:=Gb I;have L:=Cg o (k:=kd) (k2:=WY) (p:=p) (p2:=U) I;have d:∀x∈xs,X.env.scope.names.lookup x=some .local:=λx hx=>by rw[o.nk];exact Iy.mp (HI.mp Y x hx)
 have O:=l6 o C;refine K4 (ta:=λR=>wA Φ G R es) (λ{tv} P=>?_) (rJ k2) λR=>(kH Φ Ψ G es).1.a o.toXOk f Z R;have hd:∀{a b:Nat}{x y:Str},x≠y->X.N[a]?=some x->X.N[b]?=some y->a≠b:=λn E g e=>by rw[e,g]at E;exact n (Hn E).symm
 rcases r with r|r
 .obtain⟨x,y,rfl⟩:=Ga ((xJ hxs).symm.trans r);obtain⟨T,p2,rfl⟩:=xH hxs;obtain⟨i,j,rfl,t,s⟩:=xF O;obtain⟨a,b,rfl⟩:=Ga (M.trans r);refine PS.imp (JA o.calm o.nd t.1 s.1 (hd (by simpa using B) t.1 s.1) (d x (by simp)) (d y (by simp)) P L) λD F H h=>?_;have e:(λ(f:List V) l=>f.length=[i,j].length/\D.nx (cu F [i,j] f) l)=λf l=>∃v w,f=[v,w]/\D.nx ((F.set i (some v)).set j (some w)) l:=by
   funext f l;refine propext ⟨?_,?_⟩
   .rintro⟨E,g⟩;obtain⟨v,w,rfl⟩:=Ga E;exact⟨v,w,rfl,g⟩
   .rintro⟨v,w,rfl,g⟩;exact⟨rfl,g⟩
  rw[e]at h;exact h
 .obtain⟨x,y,z,rfl⟩:=MB ((xJ hxs).symm.trans r);obtain⟨T,p2,p3,rfl⟩:=zw hxs;obtain⟨i,j,A,rfl,t,s,J⟩:=zv O;obtain⟨a,b,c,rfl⟩:=MB (M.trans r);have K:(x≠y/\x≠z)/\y≠z:=by simp only[He,Ee,PH,W1,not_or]at B;exact⟨B.1,B.2.1⟩
  refine PS.imp (F3 o.calm o.nd t.1 s.1 J.1 (hd K.1.1 t.1 s.1) (hd K.1.2 t.1 J.1) (hd K.2 s.1 J.1) (d x (by simp)) (d y (by simp)) (d z (by simp)) P L) λD F H h=>?_;have e:(λ(f:List V) l=>f.length=[i,j,A].length/\D.nx (cu F [i,j,A] f) l)=λf l=>∃v w u,f=[v,w,u]/\D.nx (((F.set i (some v)).set j (some w)).set A (some u)) l:=by
   funext f l;refine propext ⟨?_,?_⟩
   .rintro⟨E,g⟩;obtain⟨v,w,u,rfl⟩:=MB E;exact⟨v,w,u,rfl,g⟩
   .rintro⟨v,w,u,rfl,g⟩;exact⟨rfl,g⟩
  rw[e]at h;exact h
theorem nN{S:SE}{i:Nat}{o:Expr}(h:gP S i o=true)(a:Str)(env:Env):attributeBase o a env (eval o env)=eval o env:=by
 cases o with
 |Name x p=>rfl
 |_=>exact ff h
theorem MD(i:Nat)(e:CE):c8 Φ Ψ G (.app i e):=by intro S X m g p k;obtain⟨o,r,u,v,t,q,rfl,c⟩:=gR k;simp only[AC]at c;obtain⟨⟨⟨⟨a,j⟩,h⟩,f⟩,d⟩:=c;have a:=Ap a;subst a;have b:=aD (aW (.inl d)) [] X.env;refine K7 (te:=λR=>wE Φ G R e) (λ{n} l=>?_) (lY h) λR=>(snd Φ Ψ G e).s g.toXOk d R;exact ie (p9 Pt TC TB fN (cy g.toXOk f) (aR l bZ b) (nN f _ _) (by rw[b];rfl) j b rfl) rfl
theorem ME(i:Nat):c8 Φ Ψ G (.Rj i):=by
 intro S X m b u k;obtain⟨x,p,v,q,rfl,c⟩:=kJ k;simp only[AC]at c;obtain⟨⟨⟨l,d⟩,h⟩,g⟩:=c;obtain⟨w,rfl⟩:=vJ g;have a:dz m=true->i≠0:=λz e=>by rw[z,e]at d;cases d
 have f:=rB h;have n:=nI b l;exact EZ (M':=(S.less i).M) (te:=λR s Q=>Q (.dct [] [])) (λ{t} o=>qE b.nd n.1 n.2.1 o rfl n.2.2) (λj=>ua f (λy r=>b.FT i _ _ r f)) uc a λR=>Lq
theorem uf:∀{S:SE}{c:CE}{e:Expr},eW S c e=true->noStar e=true:=λ{S c e} h=>by
 cases e with
 |Starred v p=>
  have f:aF S false c (.Starred v p)=true->False:=λz=>by have:=aW (.inl z);exact ff this
  cases c<;>first|exact ff h;done|exact(f h).elim
 |_=>rfl
theorem iX{S:SE}:∀{b:List CE}{es:List Expr},jG S b es=true->es.all noStar=true
 |[],es,h=>by rw[Fu.mp h];rfl
 |a::b,[],h=>by cases h
 |a::b,e::es,h=>by have h:=a2 h;rw[AU,uf h.1,iX h.2];rfl
theorem b7{S:SE}{X:Cx}(b:XOk S Φ Ψ G X)(R:Addr->Prop){c:CE}{v:Expr}(e:eW S c v=aF S false c v)(d:wP Φ G R c=λa Q=>wE Φ G R c a λw=>Q w a)(k:eW S c v=true):VP X S.M R v (wP Φ G R c):=by rw[e]at k;rw[d];exact P7 ((snd Φ Ψ G c).s b k R)
mutual
theorem bG{S:SE}{X:Cx}(d:XOk S Φ Ψ G X)(R:Addr->Prop):∀(e:CE)(v:Expr),eW S e v=true->VP X S.M R v (wP Φ G R e)
 |.pop i,v,k=>by obtain⟨o,mt,ap,cp,rfl,j⟩:=iV k;simp only[AC]at j;obtain⟨⟨⟨s,E⟩,m⟩,D⟩:=j;have s:=Ap s;subst s;exact Lb (lY m) (cy d D) (nN D _ _) E
 |.jm i g f C,v,k=>by
  obtain⟨o,x,ap,B,p,rfl,j,Vi,Vj⟩:=qq k;simp only[AC]at j;obtain⟨⟨⟨⟨s,E⟩,m⟩,D⟩,t⟩:=j;obtain⟨fa,fd,ps,n,kl,hG,hb,F,U,Z⟩:=d.qT f g x (Iy.mp s) (B7 E);rw[<-d.Dw]at m;cases o with
  |Name y py=>
   cases Y:Ψ f with
   |io m0=>
    rw[Y]at m F;cases m0 with
    |o fs ms=>
     have m:(hasB S.M i (.o fs ms)&&!fs.contains x)=true:=m;rw[AC]at m;cases C with
     |nil=>
      have:B=[]:=by exact Fu.mp t
      subst this;exact Fg (G:=G g) hG F U hb (iB m.1) (by simpa using m.2) Z (cy d D) (kG rfl (bH (iX t) _ _) Vj Vi)
     |cons a C=>
      cases B with
      |nil=>exact ff t
      |cons e B=>have Rt:=t;have Rt:=a2 Rt;exact Ll (G:=G g) hG F U hb (iB m.1) (by simpa using m.2) Z (cy d D) (dD d R (a::C) (e::B) t) (aD (uf Rt.1) _ _) (bH (iX Rt.2) _ _) (kG rfl (bH (iX t) _ _) Vj Vi)
    |_=>exact ff m
   |_=>rw[Y]at m;exact ff m
  |_=>exact ff D
 |.bin op a b,v,k=>by obtain⟨l,o,r,p,rfl,j⟩:=ku k;simp only[AC]at j;obtain⟨⟨s,E⟩,m⟩:=j;have s:=Ap s;subst s;exact Lc (bG d R a l E) (bG d R b r m)
 |.cmp op a b,v,k=>by obtain⟨l,o,r,p,rfl,j⟩:=kC k;simp only[AC]at j;obtain⟨⟨⟨⟨s,D⟩,t⟩,E⟩,m⟩:=j;have s:=Ap s;subst s;exact Ld d.un (AG r (op:=op) (by simpa using D) (by simpa using t)) (bG d R a l E) (bG d R b r m)
 |.call f C,v,k=>by
  obtain⟨x,q,B,p,rfl,j⟩:=aX k;simp only[AC]at j;obtain⟨⟨⟨⟨⟨s,E⟩,m⟩,t⟩,L⟩,D⟩:=j;obtain⟨g1,g2,g3⟩:=cL d E;obtain⟨fv,n,kl,hm,F,U,Z⟩:=d.fns f x (Iy.mp s) (by simpa using L);have F:bW X.prog X.w X.K X.mg X.base kl fv n (z5 X.K n (Ψ f) (Φ f)):=by rw[<-d.Dw]at t;cases Y:Ψ f<;>rw[Y]at t F<;>first|exact F|exact ff t
  have I:=iX D;cases B with
  |nil=>exact ff m
  |cons e B=>rw[AU,AC]at I;exact Fe (p:=q) (pos:=p) F U g1 hm Z (dD d R C _ D) g2 (aD I.1 _ _) (bH I.2 _ _)
 |.blt b C,v,k=>by
  obtain⟨x,q,B,p,rfl,j⟩:=aX k;simp only[AC]at j;obtain⟨⟨⟨⟨⟨⟨s,E⟩,m⟩,D⟩,t⟩,k9⟩,L⟩:=j;have s:=Ap s;obtain⟨g1,g2,g3⟩:=cL d E;have hz:=d.B5 x (Rv.mp m);have I:=iX L;cases B with
  |nil=>exact ff k9
  |cons e B=>
   rw[AU,AC]at I;rcases t8 d.calm b (by simpa using t)with⟨id,hv,hc⟩|⟨id,hv,hc⟩
   .exact Lf hc g1 hz (by rw[s];exact hv) (dD d R C _ L) g3 g2 (aD I.1 _ _) (bH I.2 _ _)
   .exact Lg hc g1 hz (by rw[s];exact hv) (dD d R C _ L) g3 g2 (aD I.1 _ _) (bH I.2 _ _)
 |.ix a b,v,k=>by obtain⟨l,r,p,rfl,j⟩:=cK k;simp only[AC]at j;obtain⟨⟨s,E⟩,m⟩:=j;exact P8 (rE s) (bG d R a l E) (bG d R b r m)
 |.lst C,v,k=>by obtain⟨B,p,rfl,j⟩:=nt k;exact Lo (dD d R C B j)
 |.tup C,v,k=>by obtain⟨B,kd,p,rfl,j⟩:=dB k;exact Lp (dD d R C B j)
 |.and _,v,k=>by cases k
 |.or _,v,k=>by cases k
 |.var i,v,k=>b7 d R rfl rfl k
 |.int i,v,k=>b7 d R rfl rfl k
 |.bl i,v,k=>b7 d R rfl rfl k
 |.str i,v,k=>b7 d R rfl rfl k
 |.aI,v,k=>b7 d R rfl rfl k
 |.Dr n,v,k=>b7 d R rfl rfl k
 |.glob g,v,k=>b7 d R rfl rfl k
 |.neg a,v,k=>b7 d R rfl rfl k
 |.not a,v,k=>b7 d R rfl rfl k
 |.ite c a b,v,k=>b7 d R rfl rfl k
 |.sl a b c,v,k=>b7 d R rfl rfl k
 |.comp ts one n i c x,v,k=>b7 d R rfl rfl k
 |.pS C,v,k=>b7 d R rfl rfl k
 |.own i π,v,k=>b7 d R rfl rfl k
 |.slt a b c,v,k=>b7 d R rfl rfl k
 |.NJ a b c,v,k=>b7 d R rfl rfl k
 |.Kg a n x,v,k=>b7 d R rfl rfl k
 |.qT g f a,v,k=>b7 d R rfl rfl k
 |.NK i,v,k=>b7 d R rfl rfl k
 |.NL a b c,v,k=>b7 d R rfl rfl k
 |.Br i g f C,v,k=>by
  obtain⟨x,q,B,p,rfl,j⟩:=aX k;simp only[AC]at j;obtain⟨⟨⟨⟨⟨⟨⟨⟨k0,s⟩,E⟩,k7⟩,T⟩,m⟩,t⟩,L⟩,D⟩:=j;cases hf:S.fn[f]? with
  |none=>rw[hf]at T;exact ff T
  |some y=>
   cases hg:S.gn[g]? with
   |none=>rw[hf,hg]at T;exact ff T
   |some z=>
    rw[hf,hg]at T;have e1:=Ap T;subst e1;obtain⟨fv,n,kl,hm,F,U,Z⟩:=d.fns f y hf (by simpa using L);obtain⟨u,v0,hm2,rv,rg⟩:=d.Iv g y hg;have F:bW X.prog X.w X.K X.mg X.base kl fv n (z5 X.K n (Ψ f) (Φ f)):=by rw[<-d.Dw]at t;cases Y:Ψ f<;>rw[Y]at t F<;>first|exact F|exact ff t
    have I:=iX D;cases B with
    |nil=>exact ff m
    |cons e B=>
     rw[AU,AC]at I;have hv:PE X (.Name x q) (gG i):=cy d (by show(S.N[i]?==some x&&Fv S x&&okN x)=true;simp only[AC];exact⟨⟨k0,s⟩,E⟩);refine PE.imp (LD (p:=q) (pos:=p) F U hv (iy (by simpa using k7)) Z (dD d R C _ D) (aD I.1 _ _) (bH I.2 _ _)) ?_;rintro σ H Q ⟨A,H0,O,P,SS,er,h,c⟩;refine⟨A,H0,O,P,SS,er,?_,c⟩;have h:(match look O i with|some (.fn a)=>G g=.fn a/\(z9 Φ G R C O λws J=>Φ f ws (λw=>P w J) R)|_=>False):=h;show(match look O i with|some (.fn a)=>fv=Value.ref a/\(z9 Φ G R C O λws J=>Φ f ws (λw=>P w J) R)|_=>False);cases hl:look O i with
     |none=>rw[hl]at h;exact h.elim
     |some w0=>
      rw[hl]at h;cases w0 with
      |fn a=>show fv=.ref a/\_;refine⟨?_,h.2⟩;have:=rg (λ_=>False) H;rw[h.1]at this;have this:v0=.ref a:=this;subst this;have ru:u=.ref a:=rv;rw[hm2]at hm;rw[<-Hn hm,ru]
      |_=>exact h.elim
 |.fst a,v,k=>b7 d R rfl rfl k
 |.fmt a,v,k=>b7 d R rfl rfl k
theorem dD{S:SE}{X:Cx}(c:XOk S Φ Ψ G X)(R:Addr->Prop):∀(b:List CE)(es:List Expr),jG S b es=true->BK X S.M R es (z9 Φ G R b)
 |[],es,k=>by rw[Fu.mp k];exact Fb
 |a::b,[],k=>by cases k
 |a::b,e::es,k=>by have k:=a2 k;exact BN (aD (uf k.1) _ _) (bG c R a e k.1) (dD c R b es k.2)
end
theorem xK{v:Expr}(a:xD v=true)(b:Cb v=true)(t:Option Expr)(l:Nat)(env:Env):swapsWith v t l env=pure false:=by
 cases v with
 |ListComp _ _ _ _=>exact ff b
 |SetComp _ _ _ _=>exact ff a
 |DictComp _ _ _ _ _=>exact ff a
 |_=>rfl
theorem Vk{v:Expr}(h:vK v=true):xD v=true:=by cases v<;>first|rfl|exact ff h
theorem MF(e:CE):c8 Φ Ψ G (.zZ e):=by intro S X m f g k;obtain⟨v,q,rfl,a⟩:=ud k;simp only[AC]at a;obtain⟨⟨d,c⟩,b⟩:=a;exact Fd (tt:=λR=>wP Φ G R e) λR=>ie (bG f.toXOk R _ v b) (xK (Vk c) d _ _ _)
theorem Gd(j:Nat)(e:CE):c8 Φ Ψ G (.oY j e):=by intro S X m a o k;obtain⟨x,p,v,q,rfl,b⟩:=kJ k;simp only[AC]at b;obtain⟨⟨⟨⟨h,g⟩,d⟩,c⟩,f⟩:=b;have n:=nI a h;exact Fc (tt:=λR=>wP Φ G R e) (λ{l} i=>qE a.nd n.1 n.2.1 i (xK (Vk c) d _ _ _) n.2.2) (iy (by simpa using g)) λR=>bG a.toXOk R _ v f
theorem MG(e:CE):c8 Φ Ψ G (.ret e):=by
 intro S X m d h k;rcases nJ k with⟨v,q,rfl,a⟩|⟨q,rfl,a⟩
 .unfold Qw at a;rw[AC]at a;obtain⟨c,a⟩:=a;have c:dz m=false:=by simpa using c
  rcases e9 a with a|f
  .rcases e9 a with a|a
   .rw[AC]at a;have g:m=.s:=by cases m<;>first|rfl|exact ff a.1
    rcases e9 a.2 with b|b
    .exact BJ (te:=λR=>wE Φ G R e) (λR=>(snd Φ Ψ G e).e (d.toXOk.Mw []) v b R) (.inr g) c
    .subst g;exact E4 (te:=λR=>wE Φ G R e) λR=>(snd Φ Ψ G e).s d.toXOk b R
   .rw[AC]at a;rcases e9 a.2 with b|b
    .exact BJ (te:=λR=>wE Φ G R e) (λR=>Cq (d.toXOk.Mw []) b R) (.inl (kI a.1)) c
    .exact E5 (te:=λR=>wE Φ G R e) (λR=>by rw[<-kI a.1];exact Cq d.toXOk b R) c
  .unfold Qv at f;split at f
   .rename_i i hv
    obtain rfl:=zu hv;have b:=a2 f;exact E6 (cy d.toXOk b.2) (iB b.1) c
   .exact ff f
 .rw[AC]at a;obtain rfl:=qt a.1;cases m<;>try exact ff a.2
  exact F5
theorem xM{S:SE}{m:Md}(h:Mr S m=true):∃k,m=.io k/\(0,k)∈S.M:=by
 cases m with
 |io k=>exact⟨k,rfl,iB h⟩
 |_=>exact ff h
theorem MH(e:CE):c8 Φ Ψ G (.Ib e):=by
 intro S X m d f k;rcases nJ k with⟨v,q,rfl,a⟩|⟨q,rfl,a⟩
 .rw[AC]at a;obtain⟨c,rfl,b⟩:=xM a.1;exact Lj (te:=λR=>wE Φ G R e) (λR=>(snd Φ Ψ G e).s d.toXOk a.2 R) b
 .rw[AC]at a;obtain⟨c,rfl,b⟩:=xM a.2;obtain rfl:=qt a.1;exact Lk b
theorem gS{S:SE}{X:Cx}(e:XOk S Φ Ψ G X)(R:Addr->Prop)(c:CE)(v:Expr)(k:kZ S c v=true):wZ X S.M R v (wP Φ G R c):=by
 have qz:∀{c:CE},kZ S c v=(aF S false c v&&z6 c)->(wP Φ G R c=λm Q=>wE Φ G R c m λw=>Q w m)->kZ S c v=true->wZ X S.M R v (wP Φ G R c):=λ{c} C B k=>by rw[C,AC]at k;rw[B];exact La ((snd Φ Ψ G c).t e v k.1 k.2 R)
 cases c with
 |cmp op a b=>have k:eW S (.cmp op a b) v=true:=k;obtain⟨l,o,r,p,rfl,n⟩:=kC k;simp only[AC]at n;obtain⟨⟨⟨⟨j,u⟩,s⟩,z⟩,y⟩:=n;have j:=Ap j;subst j;exact E7 e.un (AG r (op:=op) (by simpa using u) (by simpa using s)) (bG e R a l z) (bG e R b r y)
 |jm i g f d=>have k:eW S (.jm i g f d) v=true:=k;have h:=bG e R _ v k;obtain⟨o,x,D,A,p,rfl,_⟩:=qq k;exact w4 (λ_=>rfl) h
 |call f d=>have k:eW S (.call f d) v=true:=k;have h:=bG e R _ v k;obtain⟨x,q,A,p,rfl,_⟩:=aX k;exact w4 (λ_=>rfl) h
 |pop i=>exact ff k
 |Br i g f d=>exact ff k
 |bin op a b=>exact ff k
 |blt b d=>exact ff k
 |ix a b=>exact ff k
 |lst d=>exact ff k
 |tup d=>exact ff k
 |and d=>exact ff k
 |or d=>exact ff k
 |_=>exact qz rfl rfl k
theorem ug{S:SE}{X:Cx}(c:XOk S Φ Ψ G X)(R:Addr->Prop){pos:Pos}:∀(f:List CE)(es:List Expr),jH S f es=true->Il X S.M R (.BoolOp .And es pos) (vZ Φ G R f)
 |[],es,k=>by cases k
 |[a],es,k=>by obtain⟨e,rfl,k⟩:=c7 k;exact BL (gS c R a e k)
 |a::b::d,es,k=>by
  cases es with
  |nil=>exact ff k
  |cons e es=>
   have k:kZ S a e=true/\jH S (b::d) es=true:=a2 k;have h:=ug c R (pos:=pos) (b::d) es k.2;cases es with
   |nil=>cases d<;>exact ff k.2
   |cons g es=>exact E8 (gS c R a e k.1) h
theorem uh{S:SE}{X:Cx}(c:XOk S Φ Ψ G X)(R:Addr->Prop){pos:Pos}:∀(f:List CE)(es:List Expr),jH S f es=true->Il X S.M R (.BoolOp .Or es pos) (DA Φ G R f)
 |[],es,k=>by cases k
 |[a],es,k=>by obtain⟨e,rfl,k⟩:=c7 k;exact E9 (gS c R a e k)
 |a::b::d,es,k=>by
  cases es with
  |nil=>exact ff k
  |cons e es=>
   have k:kZ S a e=true/\jH S (b::d) es=true:=a2 k;have h:=uh c R (pos:=pos) (b::d) es k.2;cases es with
   |nil=>cases d<;>exact ff k.2
   |cons g es=>exact Le (gS c R a e k.1) h
theorem nO{S:SE}{X:Cx}(f:XOk S Φ Ψ G X)(R:Addr->Prop)(c:CE)(v:Expr)(k:xB S c v=true):wZ X S.M R v (wP Φ G R c):=by
 cases c with
 |and d=>have k:LJ (λo b=>decide (o=.And)&&jH S d b) v=true:=k;obtain⟨o,b,p,rfl,a⟩:=iz k;rw[AC]at a;have e:=Ap a.1;subst e;exact PW.pt (ug f R d b a.2)
 |or d=>have k:LJ (λo b=>decide (o=.Or)&&jH S d b) v=true:=k;obtain⟨o,b,p,rfl,a⟩:=iz k;rw[AC]at a;have e:=Ap a.1;subst e;exact PW.pt (uh f R d b a.2)
 |_=>exact gS f R _ v k
theorem MI(c:CE){a b:List CS}(j:dY Φ Ψ G a)(i:dY Φ Ψ G b):c8 Φ Ψ G (.NP c a b):=by intro S X m d l k;obtain⟨t,x,y,q,rfl,e⟩:=nK k;simp only[AC]at e;obtain⟨⟨h,g⟩,f⟩:=e;exact BO (tt:=λR=>wP Φ G R c) (λR=>nO d.toXOk R c t h) (j d x g) (i d y f)
theorem MJ(c:CE){b:List CS}(e:dY Φ Ψ G b):c8 Φ Ψ G (.Ph c b):=by intro S X m d f k;obtain⟨t,x,q,rfl,a⟩:=ue k;simp only[AC]at a;exact Lh (nO d.kO.toXOk _ c t a.1) (e d.kO x a.2)
theorem MK(i:Nat)(e:CE):c8 Φ Ψ G (.Kh i e):=by intro S X m g p k;obtain⟨o,r,u,v,t,q,rfl,c⟩:=gR k;simp only[AC]at c;obtain⟨⟨⟨⟨⟨a,j⟩,h⟩,f⟩,s⟩,d⟩:=c;have a:=Ap a;subst a;have b:=aD (uf d) [] X.env;refine Li (tt:=λR=>wP Φ G R e) (λ{n} l=>?_) (lY h) λR=>bG g.toXOk R e v d;exact ie (p9 Pt TC TB fN (cy g.toXOk f) (aR l bZ b) (nN f _ _) (by rw[b];rfl) j b rfl) rfl
theorem Ge{S:SE}{i n:Nat}{x:Str}(h:Mu S i n x=true):∃b a,(i,.o b a)∈S.M/\b[n]?=some x/\a[n]?=some .s:=by
 unfold Mu at h;split at h
 .rename_i b a hl
  rw[AC]at h;obtain⟨d,c⟩:=h;split at c
  .rename_i k hk
   have:k=.s:=by cases k<;>first|rfl|exact ff c
   subst this;exact⟨b,a,dW hl,Iy.mp d,hk⟩
  .cases c
 .cases h
theorem ML(i n:Nat)(e:CE):c8 Φ Ψ G (.Bs i n e):=by intro S X m b t k;obtain⟨o,x,p,v,q,rfl,a⟩:=zq k;simp only[AC]at a;obtain⟨⟨f,d⟩,c⟩:=a;obtain⟨w,u,l,j,h⟩:=Ge f;exact Ln (te:=λR=>wE Φ G R e) (λ{r} g=>jW (cy b.toXOk d) g (by cases v<;>rfl)) l j h λR=>(snd Φ Ψ G e).s b.toXOk c R
theorem MM(i:Nat)(π:List ir)(e:CE):c8 Φ Ψ G (.Ia i π e):=by
 intro S X m h w k;obtain⟨o,x,A,v,z,q,rfl,c⟩:=gR k;simp only[AC]at c;obtain⟨⟨⟨a,l⟩,g⟩,d⟩:=c;have a:=Ap a;subst a;have b:=aD (aW (.inl d)) [] X.env;obtain⟨y,k,r,p,t,j⟩:=rF h.toXOk g;have:k=.f:=by cases k<;>first|rfl|exact ff t
 subst this;refine K6 (te:=λR=>wE Φ G R e) (λ{u} n=>?_) r p λR=>(snd Φ Ψ G e).s h.toXOk d R;exact ie (p9 Pt TC TB fN j (aR n bZ b) (by rcases(cG g).2 with⟨_,_,_,rfl⟩|⟨_,_,_,_,_,rfl⟩<;>rfl) (by rw[b];rfl) l b rfl) rfl
theorem MN(i:Nat)(b e:CE):c8 Φ Ψ G (.Rk i b e):=by
 intro S X m a y k;obtain⟨o,j,p,v,q,rfl,c⟩:=zp k;simp only[AC]at c;obtain⟨⟨⟨⟨l,h⟩,g⟩,f⟩,d⟩:=c;have t:∀u,assign (.Subscript o j p) X.env u=(do
  let ov<-holding [u] (eval o X.env)
  let iv<-holding [u,ov] (eval j X.env)
  standAt p
  holding [u,ov,iv] (setItem ov iv u)
  release [u,ov,iv] []):=by
  intro u;cases j with
  |Slice _ _ _ _=>exact ff g
  |_=>rfl
 refine LC (te:=λR=>wE Φ G R e) (t1:=λR=>wE Φ G R b) (λ{w x} n r=>?_) (rB l) (λR=>(snd Φ Ψ G e).s a.toXOk d R) λR=>(snd Φ Ψ G b).s a.toXOk f R;exact AD (pos:=q) n (Jz (cy a.toXOk h) r (set_dict (hu1 a.un)) t) (Ce _ _) (Cf _) rfl
theorem MO(i:Nat)(π:List ir)(e:CE):c8 Φ Ψ G (.NG i π e):=by
 intro S X m j x k;obtain⟨o,y,B,v,A,q,rfl,c⟩:=gR k;simp only[AC]at c;obtain⟨⟨⟨⟨a,p⟩,g⟩,n⟩,d⟩:=c;have a:=Ap a;subst a;have b:=aD (aW (.inl d)) [] X.env;obtain⟨z,k,t,s,u,l⟩:=rF j.toXOk g;have:k=.f:=by cases k<;>first|rfl|exact ff u
 subst this;refine LB (e:=v) (te:=λR=>wE Φ G R e) (λ{w} r=>?_) t s λR=>?_
 .exact ie (p9 Pt PySem.F.slot_list_extend PySem.F.type_list_extend yD l (aR r bZ b) (by rcases(cG g).2 with⟨_,_,_,rfl⟩|⟨_,_,_,_,_,rfl⟩<;>rfl) (by rw[b];rfl) p b rfl) rfl
 .have h:=(snd Φ Ψ G e).e j.toXOk v d R;rw[gD n]at h;exact h
theorem MP(i n:Nat)(e:CE):c8 Φ Ψ G (.Pj i n e):=by
 intro S X m l H k;obtain⟨o,I,O,v,N,q,rfl,s⟩:=gR k;simp only[AC]at s;obtain⟨⟨⟨⟨⟨h,C⟩,b⟩,g⟩,J⟩,u⟩:=s;have h:=Ap h;subst h;obtain⟨a,x,p,rfl,g⟩:=b9 g;obtain⟨c,t⟩:=a2 g;have c:=Ap c;unfold Qx at b;unfold Vh at c;cases r:S.M.lookup i with
 |none=>rw[r]at b;exact ff b
 |some B=>
  rw[r]at b c;cases B with
  |o L d=>
   have b:(match d[n]? with|some .f=>true|_=>false)=true:=b;have E:d[n]?=some .f:=by
    cases w:d[n]? with
    |none=>rw[w]at b;exact ff b
    |some z=>rw[w]at b;cases z<;>first|rfl|exact ff b
   have j:=aD (uf u) [] X.env;have A:PE X (.Attribute a x p) (kq X.K i [.fl n x]):=BR (n:=n) (π:=[]) (BQ (cy l.toXOk t)) (by obtain⟨y,z,rfl,_⟩:=b5 t;rfl);refine LH (tt:=λR=>wP Φ G R e) (λ{F} D=>?_) (dW r) c E l.FT λR=>bG (l.toXOk.Mw (Dv S.M i n)) R e v u;exact ie (p9 Pt TC TB fN A (aR D bZ j) rfl (by rw[j];rfl) C j rfl) rfl
  |_=>exact ff b
theorem MQ(c:CE){a b:List CS}(s:dY Φ Ψ G a)(r:dY Φ Ψ G b):c8 Φ Ψ G (.Pk c a b):=by intro S X m f u k;obtain⟨t,x,y,p,rfl,g⟩:=nK k;simp only[AC]at g;obtain⟨⟨e,n⟩,l⟩:=g;obtain⟨o,z,q,rfl,e⟩:=jF e;obtain⟨j,i⟩:=a2 e;cases Ap j;exact BO (tt:=λR h Q=>wP Φ G R c h λx d=>truth x λb=>Q (.bl (!b)) d) (λR=>Fo (nO f.toXOk R c z i)) (s f x n) (r f y l)
theorem MR(e:CE):c8 Φ Ψ G (.Pn e):=by
 intro S X m c d k;rcases nJ k with⟨v,q,rfl,a⟩|⟨q,rfl,a⟩
 .rw[AC]at a;have b:m=.s:=by cases m<;>first|rfl|exact ff a.1
  subst b;exact LF (tt:=λR=>wP Φ G R e) λR=>bG c.toXOk R e v a.2
 .exact ff a
theorem MS:c8 Φ Ψ G .brk:=by
 intro S X m b a k;cases a with
 |Break _=>exact K2
 |_=>exact ff k
theorem Qz(c:CE){a b:List CS}(l:dY Φ Ψ G a)(j:dY Φ Ψ G b):c8 Φ Ψ G (.iff c a b):=by intro S X m d n k;obtain⟨t,x,y,q,rfl,e⟩:=nK k;simp only[AC]at e;obtain⟨⟨⟨i,h⟩,g⟩,f⟩:=e;exact P5 (tc:=λR=>wE Φ G R c) (λR=>(snd Φ Ψ G c).t d.toXOk t i h R) (l d x g) (j d y f)
theorem MT(c:CE){b:List CS}(h:dY Φ Ψ G b):c8 Φ Ψ G (.NO c b):=by intro S X m d i k;obtain⟨t,x,q,rfl,a⟩:=ue k;simp only[AC]at a;obtain⟨⟨g,f⟩,e⟩:=a;exact K8 ((snd Φ Ψ G c).t d.kO.toXOk t g f _) (h d.kO x e)
theorem MU(j:List Nat)(d:Bool)(f:CE){b:List CS}(u:dY Φ Ψ G b):c8 Φ Ψ G (.fr j d f b):=by
 intro S X m c v k;obtain⟨g,i,x,q,rfl,a⟩:=Ci k;unfold Vg at a;split at a;rotate_left
 .cases a
 rename_i o xs Ml
 simp only[AC]at a;obtain⟨⟨⟨⟨⟨⟨e,t⟩,s⟩,r⟩,h⟩,n⟩,l⟩:=a;have e:=Iy.mp e;subst e;refine K9 (ti:=λR=>wE Φ G R f) c.calm (rJ s) ((snd Φ Ψ G f).i c.kO.toXOk g false i (by rw[n];rfl) (λz=>?_) _) (Mj (X:=X.kO) c.calm c.kO.nd Ml (l6 c.kO t)) (u c.kO x l) (t9 r _);have:d=false:=by rw[z]at h;simpa using h
 subst this;cases g with
 |Tuple w a p=>exact⟨_,_,_,rfl⟩
 |Name y p=>cases Ml
 |_=>exact nn Ml
theorem Gf:dY Φ Ψ G []:=by intro S X m b a k;rw[Fu.mp k];exact EW
noncomputable def II(Φ:Nat->aU)(Ψ:Nat->Md)(G:Nat->W):CS->Prop
 |.Kl _ b=>dY Φ Ψ G b
 |_=>True
theorem Gg{S:SE}{m:Md}{s:CS}{a:List CS}{st:List Stmt}(k:cH S Ψ m (s::a) st=true):(∃c b,s=.Kl c b/\(a.isEmpty&&(!dz m||!c.contains 0)&&cH (S.lend c) Ψ m b st)=true)\/Cd (λe=>FQ S Ψ m s e) (λes=>cH S Ψ m a es) st=true:=by
 cases s<;>first|exact .inr k|exact .inl ⟨_,_,rfl,k⟩
theorem Cr{s:CS}{c:List CS}(h:c8 Φ Ψ G s/\II Φ Ψ G s)(v:dY Φ Ψ G c):dY Φ Ψ G (s::c):=by
 intro S X m a d k;rcases Gg k with⟨u,b,rfl,o⟩|k
 .obtain⟨n,p⟩:=a2 o;obtain⟨l,f⟩:=a2 n;cases Fu.mp l;have q:dz m=true->aJ S.M 0->aJ (S.lend u).M 0:=by rintro e ⟨g,A⟩;rw[e]at f;exact⟨g,QR.mpr ⟨A,f⟩⟩
  have w:dY Φ Ψ G b:=h.2;exact EY (w (a.Mw _ λi m j y x=>a.FT i m j (nF _ y) (nF _ x)) d p) nF q
 have h:c8 Φ Ψ G s:=h.1;cases d with
 |nil=>exact ff k
 |cons e r=>
  have k:FQ S Ψ m s e=true/\cH S Ψ m c r=true:=a2 k;cases c with
  |nil=>
   have:r=[]:=by have:=k.2;exact Fu.mp this
   subst this;exact EX (h a e k.1)
  |cons t B=>have z:=BG (h a e k.1) (v a r k.2);exact z
theorem MV:c8 Φ Ψ G .yW:=by rintro S X m g e k a s b H D I ⟨A,j,c,d,S,i,hz,h,f⟩;exact Ey h
variable(Φ Ψ G)
mutual
theorem To:∀s:CS,c8 Φ Ψ G s/\II Φ Ψ G s
 |.set i e=>⟨Mz i e,trivial⟩
 |.NN d e=>⟨MA d e,trivial⟩
 |.par d es=>⟨MC d es,trivial⟩
 |.app i e=>⟨MD i e,trivial⟩
 |.oY j e=>⟨Gd j e,trivial⟩
 |.ret e=>⟨MG e,trivial⟩
 |.iff c a b=>⟨Qz c (fU a) (fU b),trivial⟩
 |.NO c b=>⟨MT c (fU b),trivial⟩
 |.fr d one f b=>⟨MU d one f (fU b),trivial⟩
 |.brk=>⟨MS,trivial⟩
 |.Ia i π e=>⟨MM i π e,trivial⟩
 |.Bs i n e=>⟨ML i n e,trivial⟩
 |.Ib e=>⟨MH e,trivial⟩
 |.zZ e=>⟨MF e,trivial⟩
 |.NP c a b=>⟨MI c (fU a) (fU b),trivial⟩
 |.Ph c b=>⟨MJ c (fU b),trivial⟩
 |.Kh i e=>⟨MK i e,trivial⟩
 |.yW=>⟨MV,trivial⟩
 |.Rj i=>⟨ME i,trivial⟩
 |.Rk i k e=>⟨MN i k e,trivial⟩
 |.Pn e=>⟨MR e,trivial⟩
 |.NG i π e=>⟨MO i π e,trivial⟩
 |.Pj i n e=>⟨MP i n e,trivial⟩
 |.Pk c a b=>⟨MQ c (fU a) (fU b),trivial⟩
 |.Kl g b=>⟨λ_ _ k=>(by cases k),fU b⟩
theorem fU:∀a:List CS,dY Φ Ψ G a
 |[]=>Gf
 |s::a=>Cr (To s) (fU a)
end
end
structure Tab(P:Program)(w:World)(K:Frag)(mg:Str->Option Value)(base:Heap)(fn gn zn:List Str)(md:List Md)(mt:List (Nat×Nat))(Φ:Nat->aU)(G:Nat->W)(k:Nat):Prop where
 fns:∀(j:Nat)(x:Str),fn[j]?=some x->mt.any (·.1==j)=false->∃fv n k',mg x=some fv/\bW P w K mg base k' fv n (oZ K n (gj md j) (Φ j))/\k'<=k/\∀ws P R,Φ j ws P R->ws.length=n
 qT:∀(j g:Nat)(x:Str),fn[j]?=some x->(j,g)∈mt->∃f fd ps n k',(∀C,G g=.cls C->Meth K C x f)/\Binds K fd ps []/\bL P w K mg base (iL P w) k' f fd ps (oZ K n (gj md j) (Φ j))/\k'<=k/\∀ws P R,Φ j ws P R->ws.length=n
 Iv:∀(j:Nat)(x:Str),gn[j]?=some x->∃u v,mg x=some u/\RelV v u/\∀B H,Rep K B H (G j) v
 B5:∀x∈zn,mg x=none
 kit:tM K
 Mv:∀j x C,gn[j]?=some x->G j=.cls C->Sk K C
noncomputable def aq(n:Nat)(a:List W):Ev:=a.map some++A0 (n -a.length) none
noncomputable def qz:Md->(W->Prop)->Ev->Prop
 |.s,P,_=>P .aI
 |.io _,P,a=>match look a 0 with
  |some b=>P (.tup [.aI,b])
  |none=>False
 |_,_,_=>False
section
variable{K:Frag}{A:Addr->Prop}{H:Hp}{N:List Str}{ws:List W}{vs:List V}{M:Ms}
theorem iY{i:Nat}{w:W}(a:ws.length<=i)(e:look (aq N.length ws) i=some w):False:=by
 rw[aV]at e;unfold aq at e;rw[IH (by simp;omega),YC]at e;split at e
 .cases e
 .cases e
theorem qu{i:Nat}{w:W}(h:af K A H ws vs)(e:look (aq N.length ws) i=some w):∃v,(start N vs)[i]?=some (some v)/\Rep K A H w v:=by
 have f:=h.len;by_cases a:i<ws.length
 .rw[aV]at e;unfold aq at e;rw[P3 (by simpa using a),Hb]at e;obtain⟨d,c,b⟩:=Kb.mp e;cases b;obtain⟨v,b,r⟩:=h.get c;refine⟨v,?_,r⟩;unfold L2.start;rw[P3 (by simp;lia),Hb,b];rfl
 .exact(iY (by lia) e).elim
theorem Cs(h:af K A H ws vs)(d:Dom A H)(g:∀i m,(i,m)∈M->ws.length<=i)(b:∀i m a,(i,m)∈M->(i,a)∈M->m=a):SR K M ⟨A,A,none⟩ H (start N vs) H (aq N.length ws):=by have f:=h.len;refine⟨by simp[L2.start,aq,f],λi w k e=>qu h e,ao.refl _,d,(λv e=>by cases e),λ_=>[],⟨b,λi m w c e=>(iY (g i m c) e).elim,λ_ _ _=>rfl,λ_ _=>Y1,(λi j p _ _ z=>by cases z),(λi p _ z=>by cases z),(λi p _ z=>by cases z),λp=>⟨.inl,λz=>z.elim id<|by rintro⟨_,_,z⟩;cases z⟩⟩⟩
open Classical in
noncomputable def era(F:List Addr)(H:Hp):Hp:=λp=>if p∈F then none else H p
theorem Ct{F:List Addr}{p:Addr}{o:HO}(h:era F H p=some o):p∉F/\H p=some o:=by
 unfold era at h;split at h
 .cases h
 .exact⟨by assumption,h⟩
theorem Cu{F:List Addr}{p:Addr}(h:era F H p=none):p∈F\/H p=none:=by
 unfold era at h;split at h
 .exact .inl (by assumption)
 .exact .inr h
theorem MW{F:List Addr}{p:Addr}(h:p∈F):era F H p=none:=by unfold era;rw[Do h]
theorem Gh{F:List Addr}{p:Addr}(h:p∉F):era F H p=H p:=by unfold era;rw[Bn h]
theorem Cv{F:List Addr}{k:W}{l:V}{q:Md}(D:F.Nodup)(E:∀p∈F,¬A p)(d:Dom A H)(P:Fp K (λp=>A p\/p∈F) H q k l F)(h:af K (λp=>A p\/p∈F) H ws vs)
 (s:(0,q)∈M)(O:∀i m,(i,m)∈M->i=0\/ws.length+1<=i)(y:∀i m B,(i,m)∈M->(i,B)∈M->m=B)(L:0<N.length):
 SR K M ⟨A,λp=>A p\/p∈F,some l⟩ (era F H) (start N (l::vs)) H (aq N.length (k::ws)):=by
 have I:=h.len;have C:look (aq N.length (k::ws)) 0=some k:=rfl;have zx:(start N (l::vs))[0]?=some (some l):=rfl;have u:∀i,aJ M i->i≠0->∀w,look (aq N.length (k::ws)) i=some w->False:=λi ⟨m,r⟩ n w e=>iY (by rcases O i m r with z|z;exact(n z).elim;simpa using z) e;refine⟨by simp[L2.start,aq,I],λi w g e=>?_,λp o e=>(Ct e).2,d,λv e=>?_,λi=>if i=0 then F else[],⟨y,λi m w r e=>?_,λi g e=>?_,λi g=>?_,λi j p g R a b=>?_,λi p g c=>?_,λi p g c=>?_,λp=>?_⟩⟩
 .cases i with
  |zero=>exact(g ⟨q,s⟩).elim
  |succ i=>
   have Q:look (ws.map some++A0 (N.length -(k::ws).length) none) i=some w:=e;have:look (aq (N.length -1) ws) i=some w:=by unfold aq;rw[show N.length -1 -ws.length=N.length -(k::ws).length by simp;lia];exact Q
   cases N with
   |nil=>cases L
   |cons x N=>obtain⟨v,f,t⟩:=qu (N:=N) h this;refine⟨v,?_,t⟩;unfold L2.start at f⊢;rw[Ha,TV,List.getElem?_cons_succ,show(x::N).length -(l::vs).length=N.length -vs.length by simp];exact f
 .cases e;exact⟨zx,q,s⟩
 .rcases Xt i with rfl|g
  .have:=y 0 m q r s;subst this;rw[C]at e;cases e;exact⟨l,zx,by rw[Do rfl];exact P⟩
  .exact(u i ⟨m,r⟩ (by lia) w e).elim
 .rcases Xt i with rfl|J
  .rw[C]at e;cases e
  .rw[Bn (by lia)]
 .split
  .exact D
  .exact Y1
 .by_cases f:i=0
  .by_cases t:j=0
   .rw[f,t]
   .rw[Bn t]at b;cases b
  .rw[Bn f]at a;cases a
 .by_cases f:i=0
  .rw[Do f]at c;exact MW c
  .rw[Bn f]at c;cases c
 .by_cases f:i=0
  .rw[Do f]at c;exact E p c
  .rw[Bn f]at c;cases c
 .constructor
  .rintro(z|z)
   .exact .inl z
   .exact .inr ⟨0,⟨q,s⟩,by rw[Do rfl];exact z⟩
  .rintro(z|⟨i,g,c⟩)
   .exact .inl z
   .by_cases f:i=0
    .rw[Do f]at c;exact .inr c
    .rw[Bn f]at c;cases c
end
theorem IK{M:Ms}(h:(M.map (·.1)).Nodup):∀i m c,(i,m)∈M->(i,c)∈M->m=c:=by
 induction M with
 |nil=>intro i m c a;cases a
 |cons x M d=>
  obtain⟨j,k⟩:=x;rw[Ha,He]at h;intro i m c a b;rcases Ee.mp a with a|a
  .rcases Ee.mp b with b|b
   .cases a;cases b;rfl
   .cases a;exact(h.1 (KB.mpr ⟨_,b,rfl⟩)).elim
  .rcases Ee.mp b with b|b
   .cases b;exact(h.1 (KB.mpr ⟨_,a,rfl⟩)).elim
   .exact d h.2 i m c a b
section
variable{P:Program}{w:World}{K:Frag}{mg:Str->Option Value}{base:Heap}{x qual:Str}{st:Stmt}{f:Addr}{fd:FuncData}{N ps:List Str}{k:Nat}{fn gn zn:List Str}{md:List Md}{mt:List (Nat×Nat)}{Φ:Nat->aU}{G:Nat->W}
theorem Cw{M:Ms}{b:Value}{A:Around}{a:List Env}{s:Shared}{H:Hp}{E:XK}(t:eY N ps (ak st))(T:Tab P w K mg base fn gn zn md mt Φ G k)(q:ck k (jk P w K mg base N qual (ak st) f b A a s H E).A)(un:∀i m r,(i,m)∈M->(i,r)∈M->m=r):
 vL ⟨N,(ak st).names,M,fn,gn,zn,md,mt⟩ Φ (gj md) G (jk P w K mg base N qual (ak st) f b A a s H E):=
 {hN:=rfl,nd:=t.nd,calm:=rfl,un:=q.units,nk:=λ_=>rfl,
  fns:=λj x e h=>by obtain⟨v,n,p,o,l,d,c⟩:=T.fns j x e h;exact⟨v,n,p,o,l,q.mono d,c⟩
  qT:=λj g x e h=>by obtain⟨f,fd,ps,n,p,o,l,d,c,u⟩:=T.qT j g x e h;exact⟨f,fd,ps,n,p,o,l,d,q.mono c,u⟩
  Dw:=rfl,Iv:=T.Iv,B5:=T.B5,kit:=T.kit,
  bk:=by show(if(ak st).kind.isAnnotationScope then ScopeKind.function else(ak st).kind)=_;rw[t.kind];rfl
  NV:=λ_=>rfl,Mv:=T.Mv,FT:=un}
theorem Cy(F:AX K x qual st f fd)(O:eY N ps (ak st))(T:Tab P w K mg base fn gn zn md mt Φ G k)(b:List CS)(M:Ms)(m:Md)(t:aU)(hM:M.all (λi=>decide (ps.length<=i.1))=true)(hu:(M.map (·.1)).Nodup)(d:dz m=false)
 (g:cH ⟨N,(ak st).names,M,fn,gn,zn,md,mt⟩ (gj md) m b (aS st)=true)(B:∀c P R,t c P R->c.length=ps.length)
 (hp:∀c P R,t c P R->wSs Φ G b ⟨qz m P,P,λ_=>False,λ_=>False,R⟩ (aq N.length c)):bL P w K mg base (iL P w) (k+1) f fd ps (z5 K ps.length m t):=by
 refine AX.Rb F O (by rintro vs H Q E ⟨A,c,P,R,p,o,_⟩;rw[o.len,p]) λcdv A n s H vs Q E hr hz=>?_;obtain⟨U,c,u,R,p,o,h3,h4,L,J⟩:=hz;have y:=IK hu;refine⟨_,fU Φ (gj md) G b (Cw O T hr y) (aS st) g,⟨U,U,none⟩,H,aq N.length c,⟨qz m u,u,λ_=>False,λ_=>False,R⟩,Cs o h3 (λi m hi=>?_) y,⟨E,HV,λC j rc l=>J C j rc l,λe Y S s1 h' a C h I hx q=>wF e Y S s1 h' a C h I hx (J C S q.1 q.2)⟩,(by rw[d];rfl),hp c u R h4,⟨λA' Z X j ea eb D S'=>?_,λw v j hw l r=>?_,λ_ _ _ _ _ _ z=>z.elim,λ_ _ _ _ _ _ z=>z.elim⟩⟩
 .rw[p];exact Ap (HI.mp hM (i,m) hi)
 .cases m with
  |s=>exact L .aI .aI j D S'.sm (.of (by dsimp only[Rep]))
  |io _=>cases d
  |_=>exact D.elim
 .cases m with
  |io _=>cases d
  |_=>exact L w v j hw l r
theorem Gi(F:AX K x qual st f fd)(Sc:eY N ps (ak st))(T:Tab P w K mg base fn gn zn md mt Φ G k)(b:List CS)(M:Ms)(j:Md)(Sf:aU)(hM:M.all (λi=>i.1==0||decide (ps.length<=i.1))=true)(hu:(M.map (·.1)).Nodup)(U:hasB M 0 j=true)(hN:0<N.length)
 (J:cH ⟨N,(ak st).names,M,fn,gn,zn,md,mt⟩ (gj md) (.io j) b (aS st)=true)(hlen:∀h P R,Sf h P R->h.length=ps.length)
 (D:∀h P R,Sf h P R->wSs Φ G b ⟨qz (.io j) P,P,λ_=>False,λ_=>False,R⟩ (aq N.length h)):bL P w K mg base (iL P w) (k+1) f fd ps (PU K ps.length j Sf):=by
 refine AX.Rb F Sc (by rintro vs H Q E ⟨ab,F,O,v0,h,vs',P,R,e,h1,_,_,_,_,h2,_⟩;rw[e,AE,h2.len,h1]) λcdv A outer s H vs Q E hr hz=>?_;obtain⟨ab,F,O,v0,h,vs',P0,R,e,h1,nd,na,d,fp,h2,h4,h5,h6⟩:=hz;subst e;have un:=IK hu;have U:=iB U;have Y:∀{c},ao (era F H) c->qf (·∈F) H c:=λ{c} t p o e=>by
  by_cases E2:p∈F
  .obtain⟨o',e',hm⟩:=Fp.mu j fp p E2;rw[e]at e';cases e';exact .inl ⟨hm,E2⟩
  .exact .inr (t p o (by rw[Gh E2];exact e))
 refine⟨_,fU Φ (gj md) G b (Cw Sc T hr un) (aS st) J,⟨ab,λp=>ab p\/p∈F,some v0⟩,era F H,aq N.length (O::h),⟨qz (.io j) P0,P0,λ_=>False,λ_=>False,R⟩,Cv nd na d fp h2 U (λi m hi=>?_) un hN,⟨E,HV,λC c rc t=>h6 C c rc (Y t),λu σ H1 s1 h' a C L I hx q=>wF u σ H1 s1 h' a C L I hx (h6 C H1 q.1 (Y q.2))⟩,rfl,D _ P0 R h4,⟨λA' n σ' c ea eb l S'=>?_,λw v c hw t r=>?_,λ_ _ _ _ _ _ z=>z.elim,λ_ _ _ _ _ _ z=>z.elim⟩⟩
 .have:=HI.mp hM (i,m) hi;rw[Wp]at this;rcases this with z|z
  .exact .inl (Iy.mp z)
  .exact .inr (by rw[h1];exact Ap z)
 .have l:(match look n 0 with|some O=>P0 (.tup [.aI,O])|none=>False):=l;cases hl:look n 0 with
  |none=>rw[hl]at l;exact l.elim
  |some y=>rw[hl]at l;obtain⟨wr,y',WZ,F',e1,X,Tp,Z,g,S⟩:=rq (v:=.aI) S' U hl ⟨v0,eb⟩ (by dsimp only[Rep]:Rep K A'.B c .aI .aI);cases e1;rw[eb]at X;cases X;rw[ea]at g S Z;exact h5 .aI y .aI F' c l (Y S'.sm) Tp (λp D=>Cu (Z p D).1) g S
 .obtain⟨wr,y,WZ,F',rfl,X,Tp,Z,g,S⟩:=r;cases X;exact h5 wr y v F' c hw (Y t) Tp (λp D=>Cu (Z p D).1) g S
end
end VL
namespace L2
open PySem PySem.Spec PyProof.Rows
abbrev rv(as:List (Addr×Rat)):List V:=as.map λx=>V.ref x.1
section
variable{X:Cx}{H:Hp}
end
end L2
namespace VL
open PySem PySem.Spec
open PyProof.Rows hiding St
open L2
section
variable{K:Frag}{A:Addr->Prop}{H H':Hp}{v:V}{p:Addr}{r:Rat}{rs:List Rat}
end
noncomputable def bK:List aU->Nat->aU
 |[],_=>λ_ _ _=>False
 |x::_,0=>x
 |_::l,n+1=>bK l n
noncomputable def bX:List W->Nat->W
 |[],_=>.aI
 |x::_,0=>x
 |_::l,n+1=>bX l n
section
variable{Q:W->Prop}{l a b:List W}{i j:Int}{x y:Str}{p q:Bool}
theorem x_len:lJ .len [.lst l] Q=Q (.int l.length):=rfl
theorem Ab{c:List Int}:lJ .len [.cY c] Q=Q (.int c.length):=rfl
theorem Aa:lJ .len [.tup l] Q=Q (.int l.length):=rfl
theorem GW:lJ .abs [.int i] Q=Q (.int (if i<0 then-i else i)):=rfl
theorem GX:lJ .max2 [.int i,.int j] Q=Q (.int (if j>i then j else i)):=rfl
theorem GY:lJ .min2 [.int i,.int j] Q=Q (.int (if j<i then j else i)):=rfl
theorem Ac:lJ .list [.lst l] Q=Q (.lst l):=rfl
theorem v5:lJ .list [.tup l] Q=Q (.lst l):=rfl
theorem v7:lJ .tuple [.lst l] Q=Q (.tup l):=rfl
theorem sA:lJ .tuple [.tup l] Q=Q (.tup l):=rfl
theorem GZ:lJ .int [.bl p] Q=Q (.int (if p then 1 else 0)):=rfl
theorem G0:eV .Add (.int i) (.int j) Q=Q (.int (i+j)):=rfl
theorem G3:eV .Add (.lst a) (.lst b) Q=(a.length+b.length<=sizeLine/\Q (.lst (a++b))):=rfl
theorem G4:eV .Sub (.int i) (.int j) Q=Q (.int (i -j)):=rfl
theorem G5:eV .Mult (.int i) (.int j) Q=(IntMulOk i j/\Q (.int (i*j))):=rfl
theorem G6:eV .Mult (.lst a) (.int j) Q=(-(2^63)<=j/\j<2^63/\a.length*j.toNat<=sizeLine/\Q (.lst (A0 j.toNat a).flatten)):=rfl
theorem Ad:eV .FloorDiv (.int i) (.int j) Q=(sR i j/\Q (.int (i.fdiv j))):=rfl
theorem G7:eV .Mod (.int i) (.int j) Q=(j≠0/\Q (.int (i.fmod j))):=rfl
theorem G8:eV .Pow (.int i) (.int j) Q=(uR i j/\Q (.int (i^j.toNat))):=rfl
theorem G9:eV .RShift (.int i) (.int j) Q=(0<=j/\Q (.int (i/2^j.toNat))):=rfl
theorem NZ:dM .Eq (.int i) (.int j) Q=Q (.bl (decide (i=j))):=rfl
theorem N4:dM .NotEq (.int i) (.int j) Q=Q (.bl (!decide (i=j))):=rfl
theorem x_lt:dM .Lt (.int i) (.int j) Q=Q (.bl (decide (i<j))):=rfl
theorem N5:dM .LtE (.int i) (.int j) Q=Q (.bl (decide (i<=j))):=rfl
theorem N6:dM .Gt (.int i) (.int j) Q=Q (.bl (decide (j<i))):=rfl
theorem N7:dM .GtE (.int i) (.int j) Q=Q (.bl (decide (j<=i))):=rfl
theorem Hf:Ie .Lt (.int i) (.int j) Q=Q (.bl (decide (i<j))):=rfl
theorem Hg:Ie .LtE (.int i) (.int j) Q=Q (.bl (decide (i<=j))):=rfl
theorem v8{Q:Bool->Prop}:truth (.bl p) Q=Q p:=rfl
theorem N8:Ig (.lst l) (.int i) Q=∃w,ig l i=some w/\Q w:=rfl
theorem Hi{c:List Int}:Ig (.cY c) (.int i) Q=∃n,ig c i=some n/\Q (.int n):=rfl
theorem Hj{c:List Int}{d e:Option Int}:Rl (.cY c) d e Q=Q (.lst (kh (c.map W.int) d e)):=rfl
theorem Hh:Ig (.tup l) (.int i) Q=∃w,ig l i=some w/\Q w:=rfl
theorem N9{c d:Option Int}:Rl (.lst l) c d Q=Q (.lst (kh l c d)):=rfl
theorem Hl{w:W}{Q:Option Int->Prop}:z3 .aI w Q=Q none:=rfl
theorem Ho{n:Int}{Q:Option Int->Prop}:z3 (.int n) (.int i) Q=Q (some i):=rfl
theorem Hq{n:Nat}{Q:Option Int->Prop}:z3 (.var n) (.int i) Q=Q (some i):=rfl
theorem Hr{o:Operator}{c d:CE}{Q:Option Int->Prop}:z3 (.bin o c d) (.int i) Q=Q (some i):=rfl
theorem v9{Q:List W->Prop}:items (.lst l) Q=Q l:=rfl
theorem sC{Q:List W->Prop}:items (.tup l) Q=Q l:=rfl
theorem Jh{n:Nat}{w:W}{c:Ev}{Q:Ev->Prop}:wT true [n] w c Q=Q (c.set n (some w)):=rfl
theorem Oa{c:List Nat}{d:Ev}{Q:Ev->Prop}:wT false c (.tup l) d Q=(l.length=c.length/\Q (bY d c l)):=by
 cases c<;>rfl
theorem Ht{i j:Nat}{c:Ev}{Q:Ev->Prop}:wT false [i,j] (.tup l) c Q=(l.length=2/\Q (bY c [i,j] l)):=rfl
theorem Hu{i j k:Nat}{c:Ev}{Q:Ev->Prop}:wT false [i,j,k] (.tup l) c Q=(l.length=3/\Q (bY c [i,j,k] l)):=rfl
theorem Ae:lJ .len [.str x] Q=(x.length<=sizeLine/\Q (.int x.length)):=rfl
theorem Af:lJ .int [.str x] Q=∃n,PySem.intText? x=some n/\x.length<=640/\Q (.int n):=rfl
theorem Ag:lJ .str [.int i] Q=(i.natAbs.log2<1920/\Q (.str (toString i))):=rfl
theorem Ah:lJ .str [.str x] Q=Q (.str x):=rfl
theorem Ai:eV .Add (.str x) (.str y) Q=(x.length+y.length<=sizeLine/\Q (.str (x++y))):=rfl
theorem Aj:eV .Mult (.str x) (.int i) Q=(i=3/\x.length<=1000/\Q (.str (tx (x.cps.toList++x.cps.toList++x.cps.toList)))):=rfl
theorem Hv:dM .Eq (.str x) (.str y) Q=Q (.bl (decide (x=y))):=rfl
theorem Hw:dM .NotEq (.str x) (.str y) Q=Q (.bl (!decide (x=y))):=rfl
theorem Hx:dM .In (.str x) (.str y) Q=∃c,x=tx [c]/\Q (.bl (decide (c∈y.cps.toList))):=rfl
theorem Hy:dM .In (.str x) (.lst l) Q=∃c:List Str,l=c.map W.str/\Q (.bl (decide (x∈c))):=rfl
theorem Hz:Ig (.str x) (.int i) Q=(x.length<=sizeLine/\∃c,ig x.cps.toList i=some c/\Q (.str (tx [c]))):=rfl
theorem HA{c d:Option Int}:EA (.str x) c d Q=(x.length<=sizeLine/\Q (.str (tx (oW x.cps.toList c d)))):=rfl
theorem HB{c d:Option Int}:EA (.tup l) c d Q=(¬(HT.bV l.length 0 c=0/\HT.bV l.length l.length d=l.length)/\Q (.tup (kh l c d))):=rfl
theorem HC:Km (.str x) (.str y) (.int i) Q=(0<=i/\i<=x.length/\Q (.bl (y.cps.toList.isPrefixOf (x.cps.toList.drop i.toNat)))):=rfl
theorem HD{C:Addr}{c:List Str}{n:Nat}:Kn n x (.obj C c l) Q=(c[n]?=some x/\∃w,l[n]?=some w/\Q w):=rfl
theorem HF:Bu (.str x) Q=(x.length<=1000/\Q (.str x)):=rfl
theorem HG:Bu (.int i) Q=(i.natAbs.log2<1920/\Q (.str (toString i))):=rfl
theorem HE{k:Nat}{π:List ir}{Q:Option Int->Prop}:z3 (.own k π) (.int i) Q=Q (some i):=rfl
theorem Ak{A B:Prop}:(if true=true then A else B)=A:=rfl
theorem wc{A B:Prop}:(if false=true then A else B)=B:=rfl
end
noncomputable def IL(d:Nat->aU)(G:Nat->W)(c:Bool)(e:List Nat)(b:List CS):W->Dn->Ev->Prop:=λw g a=>wT c e w a λf=>wSs d G b g f
theorem NX{d:Nat->aU}{G:Nat->W}{e:List Nat}{a:Bool}{f:CE}{b:List CS}{D:Dn}{c:Ev}:wS d G (.fr e a f b) D c=wE d G (λ_=>False) f c λz=>items z λg=>fS (IL d G a e b) D g c:=rfl
theorem z8{d:Nat->aU}{G:Nat->W}{e:List Nat}{a:Bool}{b:List CS}{w:W}{D:Dn}{c:Ev}:IL d G a e b w D c=wT a e w c λf=>wSs d G b D f:=rfl
noncomputable def WN{α:Type}(S:α->Ev)(J:α->Prop)(c:α->Nat)(s:α):Ev->Prop:=λa=>∃b,a=S b/\J b/\c b<c s
noncomputable def Tq{α:Type}(S:α->Ev)(J:α->Prop)(d:α->Nat)(b:Dn->Ev->Prop)(D:Dn)(s:α)(k:Bool):Prop:=
 if k=true then∃N:Ev->Prop,(∀a,N a->∃e,e<d s/\∃c,a=S c/\e=d c/\J c)/\b {nx:=N,rt:=D.rt,bk:=D.nx,ct:=N,ex:=λ_=>False} (S s)else D.nx (S s)
theorem rK{α:Type}{S:α->Ev}{J:α->Prop}{a:α->Nat}{b:Dn->Ev->Prop}{D:Dn}{s:α}{k:Bool}(g:k=true->b {nx:=WN S J a s,rt:=D.rt,bk:=D.nx,ct:=WN S J a s,ex:=λ_=>False} (S s))(f:k=false->D.nx (S s)):Tq S J a b D s k:=by
 unfold Tq;cases k with
 |true=>exact⟨_,by rintro c ⟨d,e,j,l⟩;exact⟨_,l,d,e,rfl,j⟩,g rfl⟩
 |false=>exact f rfl
theorem Cz{c:Ev->(Bool->Prop)->Prop}{b:Dn->Ev->Prop}{D:Dn}{a:Ev}{α:Type}(S:α->Ev)(J:α->Prop)(e:α->Nat)(d:α)(h:a=S d)(g:J d)(f:∀s,J s->c (S s) (Tq S J e b D s)):Ko c b D a:=by refine⟨λm a=>∃s,a=S s/\m=e s/\J s,⟨_,d,h,rfl,g⟩,?_⟩;rintro m _ ⟨s,rfl,rfl,j⟩;exact f s j
theorem um{α:Type}(x:α):∀n,(A0 n [x]).flatten=A0 n x
 |0=>rfl
 |n+1=>by rw[Er,HU,um x n];rfl
theorem ay{n:Nat}(h:n<=1000):n<=sizeLine:=GE h (by decide)
theorem CA(K:Frag):tM K:=by intro a d b c;simp only[Ee,PH,W1]at d c;rcases d with rfl|rfl|rfl|rfl|rfl|rfl<;>rcases c with rfl|rfl|rfl|rfl|rfl|rfl<;>rfl
end VL
namespace lF
open L2 PySem VL
noncomputable def CB(x:List Nat):W:=.tup [.str "name",.str (tx x)]
noncomputable def MX(n:Nat):W:=.tup [.str "number",.int n]
noncomputable def rL(n:Nat):W:=.tup [.str "power",.int n]
noncomputable def pG:W:=.tup [.str "minus",.int 0]
noncomputable def vN(o:Nat):W:=.tup [.str (tx [o]),.int 0]
noncomputable def isLet(c:Nat):Prop:=97<=c/\c<=122
noncomputable def iO(c:Nat):Prop:=48<=c/\c<=57
inductive G:Nat->Nat->List Nat->List W->Prop where
 |sum {d:Nat} {a r:List Nat} {sa sr:List W} (h:G 1 d a sa) (k:G 4 d r sr):G 0 d (a++r) (sa++sr)
 |term {d:Nat} {a r:List Nat} {sa sr:List W} (h:G 2 d a sa) (k:G 5 d r sr):G 1 d (a++r) (sa++sr)
 |n4 {d:Nat}:G 4 d [] []
 |n5 {d:Nat}:G 5 d [] []
 |c4 {d o:Nat} {a r:List Nat} {sa sr:List W} (ho:o=43\/o=45) (h:G 1 d a sa) (k:G 4 d r sr):G 4 d (32::o::32::(a++r)) (sa++(vN o::sr))
 |c5 {d o:Nat} {a r:List Nat} {sa sr:List W} (ho:o=42\/o=47) (h:G 2 d a sa) (k:G 5 d r sr):G 5 d (32::o::32::(a++r)) (sa++(vN o::sr))
 |Gj {d k:Nat} {a:List Nat} {sa:List W} (hk:k<=30) (h:G 3 d a sa):G 2 d (A0 k 45++a) (sa++A0 k pG)
 |uo {d k e:Nat} {a:List Nat} {sa:List W} (hk:k<=30) (he:e<=12) (h:G 3 d a sa):G 2 d (A0 k 45++(a++94::dg e)) (sa++rL e::A0 k pG)
 |name {d:Nat} {x:List Nat} (h1:x≠[]) (h2:x.length<=8) (h3:∀c∈x,isLet c):G 3 d x [CB x]
 |num {d n:Nat} (h:n<10^30):G 3 d (dg n) [MX n]
 |brk {d d':Nat} {a:List Nat} {sa:List W} (h:G 0 d a sa) (hd:d<d'):G 3 d' (40::(a++[41])) sa
theorem G.head{l d:Nat}{s:List Nat}{st:List W}(h:G l d s st):(l=3->∃c r,s=c::r/\(isLet c\/iO c\/c=40)):=by
 induction h with
 |name b f a=>
  rename_i d x
  intro _;cases x with
  |nil=>exact absurd rfl b
  |cons c r=>exact⟨c,r,rfl,.inl (a c Bi)⟩
 |num h=>
  rename_i d n
  intro _;cases e:dg n with
  |nil=>exact absurd e (m7 n)
  |cons c r=>exact⟨c,r,rfl,.inr (.inl (j7 n c (by rw[e];exact Bi)))⟩
 |brk h hd=>exact λ_=>⟨_,_,rfl,.inr (.inr rfl)⟩
 |_=>intro z;cases z
theorem G.mono{l d:Nat}{s:List Nat}{st:List W}(h:G l d s st):∀{d':Nat},d<=d'->G l d' s st:=by
 induction h with
 |sum _ _ i j=>exact λq=>.sum (i q) (j q)
 |term _ _ i j=>exact λq=>.term (i q) (j q)
 |n4=>exact λ_=>.n4
 |n5=>exact λ_=>.n5
 |c4 a _ _ i j=>exact λq=>.c4 a (i q) (j q)
 |c5 a _ _ i j=>exact λq=>.c5 a (i q) (j q)
 |Gj b _ i=>exact λq=>.Gj b (i q)
 |uo b c _ i=>exact λq=>.uo b c (i q)
 |name g f e=>exact λ_=>.name g f e
 |num h=>exact λ_=>.num h
 |brk h hd _=>exact λq=>.brk h (FR hd q)
theorem G.IM{d o:Nat}{r b:List Nat}{c e:List W}(k:o=43\/o=45)(g:G 1 d b e)(h:G 4 d r c):G 4 d (r++(32::o::32::b)) (c++(e++[vN o])):=by
 generalize f:4=l at h
 induction h with
 |n4=>have:=G.c4 k g .n4;rw[Kt]at this;exact this
 |c4 a m n i j=>have:=G.c4 a m (j g f);simpa using this
 |_=>cases f
theorem G.IP{d o:Nat}{r b:List Nat}{c e:List W}(k:o=42\/o=47)(g:G 2 d b e)(h:G 5 d r c):G 5 d (r++(32::o::32::b)) (c++(e++[vN o])):=by
 generalize f:5=l at h
 induction h with
 |n5=>have:=G.c5 k g .n5;rw[Kt]at this;exact this
 |c5 a m n i j=>have:=G.c5 a m (j g f);simpa using this
 |_=>cases f
theorem G.xN{d:Nat}{s:List Nat}{st:List W}(h:G 3 d s st):G 2 d s st:=by simpa using G.Gj (k:=0) (by omega) h
theorem G.oO{d:Nat}{s:List Nat}{st:List W}(h:G 2 d s st):G 1 d s st:=by simpa using G.term h .n5
theorem G.up1{d:Nat}{s:List Nat}{st:List W}(h:G 1 d s st):G 0 d s st:=by simpa using G.sum h .n4
theorem G.ne{l d:Nat}{s:List Nat}{st:List W}(h:G l d s st):l<4->s≠[]:=by
 induction h with
 |sum _ _ i _=>exact λ_ e=>i (by omega) (P2.mp e).1
 |term _ _ i _=>exact λ_ e=>i (by omega) (P2.mp e).1
 |Gj _ _ i=>exact λ_ e=>i (by omega) (P2.mp e).2
 |uo _ _ _ i=>exact λ_ e=>i (by omega) (P2.mp (P2.mp e).2).1
 |name a _ _=>exact λ_=>a
 |num h=>exact λ_=>m7 _
 |brk _ _ _=>exact λ_ e=>by cases e
 |_=>intro z;omega
end lF
namespace VL
open PySem PySem.Spec
open PyProof.Rows hiding St
open L2
noncomputable def Hd(K:Frag)(x:Str)(st:Stmt):Prop:=∃(f:Addr)(d i:Option Addr)(b:Array (Option Value))(e kV g c a h:Value),
 nsIn K mainGlobals x=some (some (.ref f))/\K.lookup f=some ⟨e,d,.func (fnOf x x (bN st) (aS st) (ak st) .none kV g c i a h),b⟩/\codeIn K a x=true/\keepIn K (.ref f)=true
noncomputable def Hm(K:Frag)(C:Addr)(x q:Str)(st:Stmt):Prop:=∃(f:Addr)(d i:Option Addr)(b:Array (Option Value))(e kV g c a h:Value),
 findIn K (.ref C) x=some (some (.ref f))/\isFn K (.ref f)=true/\K.lookup f=some ⟨e,d,.func (fnOf x q (bN st) (aS st) (ak st) .none kV g c i a h),b⟩/\codeIn K a q=true/\keepIn K (.ref f)=true
structure Df(K:Frag)(mg:Str->Option Value)(x:Str)(st:Stmt)(ps:List Str)(f:Addr)(fd:FuncData):Prop where
 F:AX K x x st f fd
 m:mg x=some (.ref f)
 b:Binds K fd ps []
 bt:∀(s:Shared)(us:List Value),us.length=ps.length->BindsTo s fd ⟨us,[]⟩ (ps.zip us)
structure Dm(K:Frag)(C:Addr)(x q:Str)(st:Stmt)(ps:List Str)(f:Addr)(fd:FuncData):Prop where
 F:AX K x q st f fd
 M:Meth K C x f
 b:Binds K fd ps []
abbrev gp(x q:Str)(st:Stmt)(ps:List Str):Prop:=∀(kV doc pm:Value)(an:Option Addr)(cdv ct:Value)(us:List Value),us.length=ps.length->bindArgs (fnOf x q (bN st) (aS st) (ak st) .none kV doc pm an cdv ct) ⟨us,[]⟩=pure (ps.zip us)
theorem pH{α:Type}{l:List α}{n:Nat}(h:l.length=n+1):∃a r,l=a::r/\r.length=n:=by
 cases l with
 |nil=>cases h
 |cons a r=>exact⟨a,r,rfl,TU h⟩
theorem QA{K:Frag}{h:Heap}{d:Str->Option Value}{x:Str}{st:Stmt}{ps:List Str}(X:K.In h)(G:h.Ns mainGlobals d)(hd:Hd K x st)(b:gp x x st ps):∃f j,Df K d x st ps f j:=by obtain⟨f,r,p,q,t,kV,m,g,o,n,a,l,c,k⟩:=hd;have F:=AY (st:=st) l c k;exact⟨f,_,F,OF X G a,F.binds b,λs e i=>.of_eq (b kV m g p o n e i)⟩
theorem gy{K:Frag}{C:Addr}{x q:Str}{st:Stmt}{ps:List Str}(hd:Hm K C x q st)(b:gp x q st ps):∃f d,Dm K C x q st ps f d:=by obtain⟨f,h,p,e,j,kV,m,g,o,n,a,i,l,c,k⟩:=hd;have F:=AY (st:=st) l c k;exact⟨f,_,F,⟨a,i,k⟩,F.binds b⟩
structure Hc(K:Frag)(mg:Str->Option Value)(x:Str)(C:Addr)(fs:List Str):Prop where
 c:mg x=some (.ref C)
 ok:oX K C fs
 Vl:makesIn K C=true
 kp:keepIn K (.ref C)=true
theorem vO{K:Frag}{H:Hp}{a:Addr}{b:List Int}(d:AV H)(c:iP K H a (b.map V.int)):Rep K (λ_=>False) H (.cY b) (.ref a):=by
 refine⟨a,rfl,?_⟩;rcases c with(h|⟨o,h⟩)|h
 .rcases d a with z|⟨o,e,z⟩
  .rw[z]at h;cases h
  .rw[z]at h;cases h
 .exact .inl ⟨o,h⟩
 .exact .inr (.inr h)
noncomputable def MY:aU:=λb Q _=>∃a:List Int,b=[.cY a]/\a.length<=63/\Q (.bl true)
noncomputable def xO(K:Frag):Sp:=λc H Q _=>∃(a:Addr)(b:List Int),c=[.ref a]/\AV H/\iP K H a (b.map V.int)/\b.length<=63/\∀d,Q (.bl true) d
theorem MZ{P:Program}{w:World}{K:Frag}{c:Str->Option Value}{base:Heap}{k:Nat}{f:Addr}{d:FuncData}{x:Str}(F:bL P w K c base (iL P w) k f d [x] (z5 K 1 .s MY)):bL P w K c base O5 k f d [x] (xO K):=by refine(bL.O7 F).imp λm H Q E ⟨a,b,e,j,i,h,q⟩=>?_;subst e;refine⟨λ_=>False,[.cY b],λw=>w=.bl true,λ_=>False,rfl,.cons (vO j i) .nil,λ_ z=>z.elim,⟨b,rfl,h,rfl⟩,λw v l g _ r=>?_,λ_ _ z=>z.elim⟩;subst g;have r:=r.aO;dsimp only[Rep]at r;subst r;exact q l
theorem walk{l:PySem.W.OpenLaw}{q:Program}{b:List Str}{B:(Str->Option Value)->Heap->Prop}{m:World->Heap->Prop}{d:DefRec}{K:Params->Frag}{k:Nat}(r:l.most=some 63)(g:d.params.defaults=[])(p:ck k callerA)(C:importsNone q=true)(e:l.prog.given.tree=none)
 (v:∀(w:World)(h:Heap),m w h->(K w.params).In h)
 (F:∀(w:World)(c:Str->Option Value)(j:Addr)(h:Heap),(K w.params).In h->h.Ns mainGlobals c->c d.name=some (.ref j)->
   ∃i:FuncData,(∀(s:Shared)(u:Value),BindsTo s i ⟨[u],[]⟩ [("_law_script",u)])/\∀base:Heap,(K w.params).In base->base.Ns mainGlobals c->bL l.prog w (K w.params) c base O5 k j i ["_law_script"] (xO (K w.params))):
 PySem.W.WalkO q b B m l.row.toRowW d [] (λf us=>PySem.call f us):=
 L2.Ej (n:=63) (k:=k) (x:="_law_script") (CX:=λ_=>O5) (sp:=λw=>xO (K w.params)) r (by decide) g p C e v F (λ_ _ a o t A y=>⟨a,o,rfl,A,y,t,λ_=>rfl⟩) λ_ _ _ _ _ z=>z
noncomputable def QB:aU:=λ_ _ _=>False
theorem QC{P:Program}{w:World}{K:Frag}{d:Str->Option Value}{base:Heap}{k n:Nat}{f:Addr}{e:FuncData}{ps:List Str}:bL P w K d base (iL P w) k f e ps (oZ K n .s QB):=
 ⟨by rintro c H Q E ⟨_,_,_,_,_,_,_,z,_⟩;exact z.elim,by rintro A a s H b g c Q E h j i r ⟨_,_,_,_,_,_,_,z,_⟩;exact z.elim⟩
theorem Df.iZ{P:Program}{w:World}{K:Frag}{d:Str->Option Value}{base:Heap}{x:Str}{st:Stmt}{ps:List Str}{f:Addr}{h:FuncData}{k n:Nat}{m:Md}{sp:aU}(D:Df K d x st ps f h)(F:bL P w K d base (iL P w) k f h ps (oZ K n m sp))(j:n=ps.length)(i:∀a P R,sp a P R->a.length=n){e:Nat}(l:k<=e):
 ∃g n c,d x=some g/\bW P w K d base c g n (oZ K n m sp)/\c<=e/\∀a P R,sp a P R->a.length=n:=by
 subst j;exact⟨_,_,k,D.m,.fn D.F.kp D.b F,l,i⟩
end VL
namespace VL
open PySem PySem.Spec
open PyProof.Rows hiding St
open L2 Num
abbrev aZ(m:Md)(P:W->Prop)(R:Addr->Prop):Dn:=⟨qz m P,P,λ_=>False,λ_=>False,R⟩
noncomputable def wI(a:List Int):W:=.lst (a.map W.int)
theorem iC{b:W->Dn->Ev->Prop}{D:Dn}{d:List W}{a:Ev}(J:Nat->Ev->Prop)(m:J 0 a)(l:∀i w a N,d[i]?=some w->J i a->(∀c,J (i+1) c->N c)->b w ⟨N,D.rt,D.nx,N,λ_=>False⟩ a)(he:∀a,J d.length a->D.nx a):fS b D d a:=by
 have:∀k i a,i+k=d.length->J i a->fS b D (d.drop i) a:=by
  intro k
  induction k with
  |zero=>intro i a e j;rw[List.drop_of_length_le (by lia),fS];exact he a (by rw[<-e];exact j)
  |succ k h=>
   intro i a e j;have f:i<d.length:=by lia
   rw[PQ f,fS];exact l i _ a _ (Dx f) j λc g=>h (i+1) c (by lia) g
 exact this d.length 0 a (by lia) m
theorem dj{x y:Int}{n m:Nat}(h:x.natAbs<2^n)(b:y.natAbs<2^m)(a:n+m<=134217728):IntMulOk x y:=ve (GE (Nat.add_le_add (bits_le h) (bits_le b)) a)
theorem gU{y:Int}{n:Nat}(h:y.natAbs<2^n)(a:n<=8000):y.natAbs.log2<1000000000:=by
 rcases Xt y.natAbs with e|e
 .rw[e];decide
 .have:=(Rw (Nz e)).mpr h;lia
theorem CC{n i:Nat}{w:W}(h:(gi 0 1 n)[i]?=some w):i<n/\w=.int i:=by unfold gi at h;rw[Hb]at h;obtain⟨j,e,rfl⟩:=Kb.mp h;obtain⟨b,a⟩:=GT.mp e;rw[List.getElem_range]at a;rw[TJ]at b;refine⟨b,?_⟩;rw[<-a];simp
theorem xP(n:Nat):(gi 0 1 n).length=n:=by unfold gi;simp
theorem fm{x:Int}{n:Int}(a:0<n):0<=x.fmod n/\x.fmod n<n:=⟨Int.fmod_nonneg_of_pos x a,Int.fmod_lt_of_pos x a⟩
theorem aM{b:Nat->aU}{G:Nat->W}{s t:CS}{d:List CS}{D:Dn}{c:Ev}(J:Ev->Prop)(f:∀N:Ev->Prop,(∀a,J a->N a)->wS b G s {D with nx:=N} c)(e:∀a,J a->wSs b G (t::d) D a):wSs b G (s::t::d) D c:=f _ e
end VL
namespace L2
open PySem
end L2
namespace VL
open PySem PySem.Spec
open PyProof.Rows hiding St
open L2 Num
end VL
namespace L2
open PySem
end L2
namespace VL
open PySem PySem.Spec
open PyProof.Rows hiding St
open L2 Num
structure Vm(A B fA fB:List Int)(ld h:Int)(N E:Nat):Prop where
 l2:2<=B.length
 Yv:B.length<=A.length
 Yw:A.length<=15
 lf:fA.length<=40
 Wt:fB.length<=40
 bA:∀x∈A,x.natAbs<2^N
 bB:∀x∈B,x.natAbs<2^N
 Yx:∀x∈fA,x.natAbs<2^N
 Yy:∀x∈fB,x.natAbs<2^N
 bl:ld.natAbs<2^N
 bh:h.natAbs<2^N
 hN:N<=5000
 hE:E<=12000
 k0:ld*h^(A.length -B.length)≠0
 kE:(ld*h^(A.length -B.length)).natAbs<=2^E
 h0:0<A.length -B.length->h^(A.length -B.length -1)≠0/\(h^(A.length -B.length -1)).natAbs<=2^E
noncomputable def IQ(x:Addr)(H H':Hp):Prop:=∀b o,b≠x->H b=some o->H' b=some o
theorem xQ{K:Frag}{A:Addr->Prop}{H:Hp}(i:Int):Rep K A H (.int i) (.int i):=by dsimp only[Rep]
end VL
namespace VL
open PySem PySem.Spec
open PyProof.Rows hiding St
open L2
noncomputable def Tt(P:Program)(w:World)(K:Frag)(a:Str->Option Value)(base:Heap)(k:Nat):List Str->List Md->List aU->Prop
 |x::fn,m::e,S::Ss=>(∃d n c,a x=some d/\bW P w K a base c d n (oZ K n m S)/\c<=k/\∀b P R,S b P R->b.length=n)/\Tt P w K a base k fn e Ss
 |[],_,_=>True
 |_,_,_=>False
theorem CD{P:Program}{w:World}{K:Frag}{b:Str->Option Value}{base:Heap}{k:Nat}:∀{fn:List Str}{a:List Md}{Ss:List aU},Tt P w K b base k fn a Ss->∀(j:Nat)(x:Str),fn[j]?=some x->∃f n d,b x=some f/\bW P w K b base d f n (oZ K n (gj a j) (bK Ss j))/\d<=k/\∀c P R,bK Ss j c P R->c.length=n
 |y::fn,m::a,S::Ss,h,0,x,e=>by
  cases e;exact h.1
 |y::fn,m::a,S::Ss,h,j+1,x,e=>CD (fn:=fn) h.2 j x e
 |[],_,_,_,j,x,e=>by cases e
 |_::_,[],_,h,_,_,_=>h.elim
 |_::_,_::_,[],h,_,_,_=>h.elim
noncomputable def i6(st:Stmt):List Str:=(bN st).args.map (·.arg)
noncomputable def Tu:NameKind->Bool
 |.local=>true
 |.cell=>true
 |_=>false
noncomputable def IS(st:Stmt):List Str:=((ak st).names.filter λy=>Tu y.2).map (·.1)
abbrev DT:=List (Str×Nat)
noncomputable def rM(DD:DT)(j:Nat):Str:=match DD[j]? with
 |some y=>y.1
 |none=>""
noncomputable def Gk(K:Frag)(a:Nat->Stmt):DT->Prop
 |[]=>True
 |(x,i)::l=>(Hd K x (a i)/\gp x x (a i) (i6 (a i)))/\Gk K a l
noncomputable def Gm(K:Frag):List Str->Prop
 |[]=>True
 |x::l=>nsIn K mainGlobals x=some none/\Gm K l
structure TT(K:Frag)(mg:Str->Option Value)(tp:Nat->Stmt)(DD:DT)(ZZ:List Str)where
 f:Nat->Addr
 d:Nat->FuncData
 D:∀{j:Nat}{x:Str}{i:Nat},DD[j]?=some (x,i)->Df K mg x (tp i) (i6 (tp i)) (f j) (d j)
 Z:∀x∈ZZ,mg x=none
section
variable{P:Program}{w:World}{K:Frag}{mg:Str->Option Value}{base:Heap}{tp:Nat->Stmt}{DD:DT}{ZZ:List Str}
theorem xR{h:Heap}(X:K.In h)(G:h.Ns mainGlobals mg):∀{DD:DT}{j:Nat}{x:Str}{i:Nat},Gk K tp DD->DD[j]?=some (x,i)->∃f a,Df K mg x (tp i) (i6 (tp i)) f a
 |(y,n)::DD,0,x,i,h,e=>by
  cases e;exact QA X G h.1.1 h.1.2
 |(y,n)::DD,j+1,x,i,h,e=>xR X G (DD:=DD) h.2 e
theorem xS{h:Heap}(X:K.In h)(G:h.Ns mainGlobals mg):∀{ZZ:List Str},Gm K ZZ->∀x∈ZZ,mg x=none
 |y::ZZ,h,x,a=>by
  rcases Ee.mp a with e|a
  .rw[e];exact PySem.W.mg_none_of X G h.1
  .exact xS X G h.2 x a
open Classical in
theorem QD{h:Heap}(X:K.In h)(G:h.Ns mainGlobals mg)(a:Gk K tp DD)(z:Gm K ZZ):Nonempty (TT K mg tp DD ZZ):=by
 have H:∀j:Nat,∃f b,∀x i,DD[j]?=some (x,i)->Df K mg x (tp i) (i6 (tp i)) f b:=λj=>by
  cases e:DD[j]? with
  |none=>exact⟨0,fnOf "" "" (bN (tp 0)) (aS (tp 0)) (ak (tp 0)) .none .none .none .none none .none .none,λx i q=>nn q⟩
  |some y=>obtain⟨f,b,D⟩:=xR X G a e;exact⟨f,b,λx i q=>by cases q;exact D⟩
 exact⟨⟨λj=>choose (H j),λj=>choose (choose_spec (H j)),λ{j x i} e=>choose_spec (choose_spec (H j)) x i e,xS X G z⟩⟩
noncomputable def Cl(P:Program)(w:World)(K:Frag)(mg:Str->Option Value)(base:Heap)(DD:DT)(k j:Nat)(m:Md)(S:aU):Prop:=∃c n b,mg (rM DD j)=some c/\bW P w K mg base b c n (oZ K n m S)/\b<=k/\∀a P R,S a P R->a.length=n
noncomputable def zy(P:Program)(w:World)(K:Frag)(mg:Str->Option Value)(base:Heap)(DD:DT):List (Nat×Md×Nat)->List aU->Prop
 |(j,m,k)::iZ,S::Ss=>Cl P w K mg base DD k j m S/\zy P w K mg base DD iZ Ss
 |[],_=>True
 |_::_,[]=>False
theorem xT{k:Nat}:∀{a:List (Nat×Md×Nat)}{Ss:List aU},zy P w K mg base DD a Ss->a.all (λy=>decide (y.2.2<=k))=true->Tt P w K mg base k (a.map λy=>rM DD y.1) (a.map (·.2.1)) Ss
 |(j,m,k')::a,S::Ss,h,hk=>by rw[AU,AC]at hk;obtain⟨f,n,k2,e,d,c,b⟩:=h.1;exact⟨⟨f,n,k2,e,d,GE c (Ap hk.1),b⟩,xT h.2 hk.2⟩
 |[],_,_,_=>trivial
 |_::_,[],h,_=>h.elim
noncomputable def Gn(K:Frag)(mg:Str->Option Value)(x:Str)(u:W):Prop:=(∃v z,mg x=some v/\RelV z v/\∀B H,Rep K B H u z)/\∀C,u=.cls C->Sk K C
noncomputable def M0(K:Frag)(mg:Str->Option Value):List Str->List W->Prop
 |x::gn,u::Gs=>Gn K mg x u/\M0 K mg gn Gs
 |[],_=>True
 |_::_,[]=>False
theorem nQ{x:Str}{i:Int}(h:∃u,mg x=some u/\RelV (.int i) u):Gn K mg x (.int i):=by obtain⟨u,b,a⟩:=h;exact⟨⟨u,_,b,a,λ_ _=>by dsimp only[Rep]⟩,λC e=>by cases e⟩
theorem nR:∀{gn:List Str}{Gs:List W},M0 K mg gn Gs->∀(j:Nat)(x:Str),gn[j]?=some x->Gn K mg x (bX Gs j)
 |y::gn,u::Gs,h,0,x,e=>by
  cases e;exact h.1
 |y::gn,u::Gs,h,j+1,x,e=>nR (gn:=gn) h.2 j x e
 |_::_,[],h,_,_,_=>h.elim
 |[],_,_,_,_,e=>by cases e
theorem QE{k:Nat}{a:List (Nat×Md×Nat)}{Ss:List aU}{gn:List Str}{Gs:List W}(T:TT K mg tp DD ZZ)(h:zy P w K mg base DD a Ss)(b:a.all (λy=>decide (y.2.2<=k))=true)(g:M0 K mg gn Gs):Tab P w K mg base (a.map λy=>rM DD y.1) gn ZZ (a.map (·.2.1)) [] (bK Ss) (bX Gs) k:=
 ⟨λj x e _=>CD (xT h b) j x e,λ_ _ _ _ h=>(by cases h),λj x e=>(nR g j x e).1,T.Z,CA K,λj x C e q=>(nR g j x e).2 C q⟩
noncomputable def zA(ZZ:List Str)(st:Stmt)(np n:Nat)(M:Ms)(fn gn:List Str)(a:List Md)(b:List (Nat×Nat))(m:Md)(c:List CS):Bool:=
 decide (((ak st).kind=.function/\(ak st).isCoroutine=false/\(ak st).isGenerator=false/\(IS st).Nodup/\(IS st).take (i6 st).length=i6 st)/\(∀x∈i6 st,(ak st).names.lookup x=some .local\/(ak st).names.lookup x=some .cell)/\(∀y∈(ak st).names,y.2≠.free)/\(i6 st).length=np/\(IS st).length=n/\(M.map (·.1)).Nodup)&&(M.all (λi=>decide (np<=i.1))&&!dz m&&cH ⟨IS st,(ak st).names,M,fn,gn,ZZ,a,b⟩ (gj a) m c (aS st))
theorem QF{np n j i:Nat}{x:Str}{M:Ms}{fn gn:List Str}{l:List Md}{h:List (Nat×Nat)}{m:Md}{c:List CS}{g:Nat->aU}{G:Nat->W}{k:Nat}{S:aU}(T:TT K mg tp DD ZZ)(r:DD[j]?=some (x,i))(e:zA ZZ (tp i) np n M fn gn l h m c=true)(o:Tab P w K mg base fn gn ZZ l h g G k)(q:∀a P R,S a P R->a.length=np)(p:∀a Q R,S a Q R->wSs g G c (aZ m Q R) (aq n a)):
 bL P w K mg base (iL P w) (k+1) (T.f j) (T.d j) (i6 (tp i)) (oZ K np m S):=by
 unfold zA at e;rw[AC,AC,AC]at e;obtain⟨v,⟨u,t⟩,s⟩:=e;obtain⟨⟨I,a2,a3,H,E⟩,C,B,z,y,A⟩:=Ap v;have b:dz m=false:=by simpa using t
 subst z y;have:=Cy (T.D r).F ⟨I,a2,a3,H,E,C,B⟩ o c M m S u A b s q p;cases m<;>first|exact this|cases b
theorem CF{np j i k:Nat}{x:Str}{m:Md}{S:aU}(T:TT K mg tp DD ZZ)(b:DD[j]?=some (x,i))(c:np=(i6 (tp i)).length)(F:bL P w K mg base (iL P w) k (T.f j) (T.d j) (i6 (tp i)) (oZ K np m S))(g:∀a P R,S a P R->a.length=np):Cl P w K mg base DD k j m S:=by
 have e:rM DD j=x:=by unfold rM;rw[b]
 unfold Cl;rw[e];exact(T.D b).iZ F c g (DL k)
theorem vP{np n:Nat}{st:Stmt}{M:Ms}{fn gn:List Str}{b:List Md}{a:List (Nat×Nat)}{m:Md}{c:List CS}(h:zA ZZ st np n M fn gn b a m c=true):np=(i6 st).length:=by unfold zA at h;rw[AC]at h;exact(Ap h.1).2.2.2.1.symm
theorem Tv{n j i:Nat}{x:Str}{Gs:List W}{m:Md}{c:List CS}{Ss:List aU}{k:Nat}{S:aU}(T:TT K mg tp DD ZZ)(o:DD[j]?=some (x,i))(np:Nat)(M:Ms)(b:List (Nat×Md×Nat))(gn:List Str)(p:∀a Q R,S a Q R->wSs (bK Ss) (bX Gs) c (aZ m Q R) (aq n a))(h:zy P w K mg base DD b Ss)(g:M0 K mg gn Gs)(e:(b.all (λy=>decide (y.2.2<=k))&&zA ZZ (tp i) np n M (b.map λy=>rM DD y.1) gn (b.map (·.2.1)) [] m c)=true)(l:∀a P R,S a P R->a.length=np):bL P w K mg base (iL P w) (k+1) (T.f j) (T.d j) (i6 (tp i)) (oZ K np m S):=by rw[AC]at e;exact QF T o e.2 (QE T h e.1 g) l p
theorem zB{n j i:Nat}{x:Str}{Gs:List W}{m:Md}{c:List CS}{Ss:List aU}{k:Nat}{S:aU}(T:TT K mg tp DD ZZ)(f:DD[j]?=some (x,i))(np:Nat)(M:Ms)(b:List (Nat×Md×Nat))(gn:List Str)(p:∀a Q R,S a Q R->wSs (bK Ss) (bX Gs) c (aZ m Q R) (aq n a))(h:zy P w K mg base DD b Ss)(g:M0 K mg gn Gs)(d:(b.all (λy=>decide (y.2.2<=k))&&zA ZZ (tp i) np n M (b.map λy=>rM DD y.1) gn (b.map (·.2.1)) [] m c)=true)(e:∀a P R,S a P R->a.length=np):Cl P w K mg base DD (k+1) j m S:=by have F:=Tv T f np M b gn p h g d e;rw[AC]at d;exact CF T f (vP d.2) F e
theorem zC{n j i:Nat}{x:Str}{m:Md}{c:List CS}{Ss:List aU}{k:Nat}{S:aU}(T:TT K mg tp DD ZZ)(f:DD[j]?=some (x,i))(np:Nat)(M:Ms)(b:List (Nat×Md×Nat))(p:∀a Q R,S a Q R->wSs (bK Ss) (bX []) c (aZ m Q R) (aq n a))(h:zy P w K mg base DD b Ss)(e:(b.all (λy=>decide (y.2.2<=k))&&zA ZZ (tp i) np n M (b.map λy=>rM DD y.1) [] (b.map (·.2.1)) [] m c)=true)(d:∀a P R,S a P R->a.length=np):Cl P w K mg base DD (k+1) j m S:=zB T f np M b [] p h trivial e d
theorem rN{n j i:Nat}{x:Str}{m:Md}{c:List CS}{S:aU}(T:TT K mg tp DD ZZ)(e:DD[j]?=some (x,i))(np:Nat)(M:Ms)(p:∀a Q R,S a Q R->wSs (bK []) (bX []) c (aZ m Q R) (aq n a))(d:zA ZZ (tp i) np n M [] [] [] [] m c=true)(b:∀a P R,S a P R->a.length=np):Cl P w K mg base DD 1 j m S:=zB (k:=0) T e np M [] [] p trivial trivial d b
theorem QG{k j i np:Nat}{x:Str}(T:TT K mg tp DD ZZ)(b:DD[j]?=some (x,i))(a:np=(i6 (tp i)).length):Cl P w K mg base DD k j .s QB:=CF T b a QC λ_ _ _ z=>z.elim
end
end VL
namespace VL
open PySem PySem.Spec
open PyProof.Rows hiding St
open L2 lF
abbrev FS:List Str:=["text","place","brackets","steps"]
abbrev xU:Md:=.o FS [.s,.s,.s,.f]
abbrev Vn:Md:=.o FS [.s,.s,.s,.s]
abbrev Ob(C:Addr)(t:List Nat)(p b:Nat)(w:W):W:=.obj C FS [.str (tx t),.int (p:Nat),.int (b:Nat),w]
abbrev cText:CE:=.own 0 [.fl 0 "text"]
abbrev dZ:CE:=.own 0 [.fl 1 "place"]
abbrev M1:CE:=.own 0 [.fl 2 "brackets"]
abbrev nS:List ir:=[.fl 3 "steps"]
noncomputable def bx(C:Addr):aU:=λa Q _=>∃(t y:List Nat)(p b:Nat)(w:W),a=[Ob C t p b w,.str (tx y)]/\p<=t.length/\Q (.tup [.bl (y.isPrefixOf (t.drop p)),Ob C t p b w])
noncomputable def iD:List CS:=[.Ib (.NJ cText (.var 1) dZ)]
theorem zD{C:Addr}{c:Nat->aU}{G:Nat->W}{m:Md}(a:List W)(Q:W->Prop)(R:Addr->Prop)(h:bx C a Q R):wSs c G iD (aZ m Q R) (aq 2 a):=by obtain⟨t,y,p,b,w,rfl,e,d⟩:=h;show wSs _ _ iD _ [some _,some _];unfold iD;fin2;refine⟨rfl,by omega,by omega,?_⟩;exact d
noncomputable def b3(C:Addr):aU:=λf Q _=>∃(d e:List Nat)(a o c b:Nat)(w:W),f=[Ob C (d++a::o::c::e) d.length b w]/\(d++a::o::c::e).length<=1000/\Q (.tup [.str (tx [o]),Ob C (d++a::o::c::e) (d.length+3) b w])
noncomputable def fh:List CS:=[.set 1 (.ix cText (.bin .Add dZ (.int 1))),.Bs 0 1 (.bin .Add dZ (.int 3)),.Ib (.var 1)]
theorem cN{α:Type}{l:List α}{n:Nat}{x:α}(h:l[n]?=some x):ig l (n:Int)=some x:=by
 have a:=(GT.mp h).1;unfold ig;have:AO l.length (n:Int)=some n:=by unfold AO;simp;omega
 rw[this];exact h
theorem uq{C:Addr}{g:Nat->aU}{G:Nat->W}{m:Md}(e:List W)(Q:W->Prop)(R:Addr->Prop)(h:b3 C e Q R):wSs g G fh (aZ m Q R) (aq 2 e):=by
 obtain⟨d,f,a,o,c,b,w,rfl,j,i⟩:=h;show wSs _ _ fh _ [some _,none];unfold fh;fin2;refine⟨ay j,o,?_,?_⟩
 .exact cN (n:=d.length+1) (by rw[IH (by omega)];simp)
 .fin2;refine⟨by simp,?_⟩;exact i
noncomputable def bC:aU:=λa Q _=>∃(n m:Nat),a=[.str (tx (dg n)),.int m]/\(dg n).length<=m/\m<=30/\Q (.int n)
noncomputable def d7:List CS:=[.iff (.or [.cmp .Eq (.var 0) (.str ""),.cmp .Gt (.blt .len [.var 0]) (.var 1)]) [.yW] [],.iff (.and [.cmp .Eq (.ix (.var 0) (.int 0)) (.str "0"),.cmp .NotEq (.var 0) (.str "0")]) [.yW] [],.ret (.blt .int [.var 0])]
theorem xV:("":Str)=tx []:=by decide+kernel
theorem W0:("0":Str)=tx [48]:=by decide+kernel
theorem lg(a b:List Nat):decide (tx a=tx b)=decide (a=b):=UV.mpr ⟨vm,λe=>by rw[e]⟩
theorem nT{g:Nat->aU}{G:Nat->W}{m:Md}(f:List W)(Q:W->Prop)(R:Addr->Prop)(h:bC f Q R):wSs g G d7 (aZ m Q R) (aq 2 f):=by
 obtain⟨n,m,rfl,j,k,i⟩:=h;show wSs _ _ d7 _ [some _,some _];unfold d7;fin2;rw[xV,lg,FM (m7 n)];fin2;refine⟨ay (by omega),?_⟩;rw[FM (by omega)];fin2;cases e:dg n with
 |nil=>exact absurd e (m7 n)
 |cons c r=>
  refine⟨ay (by rw[e]at j;omega),c,cN (n:=0) rfl,?_⟩;rw[W0,lg,lg];have b:∃a,intText? (tx (c::r))=some a/\(tx (c::r)).length<=640/\Q (.int a):=by
   refine⟨n,?_,by rw[<-e,mG];omega,i⟩;have hd:NumText.AllDigits (tx (c::r)).cps.toList:=by rw[jR,<-e];exact j7 n
   have:=PySem.intText_digits hd (by rw[jR];exact List.cons_ne_nil _ _) (by rw[<-e,mG];omega);rw[jR,<-e,vn]at this;rw[<-e];exact this
  by_cases d:c=48
  .have:=Ew n c r e d;subst this;subst d;rw[FC rfl];fin2;exact b
  .rw[FM (λz=>d (by cases z;rfl))];fin2;exact b
noncomputable def bI(C:Addr):aU:=λf Q _=>∃(e d a sg:List Nat)(b:Nat)(w:W),f=[Ob C (e++(d++a)) e.length b w,.str (tx sg)]/\(∀c∈d,c∈sg)/\(∀c r,a=c::r->c∉sg)/\(e++(d++a)).length<=1000/\Q (.tup [.str (tx d),Ob C (e++(d++a)) (e.length+d.length) b w])
noncomputable def eg:List CS:=[.set 2 dZ,.NO (.and [.cmp .Lt dZ (.blt .len [cText]),.cmp .In (.ix cText dZ) (.var 1)]) [.Bs 0 1 (.bin .Add dZ (.int 1))],.Ib (.slt cText (.var 2) dZ)]
theorem Gp(a b c:List Nat):oW (a++(b++c)) (some (a.length:Int)) (some ((a.length+b.length:Nat):Int))=b:=by
 unfold oW;have e:HT.bV (a++(b++c)).length 0 (some (a.length:Int))=a.length:=by unfold HT.bV;simp;omega
 have f:(a++(b++c)).length=a.length+(b.length+c.length):=by simp
 have d:HT.bV (a++(b++c)).length (a++(b++c)).length (some ((a.length+b.length:Nat):Int))=a.length+b.length:=by unfold HT.bV;dsimp only;rw[Bn (by omega),L0];omega
 rw[e,d,Y3,Y8,Tn]
theorem nU{C:Addr}{s:Nat->aU}{G:Nat->W}{m:Md}(n:List W)(Q:W->Prop)(R:Addr->Prop)(h:bI C n Q R):wSs s G eg (aZ m Q R) (aq 3 n):=by
 obtain⟨f,a,d,sg,b,w,rfl,t,v,i,u⟩:=h;show wSs _ _ eg _ [some _,some _,none];unfold eg;fin2;have o:(f++(a++d)).length=f.length+(a.length+d.length):=by simp
 refine Cz (α:=Nat) (λk=>[some (Ob C (f++(a++d)) (f.length+k) b w),some (.str (tx sg)),some (.int (f.length:Nat))]) (λk=>k<=a.length) (λk=>a.length -k) 0 rfl (Mo _) λk A=>?_;fin2;refine⟨ay i,?_⟩;have g:k=a.length->(aZ m Q R).rt (.tup [.str (tx (oW (f++(a++d)) (some (f.length:Int)) (some ((f.length+k:Nat):Int)))),Ob C (f++(a++d)) (f.length+k) b w]):=λe=>by rw[e,Gp];exact u
 by_cases B:f.length+k<(f++(a++d)).length
 .rw[FC (by omega)];fin2;have j:∃c,(a++d)[k]?=some c/\((k<a.length/\c∈sg)\/(k=a.length/\c∉sg)):=by
   rcases OK k a.length with z|z
   .refine⟨a[k],?_,.inl ⟨z,t _ (Os z)⟩⟩;rw[P3 z,Dx z]
   .have e:k=a.length:=by omega
    cases p:d with
    |nil=>have:=Ki IY p;rw[Gw]at this;omega
    |cons c r=>refine⟨c,?_,.inr ⟨e,v c r p⟩⟩;rw[IH z,e];simp
  obtain⟨c,x,l⟩:=j;refine⟨ay i,c,cN (by rw[IH (by omega),Y8];exact x),c,rfl,?_⟩;rcases l with⟨z,y⟩|⟨z,y⟩
  .refine rK (λ_=>?_) (λq=>absurd y (of_decide_eq_false q));fin2;exact⟨by simp,k+1,rfl,by omega,by show a.length -(k+1)<a.length -k;omega⟩
  .refine rK (λq=>absurd (Ap q) y) (λ_=>?_);fin2;exact⟨ay i,g z⟩
 .rw[FM (by omega)];fin2;refine rK (λz=>by cases z) (λ_=>?_);fin2;exact⟨ay i,g (by omega)⟩
noncomputable def st3(p:List Nat):Prop:=∀c r,p=c::r->¬isLet c/\¬iO c
noncomputable def st2(p:List Nat):Prop:=st3 p/\∀r,p≠94::r
noncomputable def st1(p:List Nat):Prop:=st2 p/\∀r,p≠32::42::32::r/\p≠32::47::32::r
noncomputable def zx(p:List Nat):Prop:=st1 p/\∀r,p≠32::43::32::r/\p≠32::45::32::r
theorem QH{a b c:Nat}:∀{p:List Nat},(∀r,p≠a::b::c::r)->CK [a,b,c] p=false:=λ{p} h=>by rw[TQ];intro z;obtain⟨t,e⟩:=Y2.mp z;exact h t e.symm
theorem Gq{a:Nat}:∀{p:List Nat},(∀r,p≠a::r)->CK [a] p=false:=λ{p} h=>by rw[TQ];intro z;obtain⟨t,e⟩:=Y2.mp z;exact h t e.symm
noncomputable def bU(i d:Nat)(f:List Nat->Prop)(C:Addr):aU:=λh Q _=>∃(c s a:List Nat)(b:Nat)(e g:List W),h=[Ob C (c++(s++a)) c.length b (.lst e)]/\lF.G i d s g/\f a/\b+d<=30/\(c++(s++a)).length<=1000/\e.length<=c.length/\Q (.tup [.aI,Ob C (c++(s++a)) (c.length+s.length) b (.lst (e++g))])
theorem _root_.lF.G.few{l d:Nat}{s:List Nat}{st:List W}(h:lF.G l d s st):st.length<=s.length:=by
 induction h with
 |sum _ _ i j=>simp;omega
 |term _ _ i j=>simp;omega
 |n4=>simp
 |n5=>simp
 |c4 a _ _ i j=>simp;omega
 |c5 a _ _ i j=>simp;omega
 |Gj b _ i=>simp;omega
 |uo b g _ i=>simp;omega
 |name f m k=>
  rename_i d x
  cases x with
  |nil=>exact absurd rfl f
  |cons c r=>simp
 |num h=>
  rename_i d n
  cases e:dg n with
  |nil=>exact absurd e (m7 n)
  |cons c r=>simp
 |brk h hd i=>simp;omega
inductive TL(lv d o1 o2:Nat):List Nat->List W->Prop where
 |nil:TL lv d o1 o2 [] []
 |cons {o:Nat} {a r:List Nat} {sa sr:List W} (ho:o=o1\/o=o2) (h:lF.G lv d a sa) (k:TL lv d o1 o2 r sr):TL lv d o1 o2 (32::o::32::(a++r)) (sa++(vN o::sr))
theorem W2{d:Nat}{r:List Nat}{a:List W}(h:lF.G 4 d r a):TL 1 d 43 45 r a:=by
 generalize b:4=l at h
 induction h with
 |n4=>exact .nil
 |c4 c e _ _ j=>exact .cons c e (j b)
 |_=>cases b
theorem W3{d:Nat}{r:List Nat}{a:List W}(h:lF.G 5 d r a):TL 2 d 42 47 r a:=by
 generalize b:5=l at h
 induction h with
 |n5=>exact .nil
 |c5 c e _ _ j=>exact .cons c e (j b)
 |_=>cases b
noncomputable def iE(a s2:Str):List CS:=[.zZ (.jm 0 0 0 []),.Ph (.or [.jm 0 0 1 [.str a],.jm 0 0 1 [.str s2]]) [.oY 1 (.jm 0 0 2 []),.zZ (.jm 0 0 0 []),.Ia 0 nS (.tup [.var 1,.int 0])]]
theorem xW{C:Addr}{t d o1 o2:Nat}{s1 s2:Str}{I:List Nat->Prop}{m:Md}(e1:s1=tx [32,o1,32])(e2:s2=tx [32,o2,32])(ne:o1≠o2)
 {f c a r:List Nat}{b:Nat}{j y v:List W}{Q:W->Prop}{R:Addr->Prop}(ha:lF.G t d a y)(hr:TL t d o1 o2 r v)(h0:I c)(T:∀r,c≠32::o1::32::r)(S:∀r,c≠32::o2::32::r)(hs:∀o r,o=o1\/o=o2->I (32::o::32::r))
 (hb:b+d<=30)(L:(f++((a++r)++c)).length<=1000)(P:j.length<=f.length)(hq:Q (.tup [.aI,Ob C (f++((a++r)++c)) (f.length+(a++r).length) b (.lst (j++(y++v)))])):
 wSs (bK [bU t d I C,bx C,b3 C]) (bX [.cls C]) (iE s1 s2) (aZ (.io m) Q R) [some (Ob C (f++((a++r)++c)) f.length b (.lst j)),none]:=by
 have sz:∀n,n<=1000->n<=sizeLine:=λn h=>ay h;have Vp:∀{r v},TL t d o1 o2 r v->I (r++c):=λh=>by
  cases h with
  |nil=>exact h0
  |cons A _ _=>exact hs _ _ A
 generalize K:f++((a++r)++c)=e at L hq⊢;unfold iE;fin2;refine⟨rfl,f,a,r++c,b,j,y,?_,ha,Vp hr,hb,?_,P,_,_,rfl,?_⟩
 .rw[<-K,KF]
 .rw[<-KF a,K];exact L
 have ew:f++(a++(r++c))=e:=by rw[<-K,KF]
 rw[ew];have few:=ha.few;refine⟨λm J=>∃(g q:List Nat)(p x:List W)(s:Option W),g++(q++c)=e/\TL t d o1 o2 q x/\p++x=j++(y++v)/\p.length<=g.length/\m=q.length/\J=[some (Ob C e g.length b (.lst p)),s],⟨r.length,f++a,r,j++y,v,none,by rw[<-ew];simp,hr,by simp,by simp;omega,rfl,by rw[B1]⟩,?_⟩;rintro O J ⟨g,q,p,x,s,E,g2,U,g4,rfl,rfl⟩;have M:g.length<=e.length:=by rw[<-E,B1];omega
 have Z:e.drop g.length=q++c:=by rw[<-E,Y3]
 fin2;refine⟨rfl,e,[32,o1,32],g.length,b,_,by rw[e1],M,_,_,rfl,?_⟩;rw[Z];fin2;have u:∀(o:Nat)(k l:List Nat)(i w:List W)(s:Option W)(N:Ev->Prop),o=o1\/o=o2->q=32::o::32::(k++l)->x=i++(vN o::w)->lF.G t d k i->TL t d o1 o2 l w->
  N=(λJ=>∃O,O<q.length/\∃(g q:List Nat)(p x:List W)(s:Option W),g++(q++c)=e/\TL t d o1 o2 q x/\p++x=j++(y++v)/\p.length<=g.length/\O=q.length/\J=[some (Ob C e g.length b (.lst p)),s])->
  wSs (bK [bU t d I C,bx C,b3 C]) (bX [.cls C]) [.oY 1 (.jm 0 0 2 []),.zZ (.jm 0 0 0 []),.Ia 0 nS (.tup [.var 1,.int 0])] {nx:=N,rt:=(aZ (.io m) Q R).rt,bk:=(aZ (.io m) Q R).nx,ct:=N,ex:=λ_=>False} [some (Ob C e g.length b (.lst p)),s]:=λo k l i w s N A er es D B eN=>by
  subst er es eN;have H:g++(32::o::32::((k++l)++c))=e:=by rw[<-E];simp
  have F:(g++[32,o,32])++(k++(l++c))=e:=by rw[<-E];simp
  have W4:=D.few;fin2;refine⟨rfl,g,_,32,o,32,b,_,by rw[H],by rw[H];exact L,_,_,rfl,?_⟩;rw[H];fin2;refine⟨rfl,g++[32,o,32],k,l++c,b,p,i,by rw[F];simp,D,Vp B,hb,by rw[F];exact L,by simp;omega,_,_,rfl,?_⟩;rw[F];fin2;have l2:(p++i).length<sizeLine:=by have Y:=Ki IY F;simp at Y;refine FR (m:=1001) ?_ (by decide);rw[B1];omega
  refine⟨ay (by show 2<=1000;decide),l2,l.length,by simp;omega,g++(32::o::32::k),l,(p++i)++[vN o],w,some (.str (tx [o])),by rw[<-F];simp,B,by rw[<-U];simp,by simp;omega,rfl,?_⟩;have e6:((g++[32,o,32]).length+k.length:Nat)=(g++(32::o::32::k)).length:=by simp;omega
  rw[e6];rfl
 cases g2 with
 |nil=>
  rw[Jd,QH T];fin2;refine⟨rfl,e,[32,o2,32],g.length,b,_,by rw[e2],M,_,_,rfl,?_⟩;rw[Z,Jd,QH S];fin2;have H:g.length=f.length+(a++r).length:=by have:=Ki IY (E.trans K.symm);simp at this⊢;omega
  rw[Kt]at U;rw[H,U];exact hq
 |cons A D B=>
  rename_i o k l i w
  by_cases X:o=o1
  .have:CK [32,o1,32] (32::o::32::(k++l)++c)=true:=by rw[X];simp[CK]
   rw[this];fin2;exact⟨_,λ_ z=>z,u o k l i w s _ A rfl rfl D B rfl⟩
  .have Y:o=o2:=A.resolve_left X;have:CK [32,o1,32] (32::o::32::(k++l)++c)=false:=by simp[CK,On X]
   rw[this];fin2;refine⟨rfl,e,[32,o2,32],g.length,b,_,by rw[e2],M,_,_,rfl,?_⟩;have:CK [32,o2,32] (32::o::32::(k++l)++c)=true:=by rw[Y];simp[CK]
   rw[Z,this];fin2;exact⟨_,λ_ z=>z,u o k l i w s _ A rfl rfl D B rfl⟩
theorem Gu(o:Nat)(s:Str)(h:s=tx [32,o,32]:=by decide+kernel):s=tx [32,o,32]:=h
theorem ur:¬isLet 32/\¬iO 32:=by unfold isLet iO;omega
theorem vQ{C:Addr}{d:Nat}{m:Md}(f:List W)(Q:W->Prop)(R:Addr->Prop)(h:bU 0 d zx C f Q R):wSs (bK [bU 1 d st1 C,bx C,b3 C]) (bX [.cls C]) (iE " + " " - ") (aZ (.io m) Q R) (aq 2 f):=by
 obtain⟨j,s,g,b,i,u,rfl,t,a,q,p,l,n⟩:=h;cases t with
 |sum h k=>
  refine xW (Gu 43 _) (Gu 45 _) (by decide) h (W2 k) a.1 (λr=>(a.2 r).1) (λr=>(a.2 r).2) (λo r v=>⟨⟨λc r e=>by cases e;exact ur,λr e=>by cases e⟩,λr=>⟨λe=>?_,λe=>?_⟩⟩) q p l n
  .cases e;omega
  .cases e;omega
theorem uu{C:Addr}{d:Nat}{m:Md}(f:List W)(Q:W->Prop)(R:Addr->Prop)(h:bU 1 d st1 C f Q R):wSs (bK [bU 2 d st2 C,bx C,b3 C]) (bX [.cls C]) (iE " * " " / ") (aZ (.io m) Q R) (aq 2 f):=by
 obtain⟨j,s,g,b,i,u,rfl,t,a,q,p,l,n⟩:=h;cases t with
 |term h k=>exact xW (Gu 42 _) (Gu 47 _) (by decide) h (W3 k) a.1 (λr=>(a.2 r).1) (λr=>(a.2 r).2) (λo r v=>⟨λc r e=>by cases e;exact ur,λr e=>by cases e⟩) q p l n
theorem Tw{c:Nat}{p:List Nat}(d:¬isLet c/\¬iO c)(b:c≠94)(a:c≠32):zx (c::p):=by
 refine⟨⟨⟨λc r e=>?_,λr e=>?_⟩,λr=>⟨λe=>?_,λe=>?_⟩⟩,λr=>⟨λe=>?_,λe=>?_⟩⟩
 .cases e;exact d
 .cases e;exact b rfl
 .cases e;exact a rfl
 .cases e;exact a rfl
 .cases e;exact a rfl
 .cases e;exact a rfl
theorem M5:zx []:=by refine⟨⟨⟨λc r e=>?_,λr e=>?_⟩,λr=>⟨λe=>?_,λe=>?_⟩⟩,λr=>⟨λe=>?_,λe=>?_⟩⟩<;>cases e
noncomputable def cg:List CS:=[.Bs 0 2 (.bin .Add M1 (.int 1)),.iff (.cmp .Gt M1 (.glob 0)) [.yW] [],.Bs 0 1 (.bin .Add dZ (.int 1)),.zZ (.jm 0 1 0 []),.Pk (.jm 0 1 1 [.str ")"]) [.yW] [],.Bs 0 1 (.bin .Add dZ (.int 1)),.Bs 0 2 (.bin .Sub M1 (.int 1))]
noncomputable def M6(d:Nat)(C:Addr):aU:=λg Q _=>∃(a s c:List Nat)(b:Nat)(e f:List W),g=[Ob C (a++(40::(s++41::c))) a.length b (.lst e)]/\lF.G 0 d s f/\b+d<30/\(a++(40::(s++41::c))).length<=1000/\e.length<=a.length/\Q (.tup [.aI,Ob C (a++(40::(s++41::c))) (a.length+(s.length+2)) b (.lst (e++f))])
theorem lM{C:Addr}{d:Nat}{m:Md}(j:List W)(Q:W->Prop)(R:Addr->Prop)(h:M6 d C j Q R):wSs (bK [bU 0 d zx C,bx C]) (bX [.int 30,.cls C]) cg (aZ (.io m) Q R) (aq 1 j):=by
 obtain⟨c,s,a,b,g,l,rfl,o,v,k,u,i⟩:=h;have f:(c++[40])++(s++41::a)=c++(40::(s++41::a)):=by simp
 generalize t:c++(40::(s++41::a))=e at k i f⊢;show wSs _ _ cg _ [some _];unfold cg;fin2;refine⟨by simp,?_⟩;rw[FM (by omega)];fin2;refine⟨by simp,rfl,c++[40],s,41::a,b+1,g,l,by rw[f,B1];rfl,o,Tw (by unfold isLet iO;omega) (by decide) (by decide),by omega,by rw[f];exact k,by simp;omega,_,_,rfl,?_⟩;rw[f];fin2;have r:e.drop ((c++[40]).length+s.length)=41::a:=by rw[<-f,<-KF,<-B1,Y3]
 refine⟨rfl,e,[41],(c++[40]).length+s.length,b+1,_,by rw[show(")":Str)=tx [41] by decide+kernel],by rw[<-f];simp;omega,_,_,rfl,?_⟩;have n:CK [41] (41::a)=true:=by simp[CK]
 rw[r,n];fin2;rw[Bn (show¬(!true)=true by decide)];refine⟨by simp,by simp,?_⟩;have q:(((c++[40]).length+s.length+1:Nat))=c.length+(s.length+2):=by simp;omega
 have p:((b+1:Nat):Int) -1=(b:Nat):=by omega
 rw[<-q]at i;rw[p];exact i
noncomputable def cj:List CS:=[.oY 1 (.call 0 [.jm 0 3 1 [.glob 0],.glob 1]),.iff (.cmp .Gt (.var 1) (.glob 2)) [.yW] [],.Ia 0 nS (.tup [.str "power",.var 1])]
noncomputable def CG:List Nat:=[48,49,50,51,52,53,54,55,56,57]
noncomputable def lets:List Nat:=[97,98,99,100,101,102,103,104,105,106,107,108,109,110,111,112,113,114,115,116,117,118,119,120,121,122]
theorem jJ{c:Nat}:c∈CG↔iO c:=by unfold iO CG;simp only[Ee,PH,W1];omega
theorem jK{c:Nat}:c∈lets↔isLet c:=by unfold isLet lets;simp only[Ee,PH,W1];omega
theorem CH:("0123456789":Str)=tx CG:=by decide+kernel
theorem kK:("abcdefghijklmnopqrstuvwxyz":Str)=tx lets:=by decide+kernel
noncomputable def Gv(C:Addr):aU:=λf Q _=>∃(c a:List Nat)(b e:Nat)(d:List W),f=[Ob C (c++(dg e++a)) c.length b (.lst d)]/\e<=12/\st3 a/\(c++(dg e++a)).length<=1000/\d.length<=c.length/\Q (.tup [.aI,Ob C (c++(dg e++a)) (c.length+(dg e).length) b (.lst (d++[rL e]))])
theorem lN{C:Addr}{m:Md}(f:List W)(Q:W->Prop)(R:Addr->Prop)(h:Gv C f Q R):wSs (bK [bC,bI C]) (bX [.str "0123456789",.int 2,.int 12,.cls C]) cj (aZ (.io m) Q R) (aq 2 f):=by
 obtain⟨a,d,b,e,i,rfl,s,k,g,p,j⟩:=h;show wSs _ _ cj _ [some _,none];unfold cj;fin2;refine⟨rfl,a,dg e,d,CG,b,_,by rw[CH],λc l=>jJ.mpr (j7 e c l),λc r q=>λz=>(k c r q).2 (jJ.mp z),g,_,_,rfl,?_⟩;fin2;have n:(dg e).length<=2:=gM (by decide) (by omega);refine⟨e,2,rfl,n,by decide,?_⟩;fin2;rw[FM (by omega)];fin2;have o:a.length<=1000:=by rw[B1]at g;omega
 exact⟨ay (by show 2<=1000;decide),FR (m:=1001) (by omega) (by decide),j⟩
noncomputable def dw:List CS:=[.oY 1 (.blt .len [.jm 0 1 0 [.str "-"]]),.iff (.cmp .Gt (.var 1) (.glob 0)) [.yW] [],.zZ (.jm 0 1 1 []),.NP (.jm 0 1 2 [.str "^"]) [.Bs 0 1 (.bin .Add dZ (.int 1)),.zZ (.jm 0 1 3 [])] [],.NG 0 nS (.bin .Mult (.lst [.tup [.str "minus",.int 0]]) (.var 1))]
theorem pI{C:Addr}{d:Nat}{m:Md}(L:List W)(Q:W->Prop)(R:Addr->Prop)(h:bU 2 d st2 C L Q R):wSs (bK [bI C,bU 3 d st3 C,bx C,Gv C]) (bX [.int 30,.cls C]) dw (aZ (.io m) Q R) (aq 2 L):=by
 obtain⟨g,s,f,b,j,S,rfl,U,F,T,v,hs,P⟩:=h;obtain⟨k,a,x,o,t,w,J,rfl,rfl,O⟩:∃(k:Nat)(a x:List Nat)(o t:List W),k<=30/\lF.G 3 d a o/\s=A0 k 45++(a++x)/\S=o++(t++A0 k pG)/\((x=[]/\t=[])\/∃e,e<=12/\x=94::dg e/\t=[rL e]):=by
  cases U with
  |Gj w h=>exact⟨_,_,[],_,[],w,h,by simp,by simp,.inl ⟨rfl,rfl⟩⟩
  |uo w H h=>exact⟨_,_,_,_,_,w,h,rfl,rfl,.inr ⟨_,H,rfl,rfl⟩⟩
 have few:=J.few;have z:g++(A0 k 45++((a++x)++f))=g++((A0 k 45++(a++x))++f):=by simp
 have p:(g++A0 k 45)++(a++(x++f))=g++((A0 k 45++(a++x))++f):=by simp
 generalize hw:g++((A0 k 45++(a++x))++f)=i at v P z p⊢;show wSs _ _ dw _ [some _,none];unfold dw;fin2;refine⟨rfl,g,A0 k 45,(a++x)++f,[45],b,_,by rw[z,show("-":Str)=tx [45] by decide+kernel],λc I=>by rw[(M7.mp I).2];exact Fn.mpr rfl,λc r e=>?_,by rw[z];exact v,_,_,rfl,?_⟩
 .obtain⟨c',r',Z,I⟩:=J.head rfl;rw[Z]at e;cases e;rw[Fn];unfold isLet iO at I;omega
 rw[z];fin2;rw[SC];refine⟨ay (by omega),?_⟩;rw[FM (by omega)];fin2;have E:st3 (x++f):=by
  rcases O with⟨rfl,_⟩|⟨e,_,rfl,_⟩
  .exact F.1
  .intro c r q;cases q;unfold isLet iO;omega
 refine⟨rfl,g++A0 k 45,a,x++f,b,j,o,by rw[p];simp,J,E,T,by rw[p];exact v,by simp;omega,_,_,rfl,?_⟩;rw[p];fin2;have M:(g++A0 k 45).length+a.length=g.length+(k+a.length):=by simp;omega
 have dr:i.drop ((g++A0 k 45).length+a.length)=x++f:=by rw[<-p,<-KF,<-B1,Y3]
 have lw:g.length+(k+(a.length+(x.length+f.length)))=i.length:=by rw[<-p];simp only[B1,SC];omega
 refine⟨rfl,i,[94],(g++A0 k 45).length+a.length,b,_,by rw[show("^":Str)=tx [94] by decide+kernel],by omega,_,_,rfl,?_⟩;rw[dr];have B:∀l:List W,List.flatten (A0 ((k:Int)).toNat [W.tup [W.str "minus",W.int 0]])=A0 k pG:=λ_=>um _ k;have u:∀(D:List W)(n:Nat),D=t->n=g.length+(A0 k 45++(a++x)).length->Q (.tup [.aI,Ob C i n b (.lst (j++o++D++A0 k pG))]):=λD n Y X=>by rw[Y,X];simpa using P
 have y: -(2^63:Int)<=(k:Int)/\(k:Int)<2^63:=by omega
 have A:∀n,n<=2000->n<=sizeLine:=λn h=>GE h (by decide);rcases O with⟨rfl,rfl⟩|⟨e,H,rfl,rfl⟩
 .have:CK [94] ([]++f)=false:=Gq F.2;rw[this];fin2;refine⟨ay (by show 2<=1000;decide),ay (by show 1<=1000;decide),y.1,y.2,A _ (by show 1*k<=2000;omega),A _ ?_,?_⟩
  .rw[B [],B1,SC];omega
  .have:=u [] ((g++A0 k 45).length+a.length) rfl (by rw[M];simp);rw[Kt]at this;rw[B []];exact this
 .have:CK [94] (94::dg e++f)=true:=by simp[CK]
  rw[this];fin2;have K:(g++A0 k 45++a++[94])++(dg e++f)=i:=by rw[<-p];simp
  have N:(g++A0 k 45++a++[94]).length=(g++A0 k 45).length+a.length+1:=by simp;omega
  refine⟨by simp,rfl,g++A0 k 45++a++[94],f,b,e,j++o,by rw[K,N];rfl,H,F.1,by rw[K];exact v,by simp;omega,_,_,rfl,?_⟩;rw[K];fin2;refine⟨ay (by show 2<=1000;decide),ay (by show 1<=1000;decide),y.1,y.2,A _ (by show 1*k<=2000;omega),A _ ?_,?_⟩
  .rw[B [],B1,B1,SC];show j.length+o.length+1+k<=2000;omega
  .have:=u [rL e] ((g++A0 k 45++a++[94]).length+(dg e).length) rfl (by rw[N,M];simp;omega);rw[B []];exact this
noncomputable def fj:List CS:=[.NP (.jm 0 4 0 [.str "("]) [.zZ (.jm 0 4 1 []),.Ib .aI] [],.oY 1 (.jm 0 4 2 [.glob 0]),.iff (.cmp .Eq (.var 1) (.str "")) [.Pj 0 3 (.tup [.str "number",.call 3 [.jm 0 4 4 [.glob 1],.glob 2]])] [.iff (.cmp .LtE (.blt .len [.var 1]) (.glob 3)) [.Ia 0 nS (.tup [.str "name",.var 1])] [.yW]]]
noncomputable def M8:Nat->Addr->aU
 |0,_=>QB
 |d+1,C=>M6 d C
theorem uv{C:Addr}{d:Nat}{m:Md}(v:List W)(Q:W->Prop)(R:Addr->Prop)(h:bU 3 d st3 C v Q R):wSs (bK [bx C,M8 d C,bI C,bC,bI C]) (bX [.str "abcdefghijklmnopqrstuvwxyz",.str "0123456789",.int 30,.int 8,.cls C]) fj (aZ (.io m) Q R) (aq 2 v):=by
 obtain⟨g,s,f,b,j,E,rfl,x,w,O,k,I,o⟩:=h;have few:=x.few;show wSs _ _ fj _ [some _,none];have F:g.length<=(g++(s++f)).length:=by rw[B1];omega
 have K:(g++(s++f)).drop g.length=s++f:=Y3;unfold fj;fin2;refine⟨rfl,_,[40],g.length,b,_,by rw[show("(":Str)=tx [40] by decide+kernel],F,_,_,rfl,?_⟩;rw[K];have N:g.length<=1000:=by rw[B1]at k;omega
 have T:∀c r,s=c::r->c≠40->CK [40] (s++f)=false:=λc r e n=>Gq λp z=>by rw[e]at z;cases z;exact n rfl
 cases x with
 |brk h hd=>
  rename_i d0 a
  have:CK [40] (40::(a++[41])++f)=true:=by simp[CK]
  rw[this];fin2;have t:g++(40::(a++[41])++f)=g++(40::(a++41::f)):=by simp
  obtain⟨D,rfl⟩:∃D,d=D+1:=⟨d -1,by omega⟩;refine⟨rfl,g,a,f,b,j,E,by rw[<-t];rfl,h.mono (by omega),by omega,by rw[<-t];exact k,I,_,_,rfl,?_⟩;rw[<-t];fin2;have J:(40::(a++[41])).length=a.length+2:=by simp
  rw[J]at o;exact o
 |name A P y=>
  have M:∀c r,s=c::r->c≠40:=λc r e z=>by have:=y c (by rw[e];exact Bi);unfold isLet at this;omega
  have H:CK [40] (s++f)=false:=Gq λp z=>by
   cases i:s with
   |nil=>exact A i
   |cons c r=>have:=M c r i;rw[i]at z;cases z;exact this rfl
  rw[H];fin2;refine⟨rfl,g,s,f,lets,b,_,by rw[kK],λc l=>jK.mpr (y c l),λc r q z=>(w c r q).1 (jK.mp z),k,_,_,rfl,?_⟩;fin2;rw[xV,lg,FM A];fin2;refine⟨ay (by omega),?_⟩;rw[FC (by omega)];fin2;exact⟨ay (by show 2<=1000;decide),FR (m:=1001) (by omega) (by decide),o⟩
 |num h=>
  rename_i n
  have B:∀c r,dg n++f=c::r->¬isLet c/\c≠40:=λc r e=>by
   cases u:dg n with
   |nil=>exact absurd u (m7 n)
   |cons S p=>rw[u]at e;cases e;have:=j7 n c (by rw[u];exact Bi);unfold isLet;omega
  have:CK [40] (dg n++f)=false:=Gq λp z=>(B _ _ z).2 rfl;rw[this];fin2;refine⟨rfl,g,[],dg n++f,lets,b,_,by rw[kK];rfl,λc l=>(by cases l),λc r q z=>(B c r q).1 (jK.mp z),k,_,_,rfl,?_⟩;fin2;rw[xV,lg,FC rfl];fin2;refine⟨j,rfl,λL=>⟨rfl,g,dg n,f,CG,b,.cls L,by rw[CH];rfl,λc l=>jJ.mpr (j7 n c l),λc r q z=>(w c r q).2 (jJ.mp z),k,_,_,rfl,?_⟩⟩;fin2;refine⟨n,30,rfl,gM (by decide) h,by decide,?_⟩;fin2;exact⟨ay (by show 2<=1000;decide),_,rfl,rfl,FR (m:=1001) (by omega) (by decide),o⟩
noncomputable def IT(C:Addr):Sp:=λe H Q _=>∃(x d:Addr)(c:V),e=[.ref x,c]/\H x=some (.ins C d [])/\∀(b:Addr)(a:Hp),IQ x H a->H b=none->a b=some (.lst [])->a x=some (.ins C d (FS.zip [c,.int 0,.int 0,.ref b]))->Q .aI a
noncomputable def l7(C:Addr):aU:=λa Q _=>∃t,a=[.str (tx t)]/\Q (Ob C t 0 0 (.lst []))
theorem uw{P:Program}{w:World}{K:Frag}{q:Str->Option Value}{base:Heap}{k:Nat}{C f:Addr}{s:FuncData}{ps:List Str}(L:oX K C FS)(M:Mk K C f)(b:Binds K s ps [])(F:bL P w K q base (iL P w) k f s ps (IT C)):
 bW P w K q base (k+1) (.ref C) 1 (oZ K 1 xU (l7 C)):=by
 refine .mk M b F λY H Q E hz x i m U B=>?_;obtain⟨A,X,P,R,l,r,d,⟨t,e,N⟩,c,Z⟩:=hz;subst e;obtain⟨y,_,rfl,j,r⟩:=r.cons_inv;cases r;have j:y=.str (tx t):=j;subst j;refine⟨x,i,_,rfl,aA,λa v I g S ex=>⟨rfl,?_⟩⟩;have u:a≠x:=λe=>by rw[e,aA]at g;cases g
 have T:a≠i:=λe=>by rw[e,au B,aA]at g;cases g
 have O:H a=none:=by rw[au u,au T]at g;exact g
 have sm:ao H v:=λb o h=>by
  have n:b≠x:=λe=>by rw[e,m]at h;cases h
  have D:b≠i:=λe=>by rw[e,U]at h;cases h
  exact I b o n (by rw[au n,au D];exact h)
 refine c _ (.ref x) v N sm ⟨[x,a],by simp[On u],λp J=>?_,?_⟩
 .rcases Ee.mp J with z|z
  .rw[z];exact m
  .rw[Fn.mp z];exact O
 dsimp only[Fp];refine⟨C,i,_,x,[.str (tx t),.int 0,.int 0,.ref a],[a],rfl,rfl,rfl,ex,rfl,L,?_⟩;dsimp only[cX];refine⟨_,_,_,_,[],[a],rfl,rfl,rfl,?_,_,_,_,_,[],[a],rfl,rfl,rfl,?_,_,_,_,_,[],[a],rfl,rfl,rfl,?_,_,_,_,_,[a],[],rfl,rfl,rfl,?_,rfl,rfl,rfl⟩
 .dsimp only[Fp];exact⟨rfl,kj _⟩
 .dsimp only[Fp];exact⟨rfl,xQ _⟩
 .dsimp only[Fp];exact⟨rfl,xQ _⟩
 .dsimp only[Fp];exact⟨[],a,[],rfl,rfl,rfl,S,.nil⟩
abbrev FE:List Str:=["steps"]
abbrev Ex(C:Addr)(sts:List W):W:=.obj C FE [.tup sts]
noncomputable def IU(C:Addr):Sp:=λe H Q _=>∃(x d p:Addr)(b:List V),e=[.ref x,.ref p]/\H x=some (.ins C d [])/\H p=some (.lst b)/\b.length<=sizeLine/\∀(c:Addr)(a:Hp),IQ x H a->H c=none->a c=some (.tup b)->a x=some (.ins C d (FE.zip [.ref c]))->Q .aI a
noncomputable def xX(C:Addr):aU:=λb Q _=>∃a:List W,b=[.lst a]/\a.length<=2000/\Q (Ex C a)
theorem zE{P:Program}{w:World}{K:Frag}{t:Str->Option Value}{base:Heap}{k:Nat}{C f:Addr}{v:FuncData}{ps:List Str}(S:oX K C FE)(M:Mk K C f)(b:Binds K v ps [])(F:bL P w K t base (iL P w) k f v ps (IU C)):
 bW P w K t base (k+1) (.ref C) 1 (oZ K 1 .s (xX C)):=by
 refine .mk M b F λvs H Q E hz x i m y L=>?_;obtain⟨A,ws,P,R,l,r,d,⟨I,e,n,T⟩,c,er⟩:=hz;subst e;obtain⟨v1,_,rfl,J,r⟩:=r.cons_inv;cases r;obtain⟨p,D,rfl,hp,a,u⟩:=J;have a:=a.at;have Y:p≠x:=λe=>by rw[e,m]at a;cases a
 have X:p≠i:=λe=>by rw[e,y]at a;cases a
 refine⟨x,i,p,D,rfl,aA,by rw[au Y,au X];exact a,by rw[u.len];exact GE n (by decide),λj B O g U ex=>⟨rfl,?_⟩⟩;have Ry:j≠x:=λe=>by rw[e,aA]at g;cases g
 have Z:j≠i:=λe=>by rw[e,au L,aA]at g;cases g
 have h4:H j=none:=by rw[au Ry,au Z]at g;exact g
 have sm:ao H B:=λb o h=>by
  have q:b≠x:=λe=>by rw[e,m]at h;cases h
  have N:b≠i:=λe=>by rw[e,y]at h;cases h
  exact O b o q (by rw[au q,au N];exact h)
 refine c _ (.ref x) B T sm (.of ⟨x,i,[.ref j],rfl,λz=>?_,ex,rfl,S,.cons (qV U (af.same sm u)) .nil⟩);obtain⟨o,e⟩:=d x z;rw[m]at e;cases e
noncomputable def vR:List CS:=[.iff (.cmp .Gt (.blt .len [.var 0]) (.glob 0)) [.yW] [],.set 1 (.call 0 [.var 0]),.zZ (.jm 1 1 1 []),.iff (.cmp .Lt (.own 1 [.fl 1 "place"]) (.blt .len [.var 0])) [.yW] [],.Kl [1] [.ret (.call 2 [.Kg (.var 1) 3 "steps"])]]
noncomputable def qv(d:Nat)(CE:Addr):aU:=λb Q _=>∃(s:List Nat)(a:List W),b=[.str (tx s)]/\lF.G 0 d s a/\d<=30/\s.length<=1000/\Q (Ex CE a)
theorem M9{C CE:Addr}{d:Nat}{m:Md}(b:List W)(Q:W->Prop)(R:Addr->Prop)(h:qv d CE b Q R):wSs (bK [l7 C,bU 0 d zx C,xX CE]) (bX [.int 1000,.cls C]) vR (aZ m Q R) (aq 2 b):=by obtain⟨s,c,rfl,e,hd,a,f⟩:=h;have few:=e.few;show wSs _ _ vR _ [some _,none];unfold vR;fin2;refine⟨ay a,?_⟩;rw[FM (by omega)];fin2;refine⟨s,rfl,?_⟩;fin2;refine⟨rfl,[],s,[],0,[],c,by simp,e,M5,by omega,by simpa using a,DL _,_,_,rfl,?_⟩;fin2;refine⟨ay a,?_⟩;rw[FM (by simp)];fin2;exact⟨rfl,_,rfl,c,rfl,by omega,f⟩
end VL
namespace lF
open L2 PySem VL
inductive Tr where
 |nm (x:List Nat)|nu (n:Nat)|op (o:Nat) (a b:Tr)|pw (a:Tr) (e:Nat)|ls (a:Tr)
noncomputable def wt:Tr->W
 |.nm x=>.tup [.str "name",.str (tx x)]
 |.nu n=>.tup [.str "number",.int n]
 |.op o a b=>.tup [.str (tx [o]),wt a,wt b]
 |.pw a e=>.tup [.str "^",wt a,.int e]
 |.ls a=>.tup [.str "less",wt a]
noncomputable def lO(x:List Nat):Prop:=x≠[]/\x.length<=8/\∀c∈x,isLet c
noncomputable def kL:Tr->Prop
 |.nm x=>lO x
 |.nu n=>n<10^30
 |.op o a b=>(o=43\/o=45\/o=42\/o=47)/\kL a/\kL b
 |.pw a e=>e<=12/\kL a
 |.ls a=>kL a
noncomputable def sz:Tr->Nat
 |.nm _=>1
 |.nu _=>1
 |.op _ a b=>sz a+sz b+1
 |.pw a _=>sz a+1
 |.ls a=>sz a+1
noncomputable def bi:Tr->Nat
 |.nm _=>4
 |.nu _=>4
 |.op o _ _=>if o=43\/o=45 then 0 else 1
 |.pw _ _=>3
 |.ls _=>2
noncomputable def br(b l:Nat)(s:List Nat):List Nat:=if b<l then 40::(s++[41])else s
noncomputable def txt:Tr->List Nat
 |.nm x=>x
 |.nu n=>dg n
 |.op o a b=>br (bi a) (bi (.op o a b)) (txt a)++(32::o::32::br (bi b) (bi (.op o a b)+1) (txt b))
 |.pw a e=>br (bi a) 4 (txt a)++94::dg e
 |.ls a=>45::br (bi a) 2 (txt a)
noncomputable def stp:Tr->List W
 |.nm x=>[CB x]
 |.nu n=>[MX n]
 |.op o a b=>stp a++(stp b++[vN o])
 |.pw a e=>stp a++[rL e]
 |.ls a=>stp a++[pG]
noncomputable def su(d k:Nat)(s:List Nat)(st:List W):Prop:=∃(j:Nat)(a x:List Nat)(c b:List W),j<=k/\G 3 d a c/\s=A0 j 45++(a++x)/\st=c++(b++A0 j pG)/\((x=[]/\b=[])\/∃e,e<=12/\x=94::dg e/\b=[rL e])
theorem su.g{d k:Nat}{s:List Nat}{st:List W}(h:su d k s st)(m:k<=30):G 2 d s st:=by
 obtain⟨j,a,x,l,i,n,b,rfl,rfl,c⟩:=h;rcases c with⟨rfl,rfl⟩|⟨e,f,rfl,rfl⟩
 .simpa using G.Gj (k:=j) (by omega) b
 .simpa using G.uo (k:=j) (by omega) f b
theorem su.of{d:Nat}{s:List Nat}{st:List W}(h:G 3 d s st)(k:Nat):su d k s st:=⟨0,s,[],st,[],Mo _,h,by simp,by simp,.inl ⟨rfl,rfl⟩⟩
theorem su.less{d k:Nat}{s:List Nat}{st:List W}(h:su d k s st):su d (k+1) (45::s) (st++[pG]):=by obtain⟨j,a,x,c,b,g,f,rfl,rfl,e⟩:=h;refine⟨j+1,a,x,c,b,by omega,f,rfl,?_,e⟩;rw[List.replicate_succ'];simp
theorem su.mono{d d' k b:Nat}{s:List Nat}{st:List W}(h:su d k s st)(hd:d<=d')(g:k<=b):su d' b s st:=by obtain⟨j,a,x,e,c,i,f,r⟩:=h;exact⟨j,a,x,e,c,by omega,f.mono hd,r⟩
structure Rd(T:Tr):Prop where
 g0:G 0 (sz T) (txt T) (stp T)
 g1:1<=bi T->G 1 (sz T) (txt T) (stp T)
 f:2<=bi T->su (sz T) (sz T) (txt T) (stp T)
 g3:bi T=4->G 3 (sz T) (txt T) (stp T)
theorem Rd.b{T:Tr}(h:Rd T):G 3 (sz T+1) (40::(txt T++[41])) (stp T):=.brk h.g0 (P1 _)
theorem Rd.i4{T:Tr}(h:Rd T)(a:bi T<=4):G 3 (sz T+1) (br (bi T) 4 (txt T)) (stp T):=by
 unfold br;split
 .exact h.b
 .exact(h.g3 (by omega)).mono (YK _)
theorem Rd.i2{T:Tr}(h:Rd T):su (sz T+1) (sz T) (br (bi T) 2 (txt T)) (stp T):=by
 unfold br;split
 .exact .of h.b _
 .exact(h.f (by omega)).mono (YK _) (DL _)
theorem Rd.i1{T:Tr}(h:Rd T):G 1 (sz T+1) (br (bi T) 1 (txt T)) (stp T):=by
 unfold br;split
 .exact h.b.xN.oO
 .exact(h.g1 (by omega)).mono (YK _)
theorem IV:∀T:Tr,bi T<=4
 |.nm _=>DL _
 |.nu _=>DL _
 |.op o _ _=>by show(if o=43\/o=45 then 0 else 1)<=4;split<;>omega
 |.pw _ _=>by show 3<=4;omega
 |.ls _=>by show 2<=4;omega
theorem b8:∀T:Tr,1<=sz T
 |.nm _=>DL _
 |.nu _=>DL _
 |.op _ a b=>by show 1<=_+_+1;omega
 |.pw a _=>by show 1<=_+1;omega
 |.ls a=>by show 1<=_+1;omega
theorem rd:∀T:Tr,kL T->sz T<=30->Rd T
 |.nm x,h,_=>by have g:G 3 1 x [CB x]:=.name h.1 h.2.1 h.2.2;exact⟨g.xN.oO.up1,λ_=>g.xN.oO,λ_=>.of g _,λ_=>g⟩
 |.nu n,h,_=>by have g:G 3 1 (dg n) [MX n]:=.num h;exact⟨g.xN.oO.up1,λ_=>g.xN.oO,λ_=>.of g _,λ_=>g⟩
 |.pw a e,h,c=>by have c:sz a+1<=30:=c;have i:=rd a h.2 (by omega);have f:su (sz a+1) (sz a+1) (br (bi a) 4 (txt a)++94::dg e) (stp a++[rL e]):=⟨0,_,_,_,_,Mo _,i.i4 (IV a),rfl,by simp,.inr ⟨e,h.1,rfl,rfl⟩⟩;have g:=f.g c;exact⟨g.oO.up1,λ_=>g.oO,λ_=>f,λz=>by cases z⟩
 |.ls a,h,c=>by have c:sz a+1<=30:=c;have i:=rd a h (by omega);have f:su (sz a+1) (sz a+1) (45::br (bi a) 2 (txt a)) (stp a++[pG]):=i.i2.less;have g:=f.g c;exact⟨g.oO.up1,λ_=>g.oO,λ_=>f,λz=>by cases z⟩
 |.op o a b,h,c=>by
  have c:sz a+sz b+1<=30:=c;have A:=b8 a;have y:=b8 b;have i:=rd a h.2.1 (by omega);have u:=rd b h.2.2 (by omega);have w:sz a+1<=sz a+sz b+1:=by omega
  have t:sz b+1<=sz a+sz b+1:=by omega
  have j:sz a<=sz a+sz b+1:=by omega
  by_cases l:o=43\/o=45
  .have d:bi (.op o a b)=0:=Do l;have r:txt (.op o a b)=txt a++(32::o::32::br (bi b) 1 (txt b)):=by show br (bi a) (bi (.op o a b)) (txt a)++(32::o::32::br (bi b) (bi (.op o a b)+1) (txt b))=_;rw[d];rfl
   have g:G 0 (sz a+sz b+1) (txt a++(32::o::32::br (bi b) 1 (txt b))) (stp a++(stp b++[vN o])):=by
    have g0:=i.g0.mono j;generalize txt a=s at g0⊢;generalize stp a=v at g0⊢;cases g0 with
    |sum p m=>have:=G.sum p (G.IM l (u.i1.mono t) m);simpa using this
   rw[<-r]at g;exact⟨g,λz=>by rw[d]at z;omega,λz=>by rw[d]at z;omega,λz=>by rw[d]at z;omega⟩
  .have k:o=42\/o=47:=by have:=h.1;omega
   have d:bi (.op o a b)=1:=Bn l;have r:txt (.op o a b)=br (bi a) 1 (txt a)++(32::o::32::br (bi b) 2 (txt b)):=by show br (bi a) (bi (.op o a b)) (txt a)++(32::o::32::br (bi b) (bi (.op o a b)+1) (txt b))=_;rw[d]
   have g:G 1 (sz a+sz b+1) (br (bi a) 1 (txt a)++(32::o::32::br (bi b) 2 (txt b))) (stp a++(stp b++[vN o])):=by
    have q:=i.i1.mono w;generalize br (bi a) 1 (txt a)=s at q⊢;generalize stp a=v at q⊢;cases q with
    |term p m=>have:=G.term p (G.IP k ((u.i2.g (by omega)).mono t) m);simpa using this
   rw[<-r]at g;exact⟨g.up1,λ_=>g,λz=>by rw[d]at z;omega,λz=>by rw[d]at z;omega⟩
theorem rO(b l:Nat)(s:List Nat):(br b l s).length<=s.length+2:=by
 unfold br;split
 .simp
 .omega
theorem cP:∀T:Tr,kL T->(txt T).length+7<=37*sz T
 |.nm x,h=>by have:=h.2.1;show x.length+7<=37*1;omega
 |.nu n,h=>by have:=gM (k:=30) (by decide) h;show(dg n).length+7<=37*1;omega
 |.op o a b,h=>by have d:=cP a h.2.1;have g:=cP b h.2.2;have c:=rO (bi a) (bi (.op o a b)) (txt a);have f:=rO (bi b) (bi (.op o a b)+1) (txt b);show(br (bi a) (bi (.op o a b)) (txt a)++(32::o::32::br (bi b) (bi (.op o a b)+1) (txt b))).length+7<=37*(sz a+sz b+1);simp only[B1,AE];omega
 |.pw a e,h=>by have d:=cP a h.2;have c:=rO (bi a) 4 (txt a);have f:=gM (m:=e) (k:=2) (by decide) (by have:=h.1;omega);show(br (bi a) 4 (txt a)++94::dg e).length+7<=37*(sz a+1);simp only[B1,AE];omega
 |.ls a,h=>by have d:=cP a h;have c:=rO (bi a) 2 (txt a);show(45::br (bi a) 2 (txt a)).length+7<=37*(sz a+1);simp only[AE];omega
end lF
namespace VL
open PySem PySem.Spec
open PyProof.Rows hiding St
open L2 Num lF
theorem qw{d:Nat->aU}{G:Nat->W}{D:Dn}{c:Ev}{i:Nat}{e:CE}{b:List CS}{l:List W}(he:∀Q:W->Prop,Q (.lst l)->wE d G (λ_=>False) e c Q)(h:fS (λw f a=>wSs d G b f (a.set i (some w))) D l c):wS d G (.fr [i] true e b) D c:=he _ h
noncomputable def IX:List CS:=[.set 5 (.bin .Mod (.bin .Add (.bin .Add (.bin .Mult (.var 5) (.int 39373)) (.bin .Mult (.bin .Mult (.int 7561) (.var 7)) (.var 7))) (.int 1013904223)) (.int 2147483647)),.iff (.cmp .Gt (.var 4) (.int 0)) [.app 6 (.bin .Mod (.var 4) (.bin .Pow (.int 10) (.int 6))),.set 4 (.bin .FloorDiv (.var 4) (.bin .Pow (.int 10) (.int 6)))] [.app 6 (.bin .Mod (.bin .Mod (.bin .Mult (.var 5) (.int 65539)) (.int 998244353)) (.bin .Pow (.int 10) (.int 6)))]]
noncomputable def CI:List CS:=[.set 3 (.int 0),.iff (.cmp .Lt (.var 1) (.blt .len [(.var 0)])) [.set 3 (.ix (.var 0) (.var 1))] [],.set 4 (.int 0),.iff (.or [(.cmp .Lt (.var 3) (.int 0)),(.cmp .GtE (.var 3) (.bin .Pow (.int 10) (.int 18)))]) [.set 4 (.blt .abs [(.var 3)])] [],.set 5 (.bin .Mod (.var 3) (.int 2147483647)),.set 6 (.lst []),.fr [7] true (.pS [(.var 2)]) IX,.ret (.var 6)]
noncomputable def CJ:aU:=λb Q _=>∃(c:List Int)(k n:Nat),b=[.cY c,.int k,.int n]/\n<=60/\∀a:List Int,a.length=n->(∀x∈a,0<=x/\x<1000000)->Q (wI a)
theorem QI{I:Nat->aU}{G:Nat->W}{m:Md}(E:List W)(Q:W->Prop)(R:Addr->Prop)(h:CJ E Q R):wSs I G CI (aZ m Q R) (aq 8 E):=by
 obtain⟨e,k,n,rfl,T,B⟩:=h;show wSs _ _ CI _ [some (.cY e),some (.int k),some (.int n),none,none,none,none,none];unfold CI;have F:((10:Int)^(6:Int).toNat).natAbs.log2<1000000000:=gU (n:=31) (by decide) (by decide);have v:((10:Int)^(6:Int).toNat)=1000000:=by decide
 refine aM (λa=>∃c:Int,a=[some (.cY e),some (.int k),some (.int n),some (.int c),none,none,none,none]) (λN d=>?_) ?_
 .fin2;exact d _ ⟨_,rfl⟩
 rintro _ ⟨c,rfl⟩;refine aM (λa=>∃c:Int,a=[some (.cY e),some (.int k),some (.int n),some (.int c),none,none,none,none]) (λN d=>?_) ?_
 .fin2;by_cases M:k<e.length
  .rw[Do (FC (by lia))];exact⟨_,L2.qJ (Dx M),d _ ⟨_,rfl⟩⟩
  .rw[Bn (by rw[Kj];lia)];exact d _ ⟨_,rfl⟩
 rintro _ ⟨c,rfl⟩;refine aM (λa=>a=[some (.cY e),some (.int k),some (.int n),some (.int c),some (.int 0),none,none,none]) (λN d=>?_) ?_
 .fin2;exact d _ rfl
 rintro _ rfl;refine aM (λa=>∃r:Int,a=[some (.cY e),some (.int k),some (.int n),some (.int c),some (.int r),none,none,none]) (λN d=>?_) ?_
 .fin2;split
  .exact d _ ⟨_,rfl⟩
  .refine⟨dS (by decide) (by decide) (by decide),?_⟩;split
   .exact d _ ⟨_,rfl⟩
   .exact d _ ⟨_,rfl⟩
 rintro _ ⟨r,rfl⟩;refine aM (λa=>∃x:Int,(0<=x/\x<2^31)/\a=[some (.cY e),some (.int k),some (.int n),some (.int c),some (.int r),some (.int x),none,none]) (λN d=>?_) ?_
 .have f:=fm (x:=c) (n:=2147483647) (by decide);fin2;exact⟨by decide,d _ ⟨_,⟨f.1,by lia⟩,rfl⟩⟩
 rintro _ ⟨x,⟨D,C⟩,rfl⟩;refine aM (λa=>a=[some (.cY e),some (.int k),some (.int n),some (.int c),some (.int r),some (.int x),some (wI []),none]) (λN d=>?_) ?_
 .fin2;exact⟨ay (by simp),d _ rfl⟩
 rintro _ rfl;refine aM (λa=>∃(r x:Int)(b:List Int)(j:Option W),(b.length=n/\∀x∈b,0<=x/\x<1000000)/\a=[some (.cY e),some (.int k),some (.int n),some (.int c),some (.int r),some (.int x),some (wI b),j]) (λN d=>?_) ?_
 .refine qw (l:=gi 0 1 n) (λQ B=>?_) ?_
  .fin2;exact⟨by lia,by lia,by rw[L0];exact B⟩
  refine iC (λi H=>∃(r x:Int)(b:List Int)(j:Option W),((0<=x/\x<2^31)/\b.length=i/\∀x∈b,0<=x/\x<1000000)/\H=[some (.cY e),some (.int k),some (.int n),some (.int c),some (.int r),some (.int x),some (wI b),j]) ⟨r,x,[],none,⟨⟨D,C⟩,rfl,λx A=>by cases A⟩,rfl⟩ ?_ ?_
  .rintro i w _ O L ⟨r,x,b,j,⟨⟨D,C⟩,p,s⟩,rfl⟩ P;obtain⟨U,rfl⟩:=CC L;have u:∀(r x y:Int),(0<=x/\x<2^31)->0<=y->y<1000000->O [some (.cY e),some (.int k),some (.int n),some (.int c),some (.int r),some (.int x),some (.lst (b.map W.int++[.int y])),some (.int i)]:=λr x y A K J=>by
    have o:=P [some (.cY e),some (.int k),some (.int n),some (.int c),some (.int r),some (.int x),some (wI (b++[y])),some (.int i)] ⟨r,x,b++[y],some (.int i),⟨A,by rw[B1,p];rfl,λz hz=>?_⟩,rfl⟩
    .unfold wI at o;rw[NA]at o;exact o
    .rcases FV.mp hz with hz|hz
     .exact s z hz
     .rw[Fn.mp hz];exact⟨K,J⟩
   unfold IX;refine aM (λa=>∃q:Int,(0<=q/\q<2^31)/\a=[some (.cY e),some (.int k),some (.int n),some (.int c),some (.int r),some (.int q),some (wI b),some (.int i)]) (λX S=>?_) ?_
   .have f:=fm (x:=x*39373+7561*(i:Int)*(i:Int)+1013904223) (n:=2147483647) (by decide);fin2;exact⟨dj (n:=31) (m:=16) (by lia) (by decide) (by decide),dj (n:=13) (m:=6) (by decide) (by lia) (by decide),dj (n:=19) (m:=6) (by lia) (by lia) (by decide),by decide,S _ ⟨_,⟨f.1,by lia⟩,rfl⟩⟩
   rintro _ ⟨q,t,rfl⟩;have g:(b.map W.int).length<sizeLine:=by rw[Fh];exact FR (m:=100) (by lia) (by decide)
   fin2;split
   .have f:=fm (x:=r) (n:=(10:Int)^(6:Int).toNat) (by decide);rw[v]at f⊢;exact⟨dS (by decide) (by decide) (by decide),by decide,g,dS (by decide) (by decide) (by decide),⟨by decide,by rw[v]at F;exact F⟩,u _ _ _ t f.1 f.2⟩
   .have f:=fm (x:=(q*65539).fmod 998244353) (n:=(10:Int)^(6:Int).toNat) (by decide);rw[v]at f⊢;exact⟨dj (n:=31) (m:=17) (by lia) (by decide) (by decide),by decide,dS (by decide) (by decide) (by decide),by decide,g,u _ _ _ t f.1 f.2⟩
  .rintro _ ⟨r,x,b,j,⟨_,p,s⟩,rfl⟩;rw[xP]at p;exact d _ ⟨r,x,b,j,⟨p,s⟩,rfl⟩
 rintro _ ⟨r,x,b,j,⟨p,s⟩,rfl⟩;exact B b p s
abbrev wX(x:List Nat):W:=.str (tx x)
noncomputable def CL:List CS:=[.set 4 (.bin .Add (.var 4) (.ix (.var 1) (.bin .Mod (.bin .FloorDiv (.var 3) (.var 5)) (.int 26))))]
noncomputable def CM:List CS:=[.set 4 (.str ""),.fr [5] true (.lst [(.int 8),(.int 208),(.int 5408)]) CL,.set 4 (.slt (.bin .Mult (.var 4) (.int 3)) .aI (.bin .Add (.int 1) (.bin .Mod (.var 3) (.int 8)))),.set 6 (.int 0),.NO (.cmp .In (.var 4) (.var 2)) [.set 4 (.ix (.var 1) (.var 6)),.set 6 (.bin .Add (.var 6) (.int 1))],.app 2 (.var 4)]
noncomputable def CN:List CS:=[.set 1 (.str "abcdefghijklmnopqrstuvwxyz"),.set 2 (.lst []),.fr [3] true (.var 0) CM,.ret (.var 2)]
noncomputable def CO:aU:=λc Q _=>∃a:List Int,c=[wI a]/\a.length<=3/\(∀x∈a,0<=x/\x<1000000)/\∀b:List (List Nat),b.length=a.length->(∀x∈b,lO x)->Q (.lst (b.map wX))
theorem Gy{r:Int}(b:0<=r)(d:r<26):∃c,ig lets r=some c/\isLet c:=by
 obtain⟨n,rfl⟩:=Nw b;have a:n<lets.length:=by show n<26;omega
 exact⟨lets[n],cN (Dx a),jK.mp (Os a)⟩
theorem W9{e:List (List Nat)}(h:e.length<=2)(f:[97]∈e)(c:[98]∈e)(d:[99]∈e):False:=by
 match e,h with
 |[],_=>cases f
 |[x],_=>have a:=Fn.mp f;have b:=Fn.mp c;rw[<-a]at b;cases b
 |[x,y],_=>simp only[Ee,PH,W1]at f c d;rcases f with rfl|rfl<;>rcases c with c|c<;>rcases d with d|d<;>first|(cases c;done)|(cases d;done)|(subst c;cases d;done)
 |_::_::_::_,h=>simp at h
theorem Na(w:List Nat)(a:List (List Nat)):decide (tx w∈a.map tx)=decide (w∈a):=UV.mpr ⟨λh=>by obtain⟨y,b,e⟩:=KB.mp h;rw[<-vm e];exact b,λh=>KB.mpr ⟨w,h,rfl⟩⟩
theorem Nb(l:List Nat)(k:Nat):oW l none (some (k:Int))=l.take k:=by
 unfold oW;have b:HT.bV l.length 0 none=0:=rfl;have a:HT.bV l.length l.length (some (k:Int))=min k l.length:=by unfold HT.bV;dsimp only;rw[Bn (by omega),L0]
 rw[b,a,YL,Rh,<-List.take_eq_take_min]
theorem QJ{U:Nat->aU}{G:Nat->W}{m:Md}(O:List W)(Q:W->Prop)(R:Addr->Prop)(h:CO O Q R):wSs U G CN (aZ m Q R) (aq 7 O):=by
 obtain⟨g,rfl,hl,hm,L⟩:=h;show wSs _ _ CN _ [some (wI g),none,none,none,none,none,none];unfold CN;fin2;refine⟨ay (by simp),?_⟩;show fS _ _ (g.map W.int) _;refine iC (λi F=>∃(d:List (List Nat))(o3 I b o:Option W),(d.length=i/\∀x∈d,lO x)/\F=[some (wI g),some (.str "abcdefghijklmnopqrstuvwxyz"),some (.lst (d.map wX)),o3,I,b,o]) ⟨[],none,none,none,none,⟨rfl,λx hx=>by cases hx⟩,rfl⟩ ?_ ?_
 .rintro i w _ N e ⟨d,o3,I,b,o,⟨C,H⟩,rfl⟩ hN;obtain⟨n,S,rfl⟩:∃n,g[i]?=some n/\w=.int n:=by rw[Hb]at e;obtain⟨n,e1,e2⟩:=Kb.mp e;exact⟨n,e1,e2.symm⟩
  have li:=(GT.mp S).1;have⟨n0,n1⟩:=hm n (Kx S);dsimp only[z8,Jh,List.set];unfold CM;refine aM (λa=>a=[some (wI g),some (.str "abcdefghijklmnopqrstuvwxyz"),some (.lst (d.map wX)),some (.int n),some (wX []),b,o]) (λE p=>?_) ?_
  .fin2;rw[xV];exact p _ rfl
  rintro _ rfl;refine aM (λa=>∃(u:List Nat)(b:Option W),(u.length=3/\∀c∈u,isLet c)/\a=[some (wI g),some (.str "abcdefghijklmnopqrstuvwxyz"),some (.lst (d.map wX)),some (.int n),some (wX u),b,o]) (λE p=>?_) ?_
  .refine qw (l:=[.int 8,.int 208,.int 5408]) (λQ L=>?_) ?_
   .fin2;exact⟨ay (by show 3<=1000;decide),L⟩
   refine iC (λi F=>∃(u:List Nat)(b:Option W),(u.length=i/\∀c∈u,isLet c)/\F=[some (wI g),some (.str "abcdefghijklmnopqrstuvwxyz"),some (.lst (d.map wX)),some (.int n),some (wX u),b,o]) ⟨[],b,⟨rfl,λc t=>by cases t⟩,rfl⟩ ?_ ?_
   .rintro j w _ N3 e ⟨u,b,⟨A,v⟩,rfl⟩ Xa;have⟨s,es,s0,s1⟩:∃s:Int,w=.int s/\0<s/\s<10000:=by
     match j,e with
     |0,e=>cases e;exact⟨8,rfl,by decide,by decide⟩
     |1,e=>cases e;exact⟨208,rfl,by decide,by decide⟩
     |2,e=>cases e;exact⟨5408,rfl,by decide,by decide⟩
     |j+3,e=>cases e
    subst es;have f:=fm (x:=n.fdiv s) (n:=26) (by decide);obtain⟨c,t,Y⟩:=Gy f.1 f.2;unfold CL;fin2;have lj:j<3:=(GT.mp e).1;refine⟨⟨by omega,gU (n:=14) (by omega) (by decide)⟩,by decide,ay (by rw[kK];show 26<=1000;decide),c,by rw[kK];exact t,ay (by show u.length+1<=1000;omega),?_⟩;rw[aY];exact Xa _ ⟨u++[c],_,⟨by simp[A],λz hz=>by
     rcases FV.mp hz with hz|hz
     .exact v z hz
     .rw[Fn.mp hz];exact Y⟩,rfl⟩
   .rintro _ ⟨u,b,⟨A,v⟩,rfl⟩;exact p _ ⟨u,b,⟨A,v⟩,rfl⟩
  rintro _ ⟨u,b,⟨A,v⟩,rfl⟩;refine aM (λa=>∃u:List Nat,lO u/\a=[some (wI g),some (.str "abcdefghijklmnopqrstuvwxyz"),some (.lst (d.map wX)),some (.int n),some (wX u),b,o]) (λE p=>?_) ?_
  .have f:=fm (x:=n) (n:=8) (by decide);fin2;obtain⟨q,K⟩:=Nw f.1;have P:(u++u++u).length=9:=by simp[A]
   refine⟨rfl,by omega,by decide,ay (by omega),p _ ⟨(u++u++u).take (1+q),⟨λz=>?_,?_,λc t=>?_⟩,?_⟩⟩
   .have:=Ki IY z;rw[Sr,P,Gw]at this;omega
   .rw[Sr,P];omega
   .have:=List.mem_of_mem_take t;simp only[FV,or_self]at this;exact v c this
   .rw[K,show((1:Int)+(q:Nat))=((1+q:Nat):Int) by omega,Nb]
  rintro _ ⟨u,J,rfl⟩;refine aM (λa=>a=[some (wI g),some (.str "abcdefghijklmnopqrstuvwxyz"),some (.lst (d.map wX)),some (.int n),some (wX u),b,some (.int 0)]) (λE p=>?_) ?_
  .fin2;exact p _ rfl
  rintro _ rfl;refine aM (λa=>∃(u:List Nat)(o:Option W),lO u/\a=[some (wI g),some (.str "abcdefghijklmnopqrstuvwxyz"),some (.lst (d.map wX)),some (.int n),some (wX u),b,o]) (λE p=>?_) ?_
  .fin2;refine Cz (α:=List Nat×Nat) (λs=>[some (wI g),some (.str "abcdefghijklmnopqrstuvwxyz"),some (.lst (d.map wX)),some (.int n),some (wX s.1),b,some (.int (s.2:Nat))]) (λs=>lO s.1/\s.2<=3/\(∀j,j+1<s.2->[97+j]∈d)/\(1<=s.2->s.1=[97+(s.2 -1)])) (λs=>3 -s.2) (u,0) rfl ⟨J,by show 0<=3;decide,λj z=>by simp at z,λz=>by simp at z⟩ ?_;rintro⟨u,k⟩ ⟨T,h2,D,M⟩;dsimp only at T h2 D M⊢;fin2;refine⟨d.map tx,by rw[RK];rfl,?_⟩;rw[Na];refine rK (λq=>?_) (λ_=>p _ ⟨u,_,T,rfl⟩);have r:=Ap q;have Z:k<=2:=by
    rcases OK k 3 with z|z
    .omega
    .have ek:k=3:=by omega
     subst ek;have:=M (by decide);rw[this]at r;exact(W9 (by omega) (D 0 (by decide)) (D 1 (by decide)) r).elim
   fin2;have X:k<lets.length:=by show k<26;omega
   have Xb:lets[k]=97+k:=by
    match k,Z with
    |0,_=>rfl
    |1,_=>rfl
    |2,_=>rfl
    |k+3,z=>omega
   refine⟨ay (by rw[kK];show 26<=1000;decide),97+k,by rw[kK];exact cN (by rw[jR,Dx X,Xb]),([97+k],k+1),rfl,⟨⟨by simp,by simp,λc t=>by rw[Fn.mp t];unfold isLet;omega⟩,by show k+1<=3;omega,λj z=>?_,λ_=>rfl⟩,by show 3 -(k+1)<3 -k;omega⟩;have z:j+1<k+1:=z;rcases OK (j+1) k with y|y
   .exact D j y
   .have:j=k -1:=by omega
    rw[this,<-M (by omega)];exact r
  rintro _ ⟨u,o,J,rfl⟩;fin2;have B:=hN [some (wI g),some (.str "abcdefghijklmnopqrstuvwxyz"),some (.lst ((d++[u]).map wX)),some (.int n),some (wX u),b,o] ⟨d++[u],_,_,_,_,⟨by simp[C],λz hz=>?_⟩,rfl⟩
  .rw[NA]at B;exact⟨FR (m:=100) (by rw[Fh];omega) (by decide),B⟩
  .rcases FV.mp hz with hz|hz
   .exact H z hz
   .rw[Fn.mp hz];exact J
 .rintro _ ⟨d,o3,I,b,o,⟨C,H⟩,rfl⟩;rw[Fh]at C;exact L d C H
abbrev It:=Tr×Int×Int×Int
noncomputable def iW(x:It):W:=.tup [wt x.1,.int x.2.1,.int x.2.2.1,.int x.2.2.2]
noncomputable def fV(x:Int):Prop:=0<=x/\x<=150
noncomputable def Gz(x:It):Prop:=kL x.1/\fV x.2.1/\fV x.2.2.1/\fV x.2.2.2
theorem ux{x:List Nat}(h:∀c∈x,c<1114112):PyData.strOk (tx x)=true:=by unfold PyData.strOk;rw[<-Array.all_toList,HI];intro c a;exact FC (h c a)
theorem Vr{x:List Nat}(h:lO x)(n:Nat):lI n (wX x)=true:=by
 have:PyData.strOk (tx x)=true:=ux λc a=>by have:=h.2.2 c a;unfold isLet at this;omega
 cases n<;>exact this
theorem TH{a:List (List Nat)}(h:∀x∈a,lO x):lI 9 (.lst (a.map wX))=true:=HI.mpr λw c=>by obtain⟨x,b,rfl⟩:=KB.mp c;exact Vr (h x b) 8
noncomputable def vS:List CS:=[.iff (.and [(.cmp .Lt (.bin .Mod (.var 0) (.int 5)) (.int 3)),(.cmp .NotEq (.var 1) (.lst []))]) [.ret (.tup [(.tup [(.str "name"),(.ix (.var 1) (.bin .Mod (.bin .FloorDiv (.var 0) (.int 5)) (.blt .len [(.var 1)])))]),(.int 1),(.int 0),(.int 1)])] [],.iff (.and [(.cmp .Eq (.bin .Mod (.var 0) (.int 5)) (.int 4)),(.cmp .Eq (.bin .Mod (.bin .FloorDiv (.var 0) (.int 5)) (.int 8)) (.int 0))]) [.set 2 (.bin .Add (.bin .Mult (.bin .Add (.var 0) (.int 1)) (.bin .Pow (.int 10) (.int 20))) (.bin .Mult (.var 0) (.int 7919))),.ret (.tup [(.tup [(.str "number"),(.var 2)]),(.int 0),(.int 0),(.int 30)])] [],.ret (.tup [(.tup [(.str "number"),(.bin .Mod (.bin .FloorDiv (.var 0) (.int 5)) (.ix (.lst [(.int 13),(.int 3),(.int 1000)]) (.bin .Mod (.bin .FloorDiv (.var 0) (.int 200)) (.int 3))))]),(.int 0),(.int 0),(.int 3)])]
noncomputable def CP:aU:=λb Q _=>∃(n:Int)(a:List (List Nat)),b=[.int n,.lst (a.map wX)]/\(0<=n/\n<125000)/\a.length<=3/\(∀x∈a,lO x)/\∀x:It,Gz x->sz x.1=1->Q (iW x)
theorem Xc(x:Int):∃k:Int,(1<=k/\k<=1000)/\ig [W.int 13,.int 3,.int 1000] (x.fmod 3)=some (.int k):=by
 have f:=fm (x:=x) (n:=3) (by decide);have:x.fmod 3=0\/x.fmod 3=1\/x.fmod 3=2:=by omega
 rcases this with e|e|e<;>rw[e]
 .exact⟨13,by omega,rfl⟩
 .exact⟨3,by omega,rfl⟩
 .exact⟨1000,by omega,rfl⟩
theorem s2{a b:W}:[a,b].length<=sizeLine:=ay (by show 2<=1000;decide)
theorem s3{a b c:W}:[a,b,c].length<=sizeLine:=ay (by show 3<=1000;decide)
theorem s4{a b c d:W}:[a,b,c,d].length<=sizeLine:=ay (by show 4<=1000;decide)
theorem i0:fV 0:=by unfold fV;omega
theorem i1:fV 1:=by unfold fV;omega
theorem i3:fV 3:=by unfold fV;omega
theorem Xd:fV 30:=by unfold fV;omega
theorem Nc{o:Nat->aU}{G:Nat->W}{m:Md}(r:List W)(Q:W->Prop)(R:Addr->Prop)(h:CP r Q R):wSs o G vS (aZ m Q R) (aq 3 r):=by
 obtain⟨n,a,rfl,⟨C,I⟩,J,t,w⟩:=h;have q:sR n 5:=⟨by decide,gU (n:=14) (by decide) (by decide)⟩;have F:sR n 200:=⟨by decide,gU (n:=14) (by decide) (by decide)⟩;have P:∀s:Int,0<s->0<=n.fdiv s:=λs O=>Tz C (by omega);have d:wSs o G [.iff (.and [(.cmp .Eq (.bin .Mod (.var 0) (.int 5)) (.int 4)),(.cmp .Eq (.bin .Mod (.bin .FloorDiv (.var 0) (.int 5)) (.int 8)) (.int 0))]) [.set 2 (.bin .Add (.bin .Mult (.bin .Add (.var 0) (.int 1)) (.bin .Pow (.int 10) (.int 20))) (.bin .Mult (.var 0) (.int 7919))),.ret (.tup [(.tup [(.str "number"),(.var 2)]),(.int 0),(.int 0),(.int 30)])] [],.ret (.tup [(.tup [(.str "number"),(.bin .Mod (.bin .FloorDiv (.var 0) (.int 5)) (.ix (.lst [(.int 13),(.int 3),(.int 1000)]) (.bin .Mod (.bin .FloorDiv (.var 0) (.int 200)) (.int 3))))]),(.int 0),(.int 0),(.int 3)])] (aZ m Q R) [some (.int n),some (.lst (a.map wX)),none]:=by
  have e:∀(v c:Int),0<=v->v<10^30->fV c->Q (.tup [.tup [.str "number",.int v],.int 0,.int 0,.int c]):=λv c A H D=>by obtain⟨k,rfl⟩:=Nw A;exact w (.nu k,0,0,c) ⟨by show k<10^30;omega,i0,i0,D⟩ rfl
  have g:wSs o G [.ret (.tup [(.tup [(.str "number"),(.bin .Mod (.bin .FloorDiv (.var 0) (.int 5)) (.ix (.lst [(.int 13),(.int 3),(.int 1000)]) (.bin .Mod (.bin .FloorDiv (.var 0) (.int 200)) (.int 3))))]),(.int 0),(.int 0),(.int 3)])] (aZ m Q R) [some (.int n),some (.lst (a.map wX)),none]:=by fin2;obtain⟨k,⟨M,L⟩,l⟩:=Xc (n.fdiv 200);have f:=fm (x:=n.fdiv 5) (n:=k) (by omega);exact⟨q,s3,F,by decide,_,l,by omega,s2,s4,e _ _ f.1 (Int.lt_of_lt_of_le f.2 (by omega)) i3⟩
  refine aM (λb=>b=[some (.int n),some (.lst (a.map wX)),none]) (λN i=>?_) (by rintro _ rfl;exact g);fin2;refine⟨by decide,?_⟩;have p:uR 10 20/\IntMulOk (n+1) (10^(20:Int).toNat)/\IntMulOk n 7919/\[W.str "number",W.int ((n+1)*10^(20:Int).toNat+n*7919)].length<=sizeLine/\[W.tup [W.str "number",W.int ((n+1)*10^(20:Int).toNat+n*7919)],W.int 0,W.int 0,W.int 30].length<=sizeLine/\Q (.tup [.tup [.str "number",.int ((n+1)*10^(20:Int).toNat+n*7919)],.int 0,.int 0,.int 30]):=by
   have E:((10:Int)^(20:Int).toNat)=100000000000000000000:=by decide
   rw[E];refine⟨dS (by decide) (by decide) (by decide),dj (n:=20) (m:=70) (by omega) (by decide) (by decide),dj (n:=20) (m:=14) (by omega) (by decide) (by decide),s2,s4,e _ _ (by omega) (by omega) Xd⟩
  split
  .refine⟨q,by decide,?_⟩;split
   .exact p
   .exact i _ rfl
  .exact i _ rfl
 show wSs _ _ vS _ [some (.int n),some (.lst (a.map wX)),none];unfold vS;refine aM (λb=>b=[some (.int n),some (.lst (a.map wX)),none]) (λN i=>?_) (by rintro _ rfl;exact d);fin2;refine⟨by decide,?_⟩;split
 .refine⟨ay (by show 0<=1000;decide),.inl ⟨TH t,rfl⟩,λk l=>?_⟩;cases k with
  |true=>exact i _ rfl
  |false=>
   have B:a≠[]:=λz=>by rw[z]at l;have:=l.mpr rfl;cases this
   have K:0<a.length:=T1.mpr B;have f:=fm (x:=n.fdiv 5) (n:=((a.map wX).length:Nat)) (by rw[Fh];omega);obtain⟨j,y⟩:=Nw f.1;have u:j<a.length:=by have:=f.2;rw[y,Fh]at this;omega
   refine⟨q,by rw[Fh];omega,wX a[j],?_,s2,s4,w (.nm a[j],1,0,1) ⟨t _ (Os u),i1,i0,i1⟩ rfl⟩;rw[y];exact cN (by rw[Hb,Dx u];rfl)
 .exact i _ rfl
noncomputable def nV:List CS:=[.iff (.or [(.cmp .Eq (.var 0) (.str "+")),(.cmp .Eq (.var 0) (.str "-"))]) [.set 3 (.blt .max2 [(.bin .Add (.ix (.var 1) (.int 1)) (.ix (.var 2) (.int 2))),(.bin .Add (.ix (.var 2) (.int 1)) (.ix (.var 1) (.int 2)))]),.ret (.tup [(.tup [(.var 0),(.ix (.var 1) (.int 0)),(.ix (.var 2) (.int 0))]),(.var 3),(.bin .Add (.ix (.var 1) (.int 2)) (.ix (.var 2) (.int 2))),(.bin .Add (.bin .Add (.ix (.var 1) (.int 3)) (.ix (.var 2) (.int 3))) (.int 1))])] [],.iff (.cmp .Eq (.var 0) (.str "*")) [.ret (.tup [(.tup [(.var 0),(.ix (.var 1) (.int 0)),(.ix (.var 2) (.int 0))]),(.bin .Add (.ix (.var 1) (.int 1)) (.ix (.var 2) (.int 1))),(.bin .Add (.ix (.var 1) (.int 2)) (.ix (.var 2) (.int 2))),(.bin .Add (.ix (.var 1) (.int 3)) (.ix (.var 2) (.int 3)))])] [],.ret (.tup [(.tup [(.var 0),(.ix (.var 1) (.int 0)),(.ix (.var 2) (.int 0))]),(.bin .Add (.ix (.var 1) (.int 1)) (.ix (.var 2) (.int 2))),(.bin .Add (.ix (.var 1) (.int 2)) (.ix (.var 2) (.int 1))),(.bin .Add (.ix (.var 1) (.int 3)) (.ix (.var 2) (.int 3)))])]
noncomputable def GA(x:It):Prop:=0<=x.2.1/\0<=x.2.2.1/\0<=x.2.2.2
noncomputable def l8:aU:=λd Q _=>∃(o:Nat)(x y:It),d=[.str (tx [o]),iW x,iW y]/\GA x/\GA y/\∀a b c:Int,GA (.op o x.1 y.1,a,b,c)->Q (iW (.op o x.1 y.1,a,b,c))
theorem CQ{f:Nat->aU}{G:Nat->W}{m:Md}(d:List W)(Q:W->Prop)(R:Addr->Prop)(h:l8 d Q R):wSs f G nV (aZ m Q R) (aq 4 d):=by
 obtain⟨o,x,y,rfl,⟨n,l,k⟩,⟨j,i,g⟩,c⟩:=h;show wSs _ _ nV _ [some _,some _,some _,none];unfold nV iW;fin2;have e:∀a b:Int,0<=a->0<=(if b>a then b else a):=λa b h=>by split<;>omega
 split
 .exact⟨_,rfl,_,rfl,_,rfl,_,rfl,_,rfl,_,rfl,s3,_,rfl,_,rfl,_,rfl,_,rfl,s4,c _ _ _ ⟨e _ _ (by omega),by show 0<=_+_;omega,by show 0<=_+_+1;omega⟩⟩
 .split
  .exact⟨_,rfl,_,rfl,_,rfl,_,rfl,_,rfl,_,rfl,s3,_,rfl,_,rfl,_,rfl,_,rfl,s4,c _ _ _ ⟨e _ _ (by omega),by show 0<=_+_;omega,by show 0<=_+_+1;omega⟩⟩
  .split
   .exact⟨_,rfl,_,rfl,s3,_,rfl,_,rfl,_,rfl,_,rfl,_,rfl,_,rfl,s4,c _ _ _ ⟨by show 0<=_+_;omega,by show 0<=_+_;omega,by show 0<=_+_;omega⟩⟩
   .exact⟨_,rfl,_,rfl,s3,_,rfl,_,rfl,_,rfl,_,rfl,_,rfl,_,rfl,s4,c _ _ _ ⟨by show 0<=_+_;omega,by show 0<=_+_;omega,by show 0<=_+_;omega⟩⟩
noncomputable def vU:List CS:=[.ret (.and [(.cmp .LtE (.blt .max2 [(.ix (.var 0) (.int 1)),(.ix (.var 0) (.int 2))]) (.var 1)),(.cmp .LtE (.ix (.var 0) (.int 3)) (.int 150))])]
noncomputable def xY:aU:=λa Q _=>∃(x:It)(k:Int),a=[iW x,.int k]/\∀b:Bool,(b=true->x.2.1<=k/\x.2.2.1<=k/\x.2.2.2<=150)->Q (.bl b)
theorem Nd{d:Nat->aU}{G:Nat->W}{m:Md}(b:List W)(Q:W->Prop)(R:Addr->Prop)(h:xY b Q R):wSs d G vU (aZ m Q R) (aq 2 b):=by
 obtain⟨x,k,rfl,c⟩:=h;show wSs _ _ vU _ [some _,some _];unfold vU iW;fin2;refine⟨_,rfl,_,rfl,?_⟩;fin2;by_cases a:(if x.2.2.1>x.2.1 then x.2.2.1 else x.2.1)<=k
 .rw[Do (FC a)];refine⟨_,rfl,c _ λz=>?_⟩;have z:=Ap z;split at a<;>exact⟨by omega,by omega,z⟩
 .rw[Bn (by rw[Kj];exact a)];exact c _ λz=>by cases z
theorem rP{α:Type}(l r:List α)(x:α){i:Int}(a:i= -((r.length+1:Nat):Int)):ig (l++x::r) i=some x:=by
 unfold ig AO;rw[Bn (by omega),Do (by simp;omega)];have:(i+((l++x::r).length:Nat)).toNat=l.length:=by simp;omega
 rw[this];show(l++x::r)[l.length]?=some x;rw[IH (DL _),Rn];rfl
theorem rQ(l r:List W){i:Int}(a:r≠[])(e:i= -(r.length:Nat)):kh (l++r) none (some i)=l:=by
 have d:0<r.length:=T1.mpr a;unfold kh;have c:HT.bV (l++r).length 0 none=0:=rfl;have b:HT.bV (l++r).length (l++r).length (some i)=l.length:=by show(if i<0 then(i+((l++r).length:Nat)).toNat else min i.toNat (l++r).length)=_;rw[Do (by omega),B1];omega
 rw[c,b,YL,Rh,Tn]
theorem RA{s:Str}(n:Nat)(h:PyData.strOk s=true):lI n (.str s)=true:=by cases n<;>exact h
theorem Vs(n:Nat)(i:Int):lI n (.int i)=true:=by cases n<;>rfl
theorem QK:∀(T:Tr)(n:Nat),kL T->sz T<=n->lI n (wt T)=true
 |.nm x,n+1,h,_=>by show[W.str "name",wX x].all (lI n)=true;rw[AU,AU,Vr h n,RA n (by decide+kernel)];rfl
 |.nu k,n+1,h,_=>by show[W.str "number",W.int k].all (lI n)=true;rw[AU,AU,Vs,RA n (by decide+kernel)];rfl
 |.op o a b,n+1,h,d=>by
  have d:sz a+sz b+1<=n+1:=d;show[W.str (tx [o]),wt a,wt b].all (lI n)=true;rw[AU,AU,AU,QK a n h.2.1 (by omega),QK b n h.2.2 (by omega)];have:PyData.strOk (tx [o])=true:=ux λc f=>by rw[Fn.mp f];have:=h.1;omega
  have:lI n (.str (tx [o]))=true:=by cases n<;>exact this
  rw[this];rfl
 |.pw a e,n+1,h,d=>by have d:sz a+1<=n+1:=d;show[W.str "^",wt a,W.int e].all (lI n)=true;rw[AU,AU,AU,QK a n h.2 (by omega),Vs,RA n (by decide+kernel)];rfl
 |.ls a,n+1,h,d=>by have d:sz a+1<=n+1:=d;show[W.str "less",wt a].all (lI n)=true;rw[AU,AU,QK a n h (by omega),RA n (by decide+kernel)];rfl
 |T,0,_,d=>by have:=b8 T;omega
noncomputable def iI(L:List It):Nat:=(L.map λx=>sz x.1).sum
theorem iF(a b:List It):iI (a++b)=iI a+iI b:=by unfold iI;rw[NA,List.sum_append]
theorem GB{L:List It}{x:It}(h:x∈L):sz x.1<=iI L:=by obtain⟨a,b,rfl⟩:=List.append_of_mem h;rw[iF];show _<=_+((x::b).map λx=>sz x.1).sum;rw[Ha,UD];omega
theorem Xf{L:List It}(h:∀x∈L,Gz x)(c:iI L<=50):lI 60 (.lst (L.map iW))=true:=HI.mpr λw b=>by obtain⟨x,a,rfl⟩:=KB.mp b;have:=GB a;show[wt x.1,W.int x.2.1,.int x.2.2.1,.int x.2.2.2].all (lI 58)=true;rw[AU,QK x.1 58 (h x a).1 (by omega)];rfl
noncomputable def IZ:CS:=.iff (.and [(.cmp .Gt (.var 4) (.int 2)),(.cmp .Lt (.var 4) (.int 6)),(.cmp .Gt (.blt .len [(.var 0)]) (.int 1))]) [.set 6 (.call 0 [(.ix (.str "+-*/") (.bin .Mod (.var 5) (.int 4))),(.ix (.var 0) (.neg (.int 2))),(.ix (.var 0) (.neg (.int 1)))]),.iff (.call 1 [(.var 6),(.var 3)]) [.ret (.bin .Add (.sl (.var 0) .aI (.neg (.int 2))) (.lst [(.var 6)]))] []] []
noncomputable def I0:CS:=.iff (.and [(.cmp .Eq (.var 4) (.int 6)),(.cmp .NotEq (.var 0) (.lst []))]) [.NN [7,8,9,10] (.ix (.var 0) (.neg (.int 1))),.set 11 (.ix (.lst [(.int 2),(.int 3),(.int 0),(.int 1),(.bin .Mod (.bin .FloorDiv (.var 5) (.int 5)) (.int 13))]) (.bin .Mod (.var 5) (.int 5))),.set 6 (.tup [(.tup [(.str "^"),(.var 7),(.var 11)]),(.bin .Mult (.var 8) (.var 11)),(.bin .Mult (.var 9) (.var 11)),(.bin .Mult (.var 10) (.blt .max2 [(.int 1),(.var 11)]))]),.iff (.call 1 [(.var 6),(.var 3)]) [.ret (.bin .Add (.sl (.var 0) .aI (.neg (.int 1))) (.lst [(.var 6)]))] []] []
noncomputable def Ja:CS:=.iff (.and [(.cmp .Eq (.var 4) (.int 7)),(.cmp .NotEq (.var 0) (.lst []))]) [.ret (.bin .Add (.sl (.var 0) .aI (.neg (.int 1))) (.lst [(.bin .Add (.tup [(.tup [(.str "less"),(.ix (.ix (.var 0) (.neg (.int 1))) (.int 0))])]) (.slt (.ix (.var 0) (.neg (.int 1))) (.int 1) .aI))]))] []
noncomputable def nW:List CS:=[.set 4 (.bin .Mod (.var 1) (.int 8)),.set 5 (.bin .FloorDiv (.var 1) (.int 8)),IZ,I0,Ja,.ret (.bin .Add (.var 0) (.lst [(.call 2 [(.var 5),(.var 2)])]))]
noncomputable def rR:aU:=λc Q _=>∃(L:List It)(n k:Int)(b:List (List Nat)),c=[.lst (L.map iW),.int n,.lst (b.map wX),.int k]/\(∀x∈L,Gz x)/\iI L<=20/\(0<=n/\n<1000000)/\b.length<=3/\(∀x∈b,lO x)/\(0<=k/\k<=12)/\∀a:List It,(∀x∈a,Gz x)->a≠[]->iI a<=iI L+1->Q (.lst (a.map iW))
theorem mh:∀L:List It,L.length<=iI L
 |[]=>DL _
 |x::L=>by have:=mh L;have:=b8 x.1;show L.length+1<=((x::L).map λx=>sz x.1).sum;rw[Ha,UD];show L.length+1<=sz x.1+iI L;omega
theorem CT(r:Int):∃o,(o=43\/o=45\/o=42\/o=47)/\ig ("+-*/":Str).cps.toList (r.fmod 4)=some o:=by
 have f:=fm (x:=r) (n:=4) (by decide);have e:("+-*/":Str).cps.toList=[43,45,42,47]:=by decide+kernel
 rw[e];have:r.fmod 4=0\/r.fmod 4=1\/r.fmod 4=2\/r.fmod 4=3:=by omega
 rcases this with h|h|h|h<;>rw[h]
 .exact⟨43,by omega,rfl⟩
 .exact⟨45,by omega,rfl⟩
 .exact⟨42,by omega,rfl⟩
 .exact⟨47,by omega,rfl⟩
theorem Xg(r x:Int)(a:0<=x)(b:x<13):∃e:Nat,e<=12/\ig [W.int 2,.int 3,.int 0,.int 1,.int x] (r.fmod 5)=some (.int e):=by
 have f:=fm (x:=r) (n:=5) (by decide);have:r.fmod 5=0\/r.fmod 5=1\/r.fmod 5=2\/r.fmod 5=3\/r.fmod 5=4:=by omega
 obtain⟨j,rfl⟩:=Nw a;rcases this with h|h|h|h|h<;>rw[h]
 .exact⟨2,by omega,rfl⟩
 .exact⟨3,by omega,rfl⟩
 .exact⟨0,by omega,rfl⟩
 .exact⟨1,by omega,rfl⟩
 .exact⟨j,by omega,rfl⟩
theorem CU{G:Nat->W}{m:Md}(Z:List W)(Q:W->Prop)(R:Addr->Prop)(h:rR Z Q R):wSs (bK [l8,xY,CP]) G nW (aZ m Q R) (aq 12 Z):=by
 obtain⟨L,n,k,s,rfl,u,hz,⟨n0,n1⟩,lx,px,⟨k0,k1⟩,hq⟩:=h;have ln:=mh L;show wSs _ _ nW _ [some (.lst (L.map iW)),some (.int n),some (.lst (s.map wX)),some (.int k),none,none,none,none,none,none,none,none];unfold nW;refine aM (λj=>∃w:Int,j=[some (.lst (L.map iW)),some (.int n),some (.lst (s.map wX)),some (.int k),some (.int w),none,none,none,none,none,none,none]) (λN p=>?_) ?_
 .fin2;exact⟨by decide,p _ ⟨_,rfl⟩⟩
 rintro _ ⟨w,rfl⟩;refine aM (λj=>∃r:Int,(0<=r/\r<125000)/\j=[some (.lst (L.map iW)),some (.int n),some (.lst (s.map wX)),some (.int k),some (.int w),some (.int r),none,none,none,none,none,none]) (λN p=>?_) ?_
 .fin2;refine⟨⟨by decide,gU (n:=14) (by decide) (by decide)⟩,p _ ⟨_,⟨Tz n0 (by decide),?_⟩,rfl⟩⟩;rw[SZ _ (by decide)];omega
 rintro _ ⟨r,⟨r0,r1⟩,rfl⟩;have Vt:∀{Q:W->Prop},(∀b:Bool,(b=true->∃g y,L=g++[y])->Q (.bl b))->dM .NotEq (.lst (L.map iW)) (.lst []) Q:=λ{Q} hQ=>by
  refine⟨.inr (.inr ⟨Xf u (by omega),rfl⟩),λb hb=>hQ (!b) λz=>?_⟩;have bf:b=false:=by cases b;rfl;cases z
  rcases YJ L with e|⟨g,y,e⟩
  .rw[e]at hb;rw[hb.mpr rfl]at bf;cases bf
  .exact⟨g,y,by rw[e,List.concat_eq_append]⟩
 have q:∀(g:List It)(x:It),iI g+sz x.1<=iI L+1->(∀y∈g,Gz y)->Gz x->(g.map iW).length+[iW x].length<=sizeLine/\Q (.lst (g.map iW++[iW x])):=λg x hs h0 T=>by
  have l0:=mh g;refine⟨ay (by rw[Fh];show g.length+1<=1000;omega),?_⟩;have:=hq (g++[x]) (λy D=>by
   rcases FV.mp D with D|D
   .exact h0 y D
   .rw[Fn.mp D];exact T) (by simp) (by rw[iF];unfold iI at hs⊢;simpa using hs)
  rw[NA]at this;exact this
 refine aM (λj=>∃C,j=[some (.lst (L.map iW)),some (.int n),some (.lst (s.map wX)),some (.int k),some (.int w),some (.int r),C,none,none,none,none,none]) (λN p=>?_) ?_
 .unfold IZ;fin2;split;rotate_left
  .exact p _ ⟨_,rfl⟩
  split;rotate_left
  .exact p _ ⟨_,rfl⟩
  split;rotate_left
  .exact p _ ⟨_,rfl⟩
  rename_i v
  have v:=Ap v;obtain⟨g,x,y,rfl⟩:∃g x y,L=g++[x,y]:=by
   rw[Fh]at v;rcases YJ L with e|⟨L1,y,e⟩
   .rw[e]at v;simp at v
   .rcases YJ L1 with Y|⟨g,x,Y⟩
    .rw[e,Y]at v;simp at v
    .exact⟨g,x,y,by rw[e,Y];simp⟩
  obtain⟨o,ho,t⟩:=CT r;have J:∀z∈g++[x,y],Gz z:=u;have H:=J x (by simp);have l:=J y (by simp);have Xh:iI (g++[x,y])=iI g+(sz x.1+sz y.1):=by rw[iF];unfold iI;simp
  refine⟨by decide,ay (by decide+kernel),o,t,iW x,by rw[NA];exact rP (g.map iW) [iW y] _ rfl,iW y,by rw[NA];have:=rP (g.map iW++[iW x]) [] (iW y) (i:= -1) rfl;simpa using this,o,x,y,rfl,⟨H.2.1.1,H.2.2.1.1,H.2.2.2.1⟩,⟨l.2.1.1,l.2.2.1.1,l.2.2.2.1⟩,λa b c U=>⟨(.op o x.1 y.1,a,b,c),k,rfl,λA B=>?_⟩⟩;cases A with
  |false=>exact p _ ⟨_,rfl⟩
  |true=>obtain⟨F,E,X⟩:=B rfl;have F:a<=k:=F;have E:b<=k:=E;have d:=q g (.op o x.1 y.1,a,b,c) (by rw[Xh];show iI g+(sz x.1+sz y.1+1)<=_;omega) (λz hz=>J z (by simp[hz])) ⟨⟨ho,H.1,l.1⟩,⟨U.1,by show a<=150;omega⟩,⟨U.2.1,by show b<=150;omega⟩,⟨U.2.2,X⟩⟩;show[iW _].length<=sizeLine/\_;refine⟨ay (by show 1<=1000;decide),?_⟩;rw[NA,show kh (g.map iW++[x,y].map iW) none (some (-2))=g.map iW from rQ _ _ (by simp) rfl];exact d
 rintro _ ⟨C,rfl⟩;refine aM (λj=>∃C S P O M K,j=[some (.lst (L.map iW)),some (.int n),some (.lst (s.map wX)),some (.int k),some (.int w),some (.int r),C,S,P,O,M,K]) (λN p=>?_) ?_
 .unfold I0;fin2;split;rotate_left
  .exact p _ ⟨_,_,_,_,_,_,rfl⟩
  refine⟨ay (by show 0<=1000;decide),Vt λA B=>?_⟩;cases A with
  |false=>exact p _ ⟨_,_,_,_,_,_,rfl⟩
  |true=>
   obtain⟨g,y,rfl⟩:=B rfl;have l:=u y (by simp);have I:iI (g++[y])=iI g+sz y.1:=by rw[iF];unfold iI;simp
   refine⟨iW y,by rw[NA];exact rP (g.map iW) [] _ rfl,rfl,?_⟩;fin2;have f:=fm (x:=r.fdiv 5) (n:=13) (by decide);obtain⟨e,he,t⟩:=Xg r _ f.1 f.2;have mk:∀z:Int,fV z->IntMulOk z e:=λz hz=>dj (n:=8) (m:=4) (by have:=hz.1;have:=hz.2;omega) (by omega) (by decide);refine⟨⟨by decide,gU (n:=14) (by decide) (by decide)⟩,by decide,ay (by show 5<=1000;decide),by decide,_,t,?_⟩;fin2;have mx:(if(e:Int)>1 then(e:Int)else 1)=((max 1 e:Nat):Int):=by split<;>omega
   refine⟨s3,mk _ l.2.1,mk _ l.2.2.1,?_⟩;rw[mx];refine⟨dj (n:=8) (m:=4) (by have:=l.2.2.2.1;have:=l.2.2.2.2;omega) (by omega) (by decide),s4,(.pw y.1 e,y.2.1*e,y.2.2.1*e,y.2.2.2*(max 1 e:Nat)),k,rfl,λA B=>?_⟩;cases A with
   |false=>exact p _ ⟨_,_,_,_,_,_,rfl⟩
   |true=>obtain⟨F,E,X⟩:=B rfl;have F:y.2.1*e<=k:=F;have E:y.2.2.1*e<=k:=E;have d:=q g (.pw y.1 e,y.2.1*e,y.2.2.1*e,y.2.2.2*(max 1 e:Nat)) (by rw[I];show iI g+(sz y.1+1)<=_;omega) (λz hz=>u z (by simp[hz])) ⟨⟨he,l.1⟩,⟨Qa l.2.1.1 (by omega),by show y.2.1*e<=150;omega⟩,⟨Qa l.2.2.1.1 (by omega),by show y.2.2.1*e<=150;omega⟩,⟨Qa l.2.2.2.1 (by omega),X⟩⟩;refine⟨ay (by show 1<=1000;decide),?_⟩;rw[NA,show kh (g.map iW++[y].map iW) none (some (-1))=g.map iW from rQ _ _ (by simp) rfl];exact d
 rintro _ ⟨C,S,P,O,M,K,rfl⟩;refine aM (λj=>j=[some (.lst (L.map iW)),some (.int n),some (.lst (s.map wX)),some (.int k),some (.int w),some (.int r),C,S,P,O,M,K]) (λN p=>?_) ?_
 .unfold Ja;fin2;split;rotate_left
  .exact p _ rfl
  refine⟨ay (by show 0<=1000;decide),Vt λA B=>?_⟩;cases A with
  |false=>exact p _ rfl
  |true=>
   obtain⟨g,y,rfl⟩:=B rfl;have l:=u y (by simp);have I:iI (g++[y])=iI g+sz y.1:=by rw[iF];unfold iI;simp
   have a1:ig ((g++[y]).map iW) (-1)=some (iW y):=by rw[NA];exact rP (g.map iW) [] _ rfl
   have d:=q g (.ls y.1,y.2.1,y.2.2.1,y.2.2.2) (by rw[I];show iI g+(sz y.1+1)<=_;omega) (λz hz=>u z (by simp[hz])) ⟨l.1,l.2⟩;refine⟨iW y,a1,_,rfl,s2,ay (by show 1<=1000;decide),iW y,a1,(by show¬(1=0/\_);omega),(by simp),(by show 1+3<=sizeLine;exact ay (by decide)),ay (by show 1<=1000;decide),?_⟩;rw[NA,show kh (g.map iW++[y].map iW) none (some (-1))=g.map iW from rQ _ _ (by simp) rfl];exact d
 rintro _ rfl;fin2;refine⟨r,s,rfl,⟨r0,r1⟩,lx,px,λx T sx=>?_⟩;exact⟨ay (by show 1<=1000;decide),q L x (by omega) u T⟩
noncomputable def Jb:List CS:=[.set 3 (.call 0 [(.var 3),(.var 4),(.var 1),(.var 2)])]
noncomputable def Jc:List CS:=[.set 7 (.call 1 [(.ix (.str "+-*/") (.bin .Mod (.bin .Add (.blt .len [(.var 0)]) (.var 6)) (.int 4))),(.var 5),(.ix (.var 3) (.var 6))]),.iff (.call 2 [(.var 7),(.var 2)]) [.set 5 (.var 7)] []]
noncomputable def rS:List CS:=[.set 3 (.lst []),.fr [4] true (.var 0) Jb,.set 5 (.ix (.var 3) (.int 0)),.fr [6] true (.pS [(.int 1),(.blt .len [(.var 3)])]) Jc,.ret (.ix (.var 5) (.int 0))]
noncomputable def nX:aU:=λc Q _=>∃(a:List Int)(b:List (List Nat))(k:Int),c=[wI a,.lst (b.map wX),.int k]/\(1<=a.length/\a.length<=14)/\(∀x∈a,0<=x/\x<1000000)/\b.length<=3/\(∀x∈b,lO x)/\(0<=k/\k<=12)/\∀T:Tr,kL T->sz T<=27->Q (wt T)
theorem uy(L:List It)(i:Nat)(h:i<L.length):iI (L.take (i+1))=iI (L.take i)+sz L[i].1:=by rw[List.take_succ,Dx h,iF];unfold iI;simp
theorem uz(n:Nat){a b:Int}:(gi a b n).length=n:=by unfold gi;simp
theorem GC{G:Nat->W}{m:Md}(I:List W)(Q:W->Prop)(R:Addr->Prop)(h:nX I Q R):wSs (bK [rR,l8,xY]) G rS (aZ m Q R) (aq 8 I):=by
 obtain⟨f,q,k,rfl,⟨m1,Yz⟩,Z,P,M,⟨T,S⟩,y⟩:=h;show wSs _ _ rS _ [some (wI f),some (.lst (q.map wX)),some (.int k),none,none,none,none,none];unfold rS;refine aM (λd=>d=[some (wI f),some (.lst (q.map wX)),some (.int k),some (.lst []),none,none,none,none]) (λN t=>?_) ?_
 .fin2;exact⟨ay (by show 0<=1000;decide),t _ rfl⟩
 rintro _ rfl;refine aM (λd=>∃(L:List It)(e:Option W),((∀x∈L,Gz x)/\L≠[]/\iI L<=14)/\d=[some (wI f),some (.lst (q.map wX)),some (.int k),some (.lst (L.map iW)),e,none,none,none]) (λN t=>?_) ?_
 .refine qw (l:=f.map W.int) (λQ y=>?_) ?_
  .fin2;exact y
  refine iC (λi D=>∃(L:List It)(e:Option W),((∀x∈L,Gz x)/\(0<i->L≠[])/\iI L<=i)/\D=[some (wI f),some (.lst (q.map wX)),some (.int k),some (.lst (L.map iW)),e,none,none,none]) ⟨[],none,⟨(λx U=>by cases U),(λz=>by omega),DL _⟩,rfl⟩ ?_ ?_
  .rintro i w _ N1 j ⟨L,e,⟨g,p,v⟩,rfl⟩ C;obtain⟨n,K,rfl⟩:∃n,f[i]?=some n/\w=.int n:=by rw[Hb]at j;obtain⟨n,e1,e2⟩:=Kb.mp j;exact⟨n,e1,e2.symm⟩
   have E:=(GT.mp K).1;unfold Jb;fin2;exact⟨L,n,k,q,rfl,g,by omega,Z n (Kx K),P,M,⟨T,S⟩,λL' a b c=>C _ ⟨L',_,⟨a,λ_=>b,by omega⟩,rfl⟩⟩
  .rintro _ ⟨L,e,⟨g,p,v⟩,rfl⟩;rw[Fh]at p v;exact t _ ⟨L,e,⟨g,p (by omega),by omega⟩,rfl⟩
 rintro _ ⟨L,e,⟨A,O,hz⟩,rfl⟩;have u:0<L.length:=T1.mpr O;have ll:=mh L;refine aM (λd=>d=[some (wI f),some (.lst (q.map wX)),some (.int k),some (.lst (L.map iW)),e,some (iW L[0]),none,none]) (λN t=>?_) ?_
 .fin2;exact⟨_,cN (n:=0) (by rw[Hb,Dx u];rfl),t _ rfl⟩
 rintro _ rfl;refine aM (λd=>∃(x:It)(s r:Option W),(kL x.1/\sz x.1<=27)/\d=[some (wI f),some (.lst (q.map wX)),some (.int k),some (.lst (L.map iW)),e,some (iW x),s,r]) (λN t=>?_) ?_
 .refine qw (l:=gi 1 1 (L.length -1)) (λQ y=>?_) ?_
  .fin2;refine⟨⟨by decide,by decide,by omega,by rw[Fh];omega⟩,?_⟩;rw[show(((L.map iW).length:Nat) -1:Int).toNat=L.length -1 by rw[Fh];omega];exact y
  refine iC (λi D=>∃(x:It)(s r:Option W),((kL x.1/\GA x)/\sz x.1<=iI (L.take (i+1))+i)/\D=[some (wI f),some (.lst (q.map wX)),some (.int k),some (.lst (L.map iW)),e,some (iW x),s,r]) ⟨L[0],none,none,⟨⟨(A _ (Os u)).1,(A _ (Os u)).2.1.1,(A _ (Os u)).2.2.1.1,(A _ (Os u)).2.2.2.1⟩,by rw[uy L 0 u];show _<=iI []+_+0;omega⟩,rfl⟩ ?_ ?_
  .rintro i w _ N1 j ⟨x,s,r,⟨⟨g,p⟩,v⟩,rfl⟩ C;have E:=(GT.mp j).1;rw[uz]at E;obtain rfl:w=.int ((i+1:Nat):Int):=by unfold gi at j;rw[Hb,S7 E]at j;have j:some (W.int (1+(i:Int)*1))=some w:=j;rw[<-Hn j,show(1+(i:Int)*1)=((i+1:Nat):Int) by omega]
   have F:i+1<L.length:=by omega
   have B:=A _ (Os F);obtain⟨o,Y,H⟩:=CT (((f.map W.int).length:Int)+((i+1:Nat):Int));unfold Jc;fin2;refine⟨(by show(4:Int)≠0;decide),ay (by decide+kernel),o,H,iW L[i+1],cN (by rw[Hb,Dx F];rfl),o,x,L[i+1],rfl,p,⟨B.2.1.1,B.2.2.1.1,B.2.2.2.1⟩,λa b c X=>⟨(.op o x.1 L[i+1].1,a,b,c),k,rfl,λbb Dq=>?_⟩⟩;have J:=uy L (i+1) F;cases bb with
   |false=>exact C _ ⟨x,_,_,⟨⟨g,p⟩,by rw[J];omega⟩,rfl⟩
   |true=>exact C _ ⟨(.op o x.1 L[i+1].1,a,b,c),_,_,⟨⟨⟨Y,g,B.1⟩,X⟩,by rw[J];show sz x.1+sz L[i+1].1+1<=_;omega⟩,rfl⟩
  .rintro _ ⟨x,s,r,⟨⟨g,p⟩,v⟩,rfl⟩;rw[uz]at v;refine t _ ⟨x,s,r,⟨g,?_⟩,rfl⟩;rw[show L.length -1+1=L.length by omega,List.take_length]at v;omega
 rintro _ ⟨x,s,r,⟨g,p⟩,rfl⟩;unfold iW;fin2;exact⟨_,rfl,y _ g p⟩
noncomputable def rT:List CS:=[.iff (.or [(.cmp .Eq (.ix (.var 0) (.int 0)) (.str "+")),(.cmp .Eq (.ix (.var 0) (.int 0)) (.str "-"))]) [.ret (.int 0)] [],.iff (.or [(.cmp .Eq (.ix (.var 0) (.int 0)) (.str "*")),(.cmp .Eq (.ix (.var 0) (.int 0)) (.str "/"))]) [.ret (.int 1)] [],.ret (.NL ["less","^","name","number"] [2,3,4,4] (.ix (.var 0) (.int 0)))]
noncomputable def c9:aU:=λa Q _=>∃T:Tr,a=[wt T]/\kL T/\Q (.int (bi T))
noncomputable def hd:Tr->Str
 |.nm _=>"name"
 |.nu _=>"number"
 |.op o _ _=>tx [o]
 |.pw _ _=>"^"
 |.ls _=>"less"
noncomputable def tl:Tr->List W
 |.nm x=>[wX x]
 |.nu n=>[.int n]
 |.op _ a b=>[wt a,wt b]
 |.pw a e=>[wt a,.int e]
 |.ls a=>[wt a]
theorem dO(T:Tr):wt T=.tup (.str (hd T)::tl T):=by cases T<;>rfl
theorem eX{w:W}{l:List W}:ig (w::l) 0=some w:=cN (n:=0) rfl
theorem Nf:("+":Str)=tx [43]:=by decide+kernel
theorem mj:("-":Str)=tx [45]:=by decide+kernel
theorem GD:("*":Str)=tx [42]:=by decide+kernel
theorem Ng:("/":Str)=tx [47]:=by decide+kernel
noncomputable def nY(T:Tr)(o:Nat):Bool:=match T with
 |.op p _ _=>decide (p=o)
 |_=>false
theorem xZ(T:Tr)(o:Nat)(d:o≠94:=by decide):decide (hd T=tx [o])=nY T o:=by
 have c:∀l:List Nat,l.length≠1->decide (tx l=tx [o])=false:=λl h=>FM λe=>h (by rw[vm e];rfl);cases T with
 |op p a b=>show decide (tx [p]=tx [o])=decide (p=o);rw[lg];exact UV.mpr ⟨λh=>(TK h).1,λh=>by rw[h]⟩
 |nm x=>rw[show hd (.nm x)=tx [110,97,109,101] by show("name":Str)=_;decide+kernel];exact c _ (by decide)
 |nu x=>rw[show hd (.nu x)=tx [110,117,109,98,101,114] by show("number":Str)=_;decide+kernel];exact c _ (by decide)
 |ls x=>rw[show hd (.ls x)=tx [108,101,115,115] by show("less":Str)=_;decide+kernel];exact c _ (by decide)
 |pw x e=>rw[show hd (.pw x e)=tx [94] by show("^":Str)=_;decide+kernel,lg];exact FM λh=>d (TK h).1.symm
theorem GF{p:Nat->aU}{G:Nat->W}{m:Md}(k:List W)(Q:W->Prop)(R:Addr->Prop)(h:c9 k Q R):wSs p G rT (aZ m Q R) (aq 1 k):=by
 obtain⟨T,rfl,q,c⟩:=h;have l:(nY T 43=true\/nY T 45=true)->bi T=0:=λh=>by
  cases T with
  |op o a b=>exact Do (h.imp Ap Ap)
  |_=>rcases h with h|h<;>cases h
 have d:¬(nY T 43=true\/nY T 45=true)->(nY T 42=true\/nY T 47=true)->bi T=1:=λn h=>by
  cases T with
  |op o a b=>exact Bn λz=>n (z.imp FC FC)
  |_=>rcases h with h|h<;>cases h
 show wSs _ _ rT _ [some (wt T)];rw[dO];unfold rT;fin2;refine⟨_,eX,?_⟩;fin2;rw[Nf,xZ T 43];by_cases j:nY T 43=true
 .rw[Do j];rw[l (.inl j)]at c;exact c
 rw[Bn j];refine⟨_,eX,?_⟩;fin2;rw[mj,xZ T 45];by_cases i:nY T 45=true
 .rw[Do i];rw[l (.inr i)]at c;exact c
 rw[Bn i];refine⟨_,eX,?_⟩;fin2;rw[GD,xZ T 42];by_cases g:nY T 42=true
 .rw[Do g];rw[d (by rintro(z|z)<;>contradiction) (.inl g)]at c;exact c
 rw[Bn g];refine⟨_,eX,?_⟩;fin2;rw[Ng,xZ T 47];by_cases f:nY T 47=true
 .rw[Do f];rw[d (by rintro(z|z)<;>contradiction) (.inr f)]at c;exact c
 rw[Bn f];refine⟨_,eX,?_⟩;fin2;cases T with
 |nm x=>exact⟨4,by show jD "name" _ _=_;decide+kernel,c⟩
 |nu x=>exact⟨4,by show jD "number" _ _=_;decide+kernel,c⟩
 |ls x=>exact⟨2,by show jD "less" _ _=_;decide+kernel,c⟩
 |pw x e=>exact⟨3,by show jD "^" _ _=_;decide+kernel,c⟩
 |op o a b=>
  rcases q.1 with e|e|e|e
  .exact absurd (FC e) j
  .exact absurd (FC e) i
  .exact absurd (FC e) g
  .exact absurd (FC e) f
noncomputable def mq:List CS:=[.iff (.cmp .Lt (.call 0 [(.var 0)]) (.var 1)) [.ret (.bin .Add (.bin .Add (.str "(") (.call 1 [(.var 0)])) (.str ")"))] [],.ret (.call 1 [(.var 0)])]
noncomputable def rV:List CS:=[.iff (.or [(.cmp .Eq (.ix (.var 0) (.int 0)) (.str "name")),(.cmp .Eq (.ix (.var 0) (.int 0)) (.str "number"))]) [.ret (.blt .str [(.ix (.var 0) (.int 1))])] [],.iff (.cmp .Eq (.ix (.var 0) (.int 0)) (.str "less")) [.ret (.bin .Add (.str "-") (.call 0 [(.ix (.var 0) (.int 1)),(.int 2)]))] [],.iff (.cmp .Eq (.ix (.var 0) (.int 0)) (.str "^")) [.ret (.bin .Add (.bin .Add (.call 0 [(.ix (.var 0) (.int 1)),(.int 4)]) (.str "^")) (.blt .str [(.ix (.var 0) (.int 2))]))] [],.set 1 (.call 1 [(.var 0)]),.ret (.bin .Add (.bin .Add (.bin .Add (.bin .Add (.call 0 [(.ix (.var 0) (.int 1)),(.var 1)]) (.str " ")) (.ix (.var 0) (.int 0))) (.str " ")) (.call 0 [(.ix (.var 0) (.int 2)),(.bin .Add (.var 1) (.int 1))]))]
noncomputable def uA(n:Nat):aU:=λa Q _=>∃T:Tr,a=[wt T]/\kL T/\sz T<=n/\sz T<=27/\Q (wX (txt T))
noncomputable def GG(n:Nat):aU:=λa Q _=>∃(T:Tr)(l:Nat),a=[wt T,.int l]/\kL T/\sz T<=n/\sz T<=27/\Q (wX (br (bi T) l (txt T)))
theorem qx:("(":Str)=tx [40]:=by decide+kernel
theorem nZ:(")":Str)=tx [41]:=by decide+kernel
theorem GH{n:Nat}{G:Nat->W}{m:Md}(c:List W)(Q:W->Prop)(R:Addr->Prop)(h:GG n c Q R):wSs (bK [c9,uA n]) G mq (aZ m Q R) (aq 2 c):=by
 obtain⟨T,l,rfl,b,e,d,a⟩:=h;have tl:=cP T b;show wSs _ _ mq _ [some (wt T),some (.int l)];unfold mq;fin2;refine⟨T,rfl,b,?_⟩;fin2;unfold br at a;by_cases h:bi T<l
 .rw[Do (FC (by omega))];rw[Do h]at a;refine⟨T,rfl,b,e,d,?_⟩;rw[qx,nZ];refine⟨ay (by show 1+(txt T).length<=1000;omega),?_⟩;rw[aY];refine⟨ay (by show(40::txt T).length+1<=1000;simp;omega),?_⟩;rw[aY];exact a
 .rw[Bn (by rw[Kj];omega)];rw[Bn h]at a;exact⟨T,rfl,b,e,d,a⟩
theorem pJ{w x:W}{l:List W}:ig (w::x::l) 1=some x:=cN (n:=1) rfl
theorem GI{w x y:W}{l:List W}:ig (w::x::y::l) 2=some y:=cN (n:=2) rfl
noncomputable def kd:Tr->Nat
 |.nm _=>0
 |.nu _=>1
 |.op _ _ _=>4
 |.pw _ _=>3
 |.ls _=>2
theorem QL(T:Tr)(c:kL T):decide (hd T="name")=(kd T==0)/\decide (hd T="number")=(kd T==1)/\decide (hd T="less")=(kd T==2)/\decide (hd T="^")=(kd T==3):=by
 cases T with
 |nm x=>show decide (("name":Str)="name")=true/\decide (("name":Str)="number")=false/\decide (("name":Str)="less")=false/\decide (("name":Str)="^")=false;decide+kernel
 |nu x=>show decide (("number":Str)="name")=false/\decide (("number":Str)="number")=true/\decide (("number":Str)="less")=false/\decide (("number":Str)="^")=false;decide+kernel
 |ls x=>show decide (("less":Str)="name")=false/\decide (("less":Str)="number")=false/\decide (("less":Str)="less")=true/\decide (("less":Str)="^")=false;decide+kernel
 |pw x e=>show decide (("^":Str)="name")=false/\decide (("^":Str)="number")=false/\decide (("^":Str)="less")=false/\decide (("^":Str)="^")=true;decide+kernel
 |op o a b=>show decide (tx [o]="name")=false/\decide (tx [o]="number")=false/\decide (tx [o]="less")=false/\decide (tx [o]="^")=false;rcases c.1 with rfl|rfl|rfl|rfl<;>decide+kernel
theorem iG{n:Nat}(h:n<10^30):((n:Int)).natAbs.log2<1920:=by
 rcases Xt n with e|e
 .rw[e];decide
 .rw[Int.natAbs_natCast];exact FR ((Rw (k:=100) (by omega)).mpr (FR h (by decide))) (by decide)
theorem Nh{n:Nat}{G:Nat->W}{m:Md}(s:List W)(Q:W->Prop)(R:Addr->Prop)(h:uA (n+1) s Q R):wSs (bK [GG n,c9]) G rV (aZ m Q R) (aq 2 s):=by
 obtain⟨T,rfl,f,j,i,g⟩:=h;obtain⟨z,t,y,w⟩:=QL T f;have d:=cP T f;show wSs _ _ rV _ [some (wt T),none];unfold rV;refine aM (λc=>c=[some (wt T),none]/\2<=kd T) (λN p=>?_) ?_
 .rw[dO];fin2;refine⟨_,eX,?_⟩;fin2;rw[z];cases T with
  |nm x=>exact⟨_,pJ,g⟩
  |nu k=>refine⟨_,eX,?_⟩;fin2;rw[t];refine⟨_,pJ,?_⟩;refine⟨iG f,?_⟩;rw[j6];exact g
  |_=>refine⟨_,eX,?_⟩;fin2;rw[t];exact p _ ⟨by rw[dO],by show 2<=_;first|exact(by decide:2<=4)|exact(by decide:2<=3)|exact(by decide:2<=2)⟩
 rintro _ ⟨rfl,u⟩;refine aM (λc=>c=[some (wt T),none]/\3<=kd T) (λN p=>?_) ?_
 .rw[dO];fin2;refine⟨_,eX,?_⟩;fin2;rw[y];cases T with
  |nm x=>cases u
  |nu k=>exact absurd u (by show¬2<=1;decide)
  |ls a=>have j:sz a+1<=n+1:=j;have i:sz a+1<=27:=i;have d:(45::br (bi a) 2 (txt a)).length+7<=37*(sz a+1):=d;rw[AE]at d;refine⟨_,pJ,a,2,rfl,f,by omega,by omega,?_⟩;rw[mj];refine⟨ay (by show 1+(br (bi a) 2 (txt a)).length<=1000;omega),?_⟩;rw[aY];exact g
  |pw a e=>exact p _ ⟨by rw[dO],by show 3<=3;decide⟩
  |op o a b=>exact p _ ⟨by rw[dO],by show 3<=4;decide⟩
 rintro _ ⟨rfl,r⟩;refine aM (λc=>c=[some (wt T),none]/\4<=kd T) (λN p=>?_) ?_
 .rw[dO];fin2;refine⟨_,eX,?_⟩;fin2;rw[w];cases T with
  |nm x=>cases r
  |nu k=>exact absurd r (by show¬3<=1;decide)
  |ls a=>exact absurd r (by show¬3<=2;decide)
  |pw a e=>
   have j:sz a+1<=n+1:=j;have i:sz a+1<=27:=i;have d:(br (bi a) 4 (txt a)++94::dg e).length+7<=37*(sz a+1):=d;rw[B1,AE]at d;refine⟨_,pJ,a,4,rfl,f.2,by omega,by omega,?_⟩;rw[show("^":Str)=tx [94] by decide+kernel];refine⟨ay (by show(br (bi a) 4 (txt a)).length+1<=1000;omega),?_⟩;rw[aY];refine⟨_,GI,iG (XB f.1 (by decide)),?_⟩;rw[j6];refine⟨ay (by show(br (bi a) 4 (txt a)++[94]).length+(dg e).length<=1000;rw[B1];show _+1+_<=1000;omega),?_⟩;rw[aY];have:txt (.pw a e)=br (bi a) 4 (txt a)++[94]++dg e:=by show br (bi a) 4 (txt a)++94::dg e=_;simp
   rw[this]at g;exact g
  |op o a b=>exact p _ ⟨by rw[dO],by show 4<=4;decide⟩
 rintro _ ⟨rfl,q⟩;cases T with
 |op o a b=>
  have j:sz a+sz b+1<=n+1:=j;have i:sz a+sz b+1<=27:=i;have C:=b8 a;have B:=b8 b;generalize v:bi (.op o a b)=l;have A:txt (.op o a b)=br (bi a) l (txt a)++[32]++[o]++[32]++br (bi b) (l+1) (txt b):=by show br (bi a) (bi (.op o a b)) (txt a)++(32::o::32::br (bi b) (bi (.op o a b)+1) (txt b))=_;rw[v];simp
  rw[A]at d g;simp only[B1,HK]at d;have d:(br (bi a) l (txt a)).length+1+1+1+(br (bi b) (l+1) (txt b)).length+7<=37*(sz a+sz b+1):=d;fin2;refine⟨.op o a b,rfl,f,?_⟩;rw[v,dO];fin2;refine⟨_,pJ,a,l,rfl,f.2.1,by omega,by omega,?_⟩;rw[show(" ":Str)=tx [32] by decide+kernel];refine⟨ay (by show(br (bi a) l (txt a)).length+1<=1000;omega),_,eX,?_⟩;rw[aY];refine⟨ay (by show(br (bi a) l (txt a)++[32]).length+1<=1000;simp only[B1,HK];omega),?_⟩;rw[show hd (.op o a b)=tx [o]from rfl,aY];refine⟨ay (by show(br (bi a) l (txt a)++[32]++[o]).length+1<=1000;simp only[B1,HK];omega),_,GI,?_⟩;rw[aY];refine⟨b,l+1,rfl,f.2.2,by omega,by omega,?_⟩;refine⟨ay (by show(br (bi a) l (txt a)++[32]++[o]++[32]).length+(br (bi b) (l+1) (txt b)).length<=1000;simp only[B1,HK];omega),?_⟩;rw[aY];exact g
 |nm x=>cases q
 |nu k=>exact absurd q (by show¬4<=1;decide)
 |ls a=>exact absurd q (by show¬4<=2;decide)
 |pw a e=>exact absurd q (by show¬4<=3;decide)
end VL
namespace VL
open PySem PySem.Spec
open PyProof.Rows hiding St
open L2
section
variable{P:Program}{w:World}{K:Frag}{mg:Str->Option Value}{base:Heap}{tp:Nat->Stmt}{DD:DT}{ZZ:List Str}
noncomputable def Cn(P:Program)(w:World)(K:Frag)(mg:Str->Option Value)(base:Heap)(k:Nat)(x:Str)(m:Md)(S:aU):Prop:=∃c n b,mg x=some c/\bW P w K mg base b c n (oZ K n m S)/\b<=k/\∀a P R,S a P R->a.length=n
noncomputable def Mt(P:Program)(w:World)(K:Frag)(mg:Str->Option Value)(base:Heap)(C:Addr)(k:Nat)(x:Str)(m:Md)(S:aU):Prop:=∃f d b n c,Meth K C x f/\Binds K d b []/\bL P w K mg base (iL P w) c f d b (oZ K n m S)/\c<=k/\∀a P R,S a P R->a.length=n
theorem Cn.up{k a:Nat}{x:Str}{m:Md}{S:aU}(h:Cn P w K mg base k x m S)(c:k<=a):Cn P w K mg base a x m S:=by obtain⟨i,n,b,g,f,e,d⟩:=h;exact⟨i,n,b,g,f,GE e c,d⟩
theorem Mt.up{C:Addr}{k a:Nat}{x:Str}{m:Md}{S:aU}(h:Mt P w K mg base C k x m S)(d:k<=a):Mt P w K mg base C a x m S:=by obtain⟨f,o,b,n,c,l,j,i,g,e⟩:=h;exact⟨f,o,b,n,c,l,j,i,GE g d,e⟩
noncomputable def RC(P:Program)(w:World)(K:Frag)(mg:Str->Option Value)(base:Heap)(C:Addr)(k:Nat):List (Str×Md×Bool)->List aU->Prop
 |(x,m,b)::es,S::Ss=>(if b=true then Mt P w K mg base C k x m S else Cn P w K mg base k x m S)/\RC P w K mg base C k es Ss
 |[],_=>True
 |_::_,[]=>False
theorem vV{C:Addr}{k:Nat}:∀{es:List (Str×Md×Bool)}{Ss:List aU},RC P w K mg base C k es Ss->∀(j:Nat)(x:Str)(m:Md)(b:Bool),es[j]?=some (x,m,b)->if b=true then Mt P w K mg base C k x m (bK Ss j)else Cn P w K mg base k x m (bK Ss j)
 |(y,m',b')::es,S::Ss,h,0,x,m,b,e=>by
  cases e;exact h.1
 |(y,m',b')::es,S::Ss,h,j+1,x,m,b,e=>vV (es:=es) h.2 j x m b e
 |_::_,[],h,_,_,_,_,_=>h.elim
 |[],_,_,_,_,_,_,e=>by cases e
noncomputable def Dy(g:Nat):Nat->List (Str×Md×Bool)->List (Nat×Nat)
 |_,[]=>[]
 |j,(_,_,b)::es=>if b=true then(j,g)::Dy g (j+1) es else Dy g (j+1) es
theorem CV{g:Nat}:∀{es:List (Str×Md×Bool)}{s j h:Nat},(j,h)∈Dy g s es->h=g/\s<=j/\∃x m,es[j -s]?=some (x,m,true)
 |[],s,j,h,z=>by cases z
 |(x,m,b)::es,s,j,h,z=>by
  have tl:(j,h)∈Dy g (s+1) es->h=g/\s<=j/\∃a c,((x,m,b)::es)[j -s]?=some (a,c,true):=λz=>by obtain⟨f,i,a,c,d⟩:=CV z;refine⟨f,by omega,a,c,?_⟩;rw[show j -s=(j -(s+1))+1 by omega];exact d
  cases b with
  |true=>
   rcases Ee.mp z with e|z
   .cases e;exact⟨rfl,DL _,x,m,by rw[Rn];rfl⟩
   .exact tl z
  |false=>exact tl z
theorem CW{g:Nat}:∀{es:List (Str×Md×Bool)}{s j:Nat}{x:Str}{m:Md}{b:Bool},es[j]?=some (x,m,b)->(Dy g s es).any (·.1==s+j)=false->b=false
 |(y,m',b')::es,s,0,x,m,b,e,h=>by
  have e:=Hn e;cases e;cases b' with
  |false=>rfl
  |true=>have h:((s==s+0)||(Dy g (s+1) es).any (·.1==s+0))=false:=h;rw[Nat.add_zero,Pi,UM]at h;cases h
 |(y,m',b')::es,s,j+1,x,m,b,e,h=>by
  have a:(Dy g (s+1) es).any (·.1==s+1+j)=false:=by
   rw[show s+1+j=s+(j+1) by omega];cases b' with
   |false=>exact h
   |true=>have h:((s==s+(j+1))||(Dy g (s+1) es).any (·.1==s+(j+1)))=false:=h;rw[YM]at h;exact h.2
  exact CW (es:=es) (s:=s+1) (j:=j) e a
theorem uB:∀(Gs:List W)(C:W)(j:Nat),j<Gs.length->bX (Gs++[C]) j=bX Gs j
 |g::Gs,C,0,_=>rfl
 |g::Gs,C,j+1,h=>uB Gs C j (by simpa using h)
theorem uC:∀(Gs:List W)(C:W),bX (Gs++[C]) Gs.length=C
 |[],C=>rfl
 |g::Gs,C=>uC Gs C
theorem gz{C:Addr}{k:Nat}{es:List (Str×Md×Bool)}{Ss:List aU}{gn:List Str}{Gs:List W}(Z:∀x∈ZZ,mg x=none)(h:RC P w K mg base C k es Ss)(g:M0 K mg gn Gs)(p:gn.length=Gs.length):
 Tab P w K mg base (es.map (·.1)) gn ZZ (es.map (·.2.1)) (Dy gn.length 0 es) (bK Ss) (bX (Gs++[.cls C])) k:=by
 have u:∀(j:Nat)(x:Str),(es.map (·.1))[j]?=some x->∃m b,es[j]?=some (x,m,b)/\gj (es.map (·.2.1)) j=m:=λj x e=>by
  rw[Hb]at e;obtain⟨⟨y,m,b⟩,c,d⟩:=Kb.mp e;cases d;refine⟨m,b,c,?_⟩;have:∀(l:List (Str×Md×Bool))(j:Nat),l[j]?=some (y,m,b)->gj (l.map (·.2.1)) j=m:=λl=>by
   induction l with
   |nil=>intro j e;cases e
   |cons a l D=>
    intro j e;cases j with
    |zero=>cases e;rfl
    |succ j=>exact D j e
  exact this es j c
 have r:∀(j:Nat)(x:Str),gn[j]?=some x->bX (Gs++[.cls C]) j=bX Gs j:=λj x e=>uB _ _ _ (by rw[<-p];exact(GT.mp e).1);refine⟨λj x e i=>?_,λj O x e i=>?_,λj x e=>?_,Z,CA K,λj x v e q=>?_⟩
 .obtain⟨m,b,c,d⟩:=u j x e;have o:b=false:=CW (g:=gn.length) (s:=0) c (by rw[UN];exact i);subst o;have:=vV h j x m false c;rw[Bn Fs]at this;rw[d];exact this
 .obtain⟨E,_,y,N,t⟩:=CV i;obtain⟨m,b,c,d⟩:=u j x e;rw[Rh,c]at t;have o:b=true:=by cases t;rfl
  subst o;have:=vV h j x m true c;rw[Do rfl]at this;obtain⟨f,M,A,n,B,L,J,I,H,F⟩:=this;rw[d,E];refine⟨f,M,A,n,B,λv z=>?_,J,I,H,F⟩;rw[p,uC]at z;cases z;exact L
 .rw[r j x e];exact(nR g j x e).1
 .rw[r j x e]at q;exact(nR g j x e).2 v q
theorem zF{x:Str}{f:Addr}(h:mg x=some (.ref f)):Gn K mg x (.fn f):=⟨⟨.ref f,.ref f,h,rfl,λ_ _=>rfl⟩,λ_ e=>by cases e⟩
noncomputable def zG(ZZ:List Str)(st:Stmt)(np n:Nat)(M:Ms)(fn gn:List Str)(a:List Md)(b:List (Nat×Nat))(m:Md)(c:List CS):Bool:=
 decide (((ak st).kind=.function/\(ak st).isCoroutine=false/\(ak st).isGenerator=false/\(IS st).Nodup/\(IS st).take (i6 st).length=i6 st)/\(∀x∈i6 st,(ak st).names.lookup x=some .local\/(ak st).names.lookup x=some .cell)/\(∀y∈(ak st).names,y.2≠.free)/\(i6 st).length=np/\(IS st).length=n/\(M.map (·.1)).Nodup)&&((match m with
  |.io d=>M.all (λi=>i.1==0||decide (np<=i.1))&&hasB M 0 d&&decide (0<n)
  |_=>M.all (λi=>decide (np<=i.1)))&&cH ⟨IS st,(ak st).names,M,fn,gn,ZZ,a,b⟩ (gj a) m c (aS st))
theorem n8{np n:Nat}{C:Addr}{x q:Str}{st:Stmt}{ps:List Str}{f:Addr}{s:FuncData}{M:Ms}{fn gn:List Str}{o:List Md}{l:List (Nat×Nat)}{m:Md}{c:List CS}{i:Nat->aU}{G:Nat->W}{k:Nat}{S:aU}(D:Dm K C x q st ps f s)(e:ps=i6 st)(h:zG ZZ st np n M fn gn o l m c=true)(j:Tab P w K mg base fn gn ZZ o l i G k)(g:∀a P R,S a P R->a.length=np)(p:∀a Q R,S a Q R->wSs i G c (aZ m Q R) (aq n a)):
 Mt P w K mg base C (k+1) x m S:=by
 unfold zG at h;rw[AC,AC]at h;obtain⟨E,d,r⟩:=h;obtain⟨⟨A,a2,a3,z,y⟩,v,u,I,H,t⟩:=Ap E;subst e;subst I H;refine⟨f,s,_,(i6 st).length,k+1,D.M,D.b,?_,DL _,g⟩;cases m with
 |io B=>rw[AC,AC]at d;exact Gi D.F ⟨A,a2,a3,z,y,v,u⟩ j c M B S d.1.1 t d.1.2 (Ap d.2) r g p
 |_=>exact Cy D.F ⟨A,a2,a3,z,y,v,u⟩ j c M _ S d t rfl r g p
theorem ly{j i k:Nat}{x:Str}{m:Md}{S:aU}(h:Cl P w K mg base DD k j m S)(a:DD[j]?=some (x,i)):Cn P w K mg base k x m S:=by
 have e:rM DD j=x:=by unfold rM;rw[a]
 unfold Cl at h;rw[e]at h;exact h
theorem QM{C:Addr}{x q:Str}{st:Stmt}{ps:List Str}{f:Addr}{c:FuncData}{g:Md}{k:Nat}(D:Dm K C x q st ps f c):Mt P w K mg base C k x (.io g) QB:=
 ⟨f,c,ps,ps.length,k,D.M,D.b,⟨by rintro e H Q E ⟨_,_,_,_,_,_,_,_,_,_,_,_,_,_,_,z,_⟩;exact z.elim,by rintro A a s H d h e Q E i l j r ⟨_,_,_,_,_,_,_,_,_,_,_,_,_,_,_,z,_⟩;exact z.elim⟩,DL _,λ_ _ _ z=>z.elim⟩
theorem QN{np n j i:Nat}{x:Str}{C:Addr}{es:List (Str×Md×Bool)}{Ss:List aU}{gn:List Str}{Gs:List W}{M:Ms}{m:Md}{c:List CS}{k:Nat}{S:aU}(T:TT K mg tp DD ZZ)(l:DD[j]?=some (x,i))(h:RC P w K mg base C k es Ss)(g:M0 K mg gn Gs)(o:gn.length=Gs.length)(e:zA ZZ (tp i) np n M (es.map (·.1)) gn (es.map (·.2.1)) (Dy gn.length 0 es) m c=true)(b:∀a P R,S a P R->a.length=np)(p:∀a Q R,S a Q R->wSs (bK Ss) (bX (Gs++[.cls C])) c (aZ m Q R) (aq n a)):
 bL P w K mg base (iL P w) (k+1) (T.f j) (T.d j) (i6 (tp i)) (oZ K np m S):=QF T l e (gz T.Z h g o) b p
end
end VL
namespace VL
open PySem PySem.Spec
open PyProof.Rows hiding St
open L2 Num lF
section
variable{P:Program}{w:World}{K:Frag}{mg:Str->Option Value}{base:Heap}{tp:Nat->Stmt}{DD:DT}{ZZ:List Str}
abbrev aP:Md:=.io xU
abbrev GJ:Md:=.io Vn
structure Vv(K:Frag)(mg:Str->Option Value):Prop where
 fg:Gn K mg "FIGURES" (.str "0123456789")
 lt:Gn K mg "LETTERS" (.str "abcdefghijklmnopqrstuvwxyz")
 sg:Gn K mg "MOST_SIGNS" (.int 1000)
 bk:Gn K mg "MOST_BRACKETS" (.int 30)
 mi:Gn K mg "MOST_MINUSES" (.int 30)
 fi:Gn K mg "MOST_FIGURES" (.int 30)
 le:Gn K mg "MOST_LETTERS" (.int 8)
 ef:Gn K mg "MOST_EXPONENT_FIGURES" (.int 2)
 ex:Gn K mg "MOST_EXPONENT" (.int 12)
theorem rW{x:Str}{v:V}{u:W}(h:∃z,mg x=some z/\RelV v z)(a:∀B H,Rep K B H u v)(b:∀C,u≠.cls C):Gn K mg x u:=by obtain⟨z,d,c⟩:=h;exact⟨⟨z,v,d,c,a⟩,λC e=>(b C e).elim⟩
structure NW(K:Frag)(C:Addr)(ZZ:List Str)where
 s:Nat->Stmt
 f:Nat->Addr
 d:Nat->FuncData
 D0:Dm K C "follows" "Reader.follows" (s 0) (i6 (s 0)) (f 0) (d 0)
 D1:Dm K C "take_sum" "Reader.take_sum" (s 1) (i6 (s 1)) (f 1) (d 1)
 D2:Dm K C "take_term" "Reader.take_term" (s 2) (i6 (s 2)) (f 2) (d 2)
 D3:Dm K C "take_sign" "Reader.take_sign" (s 3) (i6 (s 3)) (f 3) (d 3)
 D4:Dm K C "take_factor" "Reader.take_factor" (s 4) (i6 (s 4)) (f 4) (d 4)
 D5:Dm K C "take_exponent" "Reader.take_exponent" (s 5) (i6 (s 5)) (f 5) (d 5)
 D6:Dm K C "take_atom" "Reader.take_atom" (s 6) (i6 (s 6)) (f 6) (d 6)
 D7:Dm K C "take_brackets" "Reader.take_brackets" (s 7) (i6 (s 7)) (f 7) (d 7)
 D8:Dm K C "take_run" "Reader.take_run" (s 8) (i6 (s 8)) (f 8) (d 8)
 k0:zG ZZ (s 0) 2 2 [(0,xU)] [] [] [] [] aP iD=true
 k1:zG ZZ (s 1) 1 2 [(0,xU)] ["take_term","follows","take_sign"] [] [aP,aP,aP] [(0,0),(1,0),(2,0)] aP (iE " + " " - ")=true
 k2:zG ZZ (s 2) 1 2 [(0,xU)] ["take_factor","follows","take_sign"] [] [aP,aP,aP] [(0,0),(1,0),(2,0)] aP (iE " * " " / ")=true
 k3:zG ZZ (s 3) 1 2 [(0,xU)] [] [] [] [] aP fh=true
 k4:zG ZZ (s 4) 1 2 [(0,xU)] ["take_run","take_atom","follows","take_exponent"] ["MOST_MINUSES"] [aP,aP,aP,aP] [(0,1),(1,1),(2,1),(3,1)] aP dw=true
 k5:zG ZZ (s 5) 1 2 [(0,xU)] ["whole_number","take_run"] ["FIGURES","MOST_EXPONENT_FIGURES","MOST_EXPONENT"] [.s,aP] [(1,3)] aP cj=true
 k6:zG ZZ (s 6) 1 2 [(0,xU)] ["follows","take_brackets","take_run","whole_number","take_run"] ["LETTERS","FIGURES","MOST_FIGURES","MOST_LETTERS"] [aP,aP,aP,.s,GJ] [(0,4),(1,4),(2,4),(4,4)] aP fj=true
 k7:zG ZZ (s 7) 1 1 [(0,xU)] ["take_sum","follows"] ["MOST_BRACKETS"] [aP,aP] [(0,1),(1,1)] aP cg=true
 k8:zG ZZ (s 8) 2 3 [(0,xU)] [] [] [] [] aP eg=true
 k9:zG ZZ (s 8) 2 3 [(0,Vn)] [] [] [] [] GJ eg=true
section
variable{C:Addr}(Z:∀x∈ZZ,mg x=none)(g:Vv K mg)(M:NW K C ZZ)(hw:Cn P w K mg base 1 "whole_number" .s bC)
include Z in
theorem fW(M:NW K C ZZ):Mt P w K mg base C 1 "follows" aP (bx C):=
 n8 (k:=0) M.D0 rfl M.k0 (gz (C:=C) (es:=[]) (Ss:=[]) (gn:=[]) (Gs:=[]) Z trivial trivial rfl) (λa P R h=>by obtain⟨_,_,_,_,_,rfl,_⟩:=h;rfl) zD
include Z in
theorem CY(M:NW K C ZZ):Mt P w K mg base C 1 "take_sign" aP (b3 C):=
 n8 (k:=0) M.D3 rfl M.k3 (gz (C:=C) (es:=[]) (Ss:=[]) (gn:=[]) (Gs:=[]) Z trivial trivial rfl) (λa P R h=>by obtain⟨_,_,_,_,_,_,_,rfl,_⟩:=h;rfl) uq
include Z in
theorem CZ(M:NW K C ZZ):Mt P w K mg base C 1 "take_run" aP (bI C):=
 n8 (k:=0) M.D8 rfl M.k8 (gz (C:=C) (es:=[]) (Ss:=[]) (gn:=[]) (Gs:=[]) Z trivial trivial rfl) (λa P R h=>by obtain⟨_,_,_,_,_,_,rfl,_⟩:=h;rfl) nU
include Z in
theorem Ni(M:NW K C ZZ):Mt P w K mg base C 1 "take_run" GJ (bI C):=
 n8 (k:=0) M.D8 rfl M.k9 (gz (C:=C) (es:=[]) (Ss:=[]) (gn:=[]) (Gs:=[]) Z trivial trivial rfl) (λa P R h=>by obtain⟨_,_,_,_,_,_,rfl,_⟩:=h;rfl) nU
include Z g M hw in
theorem QO:Mt P w K mg base C 2 "take_exponent" aP (Gv C):=
 n8 (k:=1) M.D5 rfl M.k5 (gz (C:=C) (es:=[("whole_number",.s,false),("take_run",aP,true)]) (Ss:=[bC,bI C]) (gn:=["FIGURES","MOST_EXPONENT_FIGURES","MOST_EXPONENT"]) (Gs:=[.str "0123456789",.int 2,.int 12]) Z ⟨hw,CZ Z M,trivial⟩ ⟨g.fg,g.ef,g.ex,trivial⟩ rfl) (λa P R h=>by obtain⟨_,_,_,_,_,rfl,_⟩:=h;rfl) lN
theorem jL{c d:Nat}{a:List Nat->Prop}(b:List W)(P:W->Prop)(R:Addr->Prop)(h:bU c d a C b P R):b.length=1:=by obtain⟨_,_,_,_,_,_,rfl,_⟩:=h;rfl
include Z g M hw in
theorem C0{d k:Nat}(a:1<=k)(b:Mt P w K mg base C k "take_brackets" aP (M8 d C)):Mt P w K mg base C (k+1) "take_atom" aP (bU 3 d st3 C):=
 n8 (k:=k) M.D6 rfl M.k6 (gz (C:=C) (es:=[("follows",aP,true),("take_brackets",aP,true),("take_run",aP,true),("whole_number",.s,false),("take_run",GJ,true)]) (Ss:=[bx C,M8 d C,bI C,bC,bI C]) (gn:=["LETTERS","FIGURES","MOST_FIGURES","MOST_LETTERS"]) (Gs:=[.str "abcdefghijklmnopqrstuvwxyz",.str "0123456789",.int 30,.int 8]) Z ⟨(fW Z M).up a,b,(CZ Z M).up a,hw.up a,(Ni Z M).up a,trivial⟩ ⟨g.lt,g.fg,g.fi,g.le,trivial⟩ rfl) jL uv
include Z g M hw in
theorem C1:∀d:Nat,Mt P w K mg base C (3+5*d) "take_atom" aP (bU 3 d st3 C)->Mt P w K mg base C (6+5*d) "take_sum" aP (bU 0 d zx C):=λd c=>by
 have b:Mt P w K mg base C (4+5*d) "take_factor" aP (bU 2 d st2 C):=by rw[show 4+5*d=(3+5*d)+1 by omega];exact n8 (k:=3+5*d) M.D4 rfl M.k4 (gz (C:=C) (es:=[("take_run",aP,true),("take_atom",aP,true),("follows",aP,true),("take_exponent",aP,true)]) (Ss:=[bI C,bU 3 d st3 C,bx C,Gv C]) (gn:=["MOST_MINUSES"]) (Gs:=[.int 30]) Z ⟨(CZ Z M).up (by omega),c,(fW Z M).up (by omega),(QO Z g M hw).up (by omega),trivial⟩ ⟨g.mi,trivial⟩ rfl) jL pI
 have a:Mt P w K mg base C (5+5*d) "take_term" aP (bU 1 d st1 C):=by rw[show 5+5*d=(4+5*d)+1 by omega];exact n8 (k:=4+5*d) M.D2 rfl M.k2 (gz (C:=C) (es:=[("take_factor",aP,true),("follows",aP,true),("take_sign",aP,true)]) (Ss:=[bU 2 d st2 C,bx C,b3 C]) (gn:=[]) (Gs:=[]) Z ⟨b,(fW Z M).up (by omega),(CY Z M).up (by omega),trivial⟩ trivial rfl) jL uu
 rw[show 6+5*d=(5+5*d)+1 by omega];exact n8 (k:=5+5*d) M.D1 rfl M.k1 (gz (C:=C) (es:=[("take_term",aP,true),("follows",aP,true),("take_sign",aP,true)]) (Ss:=[bU 1 d st1 C,bx C,b3 C]) (gn:=[]) (Gs:=[]) Z ⟨a,(fW Z M).up (by omega),(CY Z M).up (by omega),trivial⟩ trivial rfl) jL vQ
include Z g M hw in
theorem x6:∀d:Nat,Mt P w K mg base C (3+5*d) "take_atom" aP (bU 3 d st3 C)
 |0=>C0 Z g M hw (d:=0) (k:=2) (by omega) (QM M.D7)
 |d+1=>by
  have hs:=C1 Z g M hw d (x6 d);have a:Mt P w K mg base C (7+5*d) "take_brackets" aP (M6 d C):=by rw[show 7+5*d=(6+5*d)+1 by omega];exact n8 (k:=6+5*d) M.D7 rfl M.k7 (gz (C:=C) (es:=[("take_sum",aP,true),("follows",aP,true)]) (Ss:=[bU 0 d zx C,bx C]) (gn:=["MOST_BRACKETS"]) (Gs:=[.int 30]) Z ⟨hs,(fW Z M).up (by omega),trivial⟩ ⟨g.bk,trivial⟩ rfl) (λb P R h=>by obtain⟨_,_,_,_,_,_,rfl,_⟩:=h;rfl) lM
  rw[show 3+5*(d+1)=(7+5*d)+1 by omega];exact C0 Z g M hw (by omega) a
include Z g M hw in
theorem QS(d:Nat):Mt P w K mg base C (6+5*d) "take_sum" aP (bU 0 d zx C):=C1 Z g M hw d (x6 Z g M hw d)
end
theorem C2{k j i np:Nat}{x:Str}{S:aU}(T:TT K mg tp DD ZZ)(c:DD[j]?=some (x,i))(b:np=(i6 (tp i)).length)(d:∀a Q R,¬S a Q R):Cl P w K mg base DD k j .s S:=by have:S=QB:=funext λa=>funext λQ=>funext λR=>propext ⟨λz=>(d _ _ _ z).elim,λz=>z.elim⟩;rw[this];exact QG T c b
theorem TM{a b k:Nat}{c:Bool}(e:a<=k)(d:b<=k)(h:c=true):((decide (a<=k)&&(decide (b<=k)&&true))&&c)=true:=by rw[FC e,FC d,h];rfl
theorem C3{jt ji jb f g:Nat}{j l:Str}(T:TT K mg tp DD ZZ)(d:DD[jt]?=some (j,f))(a:DD[ji]?=some (l,g))(b:Cl P w K mg base DD 1 jb .s c9)(c:zA ZZ (tp f) 1 2 [] [rM DD ji,rM DD jb] [] [.s,.s] [] .s rV=true)(i:zA ZZ (tp g) 2 2 [] [rM DD jb,rM DD jt] [] [.s,.s] [] .s mq=true):∀n,Cl P w K mg base DD (1+2*n) jt .s (uA n)
 |0=>C2 T d (vP c) λe Q R h=>by obtain⟨X,_,_,p,_⟩:=h;have:=b8 X;omega
 |n+1=>by have m:=C3 T d a b c i n;have o:Cl P w K mg base DD (1+2*n+1) ji .s (GG n):=zC (k:=1+2*n) (Ss:=[c9,uA n]) T a 2 [] [(jb,.s,1),(jt,.s,1+2*n)] GH ⟨b,m,trivial⟩ (TM (by show 1<=_;omega) (DL _) i) (λe P R h=>by obtain⟨_,_,rfl,_⟩:=h;rfl);exact zC (k:=1+2*n+1) (Ss:=[GG n,c9]) T d 1 [] [(ji,.s,1+2*n+1),(jb,.s,1)] Nh ⟨o,b,trivial⟩ (TM (DL _) (by show 1<=_;omega) c) (λe P R h=>by obtain⟨_,rfl,_⟩:=h;rfl)
end
end VL
namespace lF
open L2 PySem VL
noncomputable def qy(n:Int):List Nat->Bool
 |[]=>false
 |c::r=>if n+(if c=40 then 1 else 0) -(if c=41 then 1 else 0)=0 then r.isEmpty else qy (n+(if c=40 then 1 else 0) -(if c=41 then 1 else 0)) r
noncomputable def oQ(s:List Nat):Prop:=∀(n:Int)(r:List Nat),1<=n->qy n (s++r)=qy n r
theorem oQ.nil:oQ []:=λ_ _ _=>rfl
theorem oQ.app{a b:List Nat}(e:oQ a)(d:oQ b):oQ (a++b):=λn r c=>by rw[KF,e n _ c,d n _ c]
theorem oQ.one{c:Nat}(b:c≠40)(a:c≠41):oQ [c]:=λn r d=>by show(if n+(if c=40 then 1 else 0) -(if c=41 then 1 else 0)=0 then r.isEmpty else qy (n+(if c=40 then 1 else 0) -(if c=41 then 1 else 0)) r)=_;rw[Bn b,Bn a,show n+0 -0=n by omega,Bn (by omega)]
theorem oQ.all:∀{s:List Nat},(∀c∈s,c≠40/\c≠41)->oQ s
 |[],_=>.nil
 |c::s,h=>oQ.app (a:=[c]) (.one (h c Bi).1 (h c Bi).2) (oQ.all λx b=>h x (BM _ b))
theorem x8(n:Int)(r:List Nat)(a:0<=n):qy n (40::r)=qy (n+1) r:=by
 show(if n+(if(40:Nat)=40 then 1 else 0) -(if(40:Nat)=41 then 1 else 0)=0 then r.isEmpty else qy (n+(if(40:Nat)=40 then 1 else 0) -(if(40:Nat)=41 then 1 else 0)) r)=_;have e:n+(if(40:Nat)=40 then 1 else 0) -(if(40:Nat)=41 then 1 else 0)=n+1:=by simp
 rw[e,Bn (by omega)]
theorem x9(n:Int)(r:List Nat):qy n (41::r)=if n=1 then r.isEmpty else qy (n -1) r:=by
 show(if n+(if(41:Nat)=40 then 1 else 0) -(if(41:Nat)=41 then 1 else 0)=0 then r.isEmpty else qy (n+(if(41:Nat)=40 then 1 else 0) -(if(41:Nat)=41 then 1 else 0)) r)=_;have a:n+(if(41:Nat)=40 then 1 else 0) -(if(41:Nat)=41 then 1 else 0)=n -1:=by simp
 rw[a];by_cases e:n=1
 .rw[Do (by omega),Do e]
 .rw[Bn (by omega),Bn e]
theorem oQ.brk{s:List Nat}(h:oQ s):oQ (40::(s++[41])):=λn r a=>by rw[TV,KF,x8 n _ (by omega),h (n+1) _ (by omega),List.singleton_append,x9,Bn (by omega)];congr 1;omega
theorem vW{n:Nat}:∀c∈dg n,c≠40/\c≠41:=λc a=>by have:=j7 n c a;omega
theorem G.Vw{l d:Nat}{s:List Nat}{st:List W}(h:G l d s st):oQ s:=by
 induction h with
 |sum _ _ i j=>exact i.app j
 |term _ _ i j=>exact i.app j
 |n4=>exact .nil
 |n5=>exact .nil
 |c4 e _ _ i j=>
  rename_i o a r _ _
  exact oQ.app (a:=[32,_,32]) (.all λc b=>by simp only[Ee,PH,W1]at b;omega) (i.app j)
 |c5 e _ _ i j=>exact oQ.app (a:=[32,_,32]) (.all λc b=>by simp only[Ee,PH,W1]at b;omega) (i.app j)
 |Gj f _ i=>exact oQ.app (.all λc b=>by rw[(M7.mp b).2];omega) i
 |uo f k _ i=>exact oQ.app (.all λc b=>by rw[(M7.mp b).2];omega) (i.app (oQ.app (a:=[94]) (.one (by decide) (by decide)) (.all vW)))
 |name n m g=>exact .all λc b=>by have:=g c b;unfold isLet at this;omega
 |num h=>exact .all vW
 |brk h hd i=>exact i.brk
theorem C4{s:List Nat}(h:oQ s)(r:List Nat):qy 0 (40::(s++41::r))=r.isEmpty:=by rw[x8 0 _ (by omega),h (0+1) _ (by omega),x9,Do (by omega)]
theorem G.first{l d:Nat}{s:List Nat}{st:List W}(h:G l d s st):l<4->∀r,s=40::r->∃(d':Nat)(x y:List Nat)(f:List W),G 0 d' x f/\d'<d/\s=40::(x++41::y)/\(y=[]->st=f):=by
 induction h with
 |sum h k i j=>
  rename_i d a r0 sa sr
  intro _ r e;cases b:a with
  |nil=>exact absurd b (h.ne (by decide))
  |cons c o=>
   rw[b]at e;cases e;obtain⟨d',x,y,f,g,hd,m,n⟩:=i (by decide) o b;refine⟨d',x,y++r0,f,g,hd,?_,λz=>?_⟩
   .rw[<-b,m];simp
   .obtain⟨q,p⟩:=P2.mp z;cases k with
    |n4=>rw[n q,Kt]
    |c4 _ _ _=>cases p
 |term h k i j=>
  rename_i d a r0 sa sr
  intro _ r e;cases b:a with
  |nil=>exact absurd b (h.ne (by decide))
  |cons c o=>
   rw[b]at e;cases e;obtain⟨d',x,y,f,g,hd,m,n⟩:=i (by decide) o b;refine⟨d',x,y++r0,f,g,hd,?_,λz=>?_⟩
   .rw[<-b,m];simp
   .obtain⟨q,p⟩:=P2.mp z;cases k with
    |n5=>rw[n q,Kt]
    |c5 _ _ _=>cases p
 |Gj t h i=>
  rename_i d k a sa
  intro _ r e;cases k with
  |succ k=>rw[Er]at e;cases e
  |zero=>obtain⟨d',x,y,f,g,hd,m,n⟩:=i (by decide) r (by simpa using e);exact⟨d',x,y,f,g,hd,by simpa using m,λz=>by simpa using n z⟩
 |uo t v h i=>
  rename_i d k ee a sa
  intro _ r e;cases k with
  |succ k=>rw[Er]at e;cases e
  |zero=>
   cases b:a with
   |nil=>exact absurd b (h.ne (by decide))
   |cons c o=>
    rw[b]at e;cases e;obtain⟨d',x,y,f,g,hd,m,n⟩:=i (by decide) o b;refine⟨d',x,y++94::dg ee,f,g,hd,?_,λz=>?_⟩
    .rw[<-b,m];simp
    .have:=(P2.mp z).2;cases this
 |name A w u=>intro _ r e;have:=u 40 (by rw[e];exact Bi);unfold isLet at this;omega
 |num h=>intro _ r e;have:=vW 40 (by rw[e];exact Bi);omega
 |brk h hd i=>intro _ r e;exact⟨_,_,[],_,h,hd,rfl,λ_=>rfl⟩
 |_=>intro z;omega
theorem G.closes{l d:Nat}{s r:List Nat}{st:List W}(h:G l d s st)(c:l<4)(e:s=40::r)(a:qy 0 s=true):G 3 d s st:=by
 obtain⟨j,x,y,i,g,hd,b,f⟩:=h.first c r e
 rw[b,C4 g.Vw]at a;have:y=[]:=Fu.mp a;subst this;rw[f rfl,b];exact .brk g hd
end lF
namespace VL
open PySem PySem.Spec
open PyProof.Rows hiding St
open L2 Num lF
noncomputable def lvl:Tr->Nat
 |.nm _=>4
 |.nu _=>4
 |.op o _ _=>if o=43\/o=45 then 1 else 2
 |.pw _ _=>3
 |.ls _=>3
noncomputable def pT(T:Tr):W:=.tup [wX (txt T),.int (lvl T)]
noncomputable def lz(l m:Nat)(s:List Nat):List Nat:=if m<=l then s else 40::(s++[41])
theorem Xi(T:Tr):lz (lvl T) 4 (txt T)=br (bi T) 4 (txt T):=by
 have:∀s:List Nat,(if 4<=lvl T then s else 40::(s++[41]))=if bi T<4 then 40::(s++[41])else s:=λs=>by
  cases T with
  |op o a b=>
   show(if 4<=(if o=43\/o=45 then 1 else 2)then s else _)=if(if o=43\/o=45 then 0 else 1)<4 then _ else s
   split<;>rfl
  |_=>rfl
 exact this _
theorem Vx(T:Tr):lz (lvl T) 3 (txt T)=br (bi T) 2 (txt T):=by
 have:∀s:List Nat,(if 3<=lvl T then s else 40::(s++[41]))=if bi T<2 then 40::(s++[41])else s:=λs=>by
  cases T with
  |op o a b=>
   show(if 3<=(if o=43\/o=45 then 1 else 2)then s else _)=if(if o=43\/o=45 then 0 else 1)<2 then _ else s
   split<;>rfl
  |_=>rfl
 exact this _
theorem Vy(T:Tr):lz (lvl T) 2 (txt T)=br (bi T) 1 (txt T):=by
 have:∀s:List Nat,(if 2<=lvl T then s else 40::(s++[41]))=if bi T<1 then 40::(s++[41])else s:=λs=>by
  cases T with
  |op o a b=>
   show(if 2<=(if o=43\/o=45 then 1 else 2)then s else _)=if(if o=43\/o=45 then 0 else 1)<1 then _ else s
   split<;>rfl
  |_=>rfl
 exact this _
theorem Xj(T:Tr):lz (lvl T) 1 (txt T)=br (bi T) 0 (txt T):=by
 have:∀s:List Nat,(if 1<=lvl T then s else 40::(s++[41]))=if bi T<0 then 40::(s++[41])else s:=λs=>by
  cases T with
  |op o a b=>
   show(if 1<=(if o=43\/o=45 then 1 else 2)then s else _)=if(if o=43\/o=45 then 0 else 1)<0 then _ else s
   split<;>rfl
  |_=>rfl
 exact this _
noncomputable def gW:List CS:=[.NN [2,3] (.var 0),.ret (.ite (.cmp .GtE (.var 3) (.var 1)) (.var 2) (.fst [(.str "("),(.fmt (.var 2)),(.str ")")]))]
noncomputable def ya:aU:=λa Q _=>∃(s:List Nat)(l m:Nat),a=[.tup [wX s,.int l],.int m]/\s.length<=1000/\Q (wX (lz l m s))
theorem uD{c:Nat->aU}{G:Nat->W}{m:Md}(b:List W)(Q:W->Prop)(R:Addr->Prop)(h:ya b Q R):wSs c G gW (aZ m Q R) (aq 4 b):=by
 obtain⟨s,l,k,rfl,d,a⟩:=h;show wSs _ _ gW _ [some _,some _,none,none];unfold gW;fin2;refine⟨rfl,?_⟩;fin2;unfold lz at a;by_cases e:k<=l
 .rw[Do (FC (by omega))];rw[Do e]at a;exact a
 .rw[Bn (by rw[Kj];omega)];rw[Bn e]at a;rw[qx,nZ];refine⟨by rw[mG];show 0+1<=2000;decide,d,?_,?_,?_⟩
  .show 1+s.length<=2000;omega
  .show(40::s).length+1<=2000;rw[AE];omega
  .exact a
noncomputable def dF:List CS:=[.ret (.tup [(.fst [(.fmt (.var 1))]),(.glob 0)])]
noncomputable def gq:aU:=λa Q _=>∃T:Tr,(a=[.str "name",wX (txt T)]/\(∃x,T=.nm x)\/∃n:Nat,a=[.str "number",.int n]/\T=.nu n)/\kL T/\Q (pT T)
theorem uE{d:Nat->aU}{m:Md}(b:List W)(Q:W->Prop)(R:Addr->Prop)(h:gq b Q R):wSs d (bX [.int 4]) dF (aZ m Q R) (aq 2 b):=by
 obtain⟨T,h,a,c⟩:=h;have tl:=cP T a;rcases h with⟨rfl,x,rfl⟩|⟨n,rfl,rfl⟩
 .show wSs _ _ dF _ [some _,some _];unfold dF;fin2;have e:x.length<=8:=a.2.1;refine⟨by show x.length<=1000;omega,by show 0+x.length<=2000;omega,s2,?_⟩;exact c
 .show wSs _ _ dF _ [some _,some _];unfold dF;fin2;have e:(dg n).length<=30:=gM (by decide) a;refine⟨iG a,?_⟩;rw[j6];refine⟨by show 0+(dg n).length<=2000;omega,s2,?_⟩;exact c
noncomputable def dG:List CS:=[.iff (.cmp .Eq (.var 0) (.str "power")) [.set 3 (.call 0 [(.var 2),(.glob 0)]),.ret (.tup [(.fst [(.fmt (.var 3)),(.str "^"),(.fmt (.var 1))]),(.glob 1)])] [],.set 4 (.call 0 [(.var 2),(.glob 1)]),.ret (.tup [(.fst [(.str "-"),(.fmt (.var 4))]),(.glob 1)])]
noncomputable def gr:aU:=λb Q _=>∃a:Tr,kL a/\sz a<=26/\((∃e:Nat,e<=12/\b=[.str "power",.int e,pT a]/\Q (pT (.pw a e)))\/(b=[.str "minus",.int 0,pT a]/\Q (pT (.ls a))))
theorem mz(l m:Nat)(s:List Nat):(lz l m s).length<=s.length+2:=by
 unfold lz;split
 .omega
 .simp
theorem uF{m:Md}(c:List W)(Q:W->Prop)(R:Addr->Prop)(h:gr c Q R):wSs (bK [ya]) (bX [.int 4,.int 3]) dG (aZ m Q R) (aq 5 c):=by
 obtain⟨a,f,hz,h⟩:=h;have tl:=cP a f;rcases h with⟨e,d,rfl,b⟩|⟨rfl,b⟩
 .show wSs _ _ dG _ [some _,some _,some _,none,none];unfold dG;fin2;rw[FC rfl];fin2;refine⟨txt a,lvl a,4,rfl,by omega,?_⟩;have g:=mz (lvl a) 4 (txt a);have i:(dg e).length<=2:=gM (by decide) (by omega);fin2;refine⟨by show(lz _ _ _).length<=1000;omega,by show 0+(lz _ _ _).length<=2000;omega,?_⟩;rw[show("^":Str)=tx [94] by decide+kernel];refine⟨by show(lz _ _ _).length+1<=2000;omega,iG (XB d (by decide)),?_⟩;rw[j6];refine⟨by show(lz _ _ _++[94]).length+(dg e).length<=2000;rw[B1];show _+1+_<=2000;omega,s2,?_⟩;have:txt (.pw a e)=lz (lvl a) 4 (txt a)++[94]++dg e:=by rw[Xi];show br (bi a) 4 (txt a)++94::dg e=_;simp
  unfold pT at b;rw[this]at b;exact b
 .show wSs _ _ dG _ [some _,some _,some _,none,none];unfold dG;fin2;rw[FM (by decide+kernel)];fin2;refine⟨txt a,lvl a,3,rfl,by omega,?_⟩;have g:=mz (lvl a) 3 (txt a);fin2;rw[mj];refine⟨by show 0+1<=2000;decide,by show(lz _ _ _).length<=1000;omega,by show 1+(lz _ _ _).length<=2000;omega,s2,?_⟩;have:txt (.ls a)=45::lz (lvl a) 3 (txt a):=by rw[Vx];rfl
  unfold pT at b;rw[this]at b;exact b
noncomputable def gu:List CS:=[.set 3 (.ite (.cmp .In (.var 0) (.tup [(.str "+"),(.str "-")])) (.glob 0) (.glob 1)),.set 4 (.call 0 [(.var 1),(.var 3)]),.set 5 (.call 0 [(.var 2),(.bin .Add (.var 3) (.int 1))]),.ret (.tup [(.fst [(.fmt (.var 4)),(.str " "),(.fmt (.var 0)),(.str " "),(.fmt (.var 5))]),(.var 3)])]
noncomputable def gX:aU:=λc Q _=>∃(o:Nat)(a b:Tr),kL (.op o a b)/\sz (.op o a b)<=27/\c=[.str (tx [o]),pT a,pT b]/\Q (pT (.op o a b))
theorem rX{m:Md}(j:List W)(Q:W->Prop)(R:Addr->Prop)(h:gX j Q R):wSs (bK [ya]) (bX [.int 1,.int 2]) gu (aZ m Q R) (aq 6 j):=by
 obtain⟨o,a,b,i,hz,rfl,g⟩:=h;have hz:sz a+sz b+1<=27:=hz;have s:=b8 a;have r:=b8 b;have q:=cP a i.2.1;have p:=cP b i.2.2;show wSs _ _ gu _ [some _,some _,some _,none,none,none];unfold gu;generalize c:(if o=43\/o=45 then 1 else 2:Nat)=l;have f:txt (.op o a b)=lz (lvl a) l (txt a)++[32]++[o]++[32]++lz (lvl b) (l+1) (txt b):=by
  show br (bi a) (bi (.op o a b)) (txt a)++(32::o::32::br (bi b) (bi (.op o a b)+1) (txt b))=_;by_cases e:o=43\/o=45
  .rw[Do e]at c;subst c;rw[show bi (.op o a b)=0 from Do e,Xj,Vy];simp
  .rw[Bn e]at c;subst c;rw[show bi (.op o a b)=1 from Bn e,Vy,Vx];simp
 have n:lvl (.op o a b)=l:=c;unfold pT at g;rw[f,n]at g;refine aM (λd=>d=[some (.str (tx [o])),some (pT a),some (pT b),some (.int l),none,none]) (λN k=>?_) ?_
 .fin2;refine⟨s2,["+","-"],rfl,?_⟩;have:decide (tx [o]∈(["+","-"]:List Str))=decide (o=43\/o=45):=by rcases i.1 with rfl|rfl|rfl|rfl<;>decide+kernel
  rw[this];fin2;by_cases e:o=43\/o=45
  .rw[Do (FC e)];rw[Do e]at c;subst c;exact k _ rfl
  .rw[Bn (by rw[Kj];exact e)];rw[Bn e]at c;subst c;exact k _ rfl
 rintro _ rfl;have u:=mz (lvl a) l (txt a);have t:=mz (lvl b) (l+1) (txt b);fin2;refine⟨txt a,lvl a,l,rfl,by omega,?_⟩;fin2;refine⟨txt b,lvl b,l+1,rfl,by omega,?_⟩;fin2;rw[show(" ":Str)=tx [32] by decide+kernel];refine⟨by show(lz _ _ _).length<=1000;omega,by show 0+(lz _ _ _).length<=2000;omega,by show(lz _ _ _).length+1<=2000;omega,by show 1<=1000;decide,?_,?_,by show(lz _ _ _).length<=1000;omega,?_,s2,g⟩
 .show(lz _ _ _++[32]).length+1<=2000;rw[B1];show _+1+1<=2000;omega
 .show(lz _ _ _++[32]++[o]).length+1<=2000;rw[B1,B1];show _+1+1+1<=2000;omega
 .show(lz _ _ _++[32]++[o]++[32]).length+(lz _ _ _).length<=2000;rw[B1,B1,B1];show _+1+1+1+_<=2000;omega
noncomputable def dP:List CS:=[.iff (.cmp .In (.var 5) (.tup [(.str "number"),(.str "name")])) [.Kh 4 (.Br 1 0 0 [(.var 5),(.var 6)])] [.iff (.cmp .In (.var 5) (.tup [(.str "power"),(.str "minus")])) [.Kh 4 (.Br 2 1 1 [(.var 5),(.var 6),(.pop 4)])] [.oY 7 (.pop 4),.Kh 4 (.Br 3 2 2 [(.var 5),(.pop 4),(.var 7)])]]]
noncomputable def n9:List CS:=[.set 4 (.lst []),.fr [5,6] false (.var 0) dP,.Pn (.pop 4)]
noncomputable def mD(f1 f2 f3:Addr):aU:=λa Q _=>∃T:Tr,a=[.tup (stp T),.fn f1,.fn f2,.fn f3]/\kL T/\sz T<=27/\Q (pT T)
abbrev Je(z:W)(f1 f2 f3:Addr)(ws:List W)(o5 o6 o7:Option W):Ev:=[some z,some (.fn f1),some (.fn f2),some (.fn f3),some (.lst ws),o5,o6,o7]
theorem yb{z:W}{f1 f2 f3:Addr}{D:Dn}{a:List W}{d c b:Option W}{k:Str}{x:W}{T:Tr}(e:k="number"\/k="name")(h:a.length<=100)(f:∀Q R,Q (pT T)->gq [.str k,x] Q R)(g:∀d c b,D.nx (Je z f1 f2 f3 (a++[pT T]) d c b)):
 IL (bK [gq,gr,gX]) (bX [.fn f1,.fn f2,.fn f3]) false [5,6] dP (.tup [.str k,x]) D (Je z f1 f2 f3 a d c b):=by
 unfold dP;fin2;refine⟨rfl,?_⟩;fin2;refine⟨s2,["number","name"],rfl,?_⟩;have:decide (k∈(["number","name"]:List Str))=true:=FC (by rcases e with rfl|rfl<;>decide+kernel);rw[this];fin2;refine⟨trivial,f _ _ ?_⟩;exact⟨FR (m:=200) (by omega) (by decide),g _ _ _⟩
theorem oh(l:List W)(w:W):(l++[w])[(l++[w]).length -1]?=some w/\(l++[w]).dropLast=l:=by refine⟨?_,List.dropLast_concat⟩;rw[B1,HK,Y0,IH (DL _),Rn];rfl
theorem yc{z:W}{f1 f2 f3:Addr}{D:Dn}{b:List W}{e d c:Option W}{k:Str}{x:W}{a T:Tr}(f:k="power"\/k="minus")(o:b.length<=100)(i:∀Q R,Q (pT T)->gr [.str k,x,pT a] Q R)(j:∀e d c,D.nx (Je z f1 f2 f3 (b++[pT T]) e d c)):
 IL (bK [gq,gr,gX]) (bX [.fn f1,.fn f2,.fn f3]) false [5,6] dP (.tup [.str k,x]) D (Je z f1 f2 f3 (b++[pT a]) e d c):=by
 unfold dP;fin2;refine⟨rfl,?_⟩;fin2;refine⟨s2,["number","name"],rfl,?_⟩;have n:decide (k∈(["number","name"]:List Str))=false:=FM (by rcases f with rfl|rfl<;>decide+kernel);rw[n];fin2;refine⟨s2,["power","minus"],rfl,?_⟩;have l:decide (k∈(["power","minus"]:List Str))=true:=FC (by rcases f with rfl|rfl<;>decide+kernel);rw[l];fin2;obtain⟨h,g⟩:=oh b (pT a);refine⟨trivial,pT a,h,?_⟩;rw[g];exact i _ _ ⟨FR (m:=200) (by omega) (by decide),j _ _ _⟩
theorem C5{z:W}{f1 f2 f3:Addr}{D:Dn}{c:List W}{f e d:Option W}{o:Nat}{a b:Tr}(g:kL (.op o a b))(hz:sz (.op o a b)<=27)(q:c.length<=100)(l:∀f e d,D.nx (Je z f1 f2 f3 (c++[pT (.op o a b)]) f e d)):
 IL (bK [gq,gr,gX]) (bX [.fn f1,.fn f2,.fn f3]) false [5,6] dP (vN o) D (Je z f1 f2 f3 (c++[pT a]++[pT b]) f e d):=by
 unfold dP vN;fin2;refine⟨rfl,?_⟩;fin2;refine⟨s2,["number","name"],rfl,?_⟩;have p:decide (tx [o]∈(["number","name"]:List Str))=false:=FM (by rcases g.1 with rfl|rfl|rfl|rfl<;>decide+kernel);rw[p];fin2;refine⟨s2,["power","minus"],rfl,?_⟩;have n:decide (tx [o]∈(["power","minus"]:List Str))=false:=FM (by rcases g.1 with rfl|rfl|rfl|rfl<;>decide+kernel);rw[n];fin2;obtain⟨k,j⟩:=oh (c++[pT a]) (pT b);refine⟨pT b,k,?_⟩;rw[j];fin2;obtain⟨i,h⟩:=oh c (pT a);refine⟨trivial,pT a,i,?_⟩;rw[h];exact⟨o,a,b,g,hz,rfl,FR (m:=200) (by omega) (by decide),l _ _ _⟩
theorem oi{z:W}{f1 f2 f3:Addr}{D:Dn}:∀(T:Tr),kL T->sz T<=27->∀(rest:List W)(c:List W)(h g f:Option W),c.length+sz T<=60->(∀h g f,fS (IL (bK [gq,gr,gX]) (bX [.fn f1,.fn f2,.fn f3]) false [5,6] dP) D rest (Je z f1 f2 f3 (c++[pT T]) h g f))->fS (IL (bK [gq,gr,gX]) (bX [.fn f1,.fn f2,.fn f3]) false [5,6] dP) D (stp T++rest) (Je z f1 f2 f3 c h g f)
 |.nm x,d,hz,rest,c,h,g,f,i,j=>yb (T:=.nm x) (.inr rfl) (by omega) (λQ R q=>⟨.nm x,.inl ⟨rfl,x,rfl⟩,d,q⟩) j
 |.nu n,d,hz,rest,c,h,g,f,i,j=>yb (T:=.nu n) (.inl rfl) (by omega) (λQ R q=>⟨.nu n,.inr ⟨n,rfl,rfl⟩,d,q⟩) j
 |.pw a e,d,hz,rest,c,h,g,f,i,j=>by have hz:sz a+1<=27:=hz;have i:c.length+(sz a+1)<=60:=i;show fS _ _ ((stp a++[rL e])++rest) _;rw[KF];exact oi a d.2 (by omega) _ c h g f (by omega) λm l k=>yc (T:=.pw a e) (.inl rfl) (by omega) (λQ R q=>⟨a,d.2,by omega,.inl ⟨e,d.1,rfl,q⟩⟩) j
 |.ls a,d,hz,rest,c,h,g,f,i,j=>by have hz:sz a+1<=27:=hz;have i:c.length+(sz a+1)<=60:=i;show fS _ _ ((stp a++[pG])++rest) _;rw[KF];exact oi a d (by omega) _ c h g f (by omega) λm l k=>yc (T:=.ls a) (.inr rfl) (by omega) (λQ R q=>⟨a,d,by omega,.inr ⟨rfl,q⟩⟩) j
 |.op o a b,d,hz,rest,c,h,g,f,i,j=>by have p:sz a+sz b+1<=27:=hz;have i:c.length+(sz a+sz b+1)<=60:=i;have r:=b8 b;show fS _ _ ((stp a++(stp b++[vN o]))++rest) _;rw[KF,KF];refine oi a d.2.1 (by omega) _ c h g f (by omega) λm l k=>?_;refine oi b d.2.2 (by omega) _ (c++[pT a]) m l k (by rw[B1];show c.length+1+_<=60;omega) λm l k=>?_;exact C5 d hz (by omega) j
theorem C6{f1 f2 f3:Addr}{m:Md}(a:List W)(Q:W->Prop)(R:Addr->Prop)(h:mD f1 f2 f3 a Q R):wSs (bK [gq,gr,gX]) (bX [.fn f1,.fn f2,.fn f3]) n9 (aZ m Q R) (aq 8 a):=by obtain⟨T,rfl,c,hz,b⟩:=h;show wSs _ _ n9 _ [some _,some _,some _,some _,none,none,none,none];unfold n9;fin2;refine⟨ay (by show 0<=1000;decide),?_⟩;have:=oi (z:=.tup (stp T)) (f1:=f1) (f2:=f2) (f3:=f3) (D:=⟨λx=>match look x 4 with|some (.lst l)=>∃w,l[l.length -1]?=some w/\(aZ m Q R).rt w|_=>False,(aZ m Q R).rt,(aZ m Q R).bk,(aZ m Q R).ct,(aZ m Q R).ex⟩) T c hz [] [] none none none (by show 0+sz T<=60;omega) λf e d=>⟨pT T,rfl,b⟩;rw[Kt]at this;exact this
noncomputable def mE:List CS:=[.ret (.ix (.call 0 [(.Kg (.var 0) 0 "steps"),(.glob 0),(.glob 1),(.glob 2)]) (.int 0))]
noncomputable def kM(CE:Addr):aU:=λa Q _=>∃T:Tr,a=[Ex CE (stp T)]/\kL T/\sz T<=27/\Q (wX (txt T))
theorem GK{CE f1 f2 f3:Addr}{m:Md}(a:List W)(Q:W->Prop)(R:Addr->Prop)(h:kM CE a Q R):wSs (bK [mD f1 f2 f3]) (bX [.fn f1,.fn f2,.fn f3,.cls CE]) mE (aZ m Q R) (aq 1 a):=by obtain⟨T,rfl,c,hz,b⟩:=h;show wSs _ _ mE _ [some _];unfold mE;fin2;exact⟨rfl,_,rfl,T,rfl,c,hz,_,rfl,b⟩
end VL
namespace lF
open L2 PySem VL
structure Lv(T:Tr)(d:Nat)(s:List Nat):Prop where
 g0:G 0 d s (stp T)
 g1:1<=bi T->G 1 d s (stp T)
 f:2<=bi T->su d (sz T) s (stp T)
 g3:bi T=4->G 3 d s (stp T)
noncomputable def GL(s:List Nat):Prop:=(∃r,s=40::r)/\qy 0 s=true
structure Nj(T:Tr)(s:List Nat):Prop where
 lv:Lv T (sz T) s
 bare:¬GL s->G 0 (sz T -1) s (stp T)
 len:s.length+9<=43*sz T
structure Dz(T:Tr)(l:Nat)(s:List Nat):Prop where
 h0:l=0->G 0 (sz T) s (stp T)
 h1:l=1->G 1 (sz T) s (stp T)
 h2:l=2->su (sz T) (sz T) s (stp T)
 h4:l=4->G 3 (sz T) s (stp T)
 len:s.length+7<=43*sz T
theorem Dz.Vz{T:Tr}{l:Nat}{s:List Nat}(h:G 3 (sz T) s (stp T))(a:s.length+7<=43*sz T):Dz T l s:=⟨λ_=>h.xN.oO.up1,λ_=>h.xN.oO,λ_=>.of h _,λ_=>h,a⟩
theorem zH{T:Tr}{l:Nat}{s:List Nat}(h:Nj T s)(a:GL s):Dz T l s:=by obtain⟨⟨r,e⟩,b⟩:=a;have:=h.len;exact .Vz (h.lv.g0.closes (by decide) e b) (by omega)
theorem GN{T:Tr}{l:Nat}{s:List Nat}(h:Nj T s)(a:¬GL s):Dz T l (40::(s++[41])):=by have p:=b8 T;have:=h.len;exact .Vz (.brk (h.bare a) (by omega)) (by simp;omega)
theorem GO{T:Tr}{l:Nat}{s:List Nat}(h:Nj T s)(a:¬bi T<l):Dz T l s:=by have:=h.len;have:=IV T;exact⟨λ_=>h.lv.g0,λe=>h.lv.g1 (by omega),λe=>h.lv.f (by omega),λe=>h.lv.g3 (by omega),by omega⟩
theorem C7{T:Tr}{s:List Nat}(h:Lv T (sz T -1) s)(a:s.length+9<=43*sz T):Nj T s:=
 ⟨⟨h.g0.mono (by omega),λz=>(h.g1 z).mono (by omega),λz=>(h.f z).mono (by omega) (DL _),λz=>(h.g3 z).mono (by omega)⟩,λ_=>h.g0,a⟩
theorem C8{T:Tr}{s:List Nat}(h:Lv T (sz T -1) s)(a:s.length+11<=43*sz T):Nj T (40::(s++[41])):=by have p:=b8 T;have g:G 3 (sz T) (40::(s++[41])) (stp T):=.brk h.g0 (by omega);refine⟨⟨g.xN.oO.up1,λ_=>g.xN.oO,λ_=>.of g _,λ_=>g⟩,λz=>(z ⟨⟨_,rfl⟩,?_⟩).elim,by simp;omega⟩;exact C4 h.g0.Vw []
theorem QT{x:List Nat}(h:kL (.nm x)):Lv (.nm x) 0 x:=by have g:G 3 0 x (stp (.nm x)):=.name h.1 h.2.1 h.2.2;exact⟨g.xN.oO.up1,λ_=>g.xN.oO,λ_=>.of g _,λ_=>g⟩
theorem QU{n:Nat}(h:kL (.nu n)):Lv (.nu n) 0 (dg n):=by have g:G 3 0 (dg n) (stp (.nu n)):=.num h;exact⟨g.xN.oO.up1,λ_=>g.xN.oO,λ_=>.of g _,λ_=>g⟩
theorem QV{a:Tr}{s:List Nat}(h:Dz a 2 s)(hz:sz a+1<=30):Lv (.ls a) (sz a) (45::s):=by have f:su (sz a) (sz a+1) (45::s) (stp (.ls a)):=(h.h2 rfl).less;have g:=f.g hz;exact⟨g.oO.up1,λ_=>g.oO,λ_=>f,λz=>by cases z⟩
theorem QW{a:Tr}{e:Nat}{s:List Nat}(h:Dz a 4 s)(he:e<=12)(hz:sz a+1<=30):Lv (.pw a e) (sz a) (s++94::dg e):=by have f:su (sz a) (sz a+1) (s++94::dg e) (stp (.pw a e)):=⟨0,_,_,_,_,Mo _,h.h4 rfl,rfl,by show stp a++[rL e]=_;simp,.inr ⟨e,he,rfl,rfl⟩⟩;have g:=f.g hz;exact⟨g.oO.up1,λ_=>g.oO,λ_=>f,λz=>by cases z⟩
theorem QX{o l:Nat}{a b:Tr}{s t:List Nat}(d:bi (.op o a b)=l)(p:o=43\/o=45\/o=42\/o=47)(h1:Dz a l s)(h2:Dz b (l+1) t)(hz:sz b<=30):Lv (.op o a b) (sz a+sz b) (s++(32::o::32::t)):=by
 have j:sz a<=sz a+sz b:=by omega
 have i:sz b<=sz a+sz b:=by omega
 by_cases e:o=43\/o=45
 .have c:bi (.op o a b)=0:=Do e;rw[c]at d;subst d;have g:G 0 (sz a+sz b) (s++(32::o::32::t)) (stp a++(stp b++[vN o])):=by
   have m:=(h1.h0 rfl).mono j;generalize stp a=n at m⊢;cases m with
   |sum h f=>have:=G.sum h (G.IM e ((h2.h1 rfl).mono i) f);simpa using this
  exact⟨g,λz=>by rw[c]at z;omega,λz=>by rw[c]at z;omega,λz=>by rw[c]at z;omega⟩
 .have c:bi (.op o a b)=1:=Bn e;rw[c]at d;subst d;have g:G 1 (sz a+sz b) (s++(32::o::32::t)) (stp a++(stp b++[vN o])):=by
   have k:=(h1.h1 rfl).mono j;generalize stp a=n at k⊢;cases k with
   |term h f=>have:=G.term h (G.IP (show o=42\/o=47 by omega) (((h2.h2 rfl).g hz).mono i) f);simpa using this
  exact⟨g.up1,λ_=>g,λz=>by rw[c]at z;omega,λz=>by rw[c]at z;omega⟩
end lF
namespace VL
open PySem PySem.Spec
open PyProof.Rows hiding St
open L2 Num lF
noncomputable def Jf:List CS:=[.set 1 (.bin .Sub (.bin .Add (.var 1) (.blt .int [(.cmp .Eq (.ix (.var 0) (.var 2)) (.str "("))])) (.blt .int [(.cmp .Eq (.ix (.var 0) (.var 2)) (.str ")"))])),.iff (.cmp .Eq (.var 1) (.int 0)) [.ret (.cmp .Eq (.var 2) (.bin .Sub (.blt .len [(.var 0)]) (.int 1)))] []]
noncomputable def oj:List CS:=[.set 1 (.int 0),.fr [2] true (.pS [(.blt .len [(.var 0)])]) Jf,.ret (.bl false)]
noncomputable def jM:aU:=λa Q _=>∃s:List Nat,a=[wX s]/\s.length<=2000/\Q (.bl (qy 0 s))
theorem bJ{n:Nat}(h:n<=2000):n<=sizeLine:=GE h (by decide)
theorem vX(c o:Nat):decide (tx [c]=tx [o])=decide (c=o):=by rw[lg];exact UV.mpr ⟨λh=>(TK h).1,λh=>by rw[h]⟩
theorem C9{q:Nat->aU}{G:Nat->W}{m:Md}(j:List W)(Q:W->Prop)(R:Addr->Prop)(h:jM j Q R):wSs q G oj (aZ m Q R) (aq 3 j):=by
 obtain⟨s,rfl,e,c⟩:=h;show wSs _ _ oj _ [some _,none,none];unfold oj;refine aM (λb=>b=[some (wX s),some (.int 0),none]) (λN g=>?_) ?_
 .fin2;exact g _ rfl
 rintro _ rfl;refine aM (λb=>qy 0 s=false) (λN g=>?_) ?_
 .refine qw (l:=gi 0 1 s.length) (λQ c=>?_) ?_
  .fin2;refine⟨bJ e,by omega,by omega,?_⟩;rw[L0];exact c
  refine iC (λi p=>∃(n:Int)(o2:Option W),qy n (s.drop i)=qy 0 s/\p=[some (wX s),some (.int n),o2]) ⟨0,none,by rw[YL],rfl⟩ ?_ ?_
  .rintro i w _ y r ⟨n,o2,a,rfl⟩ x;obtain⟨o,rfl⟩:=CC r;have t:s.drop i=s[i]::s.drop (i+1):=PQ o;rw[t]at a;have d:ig s (i:Int)=some s[i]:=cN (Dx o);have a:(if n+(if s[i]=40 then 1 else 0) -(if s[i]=41 then 1 else 0)=0 then(s.drop (i+1)).isEmpty else qy (n+(if s[i]=40 then 1 else 0) -(if s[i]=41 then 1 else 0)) (s.drop (i+1)))=qy 0 s:=a;unfold Jf;fin2;refine⟨bJ e,s[i],d,?_⟩;fin2;refine⟨bJ e,s[i],d,?_⟩;rw[qx,nZ,vX,vX];fin2;have v:(if decide (s[i]=40)=true then(1:Int)else 0)=if s[i]=40 then 1 else 0:=by simp only[Kj]
   have u:(if decide (s[i]=41)=true then(1:Int)else 0)=if s[i]=41 then 1 else 0:=by simp only[Kj]
   rw[v,u];generalize n+(if s[i]=40 then 1 else 0) -(if s[i]=41 then 1 else 0)=k at a⊢;by_cases f:k=0
   .rw[Do (FC f)];rw[Do f]at a;refine⟨bJ e,?_⟩;have:decide ((i:Int)=(s.length:Int) -1)=(s.drop (i+1)).isEmpty:=by rw[Qb,Kj,Fu,List.drop_eq_nil_iff];omega
    rw[this,a];exact c
   .rw[Bn (by rw[Kj];exact f)];rw[Bn f]at a;exact x _ ⟨k,_,a,rfl⟩
  .rintro _ ⟨n,o2,a,rfl⟩;rw[xP,Og]at a;exact g _ a.symm
 intro _ a;fin2;rw[a]at c;exact c
noncomputable def rY:List CS:=[.set 4 (.call 0 [(.var 0),(.var 2),(.bin .Add (.var 3) (.int 1))]),.iff (.and [(.cmp .Eq (.ix (.var 4) (.int 0)) (.str "(")),(.call 1 [(.var 4)])]) [.ret (.var 4)] [],.iff (.cmp .Lt (.call 2 [(.var 0)]) (.var 1)) [.ret (.bin .Add (.bin .Add (.str "(") (.var 4)) (.str ")"))] [],.ret (.var 4)]
noncomputable def Nk(a:List Int):Prop:=a.length=16
noncomputable def gY(n:Nat):aU:=λb Q _=>∃(T:Tr)(a:List Int)(d:Nat),b=[wt T,wI a,.int d]/\kL T/\sz T<=n/\sz T<=27/\Nk a/\d<=2^(2*(28 -sz T))/\∀s,Nj T s->Q (wX s)
noncomputable def yd(n:Nat):aU:=λb Q _=>∃(T:Tr)(l:Nat)(a:List Int)(d:Nat),b=[wt T,.int l,wI a,.int d]/\kL T/\sz T<=n/\sz T<=27/\Nk a/\d+1<=2^(2*(28 -sz T))/\∀s,Dz T l s->Q (wX s)
theorem Nl{n:Nat}{G:Nat->W}{m:Md}(o:List W)(Q:W->Prop)(R:Addr->Prop)(h:yd n o Q R):wSs (bK [gY n,jM,c9]) G rY (aZ m Q R) (aq 5 o):=by
 obtain⟨T,l,p,d,rfl,q,u,t,j,hd,i⟩:=h;show wSs _ _ rY _ [some (wt T),some (.int l),some (wI p),some (.int d),none];unfold rY;fin2;refine⟨T,p,d+1,rfl,q,u,t,j,hd,λs b=>?_⟩;have w:=b.len;fin2;cases s with
 |nil=>exact absurd rfl (b.lv.g0.ne (by decide))
 |cons c r=>
  refine⟨bJ (by show(c::r).length<=2000;omega),c,cN (n:=0) rfl,?_⟩;rw[qx,vX];have rest:¬GL (c::r)->c9 [wt T] (λx=>dM .Lt x (.int l) λx=>truth x λk=>if k=true then(tx [40]).length+(tx (c::r)).length<=sizeLine/\(tx [40]++tx (c::r)).length+(tx [41]).length<=sizeLine/\Q (.str (tx [40]++tx (c::r)++tx [41]))else Q (wX (c::r))) R:=λg=>by
   refine⟨T,rfl,q,?_⟩;fin2;by_cases v:bi T<l
   .rw[Do (FC (by omega))];rw[aY,aY];exact⟨bJ (by show 1+(c::r).length<=2000;omega),bJ (by show(40::c::r).length+1<=2000;rw[AE];omega),i _ (GN b g)⟩
   .rw[Bn (by rw[Kj];omega)];exact i _ (GO b v)
  by_cases f:c=40
  .rw[Do (FC f)];refine⟨c::r,rfl,by omega,?_⟩;fin2;by_cases a:qy 0 (c::r)=true
   .rw[Do a];exact i _ (zH b ⟨⟨r,by rw[f]⟩,a⟩)
   .rw[Bn a];rw[nZ];exact rest λz=>a z.2
  .rw[Bn (by rw[Kj];exact f)];rw[nZ];exact rest λ⟨⟨y,e⟩,_⟩=>f (TK e).1
noncomputable def Jg:CS:=.iff (.or [(.cmp .Eq (.ix (.var 0) (.int 0)) (.str "name")),(.cmp .Eq (.ix (.var 0) (.int 0)) (.str "number"))]) [.set 4 (.blt .str [(.ix (.var 0) (.int 1))])] [.iff (.cmp .Eq (.ix (.var 0) (.int 0)) (.str "less")) [.set 4 (.bin .Add (.str "-") (.call 0 [(.ix (.var 0) (.int 1)),(.int 2),(.var 1),(.var 2)]))] [.iff (.cmp .Eq (.ix (.var 0) (.int 0)) (.str "^")) [.set 4 (.bin .Add (.bin .Add (.call 0 [(.ix (.var 0) (.int 1)),(.int 4),(.var 1),(.var 2)]) (.str "^")) (.blt .str [(.ix (.var 0) (.int 2))]))] [.set 5 (.call 1 [(.var 0)]),.set 4 (.bin .Add (.bin .Add (.bin .Add (.call 0 [(.ix (.var 0) (.int 1)),(.var 5),(.var 1),(.bin .Add (.bin .Mult (.int 2) (.var 2)) (.int 1))]) (.str " ")) (.ix (.var 0) (.int 0))) (.str " ")),.set 4 (.bin .Add (.var 4) (.call 0 [(.ix (.var 0) (.int 2)),(.bin .Add (.var 5) (.int 1)),(.var 1),(.bin .Add (.bin .Mult (.int 2) (.var 2)) (.int 2))]))]]]
noncomputable def mF:List CS:=[.set 3 (.bin .FloorDiv (.ix (.var 1) (.bin .Mod (.var 2) (.blt .len [(.var 1)]))) (.bin .Add (.int 1) (.bin .Mult (.bin .FloorDiv (.var 2) (.blt .len [(.var 1)])) (.int 7)))),Jg,.iff (.and [(.cmp .Eq (.bin .Mod (.var 3) (.int 4)) (.int 0)),(.cmp .Lt (.var 2) (.int 40))]) [.ret (.bin .Add (.bin .Add (.str "(") (.var 4)) (.str ")"))] [],.ret (.var 4)]
theorem Dc{a b:Nat}(h:a<=b):2^(2*a)<=2^(2*b):=Nat.pow_le_pow_right (by decide) (by omega)
theorem Nm(x:Nat):2^(2*(x+1))=4*2^(2*x):=by rw[show 2*(x+1)=2*x+2 by omega,Nat.pow_add];omega
theorem GP{n:Nat}{G:Nat->W}{m:Md}(E:List W)(Q:W->Prop)(R:Addr->Prop)(h:gY (n+1) E Q R):wSs (bK [yd n,c9]) G mF (aZ m Q R) (aq 6 E):=by
 obtain⟨T,r,d,rfl,c,v,u,g,hd,K⟩:=h;obtain⟨O,w,A,F⟩:=QL T c;have YA:=b8 T;have M:d<=2^(2*27):=GE hd (Dc (by omega));have x1:1<=2^(2*(28 -sz T)):=Nat.one_le_two_pow;have H:∀a:Tr,sz a+1<=sz T->d+1<=2^(2*(28 -sz a)):=λa h=>by have C:=Dc (a:=28 -sz T+1) (b:=28 -sz a) (by omega);rw[Nm]at C;omega
 have L:∀(a:Tr)(k:Nat),sz a+2<=sz T->k<=2->2*d+k+1<=2^(2*(28 -sz a)):=λa k h hk=>by have C:=Dc (a:=28 -sz T+1+1) (b:=28 -sz a) (by omega);rw[Nm,Nm]at C;omega
 show wSs _ _ mF _ [some (wt T),some (wI r),some (.int d),none,none,none];unfold mF;refine aM (λi=>∃z:Int,i=[some (wt T),some (wI r),some (.int d),some (.int z),none,none]) (λN q=>?_) ?_
 .unfold wI;fin2;rw[Fh,g];have f:=fm (x:=(d:Int)) (n:=16) (by decide);obtain⟨j,Z⟩:=Nw f.1;have U:j<r.length:=by unfold Nk at g;omega
  have S:(d:Int).fdiv 16=((d/16:Nat):Int):=by rw[SZ _ (by decide)];rfl
  refine⟨by decide,_,by rw[show((16:Nat):Int)=16 from rfl,Z];exact cN (by rw[Hb,Dx U];rfl),⟨by decide,gU (n:=14) (by decide) (by decide)⟩,?_⟩;rw[show((16:Nat):Int)=16 from rfl,S];have D:(2:Nat)^(2*27)=18014398509481984:=by decide
  rw[D]at M;refine⟨dj (n:=55) (m:=4) (by omega) (by decide) (by decide),⟨by omega,gU (n:=60) (by omega) (by decide)⟩,q _ ⟨_,rfl⟩⟩
 rintro _ ⟨z,rfl⟩;refine aM (λi=>∃(s:List Nat)(B:Option W),(Lv T (sz T -1) s/\s.length+11<=43*sz T)/\i=[some (wt T),some (wI r),some (.int d),some (.int z),some (wX s),B]) (λN q=>?_) ?_
 .unfold Jg;rw[dO];fin2;refine⟨_,eX,?_⟩;fin2;rw[O];cases T with
  |nm x=>have X:x.length<=8:=c.2.1;exact⟨_,pJ,q _ ⟨x,_,⟨QT c,by show x.length+11<=43*1;omega⟩,by rw[dO]⟩⟩
  |nu k=>have X:(dg k).length<=30:=gM (by decide) c;refine⟨_,eX,?_⟩;fin2;rw[w];refine⟨_,pJ,iG c,?_⟩;rw[j6];exact q _ ⟨dg k,_,⟨QU c,by show(dg k).length+11<=43*1;omega⟩,by rw[dO]⟩
  |ls a=>have v:sz a+1<=n+1:=v;have u:sz a+1<=27:=u;refine⟨_,eX,?_⟩;fin2;rw[w];refine⟨_,eX,?_⟩;fin2;rw[A];refine⟨_,pJ,a,2,r,d,rfl,c,by omega,by omega,g,H a (DL _),λs p=>?_⟩;have y:=p.len;rw[mj];refine⟨bJ (by show 1+s.length<=2000;omega),?_⟩;rw[aY];exact q _ ⟨45::s,_,⟨QV p (by omega),by show(45::s).length+11<=43*(sz a+1);rw[AE];omega⟩,by rw[dO];rfl⟩
  |pw a e=>have v:sz a+1<=n+1:=v;have u:sz a+1<=27:=u;have el:(dg e).length<=2:=gM (by decide) (XB c.1 (by decide));refine⟨_,eX,?_⟩;fin2;rw[w];refine⟨_,eX,?_⟩;fin2;rw[A];refine⟨_,eX,?_⟩;fin2;rw[F];refine⟨_,pJ,a,4,r,d,rfl,c.2,by omega,by omega,g,H a (DL _),λs p=>?_⟩;have y:=p.len;rw[show("^":Str)=tx [94] by decide+kernel];refine⟨bJ (by show s.length+1<=2000;omega),?_⟩;rw[aY];refine⟨_,GI,iG (XB c.1 (by decide)),?_⟩;rw[j6];refine⟨bJ (by show(s++[94]).length+(dg e).length<=2000;rw[B1];show _+1+_<=2000;omega),?_⟩;rw[aY];refine q _ ⟨s++[94]++dg e,_,⟨?_,by show(s++[94]++dg e).length+11<=43*(sz a+1);rw[B1,B1];show _+1+_+11<=_;omega⟩,by rw[dO]⟩;have:=QW p c.1 (by omega);rw[KF];exact this
  |op o a b=>
   have v:sz a+sz b+1<=n+1:=v;have u:sz a+sz b+1<=27:=u;have pa:=b8 a;have pb:=b8 b;refine⟨_,eX,?_⟩;fin2;rw[w];refine⟨_,eX,?_⟩;fin2;rw[A];refine⟨_,eX,?_⟩;fin2;rw[F];refine⟨.op o a b,by rw[dO],c,?_⟩;generalize Y:bi (.op o a b)=l;fin2;have D:(2:Nat)^(2*27)=18014398509481984:=by decide
   rw[D]at M;have I:IntMulOk 2 (d:Int):=dj (n:=2) (m:=60) (by decide) (by omega) (by decide);refine⟨_,pJ,I,a,l,r,2*d+1,rfl,c.2.1,by omega,by omega,g,L a 1 (by show sz a+2<=sz a+sz b+1;omega) (by decide),λs p=>?_⟩;have y:=p.len;rw[show(" ":Str)=tx [32] by decide+kernel];refine⟨bJ (by show s.length+1<=2000;omega),_,eX,?_⟩;rw[aY,show VL.hd (.op o a b)=tx [o]from rfl];refine⟨bJ (by show(s++[32]).length+1<=2000;rw[B1];show _+1+1<=2000;omega),?_⟩;rw[aY];refine⟨bJ (by show(s++[32]++[o]).length+1<=2000;rw[B1,B1];show _+1+1+1<=2000;omega),_,GI,I,?_⟩;refine⟨b,l+1,r,2*d+2,rfl,c.2.2,by omega,by omega,g,L b 2 (by show sz b+2<=sz a+sz b+1;omega) (by decide),λt J=>?_⟩;have P:=J.len;rw[aY];refine⟨bJ (by show(s++[32]++[o]++[32]).length+t.length<=2000;rw[B1,B1,B1];show _+1+1+1+_<=2000;omega),?_⟩;rw[aY];have e0:s++[32]++[o]++[32]++t=s++(32::o::32::t):=by simp
   refine q _ ⟨s++(32::o::32::t),_,⟨QX Y c.1 p J (by omega),?_⟩,by rw[dO,e0];rfl⟩;show(s++(32::o::32::t)).length+11<=43*(sz a+sz b+1);simp only[B1,AE];omega
 rintro _ ⟨s,B,⟨p,y⟩,rfl⟩;refine aM (λi=>i=[some (wt T),some (wI r),some (.int d),some (.int z),some (wX s),B]) (λN q=>?_) ?_
 .fin2;refine⟨by decide,?_⟩;split
  .split
   .rw[qx,nZ];refine⟨bJ (by show 1+s.length<=2000;omega),?_⟩;rw[aY];refine⟨bJ (by show(40::s).length+1<=2000;rw[AE];omega),?_⟩;rw[aY];exact K _ (C8 p y)
   .exact q _ rfl
  .exact q _ rfl
 rintro _ rfl;fin2;exact K _ (C7 p (by omega))
section
variable{P:Program}{w:World}{K:Frag}{mg:Str->Option Value}{base:Heap}{tp:Nat->Stmt}{DD:DT}{ZZ:List Str}
theorem Xk{a b c k:Nat}{d:Bool}(g:a<=k)(f:b<=k)(e:c<=k)(h:d=true):((decide (a<=k)&&(decide (b<=k)&&(decide (c<=k)&&true)))&&d)=true:=by rw[FC g,FC f,FC e,h];rfl
theorem uG{jl jh jc jb e f:Nat}{l m:Str}(T:TT K mg tp DD ZZ)(a:DD[jl]?=some (l,e))(j:DD[jh]?=some (m,f))(g:Cl P w K mg base DD 1 jc .s jM)(b:Cl P w K mg base DD 1 jb .s c9)(c:zA ZZ (tp e) 3 6 [] [rM DD jh,rM DD jb] [] [.s,.s] [] .s mF=true)(i:zA ZZ (tp f) 4 5 [] [rM DD jl,rM DD jc,rM DD jb] [] [.s,.s,.s] [] .s rY=true):∀n,Cl P w K mg base DD (1+2*n) jl .s (gY n)
 |0=>C2 T a (vP c) λd Q R h=>by obtain⟨X,_,_,_,_,q,_⟩:=h;have:=b8 X;omega
 |n+1=>by have o:=uG T a j g b c i n;have p:Cl P w K mg base DD (1+2*n+1) jh .s (yd n):=zC (k:=1+2*n) (Ss:=[gY n,jM,c9]) T j 4 [] [(jl,.s,1+2*n),(jc,.s,1),(jb,.s,1)] Nl ⟨o,g,b,trivial⟩ (Xk (DL _) (by show 1<=_;omega) (by show 1<=_;omega) i) (λd P R h=>by obtain⟨_,_,_,_,rfl,_⟩:=h;rfl);exact zC (k:=1+2*n+1) (Ss:=[yd n,c9]) T a 3 [] [(jh,.s,1+2*n+1),(jb,.s,1)] GP ⟨p,b,trivial⟩ (TM (DL _) (by show 1<=_;omega) c) (λd P R h=>by obtain⟨_,_,_,rfl,_⟩:=h;rfl)
end
noncomputable def om:List CS:=[.set 8 (.qT 0 5 (.call 6 [(.var 7)])),.iff (.or [(.not (.blt .Bq [(.var 8),(.Dr "str")])),(.cmp .NotEq (.var 8) (.var 5))]) [.ret (.bl false)] []]
noncomputable def rZ:List CS:=[.set 1 (.call 0 [(.var 0),(.int 0),(.int 3)]),.set 2 (.call 1 [(.call 0 [(.var 0),(.int 1),(.bin .Mod (.ix (.var 1) (.int 0)) (.int 4))])]),.set 3 (.ix (.lst [(.int 12),(.int 5)]) (.blt .int [(.cmp .Gt (.blt .len [(.var 2)]) (.int 1))])),.set 4 (.call 2 [(.call 0 [(.var 0),(.int 2),(.bin .Add (.int 2) (.bin .Mod (.ix (.var 1) (.int 1)) (.int 13)))]),(.var 2),(.var 3)]),.set 5 (.call 3 [(.var 4)]),.set 6 (.call 4 [(.var 4),(.call 0 [(.var 0),(.int 3),(.int 16)]),(.int 0)]),.iff (.cmp .Gt (.blt .len [(.var 6)]) (.int 1000)) [.set 6 (.var 5)] [],.fr [7] true (.lst [(.var 5),(.var 6),(.bin .Add (.bin .Add (.str "(") (.var 5)) (.str ")")),(.var 5)]) om,.ret (.cmp .Eq (.qT 0 5 (.call 6 [(.qT 0 5 (.call 6 [(.var 6)]))])) (.var 5))]
theorem GQ{CE:Addr}{m:Md}(M:List W)(Q:W->Prop)(R:Addr->Prop)(h:MY M Q R):wSs (bK [CJ,CO,nX,uA 27,gY 27,kM CE,qv 28 CE]) (bX [.cls CE]) rZ (aZ m Q R) (aq 9 M):=by
 obtain⟨p,rfl,P,E⟩:=h;show wSs _ _ rZ _ [some (.cY p),none,none,none,none,none,none,none,none];unfold rZ;refine aM (λe=>∃sh:List Int,(sh.length=3/\∀x∈sh,0<=x/\x<1000000)/\e=[some (.cY p),some (wI sh),none,none,none,none,none,none,none]) (λN o=>?_) ?_
 .fin2;exact⟨p,0,3,rfl,by decide,λg a b=>o _ ⟨g,⟨a,b⟩,rfl⟩⟩
 rintro _ ⟨sh,⟨l3,p3⟩,rfl⟩;obtain⟨r,q,i,rfl⟩:∃a b c,sh=[a,b,c]:=by
  match sh,l3 with
  |[a,b,c],_=>exact⟨a,b,c,rfl⟩
 refine aM (λe=>∃g:List (List Nat),(g.length<=3/\∀x∈g,lO x)/\e=[some (.cY p),some (wI [r,q,i]),some (.lst (g.map wX)),none,none,none,none,none,none]) (λN o=>?_) ?_
 .have f:=fm (x:=r) (n:=4) (by decide);obtain⟨j,F⟩:=Nw f.1;unfold wI;fin2;refine⟨_,rfl,?_⟩;fin2;refine⟨by decide,?_⟩;rw[F];exact⟨p,1,j,rfl,by omega,λg a b=>⟨g,rfl,by omega,b,λX c d=>o _ ⟨X,⟨by omega,d⟩,rfl⟩⟩⟩
 rintro _ ⟨g,⟨lx,Y⟩,rfl⟩;refine aM (λe=>∃k:Int,(0<=k/\k<=12)/\e=[some (.cY p),some (wI [r,q,i]),some (.lst (g.map wX)),some (.int k),none,none,none,none,none]) (λN o=>?_) ?_
 .fin2;refine⟨VL.s2,?_⟩;split
  .exact⟨.int 5,rfl,o _ ⟨5,by omega,rfl⟩⟩
  .exact⟨.int 12,rfl,o _ ⟨12,by omega,rfl⟩⟩
 rintro _ ⟨k,hk,rfl⟩;refine aM (λe=>∃T:Tr,(kL T/\sz T<=27)/\e=[some (.cY p),some (wI [r,q,i]),some (.lst (g.map wX)),some (.int k),some (wt T),none,none,none,none]) (λN o=>?_) ?_
 .have f:=fm (x:=q) (n:=13) (by decide);obtain⟨j,F⟩:=Nw f.1;unfold wI;fin2;refine⟨_,rfl,?_⟩;fin2;refine⟨by decide,?_⟩;rw[F];refine⟨p,2,2+j,rfl,by omega,λZ a b=>⟨Z,g,k,rfl,⟨by omega,by omega⟩,b,lx,Y,hk,λT c d=>o _ ⟨T,⟨c,d⟩,rfl⟩⟩⟩
 rintro _ ⟨T,⟨A,z⟩,rfl⟩;have U:=rd T A (by omega);have n6:=cP T A;have gT:G 0 28 (txt T) (stp T):=U.g0.mono (by omega);have gB:G 0 28 (40::(txt T++[41])) (stp T):=((G.brk (d':=28) U.g0 (by omega)).xN.oO.up1);have L:∀(s:List Nat)(y:W->Prop)(B:Addr->Prop),G 0 28 s (stp T)->s.length<=1000->y (Ex CE (stp T))->qv 28 CE [wX s] y B:=λs y B J I H=>⟨s,stp T,rfl,J,by decide,I,H⟩;have K:∀(y:W->Prop)(B:Addr->Prop),y (wX (txt T))->kM CE [Ex CE (stp T)] y B:=λy B h=>⟨T,rfl,A,z,h⟩;refine aM (λe=>e=[some (.cY p),some (wI [r,q,i]),some (.lst (g.map wX)),some (.int k),some (wt T),some (wX (txt T)),none,none,none]) (λN o=>?_) ?_
 .fin2;exact⟨T,rfl,A,z,z,o _ rfl⟩
 rintro _ rfl;refine aM (λe=>∃s:List Nat,Nj T s/\e=[some (.cY p),some (wI [r,q,i]),some (.lst (g.map wX)),some (.int k),some (wt T),some (wX (txt T)),some (wX s),none,none]) (λN o=>?_) ?_
 .fin2;exact⟨p,3,16,rfl,by decide,λg a b=>⟨T,g,0,rfl,A,z,z,a,Mo _,λs C=>o _ ⟨s,C,rfl⟩⟩⟩
 rintro _ ⟨s,C,rfl⟩;refine aM (λe=>∃s:List Nat,(G 0 28 s (stp T)/\s.length<=1000)/\e=[some (.cY p),some (wI [r,q,i]),some (.lst (g.map wX)),some (.int k),some (wt T),some (wX (txt T)),some (wX s),none,none]) (λN o=>?_) ?_
 .fin2;have sl:=C.len;refine⟨bJ (by omega),?_⟩;split
  .exact o _ ⟨txt T,⟨gT,by omega⟩,rfl⟩
  .rename_i P
   rw[Kj]at P;exact o _ ⟨s,⟨C.lv.g0.mono (by omega),by omega⟩,rfl⟩
 rintro _ ⟨s,⟨S,O⟩,rfl⟩;have w:∀(t:List Nat)(D:Dn)(v u:Option W),G 0 28 t (stp T)->t.length<=1000->(∀v u,D.nx [some (.cY p),some (wI [r,q,i]),some (.lst (g.map wX)),some (.int k),some (wt T),some (wX (txt T)),some (wX s),v,u])->IL (bK [CJ,CO,nX,uA 27,gY 27,kM CE,qv 28 CE]) (bX [.cls CE]) true [7] om (wX t) D [some (.cY p),some (wI [r,q,i]),some (.lst (g.map wX)),some (.int k),some (wt T),some (wX (txt T)),some (wX s),v,u]:=λt D v u J I H=>by
  rw[z8];unfold om;fin2;refine L t _ _ J I ⟨rfl,K _ _ ?_⟩;refine⟨"str",rfl,?_⟩;have e2:yX "str" "str"=true:=by decide
  rw[e2];fin2;rw[Bn (show¬(!true)=true by decide)];rw[FC rfl];exact H _ _
 refine aM (λe=>∃v u,e=[some (.cY p),some (wI [r,q,i]),some (.lst (g.map wX)),some (.int k),some (wt T),some (wX (txt T)),some (wX s),v,u]) (λN o=>?_) ?_
 .refine qw (l:=[wX (txt T),wX s,wX (40::(txt T++[41])),wX (txt T)]) (λQ E=>?_) ?_
  .fin2;rw[qx,nZ];refine⟨bJ (by show 1+_<=2000;omega),bJ (by rw[aY];show(40::txt T).length+1<=2000;rw[AE];omega),bJ (by show 4<=2000;decide),?_⟩;rw[aY,aY];exact E
  .refine w _ _ _ _ gT (by omega) λ_ _=>w _ _ _ _ S O λ_ _=>w _ _ _ _ gB (by simp;omega) λ_ _=>w _ _ _ _ gT (by omega) λv u=>o _ ⟨v,u,rfl⟩
 rintro _ ⟨v,u,rfl⟩;fin2;refine L s _ _ S O ⟨rfl,K _ _ (L _ _ _ gT (by omega) ⟨rfl,K _ _ ?_⟩)⟩;fin2;rw[FC rfl];exact E
end VL
namespace HH
open PySem PySem.Spec
open PyProof.Rows hiding St
open L2 VL Num
set_option genInjectivity false
set_option genSizeOf false
noncomputable def top(i:Nat):Stmt:=PySem.Challenge.pw_paperwright_k17_texts_read_and_shown.main.body.getD i (.Pass ⟨0,0,0,0⟩)
abbrev en(x:Str)(i:Nat):Str×Nat:=(x,i)
abbrev DD:DT:=[en "walked" 10,en "leaf_text" 11,en "lone_text" 12,en "joint_text" 13,en "bracketed" 14,en "read" 25,en "whole_number" 27,en "_law_numbers" 29,en "_law_names" 30,en "_law_leaf" 31,en "_law_joined" 32,en "_law_fits" 33,en "_law_step" 34,en "_law_grown" 35,en "_law_binds" 36,en "_law_inner" 37,en "_law_text" 38,en "_law_loose" 39,en "_law_held" 40,en "_law_closes" 41,en "law" 42]
abbrev ZZ:List Str:=["abs","int","isinstance","len","max","range","str","tuple"]
abbrev cz:Stmt:=inClass (top 9) 0
abbrev cA:Stmt:=inClass (top 9) 3
abbrev eu:Stmt:=inClass (top 26) 0
abbrev dh:Stmt:=inClass (top 26) 1
abbrev cQ:Stmt:=inClass (top 26) 2
abbrev cC:Stmt:=inClass (top 26) 3
abbrev cD:Stmt:=inClass (top 26) 4
abbrev b4:Stmt:=inClass (top 26) 5
abbrev bO:Stmt:=inClass (top 26) 6
abbrev cE:Stmt:=inClass (top 26) 7
abbrev bR:Stmt:=inClass (top 26) 8
abbrev cR:Stmt:=inClass (top 26) 9
theorem iJ:eY ["self","steps"] ["self","steps"] (ak cz):=⟨rfl,rfl,rfl,by decide+kernel,rfl,by decide+kernel,by decide+kernel⟩
theorem lP:eY ["self","text"] ["self","text"] (ak eu):=⟨rfl,rfl,rfl,by decide+kernel,rfl,by decide+kernel,by decide+kernel⟩
structure Tx(K:Frag)(mg:Str->Option Value) extends TT K mg top DD ZZ where
 ai:Addr
 fX:Hc K mg "Reader" ai ["text","place","brackets","steps"]
 aj:Addr
 b6:Hc K mg "Expression" aj ["steps"]
 eE:Addr
 eG:FuncData
 bS:Dm K aj "__init__" "Expression.__init__" cz ["self","steps"] eE eG
 i7:Addr
 i8:FuncData
 i9:Dm K aj "shown" "Expression.shown" cA ["self"] i7 i8
 gZ:Addr
 ia:FuncData
 cS:Dm K ai "__init__" "Reader.__init__" eu ["self","text"] gZ ia
 fY:Addr
 fZ:FuncData
 kN:Dm K ai "follows" "Reader.follows" dh ["self","signs"] fY fZ
 fk:Addr
 fq:FuncData
 jN:Dm K ai "take_sum" "Reader.take_sum" cQ ["self"] fk fq
 eK:Addr
 eL:FuncData
 ja:Dm K ai "take_term" "Reader.take_term" cC ["self"] eK eL
 eO:Addr
 eS:FuncData
 jd:Dm K ai "take_sign" "Reader.take_sign" cD ["self"] eO eS
 dH:Addr
 dI:FuncData
 ic:Dm K ai "take_factor" "Reader.take_factor" b4 ["self"] dH dI
 cT:Addr
 cU:FuncData
 gv:Dm K ai "take_exponent" "Reader.take_exponent" bO ["self"] cT cU
 eT:Addr
 eU:FuncData
 je:Dm K ai "take_atom" "Reader.take_atom" cE ["self"] eT eU
 cV:Addr
 cW:FuncData
 gw:Dm K ai "take_brackets" "Reader.take_brackets" bR ["self"] cV cW
 fu:Addr
 fz:FuncData
 jO:Dm K ai "take_run" "Reader.take_run" cR ["self","signs"] fu fz
 zI:∃u,mg "FIGURES"=some u/\RelV (.str "0123456789") u
 zJ:∃u,mg "LETTERS"=some u/\RelV (.str "abcdefghijklmnopqrstuvwxyz") u
 r6:∃u,mg "MOST_SIGNS"=some u/\RelV (.int 1000) u
 lQ:∃u,mg "MOST_BRACKETS"=some u/\RelV (.int 30) u
 oq:∃u,mg "MOST_MINUSES"=some u/\RelV (.int 30) u
 ou:∃u,mg "MOST_FIGURES"=some u/\RelV (.int 30) u
 oz:∃u,mg "MOST_LETTERS"=some u/\RelV (.int 8) u
 f6:∃u,mg "MOST_EXPONENT_FIGURES"=some u/\RelV (.int 2) u
 lR:∃u,mg "MOST_EXPONENT"=some u/\RelV (.int 12) u
 QY:∃u,mg "SUM"=some u/\RelV (.int 1) u
 Nn:∃u,mg "TERM"=some u/\RelV (.int 2) u
 Dd:∃u,mg "FACTOR"=some u/\RelV (.int 3) u
 De:∃u,mg "ATOM"=some u/\RelV (.int 4) u
section
variable{P:Program}{w:World}{K:Frag}{mg:Str->Option Value}{base:Heap}
theorem oA(T:Tx K mg):Cl P w K mg base DD 1 6 .s bC:=
 rN T.toTT rfl 2 [] nT (by decide+kernel) (by walk_at "l")
theorem oB(T:Tx K mg):bL P w K mg base (iL P w) 1 T.gZ T.ia ["self","text"] (IT T.ai):=by
 have i:=T.fX.ok.1;have f:=T.fX.ok.2.2.2;refine T.cS.F.Rb lP (λm H Q E h=>?_) (λr A k s H m Q E u h=>?_)
 .obtain⟨x,c,n,rfl,_⟩:=h;rfl
 obtain⟨x,c,n,rfl,p,q⟩:=h;refine⟨_,(@jo _ _ _ _ _ (jW (pv 0) (pv 1) rfl) (@jo _ _ _ _ _ (jW (pv 0) mJ rfl) (@jo _ _ _ _ _ (jW (pv 0) mJ rfl) (qD (jW (pv 0) (u0 bZ) rfl))))),?_⟩;refine⟨_,rfl,_,rfl,x,T.ai,c,_,rfl,p,i,f "text" (by decide),by show 0<1000;decide,?_⟩;refine⟨_,rfl,x,T.ai,c,_,rfl,aA,i,f "place" (by decide),by show 1<1000;decide,?_⟩;refine⟨_,rfl,x,T.ai,c,_,rfl,aA,i,f "brackets" (by decide),by show 2<1000;decide,?_⟩;refine⟨yG (by simp),λj a=>?_⟩;have d:j≠x:=λe=>by rw[e,aA]at a;cases a
 refine⟨_,rfl,x,T.ai,c,_,rfl,sS aA a,i,f "steps" (by decide),by show 3<1000;decide,?_⟩;rw[au d,au d,au d]at a;refine q j _ (λb o g l=>?_) a ?_ aA
 .have t:b≠j:=bz l a;rw[au g,au t,au g,au g,au g];exact l
 .rw[au d,aA]
theorem Dg(T:Tx K mg):bW P w K mg base 2 (.ref T.ai) 1 (oZ K 1 xU (l7 T.ai)):=
 uw T.fX.ok ⟨T.fX.Vl,T.cS.M.1,T.cS.M.fn,T.fX.kp⟩ T.cS.b (oB T)
theorem jf(T:Tx K mg):bL P w K mg base (iL P w) 1 T.eE T.eG ["self","steps"] (IU T.aj):=by
 have t:=T.b6.ok.1;have m:=T.b6.ok.2.2.2;refine T.bS.F.Rb iJ (λk H Q E h=>?_) (λu A d s H k Q E y h=>?_)
 .obtain⟨x,j,p,f,rfl,_⟩:=h;rfl
 obtain⟨x,j,p,f,rfl,g,n,z,q⟩:=h;refine⟨_,qD (jW (pv 0) (jX fD (by rfl) (T.Z "tuple" (by decide)) (by rfl) (aR (pv 1) bZ rfl)) rfl),?_⟩;refine⟨_,rfl,p,f,rfl,.inl ⟨.inl (.inl n),λc a=>?_⟩⟩;have l:c≠x:=λe=>by rw[e,g]at a;cases a
 refine⟨_,rfl,x,T.aj,j,_,rfl,sS g a,t,m "steps" (by decide),by show 0<1000;decide,?_⟩;refine q c _ (λb o r i=>?_) a ?_ aA
 .have v:b≠c:=bz i a;rw[au r,au v];exact i
 .rw[au l,aA]
theorem r8(T:Tx K mg):bW P w K mg base 2 (.ref T.aj) 1 (oZ K 1 .s (xX T.aj)):=
 zE T.b6.ok ⟨T.b6.Vl,T.bS.M.1,T.bS.M.fn,T.b6.kp⟩ T.bS.b (jf T)
theorem VG(T:Tx K mg):Vv K mg:=⟨rW T.zI (λ_ _=>by dsimp only[Rep]) (λ_ e=>by cases e),rW T.zJ (λ_ _=>by dsimp only[Rep]) (λ_ e=>by cases e),rW T.r6 (λ_ _=>by dsimp only[Rep]) (λ_ e=>by cases e),rW T.lQ (λ_ _=>by dsimp only[Rep]) (λ_ e=>by cases e),rW T.oq (λ_ _=>by dsimp only[Rep]) (λ_ e=>by cases e),rW T.ou (λ_ _=>by dsimp only[Rep]) (λ_ e=>by cases e),rW T.oz (λ_ _=>by dsimp only[Rep]) (λ_ e=>by cases e),rW T.f6 (λ_ _=>by dsimp only[Rep]) (λ_ e=>by cases e),rW T.lR (λ_ _=>by dsimp only[Rep]) (λ_ e=>by cases e)⟩
noncomputable def Xl(T:Tx K mg):NW K T.ai ZZ where
 s:=λi=>match i with|0=>dh|1=>cQ|2=>cC|3=>cD|4=>b4|5=>bO|6=>cE|7=>bR|_=>cR
 f:=λi=>match i with|0=>T.fY|1=>T.fk|2=>T.eK|3=>T.eO|4=>T.dH|5=>T.cT|6=>T.eT|7=>T.cV|_=>T.fu
 d:=λi=>match i with|0=>T.fZ|1=>T.fq|2=>T.eL|3=>T.eS|4=>T.dI|5=>T.cU|6=>T.eU|7=>T.cW|_=>T.fz
 D0:=T.kN
 D1:=T.jN
 D2:=T.ja
 D3:=T.jd
 D4:=T.ic
 D5:=T.gv
 D6:=T.je
 D7:=T.gw
 D8:=T.jO
 k0:=by decide+kernel
 k1:=by decide+kernel
 k2:=by decide+kernel
 k3:=by decide+kernel
 k4:=by decide+kernel
 k5:=by decide+kernel
 k6:=by decide+kernel
 k7:=by decide+kernel
 k8:=by decide+kernel
 k9:=by decide+kernel
theorem vY(T:Tx K mg):Mt P w K mg base T.ai 146 "take_sum" aP (bU 0 28 zx T.ai):=QS T.Z (VG T) (Xl T) (ly (oA T) (j:=6) rfl) 28
theorem Np(T:Tx K mg):Cl P w K mg base DD 147 5 .s (qv 28 T.aj):=
 CF T.toTT rfl rfl (QN (j:=5) (np:=1) (n:=2) (k:=146) (M:=[(1,xU)]) (es:=[("Reader",xU,false),("take_sum",aP,true),("Expression",.s,false)]) (Ss:=[l7 T.ai,bU 0 28 zx T.ai,xX T.aj]) (gn:=["MOST_SIGNS"]) (Gs:=[.int 1000]) T.toTT rfl ⟨⟨_,_,2,T.fX.c,Dg T,by decide,by walk_at "l"⟩,vY T,⟨_,_,2,T.b6.c,r8 T,by decide,by walk_at "l"⟩,trivial⟩ ⟨(VG T).sg,trivial⟩ rfl (by decide+kernel) (by walk_at "l") M9) (by walk_at "l")
theorem lA(T:Tx K mg):Cl P w K mg base DD 1 4 .s ya:=
 rN T.toTT rfl 2 [] uD (by decide+kernel) (by walk_at "l")
theorem uH(T:Tx K mg):Cl P w K mg base DD 1 1 .s gq:=
 zB (Ss:=[]) T.toTT rfl 2 [] [] ["ATOM"] uE trivial ⟨nQ T.De,trivial⟩ (by decide+kernel) (λa P R h=>by obtain⟨_,⟨rfl,_⟩|⟨_,rfl,_⟩,_⟩:=h<;>rfl)
theorem uI(T:Tx K mg):Cl P w K mg base DD 2 2 .s gr:=
 zB T.toTT rfl 3 [] [(4,.s,1)] ["ATOM","FACTOR"] uF ⟨lA T,trivial⟩ ⟨nQ T.De,nQ T.Dd,trivial⟩ (by decide+kernel) (λa P R h=>by obtain⟨_,_,_,⟨_,_,rfl,_⟩|⟨rfl,_⟩⟩:=h<;>rfl)
theorem r9(T:Tx K mg):Cl P w K mg base DD 2 3 .s gX:=
 zB T.toTT rfl 3 [] [(4,.s,1)] ["SUM","TERM"] rX ⟨lA T,trivial⟩ ⟨nQ T.QY,nQ T.Nn,trivial⟩ (by decide+kernel) (by walk_at "l")
theorem Dh(T:Tx K mg):Cl P w K mg base DD 3 0 .s (mD (T.f 1) (T.f 2) (T.f 3)):=zB (k:=2) (Gs:=[.fn (T.f 1),.fn (T.f 2),.fn (T.f 3)]) T.toTT rfl 4 [(4,.f)] [(1,.s,1),(2,.s,2),(3,.s,2)] ["leaf_text","lone_text","joint_text"] C6 ⟨uH T,uI T,r9 T,trivial⟩ ⟨zF (T.D (j:=1) rfl).m,zF (T.D (j:=2) rfl).m,zF (T.D (j:=3) rfl).m,trivial⟩ (by decide+kernel) (by walk_at "l")
theorem GR(T:Tx K mg):Mt P w K mg base T.aj 4 "shown" .s (kM T.aj):=
 n8 (k:=3) T.i9 rfl (by decide+kernel:zG ZZ cA 1 1 [] ["walked"] ["leaf_text","lone_text","joint_text"] [.s] [] .s mE=true) (gz (C:=T.aj) (es:=[("walked",.s,false)]) (Ss:=[mD (T.f 1) (T.f 2) (T.f 3)]) (gn:=["leaf_text","lone_text","joint_text"]) (Gs:=[.fn (T.f 1),.fn (T.f 2),.fn (T.f 3)]) T.Z ⟨ly (Dh T) (j:=0) rfl,trivial⟩ ⟨zF (T.D (j:=1) rfl).m,zF (T.D (j:=2) rfl).m,zF (T.D (j:=3) rfl).m,trivial⟩ rfl) (by walk_at "l") GK
theorem zK(T:Tx K mg):Cl P w K mg base DD 1 7 .f CJ:=
 rN T.toTT rfl 3 [(6,.f)] QI (by decide+kernel) (by walk_at "l")
theorem GS(T:Tx K mg):Cl P w K mg base DD 1 8 .s CO:=
 rN T.toTT rfl 1 [(2,.f)] QJ (by decide+kernel) (by walk_at "l")
theorem Nq(T:Tx K mg):Cl P w K mg base DD 1 9 .s CP:=
 rN T.toTT rfl 2 [] Nc (by decide+kernel) (by walk_at "l")
theorem uJ(T:Tx K mg):Cl P w K mg base DD 1 10 .s l8:=
 rN T.toTT rfl 3 [] CQ (by decide+kernel) (by walk_at "l")
theorem Di(T:Tx K mg):Cl P w K mg base DD 1 11 .s xY:=
 rN T.toTT rfl 2 [] Nd (by decide+kernel) (by walk_at "l")
theorem Nr(T:Tx K mg):Cl P w K mg base DD 2 12 .s rR:=
 zC T.toTT rfl 4 [] [(10,.s,1),(11,.s,1),(9,.s,1)] CU ⟨uJ T,Di T,Nq T,trivial⟩ (by decide+kernel) (by walk_at "l")
theorem GU(T:Tx K mg):Cl P w K mg base DD 3 13 .s nX:=
 zC T.toTT rfl 3 [] [(12,.s,2),(10,.s,1),(11,.s,1)] GC ⟨Nr T,uJ T,Di T,trivial⟩ (by decide+kernel) (by walk_at "l")
theorem ye(T:Tx K mg):Cl P w K mg base DD 1 14 .s c9:=
 rN T.toTT rfl 1 [] GF (by decide+kernel) (by walk_at "l")
theorem v_text(T:Tx K mg):Cl P w K mg base DD 55 16 .s (uA 27):=C3 (jt:=16) (ji:=15) (jb:=14) T.toTT rfl rfl (ye T) (by decide+kernel) (by decide+kernel) 27
theorem Dj(T:Tx K mg):Cl P w K mg base DD 1 19 .s jM:=
 rN T.toTT rfl 1 [] C9 (by decide+kernel) (by walk_at "l")
theorem GV(T:Tx K mg):Cl P w K mg base DD 55 17 .s (gY 27):=uG (jl:=17) (jh:=18) (jc:=19) (jb:=14) T.toTT rfl rfl (Dj T) (ye T) (by decide+kernel) (by decide+kernel) 27
theorem QZ(T:Tx K mg):bL P w K mg base (iL P w) 148 (T.f 20) (T.d 20) ["_law_script"] (oZ K 1 .s MY):=
 QN (j:=20) (np:=1) (n:=9) (k:=147) (M:=[]) (es:=[("_law_numbers",.f,false),("_law_names",.s,false),("_law_grown",.s,false),("_law_text",.s,false),("_law_loose",.s,false),("shown",.s,true),("read",.s,false)]) (Ss:=[CJ,CO,nX,(uA 27),(gY 27),kM T.aj,(qv 28 T.aj)]) (gn:=[]) (Gs:=[]) T.toTT rfl ⟨(ly (zK T) (j:=7) rfl).up (by decide),(ly (GS T) (j:=8) rfl).up (by decide),(ly (GU T) (j:=13) rfl).up (by decide),(ly (v_text T) (j:=16) rfl).up (by decide),(ly (GV T) (j:=17) rfl).up (by decide),(GR T).up (by decide),(ly (Np T) (j:=5) rfl).up (by decide),trivial⟩ trivial rfl (by decide+kernel) (by walk_at "l") GQ
end
theorem Oc{K:Frag}{x:Str}{st:Stmt}{f:Addr}{g m:Option Addr}{d:Array (Option Value)}{h kV i e b j:Value}(a:nsIn K mainGlobals x=some (some (.ref f)))(l:K.lookup f=some ⟨h,g,.func (fnOf x x (bN st) (aS st) (ak st) .none kV i e m b j),d⟩)(c:codeIn K b x=true)(k:keepIn K (.ref f)=true):Hd K x st:=⟨f,g,m,d,h,kV,i,e,b,j,a,l,c,k⟩
theorem Od{K:Frag}{C:Addr}{x q:Str}{st:Stmt}{f:Addr}{g n:Option Addr}{d:Array (Option Value)}{h kV j e b m:Value}(a:findIn K (.ref C) x=some (some (.ref f)))(i:isFn K (.ref f)=true)(l:K.lookup f=some ⟨h,g,.func (fnOf x q (bN st) (aS st) (ak st) .none kV j e n b m),d⟩)(c:codeIn K b q=true)(k:keepIn K (.ref f)=true):Hm K C x q st:=⟨f,g,n,d,h,kV,j,e,b,m,a,i,l,c,k⟩
theorem qA{x q:Str}{st:Stmt}{i:Str}(h:∀(kV a d:Value)(g:Option Addr)(b f c:Value),bindArgs (fnOf x q (bN st) (aS st) (ak st) .none kV a d g b f) ⟨[c],[]⟩=pure ([i].zip [c])):gp x q st [i]:=λkV a d g b f k j=>by obtain⟨c,l,rfl,e⟩:=pH j;cases Kk.mp e;exact h kV a d g b f c
theorem Al{x q:Str}{st:Stmt}{l k:Str}(h:∀(kV a e:Value)(j:Option Addr)(b i d c:Value),bindArgs (fnOf x q (bN st) (aS st) (ak st) .none kV a e j b i) ⟨[d,c],[]⟩=pure ([l,k].zip [d,c])):gp x q st [l,k]:=λkV a e j b i n m=>by obtain⟨d,p,rfl,g⟩:=pH m;obtain⟨c,o,rfl,f⟩:=pH g;cases Kk.mp f;exact h kV a e j b i d c
theorem RD{x q:Str}{st:Stmt}{m l p2:Str}(h:∀(kV a e:Value)(k:Option Addr)(b j d c a2:Value),bindArgs (fnOf x q (bN st) (aS st) (ak st) .none kV a e k b j) ⟨[d,c,a2],[]⟩=pure ([m,l,p2].zip [d,c,a2])):gp x q st [m,l,p2]:=λkV a e k b j o n=>by obtain⟨d,s,rfl,i⟩:=pH n;obtain⟨c,r,rfl,g⟩:=pH i;obtain⟨a2,p,rfl,f⟩:=pH g;cases Kk.mp f;exact h kV a e k b j d c a2
theorem RE{x q:Str}{st:Stmt}{n m p2 l:Str}(h:∀(kV a e:Value)(k:Option Addr)(b j d c a2 a3:Value),bindArgs (fnOf x q (bN st) (aS st) (ak st) .none kV a e k b j) ⟨[d,c,a2,a3],[]⟩=pure ([n,m,p2,l].zip [d,c,a2,a3])):gp x q st [n,m,p2,l]:=λkV a e k b j r o=>by obtain⟨d,v,rfl,i⟩:=pH o;obtain⟨c,u,rfl,g⟩:=pH i;obtain⟨a2,t,rfl,f⟩:=pH g;obtain⟨a3,s,rfl,p⟩:=pH f;cases Kk.mp p;exact h kV a e k b j d c a2 a3
theorem all_mk{l:PySem.W.OpenLaw}{w:World}{K:Frag}{h:Heap}{c:Str->Option Value}{k:Addr}(X:K.In h)(G:h.Ns mainGlobals c)(Xo:c "law"=some (.ref k))
 {a:Addr}(C:nsIn K mainGlobals "Reader"=some (some (.ref a)))(B:plainGet K a Str.empty=true)(A:hasDictIn K a=true)(z:plainOver K a=true)(y:findIn K (.ref a) "__setattr__"=some (some (.builtin "object.__setattr__")))(u:makesIn K a=true)(t:keepIn K (.ref a)=true)
 (Q:findIn K (.ref a) "text"=some none)
 (oE:findIn K (.ref a) "place"=some none)
 (jP:findIn K (.ref a) "brackets"=some none)
 (oF:findIn K (.ref a) "steps"=some none)
 {b:Addr}(P:nsIn K mainGlobals "Expression"=some (some (.ref b)))(O:plainGet K b Str.empty=true)(N:hasDictIn K b=true)(M:plainOver K b=true)(L:findIn K (.ref b) "__setattr__"=some (some (.builtin "object.__setattr__")))(J:makesIn K b=true)(I:keepIn K (.ref b)=true)
 (jg:findIn K (.ref b) "steps"=some none)
 (a0:Hm K b "__init__" "Expression.__init__" cz)
 (a1:Hm K b "shown" "Expression.shown" cA)
 (a8:Hm K a "__init__" "Reader.__init__" eu)
 (a9:Hm K a "follows" "Reader.follows" dh)
 (Xp:Hm K a "take_sum" "Reader.take_sum" cQ)
 (Xq:Hm K a "take_term" "Reader.take_term" cC)
 (Xr:Hm K a "take_sign" "Reader.take_sign" cD)
 (Xs:Hm K a "take_factor" "Reader.take_factor" b4)
 (Xu:Hm K a "take_exponent" "Reader.take_exponent" bO)
 (Xv:Hm K a "take_atom" "Reader.take_atom" cE)
 (Xw:Hm K a "take_brackets" "Reader.take_brackets" bR)
 (Xx:Hm K a "take_run" "Reader.take_run" cR)
 (aa:Gk K top DD)(n:Gm K ZZ)
 {r:Tok}(q:nsIn K mainGlobals "FIGURES"=some (some (.str "0123456789" r)))
 {p:Tok}(o:nsIn K mainGlobals "LETTERS"=some (some (.str "abcdefghijklmnopqrstuvwxyz" p)))
 {H:Tok}(F:nsIn K mainGlobals "MOST_SIGNS"=some (some (.int 1000 H)))
 {lS:Tok}(lT:nsIn K mainGlobals "MOST_BRACKETS"=some (some (.int 30 lS)))
 {oG:Tok}(Z:nsIn K mainGlobals "MOST_MINUSES"=some (some (.int 30 oG)))
 {Y:Tok}(U:nsIn K mainGlobals "MOST_FIGURES"=some (some (.int 30 Y)))
 {S:Tok}(R:nsIn K mainGlobals "MOST_LETTERS"=some (some (.int 8 S)))
 {f7:Tok}(gb:nsIn K mainGlobals "MOST_EXPONENT_FIGURES"=some (some (.int 2 f7)))
 {lU:Tok}(lV:nsIn K mainGlobals "MOST_EXPONENT"=some (some (.int 12 lU)))
 {Q0:Tok}(Q2:nsIn K mainGlobals "SUM"=some (some (.int 1 Q0)))
 {Nt:Tok}(Nu:nsIn K mainGlobals "TERM"=some (some (.int 2 Nt)))
 {Dk:Tok}(Dl:nsIn K mainGlobals "FACTOR"=some (some (.int 3 Dk)))
 {Nv:Tok}(Nx:nsIn K mainGlobals "ATOM"=some (some (.int 4 Nv)))
 :∃i:FuncData,(∀(s:Shared)(v:Value),BindsTo s i ⟨[v],[]⟩ [("_law_script",v)])/\∀base:Heap,K.In base->base.Ns mainGlobals c->bL l.prog w K c base O5 148 k i ["_law_script"] (xO K):=by
 obtain⟨g⟩:=QD X G aa n;have Dp:oX K a ["text","place","brackets","steps"]:=⟨⟨B,A,z,y⟩,by decide,by decide+kernel,λx f=>by
  simp only[Ee,PH,W1]at f;rcases f with rfl|rfl|rfl|rfl
  .exact Q
  .exact oE
  .exact jP
  .exact oF⟩
 have E:oX K b ["steps"]:=⟨⟨O,N,M,L⟩,by decide,by decide+kernel,λx f=>by
  simp only[Ee,PH,W1]at f;rcases f with rfl
  .exact jg⟩
 obtain⟨f0,d0,D0⟩:=gy (ps:=["self","steps"]) a0 (Al λ_ _ _ _ _ _ _ _=>rfl);obtain⟨f1,d1,D1⟩:=gy (ps:=["self"]) a1 (qA λ_ _ _ _ _ _ _=>rfl);obtain⟨f8,d8,D8⟩:=gy (ps:=["self","text"]) a8 (Al λ_ _ _ _ _ _ _ _=>rfl);obtain⟨f9,d9,D9⟩:=gy (ps:=["self","signs"]) a9 (Al λ_ _ _ _ _ _ _ _=>rfl);obtain⟨Xy,Xz,XA⟩:=gy (ps:=["self"]) Xp (qA λ_ _ _ _ _ _ _=>rfl);obtain⟨XC,XD,XE⟩:=gy (ps:=["self"]) Xq (qA λ_ _ _ _ _ _ _=>rfl);obtain⟨XF,XG,XH⟩:=gy (ps:=["self"]) Xr (qA λ_ _ _ _ _ _ _=>rfl);obtain⟨XI,XJ,XM⟩:=gy (ps:=["self"]) Xs (qA λ_ _ _ _ _ _ _=>rfl);obtain⟨XN,XO,XQ⟩:=gy (ps:=["self"]) Xu (qA λ_ _ _ _ _ _ _=>rfl);obtain⟨XR,XS,XT⟩:=gy (ps:=["self"]) Xv (qA λ_ _ _ _ _ _ _=>rfl);obtain⟨XU,XW,XX⟩:=gy (ps:=["self"]) Xw (qA λ_ _ _ _ _ _ _=>rfl);obtain⟨XY,XZ,X0⟩:=gy (ps:=["self","signs"]) Xx (Al λ_ _ _ _ _ _ _ _=>rfl);have D:=g.D (j:=20) rfl;have e:=Xo.symm.trans D.m;cases e
 let T:Tx K c:=⟨g,a,⟨OF X G C,Dp,u,t⟩,b,⟨OF X G P,E,J,I⟩,f0,d0,D0,f1,d1,D1,f8,d8,D8,f9,d9,D9,Xy,Xz,XA,XC,XD,XE,XF,XG,XH,XI,XJ,XM,XN,XO,XQ,XR,XS,XT,XU,XW,XX,XY,XZ,X0,⟨_,OF X G q,_,rfl⟩,⟨_,OF X G o,_,rfl⟩,⟨_,OF X G F,_,rfl⟩,⟨_,OF X G lT,_,rfl⟩,⟨_,OF X G Z,_,rfl⟩,⟨_,OF X G U,_,rfl⟩,⟨_,OF X G R,_,rfl⟩,⟨_,OF X G gb,_,rfl⟩,⟨_,OF X G lV,_,rfl⟩,⟨_,OF X G Q2,_,rfl⟩,⟨_,OF X G Nu,_,rfl⟩,⟨_,OF X G Dl,_,rfl⟩,⟨_,OF X G Nx,_,rfl⟩⟩
 exact⟨g.d 20,λs v=>D.bt s [v] rfl,λbase _ _=>MZ (QZ T)⟩
end HH
namespace PySem.W.Fast
noncomputable def tw2983237575311478718:=0
noncomputable def tw3142801489276218978:=0
noncomputable def tw10679635502952896673:=0
noncomputable def tw7620599237344287864:=0
noncomputable def tw4701958633661621319:=0
noncomputable def tw5608351388356359120:=0
noncomputable def tw9368356134754984549:=0
noncomputable def tw8067620287349208740:=0
noncomputable def tw12427375322110965658:=0
noncomputable def tw5788639131739299954:=0
noncomputable def tw6680999231389350984:=0
noncomputable def tw16695087983238394687:=0
noncomputable def tw8578096492855079462:=0
noncomputable def tw3415703030610769960:=0
noncomputable def tw2041270224469822517:=0
noncomputable def tw17928754428067812258:=0
noncomputable def tw17207064453845171364:=0
noncomputable def tw6743550476077706805:=0
noncomputable def tw6963289907085979718:=0
noncomputable def tw16107557330460569064:=0
noncomputable def tw11500579935725726127:=0
noncomputable def tw8115983259850585171:=0
noncomputable def tw11135788282742434085:=0
noncomputable def tw7593474254363532939:=0
noncomputable def tw7684595741210632708:=0
noncomputable def tw14753131364260765822:=0
noncomputable def tw5828476014011709349:=0
noncomputable def tw7451861765933672206:=0
noncomputable def tw7892479906374353931:=0
noncomputable def tw15493831322169019229:=0
noncomputable def tw7632248981013278333:=0
noncomputable def tw15657055178237617745:=0
noncomputable def tw8499298201966445548:=0
noncomputable def tw16350742563423497847:=0
noncomputable def tw5376981245143551633:=0
noncomputable def tw3329713278535906770:=0
noncomputable def tw251252814308074894:=0
noncomputable def tw15544674685082279926:=0
noncomputable def tw5646575946770779783:=0
noncomputable def tw3987854639220353532:=0
noncomputable def tw5797419045138932512:=0
noncomputable def tw16059332871171766539:=0
noncomputable def tw7144182135137987295:=0
noncomputable def tw13335602520703136322:=0
noncomputable def tw15772267334256237795:=0
noncomputable def tw4202096877248844692:=0
noncomputable def tw1118912594174061279:=0
noncomputable def tw1379954113012580599:=0
noncomputable def tw3685044694541685981:=0
noncomputable def tw16915528026081413206:=0
noncomputable def tw1426171193780701257:=0
noncomputable def tw13101828103437104012:=0
noncomputable def tw486754918957850275:=0
noncomputable def tw12336145504232504187:=0
noncomputable def tw13135716357600872267:=0
noncomputable def tw4387133765778647860:=0
noncomputable def tw8593279405943617132:=0
noncomputable def tw3148615229661308244:=0
noncomputable def tw1333651039183772951:=0
noncomputable def tw3587612088724340857:=0
noncomputable def tw3963075955510441135:=0
noncomputable def tw10793666405779754542:=0
noncomputable def tw9217466155348092608:=0
noncomputable def tw15163394297986823513:=0
noncomputable def tw6107777847239798561:=0
noncomputable def tw16909486850684310366:=0
noncomputable def tw8161156869235040112:=0
noncomputable def tw16133083929366298606:=0
noncomputable def tw5976996787686874123:=0
noncomputable def tw11704863342769649481:=0
noncomputable def tw14590496135904296939:=0
noncomputable def tw13097176800335315732:=0
noncomputable def tw10680015331394800471:=0
noncomputable def tw1667827388609486566:=0
noncomputable def tw11409067887824236578:=0
noncomputable def tw17017248026766901545:=0
noncomputable def tw14284750365325524101:=0
noncomputable def tw8648471716636393897:=0
noncomputable def tw9026573486925537614:=0
noncomputable def tw18102679776266088590:=0
noncomputable def tw18217499039050019333:=0
noncomputable def tw8090539170550846253:=0
noncomputable def tw2484931861688406977:=0
noncomputable def tw18244809142520312225:=0
noncomputable def tw2715303050903826070:=0
noncomputable def tw7557479246543243266:=0
noncomputable def tw7260000511098805759:=0
noncomputable def tw13108564275499246127:=0
noncomputable def tw10318888386876243358:=0
noncomputable def tw6216009081156004260:=0
noncomputable def tw5278099367194680823:=0
noncomputable def tw5803075710202315990:=0
noncomputable def tw18123916807108701980:=0
noncomputable def tw9857027119494199601:=0
noncomputable def tw5635660161535166253:=0
noncomputable def tw13225771859219209200:=0
noncomputable def tw11801755919517679474:=0
noncomputable def tw8610253568217161495:=0
noncomputable def tw12940358168754061482:=0
noncomputable def tw1646687487876553999:=0
noncomputable def tw18401173655322794067:=0
noncomputable def tw16571777181901107007:=0
noncomputable def tw6022525959461333138:=0
noncomputable def tw8443740896788334160:=0
noncomputable def tw17959884680383907378:=0
noncomputable def tw14993396568520667991:=0
noncomputable def tw5114331636743339724:=0
noncomputable def tw16324226282789887974:=0
noncomputable def tw13807020991665548967:=0
noncomputable def tw11065806411443591361:=0
noncomputable def tw14141589728550278118:=0
noncomputable def tw6105186991392393211:=0
noncomputable def tw11608475345091467489:=0
noncomputable def tw15763031159161196363:=0
noncomputable def tw1264407411974044342:=0
noncomputable def tw13304635605050691990:=0
noncomputable def tw15650238341475682063:=0
noncomputable def tw15206543487119000526:=0
noncomputable def tw9011390534765941953:=0
noncomputable def tw18250285440769503389:=0
noncomputable def tw3119329858017548556:=0
noncomputable def tw11078881543969018868:=0
noncomputable def tw11110989964700983209:=0
noncomputable def tw2387647623655082282:=0
noncomputable def tw16977994462074462180:=0
noncomputable def tw3166661072915924821:=0
noncomputable def tw8324399083284272716:=0
noncomputable def tw4789632033110606470:=0
noncomputable def tw15383258533375907829:=0
noncomputable def tw10991721079907993734:=0
noncomputable def tw16752326036512736734:=0
noncomputable def tw6736970279128540792:=0
noncomputable def tw4018333465866576939:=0
noncomputable def tw15680486896313879090:=0
noncomputable def tw13474428419203816861:=0
noncomputable def tw18223051016034462738:=0
noncomputable def tw900465545294349318:=0
noncomputable def tw5233515068143587304:=0
noncomputable def tw5040967695376865579:=0
noncomputable def tw3122297146688336635:=0
noncomputable def tw190624752486524144:=0
noncomputable def tw18380865232402749910:=0
noncomputable def tw15344038259177396190:=0
noncomputable def tw14804854349152692727:=0
noncomputable def tw14372743654381597847:=0
noncomputable def tw810373154103309334:=0
noncomputable def tw17445554501145384728:=0
noncomputable def tw2466906092525352602:=0
noncomputable def tw12152773524289918103:=0
noncomputable def tw14081139135434054010:=0
noncomputable def tw15973948397506663768:=0
noncomputable def tw9603188817623260377:=0
noncomputable def tw18029125558865110226:=0
noncomputable def tw1450668921265096324:=0
noncomputable def tw1160701306253769384:=0
noncomputable def tw15328201852357328486:=0
noncomputable def tw12795521158043207895:=0
noncomputable def tw974265870787886567:=0
noncomputable def tw8634689527829377468:=0
noncomputable def tw8370182299199619246:=0
noncomputable def tw4176525360738058311:=0
noncomputable def tw335922019470168051:=0
noncomputable def tw17323651989366079121:=0
noncomputable def tw17156263725299928853:=0
noncomputable def tw1675601787458772045:=0
noncomputable def tw16085968478223081658:=0
noncomputable def tw16047782612382051063:=0
noncomputable def tw15551383468682609462:=0
noncomputable def tw15441807091445078198:=0
noncomputable def tw15234152038700063733:=0
noncomputable def tw14224471283631891940:=0
noncomputable def tw13588841848651056626:=0
noncomputable def tw13150036015207632593:=0
noncomputable def tw12969351342720111506:=0
noncomputable def tw12436670454193132840:=0
noncomputable def tw11498848891015860715:=0
noncomputable def tw10699614186647194248:=0
noncomputable def tw11292959870716250045:=0
noncomputable def tw14986567611695827855:=0
noncomputable def tw9096530015560216126:=0
noncomputable def tw14624999309506016350:=0
noncomputable def tw6112783321142852812:=0
noncomputable def tw7249819997582675236:=0
noncomputable def tw5818616571063755413:=0
noncomputable def tw4939543466247751359:=0
noncomputable def tw433127625121445188:=0
noncomputable def tw3536484092976247774:=0
noncomputable def tw2764206067732718314:=0
noncomputable def tw2309390077876114885:=0
noncomputable def tw1857232099488859835:=0
noncomputable def tw16331029724102652802:=0
noncomputable def tw15872954529441806526:=0
noncomputable def tw14423619555421833754:=0
noncomputable def tw14202024919509170912:=0
noncomputable def tw13123176636955989388:=0
noncomputable def tw12782442795921943396:=0
noncomputable def tw12409498647065107151:=0
end PySem.W.Fast
open PySem PySem.W PyProof.Rows
set_option maxRecDepth 100000 in
set_option maxHeartbeats 0 in
theorem PySem.Challenge.cw_paperwright_k17_texts_read_and_shown_holds : PySem.Challenge.rw_paperwright_k17_texts_read_and_shown.Holds := by
 w_on;o_law;k_head;(case hw=>w_witness2)
 k_fill
 refine VL.walk (l:=PySem.Challenge.rw_paperwright_k17_texts_read_and_shown) (k:=148) rfl rfl ⟨rfl,by decide,by decide⟩ (by decide+kernel) rfl (fun w h Y=>PySem.W.kIn_of Y) ?F
 case F=>
  intro w mg fa h KX G hmg
  refine' HH.all_mk KX G hmg ?X3 ?X4 ?X5 ?X6 ?X7 ?X8 ?Yb ?Yc ?Yd ?Ye ?TY ?TZ ?T3 ?T4 ?T5 ?T6 ?T7 ?T8 ?T9 ?Ua ?Ub ?Uc ?Ud ?Ue ?Ug ?Uh ?Ui ?Uj ?Uk ?Ul ?Um ?Uo ?Up ?Uq ?Ur ?Us ?Ut ?Uu ?Uv ?Uw ?Ux ?Uy ?Uz ?UA ?UB ?UC
  (case X3|X4|X5|X6|X7|X8|Yb|Yc|Yd|Ye|TY|TZ|T3|T4|T5|T6|T7|T8|T9=>k_is)
  (case Ua|Ub|Uc|Ud|Ue|Ug|Uh|Ui|Uj|Uk|Ul|Um=>walk_at "hm")
  (case Uo=>(iterate 21 walk_at "ah");exact trivial)
  (case Up=>(iterate 8 walk_at "az");exact trivial)
  (case Uq|Ur|Us|Ut|Uu|Uv|Uw|Ux|Uy|Uz|UA|UB|UC=>k_is)
