import PyProof.Rows.All
import Wide.All
import OpenK.AllK
import Wide.FinOn
import Lean
import PyProof.EqAt
import PyProof.EqKinds
import PyProof.TupleCall
import PySem.Challenge.RW_paperwright_k21_names_of_expressions
set_option Elab.async false
set_option linter.all false
set_option maxRecDepth 100000
set_option maxHeartbeats 4000000
set_option hygiene false in
local macro_rules | `(tactic| walk_at "lo") => `(tactic| first | exact False.elim h | (obtain ⟨rfl, _⟩ := h; rfl) | (obtain ⟨_, h⟩ := h; walk_at "lo"))
set_option hygiene false in
local macro_rules | `(tactic| walk_at "l") => `(tactic| (intro _ _ _ h; walk_at "lo"))
set_option hygiene false in
local macro_rules | `(tactic| fin2) => `(tactic| first | dsimp only [↓Np, GN, wSs, wS, wE, wA, xX, M1, wP, GO, vN, Dj, bz, setAt, List.getElem?_cons_zero, List.getElem?_cons_succ, look, List.set, cE, dh, bU, aA, List.map_cons, List.map_nil, List.nil_append, List.cons_append, x_len, zX, zY, GP, GQ, GR, zZ, vO, vP, rK, GS, GU, GV, GW, GX, GY, z3, GZ, G0, G3, Nq, Nr, x_lt, Nt, Nu, Nv, G4, G5, vQ, Nx, G6, G7, G8, Ny, G9, Hf, Hg, Hh, vR, rL, IP, Hi, Hj, Nz, z4, z5, z6, z7, z8, z9, Hl, Ho, Hq, Hr, Ht, Hu, Hv, Hw, Hx, Hy, jM, p7, Aa, vS, fall, List.replicate, if_true, Bool.not_true, Bool.not_false] | simp only [List.getElem?_cons_zero, List.getElem?_cons_succ, List.map_cons, List.map_nil, List.nil_append, List.cons_append, x_len, zX, zY, GP, GQ, GR, zZ, vO, vP, rK, GS, GU, GV, GW, GX, GY, z3, GZ, G0, G3, Nq, Nr, x_lt, Nt, Nu, Nv, G4, G5, vQ, Nx, G6, G7, G8, Ny, G9, Hf, Hg, Hh, vR, rL, IP, Hi, Hj, Nz, z4, z5, z6, z7, z8, z9, Hl, Ho, Hq, Hr, Ht, Hu, Hv, Hw, Hx, Hy, jM, p7, Aa, vS, fall, List.replicate, if_true, Bool.not_true, Bool.not_false] | skip)
set_option hygiene false in
local macro_rules | `(tactic| walk_at "hd") => `(tactic| (refine' Hz.NB ?ka ?kl ?kc ?kk; (case ka => k_is); (case kl => k_is); (case kc => k_is); (case kk => k_is)))
set_option hygiene false in
local macro_rules | `(tactic| walk_at "hm") => `(tactic| (refine' Hz.NC ?ka ?ki ?kl ?kc ?kk; (case ka => k_is); (case ki => k_is); (case kl => k_is); (case kc => k_is); (case kk => k_is)))
set_option hygiene false in
local macro_rules | `(tactic| walk_at "bn") => `(tactic| first | exact Hz.p8 fun _ _ _ _ _ _ _ => rfl | exact Hz.Ab fun _ _ _ _ _ _ _ _ => rfl | exact Hz.Rj fun _ _ _ _ _ _ _ _ _ => rfl | exact Hz.Rk fun _ _ _ _ _ _ _ _ _ _ => rfl)
set_option hygiene false in
local macro_rules | `(tactic| walk_at "ah") => `(tactic| (refine' And.intro (And.intro ?h1 ?h2) ?_; (case h1 => walk_at "hd"); (case h2 => walk_at "bn")))
set_option hygiene false in
local macro_rules | `(tactic| walk_at "az") => `(tactic| (refine' And.intro ?h1 ?_; (case h1 => k_is)))
open Bool renaming and_eq_true->AC,false_ne_true->Fh,and_eq_true_iff->Iy,or_false->QQ,not_eq_true->SU,and_false->SZ,eq_iff_iff->T2,or_eq_true->X4,not_eq_true'->YC,or_eq_false_iff->YW,false_eq_true->N2,true_and->QW,eq_false_iff->Tj,false_or->Um,and_true->Ur,true_or->VD
open PySem renaming wpAny_bind->AN,wpAny_pure->BM,wpAny_loadPart'->Kj,mem_of_lookup->NA,wpAny_newObj_type->Nw,wpAny_mono->PP,codeAny_builtin->Pv,wpAny_truthy_bool->QP,wpAny_ite_split->Re,wpAny_holding->Sr,codeAny_mono->Tb,wpAny_passesOwn->Ts,wpAny_setField->X3,wpAny_askSetting->X5,plainId_quiet->X9,sizeLine_eq->Y2,wpAny_call_entry->Y4,wpAny_bindName->YH,wpAny_Call_Name_kw->YI,wpAny_pyIter_list->YR,wpAny_standAt->YS
open List renaming mem_cons_of_mem->B1,mem_cons_self->Bn,getElem?_eq_getElem->DL,mem_singleton->Do,length_append->Dx,length_map->Ee,mem_cons->FC,mem_append->FK,mem_append_right->FV,getElem?_map->Fm,size_toArray->Fs,getElem?_eq_some_iff->GE,isEmpty_iff->GT,map_cons->Ha,all_eq_true->Hb,mem_append_left->He,nodup_cons->Hk,mem_map->Hn,length_eq_zero_iff->Jn,map_append->KB,mem_of_getElem?->KE,getElem?_set_ne->KF,getElem?_append_right->KM,append_nil->Kx,getElem_mem->Mo,getElem?_set_self->N0,length_set->NM,not_mem_nil->Os,getElem?_append_left->P2,nodup_append->P3,append_assoc->PH,getElem?_eq_none->QR,drop_eq_getElem_cons->Qr,mem_filter->RF,mem_range->SF,length_take->SL,length_replicate->TB,reverse_cons->Ta,getD_eq_getElem?_getD->U2,length_pos_iff->Wp,getElem_of_mem->X1,nodup_nil->Xt,map_nil->Y6,isPrefixOf_iff_prefix->Y8,drop_left->Y9,length_range->YB,pairwise_singleton->YL,length_drop->YM,getElem?_replicate->YN,any_eq_true->YO,eq_nil_or_concat->YU,replicate->A0,length_cons->AI,all_cons->BQ,isPrefixOf->CK,lookup_cons->DV,zip_cons_cons->E7,range->Ea,replicate_succ->Ej,length_nil->G2,length_singleton->Gp,flatten_cons->Gq,any_cons->HB,length->IY,filterMap_cons->JD,find?_cons->JE,lookup->JI,nil_append->Jl,getElem?_range->MF,set_comm->MG,mem_filterMap->MJ,map_map->NK,take_length->OK,of_mem_zip->PR,take_succ->Po,length_eraseIdx_of_lt->Q3,drop_zero->Q8,zipWith->QY,take_of_length_le->Qe,range_succ_eq_map->Ra,getElem?_toArray->Rh,dropLast_eq_take->Rn,contains_iff_mem->Rq,map_congr_left->SI,set_cons_succ->SV,pairwise_cons->Sa,foldl->Sj,contains_cons->Sk,ext_getElem?->Tf,any_eq_false->Tg,drop_length->U6,take_zero->U9,take_left->UY,map->UZ,sum_cons->Ul
open PySem.Heap renaming get?_push_of_some->Bi,lt_size->FR,get?_push_size->Fu,get?_update_other->Kb,get?_update_self->Y3
open Nat renaming le_refl->Bz,lt_of_lt_of_le->Fk,le_trans->Gc,ne_of_lt->HI,zero_le->L9,lt_irrefl->Pi,le_of_lt->T1,lt_or_ge->UF,le_succ->X7,lt_succ_of_lt->XB,ne_of_gt->Y5,eq_zero_or_pos->Y7,lt_succ_self->YJ,add_sub_cancel_left->YK,toDigits->M3,add_sub_cancel->NG,le_of_eq->Nm,succ_le_succ->Ol,sub_zero->Rb,lt_trans->Rc,log2_lt->SA,mod_lt->Sq,le_succ_of_le->Tp,le_of_not_lt->U8,zero_add->VI,sub_self->Vd,succ->Vx
open Option.some renaming inj->IR
open Ne renaming symm->Ki
open Option renaming map_eq_some_iff->Kk,isSome_iff_exists->Q1,getD_some->HK,map_some->IM,getD_none->SK,none->Uj
open Int renaming eq_ofNat_of_zero_le->OF,fdiv_eq_ediv_of_nonneg->YA,toNat_natCast->O6,mul_nonneg->QM,fdiv_nonneg->Ui,mul_one->Vv
open PySem.W renaming kia_one->On,mg_of->PQ,methodCall_KW->YT
open PySem.Around renaming under_plainId->Oy
open PySem.F renaming called_set->Pt,plainAttrs_list->SC,plain_list_iadd->X6,type_list_append->YD,slot_list_append->YE
open Array renaming getElem?_toList->Qb,getElem?_eq_getElem->UV,length_toList->Ar,toArray_toList->S5,append_assoc->SJ,toList_push->So,toList_inj->Tn,toList->Ut
open PyProof.Rows renaming callWith_type1->TK,assignInOrder_cons->X2,slot_tuple_getitem->Y1,sortedS->P9,tDigits_len_ge->Ve,lt_int->Vi,digits10_le->Vj,digit_range->Vt,callWith_builtin1->Vu
open PyProof.Rows.F renaming plain_set_update_loop->W1,entry_set_update_loop->L0
open PySem.SeqAt.EqAt renaming int_int->Y0
open List.cons renaming inj->YF,injEq->W2
open False renaming elim->Ed
open Sum renaming inr->G1,inl->Ng
open True renaming intro->Gj
open ForInStep renaming yield->Iw
open List.Pairwise renaming nil->M4
open Iff renaming rfl->OB
open PyProof renaming noPylong_small->Q9
open Nat.succ renaming inj->To
open Or renaming inr->Vw
open List.Perm renaming swap->W6,eq_of_pairwise->W9,cons->WG,append_left->WH
open Decidable renaming not_not->WR
noncomputable def Ap:=@of_decide_eq_true
noncomputable def Da:=@if_neg
noncomputable def FM:=@if_pos
noncomputable def Fn:=@decide_eq_false
noncomputable def GM:=@decide_eq_true
noncomputable def IH:=@beq_iff_eq
noncomputable def Kt:=@congrArg
noncomputable def Pl:=@beq_eq_false_iff_ne
noncomputable def Pm:=@beq_self_eq_true
noncomputable def TC:=@decide_eq_true_eq
noncomputable def X8:=@or_false
noncomputable def YG:=@decide_eq_decide
noncomputable def YQ:=@if_true
noncomputable def YV:=@if_false
open PySem.W(instObj methodObj hideAll_get Frag lookIn plainGet hasDictIn findIn plainGet_of isFn plainOver takerIn makesIn emptyDict keepIn mroIn kitOne fnOf codeIn callWith_K nsIn)
noncomputable section
set_option bootstrap.genMatcherCode false
namespace L2
open PySem PySem.Spec PyProof.Rows
abbrev Key:=Sum Int Str
noncomputable def l7:Key->Value->Bool
 |.inl k,v=>Value.isInt k v
 |.inr x,v=>Value.isStrOf x v
noncomputable def Rm(w:World):Key->Int
 |.inl k=>hashInt k
 |.inr x=>hashStr w x
theorem aX:∀{k:Key}{v:Value},l7 k v=true->(∃i t,k=Ng i/\v=Value.int i t)\/(∃x t,k=G1 x/\v=Value.str x t)
 |.inl i,v,h=>by obtain⟨t,e⟩:=Value.isInt_shape (k:=i) (v:=v) h;exact .inl ⟨i,t,rfl,e⟩
 |.inr x,v,h=>by obtain⟨t,e⟩:=Value.isStrOf_shape (x:=x) (v:=v) h;exact .inr ⟨x,t,rfl,e⟩
theorem xY(i:Int)(t:Tok):l7 (.inl i) (.int i t)=true:=by simp[l7,Value.isInt]
theorem xZ(x:Str)(t:Tok):l7 (.inr x) (.str x t)=true:=by simp[l7,Value.isStrOf]
theorem IQ(a b:Int):decide ((Ng a:Key)=Ng b)=(a==b):=by
 by_cases e:a=b
 .subst e;simp
 .have h:¬(Ng a:Key)=Ng b:=λq=>e (Sum.inl.inj q);rw[Fn h];exact(Pl.mpr e).symm
theorem IS(a b:Str):decide ((G1 a:Key)=G1 b)=decide (a=b):=by
 by_cases e:a=b
 .subst e;simp
 .have h:¬(G1 a:Key)=G1 b:=λq=>e (Sum.inr.inj q);rw[Fn h,Fn e]
theorem IT(a:Int)(b:Str):decide ((Ng a:Key)=G1 b)=false:=Fn (λq=>nomatch q)
theorem IU(a:Str)(b:Int):decide ((G1 a:Key)=Ng b)=false:=Fn (λq=>nomatch q)
noncomputable def bg(prog:Program)(w:World):PySem.KeyKind prog w Key where
 is:=l7
 hash:=Rm w
 inj:=λv a b g d=>by
  rcases aX g with⟨i,t,rfl,rfl⟩|⟨x,t,rfl,rfl⟩
  .rcases aX d with⟨j,u,rfl,e⟩|⟨y,u,rfl,e⟩
   .injection e with e1 _;rw[e1]
   .exact nomatch e
  .rcases aX d with⟨j,u,rfl,e⟩|⟨y,u,rfl,e⟩
   .exact nomatch e
   .injection e with e1 _;rw[e1]
 byValue:=λk v h=>by rcases aX h with⟨i,t,rfl,rfl⟩|⟨x,t,rfl,rfl⟩<;>rfl
 pyHash:=λc h=>by
  rcases aX c with⟨i,t,rfl,rfl⟩|⟨x,t,rfl,rfl⟩
  .exact wpAny_pyHash_int h
  .exact wpAny_pyHash_str h
 eqBool:=λf c h=>by
  rcases aX f with⟨i,t,rfl,rfl⟩|⟨x,t,rfl,rfl⟩
  .rcases aX c with⟨j,u,rfl,rfl⟩|⟨y,u,rfl,rfl⟩
   .rw[IQ]at h;exact wpAny_eqBool_int h
   .rw[IT]at h;exact SeqAt.EqAt.int_str i t y u _ _ _ _ h
  .rcases aX c with⟨j,u,rfl,rfl⟩|⟨y,u,rfl,rfl⟩
   .rw[IU]at h;exact SeqAt.EqAt.str_int x t j u _ _ _ _ h
   .rw[IS]at h;exact wpAny_eqBool_str h
 «strs»:=λk x t v h=>by
  rcases aX h with⟨i,u,rfl,e⟩|⟨y,u,rfl,e⟩
  .exact nomatch e
  .injection e with e1 _;subst e1;cases v<;>rfl
theorem rM(prog:Program)(w:World)(i:Int)(t:Tok):(bg prog w).is (.inl i) (.int i t)=true:=xY i t
theorem rN(prog:Program)(w:World)(x:Str)(t:Tok):(bg prog w).is (.inr x) (.str x t)=true:=xZ x t
inductive V where
 |aI|bl (b:Bool)|int (i:Int)|str (x:Str)|zL (b:Array UInt8)|IV (b:UInt64)|ref (a:Addr)|ty (n:String)
 deriving DecidableEq
noncomputable def RelV:V->Value->Prop
 |.aI,u=>u=Value.none
 |.bl b,u=>u=Value.bool b
 |.int i,u=>∃t,u=Value.int i t
 |.str x,u=>∃t,u=Value.str x t
 |.zL b,u=>∃t,u=Value.bytes b t
 |.IV b,u=>∃t,u=Value.float b t
 |.ref a,u=>u=Value.ref a
 |.ty n,u=>u=Value.type n
abbrev Vals:List V->List Value->Prop:=Paired RelV
theorem Vals.length{xs:List V}{us:List Value}(r:Vals xs us):xs.length=us.length:=Paired.length r
theorem Vals.get:∀{xs:List V}{us:List Value}{i:Nat}{x:V},Vals xs us->xs[i]?=some x->∃u,us[i]?=some u/\RelV x u
 |_,_,_,_,.nil,e=>by simp at e
 |_,_,0,_,.cons r _,e=>by simp at e;subst e;exact⟨_,rfl,r⟩
 |_,_,i+1,x,.cons _ t,e=>by obtain⟨u,b,a⟩:=Vals.get (i:=i) (x:=x) t (by simpa using e);exact⟨u,by simpa using b,a⟩
theorem Vals.set{x:V}{u:Value}(r:RelV x u):∀{xs:List V}{us:List Value}(i:Nat),Vals xs us->Vals (xs.set i x) (us.set i u)
 |_,_,_,.nil=>.nil
 |_,_,0,.cons _ t=>.cons r t
 |_,_,i+1,.cons q t=>.cons q (Vals.set r i t)
theorem Vals.append:∀{xs a:List V}{us b:List Value},Vals xs us->Vals a b->Vals (xs++a) (us++b)
 |_,_,_,_,.nil,s=>s
 |_,_,_,_,.cons r t,s=>.cons r (Vals.append t s)
theorem Vals.take:∀{xs:List V}{us:List Value}(n:Nat),Vals xs us->Vals (xs.take n) (us.take n)
 |_,_,0,_=>.nil
 |_,_,_+1,.nil=>.nil
 |_,_,n+1,.cons r t=>.cons r (Vals.take n t)
theorem Vals.drop:∀{xs:List V}{us:List Value}(n:Nat),Vals xs us->Vals (xs.drop n) (us.drop n)
 |_,_,0,r=>r
 |_,_,_+1,.nil=>.nil
 |_,_,n+1,.cons _ t=>Vals.drop n t
noncomputable def gp:Option V->Option Value->Prop
 |some v,some u=>RelV v u
 |none,none=>True
 |_,_=>False
noncomputable def KV{a:Type}:List (a×V)->List (a×Value)->Prop:=Paired λ(p:a×V)(q:a×Value)=>p.1=q.1/\RelV p.2 q.2
noncomputable def kV:Key->V
 |.inl i=>.int i
 |.inr x=>.str x
inductive HO where
 |lst (xs:List V)
 |tup (xs:List V)
 |dK (kvs:List (Key×V))|dT (kvs:List (List Key×V))
 |set (S:Int->Bool) (n:Nat)
 |ins (C dx:Addr) (fs:List (Str×V))
 |own (x:Addr)
 |xd (fs:List (Str×V))
 |met (f x:Addr)
 |p9 (lo hi:Int)
 |uo (o:Obj) (u:HO)
 |HA (ps:Array Value)
 |ext (φ:Heap->Prop)
abbrev Hp:=Addr->Option HO
noncomputable def upd(H:Hp)(a:Addr)(o:HO):Hp:=λb=>if b=a then some o else H b
theorem aq{H:Hp}{a:Addr}{o:HO}:upd H a o a=some o:=by unfold upd;rw[FM rfl]
theorem ay{H:Hp}{a b:Addr}{o:HO}(h:b≠a):upd H a o b=H b:=by unfold upd;rw[Da h]
theorem Dk{H:Hp}{a:Addr}{o u:HO}:upd (upd H a o) a u=upd H a u:=by funext b;unfold upd;split<;>rfl
theorem ND{H:Hp}{a b:Addr}{o u:HO}(h:H a=some o)(h':H b=some u)(d:o≠u):a≠b:=by intro e;subst e;rw[h]at h';exact d (IR h')
theorem bw{H:Hp}{a b:Addr}{o:HO}(h:H a=some o)(h':H b=none):a≠b:=by intro e;subst e;rw[h]at h';cases h'
section
variable(P:Program)(w:World)
noncomputable def bq(H:Hp)(h:Heap)(a:Addr):HO->Prop
 |.lst xs=>xs.length<=sizeLine/\∃(its:List Value)(n:Nat),Vals xs its/\h.get? a=some {cls:=.type "list",data:=.seq its.toArray n}
 |.tup xs=>xs.length<=sizeLine/\∃its:List Value,Vals xs its/\IsTup h a its.toArray
 |.dK kvs=>kvs.length<=sizeLine/\(a==sysModules)=false/\∃vs,KV kvs vs/\h.DictOf (bg P w) a vs
 |.dT kvs=>kvs.length<=sizeLine/\(a==sysModules)=false/\∃xs:List (List Key×Addr×Value),
   Paired (λ(p:List Key×V)(q:List Key×Addr×Value)=>p.1=q.1/\H q.2.1=some (.tup (p.1.map kV))/\RelV p.2 q.2.2) kvs xs/\
   ∃o es ep,h.get? a=some o/\o.ExactDict/\o.data=.dict es ep/\es.toList=xs.map (entryOfKey (tupleKind (bg P w)))/\(xs.map (·.1)).Nodup
 |.set S n=>h.SetOf (intKind P w) a S n
 |.ins C d c=>H d=some (.own a)/\c.length<=1000/\d≠a/\h.get? a=some (instObj C d)/\
   ∃b,h.Ns1 d b/\(∀f,gp (c.lookup f) (b f))/\PySem.Within b (c.map (·.1))
 |.own _=>∃o,h.get? a=some o
 |.xd c=>∃b,h.Ns1 a b/\∀f,gp (c.lookup f) (b f)
 |.p9 j k=>∃t u v,h.get? a=some {cls:=.type "range",data:=.fields #[.int j t,.int k u,.int 1 v]}
 |.uo o u=>h.get? a=some o/\bq H h a u
 |.HA ps=>h.get? a=some {cls:=.none,data:=.fields ps}
 |.met f x=>h.get? a=some (methodObj (.ref f) (.ref x))
 |.ext e=>e h/\(∃o,h.get? a=some o)/\∀i g:Heap,e i->(∀o,i.get? a=some o->g.get? a=some o)->e g
noncomputable def gv(H:Hp)(h:Heap):Prop:=∀a o,H a=some o->bq P w H h a o
end
section
variable{P:Program}{w:World}{H H':Hp}{h h':Heap}{a:Addr}{o:HO}
theorem bq.lt(x:bq P w H h a o):a<h.objs.size:=by
 cases o with
 |lst c=>obtain⟨_,_,_,_,e⟩:=x;exact FR e
 |tup c=>obtain⟨_,_,_,p⟩:=x;exact p.lt
 |dK b=>obtain⟨_,_,_,_,o,_,_,e,_⟩:=x;exact FR e
 |dT b=>obtain⟨_,_,_,_,o,_,_,e,_⟩:=x;exact FR e
 |set S n=>obtain⟨o,_,_,_,e,_⟩:=x;exact FR e
 |ins C l d=>obtain⟨_,_,_,e,_⟩:=x;exact FR e
 |own y=>obtain⟨_,e⟩:=x;exact FR e
 |xd d=>obtain⟨_,⟨_,_,_,e,_⟩,_⟩:=x;exact FR e
 |p9 j k=>obtain⟨_,_,_,e⟩:=x;exact FR e
 |uo i u=>obtain⟨e,_⟩:=x;exact FR e
 |HA g=>exact FR (show h.get? a=some _ from x)
 |met f y=>exact FR (show h.get? a=some _ from x)
 |ext φ=>obtain⟨_,⟨_,e⟩,_⟩:=x;exact FR e
theorem Paired.IX{α e:Type}{F G:α->e->Prop}:∀{d:List α}{c:List e},Paired F d c->(∀a b,F a b->G a b)->Paired G d c
 |_,_,.nil,_=>.nil
 |_,_,.cons r t,f=>.cons (f _ _ r) (Paired.IX t f)
theorem bq.stay(x:bq P w H h a o)(k:∀b u,(b=a\/H b=some (.own a))->h.get? b=some u->h'.get? b=some u)
 (K:∀b,H b=some (.own a)->H' b=some (.own a))(J:∀b xs,H b=some (.tup xs)->H' b=some (.tup xs)):bq P w H' h' a o:=by
 induction o with
 |lst xs=>obtain⟨z,l,n,r,e⟩:=x;exact⟨z,l,n,r,k _ _ (.inl rfl) e⟩
 |tup xs=>obtain⟨z,l,r,g,e,c⟩:=x;exact⟨z,l,r,g,k _ _ (.inl rfl) e,c⟩
 |dK A=>obtain⟨z,y,E,r,g,i,j,e,c⟩:=x;exact⟨z,y,E,r,g,i,j,k _ _ (.inl rfl) e,c⟩
 |dT A=>obtain⟨z,y,xs,r,g,i,j,e,c⟩:=x;exact⟨z,y,xs,Paired.IX r λp q z=>⟨z.1,J _ _ z.2.1,z.2.2⟩,g,i,j,k _ _ (.inl rfl) e,c⟩
 |set S n=>obtain⟨g,i,j,t,e,c⟩:=x;exact⟨g,i,j,t,k _ _ (.inl rfl) e,c⟩
 |ins C Q L=>obtain⟨d,z,F,e,s,⟨m,i,j,M,c⟩,r⟩:=x;exact⟨K _ d,z,F,k _ _ (.inl rfl) e,s,⟨m,i,j,k _ _ (.inr d) M,c⟩,r⟩
 |own y=>obtain⟨g,e⟩:=x;exact⟨g,k _ _ (.inl rfl) e⟩
 |xd L=>obtain⟨s,⟨m,i,j,e,c⟩,r⟩:=x;exact⟨s,⟨m,i,j,k _ _ (.inl rfl) e,c⟩,r⟩
 |p9 N O=>obtain⟨t,u,v,e⟩:=x;exact⟨t,u,v,k _ _ (.inl rfl) e⟩
 |uo g u I=>obtain⟨e,q⟩:=x;exact⟨k _ _ (.inl rfl) e,I q⟩
 |HA D=>have e:h.get? a=some {cls:=.none,data:=.fields D}:=x;show h'.get? a=some {cls:=.none,data:=.fields D};exact k a _ (.inl rfl) e
 |met f y=>have e:h.get? a=some (methodObj (.ref f) (.ref y)):=x;show h'.get? a=some (methodObj (.ref f) (.ref y));exact k a _ (.inl rfl) e
 |ext φ=>obtain⟨p,⟨o,e⟩,B⟩:=x;exact⟨B _ _ p λo q=>k _ _ (.inl rfl) q,⟨o,k _ _ (.inl rfl) e⟩,B⟩
theorem gv.lt(x:gv P w H h)(e:H a=some o):a<h.objs.size:=(x a o e).lt
theorem gv.fresh(x:gv P w H h)(e:h.objs.size<=a):H a=none:=by
 cases q:H a with
 |none=>rfl
 |some u=>exact absurd (Fk (x.lt q) e) (Pi _)
theorem gv.kept(x:gv P w H h)(k:∀b u,h.get? b=some u->h'.get? b=some u):gv P w H h':=λa o e=>(x a o e).stay (λb u _ q=>k b u q) (λ_ q=>q) λ_ _ q=>q
theorem gv.laid(x:gv P w H h)(k:∀b u,h.get? b=some u->h'.get? b=some u)(i:h.objs.size<=a)(d:bq P w (upd H a o) h' a o):gv P w (upd H a o) h':=λb u e=>by
 have f:=x.fresh i;by_cases g:b=a
 .subst g;rw[aq]at e;cases e;exact d
 .rw[ay g]at e;exact(x b u e).stay (λc v _ q=>k c v q) (λc q=>by rw[ay (bw q f)];exact q) λc j q=>by rw[ay (bw q f)];exact q
end
noncomputable def Rd(H:Hp)(a:Addr)(u:HO):Prop:=H a=some u\/∃o,H a=some (.uo o u)
theorem Rd.ok{P:Program}{w:World}{H:Hp}{h:Heap}{a:Addr}{u:HO}(r:Rd H a u)(x:gv P w H h):bq P w H h a u:=by
 rcases r with r|⟨o,r⟩
 .exact x a u r
 .obtain⟨_,q⟩:=x a _ r;exact q
noncomputable def NF:Option HO->Prop
 |some (.lst _)=>True
 |some (.dK _)=>True
 |some (.dT _)=>True
 |some (.set _ _)=>True
 |some (.ins _ _ _)=>True
 |some (.ext _)=>True
 |_=>False
section
variable{P:Program}{w:World}{H:Hp}{h h':Heap}{x e:Addr}{o':HO}
theorem gv.write(n:gv P w H h)(d:NF (H x))(he:e=x\/H e=some (.own x))(k:∀b u,b≠e->h.get? b=some u->h'.get? b=some u)(s:∃u,h'.get? e=some u)
 (j:bq P w (upd H x o') h' x o'):gv P w (upd H x o') h':=λb u q=>by
 have m:∀c y,H c=some (.own y)->c≠x:=λc y r z=>by subst z;rw[r]at d;exact d
 have p:∀c a,H c=some (.tup a)->c≠x:=λc a r z=>by subst z;rw[r]at d;exact d
 by_cases g:b=x
 .subst g;rw[aq]at q;cases q;exact j
 .rw[ay g]at q;by_cases i:b=e
  .have l:H b=some (.own x):=by
    rcases he with z|z
    .exact absurd (i.trans z) g
    .rw[i];exact z
   rw[q]at l;cases l;obtain⟨v,o⟩:=s;exact⟨v,by rw[i];exact o⟩
  .refine(n b u q).stay (λc v f r=>k c v ?_ r) (λc r=>by rw[ay (m c b r)];exact r) λc a r=>by rw[ay (p c a r)];exact r
   rcases f with rfl|f
   .exact i
   .rintro rfl;rcases he with z|z
    .exact m c b f z
    .rw[f]at z;cases z;exact g rfl
end
structure Un(fs ex:List Addr)(H H':Hp)(h h':Heap):Prop where
 keep:∀b o,h.get? b=some o->H b=none->b∉fs->b∉ex->h'.get? b=some o
 slot:∀b o,h.get? b=some o->H b=none->b∈fs->b∉ex->∃sl,h'.get? b=some {o with slots:=sl}
 free:∀b o,h.get? b=some o->H b=none->b∉ex->H' b=none
 there:∀b o,h.get? b=some o->b∉ex->∃o',h'.get? b=some o'
 tups:∀b xs,H b=some (.tup xs)->H' b=some (.tup xs)
 jN:∀b o u,H b=some (.uo o u)->H' b=some (.uo o u)
 kU:∀b ps,H b=some (.HA ps)->∃more,H' b=some (.HA (ps++more))
section
variable{fs fs' ex ex':List Addr}{H H1 H2:Hp}{h h1 h2 h':Heap}{a x e:Addr}{o:HO}
theorem Un.any(u:Un fs ex H H1 h h1){b:Addr}{c:Obj}(q:h.get? b=some c)(n:H b=none)(d:b∉ex):∃g,h1.get? b=some {c with slots:=g}:=by
 by_cases f:b∈fs
 .exact u.slot b c q n f d
 .exact⟨c.slots,u.keep b c q n f d⟩
theorem Un.kept(k:∀b u,h.get? b=some u->h'.get? b=some u):Un fs ex H H h h':=
 ⟨λb c q _ _ _=>k b c q,λb c q _ _ _=>⟨c.slots,k b c q⟩,λ_ _ _ n _=>n,λb c q _=>⟨c,k b c q⟩,λ_ _ q=>q,λ_ _ _ q=>q,λ_ d q=>⟨#[],by rw[q];simp⟩⟩
theorem Un.refl:Un fs ex H H h h:=Un.kept λ_ _ q=>q
theorem Un.laid(k:∀b u,h.get? b=some u->h'.get? b=some u)(f:h.objs.size<=a)(c:H a=none):Un fs ex H (upd H a o) h h' where
 keep:=λb u q _ _ _=>k b u q
 slot:=λb u q _ _ _=>⟨u.slots,k b u q⟩
 free:=λb u q n _=>by rw[ay (HI (Fk (FR q) f))];exact n
 there:=λb u q _=>⟨u,k b u q⟩
 tups:=λb d q=>by rw[ay (bw q c)];exact q
 jN:=λb u d q=>by rw[ay (bw q c)];exact q
 kU:=λb g q=>⟨#[],by rw[ay (bw q c),q];simp⟩
theorem Un.write(c:NF (H x))(he:e=x\/H e=some (.own x))(k:∀b u,b≠e->h.get? b=some u->h'.get? b=some u)(m:∃u,h'.get? e=some u):Un fs ex H (upd H x o) h h':=by
 have f:∀b,H b=none->b≠x:=λb n z=>by subst z;rw[n]at c;exact c
 have g:∀b,H b=none->b≠e:=λb n z=>by
  subst z;rcases he with r|r
  .exact f b n r
  .rw[n]at r;cases r
 have d:∀b u,H b=some u->¬NF (some u)->b≠x:=λb u q l z=>by subst z;rw[q]at c;exact l c
 refine⟨λb u q n _ _=>k b u (g b n) q,λb u q n _ _=>⟨u.slots,k b u (g b n) q⟩,λb u q n _=>by rw[ay (f b n)];exact n,λb u q _=>?_,
  λb j q=>by rw[ay (d b _ q λz=>z)];exact q,λb u j q=>by rw[ay (d b _ q λz=>z)];exact q,λb p q=>⟨#[],by rw[ay (d b _ q λz=>z),q];simp⟩⟩
 by_cases i:b=e
 .subst i;exact m
 .exact⟨u,k b u i q⟩
end
noncomputable def QK(h:Heap)(H:Hp):List Addr:=(Ea h.objs.size).filter λa=>(H a).isSome
noncomputable def qa(h:Heap)(H:Hp):Heap:=PySem.W.hideAll h (QK h H)
theorem x6(h:Heap)(H:Hp):(qa h H).objs.size=h.objs.size:=PySem.W.hideAll_size _ _
theorem Ac{h:Heap}{H:Hp}{b:Addr}{o:Obj}(e:h.get? b=some o)(n:H b=none):(qa h H).get? b=some o:=
 hideAll_get _ e λa=>by have q:(H b).isSome=true:=(RF.mp a).2;rw[n]at q;simp at q
theorem Dl{h:Heap}{H:Hp}{b:Addr}{o:Obj}(e:(qa h H).get? b=some o):h.get? b=some o/\H b=none:=by
 have a:h.get? b=some o:=PySem.W.of_hideAll (QK h H) e;refine⟨a,?_⟩;cases q:H b with
 |none=>rfl
 |some x=>have c:b∈QK h H:=RF.mpr ⟨SF.mpr (FR a),by simp[q]⟩;have z:(qa h H).get? b=none:=PySem.W.hideAll_none (QK h H) c;rw[z]at e;cases e
noncomputable def Dp(g h:Heap)(L:Addr):List (Addr×Obj):=(Ea h.objs.size).filterMap λa=>if a=L\/(g.get? a).isSome=true then none else(h.get? a).map λo=>(a,o)
noncomputable def rest(g h:Heap)(L d:Addr):List (Addr×Obj):=(Dp g h L).filter λp=>decide (p.1≠d)
structure Mod(K:Frag)(mg:Str->Option Value)(base:Heap):Prop where
 NH:K.In base
 glob:base.Ns mainGlobals mg
 blt:∃mb,base.Ns builtinsNs mb/\∀x:Str,x≠"__name__"->mb x=bootBuiltins x
 nolimit:base.NoLimit
 seer:base.NoSeer
set_option genInjectivity false in
set_option genSizeOf false in
structure Cx where
 prog:Program
 w:World
 K:Frag
 mg:Str->Option Value
 base:Heap
 A:Around
 N:List Str
 s₀:Shared
 H₀:Hp
 env:Env
 outer:List Env
 stack:List Env
 ex:List Addr
 fn:Str->Bool
 calm:Bool
 pn:List (Addr×Obj)
 xe:Value->Shared->Prop
noncomputable def frs(l:List Env):List Addr:=l.filterMap (·.frame)
abbrev Cx.fs(X:Cx):List Addr:=frs X.outer
noncomputable def NI(sc:Scope)(x:Str):Prop:=sc.names.lookup x=some .local\/sc.names.lookup x=some .cell\/sc.names.lookup x=some .free
noncomputable def Loc(sc:Scope)(x:Str):Prop:=sc.names.lookup x=some .local\/sc.names.lookup x=some .cell
noncomputable def Look(env:Env)(h:Heap)(m:Str->Option Value)(x:Str)(u:Value):Prop:=
 (env.kindOf x=some .local/\m x=some u)\/((env.kindOf x=some .cell\/env.kindOf x=some .free)/\∃c,env.cells.lookup x=some c/\h.IsCell c (some u))
structure Cx.Ok(X:Cx):Prop where
 mod:Mod X.K X.mg X.base
 kind:X.env.scope.kind=.function
 glob:X.env.globals=mainGlobals
 blt:X.env.builtins=builtinsNs
 above:X.s₀.heap.objs.size<=X.env.locals
 inj:∀x y c,X.env.cells.lookup x=some c->X.env.cells.lookup y=some c->x=y
 has:∀x,(X.env.kindOf x=some .cell\/X.env.kindOf x=some .free)->∃c,X.env.cells.lookup x=some c
 NJ:∀x c,X.fn x=true->X.env.cells.lookup x=some c->X.s₀.heap.objs.size<=c
 hd:X.calm=true->X.A.handled=none
 frames:X.A.frames=some X.stack
 stk:X.stack=X.outer\/(X.stack=X.env::X.outer/\X.env.frame=some X.env.locals)
 Ro:∀b∈X.ex,b≠X.env.locals/\∀x c,X.env.cells.lookup x=some c->c≠b
 bs:∀b o,X.base.get? b=some o->X.s₀.heap.get? b=some o/\X.H₀ b=none
 Dq:X.base.objs.size<=X.s₀.heap.objs.size
 Ad:∀b o,X.base.get? b=some o->b∉X.ex
 Ae:∀b∈X.ex,b∉X.fs
 kW:X.s₀.heap.FunFrames X.base X.outer
 IZ:∀b∈X.fs,X.H₀ b=none
 tree:X.prog.given.tree=none
 QL:∀(A:Around)(s:Shared),A.frames=X.A.frames->A.depth=X.A.depth->(∀b o,X.base.get? b=some o->s.heap.get? b=some o)->PylongRoom (model X.prog X.w) A s
structure Inv(X:Cx)(pins:List (Addr×Obj))(σ:List (Option V))(H:Hp)(s:Shared):Prop where
 ok:X.Ok
 os:s.os=X.s₀.os
 bare:AllBare s.gens
 base:Un X.fs X.ex X.H₀ H X.s₀.heap s.heap
 loc:∃m,s.heap.Ns X.env.locals m/\∀(i:Nat)(x:Str)(v:V),X.N[i]?=some x->σ[i]?=some (some v)->NI X.env.scope x->∃u,RelV v u/\Look X.env s.heap m x u
 cell:∀x c,X.env.cells.lookup x=some c->∃v,s.heap.IsCell c v
 free:H X.env.locals=none
 gx:∀x c,X.env.cells.lookup x=some c->H c=none
 pin:∀p∈X.pn++pins,s.heap.get? p.1=some p.2/\H p.1=none/\p.1≠X.env.locals/\p.1∉X.fs/\∀v,p.2.data≠.cell v
 hok:gv X.prog X.w H s.heap
 len:σ.length=X.N.length
section
variable{X:Cx}{pins:List (Addr×Obj)}{σ:List (Option V)}{H H':Hp}{s:Shared}{h':Heap}
theorem Cx.Ok.Dr(a:X.Ok){b:Addr}{o:Obj}(e:X.base.get? b=some o):b∉X.fs:=λc=>by have:=(a.kW.mem c).1;rw[e]at this;cases this
theorem Inv.bs(I:Inv X pins σ H s):∀b o,X.base.get? b=some o->s.heap.get? b=some o/\H b=none:=λb o e=>⟨I.base.keep b o (I.ok.bs b o e).1 (I.ok.bs b o e).2 (I.ok.Dr e) (I.ok.Ad b o e),I.base.free b o (I.ok.bs b o e).1 (I.ok.bs b o e).2 (I.ok.Ad b o e)⟩
theorem Inv.bk(I:Inv X pins σ H s):∀b o,X.base.get? b=some o->s.heap.get? b=some o:=λb o e=>(I.bs b o e).1
theorem Inv.mod(I:Inv X pins σ H s):Mod X.K X.mg X.base:=I.ok.mod
theorem Inv.jO(I:Inv X pins σ H s):X.K.In s.heap:=I.ok.mod.NH.keeps I.bk
theorem Inv.lt(I:Inv X pins σ H s):X.env.locals<s.heap.objs.size:=let⟨_,hn,_⟩:=I.loc;hn.lt
theorem Inv.sz(I:Inv X pins σ H s):X.s₀.heap.objs.size<=s.heap.objs.size:=Gc I.ok.above (T1 I.lt)
theorem Inv.Rp(I:Inv X pins σ H s){a:Addr}(h:s.heap.objs.size<=a):a∉X.fs:=λc=>by obtain⟨_,o,b,_⟩:=I.ok.kW.mem c;exact absurd (Fk (FR b) (Gc I.sz h)) (Pi _)
theorem Inv.I0(I:Inv X pins σ H s):∀x c,X.env.cells.lookup x=some c->c≠X.env.locals:=λx c e z=>by obtain⟨v,o,d,hd⟩:=I.cell x c e;obtain⟨m,⟨f,g,h,a,b,_⟩,_⟩:=I.loc;rw[z,a]at d;cases d;rw[b]at hd;cases hd
theorem Inv.kW(I:Inv X pins σ H s):s.heap.FunFrames X.base X.outer:=by
 have f:∀(l:List Env),(∀b∈frs l,b∈X.fs)->X.s₀.heap.FunFrames X.base l->s.heap.FunFrames X.base l:=by
  intro l
  induction l with
  |nil=>intro _ _;trivial
  |cons env r h=>intro g m;obtain⟨n,⟨L,o,a,k,j,hd⟩,i⟩:=m;have d:L∈X.fs:=g L (by unfold frs;rw[JD,a];exact Bn);obtain⟨p,e⟩:=I.base.slot L o j (I.ok.IZ L d) d λz=>I.ok.Ae L z d;exact⟨n,⟨L,_,a,k,e,hd⟩,h (λb c=>g b (by unfold frs;rw[JD,a];exact B1 _ c)) i⟩
 exact f X.outer (λ_ c=>c) I.ok.kW
theorem Inv.stack(I:Inv X pins σ H s):s.heap.FunFrames X.base X.stack:=by
 rcases I.ok.stk with e|⟨e,b⟩
 .rw[e];exact I.kW
 .rw[e];obtain⟨m,a,_⟩:=I.loc;refine .cons (by rw[I.ok.kind];decide) b a ?_ I.kW;exact Heap.get?_none_of_le (Gc I.ok.Dq I.ok.above)
theorem Inv.uv(I:Inv X pins σ H s):∀b∈frs X.stack,b∈X.env.locals::X.fs:=λb a=>by
 rcases I.ok.stk with e|⟨e,c⟩
 .rw[e]at a;exact B1 _ a
 .rw[e]at a;unfold frs at a;rw[JD,c]at a;exact a
theorem Inv.ja(I:Inv X pins σ H s):∀b∈frs X.stack,H b=none:=λb a=>by
 rcases FC.mp (I.uv b a)with e|a
 .rw[e];exact I.free
 .obtain⟨_,o,c,_⟩:=I.ok.kW.mem a;exact I.base.free b o c (I.ok.IZ b a) λz=>I.ok.Ae b z a
theorem Inv.step{g':Array GenState}{t':Nat}{d':Drawn}{ch:List Addr}(I:Inv X pins σ H s)
 (f:∀b∈ch,(b∈X.ex\/X.s₀.heap.objs.size<=b)/\b≠X.env.locals/\(∀x c,X.env.cells.lookup x=some c->c≠b)/\∀p∈X.pn++pins,p.1≠b)
 (keep:∀b o,b≠X.env.locals->b∉X.fs->b∉ch->s.heap.get? b=some o->H b=none->h'.get? b=some o)
 (slot:∀b o,b≠X.env.locals->b∈X.fs->b∉ch->s.heap.get? b=some o->H b=none->∃E,h'.get? b=some {o with slots:=E})(free:∀b o,b∉ch->s.heap.get? b=some o->H b=none->H' b=none)
 (there:∀b o,b∉ch->s.heap.get? b=some o->∃y,h'.get? b=some y)
 (tups:∀b xs,H b=some (.tup xs)->H' b=some (.tup xs))(jN:∀b o u,H b=some (.uo o u)->H' b=some (.uo o u))(kU:∀b ps,H b=some (.HA ps)->∃A,H' b=some (.HA (ps++A)))
 (O:∀m,s.heap.Ns X.env.locals m->h'.Ns X.env.locals m)(F:gv X.prog X.w H' h')(T:AllBare g'):
 Inv X pins σ H' {s with heap:=h',gens:=g',drawn:=d',toks:=t'}:=by
 have N:∀b o,X.s₀.heap.get? b=some o->b≠X.env.locals:=λb o e=>HI (Fk (FR e) I.ok.above);have D:∀b o,X.s₀.heap.get? b=some o->b∉X.ex->b∉ch:=λb o e a j=>by
  rcases(f b j).1 with z|z
  .exact a z
  .exact absurd (Fk (FR e) z) (Pi _)
 have g:∀x c,X.env.cells.lookup x=some c->∀v,s.heap.IsCell c v->h'.IsCell c v:=λx c e v ⟨o,t,hd⟩=>by
  have C:c∉ch:=λz=>(f c z).2.2.1 x c e rfl;by_cases M:c∈X.fs
  .obtain⟨E,q⟩:=slot c o (I.I0 x c e) M C t (I.gx x c e);exact⟨_,q,hd⟩
  .exact⟨o,keep c o (I.I0 x c e) M C t (I.gx x c e),hd⟩
 refine⟨I.ok,I.os,T,⟨λb o e n j a=>?_,λb o e n j a=>?_,λb o e n a=>?_,λb o e a=>?_,λb xs e=>tups b xs (I.base.tups b xs e),λb o xs e=>jN b o xs (I.base.jN b o xs e),λb ps e=>?_⟩,?_,λx c e=>?_,?_,λx c e=>?_,λp L=>?_,F,I.len⟩
 .exact keep b o (N b o e) j (D b o e a) (I.base.keep b o e n j a) (I.base.free b o e n a)
 .obtain⟨E,h⟩:=I.base.slot b o e n j a;obtain⟨Y,B⟩:=slot b _ (N b o e) j (D b o e a) h (I.base.free b o e n a);exact⟨Y,B⟩
 .obtain⟨y,h⟩:=I.base.there b o e a;exact free b y (D b o e a) h (I.base.free b o e n a)
 .obtain⟨y,h⟩:=I.base.there b o e a;exact there b y (D b o e a) h
 .obtain⟨Q,h⟩:=I.base.kU b ps e;obtain⟨P,B⟩:=kU b _ h;exact⟨Q++P,by rw[B,SJ]⟩
 .obtain⟨m,R,S⟩:=I.loc;refine⟨m,O m R,λi x v h B U=>?_⟩;obtain⟨u,r,l⟩:=S i x v h B U;refine⟨u,r,?_⟩;rcases l with l|⟨k,c,e,z⟩
  .exact .inl l
  .exact .inr ⟨k,c,e,g x c e _ z⟩
 .obtain⟨v,z⟩:=I.cell x c e;exact⟨v,g x c e v z⟩
 .obtain⟨m,⟨o,_,_,t,_⟩,_⟩:=I.loc;exact free _ o (λz=>(f _ z).2.1 rfl) t I.free
 .obtain⟨v,o,t,hd⟩:=I.cell x c e;exact free c o (λz=>(f c z).2.2.1 x c e rfl) t (I.gx x c e)
 .obtain⟨e,n,K,J,d⟩:=I.pin p L;have C:p.1∉ch:=λz=>(f p.1 z).2.2.2 p L rfl;exact⟨keep p.1 p.2 K J C e n,free p.1 p.2 C e n,K,J,d⟩
theorem Inv.un{t':Nat}(I:Inv X pins σ H s)(u:Un X.fs [] H H' s.heap h')(c:gv X.prog X.w H' h'):Inv X pins σ H' {s with heap:=h',toks:=t'}:=by obtain⟨m,⟨o,t,v,g,r⟩,_⟩:=id I.loc;obtain⟨l,j⟩:=u.any g I.free (by simp);exact I.step (g':=s.gens) (d':=s.drawn) (ch:=[]) (λ_ z=>nomatch z) (λb o _ d _ e n=>u.keep b o e n d (by simp)) (λb o _ d _ e n=>u.slot b o e n d (by simp)) (λb o _ e n=>u.free b o e n (by simp)) (λb o _ e=>u.there b o e (by simp)) u.tups u.jN u.kU (λq i=>by obtain⟨p,f,k,a,h⟩:=i;rw[g]at a;cases a;exact⟨_,f,k,j,h⟩) c I.bare
theorem Inv.call{g':Array GenState}{t':Nat}{d':Drawn}{ch:List Addr}(I:Inv X pins σ H s)(u:Un (frs X.stack) ch H H' s.heap h')(g:gv X.prog X.w H' h')(q:AllBare g')
 (f:∀b∈ch,(b∈X.ex\/X.s₀.heap.objs.size<=b)/\b≠X.env.locals/\(∀x c,X.env.cells.lookup x=some c->c≠b)/\∀p∈X.pn++pins,p.1≠b):
 Inv X pins σ H' {s with heap:=h',gens:=g',drawn:=d',toks:=t'}:=by
 obtain⟨m,⟨o,C,D,j,r⟩,_⟩:=id I.loc;obtain⟨y,h⟩:=u.any j I.free λz=>(f _ z).2.1 rfl;exact I.step (ch:=ch) f (λb o h t a e n=>u.keep b o e n (λz=>(FC.mp (I.uv b z)).elim h t) a) (λb o _ _ a e n=>u.any e n a) (λb o a e n=>u.free b o e n a) (λb o a e=>u.there b o e a) u.tups u.jN u.kU (λB l=>by obtain⟨A,i,v,d,k⟩:=l;rw[j]at d;cases d;exact⟨_,i,v,h,k⟩) g q
theorem Inv.turned{t':Nat}{a:Addr}(I:Inv X pins σ H s)(k:∀b o,b≠a->s.heap.get? b=some o->h'.get? b=some o)(i:H a=none)(f:a≠X.env.locals)
 (y:a∈X.ex\/X.s₀.heap.objs.size<=a)(w:∀x c,X.env.cells.lookup x=some c->c≠a)(t:∀p∈X.pn++pins,p.1≠a):Inv X pins σ H {s with heap:=h',toks:=t'}:=by
 have g:∀b u,H b=some u->b≠a:=λb u e z=>by rw[z,i]at e;cases e
 refine I.step (g':=s.gens) (d':=s.drawn) (ch:=[a]) (λb l=>?_) (λb o _ _ d e _=>k b o (λz=>d (by simp[z])) e) (λb o _ _ d e _=>⟨o.slots,k b o (λz=>d (by simp[z])) e⟩) (λ_ _ _ _ n=>n)
  (λb o d e=>⟨o,k b o (λz=>d (by simp[z])) e⟩) (λ_ _ e=>e) (λ_ _ _ e=>e) (λb C e=>⟨#[],by rw[e];simp⟩) (λm j=>?_) (λb u e=>?_) I.bare
 .have e:b=a:=by simpa using l
  subst e;exact⟨y,f,w,t⟩
 .obtain⟨o,A,B,h,r⟩:=j;exact⟨o,A,B,k _ o (Ki f) h,r⟩
 .refine(I.hok b u e).stay (λc v d q=>k c v ?_ q) (λ_ q=>q) λ_ _ q=>q;rcases d with z|z
  .rw[z];exact g b u e
  .exact g c _ z
theorem Inv.tok(I:Inv X pins σ H s)(t:Nat):Inv X pins σ H {s with toks:=t}:=I.un (h':=s.heap) (t':=t) Un.refl I.hok
theorem Inv.kept{t':Nat}(I:Inv X pins σ H s)(k:∀b u,s.heap.get? b=some u->h'.get? b=some u):Inv X pins σ H {s with heap:=h',toks:=t'}:=I.un (Un.kept k) (I.hok.kept k)
theorem Inv.laid{a:Addr}{o:HO}{t':Nat}(I:Inv X pins σ H s)(k:∀b u,s.heap.get? b=some u->h'.get? b=some u)(d:s.heap.objs.size<=a)(c:bq X.prog X.w (upd H a o) h' a o):
 Inv X pins σ (upd H a o) {s with heap:=h',toks:=t'}:=I.un (Un.laid k d (I.hok.fresh d)) (I.hok.laid k d c)
theorem Inv.write{x e:Addr}{o:HO}{t':Nat}(I:Inv X pins σ H s)(c:NF (H x))(he:e=x\/H e=some (.own x))(k:∀b u,b≠e->s.heap.get? b=some u->h'.get? b=some u)(d:∃u,h'.get? e=some u)
 (a:bq X.prog X.w (upd H x o) h' x o):Inv X pins σ (upd H x o) {s with heap:=h',toks:=t'}:=I.un (Un.write c he k d) (I.hok.write c he k d a)
theorem Inv.vU{a:List (Addr×Obj)}(I:Inv X pins σ H s)(h:∀p∈a,s.heap.get? p.1=some p.2/\H p.1=none/\p.1≠X.env.locals/\p.1∉X.fs/\∀v,p.2.data≠.cell v):Inv X a σ H s:=
 ⟨I.ok,I.os,I.bare,I.base,I.loc,I.cell,I.free,I.gx,λp b=>(FK.mp b).elim (λz=>I.pin p (He _ z)) (h p),I.hok,I.len⟩
theorem rO{N:List Str}(c:N.Nodup){i j:Nat}{x:Str}(a:N[i]?=some x)(b:N[j]?=some x):i=j:=by obtain⟨g,e⟩:=GE.mp a;obtain⟨f,d⟩:=GE.mp b;exact(List.getElem_inj c).mp (e.trans d.symm)
theorem oW{M:Model}{A:Around}{E:Value->Shared->Prop}{i:Nat}{x:Str}{v:V}{u:Value}{Q:Unit->Shared->Prop}(I:Inv X pins σ H s)(hN:X.N.Nodup)(P:X.N[i]?=some x)(B:Loc X.env.scope x)(r:RelV v u)
 (h:∀s',Inv X pins (σ.set i (some v)) H s'->(∃a,Heap.SameBut a s.heap s'.heap/\(a=X.env.locals\/X.env.cells.lookup x=some a))->Q () s')(hf:X.fn x=true\/X.env.scope.names.lookup x=some .local:=by first|exact .inl rfl|exact .inr rfl|assumption):wpAny M A (storeName X.env x u) Q E s:=by
 obtain⟨m,hn,hl⟩:=id I.loc;have R:(X.env.scope.kind==.class||(X.env.scope.kind==.module&&X.env.locals !=X.env.globals))=false:=by rw[I.ok.kind];rfl
 have NL:i<σ.length:=by rw[I.len];exact(GE.mp P).1
 have I0:=I.I0;have g:∀{a:Addr}{h':Heap},(∃o,s.heap.get? a=some o/\H a=none)->Heap.SameBut a s.heap h'->gv X.prog X.w H h':=λ{a h'} ha f b ob e=>by
  obtain⟨_,_,C⟩:=ha;refine(I.hok b ob e).stay (λc U t q=>(f.2 c ?_).trans q) (λ_ q=>q) λ_ _ q=>q;rintro rfl;rcases t with rfl|t
  .rw[C]at e;cases e
  .rw[C]at t;cases t
 rcases B with F|F
 .refine wpAny_storeName_local F hn (λh' hn' f=>?_) R;obtain⟨oL,_,_,Vk,_⟩:=id hn;refine h _ ⟨I.ok,I.os,I.bare,⟨λb o e n L B=>?_,λb o e n L B=>?_,I.base.free,λb o e B=>?_,I.base.tups,I.base.jN,I.base.kU⟩,⟨_,hn',λj y v' l D e3=>?_⟩,λy c e=>?_,I.free,I.gx,λp hp=>?_,g ⟨oL,Vk,I.free⟩ f,by simpa using I.len⟩ ⟨_,f,.inl rfl⟩
  .exact(f.2 b (HI (Fk (FR e) I.ok.above))).trans (I.base.keep b o e n L B)
  .obtain⟨sl,l⟩:=I.base.slot b o e n L B;exact⟨sl,(f.2 b (HI (Fk (FR e) I.ok.above))).trans l⟩
  .obtain⟨o',l⟩:=I.base.there b o e B;exact⟨o',(f.2 b (HI (Fk (FR e) I.ok.above))).trans l⟩
  .by_cases J:j=i
   .subst J;rw[P]at l;cases l;rw[N0 NL]at D;cases D;exact⟨u,r,.inl ⟨F,by simp⟩⟩
   .rw[KF (Ki J)]at D;obtain⟨u',r',q⟩:=hl j y v' l D e3;refine⟨u',r',?_⟩;rcases q with⟨k,e⟩|⟨k,c,e,z⟩
    .refine .inl ⟨k,?_⟩;have:y≠x:=λe=>J (rO hN l (e▸P));simp[this,e]
    .exact .inr ⟨k,c,e,z.sameBut f (I0 y c e)⟩
  .obtain⟨U,z⟩:=I.cell y c e;exact⟨U,z.sameBut f (I0 y c e)⟩
  .obtain⟨e,n,Y,nf,d⟩:=I.pin p hp;exact⟨(f.2 p.1 Y).trans e,n,Y,nf,d⟩
 .have K:X.fn x=true:=by
   rcases hf with z|z
   .exact z
   .rw[z]at F;cases F
  obtain⟨c,t⟩:=I.ok.has x (.inl F);obtain⟨U,z⟩:=I.cell x c t;refine wpAny_storeName_cell I.ok.kind F t z (λh' T f=>?_);obtain⟨oc,O,Rr⟩:=id z;refine h {s with heap:=h'} ⟨I.ok,I.os,I.bare,⟨λb o e n L B=>?_,λb o e n L B=>?_,I.base.free,λb o e B=>?_,I.base.tups,I.base.jN,I.base.kU⟩,⟨m,hn.sameBut f (Ki (I0 x c t)),λj y v' l D e3=>?_⟩,λy Z e=>?_,I.free,I.gx,λp hp=>?_,g ⟨oc,O,I.gx x c t⟩ f,by simpa using I.len⟩ ⟨c,f,.inr t⟩
  .exact(f.2 b (HI (Fk (FR e) (I.ok.NJ x c K t)))).trans (I.base.keep b o e n L B)
  .obtain⟨sl,l⟩:=I.base.slot b o e n L B;exact⟨sl,(f.2 b (HI (Fk (FR e) (I.ok.NJ x c K t)))).trans l⟩
  .obtain⟨o',l⟩:=I.base.there b o e B;exact⟨o',(f.2 b (HI (Fk (FR e) (I.ok.NJ x c K t)))).trans l⟩
  .by_cases J:j=i
   .subst J;rw[P]at l;cases l;rw[N0 NL]at D;cases D;exact⟨u,r,.inr ⟨.inl F,c,t,T⟩⟩
   .rw[KF (Ki J)]at D;obtain⟨u',r',q⟩:=hl j y v' l D e3;refine⟨u',r',?_⟩;rcases q with q|⟨k,Z,e,z'⟩
    .exact .inl q
    .refine .inr ⟨k,Z,e,z'.sameBut f ?_⟩;rintro rfl;exact J (rO hN l (I.ok.inj _ _ _ e t▸P))
  .by_cases S:Z=c
   .subst S;exact⟨_,T⟩
   .obtain⟨w2,z2⟩:=I.cell y Z e;exact⟨w2,z2.sameBut f S⟩
  .obtain⟨e,n,Y,nf,d⟩:=I.pin p hp;refine⟨(f.2 p.1 ?_).trans e,n,Y,nf,d⟩;intro q;rw[q,O]at e;have q':oc=p.2:=IR e;exact d U (by rw[<-q'];exact Rr)
theorem dD{M:Model}{A:Around}{E:Value->Shared->Prop}{i:Nat}{x:Str}{v:V}{u:Value}{Q:Unit->Shared->Prop}(I:Inv X pins σ H s)(d:X.N.Nodup)(b:X.N[i]?=some x)(a:Loc X.env.scope x)(r:RelV v u)
 (h:∀s',Inv X pins (σ.set i (some v)) H s'->Q () s')(c:X.fn x=true\/X.env.scope.names.lookup x=some .local:=by first|exact .inl rfl|exact .inr rfl|assumption):wpAny M A (storeName X.env x u) Q E s:=
 oW I d b a r (λs' e _=>h s' e) c
theorem Inv.HC{s':Shared}{ch:List Addr}(I:Inv X pins σ H s)(g:s'.os=s.os)(u:Un (frs X.stack) ch H H' s.heap s'.heap)(a:gv X.prog X.w H' s'.heap)(h:AllBare s'.gens)
 (d:∀b∈ch,(b∈X.ex\/X.s₀.heap.objs.size<=b)/\b≠X.env.locals/\(∀x c,X.env.cells.lookup x=some c->c≠b)/\∀p∈X.pn++pins,p.1≠b):Inv X pins σ H' s':=by
 obtain⟨h',g',d',t',f⟩:=s';have e:f=s.os:=g;subst e;exact I.call (g':=g') (t':=t') (d':=d') u a h d
end
abbrev XK:=Value->Option Addr->Hp->Prop
abbrev St:=List (Option V)
abbrev VK:=V->Hp->Prop
abbrev TE:=St->Hp->VK->Prop
abbrev TT:=St->Hp->(Bool->Hp->Prop)->Prop
abbrev TA:=St->Hp->(List V->Hp->Prop)->Prop
set_option genInjectivity false in
set_option genSizeOf false in
structure Ends where
 nx:St->Hp->Prop
 rt:VK
 bk:St->Hp->Prop:=λ_ _=>False
 ct:St->Hp->Prop:=λ_ _=>False
abbrev TS:=Ends->St->Hp->Prop
noncomputable def EP(X:Cx)(a:List (Addr×Obj))(c:St)(Q:VK)(u:Value)(s':Shared):Prop:=∃v b,Inv X a c b s'/\RelV v u/\Q v b
noncomputable def TP(X:Cx)(a:List (Addr×Obj))(d:St)(Q:Bool->Hp->Prop)(b:Bool)(s':Shared):Prop:=∃c,Inv X a d c s'/\Q b c
noncomputable def AP(X:Cx)(a:List (Addr×Obj))(d:St)(Q:List V->Hp->Prop)(us:List Value)(s':Shared):Prop:=∃b c,Inv X a d c s'/\Vals b us/\Q b c
noncomputable def SP(X:Cx)(b:List (Addr×Obj))(D:Ends)(f:Flow)(s':Shared):Prop:=
 match f with
 |.next=>∃a c,Inv X b a c s'/\D.nx a c
 |.brk=>∃a c,Inv X b a c s'/\D.bk a c
 |.cont=>∃a c,Inv X b a c s'/\D.ct a c
 |.ret u=>∃v a c,Inv X b a c s'/\RelV v u/\D.rt v c
noncomputable def PE(X:Cx)(e:Expr)(t:TE):Prop:=
 ∀(a:List (Addr×Obj))(s:Shared)(b:St)(H:Hp)(Q:VK),Inv X a b H s->t b H Q->wpAny (model X.prog X.w) X.A (eval e X.env) (EP X a b Q) X.xe s
noncomputable def PT(X:Cx)(e:Expr)(t:TT):Prop:=
 ∀(a:List (Addr×Obj))(s:Shared)(b:St)(H:Hp)(Q:Bool->Hp->Prop),Inv X a b H s->t b H Q->wpAny (model X.prog X.w) X.A (isTrue e X.env (eval e X.env)) (TP X a b Q) X.xe s
noncomputable def PW(X:Cx)(e:Expr)(t:TT):Prop:=
 ∀(b:Sem Value)(a:List (Addr×Obj))(s:Shared)(c:St)(H:Hp)(Q:Bool->Hp->Prop),Inv X a c H s->t c H Q->wpAny (model X.prog X.w) X.A (isTrue e X.env b) (TP X a c Q) X.xe s
theorem PW.pt{X:Cx}{e:Expr}{t:TT}(h:PW X e t):PT X e t:=h _
noncomputable def PA(X:Cx)(es:List Expr)(t:TA):Prop:=
 ∀(c:Pos)(a:List (Addr×Obj))(s:Shared)(b:St)(H:Hp)(Q:List V->Hp->Prop),Inv X a b H s->t b H Q->wpAny (model X.prog X.w) X.A (spliced (backTo c (starEach es X.env))) (AP X a b Q) X.xe s
noncomputable def PS(X:Cx)(st:Stmt)(t:TS):Prop:=
 ∀(a:List (Addr×Obj))(s:Shared)(b:St)(H:Hp)(D:Ends),Inv X a b H s->t D b H->wpAny (model X.prog X.w) X.A (exec st X.env) (SP X a D) X.xe s
noncomputable def rP(X:Cx)(st:List Stmt)(t:TS):Prop:=
 ∀(a:List (Addr×Obj))(s:Shared)(b:St)(H:Hp)(D:Ends),Inv X a b H s->t D b H->wpAny (model X.prog X.w) X.A (execs st X.env) (SP X a D) X.xe s
theorem bC{α:Type}{t:Sem α}{Q b:α->Shared->Prop}{M:Model}{A:Around}{E:Value->Shared->Prop}{s:Shared}(h:wpAny M A t Q E s)(c:∀a s,Q a s->b a s):wpAny M A t b E s:=PP h c λ_ _ x=>x
section
variable{X:Cx}
theorem bin{a b:Expr}{ta j:TE}(r:PE X a ta)(q:PE X b j){c:List (Addr×Obj)}{s:Shared}{d:St}{H:Hp}{R:V->V->Hp->Prop}(I:Inv X c d H s)(h:ta d H λx H1=>j d H1 λy e=>R x y e)
 {α:Type}{Q:α->Shared->Prop}{f:Value->Value->Sem α}
 (p:∀v u s2 x y e,Inv X c d e s2->RelV x v->RelV y u->R x y e->wpAny (model X.prog X.w) X.A (f v u) Q X.xe s2):
 wpAny (model X.prog X.w) X.A (eval a X.env) (λv i=>wpAny (model X.prog X.w) X.A (eval b X.env) (λu g=>wpAny (model X.prog X.w) X.A (f v u) Q X.xe g) X.xe i) X.xe s:=by
 refine bC (r c s d H _ I h) λv k ⟨x,H1,z,m,o⟩=>?_;refine bC (q c k d H1 _ z o) λu s2 ⟨y,e,t,l,n⟩=>?_;exact p v u s2 x y e t m l n
noncomputable def jc(i:Nat):TE:=λa H Q=>∃v,a[i]?=some (some v)/\Q v H
noncomputable def tC(v:V):TE:=λ_ H Q=>Q v H
theorem Af{i:Nat}{x:Str}{pos:Pos}(t:X.N[i]?=some x)(n:NI X.env.scope x)(hd:(x==("__debug__":Str))=false:=by decide)(g:(x==("__classdict__":Str))=false:=by decide):PE X (.Name x pos) (jc i):=by
 intro f s k H Q I h;obtain⟨v,e,h⟩:=h;obtain⟨m,o,q⟩:=I.loc;obtain⟨u,r,l⟩:=q i x v t e n;have d:EP X f k Q u s:=⟨v,H,I,r,h⟩;rcases l with⟨b,p⟩|⟨b,c,j,a⟩
 .exact wpAny_Name (wpAny_loadName_local I.ok.kind b o p d) hd
 .rcases b with b|b
  .exact wpAny_Name (wpAny_loadName_cell I.ok.kind b j a d) hd
  .exact wpAny_Name (wpAny_loadName_free I.ok.kind b j a d g) hd
theorem l8{i j pos}:PE X (.Constant (.int i) j pos) (tC (.int i)):=λ_ _ _ H _ I h=>wpAny_Constant_int ⟨.int i,H,I.tok _,⟨_,rfl⟩,h⟩
theorem NN{b j pos}:PE X (.Constant (.bool b) j pos) (tC (.bl b)):=λ_ _ _ H _ I h=>Constant_bool ⟨.bl b,H,I,rfl,h⟩
theorem Ja{j pos}:PE X (.Constant .none j pos) (tC .aI):=λ_ _ _ H _ I h=>Constant_none ⟨.aI,H,I,rfl,h⟩
theorem Ag{x j pos}:PE X (.Constant (.str x) j pos) (tC (.str x)):=λ_ _ _ H _ I h=>Calls.Constant_str ⟨.str x,H,I.tok _,⟨_,rfl⟩,h⟩
noncomputable def Gl(X:Cx)(x:Str):Prop:=X.env.kindOf x=some .globalImplicit
theorem qb{E:Value->Shared->Prop}{a:List (Addr×Obj)}{s:Shared}{b:St}{H:Hp}{x:Str}{u:Value}{pos:Pos}{Q:Value->Shared->Prop}(I:Inv X a b H s)(d:Gl X x)(c:X.mg x=some u)(h:Q u s)
 (hd:(x==("__debug__":Str))=false:=by decide):wpAny (model X.prog X.w) X.A (eval (.Name x pos) X.env) Q E s:=
 Calls.Name_function_global I.ok.kind d (Calls.loadGlobal_global (by rw[I.ok.glob];exact I.mod.glob.keeps I.bk) c h) hd
theorem jP{E:Value->Shared->Prop}{a:List (Addr×Obj)}{s:Shared}{b:St}{H:Hp}{x:Str}{u:Value}{pos:Pos}{Q:Value->Shared->Prop}(I:Inv X a b H s)(f:Gl X x)(e:X.mg x=none)(c:bootBuiltins x=some u)(h:Q u s)
 (d:x≠"__name__":=by decide)(hd:(x==("__debug__":Str))=false:=by decide):wpAny (model X.prog X.w) X.A (eval (.Name x pos) X.env) Q E s:=by
 obtain⟨j,i,g⟩:=I.mod.blt;exact Calls.Name_function_global I.ok.kind f (Calls.loadGlobal_builtin (by rw[I.ok.glob];exact I.mod.glob.keeps I.bk) e (by rw[I.ok.blt];exact i.keeps I.bk) ((g x d).trans c) h) hd
theorem Ds{x:Str}{v:V}{u:Value}{pos:Pos}(b:Gl X x)(a:X.mg x=some u)(r:RelV v u)(hd:(x==("__debug__":Str))=false:=by decide):PE X (.Name x pos) (tC v):=
 λ_ _ _ H _ I h=>qb I b a ⟨v,H,I,r,h⟩ hd
theorem Du{x:Str}{v:V}{u:Value}{pos:Pos}(d:Gl X x)(c:X.mg x=none)(a:bootBuiltins x=some u)(r:RelV v u)(b:x≠"__name__":=by decide)(hd:(x==("__debug__":Str))=false:=by decide):PE X (.Name x pos) (tC v):=
 λ_ _ _ H _ I h=>jP I d c a ⟨v,H,I,r,h⟩ b hd
variable{a b:Expr}{ta tb:TE}{pos:Pos}
noncomputable def tB(t:TE):TT:=λd H Q=>t d H λx e=>∃c,x=.bl c/\Q c e
theorem Ah{e:Expr}{t:TE}(h:PE X e t)(he:∀c,isTrue e X.env c=(do let v<-c;standAt e.pos;holding [v] (truthy v)):=by intro _;rfl):PT X e (tB t):=by intro f s g H Q I k;refine isTrue_plain (bC (h f s g H _ I k) λv n ⟨x,m,l,i,j⟩=>?_) (he _);obtain⟨d,rfl,q⟩:=j;cases i;exact QP ⟨m,l,q⟩
variable{tA QN:TT}{rest:List Expr}
noncomputable def Rt(t u:TT):TT:=λd H Q=>t d H λc e=>if c=true then u d e Q else Q false e
noncomputable def Vl(t u:TT):TT:=λd H Q=>t d H λc e=>if c=true then Q true e else u d e Q
noncomputable def Ru(t:TT):TT:=λd H Q=>t d H λc e=>Q (!c) e
theorem vV(g:PT X a tA):PW X (.BoolOp .And [a] pos) tA:=by
 intro i d s f H Q I h;refine isTrue_and (bC (g d s f H Q I h) λc j e=>?_);cases c with
 |true=>exact isTrue_and_nil e
 |false=>exact e
theorem Ai(g:PT X a tA):PW X (.BoolOp .Or [a] pos) tA:=by
 intro i d s f H Q I h;refine isTrue_or (bC (g d s f H Q I h) λc j e=>?_);cases c with
 |false=>exact isTrue_or_nil e
 |true=>exact e
theorem Aj(m:PT X a tA)(l:PW X (.BoolOp .And (b::rest) pos) QN):PW X (.BoolOp .And (a::b::rest) pos) (Rt tA QN):=by
 intro j d s e H Q I h;refine isTrue_and (bC (m d s e H _ I h) λc k ⟨i,g,f⟩=>?_);cases c with
 |true=>exact l j d k e i Q g f
 |false=>exact⟨i,g,f⟩
theorem HD(m:PT X a tA)(l:PW X (.BoolOp .Or (b::rest) pos) QN):PW X (.BoolOp .Or (a::b::rest) pos) (Vl tA QN):=by
 intro j d s e H Q I h;refine isTrue_or (bC (m d s e H _ I h) λc k ⟨i,g,f⟩=>?_);cases c with
 |true=>exact⟨i,g,f⟩
 |false=>exact l j d k e i Q g f
theorem Ak(f:PT X a tA):PT X (.UnaryOp .Not a pos) (Ru tA):=by intro d s e H Q I h;exact isTrue_not (f d s e H (λc g=>Q (!c) g) I h)
noncomputable def NO(ta tb:TE):TE:=λd H Q=>ta d H λx e=>∃c,x=.bl c/\if c=true then tb d e Q else Q (.bl false) e
noncomputable def Rv(ta tb:TE):TE:=λd H Q=>ta d H λx e=>∃c,x=.bl c/\if c=true then Q (.bl true) e else tb d e Q
noncomputable def NP(ta:TE):TE:=λd H Q=>ta d H λx e=>∃c,x=.bl c/\Q (.bl (!c)) e
theorem Al{op}{t:TE}(h:PE X a t):PE X (.BoolOp op [a] pos) t:=λc s d H Q I e=>BoolOp_one (h c s d H Q I e)
theorem Jb(m:PE X a ta)(l:PE X (.BoolOp .And (b::rest) pos) tb):PE X (.BoolOp .And (a::b::rest) pos) (NO ta tb):=by
 intro d s f H Q I h;refine BoolOp_and (bC (m d s f H _ I h) λv j ⟨x,i,g,k,e⟩=>?_);obtain⟨c,rfl,e⟩:=e;cases k;refine QP ?_;cases c with
 |true=>exact l d j f i Q g e
 |false=>exact⟨.bl false,i,g,rfl,e⟩
theorem NQ(m:PE X a ta)(l:PE X (.BoolOp .Or (b::rest) pos) tb):PE X (.BoolOp .Or (a::b::rest) pos) (Rv ta tb):=by
 intro d s f H Q I h;refine BoolOp_or (bC (m d s f H _ I h) λv j ⟨x,i,g,k,e⟩=>?_);obtain⟨c,rfl,e⟩:=e;cases k;refine QP ?_;cases c with
 |false=>exact l d j f i Q g e
 |true=>exact⟨.bl true,i,g,rfl,e⟩
theorem Jc(i:PE X a ta):PE X (.UnaryOp .Not a pos) (NP ta):=by intro d s f H Q I h;refine UnaryOp_ (bC (i d s f H _ I h) λv l ⟨x,k,j,g,e⟩=>?_);obtain⟨c,rfl,e⟩:=e;cases g;exact not_of (QP ⟨.bl (!c),k,j,rfl,e⟩)
end
noncomputable def iH(K:Frag)(H:Hp)(a:Addr)(xs:List V):Prop:=
 Rd H a (.lst xs)\/
  ∃(o:Obj)(b:Array Value)(n:Nat),K.lookup a=some o/\o.cls=.type "list"/\o.dict=none/\o.data=.seq b n/\b.size<=sizeLine/\Vals xs b.toList
noncomputable def iB(K:Frag)(H:Hp)(a:Addr)(xs:List V):Prop:=
 Rd H a (.tup xs)\/
  ∃(o:Obj)(b:Array Value)(n:Nat),K.lookup a=some o/\o.cls=.type "tuple"/\o.data=.seq b n/\b.size<=sizeLine/\Vals xs b.toList
noncomputable def Rw:Value->Option V
 |.none=>some .aI
 |.bool b=>some (.bl b)
 |.int i _=>some (.int i)
 |.str x _=>some (.str x)
 |.bytes b _=>some (.zL b)
 |.float b _=>some (.IV b)
 |.ref a=>some (.ref a)
 |.type n=>some (.ty n)
 |_=>none
theorem RelV.abs{x:V}{u:Value}(r:RelV x u):Rw u=some x:=by
 cases x with
 |aI=>cases r;rfl
 |bl _=>cases r;rfl
 |int _=>obtain⟨t,rfl⟩:=r;rfl
 |str _=>obtain⟨t,rfl⟩:=r;rfl
 |zL _=>obtain⟨t,rfl⟩:=r;rfl
 |IV _=>obtain⟨t,rfl⟩:=r;rfl
 |ref _=>cases r;rfl
 |ty _=>cases r;rfl
theorem RelV.inj{x y:V}{u:Value}(r:RelV x u)(q:RelV y u):x=y:=IR (r.abs.symm.trans q.abs)
theorem Vals.inj:∀{xs a:List V}{us:List Value},Vals xs us->Vals a us->xs=a
 |_,_,_,.nil,.nil=>rfl
 |_,_,_,.cons r t,.cons b t'=>by rw[r.inj b,Vals.inj t t']
section
variable{X:Cx}{pins:List (Addr×Obj)}{σ:St}{H:Hp}{s:Shared}{a:Addr}{xs ys:List V}
theorem iH.of{K:Frag}(h:H a=some (.lst xs)):iH K H a xs:=.inl (.inl h)
theorem iB.of{K:Frag}(h:H a=some (.tup xs)):iB K H a xs:=.inl (.inl h)
theorem Inv.list(I:Inv X pins σ H s)(h:iH X.K H a xs):∃its:List Value,Vals xs its/\PlainL s.heap a its.toArray/\xs.length<=sizeLine:=by
 rcases h with h|⟨o,its,n,c,d,hd,b,hz,r⟩
 .obtain⟨z,its,n,r,e⟩:=h.ok I.hok;exact⟨its,r,⟨_,n,e,rfl,rfl,rfl⟩,z⟩
 .refine⟨its.toList,r,⟨o,n,I.jO a o c,d,hd,by simpa using b⟩,?_⟩;have e:=r.length;simp only[Ar]at e;lia
theorem Inv.tuple(I:Inv X pins σ H s)(h:iB X.K H a xs):∃its:List Value,Vals xs its/\IsTup s.heap a its.toArray/\xs.length<=sizeLine:=by
 rcases h with h|⟨o,its,n,c,d,b,hz,r⟩
 .obtain⟨z,its,r,p⟩:=h.ok I.hok;exact⟨its,r,p,z⟩
 .refine⟨its.toList,r,⟨o,I.jO a o c,d,n,by simpa using b⟩,?_⟩;have e:=r.length;simp only[Ar]at e;lia
theorem Inv.Am(I:Inv X pins σ H s)(h:iH X.K H a xs)(h':iH X.K H a ys):xs=ys:=by
 obtain⟨c,r,⟨o,n,e,_,_,d⟩,_⟩:=I.list h;obtain⟨b,i,⟨j,k,f,_,_,g⟩,_⟩:=I.list h';rw[e]at f;cases f;rw[d]at g;injection g with d1 _;have:c=b:=by simpa using Kt Ut d1
 subst this;exact r.inj i
theorem Inv.x8(I:Inv X pins σ H s)(h:iB X.K H a xs)(h':iB X.K H a ys):xs=ys:=by
 obtain⟨c,r,⟨o,e,_,n,d⟩,_⟩:=I.tuple h;obtain⟨b,i,⟨j,f,_,k,g⟩,_⟩:=I.tuple h';rw[e]at f;cases f;rw[d]at g;injection g with d1 _;have:c=b:=by simpa using Kt Ut d1
 subst this;exact r.inj i
end
abbrev Cx.om(X:Cx)(E:Value->Shared->Prop):Cx:={X with xe:=E}
abbrev Cx.kI(X:Cx):Cx:=X.om λ_ _=>False
theorem Cx.Ok.om{X:Cx}(a:X.Ok)(E:Value->Shared->Prop):(X.om E).Ok:=
 ⟨a.mod,a.kind,a.glob,a.blt,a.above,a.inj,a.has,a.NJ,a.hd,a.frames,a.stk,a.Ro,a.bs,a.Dq,a.Ad,a.Ae,a.kW,a.IZ,a.tree,a.QL⟩
theorem Cx.Ok.gy{X:Cx}{E:Value->Shared->Prop}(a:(X.om E).Ok):X.Ok:=
 ⟨a.mod,a.kind,a.glob,a.blt,a.above,a.inj,a.has,a.NJ,a.hd,a.frames,a.stk,a.Ro,a.bs,a.Dq,a.Ad,a.Ae,a.kW,a.IZ,a.tree,a.QL⟩
section
variable{X:Cx}{pins:List (Addr×Obj)}{σ:St}{H:Hp}{s:Shared}{E:Value->Shared->Prop}
theorem Inv.om(I:Inv X pins σ H s)(E:Value->Shared->Prop):Inv (X.om E) pins σ H s:=⟨I.ok.om E,I.os,I.bare,I.base,I.loc,I.cell,I.free,I.gx,I.pin,I.hok,I.len⟩
theorem Inv.gy(I:Inv (X.om E) pins σ H s):Inv X pins σ H s:=⟨I.ok.gy,I.os,I.bare,I.base,I.loc,I.cell,I.free,I.gx,I.pin,I.hok,I.len⟩
theorem SP.gy{D:Ends}{f:Flow}{s':Shared}(h:SP (X.om E) pins D f s'):SP X pins D f s':=by
 cases f with
 |next=>obtain⟨a,b,I,q⟩:=h;exact⟨a,b,I.gy,q⟩
 |brk=>obtain⟨a,b,I,q⟩:=h;exact⟨a,b,I.gy,q⟩
 |cont=>obtain⟨a,b,I,q⟩:=h;exact⟨a,b,I.gy,q⟩
 |ret u=>obtain⟨v,a,b,I,r,q⟩:=h;exact⟨v,a,b,I.gy,r,q⟩
end
section
variable{X:Cx}{st:Stmt}{rest:List Stmt}{t u:TS}{e:Expr}{te:TE}{pos:Pos}
noncomputable def NR:TS:=λD a H=>D.nx a H
noncomputable def Rx(t u:TS):TS:=λD a H=>t {D with nx:=u D} a H
theorem Dv:rP X [] NR:=λ_ _ a H _ I h=>wpAny_execs_nil ⟨a,H,I,h⟩
theorem jd(i:PS X st t)(g:rP X rest u):rP X (st::rest) (Rx t u):=by
 intro a s c H D I h;refine wpAny_execs_cons (bC (i a s c H {D with nx:=u D} I h) λf d q=>?_);cases f with
 |next=>obtain⟨b,k,j,q⟩:=q;exact g a d b k D j q
 |ret v=>exact q
 |brk=>exact q
 |cont=>exact q
theorem qc(c:PS X st t):rP X [st] t:=by
 intro a s b H D I h;refine wpAny_execs_cons (bC (c a s b H D I h) λf d q=>?_);cases f with
 |next=>exact wpAny_execs_nil q
 |ret v=>exact q
 |brk=>exact q
 |cont=>exact q
noncomputable def Jd:TS:=λD a H=>D.bk a H
theorem An:PS X (.Break pos) Jd:=λ_ _ a H _ I h=>wpAny_Break ⟨a,H,I,h⟩
theorem Inv.quiet{a:List (Addr×Obj)}{b:St}{H:Hp}{s:Shared}(I:Inv X a b H s):interactive X.env=false:=by simp[interactive,I.ok.kind]
noncomputable def mh(te:TE):TS:=λD a H=>te a H λ_ b=>D.nx a b
theorem gM(he:PE X e te)(d:swapsWith e none pos.line X.env=pure false:=by rfl):PS X (.Expr e pos) (mh te):=by intro a s b H D I h;exact wpAny_Expr_any (bC (he a s b H _ I h) λv i ⟨x,g,f,j,c⟩=>⟨b,g,f,c⟩) I.quiet d
noncomputable def Ry(te:TE):TS:=λD a H=>te a H D.rt
theorem mj(he:PE X e te):PS X (.Return (some e) pos) (Ry te):=by intro a s b H D I h;exact wpAny_Return_some (bC (he a s b H _ I h) λv i ⟨x,g,f,c,d⟩=>⟨x,b,g,f,c,d⟩)
noncomputable def NS:TS:=λD _ H=>D.rt .aI H
theorem vW:PS X (.Return none pos) NS:=λ_ _ a H _ I h=>wpAny_Return_none ⟨.aI,a,H,I,rfl,h⟩
noncomputable def RA(c:TT)(t u:TS):TS:=λD a H=>c a H λb d=>if b=true then t D a d else u D a d
theorem HE{c:Expr}{a b:List Stmt}{tc:TT}(m:PT X c tc)(o:rP X a t)(n:rP X b u):PS X (.If c a b pos) (RA tc t u):=by
 intro f s g H D I h;refine wpAny_If (bC (m f s g H _ I h) λd i ⟨l,k,j⟩=>?_);cases d with
 |true=>exact o f i g l D k j
 |false=>exact n f i g l D k j
end
abbrev TG:=V->St->Hp->(St->Hp->Prop)->Prop
abbrev HF:=List V->St->Hp->(St->Hp->Prop)->Prop
noncomputable def PG(X:Cx)(a:Expr)(t:TG):Prop:=
 ∀(b:List (Addr×Obj))(s:Shared)(d:St)(H:Hp)(v:V)(u:Value)(Q:St->Hp->Prop),Inv X b d H s->RelV v u->t v d H Q->
  wpAny (model X.prog X.w) X.A (assign a X.env u) (λ_ f=>∃c e,Inv X b c e f/\Q c e) X.xe s
noncomputable def NT(X:Cx)(g:List Expr)(t:HF):Prop:=
 ∀(a:List (Addr×Obj))(s:Shared)(c:St)(H:Hp)(d:List V)(e:List Value)(Q:St->Hp->Prop),Inv X a c H s->Vals d e->t d c H Q->
  wpAny (model X.prog X.w) X.A (assignInOrder ((assignEach g X.env).map (·.2)) e) (λ_ h=>∃b f,Inv X a b f h/\Q b f) X.xe s
abbrev Je:=V->V->V->Hp->(Hp->Prop)->Prop
noncomputable def NU(X:Cx)(t:Je):Prop:=
 ∀(a:List (Addr×Obj))(s:Shared)(b:St)(H:Hp)(o i v:V)(c d u:Value)(Q:Hp->Prop),Inv X a b H s->RelV o c->RelV i d->RelV v u->t o i v H Q->
  wpAny (model X.prog X.w) X.A (setItem c d u) (λ_ f=>∃e,Inv X a b e f/\Q e) X.xe s
section
variable{X:Cx}{pos:Pos}
noncomputable def fD(i:Nat):TG:=λv a H Q=>Q (a.set i (some v)) H
theorem Dw{i:Nat}{x:Str}(e:X.N.Nodup)(c:X.N[i]?=some x)(b:Loc X.env.scope x)(d:X.fn x=true\/X.env.scope.names.lookup x=some .local:=by first|exact .inl rfl|exact .inr rfl|assumption):PG X (.Name x pos) (fD i):=by intro a s g H v u Q I r h;exact wpAny_assign_Name (dD I e c b r (λj f=>⟨_,H,f,h⟩) d)
noncomputable def NV:HF:=λb a H Q=>b=[]/\Q a H
noncomputable def HG(t:TG)(u:HF):HF:=λc b H Q=>∃v r,c=v::r/\t v b H λa d=>u r a d Q
theorem Dy:NT X [] NV:=by intro a s b H c d Q I r h;obtain⟨e,h⟩:=h;subst e;cases r;exact assignInOrder_nil ⟨b,H,I,h⟩
theorem Ao{e:Expr}{es:List Expr}{t:TG}{u:HF}(k:PG X e t)(j:NT X es u)
 (i:(assignEach (e::es) X.env).map (·.2)=assign e X.env::(assignEach es X.env).map (·.2):=by rfl):NT X (e::es) (HG t u):=by
 intro a s c H o q Q I r h;obtain⟨v,p,l,h⟩:=h;subst l;cases r with
 |cons r f=>rw[i];refine X2 (bC (k a s c H _ _ _ I r h) λ_ d ⟨b,n,m,g⟩=>?_);exact j a d b n _ _ Q m f g
noncomputable def Jf(K:Frag)(n:Nat)(t:HF):TG:=λv c H Q=>∃a b,v=.ref a/\iB K H a b/\b.length=n/\t b c H Q
theorem Jg{es:List Expr}{k:Nat}{t:HF}{n:Nat}(x:X.calm=true)(h:NT X es t)
 (q:(assignEach es X.env).length=n:=by rfl)(f:(assignEach es X.env).findIdx? (·.1)=none:=by rfl):PG X (.Tuple es k pos) (Jf X.K n t):=by
 intro c s g H v u Q I r d;obtain⟨a,i,z,p,w,d⟩:=d;subst z;cases r;obtain⟨j,rv,m,hz⟩:=I.tuple p;refine assign_Tuple_tuple (I.ok.hd x) m (by simp[q,<-w,rv.length]) f λy l=>?_;have A:Inv X c g H {s with heap:=y}:=I.kept (t':=s.toks) λb o e=>l b o (HI (FR e)) e;exact h c _ g H i _ Q A (by simpa using rv) d
noncomputable def NW(b ti:TE)(t:Je):TG:=λv a H Q=>b a H λo e=>ti a e λi d=>t o i v d λc=>Q a c
theorem Jh{o i:Expr}{e ti:TE}{t:Je}(p:PE X o e)(q:PE X i ti)(n:NU X t)
 (w:∀v,assign (.Subscript o i pos) X.env v=(do
   let b<-holding [v] (eval o X.env)
   let c<-holding [v,b] (eval i X.env)
   standAt pos
   holding [v,b,c] (setItem b c v)
   release [v,b,c] []):=by intro _;rfl):PG X (.Subscript o i pos) (NW e ti t):=by
 intro a s d H v u Q I r h;rw[w];refine AN (Sr (bC (p a s d H _ I h) λb f ⟨x,E,B,j,m⟩=>?_));refine AN (Sr (bC (q a f d E _ B m) λc s2 ⟨y,D,A,g,l⟩=>?_));refine AN (YS (AN (Sr (bC (n a s2 d D x y v b c u _ A j g r l) λ_ s3 ⟨C,z,k⟩=>?_))));exact wpAny_release ⟨d,C,z,k⟩
noncomputable def mq(te:TE)(g:TG):TS:=λD a H=>te a H λx b=>g x a b D.nx
theorem Aq{tg e:Expr}{te:TE}{g:TG}(he:PE X e te)(k:PG X tg g)(j:swapsWithSole [tg] e pos.line X.env=pure false:=by rfl)(i:swappedStores [tg] e X.env=pure none:=by rfl)
 (l:(assignEach [tg] X.env).map (·.2)=[assign tg X.env]:=by rfl):PS X (.Assign [tg] e pos) (mq te g):=by
 intro a s b H D I h;refine wpAny_Assign_stores (bC (he a s b H _ I h) λv c ⟨x,n,m,d,f⟩=>?_) j i;rw[l];exact bC (k a c b n x v _ m d f) λ_ s2 q=>q
theorem qd{i:Nat}{x:Str}{e:Expr}{te:TE}{a:Pos}(m:X.N.Nodup)(k:X.N[i]?=some x)(g:Loc X.env.scope x)(he:PE X e te)(j:swapsWith e (some (.Name x a)) pos.line X.env=pure false:=by rfl)(l:X.fn x=true\/X.env.scope.names.lookup x=some .local:=by first|exact .inl rfl|exact .inr rfl|assumption):
 PS X (.Assign [.Name x a] e pos) (mq te (fD i)):=by
 intro b s c H D I h;refine wpAny_Assign_Name (bC (he b s c H _ I h) λv q ⟨y,p,o,d,f⟩=>?_) j;exact dD o m k g d (λs2 n=>⟨_,p,n,f⟩) l
noncomputable def RB(i j:Nat)(ta:TA):TS:=λD a H=>ta a H λb c=>∃v w,b=[v,w]/\D.nx ((a.set i (some v)).set j (some w)) c
theorem Ji{i j:Nat}{x y:Str}{a b:Expr}{ta:TA}{n m r:Pos}{t k2 B}(Y:X.calm=true)(J:X.N.Nodup)(U:X.N[i]?=some x)(T:X.N[j]?=some y)(z:i≠j)
 (F:X.env.scope.names.lookup x=some .local)(E:X.env.scope.names.lookup y=some .local)(Z:PA X [a,b] ta)
 (R:swappedStores [.Tuple [.Name x n,.Name y m] t r] (.Tuple [a,b] k2 B) X.env=pure (some [x,y]))
 (S:swapsWithSole [.Tuple [.Name x n,.Name y m] t r] (.Tuple [a,b] k2 B) pos.line X.env=pure false:=by rfl):
 PS X (.Assign [.Tuple [.Name x n,.Name y m] t r] (.Tuple [a,b] k2 B) pos) (RB i j ta):=by
 intro c s C H D I h;rw[exec_Assign_arm];refine AN (YS ?_);rw[S];refine AN (BM ?_);rw[Da (by decide)];refine AN (Tuple_ (bC (Z _ c s C H _ I h) λM g ⟨vs,L,I1,O,l⟩=>?_));obtain⟨v,w,e1,l⟩:=l;subst e1;obtain⟨f,d,rfl,rv,k⟩:∃f d,M=[f,d]/\RelV v f/\RelV w d:=by
  cases O with
  |cons p q=>
   cases q with
   |cons Q P=>
    cases P;exact⟨_,_,rfl,p,Q⟩
 refine Nw ?_ (by show 2<=sizeLine;decide);have I2:Inv X c C L {g with heap:=g.heap.push {cls:=.type "tuple",data:=.seq [f,d].toArray}}:=I1.kept (t':=g.toks) λb o e=>Bi _ e;rw[R];refine AN (BM ?_);show wpAny (model X.prog X.w) X.A (do rule "assign.swapped-stores";let items<-unpackItems (.ref g.heap.objs.size) 2 none;assignInOrder [λv=>bindName X.env y v,λv=>bindName X.env x v] items.reverse;pure Flow.next) _ _ _;refine AN (wpAny_rule (AN (unpackItems_tuple (items:= #[f,d]) (I.ok.hd Y) (IsTup.new g.heap _) λh' u=>?_)));have I3:=I2.kept (h':=h') (t':=g.toks) λb o e=>u b o (HI (FR e)) e;show wpAny _ _ (assignInOrder [λv=>bindName X.env y v,λv=>bindName X.env x v] [d,f]>>=λ_=>pure Flow.next) _ _ _;refine AN (X2 (YH (dD I3 J T (.inl E) k (λs2 I4=>?_) (.inr E))));refine X2 (YH (dD I4 J U (.inl F) rv (λs3 K=>assignInOrder_nil (BM ?_)) (.inr F)));rw[MG _ _ (Ki z)]at K;exact⟨_,L,K,l⟩
noncomputable def Jj(c:TT)(h:TS):TS:=λD a H=>∃W:Nat->St->Hp->Prop,(∃m,W m a H)/\∀m a H,W m a H->
 c a H λb f=>if b=true then∃N:St->Hp->Prop,(∀d g,N d g->∃e,e<m/\W e d g)/\h {D with nx:=N,ct:=N,bk:=D.nx} a f else D.nx a f
theorem rQ{c:Expr}{g:List Stmt}{tc:TT}{u:TS}(x:PassesOwn (model X.prog X.w) X.A X.env X.xe)(P:PT X c tc)(Q:rP X g u):PS X (.While c g [] pos) (Jj tc u):=by
 intro d s F H D I h;obtain⟨W,⟨O,K⟩,j⟩:=h;refine wpAny_While (codeAny_whileLoop (λn M=>∃i E,Inv X d i E M/\W n i E) ?_ O ⟨F,H,I,K⟩);rintro n L ⟨e,C,R,J⟩;refine Ts x (bC (P d L e C _ R (j n e C J)) λb s2 ⟨B,z,m⟩=>?_);cases b with
 |true=>
  obtain⟨N,y,m⟩:=m;rw[FM rfl];refine Ts x (bC (Q d s2 e B _ z m) λf s3 l=>?_);cases f with
  |next=>obtain⟨a,k,t,p⟩:=l;obtain⟨q,r,o⟩:=y a k p;exact⟨q,r,a,k,t,o⟩
  |cont=>obtain⟨a,k,t,p⟩:=l;obtain⟨q,r,o⟩:=y a k p;exact⟨q,r,a,k,t,o⟩
  |brk=>exact l
  |ret v=>exact l
 |false=>rw[Da Fh];exact wpAny_execs_nil ⟨e,B,z,m⟩
end
set_option genInjectivity false in
set_option genSizeOf false in
structure It where
 go:Nat->Hp->Prop
 NX:Nat->Hp->V->Hp->Prop
 stop:Nat->Hp->Prop
noncomputable def oq(X:Cx)(a:List (Addr×Obj))(H:Hp)(b:Addr):Prop:=
 H b=none/\b≠X.env.locals/\b∉X.fs/\(b∈X.ex\/X.s₀.heap.objs.size<=b)/\(∀x c,X.env.cells.lookup x=some c->c≠b)/\∀p∈X.pn++a,p.1≠b
theorem Inv.Dz{X:Cx}{a:List (Addr×Obj)}{f:St}{H H':Hp}{s:Shared}{b:Addr}(I:Inv X a f H s)(d:s.heap.objs.size<=b)(h:H' b=none):oq X a H' b:=by
 refine⟨h,Y5 (Fk I.lt d),I.Rp d,.inr (Gc I.sz d),λx c e z=>?_,λp g z=>?_⟩
 .obtain⟨v,q⟩:=I.cell x c e;exact absurd (Fk q.lt (by rw[z];exact d)) (Pi _)
 .exact absurd (Fk (FR (I.pin p g).1) (by rw[z];exact d)) (Pi _)
structure Turn(P:Program)(w:World)(K:Frag)(tg:Expr)(J:It)(fp:List Addr)(it:Addr)(tn:Nat->Heap->Prop):Prop where
 mem:it∈fp
 obj:∀i h,tn i h->∀b∈fp,∃o,h.get? b=some o/\∀v,o.data≠.cell v
 keep:∀i h h',tn i h->(∀b∈fp,∀o,h.get? b=some o->h'.get? b=some o)->tn i h'
 item:∀(X:Cx),X.prog=P->X.w=w->X.K=K->X.calm=true->∀(i:Nat)(pins:List (Addr×Obj))(s:Shared)(σ:St)(H:Hp)(E:Value->Shared->Prop),Inv X pins σ H s->(∀b∈fp,oq X pins H b)->tn i s.heap->J.go i H->
  wpAny (model P w) X.A (pyNext (.ref it)) (λr s1=>∃u,r=some u/\
   wpAny (model P w) X.A (letOwnedTupleGo tg (.ref it) u) (λ_ s2=>∃x H',Inv X pins σ H' s2/\RelV x u/\J.NX i H x H'/\tn (i+1) s2.heap/\∀b∈fp,H' b=none) E s1) E s
 done:∀(X:Cx),X.prog=P->X.w=w->X.K=K->X.calm=true->∀(i:Nat)(pins:List (Addr×Obj))(s:Shared)(σ:St)(H:Hp)(E:Value->Shared->Prop),Inv X pins σ H s->(∀b∈fp,oq X pins H b)->tn i s.heap->J.stop i H->
  wpAny (model P w) X.A (pyNext (.ref it)) (λr s1=>r=none/\Inv X pins σ H s1) E s
 self:∀(A:Around)(i:Nat)(s:Shared)(Q:Value->Shared->Prop)(E:Value->Shared->Prop),tn i s.heap->Q (.ref it) s->wpAny (model P w) A (pyIter (.ref it)) Q E s
abbrev TI:=St->Hp->(It->Hp->Prop)->Prop
noncomputable def RC(X:Cx)(a:List (Addr×Obj))(h:St)(tg:Expr)(R:It->Hp->Prop)(c:Value)(s2:Shared):Prop:=
 ∃(f:Addr)(g:List Addr)(e:Nat->Heap->Prop)(J:It)(d:Hp),c=.ref f/\Inv X a h d s2/\Turn X.prog X.w X.K tg J g f e/\e 0 s2.heap/\(∀b∈g,oq X a d b)/\R J d
noncomputable def PI(X:Cx)(tg b:Expr)(d:TI):Prop:=
 ∀(a:List (Addr×Obj))(s:Shared)(c:St)(H:Hp)(R:It->Hp->Prop),Inv X a c H s->d c H R->
  wpAny (model X.prog X.w) X.A (eval b X.env) (λv e=>wpAny (model X.prog X.w) X.A (pyIter v) (RC X a c tg R) X.xe e) X.xe s
theorem vX{M:Model}{A:Around}{E:Value->Shared->Prop}{s:Shared}{tg:Expr}{b:Addr}{u:Value}{o:Obj}{n:String}{vs:Array Value}{Q:Unit->Shared->Prop}(c:s.heap.get? b=some o)(e:o.cls=.type n)(hd:o.data=.fields vs)
 (d:["enumerate","zip","dict_itemiterator","dict_reverseitemiterator","odict_iterator","itertools.zip_longest","itertools.pairwise"].contains n=false)(a:Q () s):wpAny M A (letOwnedTupleGo tg (.ref b) u) Q E s:=by
 unfold letOwnedTupleGo;cases tg<;>first
  |exact BM a
  |(cases u<;>first
     |exact BM a
     |(refine AN (wpAny_load c ?_)
       rw[e,hd];show wpAny M A (if(["enumerate","zip","dict_itemiterator","dict_reverseitemiterator","odict_iterator","itertools.zip_longest","itertools.pairwise"].contains n&&vs[0]?==some (rawInt _))=true then _ else _) Q E s;rw[Da (by intro h;rw[d,Bool.false_and]at h;cases h)];exact BM a))
noncomputable def RD(K:Frag)(a:Addr):It:=
 ⟨λi H=>∃b x,iH K H a b/\b[i]?=some x,λi H x c=>c=H/\∀b,iH K H a b->b[i]?=some x,λi H=>∃b,iH K H a b/\b.length<=i⟩
noncomputable def RE(K:Frag)(a:Addr):It:=
 ⟨λi H=>∃b x,iB K H a b/\b[i]?=some x,λi H x c=>c=H/\∀b,iB K H a b->b[i]?=some x,λi H=>∃b,iB K H a b/\b.length<=i⟩
noncomputable def NY(a:Int)(n:Nat):It:=⟨λi _=>i<n,λi H x b=>b=H/\x=.int (a+i),λi _=>n<=i⟩
theorem x9{P:Program}{w:World}{K:Frag}{tg:Expr}(a j:Addr):Turn P w K tg (RD K a) [j] j (λi h=>h.IsListIter j a i)where
 mem:=by simp
 obj:=λi h f b l=>by
  have e:b=j:=by simpa using l
  subst e;obtain⟨o,e,c,d⟩:=f;exact⟨o,e,λv z=>by rw[d]at z;cases z⟩
 keep:=λi h r f k=>f.at λo e=>k j (by simp) o e
 item:=by intro X C A D Q i g s O H E I q f B;subst C A D;obtain⟨R,x,n,y⟩:=B;obtain⟨t,rv,p,hz⟩:=I.list n;obtain⟨u,Y,T⟩:=rv.get y;obtain⟨N,M,Z,L,J,F⟩:=q j (by simp);refine wpAny_pyNext_list_item f p.isList (x:=u) (by simpa using Y) λr m S=>?_;have I1:Inv X g O H {s with heap:=r}:=I.turned (t':=s.toks) (λb o l e=>(S.2 b l).trans e) N M L J F;obtain⟨o,e,c,d⟩:=id m;exact⟨u,rfl,vX (s:={s with heap:=r}) e c d (by decide) ⟨x,H,I1,T,⟨rfl,λys U=>by rw[I.Am U n];exact y⟩,m,λb l=>(q b l).1⟩⟩
 done:=by intro X C A D Q i g s O H E I q f B;subst C A D;obtain⟨R,n,y⟩:=B;obtain⟨t,rv,p,hz⟩:=I.list n;obtain⟨N,M,Z,L,J,F⟩:=q j (by simp);have hl:=rv.length;exact wpAny_pyNext_list_end (I.ok.hd Q) f p.isList (by simp;lia) λr eb=>⟨rfl,I.turned (t':=s.toks) (λb o l e=>eb b o l e) N M L J F⟩
 self:=λ_ _ _ _ _ f h=>wpAny_pyIter_listiter f h
theorem uw{P:Program}{w:World}{K:Frag}{tg:Expr}(a l:Addr):Turn P w K tg (RE K a) [l] l (λi h=>h.IsTupleIter l a i)where
 mem:=by simp
 obj:=λi h f b m=>by
  have e:b=l:=by simpa using m
  subst e;obtain⟨o,e,c,d⟩:=f;exact⟨o,e,λv z=>by rw[d]at z;cases z⟩
 keep:=λi h t f k=>f.at λo e=>k l (by simp) o e
 item:=by intro X C A D Q i g s O H E I r f B;subst C A D;obtain⟨R,x,q,y⟩:=B;obtain⟨j,rv,p,hz⟩:=I.tuple q;obtain⟨u,Y,T⟩:=rv.get y;obtain⟨N,M,Z,L,J,F⟩:=r l (by simp);refine wpAny_pyNext_tuple_item f (show s.heap.IsTuple a j.toArray from p) (x:=u) (by simpa using Y) λt n S=>?_;have I1:Inv X g O H {s with heap:=t}:=I.turned (t':=s.toks) (λb o m e=>(S.2 b m).trans e) N M L J F;obtain⟨o,e,c,d⟩:=id n;exact⟨u,rfl,vX (s:={s with heap:=t}) e c d (by decide) ⟨x,H,I1,T,⟨rfl,λys U=>by rw[I.x8 U q];exact y⟩,n,λb m=>(r b m).1⟩⟩
 done:=by intro X C A D Q i g s O H E I r f B;subst C A D;obtain⟨R,q,y⟩:=B;obtain⟨j,rv,p,hz⟩:=I.tuple q;obtain⟨N,M,Z,L,J,F⟩:=r l (by simp);have hl:=rv.length;exact wpAny_pyNext_tuple_end (I.ok.hd Q) f (show s.heap.IsTuple a j.toArray from p) (by simp;lia) λt eb=>⟨rfl,I.turned (t':=s.toks) (λb o m e=>eb b o m e) N M L J F⟩
 self:=λ_ _ _ _ _ f h=>wpAny_pyIter_tupleiter f h
theorem ux{P:Program}{w:World}{K:Frag}{tg:Expr}(d:Addr)(j:Int)(n:Nat):Turn P w K tg (NY j n) [d] d (λi h=>IsRangeIter h d (j+(i:Nat)*1) ((n:Int) -(i:Nat)) 1)where
 mem:=by simp
 obj:=λi h a b f=>by
  have e:b=d:=by simpa using f
  subst e;exact⟨_,a,λv z=>by have L:Data.fields _=Data.cell v:=z;cases L⟩
 keep:=λi h m a k=>k d (by simp) _ a
 item:=by intro X u p x r i c s F H E I l a q;subst u p x;obtain⟨D,C,O,B,A,y⟩:=l d (by simp);have W:=Walks.range (prog:=X.prog) (w:=X.w) (I.ok.hd r) d j 1 n;refine W.item i s _ _ q a λv m J N g M=>?_;obtain⟨t,rfl⟩:=N;have R:Inv X c F H {s with heap:=m,toks:=J}:=I.turned (λb o f e=>M b o (by simpa using f) e) D C B A y;refine⟨_,rfl,vX (s:={s with heap:=m,toks:=J}) (n:="range_iterator") g rfl rfl (by decide) ⟨.int (j+i),H,R,⟨t,?_⟩,⟨rfl,rfl⟩,g,λb f=>(l b f).1⟩⟩;rw[Vv]
 done:=by intro X u p x r i c s F H E I l a q;subst u p x;obtain⟨D,C,O,B,A,y⟩:=l d (by simp);exact wpAny_pyNext_range_end (I.ok.hd r) a (by have:n<=i:=q;lia) λm Q=>⟨rfl,I.turned (t':=s.toks) (λb o f e=>Q b o f e) D C B A y⟩
 self:=λ_ _ _ _ _ a h=>wpAny_pyIter_rangeiter a h
section
variable{X:Cx}{tg:Expr}
theorem rR{d:List (Addr×Obj)}{f:St}{H:Hp}{s:Shared}{R:It->Hp->Prop}{E:Value->Shared->Prop}{a c:Int}{t u v:Tok}{g:Nat}(I:Inv X d f H s)(m: -(2^62)<=a)(l:a<2^62)(k: -(2^62)<=c)(j:c<2^62)
 (q:R (NY a (c -a).toNat) H):wpAny (model X.prog X.w) X.A (pyIter (.ref s.heap.objs.size)) (RC X d f tg R) E {s with heap:=s.heap.push {cls:=.type "range",data:=.fields #[.int a t,.int c u,.int 1 v]},toks:=g}:=by
 refine wpAny_pyIter_range (IsRange.new ..) (small_one m l k j) ?_;have h:Inv X d f H {s with heap:=s.heap.push {cls:=.type "range",data:=.fields #[.int a t,.int c u,.int 1 v]},toks:=g}:=I.kept λb o e=>Bi _ e;refine⟨(s.heap.push {cls:=.type "range",data:=.fields #[.int a t,.int c u,.int 1 v]}).objs.size,[(s.heap.push {cls:=.type "range",data:=.fields #[.int a t,.int c u,.int 1 v]}).objs.size],_,_,H,rfl,
  h.kept (t':=g) λb o e=>Bi _ e,ux _ a (c -a).toNat,?_,λb i=>?_,q⟩
 .have p:a+((0:Nat):Int)*1=a:=by simp
  have n:(((c -a).toNat:Nat):Int) -((0:Nat):Int)=Builtin.Range.rangeSize a c 1:=by rw[rangeSize_one];split<;>lia
  show IsRangeIter _ _ (a+((0:Nat):Int)*1) ((((c -a).toNat:Nat):Int) -((0:Nat):Int)) 1;rw[p,n];exact Fu _ rfl
 .have e:b=(s.heap.push {cls:=.type "range",data:=.fields #[.int a t,.int c u,.int 1 v]}).objs.size:=by simpa using i
  subst e;exact h.Dz (Bz _) (h.hok.fresh (Bz _))
noncomputable def NZ(ta:TA):TI:=λa H R=>ta a H λb c=>∃j:Int,b=[.int j]/\-(2^62)<=j/\j<2^62/\R (NY 0 j.toNat) c
noncomputable def N4(ta:TA):TI:=λa H R=>ta a H λb c=>∃i j:Int,b=[.int i,.int j]/\(-(2^62)<=i/\i<2^62/\-(2^62)<=j/\j<2^62)/\R (NY i (j -i).toNat) c
theorem ya{a:Expr}{ta:TA}{p pos:Pos}(m:Gl X "range")(l:X.mg "range"=none)(n:PA X [a] ta)(k:starEach [a] X.env=[(false,eval a X.env)]:=by rfl):PI X tg (.Call (.Name "range" p) [a] [] pos) (NZ ta):=by
 intro b s d H R I h;refine Call_ (jP I m l boot_range (TK (bC (n pos b s d H _ I h) λv w ⟨u,x,o,g,c⟩=>?_) k rfl));obtain⟨j,e,c,i,q⟩:=c;subst e;cases g with
 |cons r f=>
  cases f;obtain⟨t,rfl⟩:=r;exact call_range_1 (rR o (by lia) (by lia) c i (by simpa using q))
theorem yb{a b:Expr}{ta:TA}{p pos:Pos}(x:Gl X "range")(w:X.mg "range"=none)(y:PA X [a,b] ta)(v:starEach [a,b] X.env=[(false,eval a X.env),(false,eval b X.env)]:=by rfl)(d:starEach [b] X.env=[(false,eval b X.env)]:=by rfl):
 PI X tg (.Call (.Name "range" p) [a,b] [] pos) (N4 ta):=by
 intro c s k H R I h;refine Call_ (jP I x w boot_range (TK (bC (y pos c s k H _ I h) λB D ⟨A,E,z,l,g⟩=>?_) (by rw[v,d]) (by rw[d];rfl)));obtain⟨i,j,e,⟨g,u,o,n⟩,q⟩:=g;subst e;cases l with
 |cons r f=>
  cases f with
  |cons m f=>
   cases f;obtain⟨t,rfl⟩:=r;obtain⟨C,rfl⟩:=m;exact call_range_2 (rR z g u o n q)
noncomputable def RG(f:TI)(g:TG)(h:TS):TS:=λD a H=>f a H λJ k=>∃W:Nat->Nat->St->Hp->Prop,(∃m,W 0 m a k)/\∀i m a H,W i m a H->
 (J.stop i H/\D.nx a H)\/(J.go i H/\∃N:St->Hp->Prop,(∀b c,N b c->∃e,e<m/\W (i+1) e b c)/\∀x c,J.NX i H x c->g x a c λd j=>h {D with nx:=N,ct:=N,bk:=D.nx} d j)
noncomputable def mw(a:List Addr)(h:Heap):List (Addr×Obj):=a.filterMap λb=>(h.get? b).map λo=>(b,o)
theorem fV{a:List Addr}{h:Heap}{b:Addr}{o:Obj}(c:b∈a)(e:h.get? b=some o):(b,o)∈mw a h:=MJ.mpr ⟨b,c,by rw[e];rfl⟩
theorem yc{a:List Addr}{h:Heap}{p:Addr×Obj}(c:p∈mw a h):p.1∈a/\h.get? p.1=some p.2:=by
 obtain⟨b,d,e⟩:=MJ.mp c;cases q:h.get? b with
 |none=>rw[q]at e;cases e
 |some o=>rw[q]at e;have f:(b,o)=p:=IR e;subst f;exact⟨d,q⟩
theorem Inv.pinned{a:List (Addr×Obj)}{f:St}{H:Hp}{s:Shared}{c:List Addr}(I:Inv X a f H s)(k:∀b∈c,oq X a H b)(j:∀b∈c,∃o,s.heap.get? b=some o/\∀v,o.data≠.cell v):Inv X (a++mw c s.heap) f H s:=
 I.vU λp i=>(FK.mp i).elim (λz=>I.pin p (FV _ z)) λz=>by obtain⟨g,e⟩:=yc z;obtain⟨n,m,l,_⟩:=k p.1 g;obtain⟨o,h,d⟩:=j p.1 g;rw[e]at h;cases h;exact⟨e,n,m,l,d⟩
theorem Inv.je{a pl:List (Addr×Obj)}{b:St}{H:Hp}{s:Shared}(I:Inv X (a++pl) b H s):Inv X a b H s:=I.vU λp c=>I.pin p (FV _ (He _ c))
theorem Jk{k:Expr}{C:List Stmt}{Z:TI}{g:TG}{tb:TS}{pos:Pos}(M:PassesOwn (model X.prog X.w) X.A X.env X.xe)(hc:X.calm=true)(hi:PI X tg k Z)(hg:PG X tg g)(l:rP X C tb)
 (hs:∀x,foldedSetIterable k X.env x=pure x:=by intro _;rfl):PS X (.For tg k C [] pos) (RG Z g tb):=by
 intro a s Y H D I h;refine wpAny_For (bC (hi a s Y H _ I h) λv s1 h1=>bC h1 λitv s2 h2=>?_) hs;obtain⟨it,O,tn,J,H2,e,I2,T,st2,f2,W,⟨m0,w0⟩,E⟩:=h2;subst e;have U:∀{z:Hp},(∀b∈O,z b=none)->∀b∈O,oq X a z b:=λhn b l=>⟨hn b l,(f2 b l).2⟩;refine codeAny_forLoop_any (λn s'=>∃i j z,Inv X a j z s'/\tn i s'.heap/\(∀b∈O,z b=none)/\W i n j z) ?_ m0 ⟨0,Y,H2,I2,st2,λb l=>(f2 b l).1,w0⟩;rintro n s3 ⟨i,c,P,I3,st3,Uk,w3⟩;rcases E i n c P w3 with⟨F,qn⟩|⟨go,N,hN,K⟩
 .refine Ts M (bC (T.done X rfl rfl rfl hc i a s3 c P X.xe I3 (U Uk) st3 F) λr s4 ⟨R,I4⟩=>?_);subst R;exact wpAny_execs_nil ⟨c,P,I4,qn⟩
 .refine Ts M (bC (T.item X rfl rfl rfl hc i a s3 c P X.xe I3 (U Uk) st3 go) λr s4 ⟨u,R,h4⟩=>?_);subst R;refine Ts M (bC h4 λ_ s5 ⟨x,H5,I5,r5,y5,S,QO⟩=>?_);have Vm:=I5.pinned (U QO) (T.obj _ _ S);refine Ts M (bC (hg _ s5 c H5 x u _ Vm r5 (K x H5 y5)) λ_ s6 ⟨Vn,H6,I6,q6⟩=>?_);refine Ts M (bC (l _ s6 Vn H6 _ I6 q6) λf Q B=>?_);have p:∀{y:St}{t:Hp},Inv X (a++mw O s5.heap) y t Q->N y t->∃m,m<n/\∃i j z,Inv X a j z Q/\tn i Q.heap/\(∀b∈O,z b=none)/\W i m j z:=λ{y t} q L=>by obtain⟨m',hm,w7⟩:=hN y t L;refine⟨m',hm,i+1,y,t,q.je,T.keep _ _ _ S λb l o e=>(q.pin (b,o) (FV _ (FV _ (fV l e)))).1,λb l=>?_,w7⟩;obtain⟨o,e,d⟩:=T.obj _ _ S b l;exact(q.pin (b,o) (FV _ (FV _ (fV l e)))).2.1
  cases f with
  |next=>obtain⟨y,t,q,L⟩:=B;exact p q L
  |cont=>obtain⟨y,t,q,L⟩:=B;exact p q L
  |brk=>obtain⟨y,t,q,B⟩:=B;exact⟨y,t,q.je,B⟩
  |ret v=>obtain⟨x7,y,t,q,r7,B⟩:=B;exact⟨x7,y,t,q.je,r7,B⟩
end
abbrev R2:=V->V->Hp->VK->Prop
noncomputable def i7(X:Cx)(f:Value->Value->Sem Value)(r:R2):Prop:=
 ∀(a:List (Addr×Obj))(s:Shared)(b:St)(H:Hp)(x y:V)(v u:Value)(Q:VK),Inv X a b H s->RelV x v->RelV y u->r x y H Q->
  wpAny (model X.prog X.w) X.A (f v u) (EP X a b Q) X.xe s
noncomputable def RH(X:Cx)(f:Value->Sem Value)(r:V->Hp->VK->Prop):Prop:=
 ∀(a:List (Addr×Obj))(s:Shared)(b:St)(H:Hp)(x:V)(v:Value)(Q:VK),Inv X a b H s->RelV x v->r x H Q->
  wpAny (model X.prog X.w) X.A (f v) (EP X a b Q) X.xe s
noncomputable def aZ(X:Cx)(f:Value)(r:List V->Hp->VK->Prop):Prop:=
 ∀(a:List (Addr×Obj))(s:Shared)(b:St)(H:Hp)(c:List V)(d:List Value)(Q:VK),Inv X a b H s->Vals c d->r c H Q->
  wpAny (model X.prog X.w) X.A (call f d) (EP X a b Q) X.xe s
noncomputable def Vo(r:R2)(ta b:TE):TE:=λa H Q=>ta a H λx d=>b a d λy c=>r x y c Q
noncomputable def Vp(r:V->Hp->VK->Prop)(ta:TE):TE:=λa H Q=>ta a H λx b=>r x b Q
noncomputable def rI(C:Int->Int->Prop)(g:Int->Int->V):R2:=λx y H Q=>∃i j,x=.int i/\y=.int j/\C i j/\Q (g i j) H
noncomputable def DA(g:Int->Int->V):R2:=λx y H Q=>∃i j,x=.int i/\y=.int j/\Q (g i j) H
noncomputable def rU(g:Int->V):V->Hp->VK->Prop:=λx H Q=>∃i,x=.int i/\Q (g i) H
section
variable{X:Cx}{a b c:Expr}{ta tb tc:TE}{pos:Pos}
theorem RI(r:PE X a ta)(q:PE X b tb){d:List (Addr×Obj)}{s:Shared}{e:St}{H:Hp}{R:V->V->Hp->Prop}(I:Inv X d e H s)
 (h:ta e H λx H1=>tb e H1 λy g=>R x y g){Q:Value->Shared->Prop}{f:Value->Value->Sem Value}
 (p:∀v u s2 x y g,Inv X d e g s2->RelV x v->RelV y u->R x y g->wpAny (model X.prog X.w) X.A (f v u) Q X.xe s2):
 wpAny (model X.prog X.w) X.A (eval a X.env) (λv j=>wpAny (model X.prog X.w) X.A (eval b X.env) (λu i=>wpAny (model X.prog X.w) X.A (f v u) Q X.xe i) X.xe j) X.xe s:=by
 refine bC (r d s e H _ I h) λv k ⟨x,H1,z,m,o⟩=>?_;refine bC (q d k e H1 _ z o) λu s2 ⟨y,g,t,l,n⟩=>?_;exact p v u s2 x y g t m l n
theorem N5{op:UnaryOp}{r:V->Hp->VK->Prop}(j:RH X (unaryOp op) r)(k:PE X a ta):PE X (.UnaryOp op a pos) (Vp r ta):=by intro d s e H Q I h;exact UnaryOp_ (bC (k d s e H _ I h) λv f ⟨x,m,l,g,i⟩=>j d f e m x v Q l g i)
theorem N6{f:Value->Value->Sem Value}{C:Int->Int->Prop}{g:Int->Int->Int}
 (d:∀(i j:Int)(t u:Tok)(s:Shared)(Q:Value->Shared->Prop)(E:Value->Shared->Prop),C i j->Q (.int (g i j) s.toks) {s with toks:=s.toks+1}->wpAny (model X.prog X.w) X.A (f (.int i t) (.int j u)) Q E s):
 i7 X f (rI C λi j=>.int (g i j)):=by
 intro e s o H x y v u Q I m l h;obtain⟨i,j,rfl,rfl,n,q⟩:=h;obtain⟨t,rfl⟩:=m;obtain⟨k,rfl⟩:=l;exact d i j t k s _ _ n ⟨.int (g i j),H,I.tok _,⟨_,rfl⟩,q⟩
theorem N7{f:Value->Value->Sem Value}{g:Int->Int->Int}
 (d:∀(i j:Int)(t u:Tok)(s:Shared)(Q:Value->Shared->Prop)(E:Value->Shared->Prop),Q (.int (g i j) s.toks) {s with toks:=s.toks+1}->wpAny (model X.prog X.w) X.A (f (.int i t) (.int j u)) Q E s):
 i7 X f (DA λi j=>.int (g i j)):=by
 intro e s n H x y v u Q I m l h;obtain⟨i,j,rfl,rfl,q⟩:=h;obtain⟨t,rfl⟩:=m;obtain⟨k,rfl⟩:=l;exact d i j t k s _ _ ⟨.int (g i j),H,I.tok _,⟨_,rfl⟩,q⟩
theorem DB{f:Value->Value->Sem Value}{g:Int->Int->Bool}
 (d:∀(i j:Int)(t u:Tok)(s:Shared)(Q:Value->Shared->Prop)(E:Value->Shared->Prop),Q (.bool (g i j)) s->wpAny (model X.prog X.w) X.A (f (.int i t) (.int j u)) Q E s):
 i7 X f (DA λi j=>.bl (g i j)):=by
 intro e s n H x y v u Q I m l h;obtain⟨i,j,rfl,rfl,q⟩:=h;obtain⟨t,rfl⟩:=m;obtain⟨k,rfl⟩:=l;exact d i j t k s _ _ ⟨.bl (g i j),H,I,rfl,q⟩
noncomputable def RJ(i j:Int):Prop:=0<j/\j<1073741824
noncomputable def uy(i j:Int):Prop:=0<=j/\j<=1000000/\i.natAbs<2^64
theorem uz(k:Nat):(0:Int)<=2^k:=by rw[two_pow_cast];exact Int.natCast_nonneg _
theorem Jm:i7 X (binaryOp .Add) (DA λi j=>.int (i+j)):=N7 λ_ _ _ _ _ _ _ q=>add_int q
theorem Jo:i7 X (binaryOp .Sub) (DA λi j=>.int (i -j)):=N7 λ_ _ _ _ _ _ _ q=>sub_int q
theorem DC:i7 X (binaryOp .Mod) (rI (λ_ j=>j≠0) λi j=>.int (i.fmod j)):=N6 λ_ _ _ _ _ _ _ d q=>mod_int' d q
theorem Jp:i7 X (binaryOp .Pow) (rI uy λi j=>.int (i^j.toNat)):=N6 λ_ _ _ _ _ _ _ d q=>pow_int_small d.1 d.2.1 d.2.2 q
theorem Jq:i7 X (binaryOp .LShift) (rI uy λi j=>.int (i*2^j.toNat)):=N6 λ_ _ _ _ _ _ _ d q=>lshift_int_small d.1 d.2.1 d.2.2 q
theorem Jr:i7 X (binaryOp .RShift) (rI (λ_ j=>0<=j) λi j=>.int (i/2^j.toNat)):=N6 λi j _ _ _ _ _ d q=>rshift_int d (by rw[YA i (uz _)];exact q)
theorem Vq{f:Value->Sem Value}{g:Int->Int}
 (d:∀(i:Int)(t:Tok)(s:Shared)(Q:Value->Shared->Prop)(E:Value->Shared->Prop),Q (.int (g i) s.toks) {s with toks:=s.toks+1}->wpAny (model X.prog X.w) X.A (f (.int i t)) Q E s):
 RH X f (rU λi=>.int (g i)):=by
 intro e s k H x v Q I j h;obtain⟨i,rfl,q⟩:=h;obtain⟨t,rfl⟩:=j;exact d i t s _ _ ⟨.int (g i),H,I.tok _,⟨_,rfl⟩,q⟩
theorem Js:RH X (unaryOp .USub) (rU λi=>.int (-i)):=Vq λ_ _ _ _ _ q=>neg_int q
end
noncomputable def Jt:V->V->Bool
 |.aI,.aI=>true|.aI,.int _=>true|.int _,.aI=>true|.aI,.bl _=>true|.bl _,.aI=>true|.aI,.str _=>true|.str _,.aI=>true
 |.int _,.int _=>true|.bl _,.bl _=>true|.str _,.str _=>true|.zL _,.zL _=>true
 |.int _,.str _=>true|.str _,.int _=>true|.bl _,.str _=>true|.str _,.bl _=>true
 |_,_=>false
noncomputable def Vr:R2:=λx y H Q=>Jt x y=true/\Q (.bl (decide (x=y))) H
noncomputable def Vs:R2:=λx y H Q=>Jt x y=true/\Q (.bl (!decide (x=y))) H
theorem vY{i j:Int}:decide (V.int i=V.int j)=(i==j):=by rw[T2];simp
theorem As{i j:Bool}:decide (V.bl i=V.bl j)=(i==j):=by rw[T2];simp
theorem vZ{i j:Str}:decide (V.str i=V.str j)=(i==j):=by rw[T2];simp
theorem v5{i j:Array UInt8}:decide (V.zL i=V.zL j)=(i.toList==j.toList):=by rw[T2];cases i;cases j;simp
section
variable{X:Cx}{a b c:Expr}{ta tb tc:TE}{pos:Pos}
theorem aK{d:List (Addr×Obj)}{f:St}{H:Hp}{s:Shared}{Q:VK}{k g:Bool}(I:Inv X d f H s)(q:Q (.bl k) H)(e:k=g):EP X d f Q (.bool g) s:=by subst e;exact⟨.bl k,H,I,rfl,q⟩
theorem N8:i7 X (compareOp .Eq) Vr:=by
 intro k s l H x y v u Q I g d h;obtain⟨f,q⟩:=h;cases x with
 |aI=>
  cases g;cases y with
  |aI=>cases d;exact PySem.EqNone.eq_none_none (aK I q (by simp))
  |bl j=>cases d;exact PySem.EqNone.eq_none_bool (aK I q (by simp))
  |int j=>obtain⟨e,rfl⟩:=d;exact PySem.EqNone.eq_none_int (aK I q (by simp))
  |str j=>obtain⟨e,rfl⟩:=d;exact PySem.EqNone.eq_none_str (aK I q (by simp))
  |_=>exact absurd (show false=true from f) Fh
 |bl i=>
  cases g;cases y with
  |aI=>cases d;exact PySem.EqNone.eq_bool_none (aK I q (by simp))
  |bl j=>cases d;exact eq_bool (aK I q As)
  |str j=>obtain⟨e,rfl⟩:=d;exact PySem.EqMixed.eq_bool_str (aK I q (by simp))
  |_=>exact absurd (show false=true from f) Fh
 |int i=>
  obtain⟨t,rfl⟩:=g;cases y with
  |aI=>cases d;exact PySem.EqNone.eq_int_none (aK I q (by simp))
  |int j=>obtain⟨e,rfl⟩:=d;exact eq_int (aK I q vY)
  |str j=>obtain⟨e,rfl⟩:=d;exact PySem.EqMixed.eq_int_str (aK I q (by simp))
  |_=>exact absurd (show false=true from f) Fh
 |str i=>
  obtain⟨t,rfl⟩:=g;cases y with
  |aI=>cases d;exact PySem.EqNone.eq_str_none (aK I q (by simp))
  |bl j=>cases d;exact PySem.EqMixed.eq_str_bool (aK I q (by simp))
  |int j=>obtain⟨e,rfl⟩:=d;exact PySem.EqMixed.eq_str_int (aK I q (by simp))
  |str j=>obtain⟨e,rfl⟩:=d;exact eq_str (aK I q vZ)
  |_=>exact absurd (show false=true from f) Fh
 |zL i=>
  obtain⟨t,rfl⟩:=g;cases y with
  |zL j=>obtain⟨e,rfl⟩:=d;exact PySem.W.eq_bytes (aK I q v5)
  |_=>exact absurd (show false=true from f) Fh
 |_=>cases y<;>exact absurd (show false=true from f) Fh
theorem N9:i7 X (compareOp .NotEq) Vs:=by
 intro k s l H x y v u Q I g d h;obtain⟨f,q⟩:=h;cases x with
 |aI=>
  cases g;cases y with
  |aI=>cases d;exact PySem.EqNone.ne_none_none (aK I q (by simp))
  |bl j=>cases d;exact PySem.EqNone.ne_none_bool (aK I q (by simp))
  |int j=>obtain⟨e,rfl⟩:=d;exact PySem.EqNone.ne_none_int (aK I q (by simp))
  |str j=>obtain⟨e,rfl⟩:=d;exact PySem.EqNone.ne_none_str (aK I q (by simp))
  |_=>exact absurd (show false=true from f) Fh
 |bl i=>
  cases g;cases y with
  |aI=>cases d;exact PySem.EqNone.ne_bool_none (aK I q (by simp))
  |bl j=>cases d;exact ne_bool (aK I q (Kt not As))
  |str j=>obtain⟨e,rfl⟩:=d;exact PySem.EqMixed.ne_bool_str (aK I q (by simp))
  |_=>exact absurd (show false=true from f) Fh
 |int i=>
  obtain⟨t,rfl⟩:=g;cases y with
  |aI=>cases d;exact PySem.EqNone.ne_int_none (aK I q (by simp))
  |int j=>obtain⟨e,rfl⟩:=d;exact ne_int (aK I q (Kt not vY))
  |str j=>obtain⟨e,rfl⟩:=d;exact PySem.EqMixed.ne_int_str (aK I q (by simp))
  |_=>exact absurd (show false=true from f) Fh
 |str i=>
  obtain⟨t,rfl⟩:=g;cases y with
  |aI=>cases d;exact PySem.EqNone.ne_str_none (aK I q (by simp))
  |bl j=>cases d;exact PySem.EqMixed.ne_str_bool (aK I q (by simp))
  |int j=>obtain⟨e,rfl⟩:=d;exact PySem.EqMixed.ne_str_int (aK I q (by simp))
  |str j=>obtain⟨e,rfl⟩:=d;exact ne_str (aK I q (Kt not vZ))
  |_=>exact absurd (show false=true from f) Fh
 |zL i=>
  obtain⟨t,rfl⟩:=g;cases y with
  |zL j=>obtain⟨e,rfl⟩:=d;exact PySem.W.ne_bytes (aK I q (Kt not v5))
  |_=>exact absurd (show false=true from f) Fh
 |_=>cases y<;>exact absurd (show false=true from f) Fh
theorem Oa:i7 X (compareOp .Lt) (DA λi j=>.bl (decide (i<j))):=DB λ_ _ _ _ _ _ _ q=>lt_int q
theorem Oc:i7 X (compareOp .LtE) (DA λi j=>.bl (decide (i<=j))):=DB λ_ _ _ _ _ _ _ q=>le_int q
theorem Od:i7 X (compareOp .Gt) (DA λi j=>.bl (decide (j<i))):=DB λ_ _ _ _ _ _ _ q=>gt_int q
theorem Oe:i7 X (compareOp .GtE) (DA λi j=>.bl (decide (j<=i))):=DB λ_ _ _ _ _ _ _ q=>ge_int q
theorem yd:i7 X (compareOp .In) (λx y H Q=>∃i j,x=.str i/\y=.str j/\Q (.bl (!(Builtin.Str.occurrences j i 0 j.length 1).isEmpty)) H):=by intro d s g H x y v u Q I f e h;obtain⟨i,j,rfl,rfl,q⟩:=h;obtain⟨t,rfl⟩:=f;obtain⟨k,rfl⟩:=e;exact in_str (aK I q rfl)
theorem Ju:i7 X (compareOp .Is) (λx y H Q=>y=.aI/\Q (.bl (decide (x=.aI))) H):=by
 intro e s g H x y v u Q I d f h;obtain⟨rfl,q⟩:=h;cases f;refine is_none_gen (aK I q ?_);cases x<;>first
  |(cases d;rfl)
  |(obtain⟨t,rfl⟩:=d;rfl)
theorem DE:i7 X (compareOp .IsNot) (λx y H Q=>y=.aI/\Q (.bl (!decide (x=.aI))) H):=by
 intro e s g H x y v u Q I d f h;obtain⟨rfl,q⟩:=h;cases f;refine isnot_none_gen (aK I q ?_);cases x<;>first
  |(cases d;rfl)
  |(obtain⟨t,rfl⟩:=d;rfl)
theorem Au(b:Expr){op:CmpOp}(h:op≠.In:=by decide)(d:op≠.NotIn:=by decide):behindInMarks op b=false:=by
 have f:(op==CmpOp.In)=false:=by cases op<;>first|rfl|exact absurd rfl h
 have e:(op==CmpOp.NotIn)=false:=by cases op<;>first|rfl|exact absurd rfl d
 cases b<;>simp[behindInMarks,f,e]
theorem mz:(sizeLine:Nat)<2^63:=by rw[Y2];decide
theorem uA:i7 X (binaryOp .Add) (λx y H Q=>∃i j,x=.str i/\y=.str j/\i.length+j.length<=sizeLine/\Q (.str (i++j)) H):=by intro d s k H x y v u Q I g f h;obtain⟨i,j,rfl,rfl,hz,q⟩:=h;obtain⟨t,rfl⟩:=g;obtain⟨e,rfl⟩:=f;exact add_str (λe l=>⟨.str (i++j),H,I.tok _,⟨_,rfl⟩,q⟩) hz
theorem vals1{x:V}{us:List Value}(r:Vals [x] us):∃u,us=[u]/\RelV x u:=by
 cases r with
 |cons e d=>cases d;exact⟨_,rfl,e⟩
theorem vals2{x y:V}{us:List Value}(r:Vals [x,y] us):∃u w',us=[u,w']/\RelV x u/\RelV y w':=by
 cases r with
 |cons g f=>
  cases f with
  |cons e d=>cases d;exact⟨_,_,rfl,g,e⟩
theorem Av:aZ X (.builtin "abs") (λxs H Q=>∃i,xs=[.int i]/\Q (.int (if i<0 then-i else i)) H):=by intro d s e H xs f Q I r h;obtain⟨i,rfl,q⟩:=h;obtain⟨u,rfl,t,rfl⟩:=vals1 r;exact call_abs_int λu g=>⟨.int (if i<0 then-i else i),H,I.tok _,⟨_,rfl⟩,q⟩
theorem ye(f:X.calm=true):aZ X (.builtin "max") (λxs H Q=>∃i j,xs=[.int i,.int j]/\Q (.int (if j>i then j else i)) H):=by
 intro e s g H xs m Q I r h;obtain⟨i,j,rfl,q⟩:=h;obtain⟨u,l,rfl,⟨t,rfl⟩,⟨o,rfl⟩⟩:=vals2 r;refine max_two_ints (I.ok.hd f) λp n k=>⟨_,H,I.kept k,?_,q⟩;by_cases d:j>i
 .rw[FM d,FM d];exact⟨_,rfl⟩
 .rw[Da d,Da d];exact⟨_,rfl⟩
theorem yf(f:X.calm=true):aZ X (.builtin "min") (λxs H Q=>∃i j,xs=[.int i,.int j]/\Q (.int (if j<i then j else i)) H):=by
 intro e s g H xs m Q I r h;obtain⟨i,j,rfl,q⟩:=h;obtain⟨u,l,rfl,⟨t,rfl⟩,⟨o,rfl⟩⟩:=vals2 r;refine min_two_ints (I.ok.hd f) λp n k=>⟨_,H,I.kept k,?_,q⟩;by_cases d:j<i
 .rw[FM d,FM d];exact⟨_,rfl⟩
 .rw[Da d,Da d];exact⟨_,rfl⟩
theorem yg:aZ X (.type "int") (λxs H Q=>(∃i,xs=[.int i]/\Q (.int i) H)\/∃k,xs=[.bl k]/\Q (.int (if k then 1 else 0)) H):=by
 intro d s f H xs g Q I r h;rcases h with⟨i,rfl,q⟩|⟨k,rfl,q⟩
 .obtain⟨u,rfl,t,rfl⟩:=vals1 r;exact call_int_int ⟨.int i,H,I,⟨_,rfl⟩,q⟩
 .obtain⟨u,rfl,e⟩:=vals1 r;cases e;exact call_int_bool ⟨.int (if k then 1 else 0),H,I.tok _,⟨_,rfl⟩,q⟩
theorem qe:aZ X (.type "str") (λxs H Q=>∃i,xs=[.int i]/\i.natAbs.log2<1920/\Q (.str (toString i)) H):=by intro d s e H xs f Q I r h;obtain⟨i,rfl,hz,q⟩:=h;obtain⟨u,rfl,t,rfl⟩:=vals1 r;exact PySem.P.str_of_int hz ⟨.str _,H,I.tok _,⟨_,rfl⟩,q⟩
theorem rS:aZ X (.builtin "divmod") (λxs H Q=>∃i j,xs=[.int i,.int j]/\RJ i j/\∀p,H p=none->Q (.ref p) (upd H p (.tup [.int (i/j),.int (i%j)]))):=by intro d s g H xs l Q I r h;obtain⟨i,j,rfl,⟨v,n⟩,q⟩:=h;obtain⟨u,k,rfl,⟨t,rfl⟩,⟨m,rfl⟩⟩:=vals2 r;refine divmod_int (by lia) ?_ (.inl (Q9 (by lia)));rw[YA i (by lia),Int.fmod_eq_emod_of_nonneg i (by lia)];have f:H s.heap.objs.size=none:=I.hok.fresh (Bz _);refine⟨.ref s.heap.objs.size,_,?_,rfl,q _ f⟩;refine I.laid (λb o e=>Bi _ e) (Bz _) ⟨by simp only[AI,G2];rw[Y2];decide,[.int (i/j) s.toks,.int (i%j) (s.toks+1)],.cons ⟨_,rfl⟩ (.cons ⟨_,rfl⟩ .nil),?_⟩;exact⟨_,Fu s.heap rfl,rfl,0,rfl⟩
end
structure uB(h:Heap)(x dx C:Addr)(mA:Str->Option Value):Prop where
 obj:h.get? x=some (instObj C dx)
 ns:h.Ns1 dx mA
 ne:dx≠x
theorem yh{h:Heap}{g:Addr}{d:Str->Option Value}(n:h.Ns1 g d):∃c,h.get? g=some c/\∀name,lookIn name c=some (d name):=by
 obtain⟨o,f,p,j,hd,l,_,k⟩:=n;refine⟨o,j,λname=>?_⟩;have e:=k name;unfold nsFind findBy at e;rw[<-Array.find?_toList]at e;unfold lookIn;rw[hd];dsimp only;split
 .rename_i y q
  rw[q]at e;exact Kt some e
 .rename_i q
  rw[q]at e;have a:f.toList.any (·.refKey)=false:=by rw[Tg];intro y i;obtain⟨z,t,b⟩:=l y (Array.mem_toList_iff.mp i);simp[DictEntry.refKey,b]
  have m:¬f.toList.any (·.refKey)=true:=by rw[a];exact Fh
  rw[Da m];exact Kt some e
theorem uB.look{h:Heap}{x c C:Addr}{b:Str->Option Value}(I:uB h x c C b):∃a,PySem.W.InstAt h x (instObj C c) C (some a)/\∀name,lookIn name a=some (b name):=
 let⟨a,ho,hl⟩:=yh I.ns
 ⟨a,⟨I.obj,rfl,rfl,ho⟩,hl⟩
section
variable{prog:Program}{w:World}{A:Around}{E:Value->Shared->Prop}{s:Shared}{K:Frag}{x dx C f:Addr}{mA:Str->Option Value}{name:Str}{v:Value}
theorem get_map{a:Bool}{Q:Value->Shared->Prop}(X:K.In s.heap)(I:uB s.heap x dx C mA)(g:plainGet K C name=true)(e:hasDictIn K C=true)
 (i:findIn K (.ref C) name=some none)(c:mA name=some v)(b:PySem.W.handedIn v=true)(h:Q v {s with toks:=s.toks+1}):
 wpAny (model prog w) A (getAttr (.ref x) name a) Q E s:=by
 obtain⟨j,J,d⟩:=I.look;exact PySem.W.get_value X J (plainGet_of g).1 (PySem.W.findObj_own e i rfl (by rw[d,c])) b h
theorem Aw{pl:Sem Bool}{Q:Value×List Value->Shared->Prop}(X:K.In s.heap)(I:uB s.heap x dx C mA)(a:plainGet K C name=true)
 (g:findIn K (.ref C) name=some (some (.ref f)))(d:isFn K (.ref f)=true)(c:mA name=none)(h:Q (.ref f,[.ref x]) s):
 wpAny (model prog w) A (getMethod (.ref x) name pl) Q E s:=by
 obtain⟨b,J,e⟩:=I.look;exact PySem.W.method_fn X J (plainGet_of a).1 (plainGet_of a).2 g (IH.mp d) (by show(lookIn name b).map (·.isSome)=some false;rw[e,c];rfl) h
theorem DF{ns:List Str}{Q:Unit->Shared->Prop}(X:K.In s.heap)(I:uB s.heap x dx C mA)
 (k:findIn K (.ref C) "__setattr__"=some (some (.builtin "object.__setattr__")))(l:plainOver K C=true)(j:takerIn K C name=some none)(m:hasDictIn K C=true)
 (i:PySem.Within mA ns)(hsz:ns.length<=sizeLine)
 (h:∀h',uB h' x dx C (λy=>if y=name then some v else mA y)->Heap.SameBut dx s.heap h'->Q () {s with heap:=h',toks:=s.toks+2}):
 wpAny (model prog w) A (setAttr (.ref x) name v) Q E s:=by
 obtain⟨u,J,B⟩:=I.look;refine PySem.W.set_plain X J k (PySem.W.osa_open (s:={s with toks:=s.toks+1}) (r:=none) X J l j λb=>?_);obtain⟨D,n,e⟩:=PySem.W.any_some m;have g:s.heap.get? x=some ⟨.ref C,some dx,.plain,#[]⟩:=I.obj;refine AN (BM (AN (AN (wpAny_loadPart g (AN (PySem.W.Looks.here (s:={s with toks:=s.toks+1}) (PySem.W.looks_clsIn X n) ?_))))));rw[e];refine BM (a:=some dx) (AN (BM (AN ?_)));refine wpAny_nsSet1 (s:={s with toks:=s.toks+1}) I.ns λh' d c=>?_;obtain⟨z,o,F,t,q,p⟩:=d.count (PySem.Within.cons name v i);refine AN (wpAny_lookBehind t (by rw[q];exact pastItsLine_dict (Gc p (by rw[AI];lia))) ?_);exact BM (h _ ⟨(c.2 _ (Ki I.ne)).trans I.obj,d,I.ne⟩ c)
theorem Ax{R:Result->Shared->Prop}{vs:List Value}{b:List (Str×Value)}(X:K.In s.heap)(c:makesIn K C=true)
 (e:findIn K (.ref C) "__init__"=some (some (.ref f)))(i:PySem.W.typeIn K (.ref f)=some (.type "function"))
 (h:codeAny (model prog w) (A.under (.builtin "type.__call__" ⟨.ref C::vs,b⟩)) (.call (.ref f) ⟨.ref (s.heap.objs.size+1)::vs,b⟩) (PySem.W.InitBack (s.heap.objs.size+1) R)
   {s with heap:=(s.heap.push emptyDict).push (instObj C s.heap.objs.size)}):
 codeAny (model prog w) A (.call (.ref C) ⟨vs,b⟩) R s:=by
 obtain⟨k,g,d,t,j⟩:=s;exact PySem.W.make_core (PySem.W.makes_of X c) (PySem.W.looks_findIn X e) (λa=>PySem.W.bind_fn X a i) (.inl rfl) h
end
noncomputable def fW(f:Str)(v:V):List (Str×V)->List (Str×V)
 |[]=>[(f,v)]
 |(g,x)::r=>if g=f then(g,v)::r else(g,x)::fW f v r
theorem kJ(f g:Str)(v:V):∀c:List (Str×V),(fW f v c).lookup g=if g=f then some v else c.lookup g
 |[]=>by
  show JI g [(f,v)]=_;by_cases h:g=f
  .have a:(g==f)=true:=IH.mpr h;simp only[JI,a,FM h]
  .have a:(g==f)=false:=Pl.mpr h;simp only[JI,a,Da h]
 |(k,x)::r=>by
  have d:=kJ f g v r;rw[show fW f v ((k,x)::r)=(if k=f then(k,v)::r else(k,x)::fW f v r)from rfl];by_cases b:k=f
  .rw[FM b];by_cases h:g=k
   .have a:(g==k)=true:=IH.mpr h;simp only[JI,a,FM (h.trans b)]
   .have a:(g==k)=false:=Pl.mpr h;simp only[JI,a,Da (λe:g=f=>h (e.trans b.symm))]
  .rw[Da b];by_cases h:g=k
   .have a:(g==k)=true:=IH.mpr h;simp only[JI,a,Da (λe:g=f=>b (h.symm.trans e))]
   .have a:(g==k)=false:=Pl.mpr h;simp only[JI,a];exact d
theorem jQ(f:Str)(v:V):∀b:List (Str×V),f∈(fW f v b).map (·.1)/\∀g,g∈b.map (·.1)->g∈(fW f v b).map (·.1)
 |[]=>⟨by simp[fW],λg h=>by simp at h⟩
 |(k,x)::r=>by
  obtain⟨i1,c⟩:=jQ f v r;rw[show fW f v ((k,x)::r)=(if k=f then(k,v)::r else(k,x)::fW f v r)from rfl];by_cases a:k=f
  .rw[FM a];subst a;exact⟨by simp,λg h=>by simpa using h⟩
  .rw[Da a];refine⟨?_,λg h=>?_⟩
   .rw[Ha];exact B1 _ i1
   .rw[Ha]at h⊢;rcases FC.mp h with e|e
    .exact FC.mpr (.inl e)
    .exact B1 _ (c g e)
theorem kK(f:Str)(v:V):∀b:List (Str×V),(fW f v b).length<=b.length+1
 |[]=>by simp[fW]
 |(k,x)::r=>by
  have ih:=kK f v r;rw[show fW f v ((k,x)::r)=(if k=f then(k,v)::r else(k,x)::fW f v r)from rfl];by_cases a:k=f
  .rw[FM a,AI,AI];lia
  .rw[Da a,AI,AI];lia
theorem gp.some_of{v:V}{o:Option Value}(r:gp (some v) o):∃u,o=some u/\RelV v u:=by
 cases o with
 |none=>exact(show False from r).elim
 |some u=>exact⟨u,rfl,r⟩
theorem gp.none_of{o:Option Value}(r:gp none o):o=none:=by
 cases o with
 |none=>rfl
 |some u=>exact(show False from r).elim
theorem yi{v:V}{u:Value}(r:RelV v u):PySem.W.handedIn u=true:=by
 cases v with
 |aI=>cases(show u=Value.none from r);rfl
 |bl b=>cases(show u=Value.bool b from r);rfl
 |int i=>obtain⟨t,e⟩:=(show∃t,u=Value.int i t from r);cases e;rfl
 |str x=>obtain⟨t,e⟩:=(show∃t,u=Value.str x t from r);cases e;rfl
 |zL b=>obtain⟨t,e⟩:=(show∃t,u=Value.bytes b t from r);cases e;rfl
 |IV b=>obtain⟨t,e⟩:=(show∃t,u=Value.float b t from r);cases e;rfl
 |ref a=>cases(show u=Value.ref a from r);rfl
 |ty n=>cases(show u=Value.type n from r);rfl
section
variable{P:Program}{w:World}{H H':Hp}{h h':Heap}{a C dx:Addr}{fs fs':List (Str×V)}
theorem lP(c:gv P w H h)(e:H a=some (.ins C dx fs)):∃b,uB h a dx C b/\(∀f,gp (fs.lookup f) (b f))/\PySem.Within b (fs.map (·.1))/\fs.length<=1000/\H dx=some (.own a):=by obtain⟨d,z,i,g,b,n,r,q⟩:=(show bq P w H h a (.ins C dx fs)from c a _ e);exact⟨b,⟨g,n,i⟩,r,q,z,d⟩
end
structure DG(K:Frag)(C:Addr):Prop where
 pg:plainGet K C Str.empty=true
 hd:hasDictIn K C=true
 po:plainOver K C=true
 sa:findIn K (.ref C) "__setattr__"=some (some (.builtin "object.__setattr__"))
theorem DG.get{K:Frag}{C:Addr}(c:DG K C)(f:Str):plainGet K C f=true:=c.pg
noncomputable def gz(K:Frag)(C:Addr)(f:Str):Prop:=findIn K (.ref C) f=some none
theorem gz.Of{K:Frag}{C:Addr}{f:Str}(n:gz K C f):takerIn K C f=some none:=by unfold takerIn;rw[show findIn K (.ref C) f=some none from n];rfl
structure Meth(K:Frag)(C:Addr)(m:Str)(f:Addr):Prop where
 at_:findIn K (.ref C) m=some (some (.ref f))
 fn:isFn K (.ref f)=true
 kp:keepIn K (.ref f)=true
section
variable{X:Cx}{pins:List (Addr×Obj)}{σ:St}{H:Hp}{s:Shared}{a C dx:Addr}{fs:List (Str×V)}{f:Str}{v:V}{A:Around}{E:Value->Shared->Prop}
theorem uC{b:Bool}{Q:Value->Shared->Prop}(I:Inv X pins σ H s)(e:H a=some (.ins C dx fs))(c:DG X.K C)(n:gz X.K C f)(l:fs.lookup f=some v)
 (h:∀u s',Inv X pins σ H s'->RelV v u->Q u s'):wpAny (model X.prog X.w) A (getAttr (.ref a) f b) Q E s:=by
 obtain⟨g,O,r,_,_,_⟩:=lP I.hok e;obtain⟨u,i,d⟩:=gp.some_of (v:=v) (o:=g f) (by rw[<-l];exact r f);exact get_map I.jO O (c.get f) c.hd n i (yi d) (h u _ (I.tok _) d)
theorem iI{m:Str}{g:Addr}{pl:Sem Bool}{Q:Value×List Value->Shared->Prop}(I:Inv X pins σ H s)(e:H a=some (.ins C dx fs))(c:DG X.K C)(k:Meth X.K C m g)(l:fs.lookup m=none)
 (h:Q (.ref g,[.ref a]) s):wpAny (model X.prog X.w) A (getMethod (.ref a) m pl) Q E s:=by
 obtain⟨b,O,r,_,_,_⟩:=lP I.hok e;have d:b m=none:=gp.none_of (by rw[<-l];exact r m);exact Aw I.jO O (c.get m) k.at_ k.fn d h
theorem uD{y:V}{u:Value}{Q:Unit->Shared->Prop}(I:Inv X pins σ H s)(e:H a=some (.ins C dx fs))(c:DG X.K C)(n:gz X.K C f)(D:fs.length<1000)(m:RelV y u)
 (h:∀s',Inv X pins σ (upd H a (.ins C dx (fW f y fs))) s'->Q () s'):wpAny (model X.prog X.w) A (setAttr (.ref a) f u) Q E s:=by
 obtain⟨j,O,r,i,_,k⟩:=lP I.hok e;have hz:(fs.map (·.1)).length<=sizeLine:=by rw[Ee,Y2];lia
 refine DF I.jO O c.sa c.po n.Of c.hd i hz λB d l=>h _ ?_;have hd:∃o,B.get? dx=some o:=let⟨o,_,_,e',_⟩:=d.ns;⟨o,e'⟩
 refine I.write (x:=a) (e:=dx) (by rw[e];exact Gj) (.inr k) (λb q t z=>(l.2 b t).trans z) hd ?_;refine⟨by rw[ay O.ne];exact k,?_,O.ne,d.obj,_,d.ns,λg=>?_,λg p=>?_⟩
 .have:=kK f y fs;lia
 .show gp ((fW f y fs).lookup g) (if g=f then some u else j g);rw[kJ];by_cases q:g=f
  .rw[FM q,FM q];exact m
  .rw[Da q,Da q];exact r g
 .by_cases q:g=f
  .rw[q];exact(jQ f y fs).1
  .refine(jQ f y fs).2 g (i g λz=>p ?_);show(if g=f then some u else j g)=none;rw[Da q];exact z
theorem Inv.made(I:Inv X pins σ H s):Inv X pins σ (upd (upd H s.heap.objs.size (.own (s.heap.objs.size+1))) (s.heap.objs.size+1) (.ins C s.heap.objs.size []))
 {s with heap:=(s.heap.push emptyDict).push (instObj C s.heap.objs.size)}:=by
 have d:(s.heap.push emptyDict).get? s.heap.objs.size=some emptyDict:=Fu s.heap rfl;have j:((s.heap.push emptyDict).push (instObj C s.heap.objs.size)).get? (s.heap.objs.size+1)=some (instObj C s.heap.objs.size):=by have:=Fu (s.heap.push emptyDict) (o:=instObj C s.heap.objs.size) rfl;rwa [Heap.size_push]at this
 have i:(s.heap.push emptyDict).Ns s.heap.objs.size (λ_=>none):=⟨emptyDict,#[],_,d,rfl,(λe h=>absurd h (by simp)),λ_=>rfl⟩;have k:=I.laid (a:=s.heap.objs.size) (o:=.own (s.heap.objs.size+1)) (h':=s.heap.push emptyDict) (t':=s.toks) (λb u q=>Bi _ q) (Bz _) ⟨_,d⟩;refine k.laid (a:=s.heap.objs.size+1) (o:=.ins C s.heap.objs.size []) (t':=s.toks) (λb u q=>Bi _ q) (Nm (Heap.size_push _ _)) ?_;have c:s.heap.objs.size≠s.heap.objs.size+1:=HI (YJ _);refine⟨by rw[ay c,aq],L9 _,c,j,λ_=>none,(Heap.Ns1.of_empty i).at λo q=>Bi _ q,λ_=>Gj,λy g=>absurd rfl g⟩
theorem DH{prog:Program}{w:World}{env:Env}{e:Expr}{f:Str}{pos:Pos}{s:Shared}{Q:Value->Shared->Prop}(c:attributeBase e f env (eval e env)=eval e env)
 (h:wpAny (model prog w) A (eval e env) (λo b=>wpAny (model prog w) A (getAttr o f true) Q E b) E s):wpAny (model prog w) A (eval (.Attribute e f pos) env) Q E s:=
 Attribute_any_ h (by rw[arm_eval_Attribute,c])
end
noncomputable def RK(K:Frag)(ta:TE)(f:Str):TE:=λd H Q=>ta d H λx c=>∃a C e b v,x=.ref a/\c a=some (.ins C e b)/\DG K C/\gz K C f/\b.lookup f=some v/\Q v c
noncomputable def Og(K:Frag)(ta g:TE)(f:Str):TS:=λD b H=>g b H λy h=>ta b h λx e=>∃a C d c,x=.ref a/\e a=some (.ins C d c)/\DG K C/\gz K C f/\c.length<1000/\
 D.nx b (upd e a (.ins C d (fW f y c)))
section
variable{X:Cx}{o e value:Expr}{f:Str}{pos pos' tpos:Pos}{ta tv:TE}
theorem Ay(he:PE X e ta)(j:attributeBase e f X.env (eval e X.env)=eval e X.env):PE X (.Attribute e f pos) (RK X.K ta f):=by intro b s d H Q I h;refine DH j (bC (he b s d H _ I h) λu w hz=>?_);obtain⟨x,r,p,g,a,C,z,y,v,ex,k,c,n,l,q⟩:=hz;subst ex;obtain rfl:u=Value.ref a:=g;exact uC p k c n l λt s2 m i=>⟨v,r,m,i,q⟩
theorem jR(t:PE X o ta)(p:PE X value tv)(r:swapsWith value (some (.Attribute o f pos')) pos.line X.env=pure false):PS X (.Assign [.Attribute o f pos'] value pos) (Og X.K ta tv f):=by intro b s d H D I h;refine plainObj_wpAny_Assign_Attribute (bC (p b s d H _ I h) λu g ⟨y,B,A,i,q⟩=>bC (t b g d B _ A q) λm s2 hz=>?_) r;obtain⟨x,J,z,j,a,C,F,E,ex,v,c,n,l,k⟩:=hz;subst ex;obtain rfl:m=Value.ref a:=j;exact uD z v c n l i λs3 w=>⟨d,_,w,k⟩
end
section
variable{X:Cx}{pins:List (Addr×Obj)}{σ:St}{H:Hp}{s:Shared}{A:Around}{E:Value->Shared->Prop}{Q:Value->Shared->Prop}{c:Value}{b:Bool}
inductive kX(K:Frag)(H:Hp):V->Value->Prop where
 |aI:kX K H .aI (.type "NoneType")
 |bl (x:Bool):kX K H (.bl x) (.type "bool")
 |int (i:Int):kX K H (.int i) (.type "int")
 |str (x:Str):kX K H (.str x) (.type "str")
 |IV (x:UInt64):kX K H (.IV x) (.type "float")
 |lst {a:Addr} {xs:List V} (e:H a=some (.lst xs)):kX K H (.ref a) (.type "list")
 |uo {a:Addr} {o:Obj} {xs:List V} (e:H a=some (.uo o (.lst xs))):kX K H (.ref a) (.type "list")
 |tup {a:Addr} {xs:List V} (e:H a=some (.tup xs)):kX K H (.ref a) (.type "tuple")
 |dK {a:Addr} {kvs:List (Key×V)} (e:H a=some (.dK kvs)):kX K H (.ref a) (.type "dict")
 |dT {a:Addr} {kvs:List (List Key×V)} (e:H a=some (.dT kvs)):kX K H (.ref a) (.type "dict")
 |ins {a C dx:Addr} {fs:List (Str×V)} (e:H a=some (.ins C dx fs)) (cl:DG K C) (ha:findIn K (.ref C) "__class__"=some (some (.builtin "object.__class__")))
   (hn:PySem.W.specialIn K (.builtin "object.__class__") "__get__"=some (some (.builtin "getset_descriptor.__get__"))) (htk:PySem.W.takesIn K (.builtin "object.__class__")=some true)
   (hm:mroIn K C (.type "object")=some true):kX K H (.ref a) (.ref C)
theorem fE{x:V}{u t:Value}(I:Inv X pins σ H s)(d:RelV x u)(v:kX X.K H x t)(e:kitOne X.K t c=some b)(h:∀B,Q (.bool b) {s with toks:=B}):
 wpAny (model X.prog X.w) A (call (.builtin "isinstance") [u,c]) Q E s:=by
 cases v with
 |aI=>cases(show u=Value.none from d);exact On PySem.W.kitx_none I.jO Gj e (λz=>nomatch z) h
 |bl y=>cases(show u=Value.bool y from d);exact On PySem.W.kitx_bool I.jO Gj e (λz=>nomatch z) h
 |int i=>obtain⟨t,q⟩:=(show∃t,u=Value.int i t from d);cases q;exact On PySem.W.kitx_int I.jO Gj e (λz=>nomatch z) h
 |str y=>obtain⟨t,q⟩:=(show∃t,u=Value.str y t from d);cases q;exact On PySem.W.kitx_str I.jO Gj e (λz=>nomatch z) h
 |IV y=>obtain⟨t,q⟩:=(show∃t,u=Value.float y t from d);cases q;exact On PySem.W.kitx_float I.jO Gj e (λz=>nomatch z) h
 |@lst a k f=>
  cases(show u=Value.ref a from d);obtain⟨_,_,n,_,g⟩:=(show bq X.prog X.w H s.heap a (.lst k)from I.hok a _ f);exact On PySem.W.kitx_list I.jO ⟨_,g,rfl⟩ e (λz=>nomatch z) h
 |@uo a D k f=>
  cases(show u=Value.ref a from d);obtain⟨_,_,_,n,_,g⟩:=(show bq X.prog X.w H s.heap a (.uo D (.lst k))from I.hok a _ f);exact On PySem.W.kitx_list I.jO ⟨_,g,rfl⟩ e (λz=>nomatch z) h
 |@tup a k f=>
  cases(show u=Value.ref a from d);obtain⟨_,_,_,p⟩:=(show bq X.prog X.w H s.heap a (.tup k)from I.hok a _ f);obtain⟨o,g,l,_⟩:=p;exact On PySem.W.kitx_tuple I.jO ⟨o,g,l⟩ e (λz=>nomatch z) h
 |@dK a j f=>
  cases(show u=Value.ref a from d);obtain⟨_,_,R,_,p⟩:=(show bq X.prog X.w H s.heap a (.dK j)from I.hok a _ f);obtain⟨o,N,P,g,l,_⟩:=p;exact On PySem.W.kitx_dict I.jO ⟨o,g,l.1⟩ e (λz=>nomatch z) h
 |@dT a j f=>
  cases(show u=Value.ref a from d);obtain⟨_,_,k,_,o,N,P,g,l,_⟩:=(show bq X.prog X.w H s.heap a (.dT j)from I.hok a _ f);exact On PySem.W.kitx_dict I.jO ⟨o,g,l.1⟩ e (λz=>nomatch z) h
 |@ins a C Y U f r M F m L=>
  cases(show u=Value.ref a from d);obtain⟨T,O,_⟩:=lP I.hok f;obtain⟨S,J,_⟩:=O.look;exact On (PySem.W.kitx_own (r.get _) r.hd M F m L) I.jO J e (λz=>nomatch z) h
end
structure cC(k:Nat)(A:Around):Prop where
 hd:A.handled=none
 dp:A.depth+3*k+120<recursionLimit
 un:A.units+16*k+200<cLine
theorem cC.mono{j k:Nat}{A:Around}(r:cC k A)(h:j<=k):cC j A:=⟨r.hd,by have:=r.dp;lia,by have:=r.un;lia⟩
theorem cC.deeper{k:Nat}{A:Around}(r:cC (k+1) A)(env:Env):cC k (A.deeper env):=
 ⟨r.hd,by have:=r.dp;show A.depth+1+3*k+120<_;lia,by have:=r.un;show A.units+3+16*k+200<_;lia⟩
theorem uE{A:Around}{C:Addr}{us:List Value}{a:List (Str×Value)}:(A.under (.builtin "type.__call__" ⟨.ref C::us,a⟩)).depth=A.depth+1:=by first|rfl|simp[Around.under,Code.weight,Code.isCreation,Code.isGuard,Code.isCaller,Code.frames,Code.isFrame,guardIds]
theorem uF{A:Around}{C:Addr}{us:List Value}{a:List (Str×Value)}:(A.under (.builtin "type.__call__" ⟨.ref C::us,a⟩)).units=A.units+1:=by first|rfl|simp[Around.under,Code.cUnits,Code.frames,Code.isFrame]
theorem cC.make{k:Nat}{A:Around}(r:cC (k+1) A)(C:Addr)(us:List Value)(a:List (Str×Value)):cC k (A.under (.builtin "type.__call__" ⟨.ref C::us,a⟩)):=
 ⟨r.hd,by have:=r.dp;rw[uE];lia,by have:=r.un;rw[uF];lia⟩
theorem cC.depth{k:Nat}{A:Around}(r:cC k A):A.depth<recursionLimit:=by have:=r.dp;lia
theorem cC.units{k:Nat}{A:Around}(r:cC k A):A.units+64<cLine:=by have:=r.un;lia
noncomputable def Az:TA:=λ_ H Q=>Q [] H
noncomputable def rT(ta:TE)(c:TA):TA:=λa H Q=>ta a H λx e=>c a e λb d=>Q (x::b) d
section
variable{X:Cx}{e:Expr}{es:List Expr}{te:TE}{t:TA}{pos:Pos}
theorem bS:PA X [] Az:=λ_ _ _ _ H Q I h=>Calls.spliced_nil ⟨[],H,I,.nil,h⟩
theorem aP(m:PE X e te)(l:PA X es t)(k:starEach (e::es) X.env=(false,eval e X.env)::starEach es X.env:=by rfl):PA X (e::es) (rT te t):=by intro pos a s b H Q I h;rw[k];show wpAny _ _ (spliced ((false,eval e X.env)::backTo pos (starEach es X.env))) _ _ s;refine Calls.spliced_cons (bC (m a s b H _ I h) λu d ⟨x,q,o,g,j⟩=>?_);exact bC (l pos a d b q _ o j) λr s2 ⟨c,p,n,f,i⟩=>⟨x::c,p,n,.cons g f,i⟩
noncomputable def RM(t:TA):TE:=λc H Q=>t c H λa b=>a.length<=sizeLine/\∀p,b p=none->Q (.ref p) (upd b p (.tup a))
noncomputable def RN(t:TA):TE:=λc H Q=>t c H λa b=>a.length<=sizeLine/\∀p,b p=none->Q (.ref p) (upd b p (.lst a))
theorem uG{j}(h:PA X es t):PE X (.Tuple es j pos) (RM t):=by intro a s g H Q I l;refine wpAny_Tuple_spliced (bC (h pos a s g H _ I l) λk c ⟨i,f,d,r,z,q⟩=>⟨by rw[<-r.length];exact z,?_⟩);have m:f c.heap.objs.size=none:=d.hok.fresh (Bz _);refine⟨.ref c.heap.objs.size,upd f c.heap.objs.size (.tup i),d.laid (t':=c.toks) (λb u e=>Bi _ e) (Bz _) ?_,rfl,q _ m⟩;exact⟨z,k,r,⟨_,Fu _ rfl,rfl,_,rfl⟩⟩
theorem uH(h:PA X es t):PE X (.List es pos) (RN t):=by intro a s g H Q I k;refine wpAny_List_spliced (bC (h pos a s g H _ I k) λj c ⟨i,f,d,r,z,q⟩=>⟨by rw[<-r.length];exact z,?_⟩);have l:f c.heap.objs.size=none:=d.hok.fresh (Bz _);refine⟨.ref c.heap.objs.size,upd f c.heap.objs.size (.lst i),d.laid (t':=c.toks) (λb u e=>Bi _ e) (Bz _) ?_,rfl,q _ l⟩;exact⟨z,j,0,r,Fu _ rfl⟩
end
abbrev Sp:=List V->Hp->VK->XK->Prop
abbrev yj:=List Env->Hp->Shared->XK->Value->Shared->Prop
structure uI(P:Program)(w:World)(K:Frag)(mg:Str->Option Value)(base:Heap)(A:Around)(outer:List Env)(s:Shared)(H:Hp):Prop where
 frames:A.frames=some outer
 mod:Mod K mg base
 bs:∀b o,base.get? b=some o->s.heap.get? b=some o/\H b=none
 Dq:base.objs.size<=s.heap.objs.size
 kW:s.heap.FunFrames base outer
 IZ:∀b∈frs outer,H b=none
 hok:gv P w H s.heap
 bare:AllBare s.gens
 tree:P.given.tree=none
noncomputable def CE(a:List Env)(P:Program)(w:World)(H:Hp)(s:Shared)(Q:VK)(u:Value)(s':Shared):Prop:=
 ∃v b,s'.os=s.os/\AllBare s'.gens/\Un (frs a) [] H b s.heap s'.heap/\gv P w b s'.heap/\RelV v u/\Q v b
noncomputable def CR(CX:yj)(a:List Env)(P:Program)(w:World)(H:Hp)(s:Shared)(Q:VK)(E:XK)(r:Result)(s':Shared):Prop:=
 match r with
 |.ok (.ret u)=>CE a P w H s Q u s'
 |.ok _=>False
 |.error e=>CX a H s E e s'
structure bE(P:Program)(w:World)(K:Frag)(mg:Str->Option Value)(base:Heap)(CX:yj)(k:Nat)(f:Addr)(fd:FuncData)(ps:List Str)(sp:Sp):Prop where
 len:∀vs H Q E,sp vs H Q E->vs.length=ps.length
 run:∀(A:Around)(outer:List Env)(s:Shared)(H:Hp)(args:Args)(us:List Value)(vs:List V)(Q:VK)(E:XK),cC k A->uI P w K mg base A outer s H->BindsTo s fd args (ps.zip us)->Vals vs us->sp vs H Q E->
  codeAny (model P w) A (.call (.ref f) args) (CR CX outer P w H s Q E) s
theorem bE.imp{P:Program}{w:World}{K:Frag}{c:Str->Option Value}{base:Heap}{CX:yj}{k:Nat}{f:Addr}{d:FuncData}{ps:List Str}{sp e:Sp}(F:bE P w K c base CX k f d ps sp)
 (h:∀vs H Q E,e vs H Q E->sp vs H Q E):bE P w K c base CX k f d ps e:=
 ⟨λvs H Q E q=>F.len vs H Q E (h _ _ _ _ q),λA a s H b g vs Q E l m n i j=>F.run A a s H b g vs Q E l m n i (h _ _ _ _ j)⟩
theorem uI.make{P:Program}{w:World}{K:Frag}{b:Str->Option Value}{base:Heap}{A:Around}{a:List Env}{s:Shared}{H:Hp}(e:uI P w K b base A a s H)(C:Addr)(us:List Value)(c:List (Str×Value)):
 uI P w K b base (A.under (.builtin "type.__call__" ⟨.ref C::us,c⟩)) a s H:=⟨by first|exact e.frames|(simpa[Around.under,Code.envs,Code.isFrame,pushEnvs]using e.frames),e.mod,e.bs,e.Dq,e.kW,e.IZ,e.hok,e.bare,e.tree⟩
section
variable{X:Cx}{pins:List (Addr×Obj)}{σ:St}{H:Hp}{s s':Shared}
theorem Inv.Oh(I:Inv X pins σ H s):uI X.prog X.w X.K X.mg X.base X.A X.stack s H:=
 ⟨I.ok.frames,I.ok.mod,I.bs,Gc I.ok.Dq I.sz,I.stack,I.ja,I.hok,I.bare,I.ok.tree⟩
theorem Inv.after{Q:VK}{u:Value}(I:Inv X pins σ H s)(h:CE X.stack X.prog X.w H s Q u s'):EP X pins σ Q u s':=by obtain⟨v,j,os,a,f,e,r,q⟩:=h;obtain⟨i,g,d,t,c⟩:=s';obtain rfl:c=s.os:=os;exact⟨v,j,I.call (h':=i) (g':=g) (d':=d) (t':=t) (ch:=[]) f e a (λb z=>absurd z (by simp)),r,q⟩
end
noncomputable def Binds(K:Frag)(b:FuncData)(ps:List Str)(ds:List Value):Prop:=
 ∀(s:Shared)(a:List Value),K.In s.heap->(a++ds).length=ps.length->BindsTo s b ⟨a,[]⟩ (ps.zip (a++ds))
theorem Binds.all{K:Frag}{b:FuncData}{ps:List Str}(h:∀us:List Value,us.length=ps.length->bindArgs b ⟨us,[]⟩=pure (ps.zip us)):Binds K b ps []:=λs us _ a=>by rw[Kx]at a⊢;exact .of_eq (h us a)
noncomputable def Passes(CX:yj)(X:Cx)(E:XK):Prop:=∀(a:List (Addr×Obj))(c:St)(H:Hp)(s:Shared)(e:Value)(b:Shared),Inv X a c H s->CX X.stack H s E e b->X.xe e b
section
variable{X:Cx}{CX:yj}{k:Nat}{f C:Addr}{fd:FuncData}{ps:List Str}{sp:Sp}{zM:List V}{ds:List Value}{E:XK}{x m:Str}{p pos apos:Pos}{e o:Expr}{es:List Expr}{ta:TE}{t:TA}
theorem qf{a:List (Addr×Obj)}{c:St}{H:Hp}{s:Shared}{Q:VK}{us:List Value}{vs:List V}(F:bE X.prog X.w X.K X.mg X.base CX k f fd ps sp)(j:cC k X.A)(n:Binds X.K fd ps ds)(hd:Vals zM ds)(i:Passes CX X E)
 (I:Inv X a c H s)(r:Vals vs us)(h:sp (vs++zM) H Q E):wpAny (model X.prog X.w) X.A (call (.ref f) us) (EP X a c Q) X.xe s:=by
 have d:Vals (vs++zM) (us++ds):=r.append hd;have l:(us++ds).length=ps.length:=by rw[<-d.length];exact F.len _ _ _ _ h
 refine wpAny_call (Tb (F.run X.A X.stack s H ⟨us,[]⟩ (us++ds) (vs++zM) Q E j I.Oh (n s us I.jO l) d h) λr g b=>?_);cases r with
 |error e=>exact i a c H s e g I b
 |ok q=>
  cases q with
  |ret u=>exact I.after b
  |next=>exact Ed b
  |brk=>exact Ed b
  |cont=>exact Ed b
structure Mk(K:Frag)(C f:Addr):Prop where
 makes:makesIn K C=true
 init:findIn K (.ref C) "__init__"=some (some (.ref f))
 fn:isFn K (.ref f)=true
 kp:keepIn K (.ref C)=true
theorem AA{a:List (Addr×Obj)}{g:St}{H:Hp}{s:Shared}{Q:VK}{us:List Value}{vs:List V}(M:Mk X.K C f)(F:bE X.prog X.w X.K X.mg X.base CX k f fd ps sp)(y:cC (k+1) X.A)(B:Binds X.K fd ps ds)(hd:Vals zM ds)
 (q:Passes CX X E)(I:Inv X a g H s)(r:Vals vs us)
 (h:∀x c,H x=none->H c=none->c≠x->sp (.ref x::(vs++zM)) (upd (upd H c (.own x)) x (.ins C c [])) (λv L=>v=.aI/\Q (.ref x) L) E):
 wpAny (model X.prog X.w) X.A (call (.ref C) us) (EP X a g Q) X.xe s:=by
 have j:=h (s.heap.objs.size+1) s.heap.objs.size (I.hok.fresh (X7 _)) (I.hok.fresh (Bz _)) (HI (YJ _));have d:=Inv.made (C:=C) I;have i:Vals (V.ref (s.heap.objs.size+1)::(vs++zM)) (Value.ref (s.heap.objs.size+1)::(us++ds)):=.cons rfl (r.append hd);have z:(Value.ref (s.heap.objs.size+1)::us++ds).length=ps.length:=by have e:=i.length;rw[F.len _ _ _ _ j]at e;exact e.symm
 refine wpAny_call (Ax (f:=f) I.jO M.makes M.init (IH.mp M.fn) (Tb (F.run _ X.stack _ _ ⟨Value.ref (s.heap.objs.size+1)::us,[]⟩ (Value.ref (s.heap.objs.size+1)::(us++ds)) _ _ E (y.make C us [])
  (d.Oh.make C us []) (B _ (Value.ref (s.heap.objs.size+1)::us) d.jO z) i j) λr l b=>?_))
 cases r with
 |error e=>exact q a g _ _ e l d b
 |ok D=>
  cases D with
  |ret u=>obtain⟨v,N,J,rv,ev,n⟩:=d.after b;subst ev;exact⟨rv,⟨V.ref (s.heap.objs.size+1),N,J,rfl,n⟩⟩
  |next=>exact Ed b
  |brk=>exact Ed b
  |cont=>exact Ed b
end
section
variable{X:Cx}{CX:yj}{k:Nat}{f C:Addr}{fd:FuncData}{ps ks:List Str}{sp:Sp}{E:XK}{x m:Str}{p pos apos kpos:Pos}{e o:Expr}{es:List Expr}{kws:List Keyword}{te ta:TE}{t tk:TA}{nm:Option Str}
variable{g:List Value->List Value->List Value}{gV:List V->List V->List V}
end
structure eE(N P:List Str)(sc:Scope):Prop where
 kind:sc.kind=.function
 co:sc.isCoroutine=false
 gen:sc.isGenerator=false
 nd:N.Nodup
 pre:N.take P.length=P
 par:∀x∈P,sc.names.lookup x=some .local\/sc.names.lookup x=some .cell
 Jv:∀y∈sc.names,y.2≠.free
theorem oX{b:Str->Option NameKind}{x:Str}:∀{a:List (Str×Value)}{m:Str->Option Value},(∀v,(x,v)∉a)->bindL b a m x=m x
 |[],_,_=>rfl
 |(n,v)::r,m,h=>by
  unfold bindL;rw[oX λw c=>h w (B1 _ c)];split
  .have:x≠n:=by rintro rfl;exact h v Bn
   simp[this]
  .rfl
theorem oY{b:Str->Option NameKind}{x:Str}:∀{a:List (Str×Value)}{m:Str->Option Value},(∀v,(x,v)∉a)->bindC b a m x=m x
 |[],_,_=>rfl
 |(n,v)::r,m,h=>by
  unfold bindC;rw[oY λw c=>h w (B1 _ c)];split
  .rfl
  .have:x≠n:=by rintro rfl;exact h v Bn
   simp[this]
theorem oZ{a:Str->Option NameKind}{x:Str}{v:Value}:∀{P:List Str}{vs:List Value}{i:Nat}{m:Str->Option Value},P.Nodup->P[i]?=some x->vs[i]?=some v->a x=some .local->
 bindL a (P.zip vs) m x=some v
 |[],_,_,_,_,h,_,_=>by simp at h
 |_::_,[],_,_,_,_,h,_=>by simp at h
 |p::P,w::vs,0,m,d,c,b,e=>by simp at c b;subst c;subst b;show bindL a ((p,w)::P.zip vs) m p=_;unfold bindL;rw[oX λv f=>(Hk.mp d).1 (PR f).1,FM e];simp
 |p::P,w::vs,i+1,m,d,c,b,e=>by show bindL a ((p,w)::P.zip vs) m x=_;unfold bindL;exact oZ (i:=i) (Hk.mp d).2 (by simpa using c) (by simpa using b) e
theorem pA{a:Str->Option NameKind}{x:Str}{v:Value}:∀{P:List Str}{vs:List Value}{i:Nat}{m:Str->Option Value},P.Nodup->P[i]?=some x->vs[i]?=some v->a x≠some .local->
 bindC a (P.zip vs) m x=some v
 |[],_,_,_,_,h,_,_=>by simp at h
 |_::_,[],_,_,_,_,h,_=>by simp at h
 |p::P,w::vs,0,m,d,c,b,e=>by simp at c b;subst c;subst b;show bindC a ((p,w)::P.zip vs) m p=_;unfold bindC;rw[oY λv f=>(Hk.mp d).1 (PR f).1,Da e];simp
 |p::P,w::vs,i+1,m,d,c,b,e=>by show bindC a ((p,w)::P.zip vs) m x=_;unfold bindC;exact pA (i:=i) (Hk.mp d).2 (by simpa using c) (by simpa using b) e
noncomputable def start(N:List Str)(vs:List V):St:=vs.map some++A0 (N.length -vs.length) none
noncomputable def yk(CX:yj)(P:Program)(w:World)(K:Frag)(mg:Str->Option Value)(base:Heap)(N:List Str)(b:Str)(a:Scope)(f:Addr)(d:Value)(A:Around)(outer:List Env)(s:Shared)(H:Hp)(E:XK):Cx where
 prog:=P
 w:=w
 K:=K
 mg:=mg
 base:=base
 A:=A.deeper (envOfC b a s.heap.objs.size f d)
 N:=N
 s₀:=s
 H₀:=H
 env:=envOfC b a s.heap.objs.size f d
 outer:=outer
 stack:=envOfC b a s.heap.objs.size f d::outer
 ex:=[]
 calm:=true
 fn:=λ_=>true
 pn:=[]
 xe:=λe g=>wpAny (model P w) (A.deeper (envOfC b a s.heap.objs.size f d)) (leaving (envOfC b a s.heap.objs.size f d) e) (λ_ c=>CX outer H s E e c) (λh c=>CX outer H s E h c) g
theorem rV{sc:Scope}{n:Nat}{x:Str}(h:sc.names.lookup x=some .cell):∃c,(cellsFrom n sc.names []).lookup x=some c:=by have q:=PySem.W.cellsFrom_some sc.names n [] (.inl h);exact Q1.mp q
theorem ym{CX:yj}{P:Program}{w:World}{K:Frag}{I:Str->Option Value}{base:Heap}{N ps:List Str}{l:Str}{d:Scope}{f:Addr}{F:Value}{A:Around}{g:List Env}{s L:Shared}{H:Hp}{E:XK}{us:List Value}{vs:List V}
 (S:eE N ps d)(hd:A.handled=none)(XA:A.depth+110<recursionLimit)(j:uI P w K I base A g s H)(Z:vs.length=ps.length)(r:Vals vs us)
 (x:InCallC s s.heap.objs.size (bindL (envOfC l d s.heap.objs.size f F).kindOf (ps.zip us) λ_=>none) (cellsFrom (s.heap.objs.size+1) d.names []) (bindC (envOfC l d s.heap.objs.size f F).kindOf (ps.zip us) λ_=>none) L):
 Inv (yk CX P w K I base N l d f F A g s H E) [] (start N vs) H L:=by
 have Q:ps.length<=N.length:=by have:=Kt IY S.pre;rw[SL]at this;lia
 obtain⟨D,X,rfl,B⟩:=x.done;have J:∀b:Addr,b∉(yk CX P w K I base N l d f F A g s H E).ex:=λb z=>absurd (show b∈([]:List Addr)from z) (by simp);refine⟨⟨j.mod,S.kind,rfl,rfl,Bz _,λy z c D m=>?_,λy o=>?_,λy c _ h=>?_,λ_=>hd,Around.frames_deeper j.frames,.inr ⟨rfl,rfl⟩,λb z=>absurd z (J b),j.bs,j.Dq,λb _ _=>J b,λb z=>absurd z (J b),j.kW,j.IZ,j.tree,λA' Y R U B=>PylongRoom.of (j.mod.nolimit.keeps B) (by rw[U];show A.depth+1+100<_;lia) (SeerAt.of (j.mod.seer.keeps B) j.tree (R.trans (Around.frames_deeper j.frames)) S.gen S.co rfl rfl)⟩,
  rfl,j.bare,Un.kept B,⟨_,x.toInCall.ns,λi y v D m h3=>?_⟩,λy c h=>⟨_,x.cell y c h⟩,j.hok.fresh (Bz _),λy c h=>?_,λp t=>absurd (show p∈([]:List (Addr×Obj))from t) (by simp),j.hok.kept B,?_⟩
 .exact name_of_addr x.apart (NA D) (NA m)
 .have o:d.names.lookup y=some .cell\/d.names.lookup y=some .free:=o;rcases o with o|o
  .exact rV o
  .exact absurd rfl (S.Jv _ (NA o))
 .exact T1 (x.above y c (NA h))
 .have C:i<vs.length:=by
   unfold start at m;by_cases C:i<vs.length
   .exact C
   .rw[KM (by simpa using C)]at m;rw[YN]at m;split at m<;>cases m
  have T:vs[i]?=some v:=by
   unfold start at m;rw[P2 (by simpa using C),Fm]at m;cases e:vs[i]? with
   |none=>rw[e]at m;cases m
   |some a=>rw[e]at m;cases m;rfl
  obtain⟨u,M,rv⟩:=r.get T;have t:ps[i]?=some y:=by rw[<-S.pre,List.getElem?_take_of_lt (by lia)];exact D
  have O:ps.Nodup:=by rw[<-S.pre];exact S.nd.sublist (List.take_sublist _ _)
  refine⟨u,rv,?_⟩;rcases S.par y (KE t)with k|k
  .exact .inl ⟨k,oZ O t M k⟩
  .obtain⟨c,e⟩:=rV (n:=s.heap.objs.size+1) k;refine .inr ⟨.inl k,c,e,?_⟩;have q:=x.cell y c e;rw[pA O t M (by show d.names.lookup y≠_;rw[k];decide)]at q;exact q
 .exact j.hok.fresh (T1 (x.above y c (NA h)))
 .unfold start;show _=N.length;rw[Dx,Ee,TB];lia
theorem Oj{CX:yj}{P:Program}{w:World}{K:Frag}{F:Str->Option Value}{base:Heap}{k:Nat}{f:Addr}{name d:Str}{h:Arguments}{i:List Stmt}{a:Scope}{Z kV D Y g ct oc:Value}{an od:Option Addr}
 {O:Array (Option Value)}{N ps:List Str}{sp:Sp}(lk:K.lookup f=some ⟨oc,od,.func (fnOf name d h i a Z kV D Y an g ct),O⟩)(T:codeIn K g d=true)(S:eE N ps a)
 (z:∀vs H Q E,sp vs H Q E->vs.length=ps.length)
 (m:∀(A:Around)(c:List Env)(s:Shared)(H:Hp)(vs:List V)(Q:VK)(E:XK),cC k (A.deeper (envOfC d a s.heap.objs.size f g))->sp vs H Q E->
   ∃t,rP (yk CX P w K F base N d a f g A c s H E) i t/\t {nx:=λ_ H'=>Q .aI H',rt:=Q} (start N vs) H):
 bE P w K F base CX (k+1) f (fnOf name d h i a Z kV D Y an g ct) ps sp:=by
 refine⟨z,λA c s H args us vs Q E L C hb r U=>?_⟩;have hl:=z _ _ _ _ U;have KX:K.In s.heap:=C.mod.NH.keeps λb o e=>(C.bs b o e).1;have R:s.heap.NoLimit:=C.mod.nolimit.keeps λb o e=>(C.bs b o e).1;have l:∀y∈ps.zip us,a.names.lookup y.1=some .local\/(a.names.lookup y.1=some .cell/\((cellsFrom (s.heap.objs.size+1) a.names []).lookup y.1).isSome=true):=λ⟨n,v⟩ hy=>by
  rcases S.par n (PR hy).1 with q|q
  .exact .inl q
  .exact .inr ⟨q,PySem.W.cellsFrom_some _ _ _ (.inl q)⟩
 refine codeAny_call_function L.depth (KX _ _ lk) rfl S.co S.gen rfl (PySem.W.codeRec_of KX T) (hb _ _ _ _ ?_);refine wpAny_newFunctionEnv_cells S.kind l λenv he X x=>?_;subst he;refine⟨R.keeps x.toInCall.keep,codeAny_func ?_⟩;obtain⟨t,ht,hq⟩:=m A c s H vs Q E (L.deeper _) U;have I:Inv (yk CX P w K F base N d a f g A c s H E) [] (start N vs) H X:=ym S L.hd (by have:=L.dp;lia) C hl r x;refine PP (ht [] X (start N vs) H _ I hq) (λfl M p=>?_) λe M p=>p;have B:∀{j:St}{H':Hp}{v:V}{u:Value},Inv (yk CX P w K F base N d a f g A c s H E) [] j H' M->RelV v u->Q v H'->CE c P w H s Q u M:=
  λ{j H' v u} J rv q=>⟨v,H',J.os,J.bare,J.base,J.hok,rv,q⟩
 cases fl with
 |ret u=>obtain⟨v,j,H',J,rv,q⟩:=p;exact B J rv q
 |next=>obtain⟨j,H',J,q⟩:=p;exact B (v:=V.aI) (u:=Value.none) J rfl q
 |brk=>obtain⟨_,_,_,q⟩:=p;exact Ed q
 |cont=>obtain⟨_,_,_,q⟩:=p;exact Ed q
section
variable{X:Cx}{x:Str}{p pos:Pos}{e:Expr}{es:List Expr}{t:TA}{id T:String}{r:List V->Hp->VK->Prop}
noncomputable def Uo(r:List V->Hp->VK->Prop)(t:TA):TE:=λa H Q=>t a H λb c=>r b c Q
theorem gA(q:aZ X (.builtin id) r)(o:Gl X x)(n:X.mg x=none)(l:bootBuiltins x=some (.builtin id))(u:PA X (e::es) t)(m:x≠"__name__":=by decide)(c:(x==("__debug__":Str))=false:=by decide)
 (he:starEach (e::es) X.env=(false,eval e X.env)::starEach es X.env:=by rfl)(b:(backTo pos (starEach es X.env)).any (·.1)=false:=by rfl):PE X (.Call (.Name x p) (e::es) [] pos) (Uo r t):=by
 intro a s d H Q I h;refine YI (jP I o n l ?_ m c);exact Vu (bC (u pos a s d H _ I h) λg i ⟨f,w,v,j,k⟩=>q a i d w f g Q v j k) he b
theorem gO(q:aZ X (.type T) r)(o:Gl X x)(n:X.mg x=none)(l:bootBuiltins x=some (.type T))(u:PA X (e::es) t)(m:x≠"__name__":=by decide)(c:(x==("__debug__":Str))=false:=by decide)
 (he:starEach (e::es) X.env=(false,eval e X.env)::starEach es X.env:=by rfl)(b:(backTo pos (starEach es X.env)).any (·.1)=false:=by rfl):PE X (.Call (.Name x p) (e::es) [] pos) (Uo r t):=by
 intro a s d H Q I h;refine YI (jP I o n l ?_ m c);exact TK (bC (u pos a s d H _ I h) λg i ⟨f,w,v,j,k⟩=>q a i d w f g Q v j k) he b
end
end L2
namespace HT
open PySem PyProof.Rows
noncomputable def lexLt:List Int->List Int->Bool
 |[],[]=>false
 |[],_::_=>true
 |_::_,[]=>false
 |x::xs,y::a=>if x=y then lexLt xs a else decide (x<y)
theorem mD(x y:Int)(xs a:List Int):lexLt (x::xs) (y::a)=if x=y then lexLt xs a else decide (x<y):=rfl
theorem ou:lexLt [] []=false:=rfl
theorem mE(y:Int)(a:List Int):lexLt [] (y::a)=true:=rfl
theorem mF(x:Int)(xs:List Int):lexLt (x::xs) []=false:=rfl
theorem AB(A:Around)(s:Shared)(a:Int)(t:Tok)(c:Int)(u:Tok):∃e,SeqAt.EqAt A s (.int a t) (.int c u) e/\(e=true↔a=c):=
 ⟨(a==c),Y0 a t c u,by simp⟩
theorem rW(A:Around)(s:Shared)(a:Int)(t:Tok)(c:Int)(u:Tok)(prog:Program)(w:World)(E:Value->Shared->Prop)(Q:Value->Shared->Prop)(h:Q (.bool (decide (a<c))) s):
 wpAny (model prog w) A (richCompare .Lt (.int a t) (.int c u)) Q E s:=
 (Vi h:wpAny (model prog w) A (compareOp .Lt (.int a t) (.int c u)) Q E s)
section
open PySem.SeqAt
open PySem.AutoSeq1 (wpAny_loadPart')
open PySem.MeetsSeq PySem.MeetsSeq2 PySem.MeetsSeq3
end
section
variable{prog:Program}{w:World}{A:Around}{E:Value->Shared->Prop}{s:Shared}
theorem DI{t b:Addr}{vs a:List Value}{Q:Value->Shared->Prop}(r:IsTup s.heap t vs.toArray)(u:IsTup s.heap b a.toArray)(o:vs≠[])
 (x:a=[]->Q (.ref t) s)(v:a≠[]->Q (.ref s.heap.objs.size) {s with heap:=s.heap.push {cls:=.type "tuple",data:=.seq (vs++a).toArray}})
 (hsz:vs.length+a.length<=sizeLine):wpAny (model prog w) A (binaryOp .Add (.ref t) (.ref b)) Q E s:=by
 obtain⟨⟨cls,q,data,l⟩,j,p,n,hd⟩:=id r;obtain⟨⟨y,h,k,d⟩,c,g,m,f⟩:=id u;simp only at p hd g f;subst p hd g f;have e:vs.toArray++a.toArray=(vs++a).toArray:=by simp
 by_cases i:a=[]
 .exact concat_meets ⟨_,j,rfl⟩ ⟨_,c,rfl⟩ noFill_tuple_add seq_tuple_add PySem.F.slot_tuple_add PySem.F.entry_tuple_add (PySem.F.args_tuple_add_2 _ _)
   (tuple_addW1 t b vs.toArray a.toArray n m q h l d (by simpa using o) (by simp[i])) ⟨j,c,x i⟩
 .refine concat_meets ⟨_,j,rfl⟩ ⟨_,c,rfl⟩ noFill_tuple_add seq_tuple_add PySem.F.slot_tuple_add PySem.F.entry_tuple_add (PySem.F.args_tuple_add_2 _ _)
   (tuple_addW2 t b vs.toArray a.toArray n m q h l d (by simpa using o) (by simpa using i) (by rw[Fs,Fs];exact hsz)) ⟨j,c,?_⟩
  rw[e];exact v i
noncomputable def bO(n d:Nat):Option Int->Nat
 |none=>d
 |some v=>if v<0 then(v+(n:Int)).toNat else min v.toNat n
theorem Jw(n d:Nat)(hd:d<=n)(o:Option Int):bO n d o<=n:=by
 cases o with
 |none=>exact hd
 |some v=>
  show(if v<0 then(v+(n:Int)).toNat else min v.toNat n)<=n;by_cases a:v<0
  .rw[FM a];lia
  .rw[Da a];exact Nat.min_le_right _ _
theorem v7(v:Int)(n d:Nat):(if v<0 then max (v+(n:Int)) 0 else min v (n:Int))=((bO n d (some v):Nat):Int):=by
 show(if v<0 then max (v+(n:Int)) 0 else min v (n:Int))=(((if v<0 then(v+(n:Int)).toNat else min v.toNat n):Nat):Int);by_cases a:v<0
 .simp only[FM a];lia
 .simp only[Da a];lia
theorem uK(a b:Option Int)(n:Nat):Builtin.Slice.sliceAdjust a b 1 (n:Int)=(((bO n 0 a:Nat):Int),((bO n n b:Nat):Int)):=by
 have c:¬((1:Int)<0):=by lia
 unfold Builtin.Slice.sliceAdjust;simp only[c,YV];refine Prod.ext ?_ ?_
 .cases a with
  |none=>rfl
  |some v=>exact v7 v n 0
 .cases b with
  |none=>rfl
  |some v=>exact v7 v n n
theorem uL(i j:Nat):Builtin.Slice.slicePlaces (i:Int) (j:Int) 1=j -i:=by
 unfold Builtin.Slice.slicePlaces;have a:(1:Int)>0:=by lia
 simp only[a,YQ,Int.ediv_one];split<;>lia
theorem mG{v:Value}{o:Option Int}{Q:Option Int->Shared->Prop}(p:IsPart v o)(h:Q o s):wpAny (model prog w) A (Builtin.Slice.slicePartIndex v) Q E s:=by
 cases p with
 |none=>exact slicePart_none h
 |int i t=>exact slicePart_int h
theorem jS{g:Addr}{f e:Value}{a c:Option Int}{n:Nat}{Q:Int×Int×Nat->Shared->Prop}(j:s.heap.IsSliceOf g f e .none)(pl:IsPart f a)(i:IsPart e c)
 (h:Q (((bO n 0 a:Nat):Int),1,bO n n c -bO n 0 a) s):wpAny (model prog w) A (Builtin.Slice.sliceApplied (.ref g) (pure (n:Int))) Q E s:=by
 obtain⟨l,b,k,d⟩:=id j;unfold Builtin.Slice.sliceApplied Builtin.Slice.sliceFields;refine AN (AN (wpAny_field b d (x:=f) rfl (AN (wpAny_field b d (x:=e) rfl (AN (wpAny_field b d (x:=.none) rfl (BM ?_)))))));refine AN (slicePart_none ?_);show wpAny _ _ (if((1:Int)==0)=true then _ else _) _ _ s;rw[Da (by decide)];refine AN (mG pl (AN (mG i (AN (BM ?_)))));show wpAny _ _ (match Builtin.Slice.sliceAdjust a c 1 (n:Int)with|(a,c)=>pure (a,(1:Int),Builtin.Slice.slicePlaces a c 1)) _ _ s;rw[uK a c n];show wpAny _ _ (pure (((bO n 0 a:Nat):Int),(1:Int),Builtin.Slice.slicePlaces ((bO n 0 a:Nat):Int) ((bO n n c:Nat):Int) 1)) _ _ s;rw[uL];exact BM h
theorem AD(xs:Array Value)(i k:Nat):((Ea k).filterMap λ(m:Nat)=>xs[((i:Int)+(m:Int)*1).toNat]?).toArray=((xs.toList.drop i).take k).toArray:=by
 have e:(λ(m:Nat)=>xs[((i:Int)+(m:Int)*1).toNat]?)=λm=>xs[i+m]?:=by
  funext m;have:((i:Int)+(m:Int)*1).toNat=i+m:=by lia
  rw[this]
 rw[e];have:=pick_run xs i k;rw[List.filterMap_map]at this;have a:((λx=>xs[x]?)∘λx=>i+x)=λm=>xs[i+m]?:=rfl;rw[a]at this;rw[this]
theorem jf{t e:Addr}{items:Array Value}{k j:Value}{a b:Option Int}{Q:Value->Shared->Prop}(d:IsTup s.heap t items)(l:s.heap.IsSliceOf e k j .none)(pl:IsPart k a)(n:IsPart j b)
 (p:¬(bO items.size 0 a=0/\bO items.size items.size b=items.size))
 (h:Q (.ref s.heap.objs.size) {s with heap:=s.heap.push {cls:=.type "tuple",data:=.seq ((items.toList.drop (bO items.size 0 a)).take (bO items.size items.size b -bO items.size 0 a)).toArray}})
 (hsz:items.size<=sizeLine):wpAny (model prog w) A (getItem (.ref t) (.ref e)) Q E s:=by
 have c:sizeOk (.seq ((items.toList.drop (bO items.size 0 a)).take (bO items.size items.size b -bO items.size 0 a)).toArray):=by show((items.toList.drop (bO items.size 0 a)).take (bO items.size items.size b -bO items.size 0 a)).toArray.size<=sizeLine;rw[Fs,SL,YM,Ar];lia
 have y:bO items.size items.size b<=items.size:=Jw _ _ (Bz _) b;obtain⟨o,f,i,r⟩:=id l;have u:s.TypeIs (.ref e) "slice":=⟨o,f,i⟩;unfold getItem
 try with_reducible refine Sr ?_
 first|refine AN (BM ?_)|skip
 refine AN (wpAny_sequenceKey d.typeIs (by decide) ?_);refine AN (wpAny_callSpecial?_slot (name:=Str.ofString "__getitem__") d.typeIs Y1
  (Y4 Y1 d.typeIs entry_tuple_getitem ?_ (args_tuple_getitem _ _)))
 show wpAny _ _ (Builtin.Tuple.tupleItemsOf (.ref t)>>=_) _ _ s;refine AN (tupleItemsOf_ d ?_);refine AN (wpAny_typeOf u ?_);rw[FM (by decide)];refine AN (jS l pl n ?_);have g:¬((((bO items.size 0 a:Nat):Int)==0&&(1:Int)==1&&(bO items.size items.size b -bO items.size 0 a)==items.size)=true):=by intro q;rw[AC,AC]at q;have x:((bO items.size 0 a:Nat):Int)=0:=eq_of_beq q.1.1;have v:bO items.size items.size b -bO items.size 0 a=items.size:=eq_of_beq q.2;exact p ⟨by lia,by lia⟩
 show wpAny _ _ (if(((bO items.size 0 a:Nat):Int)==0&&(1:Int)==1&&(bO items.size items.size b -bO items.size 0 a)==items.size)=true then _ else _) _ _ s;rw[Da g,AD]
 first
  |exact AN (m:=Builtin.Tuple.tupleExact _) (Nw (BM ⟨_,rfl,BM h⟩) c)
  |exact AN (m:=Builtin.Tuple.tupleExact _) (Nw (AN (BM (BM ⟨_,rfl,BM h⟩))) c)
  |exact AN (AN (m:=Builtin.Tuple.tupleExact _) (Nw (BM (BM ⟨_,rfl,BM h⟩)) c))
  |exact AN (AN (m:=Builtin.Tuple.tupleExact _) (Nw (BM ⟨_,rfl,BM h⟩) c))
end
end HT
namespace L2
open PySem PySem.Spec PyProof.Rows
abbrev TO:=St->Hp->(Option Int->Hp->Prop)->Prop
noncomputable def PO(X:Cx)(e:Option Expr)(t:TO):Prop:=
 ∀(a:List (Addr×Obj))(s:Shared)(b:St)(H:Hp)(Q:Option Int->Hp->Prop),Inv X a b H s->t b H Q->
  wpAny (model X.prog X.w) X.A (evalPart e X.env) (λu d=>∃o c,Inv X a b c d/\IsPart u o/\Q o c) X.xe s
noncomputable def DJ:TO:=λ_ H Q=>Q none H
noncomputable def Om(t:TE):TO:=λa H Q=>t a H λx b=>∃i,x=.int i/\Q (some i) b
theorem intsAre_of{a:List Int}:∀{us:List Value},Vals (a.map V.int) us->IntsAre us a:=by
 induction a with
 |nil=>intro us r;rw[Y6]at r;cases r;exact .nil
 |cons n a d=>
  intro us r;rw[Ha]at r;cases r with
  |cons c b=>obtain⟨t,e⟩:=c;subst e;exact .cons n t (d b)
section
variable{X:Cx}{e:Expr}{te:TE}{lo hi:Option Expr}{tl th:TO}{pos p2:Pos}
theorem DK:PO X none DJ:=by intro a s b H Q I h;rw[evalPart_none];exact BM ⟨none,H,I,.none,h⟩
theorem DM(h:PE X e te):PO X (some e) (Om te):=by intro a s b H Q I f;rw[evalPart_some];refine bC (h a s b H _ I f) λu k ⟨x,j,g,c,d⟩=>?_;obtain⟨i,rfl,q⟩:=d;obtain⟨t,rfl⟩:=c;exact⟨some i,j,g,.int i t,q⟩
noncomputable def HH(X:Cx)(r:V->Option Int->Option Int->Hp->VK->Prop):Prop:=
 ∀(a:List (Addr×Obj))(s:Shared)(b:St)(H:Hp)(x:V)(v d c:Value)(lo hi:Option Int)(f:Addr)(Q:VK),Inv X a b H s->RelV x v->s.heap.IsSliceOf f d c .none->IsPart d lo->IsPart c hi->r x lo hi H Q->
  ∃T g,typeLookup (.type T) "__getitem__"=pure (some (.builtin g))/\s.TypeIs v T/\wpAny (model X.prog X.w) X.A (getItem v (.ref f)) (EP X a b Q) X.xe s
theorem HH.or{r i:V->Option Int->Option Int->Hp->VK->Prop}(h:HH X r)(h':HH X i):HH X (λx lo hi H Q=>r x lo hi H Q\/i x lo hi H Q):=by
 intro a s b H x v d c lo hi f Q I g l k j q;rcases q with q|q
 .exact h a s b H x v d c lo hi f Q I g l k j q
 .exact h' a s b H x v d c lo hi f Q I g l k j q
noncomputable def Vy(r:V->Option Int->Option Int->Hp->VK->Prop)(te:TE)(tl th:TO):TE:=λa H Q=>te a H λx d=>tl a d λl c=>th a c λu b=>r x l u b Q
theorem rX{r:V->Option Int->Option Int->Hp->VK->Prop}(z:HH X r)(he:PE X e te)(B:PO X lo tl)(t:PO X hi th):PE X (.Subscript e (.Slice lo hi none p2) pos) (Vy r te tl th):=by intro a s c H Q I h;refine Subscript_ (bC (he a s c H _ I h) λv i ⟨x,M,K,j,n⟩=>?_);refine wpAny_Slice (bC (B a i c M _ K n) λf s2 ⟨l,L,J,p,m⟩=>bC (t a s2 c L _ J m) λd s3 ⟨u,g,F,o,k⟩=>?_);rw[evalPart_none];refine BM ?_;have E:Inv X a c g {s3 with heap:=s3.heap.push {cls:=.type "slice",data:=.fields #[f,d,.none]}}:=F.kept (t':=s3.toks) λb N q=>Bi _ q;obtain⟨T,O,D,y,C⟩:=z a {s3 with heap:=s3.heap.push {cls:=.type "slice",data:=.fields #[f,d,.none]}} c g x v f d l u s3.heap.objs.size Q E j (Heap.IsSliceOf.new ..) p o k;show wpAny (model X.prog X.w) X.A (subscriptTail e (.Slice lo hi none p2) v (.ref s3.heap.objs.size)) (EP X a c Q) X.xe {s3 with heap:=s3.heap.push {cls:=.type "slice",data:=.fields #[f,d,.none]}};exact tail_any (ops:=[.ref s3.heap.objs.size,v]) y D C (by with_unfolding_all rfl)
noncomputable def rY(xs:List V)(lo hi:Option Int):List V:=(xs.drop (HT.bO xs.length 0 lo)).take (HT.bO xs.length xs.length hi -HT.bO xs.length 0 lo)
theorem kL(xs:List V)(lo hi:Option Int):(rY xs lo hi).length<=xs.length:=by unfold rY;rw[SL,YM];lia
noncomputable def RO(K:Frag):V->Option Int->Option Int->Hp->VK->Prop:=λx lo hi H Q=>∃a b,x=.ref a/\iB K H a b/\
 ¬(HT.bO b.length 0 lo=0/\HT.bO b.length b.length hi=b.length)/\∀p,H p=none->Q (.ref p) (upd H p (.tup (rY b lo hi)))
theorem Jx:HH X (RO X.K):=by
 intro g s t H x v w u lo hi y Q I j p l k h;obtain⟨a,d,rfl,m,n,q⟩:=h;cases j;obtain⟨f,r,i,hz⟩:=I.tuple m;have c:f.toArray.size=d.length:=by rw[Fs];exact r.length.symm
 refine⟨"tuple",_,Y1.lookup,i.typeIs,?_⟩;refine HT.jf i p l k (by rw[c];exact n) ?_ (by rw[c];exact hz);rw[c];refine⟨.ref s.heap.objs.size,_,I.laid (t':=s.toks) (o:=.tup (rY d lo hi)) (λb z q=>Bi _ q) (Bz _) ?_,rfl,q _ (I.hok.fresh (Bz _))⟩;exact⟨Gc (kL d lo hi) hz,_,(r.drop (HT.bO d.length 0 lo)).take (HT.bO d.length d.length hi -HT.bO d.length 0 lo),IsTup.new _ _⟩
noncomputable def Oo(K:Frag):R2:=λx y H Q=>∃a b d c,x=.ref a/\y=.ref b/\iB K H a d/\iB K H b c/\d≠[]/\d.length+c.length<=sizeLine/\
 (c=[]->Q (.ref a) H)/\(c≠[]->∀p,H p=none->Q (.ref p) (upd H p (.tup (d++c))))
theorem Vals.qg{xs:List V}{us:List Value}(r:Vals xs us):us=[]↔xs=[]:=by
 cases r with
 |nil=>simp
 |cons _ _=>simp
theorem DN:i7 X (binaryOp .Add) (Oo X.K):=by intro f s C H x y v u Q I l k h;obtain⟨a,b,j,i,rfl,rfl,B,A,t,hz,n,m⟩:=h;cases l;cases k;obtain⟨r,d,p,_⟩:=I.tuple B;obtain⟨g,c,p2,_⟩:=I.tuple A;refine HT.DI p p2 (λz=>t (d.qg.mp z)) (λz=>⟨.ref a,H,I,rfl,n (c.qg.mp z)⟩) (λz=>?_) (by rw[<-d.length,<-c.length];exact hz);refine⟨.ref s.heap.objs.size,_,I.laid (t':=s.toks) (o:=.tup (j++i)) (λb D q=>Bi _ q) (Bz _) ?_,rfl,m (λw=>z (c.qg.mpr w)) _ (I.hok.fresh (Bz _))⟩;exact⟨by rw[Dx];exact hz,_,d.append c,IsTup.new _ _⟩
end
noncomputable def AE(n:Nat)(i:Int):Option Nat:=if 0<=i then(if i<n then some i.toNat else none)else if-(n:Int)<=i then some (i+n).toNat else none
noncomputable def ie{α:Type}(xs:List α)(i:Int):Option α:=(AE xs.length i).bind λj=>xs[j]?
theorem DO{n:Nat}{i:Int}{j:Nat}(h:AE n i=some j):seqIndex? i n=some j/\j<n/\-(n:Int)<=i/\i<n:=by
 unfold AE at h;by_cases b:0<=i
 .rw[FM b]at h;by_cases a:i<n
  .rw[FM a]at h;have e:i.toNat=j:=IR h;exact⟨by rw[seqIndex_of b a,e],by lia,by lia,a⟩
  .rw[Da a]at h;cases h
 .rw[Da b]at h;by_cases a: -(n:Int)<=i
  .rw[FM a]at h;have e:(i+n).toNat=j:=IR h;exact⟨by rw[seqIndex_neg (by lia) a,e],by lia,a,by lia⟩
  .rw[Da a]at h;cases h
theorem qh{α:Type}{xs:List α}{i:Int}{v:α}(h:ie xs i=some v):∃j,seqIndex? i xs.length=some j/\xs[j]?=some v/\j<xs.length/\-(xs.length:Int)<=i/\i<xs.length:=by
 unfold ie at h;cases e:AE xs.length i with
 |none=>rw[e]at h;cases h
 |some j=>rw[e]at h;obtain⟨d,c,b,a⟩:=DO e;exact⟨j,d,h,c,b,a⟩
theorem qi{α:Type}{xs:List α}{j:Nat}{v:α}(h:xs[j]?=some v):ie xs (j:Int)=some v:=by
 have a:j<xs.length:=(GE.mp h).1;have e:AE xs.length (j:Int)=some j:=by unfold AE;rw[FM (by lia),FM (by lia)];simp
 unfold ie;rw[e];exact h
noncomputable def jg(b:Expr):Prop:=∀o i,subscripted b false o i=operate [o,i] (getItem o i)
noncomputable def DP(X:Cx)(r:R2):Prop:=
 ∀(c a:Expr)(b:List (Addr×Obj))(s:Shared)(d:St)(H:Hp)(x y:V)(v u:Value)(Q:VK),Inv X b d H s->RelV x v->RelV y u->r x y H Q->
  subscripted a false v u=operate [v,u] (getItem v u)->wpAny (model X.prog X.w) X.A (subscriptTail c a v u) (EP X b d Q) X.xe s
noncomputable def RP(X:Cx)(id:String)(r:V->List V->Hp->VK->Prop):Prop:=
 ∀(a:List (Addr×Obj))(s:Shared)(b:St)(H:Hp)(x:V)(c:List V)(v:Value)(d:List Value)(Q:VK),Inv X a b H s->RelV x v->Vals c d->r x c H Q->
  wpAny (model X.prog X.w) X.A (call (.builtin id) (v::d)) (EP X a b Q) X.xe s
section
variable{X:Cx}{a b:Expr}{ta tb:TE}{pos:Pos}
theorem DP.or{r j:R2}(h:DP X r)(h':DP X j):DP X (λx y H Q=>r x y H Q\/j x y H Q):=by
 intro c d e s f H x y v u Q I i g q k;rcases q with q|q
 .exact h c d e s f H x y v u Q I i g q k
 .exact h' c d e s f H x y v u Q I i g q k
theorem AF{r:R2}(i:DP X r)(k:PE X a ta)(j:PE X b tb)(g:jg b):PE X (.Subscript a b pos) (Vo r ta tb):=by intro c s d H Q I h;exact Subscript_ (RI k j I h λv u s2 x y m l f e q=>i a b c s2 d m x y v u Q l f e q (g _ _))
noncomputable def Oq(K:Frag):R2:=λx y H Q=>∃p c i v,x=.ref p/\y=.int i/\iH K H p c/\ie c i=some v/\Q v H
noncomputable def Ot(K:Frag):R2:=λx y H Q=>∃p c i v,x=.ref p/\y=.int i/\iB K H p c/\ie c i=some v/\Q v H
noncomputable def Ou:R2:=λx y H Q=>∃z i c,x=.str z/\y=.int i/\z.length<=sizeLine/\ie z.cps.toList i=some c/\Q (.str ⟨#[c]⟩) H
theorem DQ:DP X (Oq X.K):=by
 intro f g c s o H x y v u Q I F E h A;obtain⟨p,R,i,z,rfl,rfl,J,M,q⟩:=h;cases F;obtain⟨t,rfl⟩:=E;obtain⟨m,r,l,hz⟩:=I.list J;obtain⟨j,e,P,T,O,N⟩:=qh M;obtain⟨w,C,k⟩:=r.get P;have L:=r.length;have S:=mz;have d:EP X c o Q w s:=⟨z,H,I,k,q⟩;by_cases B:0<=i
 .have n:i.toNat=j:=by rw[seqIndex_of B N]at e;exact IR e
  exact item_listR l.isList B (by lia) (by rw[n];simpa using C) d A
 .have n:(i+(m.toArray.size:Int)).toNat=j:=by rw[seqIndex_neg (by lia) O]at e;rw[Fs,<-L];exact IR e
  exact subscriptTail_builtinR (x:=w) l.isList.typeIs slot_list_getitem.lookup
   (wpAny_getItem_list_neg (Q:=λr D=>r=w/\EP X c o Q r D) l.isList (by lia) (by rw[Fs]<;>lia) (by lia) (by rw[n];simpa using C) ⟨rfl,d⟩) A
theorem Jy:DP X (Ot X.K):=by
 intro d e c s k H x y v u Q I o n h B;obtain⟨p,M,i,z,rfl,rfl,C,E,q⟩:=h;cases o;obtain⟨t,rfl⟩:=n;obtain⟨A,r,l,hz⟩:=I.tuple C;obtain⟨j,J,F,R,P,O⟩:=qh E;obtain⟨w,L,f⟩:=r.get F;have D:=r.length;have N:=mz;have g:EP X c k Q w s:=⟨z,H,I,f,q⟩;exact subscriptTail_builtinR (x:=w) l.typeIs slot_tuple_getitem.lookup
  (getItem_tuple (j:=j) (Q:=λr m=>r=w/\EP X c k Q r m) l (by lia) (by lia) (by rw[Fs,<-D];exact J) (by simpa using L) ⟨rfl,g⟩) B
theorem Jz:DP X Ou:=by
 intro d e f s C H x y v u Q I l k h m;obtain⟨z,i,c,rfl,rfl,hz,o,q⟩:=h;obtain⟨t,rfl⟩:=l;obtain⟨D,rfl⟩:=k;obtain⟨j,g,w,F,r,p⟩:=qh o;have n:z.cps.toList.length=z.length:=by simp[Str.length]
 rw[n]at g r p;have E:=mz;exact tail_any (typeIs_str s z t) slot_str_getitem.lookup (getItem_str (c:=c) (by have B:decide (i< -(2^63:Int))=false:=Fn (by lia);have A:decide (i>=2^63)=false:=Fn (by lia);rw[B,A,QQ]) (by rw[g];simpa using w) ⟨.str ⟨#[c]⟩,H,I.tok _,⟨_,rfl⟩,q⟩) m
noncomputable def Vz(K:Frag):R2:=λx y H Q=>Oq K x y H Q\/Ot K x y H Q\/Ou x y H Q
theorem uM:DP X (Vz X.K):=DQ.or (Jy.or Jz)
theorem Inv.lst{c:List (Addr×Obj)}{d:St}{H:Hp}{s:Shared}{p:Addr}{xs:List V}(I:Inv X c d H s)(h:H p=some (.lst xs)):
 ∃(its:List Value)(n:Nat),Vals xs its/\s.heap.get? p=some {cls:=.type "list",data:=.seq its.toArray n}/\xs.length<=sizeLine:=by
 obtain⟨z,its,n,r,e⟩:=I.hok p _ h;exact⟨its,n,r,e,z⟩
theorem jh(c d:Option Int)(n:Nat):(sliceBounds c d none n).1=((HT.bO n 0 c:Nat):Int)/\(sliceBounds c d none n).2.1=((HT.bO n n d:Nat):Int)/\(sliceBounds c d none n).2.2=1:=by
 refine⟨?_,?_,rfl⟩
 .cases c with
  |none=>simp[sliceBounds,HT.bO]
  |some i=>
   simp only[sliceBounds,HT.bO,SK,show(1:Int)>0 by decide,YQ];by_cases h:i<0
   .simp only[h,YQ]<;>lia
   .simp only[h,YV]<;>lia
 .cases d with
  |none=>simp[sliceBounds,HT.bO]
  |some i=>
   simp only[sliceBounds,HT.bO,SK,show(1:Int)>0 by decide,YQ];by_cases h:i<0
   .simp only[h,YQ]<;>lia
   .simp only[h,YV]<;>lia
theorem oz(its:List Value)(c d:Option Int):slicePick its.toArray c d none=((its.drop (HT.bO its.length 0 c)).take (HT.bO its.length its.length d -HT.bO its.length 0 c)).toArray:=by obtain⟨g,f,e⟩:=jh c d its.toArray.size;unfold slicePick;rw[g,f,e];simp only[sliceRange_one,pick_run,Fs]<;>rfl
noncomputable def RQ(K:Frag):V->Option Int->Option Int->Hp->VK->Prop:=λx d e H Q=>∃a c,x=.ref a/\iH K H a c/\∀p,H p=none->Q (.ref p) (upd H p (.lst (rY c d e)))
theorem DR:HH X (RQ X.K):=by intro g s t H x v w u e f y Q I j p l k h;obtain⟨a,c,rfl,n,q⟩:=h;cases j;obtain⟨m,r,i,hz⟩:=I.list n;have d:=r.length;refine⟨"list",_,slot_list_getitem.lookup,i.isList.typeIs,?_⟩;refine wpAny_getItem_list_slice i.isList p l k .none (by simp) ?_ (by rw[Fs]<;>lia);rw[oz,<-d];refine⟨.ref s.heap.objs.size,_,I.laid (t':=s.toks) (o:=.lst (rY c e f)) (λb z q=>Bi _ q) (Bz _) ?_,rfl,q _ (I.hok.fresh (Bz _))⟩;exact⟨Gc (kL c e f) hz,_,0,(r.drop (HT.bO c.length 0 e)).take (HT.bO c.length c.length f -HT.bO c.length 0 e),Fu _ rfl⟩
noncomputable def jj:V->Bool
 |.aI=>true
 |.bl _=>true
 |.int _=>true
 |.str _=>true
 |_=>false
noncomputable def HJ:V->V->Bool
 |.aI,.aI=>true
 |.bl a,.bl b=>a==b
 |.bl a,.int b=>(if a then 1 else 0)==b
 |.int a,.bl b=>a==(if b then 1 else 0)
 |.int a,.int b=>a==b
 |.str a,.str b=>a==b
 |_,_=>false
theorem JA{A:Around}{s:Shared}{y x:V}{u v:Value}(e:RelV y u)(c:RelV x v)(g:jj y=true)(f:jj x=true):SeqAt.EqAt A s u v (HJ y x):=by
 cases y with
 |aI=>
  cases e;cases x with
  |aI=>cases c;exact SeqAt.EqAt.same _
  |bl b=>cases c;exact SeqAt.EqAt.none_bool b
  |int b=>obtain⟨t,rfl⟩:=c;exact SeqAt.EqAt.none_int b t
  |str b=>obtain⟨t,rfl⟩:=c;exact SeqAt.EqAt.none_str b t
  |_=>exact absurd (show false=true from f) Fh
 |bl a=>
  cases e;cases x with
  |aI=>cases c;exact SeqAt.EqAt.bool_none a
  |bl b=>cases c;exact SeqAt.EqAt.bool_bool a b
  |int b=>obtain⟨t,rfl⟩:=c;exact SeqAt.EqAt.bool_int a b t
  |str b=>obtain⟨t,rfl⟩:=c;exact SeqAt.EqAt.bool_str a b t
  |_=>exact absurd (show false=true from f) Fh
 |int a=>
  obtain⟨d,rfl⟩:=e;cases x with
  |aI=>cases c;exact SeqAt.EqAt.int_none a d
  |bl b=>cases c;exact SeqAt.EqAt.int_bool a d b
  |int b=>obtain⟨t,rfl⟩:=c;exact Y0 a d b t
  |str b=>obtain⟨t,rfl⟩:=c;exact SeqAt.EqAt.int_str a d b t
  |_=>exact absurd (show false=true from f) Fh
 |str a=>
  obtain⟨d,rfl⟩:=e;cases x with
  |aI=>cases c;exact SeqAt.EqAt.str_none a d
  |bl b=>cases c;exact SeqAt.EqAt.str_bool a d b
  |int b=>obtain⟨t,rfl⟩:=c;exact SeqAt.EqAt.str_int a d b t
  |str b=>obtain⟨t,rfl⟩:=c;exact SeqAt.EqAt.str_str a d b t
  |_=>exact absurd (show false=true from f) Fh
 |_=>exact absurd (show false=true from g) Fh
noncomputable def DS(x:V)(u:Value):Bool:=match u with
 |.none=>HJ .aI x
 |.bool b=>HJ (.bl b) x
 |.int i _=>HJ (.int i) x
 |.str z _=>HJ (.str z) x
 |_=>false
theorem AG{x y:V}{u:Value}(r:RelV y u)(f:jj y=true):DS x u=HJ y x:=by
 cases y with
 |aI=>cases r;rfl
 |bl b=>cases r;rfl
 |int i=>obtain⟨t,rfl⟩:=r;rfl
 |str z=>obtain⟨t,rfl⟩:=r;rfl
 |_=>exact absurd (show false=true from f) Fh
theorem qj{x:V}:∀{xs:List V}{us:List Value},Vals xs us->xs.all jj=true->us.any (DS x)=xs.any λy=>HJ y x
 |_,_,.nil,_=>rfl
 |y::xs,u::us,.cons r t,f=>by rw[BQ,AC]at f;rw[HB,HB,AG r f.1,qj t f.2]
theorem mH{A:Around}{s:Shared}{x:V}{v:Value}(d:RelV x v)(e:jj x=true):∀{xs:List V}{us:List Value},Vals xs us->xs.all jj=true->∀u∈us,SeqAt.EqAt A s u v (DS x u)
 |_,_,.nil,_=>λu c=>by cases c
 |y::xs,u::us,.cons r t,f=>λg c=>by
  rw[BQ,AC]at f;rcases FC.mp c with rfl|c
  .rw[AG r f.1];exact JA r d f.1 e
  .exact mH d e t f.2 g c
noncomputable def QS(x:V)(xs:List V):Bool:=xs.any λy=>HJ y x
noncomputable def VC(K:Frag)(d:Bool):R2:=λx y H Q=>∃p c,y=.ref p/\(iH K H p c\/iB K H p c)/\jj x=true/\c.all jj=true/\Q (.bl (if d then !QS x c else QS x c)) H
theorem pC:i7 X (compareOp .In) (VC X.K false):=by
 intro j s m H x y v u Q I i l h;obtain⟨p,n,rfl,d,k,e,q⟩:=h;cases l;rcases d with d|d
 .obtain⟨c,r,f,hz⟩:=I.list d;refine SeqAt.in_listAt (DS x) f.isList (λw g=>mH i k r e w (by simpa using g)) ⟨.bl _,H,I,rfl,?_⟩;rw[show c.toArray.any (DS x)=c.any (DS x) by simp,qj r e];exact q
 .obtain⟨c,r,f,hz⟩:=I.tuple d;refine SeqAt.in_tupleAt (DS x) f (λw g=>mH i k r e w (by simpa using g)) ⟨.bl _,H,I,rfl,?_⟩;rw[show c.toArray.any (DS x)=c.any (DS x) by simp,qj r e];exact q
theorem fX:aZ X (.builtin "len") (λxs H Q=>∃p d,xs=[.ref p]/\(iH X.K H p d\/iB X.K H p d)/\Q (.int d.length) H):=by
 intro j s l H xs m Q I r h;obtain⟨p,d,rfl,e,q⟩:=h;obtain⟨u,rfl,k⟩:=vals1 r;cases k;have n:=mz;rcases e with e|e
 .obtain⟨i,f,g,hz⟩:=I.list e;have c:=f.length;exact Calls.call_len_list g.isList (by simp only[Fs]<;>lia) ⟨.int d.length,H,I.tok _,⟨s.toks+1,by rw[Fs,c]⟩,q⟩
 .obtain⟨i,f,g,hz⟩:=I.tuple e;have c:=f.length;exact len_tuple g (by simp only[Fs]<;>lia) ⟨.int d.length,H,I.tok _,⟨s.toks+1,by rw[Fs,c]⟩,q⟩
theorem qk:aZ X (.builtin "len") (λxs H Q=>∃z,xs=[.str z]/\z.length<=sizeLine/\Q (.int z.length) H):=by intro c s d H xs e Q I r h;obtain⟨z,rfl,hz,q⟩:=h;obtain⟨u,rfl,t,rfl⟩:=vals1 r;have f:=mz;exact len_str (by lia) ⟨.int z.length,H,I.tok _,⟨_,rfl⟩,q⟩
theorem jk:aZ X (.type "list") (λxs H Q=>∃p f,xs=[.ref p]/\(iH X.K H p f\/iB X.K H p f)/\∀l,H l=none->Q (.ref l) (upd H l (.lst f))):=by
 intro j s B H xs D Q I r h;obtain⟨p,f,rfl,m,q⟩:=h;obtain⟨u,rfl,C⟩:=vals1 r;cases C;have v:∀(c:List Value),Vals f c->f.length<=sizeLine->∀(d:Heap)(i:Nat),(∀b A,s.heap.get? b=some A->d.get? b=some A)->
  d.get? s.heap.objs.size=some {cls:=.type "list",dict:=none,data:=.seq c.toArray i,slots:= #[]}->EP X j B Q (.ref s.heap.objs.size) {s with heap:=d}:=λc g hz d i k e=>
  ⟨.ref s.heap.objs.size,_,I.laid (t':=s.toks) k (Bz _) (show bq X.prog X.w _ d _ (.lst f)from⟨hz,c,i,g,e⟩),rfl,q _ (I.hok.fresh (Bz _))⟩
 rcases m with m|m
 .obtain⟨c,g,x,hz⟩:=I.list m;have t:=g.length;obtain⟨o,y,z,n,hd⟩:=x.isList;exact call_list_seq p (.inl rfl) y z hd (λd i k e=>v c g hz d i k e) (by simp only[Fs]<;>lia)
 .obtain⟨c,g,x,hz⟩:=I.tuple m;have t:=g.length;obtain⟨o,y,z,n,hd⟩:=x;exact call_list_seq p (.inr rfl) y z hd (λd i k e=>v c g hz d i k e) (by simp only[Fs]<;>lia)
theorem eX:aZ X (.type "tuple") (λxs H Q=>∃p f,xs=[.ref p]/\((iH X.K H p f/\∀l,H l=none->Q (.ref l) (upd H l (.tup f)))\/(iB X.K H p f/\Q (.ref p) H))):=by
 intro c s m H xs z Q I r h;obtain⟨p,f,rfl,h⟩:=h;obtain⟨u,rfl,v⟩:=vals1 r;cases v;rcases h with⟨k,q⟩|⟨k,q⟩
 .obtain⟨d,i,j,hz⟩:=I.list k;have n:=i.length;refine call_tuple_list j.isList (λg x=>?_) (by simp only[Fs]<;>lia);have t:Inv X c m H {s with heap:=g}:=I.kept (t':=s.toks) x;have y:Inv X c m (upd H g.objs.size (.tup f)) {s with heap:=g.push {cls:=.type "tuple",data:=.seq d.toArray}}:=
   t.laid (t':=s.toks) (λb o e=>Bi _ e) (Bz _) (show bq X.prog X.w _ _ _ (.tup f)from⟨hz,d,i,IsTup.new _ _⟩)
  exact⟨.ref g.objs.size,_,y,rfl,q _ (t.hok.fresh (Bz _))⟩
 .obtain⟨d,i,j,hz⟩:=I.tuple k;exact call_tuple_same j ⟨.ref p,H,I,rfl,q⟩
noncomputable def RS(K:Frag)(T:String)(x:V)(H:Hp):Prop:=match x with
 |.str _=>T="str"
 |.int _=>T="int"
 |.ref p=>(T="list"/\∃d,iH K H p d)\/(T="tuple"/\∃o,K.lookup p=some o/\o.cls=.type "tuple"/\o.dict=none)\/
   (T="dict"/\((∃c,H p=some (.dK c))\/∃c,H p=some (.dT c)))\/(T="set"/\∃S n,H p=some (.set S n))
 |_=>False
theorem AH{f:List (Addr×Obj)}{m:St}{H:Hp}{s:Shared}{T:String}{x:V}{v:Value}(I:Inv X f m H s)(r:RelV x v)(g:RS X.K T x H):
 s.TypeIs v T/\∀a,v=.ref a->∃l,s.heap.get? a=some l/\l.dict=none:=by
 cases x with
 |str z=>obtain⟨t,rfl⟩:=r;cases(show T="str"from g);exact⟨typeIs_str s z t,λ_ e=>nomatch e⟩
 |int i=>obtain⟨t,rfl⟩:=r;cases(show T="int"from g);exact⟨typeIs_int s i t,λ_ e=>nomatch e⟩
 |ref p=>
  cases r;rcases g with⟨rfl,y,u⟩|⟨rfl,o,d,w,hd⟩|⟨rfl,d⟩|⟨rfl,S,n,d⟩
  .obtain⟨q,_,k,_⟩:=I.list u;refine⟨k.isList.typeIs,λa e=>?_⟩;cases e;obtain⟨o,n,e,c,hd,_⟩:=k;exact⟨o,e,hd⟩
  .refine⟨⟨o,I.jO p o d,w⟩,λa e=>?_⟩;cases e;exact⟨o,I.jO _ o d,hd⟩
  .have z:∃o,s.heap.get? p=some o/\o.ExactDict:=by
    rcases d with⟨h,d⟩|⟨h,d⟩
    .obtain⟨_,_,_,_,o,_,_,e,ex,_⟩:=I.hok p _ d;exact⟨o,e,ex⟩
    .obtain⟨_,_,_,_,o,_,_,e,ex,_⟩:=I.hok p _ d;exact⟨o,e,ex⟩
   obtain⟨o,e,ex⟩:=z;refine⟨⟨o,e,ex.1⟩,λa j=>?_⟩;cases j;exact⟨o,e,ex.2.1⟩
  .obtain⟨o,_,_,_,e,ex,_⟩:=I.hok p _ d;refine⟨⟨o,e,ex.1⟩,λa j=>?_⟩;cases j;exact⟨o,e,ex.2.1⟩
 |_=>exact Ed g
noncomputable def Ov(K:Frag)(T:String)(r:V->List V->Hp->VK->Prop)(e:TE):TE:=λd H Q=>e d H λx c=>RS K T x c/\r x [] c Q
noncomputable def Ow(K:Frag)(T:String)(r:V->List V->Hp->VK->Prop)(f:TE)(t:TA):TE:=λc H Q=>f c H λx d=>RS K T x d/\t c d λe g=>r x e g Q
variable{o e:Expr}{es:List Expr}{to:TE}{t:TA}{name:Str}{apos cpos:Pos}{T id:String}{r:V->List V->Hp->VK->Prop}
theorem JB(q:PlainAttrs T)(g:Slot T name id)(i:typeOf (.builtin id)=pure (.type "method_descriptor"))(w:RP X id r)(u:PE X o to)
 (f:attributeBase o name X.env (eval o X.env)=eval o X.env:=by rfl)(d:(apos.endLine==cpos.line)=true:=by rfl):PE X (.Call (.Attribute o name apos) [] [] cpos) (Ov X.K T r to):=by
 intro c s j H Q I h;refine wpAny_Call_method0_late f d (bC (u c s j H _ I h) λv n ⟨x,A,l,k,m,p⟩=>?_);obtain⟨z,y⟩:=AH l k m;exact⟨T,id,q,g,i,z,y,Calls.callWith_builtin rfl (PySem.evalArgs_none (w c n j A x [] v [] Q l k .nil p))⟩
theorem rZ(C:PlainAttrs T)(i:Slot T name id)(l:typeOf (.builtin id)=pure (.type "method_descriptor"))(F:RP X id r)(E:PE X o to)(J:PA X (e::es) t)
 (g:attributeBase o name X.env (eval o X.env)=eval o X.env:=by rfl)
 (j:((backTo cpos (starEach (e::es) X.env)).all (λx=>!x.1)&&(backToKw cpos (keywordEach [] X.env)).all (λx=>x.1.isSome)
   &&decide ((e::es).length+([]:List Keyword).length+(if([]:List Keyword).isEmpty then 0 else 1)<30))=true:=by rfl)
 (f:(apos.endLine==cpos.line)=true:=by rfl)(D:starEach (e::es) X.env=(false,eval e X.env)::starEach es X.env:=by rfl)(d:(backTo cpos (starEach es X.env)).any (·.1)=false:=by rfl):
 PE X (.Call (.Attribute o name apos) (e::es) [] cpos) (Ow X.K T r to t):=by
 intro c s k H Q I h;refine wpAny_Call_method_late g j f rfl (bC (E c s k H _ I h) λv y ⟨x,P,p,m,w,B⟩=>?_);obtain⟨M,L⟩:=AH p m w;refine⟨T,id,C,i,l,M,L,?_⟩;have n:=J cpos c y k P _ p B;rw[D]at n⊢;refine Calls.callWith_builtin (by show(false||(backTo cpos (starEach es X.env)).any (·.1))=false;rw[d]<;>rfl) (Calls.evalArgs_plain ?_);exact bC n λu s2 ⟨q,O,N,z,A⟩=>F c s2 k O x q v u Q N m z A
end
noncomputable def RT(X:Cx)(id:String)(r:V->List V->Hp->VK->Prop):Prop:=
 ∀(a:List (Addr×Obj))(s:Shared)(b:St)(H:Hp)(x:V)(c:List V)(v:Value)(d:List Value)(Q:VK),Inv X a b H s->RelV x v->Vals c d->r x c H Q->
  wpAny (model X.prog X.w) X.A (call (.builtin id) (v::d)) (EP X a b Q) X.xe s
theorem Vals.one{x:V}{us:List Value}(h:Vals [x] us):∃u,us=[u]/\RelV x u:=by
 cases h with
 |cons r h=>
  cases h;exact⟨_,rfl,r⟩
theorem Vals.zero:∀{us:List Value},Vals [] us->us=[]
 |_,.nil=>rfl
theorem Vals.dropLast{xs:List V}{us:List Value}(h:Vals xs us):Vals xs.dropLast us.dropLast:=by
 induction h with
 |nil=>exact .nil
 |cons r t a=>
  cases t with
  |nil=>exact .nil
  |cons q b=>exact .cons r a
theorem Vals.reverse{xs:List V}{us:List Value}(h:Vals xs us):Vals xs.reverse us.reverse:=by
 induction h with
 |nil=>exact .nil
 |cons r t a=>rw[Ta,Ta];exact Vals.append a (.cons r .nil)
theorem Vals.rep{xs:List V}{us:List Value}(h:Vals xs us):∀k:Nat,Vals (A0 k xs).flatten (A0 k us).flatten
 |0=>.nil
 |k+1=>by rw[Ej,Ej,Gq,Gq];exact Vals.append h (Vals.rep h k)
theorem foldl_rep(its:List Value):∀(k:Nat)(a:List Value),
 Sj (λc b=>c++b) a.toArray (A0 k its.toArray)=(a++(A0 k its).flatten).toArray
 |0,a=>by simp
 |k+1,a=>by
  have e:a.toArray++its.toArray=(a++its).toArray:=by simp
  have d:(a++its)++(A0 k its).flatten=a++(A0 (k+1) its).flatten:=by rw[Ej,Gq,PH]
  rw[<-d,<-foldl_rep its k (a++its),<-e,Ej,List.foldl_cons]
section
variable{X:Cx}{pins:List (Addr×Obj)}{σ:St}{H:Hp}{s:Shared}{l b:Addr}{xs ys zs:List V}
theorem Inv.JC{its its':List Value}{n:Nat}{f:Array Value->Array Value}{t':Nat}(I:Inv X pins σ H s)(h:H l=some (.lst xs))
 (e:s.heap.get? l=some {cls:=.type "list",data:=.seq its.toArray n})(d:f its.toArray=its'.toArray)(a:Vals ys its')(hz:ys.length<=sizeLine):
 Inv X pins σ (upd H l (.lst ys)) {s with heap:=s.heap.update l (Obj.mapSeq f),toks:=t'}:=by
 have q:=PySem.IsL.update e f;rw[d]at q;refine I.write (x:=l) (e:=l) (by rw[h];exact trivial) (.inl rfl) (λi u g c=>(Kb s.heap (Obj.mapSeq f) (Ki g)).trans c) ⟨_,q⟩ ?_;exact⟨hz,its',_,a,q⟩
theorem Inv.Ox{its:List Value}{t':Nat}(I:Inv X pins σ H s)(a:Vals ys its)(hz:ys.length<=sizeLine):
 Inv X pins σ (upd H s.heap.objs.size (.lst ys)) {s with heap:=s.heap.push {cls:=.type "list",data:=.seq its.toArray},toks:=t'}:=
 I.laid (λ_ _ q=>Bi _ q) (Bz _) ⟨hz,its,0,a,Fu _ rfl⟩
theorem Inv.fresh(I:Inv X pins σ H s):H s.heap.objs.size=none:=I.hok.fresh (Bz _)
theorem Inv.DU(I:Inv X pins σ H s)(a:H l=some (.lst xs)):xs.length<=sizeLine/\∃(its:List Value)(n:Nat),Vals xs its/\xs.length=its.length/\s.heap.get? l=some {cls:=.type "list",data:=.seq its.toArray n}:=by obtain⟨z,its,n,r,e⟩:=I.hok l _ a;exact⟨z,its,n,r,r.length,e⟩
theorem r6{n:Nat}(h:n<=sizeLine):Builtin.List.listTooLong n=false:=by unfold Builtin.List.listTooLong;exact Fn (by lia)
end
section
variable{X:Cx}
noncomputable def lQ:V->List V->Hp->VK->Prop:=λx b H Q=>∃l a y,x=.ref l/\b=[y]/\H l=some (.lst a)/\a.length<sizeLine/\Q .aI (upd H l (.lst (a++[y])))
theorem gP:RT X "list.append" lQ:=by intro b s g H x j v k Q I d rv h;obtain⟨l,i,y,rfl,rfl,c,hz,q⟩:=h;cases d;obtain⟨u,rfl,f⟩:=rv.one;obtain⟨z,a,n,r,m,e⟩:=I.DU c;refine call_meets F.slot_list_append ⟨_,e,rfl⟩ F.entry_list_append (F.args_list_append_2 _ _) (PySem.list_append l a.toArray n u (by rw[Fs];lia)) ⟨e,?_⟩;refine⟨.aI,_,I.JC (its':=a++[u]) c e (by simp) (r.append (.cons f .nil)) ?_,rfl,q⟩;rw[Dx,Gp];lia
noncomputable def v9:V->List V->Hp->VK->Prop:=λx d H Q=>∃l b c a,x=.ref l/\d=[.ref b]/\H l=some (.lst c)/\H b=some (.lst a)/\c.length+a.length<=sizeLine/\Q .aI (upd H l (.lst (c++a)))
theorem yo:RT X "list.extend" v9:=by
 intro f s y H x D v E Q I i rv h;obtain⟨l,b,C,A,rfl,rfl,g,p,hz,q⟩:=h;cases i;obtain⟨u,rfl,j⟩:=rv.one;cases j;obtain⟨z,c,n,r,J,e⟩:=I.DU g;obtain⟨B,a,m,k,o,t⟩:=I.DU p;have d:c.toArray.size+a.toArray.size<=sizeLine:=by rw[Fs,Fs];lia
 have w:¬(!c.toArray.isEmpty&&Builtin.List.listTooLong (c.toArray.size+a.toArray.size))=true:=by rw[r6 d,SZ];exact Fh
 refine call_meets F.slot_list_extend ⟨_,e,rfl⟩ F.entry_list_extend (F.args_list_extend_2 _ _)
  (AutoSeq1.list_extend_list_list_0 l c.toArray n b a.toArray m w (by rw[Fs];lia) (by lia)) ⟨e,t,?_⟩
 refine⟨.aI,_,I.JC (its':=c++a) g e (by simp) (r.append k) ?_,rfl,q⟩;rw[Dx];lia
noncomputable def r8:V->List V->Hp->VK->Prop:=λx b H Q=>∃l a,x=.ref l/\b=[]/\H l=some (.lst a)/\Q .aI (upd H l (.lst a.reverse))
theorem uN:RT X "list.reverse" r8:=by intro b s g H x j v k Q I d rv h;obtain⟨l,i,rfl,rfl,c,q⟩:=h;cases d;have f:=rv.zero;subst f;obtain⟨z,a,n,r,m,e⟩:=I.DU c;refine call_meets F.slot_list_reverse ⟨_,e,rfl⟩ F.entry_list_reverse (F.args_list_reverse_1 _) (AutoSeq1.list_reverse_list_0 l a.toArray n (by rw[Fs];lia)) ⟨e,?_⟩;refine⟨.aI,_,I.JC (its':=a.reverse) c e (by simp) r.reverse ?_,rfl,q⟩;rw[List.length_reverse];lia
theorem len_rep{α:Type}(xs:List α)(k:Nat):(A0 k xs).flatten.length=k*xs.length:=by
 induction k with
 |zero=>simp
 |succ k a=>rw[Ej,Gq,Dx,a,Nat.succ_mul,Nat.add_comm]
end
section
variable{prog:Program}{w:World}{A:Around}{E:Value->Shared->Prop}{s:Shared}
end
section
variable{X:Cx}
end
end L2
namespace Up
open PySem PySem.W PySem.Calls PyProof.Rows
theorem kY{P:Params}{h:Heap}:∀(c:List Int)(vs:List Value),WellAll P h vs (c.map WData.int)->IntsAre vs c:=by
 intro c
 induction c with
 |nil=>intro vs w;rw[Y6]at w;cases w;exact .nil
 |cons n c d=>
  intro vs w;rw[Ha]at w;cases w with
  |cons a b=>
   cases a;exact .cons _ _ (d _ b)
theorem yp{l:OpenLaw}{n:Nat}(v:l.most=some n){P:Params}{h:Heap}{args:List WData}{c:List Value}
 (e:l.row.toRowW.claim.pre args=true)(k:WellAll P h c args):
 ∃a vs b,c=[Value.ref a]/\args=[WData.list (b.map WData.int)]/\h.get? a=some {cls:=.type "list",data:=.seq vs.toArray}/\IntsAre vs b/\b.length<=n:=by
 have m:WShape.hasAll [] args [.list .int]=true:=(pre_splitW e).1;have o:l.pre.holds [] {args:=args}=true:=(pre_splitW e).2;obtain⟨d,r,rfl,y,x⟩:=hasAllW_cons m;obtain rfl:=hasAllW_nil x;obtain⟨z,rfl,w⟩:=hasW_list y;obtain⟨b,rfl⟩:=items_int w;have f:b.length<=n:=by
  unfold OpenLaw.pre at o;have j:(WTm.not (.lt (.lit (.int (n:Int))) (.len (.arg 0)))).holds [] {args:=[.list (b.map .int)]}=true:=by have j:=(holds_andW o).1;rw[v]at j;exact j
  have i:=condW_of j (w_not (w_lt w_lit (w_len_list (w_arg rfl))));rw[Ee]at i;refine U8 λq=>?_;have t:(n:Int)<((b.length:Nat):Int):=by lia
  first
   |(rw[GM t]at i;exact absurd i (by decide))
   |(simp at i;lia)
 cases k with
 |cons s p=>
  cases p;cases s with
  |list u g=>exact⟨_,_,b,rfl,rfl,u,kY b _ g,f⟩
theorem yq(l:OpenLaw)(args:List WData):l.row.toRowW.claim.post args (.bool true) args=true:=
 postW_of (r:=l.row.toRowW) (X:=(true==true))
  (show WShape.has [] (.bool true) .bool=true by first|rfl|decide|simp[WShape.has,WShape.arms,WShape.armsAll])
  (show(WTm.eq .res (.lit (.bool true))).value [] {args:=args,res:=some (.bool true),after:=args}=some (.bool (true==true))from w_eq_bool (w_res rfl) w_lit) rfl
theorem r9{l:OpenLaw}{n:Nat}{q:Program}{e:List Str}{H:(Str->Option Value)->Heap->Prop}{F:World->Heap->Prop}{d:DefRec}
 (L:l.most=some n)(z:d.params.defaults=[])
 (call:∀(w:World)(c b:Shared)(s v:Str->Option Value)(m:Addr)(o:Obj)(u t h:Value)(a:Addr)(vs:List Value)(p:List Int),
   Ground q e [] H w c s v b.heap->F w b.heap->
   b.heap.get? m=some o->o.data=.func (docDef d.name d.params d.body d.scope u t h)->b.heap.CodeRec t d.name->s d.name=some (.ref m)->
   b.heap.get? a=some {cls:=.type "list",data:=.seq vs.toArray}->IntsAre vs p->p.length<=n->b.gens= #[]->
   codeAny (model l.prog w) callerA (.call (.ref m) ⟨[.ref a],[]⟩) (λr s'=>r=.ok (.ret (.bool true))/\OldK b.heap s'.heap/\s'.os=b.os/\AllBare s'.gens) b):
 WalkO q e H F l.row.toRowW d [] (λf vs=>PySem.call f vs):=by
 intro w c b s v G Y m o u t h S kV K hd A D y O E B T i C I x N;obtain rfl:S=.none:=Dflts.none D z;obtain rfl:kV=.none:=Dflts.noKw D;obtain⟨a,vs,p,rfl,rfl,j,g,k⟩:=yp L i x;refine enter_call (Tb (call w c b s v m o u t h a vs p G Y K (fd_plain hd) A y j g k O) λr s' J=>?_);obtain⟨rfl,R,Q,P⟩:=J;exact⟨.inl ⟨.bool true,.bool true,[],rfl,λ_=>rfl,.bool true,yq l _,λ_=>⟨M4,λ_ M=>(nomatch M)⟩⟩,R,Q,P⟩
section
variable{prog:Program}{w:World}{A:Around}{E:Value->Shared->Prop}{s:Shared}{K:Frag}
end
end Up
namespace L2
open PySem PySem.Spec PyProof.Rows
theorem pD:∀{vs:List Value}{a:List Int},IntsAre vs a->Vals (a.map V.int) vs
 |_,_,.nil=>.nil
 |_,_,.cons n t h=>.cons ⟨t,rfl⟩ (pD h)
noncomputable def AJ(H:Hp):Prop:=∀b,H b=none\/∃o a,H b=some (.uo o (.lst a))
theorem AK{P:Program}{w:World}{K:Frag}{t O:Str->Option Value}{CX:yj}{k:Nat}{S a:Addr}{fd:FuncData}{x:Str}{sp:Sp}{c:Shared}{vs:List Value}{p:List Int}
 (KX:K.In c.heap)(A:c.heap.Ns mainGlobals t)(f:c.heap.Ns builtinsNs O)(C9:∀x:Str,x≠"__name__"->O x=bootBuiltins x)(B:c.heap.NoLimit)(L:c.heap.NoSeer)(Oz:P.given.tree=none)(hg:c.gens= #[])
 (C:c.heap.get? a=some {cls:=.type "list",data:=.seq vs.toArray})(Y:IntsAre vs p)(X:p.length<=sizeLine)(hr:cC k callerA)
 (F:∀base:Heap,K.In base->base.Ns mainGlobals t->bE P w K t base CX k S fd [x] sp)(j:∀(s:Shared)(u:Value),BindsTo s fd ⟨[u],[]⟩ [(x,u)])
 (uJ:∀H:Hp,AJ H->iH K H a (p.map V.int)->sp [.ref a] H (λv _=>v=.bl true) λ_ _ _=>False)
 (RU:∀H e s',CX [] H c (λ_ _ _=>False) e s'->False):
 codeAny (model P w) callerA (.call (.ref S) ⟨[.ref a],[]⟩) (λr s'=>r=.ok (.ret (.bool true))/\OldK c.heap s'.heap/\s'.os=c.os/\AllBare s'.gens) c:=by
 have rv:=pD Y;have RV:=Y.length;have g:∀H:Hp,AJ H->iH K H a (p.map V.int)->gv P w H c.heap->(∀b,H b≠none->b=a)->(H a≠none->K.lookup a=none)->
  codeAny (model P w) callerA (.call (.ref S) ⟨[.ref a],[]⟩) (λr s'=>r=.ok (.ret (.bool true))/\OldK c.heap s'.heap/\s'.os=c.os/\AllBare s'.gens) c:=by
  intro H Z hS y R hK;have M:∀{b:Addr}{o:Obj},c.heap.get? b=some o->H b=none->(qa c.heap H).get? b=some o:=λe n=>Ac e n;have Oi:∀{b:Addr}{o:Obj}{D:Array DictEntry}{E:Nat},c.heap.get? b=some o->o.data=.dict D E->H b=none:=λ{b o D E} e d=>by
   cases q:H b with
   |none=>rfl
   |some u=>have I:b=a:=R b (by rw[q];simp);subst I;rw[C]at e;cases e;have T:Data.seq vs.toArray _=Data.dict D E:=d;cases T
  have i:∀{b:Addr}{m:Str->Option Value},c.heap.Ns b m->(qa c.heap H).Ns b m:=λ{b m} ⟨o,D,E,e,d,r⟩=>⟨o,D,E,M e (Oi e d),d,r⟩;have Uq:K.In (qa c.heap H):=λb o e=>M (KX b o e) (by
   cases q:H b with
   |none=>rfl
   |some u=>have I:b=a:=R b (by rw[q];simp);subst I;rw[hK (by rw[q];simp)]at e;cases e)
  have VF:∀{b:Addr}{o:Obj},c.heap.get? b=some o->o.cls=.type "module"->H b=none:=λ{b o} e d=>by
   cases q:H b with
   |none=>rfl
   |some u=>have I:b=a:=R b (by rw[q];simp);subst I;rw[C]at e;cases e;have T:Value.type "list"=Value.type "module":=d;exact absurd T (by decide)
  have hM:Mod K t (qa c.heap H):=⟨Uq,i A,⟨O,i f,C9⟩,let⟨mc,h1,h2⟩:=B;⟨mc,i h1,h2⟩,⟨let⟨m,h1,h2⟩:=L.statics;⟨m,i h1,h2⟩,let⟨m,h1,h2⟩:=L.mods;⟨m,i h1,h2⟩,let⟨m,h1,h2⟩:=L.imp;⟨m,i h1,h2⟩,let⟨m,bm,N,h1,h2,h3,h4,h5⟩:=L.main;⟨m,bm,N,i h1,h2,M h3 (VF h3 h4),h4,h5⟩⟩⟩;have e0:uI P w K t (qa c.heap H) callerA [] c H:=⟨rfl,hM,λb o e=>Dl e,Nm (x6 _ _),trivial,λb f=>absurd (show b∈([]:List Addr)from f) (by simp),y,.of_eq hg,Oz⟩;refine Tb ((F _ Uq (i A)).run callerA [] c H ⟨[.ref a],[]⟩ [.ref a] [.ref a] _ _ hr e0 (j c (.ref a)) (.cons rfl .nil) (uJ H Z hS)) λr s' h=>?_;cases r with
  |error e=>exact(RU H e s' h).elim
  |ok fl=>
   cases fl with
   |next=>exact Ed h
   |brk=>exact Ed h
   |cont=>exact Ed h
   |ret u=>
    obtain⟨v,H',os,J,U,RW,r',q⟩:=h;have q':v=.bl true:=q;subst q';obtain rfl:u=Value.bool true:=r';refine⟨rfl,OldK.of_keep λb o e=>?_,os,J⟩;cases q:H b with
    |none=>exact U.keep b o e q (by intro z;exact absurd (show b∈([]:List Addr)from z) (by simp)) (by simp)
    |some u=>
     rcases Z b with z|⟨N,xs,z⟩
     .rw[q]at z;cases z
     .have z2:=U.jN b N _ z;obtain⟨e1,_⟩:=y b _ z;obtain⟨e2,_⟩:=RW b _ z2;rw[e]at e1;cases e1;exact e2
 cases Q:K.lookup a with
 |some o=>have e:=KX a o Q;rw[C]at e;cases e;refine g (λ_=>none) (λ_=>.inl rfl) (.inr ⟨_,vs.toArray,_,Q,rfl,rfl,rfl,by rw[Fs,RV];exact X,by simpa using rv⟩) (λb u z=>by have l:(none:Option HO)=some u:=z;cases l) (λb z=>absurd rfl z) λz=>absurd rfl z
 |none=>
  refine g (λb=>if b=a then some (.uo {cls:=.type "list",data:=.seq vs.toArray} (.lst (p.map V.int)))else none) (λb=>?_) (.inl (.inr ⟨{cls:=.type "list",data:=.seq vs.toArray},FM rfl⟩)) (λb u z=>?_) (λb z=>?_) λ_=>Q
  .by_cases f:b=a
   .exact .inr ⟨_,_,FM f⟩
   .exact .inl (Da f)
  .by_cases f:b=a
   .have l:=(FM f).symm.trans z;cases l;subst f;exact⟨C,by rw[Ee];exact X,vs,_,rv,C⟩
   .have l:=(Da f).symm.trans z;cases l
  .by_cases f:b=a
   .exact f
   .exact absurd (Da f) z
theorem DW{l:PySem.W.OpenLaw}{n k:Nat}{q:Program}{i:List Str}{XP:(Str->Option Value)->Heap->Prop}{I:World->Heap->Prop}{d:DefRec}{K:Params->Frag}{CX:World->yj}{sp:World->Sp}{x:Str}
 (N:l.most=some n)(A:n<=sizeLine)(C:d.params.defaults=[])(M:cC k callerA)(RX:importsNone q=true)(z:l.prog.given.tree=none)
 (R:∀(w:World)(h:Heap),I w h->(K w.params).In h)
 (F:∀(w:World)(m:Str->Option Value)(y:Addr)(h:Heap),(K w.params).In h->h.Ns mainGlobals m->m d.name=some (.ref y)->
   ∃D:FuncData,(∀(s:Shared)(u:Value),BindsTo s D ⟨[u],[]⟩ [(x,u)])/\
    ∀base:Heap,(K w.params).In base->base.Ns mainGlobals m->bE l.prog w (K w.params) m base (CX w) k y D [x] (sp w))
 (L:∀(w:World)(H:Hp)(a:Addr)(t:List Int),t.length<=n->AJ H->iH (K w.params) H a (t.map V.int)->sp w [.ref a] H (λv _=>v=.bl true) λ_ _ _=>False)
 (RU:∀(w:World)(H:Hp)(s:Shared)(e:Value)(s':Shared),CX w [] H s (λ_ _ _=>False) e s'->False):
 PySem.W.WalkO q i XP I l.row.toRowW d [] (λf vs=>PySem.call f vs):=by
 refine Up.r9 N C λw E p m mb y o pm cd Z a vs t G Y ho hd P B r j c O=>?_;have J:=R w _ Y;obtain⟨D,Q,X⟩:=F w m y _ J G.T.g B;exact AK J G.T.g G.T.b G.T.builtins G.T.nolimit (G.T.seer RX) z O r j (Gc c A) M X Q (λH U S=>L w H a t c U S) λH e s'=>RU w H p e s'
noncomputable def inClass(s:Stmt)(j:Nat):Stmt:=match s with
 |.ClassDef _ _ _ body _ _ _ _ _ _ _=>body.getD j (.Pass ⟨0,0,0,0⟩)
 |_=>.Pass ⟨0,0,0,0⟩
noncomputable def bF(s:Stmt):Arguments:=match s with
 |.FunctionDef _ a _ _ _ _ _ _ _ _=>a
 |_=>{posonlyargs:=[],args:=[],vararg:=none,kwonlyargs:=[],kw_defaults:=[],kwarg:=none,defaults:=[]}
noncomputable def aS(s:Stmt):List Stmt:=match s with
 |.FunctionDef _ _ b _ _ _ _ _ _ _=>b
 |_=>[]
noncomputable def ak(s:Stmt):Scope:=match s with
 |.FunctionDef _ _ _ _ _ _ sc _ _ _=>sc
 |_=>{kind:=.function,names:=[],isGenerator:=false,isCoroutine:=false}
abbrev OA:yj:=λ_ _ _ _ _ _=>False
abbrev E0:XK:=λ_ _ _=>False
structure AL(K:Frag)(x qual:Str)(st:Stmt)(f:Addr)(fd:FuncData):Prop where
 ex:∃(oc:Value)(od:Option Addr)(kV doc pm:Value)(an:Option Addr)(cdv ct:Value)(osl:Array (Option Value)),
  fd=fnOf x qual (bF st) (aS st) (ak st) .none kV doc pm an cdv ct/\K.lookup f=some ⟨oc,od,.func fd,osl⟩/\codeIn K cdv qual=true
 kp:keepIn K (.ref f)=true
section
variable{P:Program}{w:World}{K:Frag}{mg:Str->Option Value}{base:Heap}
theorem AL.binds{x a:Str}{st:Stmt}{f:Addr}{i:FuncData}{ps:List Str}(F:AL K x a st f i)
 (h:∀(kV b d:Value)(g:Option Addr)(c e:Value)(us:List Value),us.length=ps.length->bindArgs (fnOf x a (bF st) (aS st) (ak st) .none kV b d g c e) ⟨us,[]⟩=pure (ps.zip us)):Binds K i ps []:=by
 obtain⟨m,l,kV,b,d,g,c,e,j,rfl,n,k⟩:=F.ex;exact .all (h kV b d g c e)
theorem AM{x a:Str}{st:Stmt}{f:Addr}{m:Value}{j i:Option Addr}{e:Array (Option Value)}{kV d g b h:Value}(l:K.lookup f=some ⟨m,j,.func (fnOf x a (bF st) (aS st) (ak st) .none kV d g i b h),e⟩)
 (c:codeIn K b a=true)(k:keepIn K (.ref f)=true):AL K x a st f (fnOf x a (bF st) (aS st) (ak st) .none kV d g i b h):=⟨⟨m,j,kV,d,g,i,b,h,e,rfl,l,c⟩,k⟩
end
section
variable{X:Cx}
theorem pv(i:Nat){x:Str}{pos:Pos}(c:X.N[i]?=some x:=by rfl)(b:NI X.env.scope x:=by first|exact Or.inl rfl|exact Vw (Or.inl rfl)|exact Vw (Vw rfl))(hd:(x==("__debug__":Str))=false:=by decide)
 (a:(x==("__classdict__":Str))=false:=by decide):PE X (.Name x pos) (jc i):=Af c b hd a
end
noncomputable def au(H H':Hp):Prop:=∀b o,H b=some o->H' b=some o
theorem au.refl(H:Hp):au H H:=λ_ _ h=>h
theorem au.trans{H H1 d:Hp}(a:au H H1)(b:au H1 d):au H d:=λc o h=>b c o (a c o h)
theorem au.free{H H':Hp}(e:au H H'){l:Addr}(h:H' l=Uj):H l=Uj:=by
 cases q:H l with
 |none=>rfl
 |some o=>rw[e l o q]at h;cases h
theorem bits_le{x:Int}{n:Nat}(h:x.natAbs<2^n):Builtin.Int.intBits x<=n:=by
 unfold Builtin.Int.intBits;split
 .exact L9 _
 .rename_i hx
  have a:x.natAbs≠0:=λe=>hx (by simp[Int.natAbs_eq_zero.mp e]);have:=(SA a).mpr h;omega
theorem uO{i j:Int}(h:Builtin.Int.intBits i+Builtin.Int.intBits j<=134217728):IntMulOk i j:=by
 unfold IntMulOk Builtin.Int.intTooBig;have a:¬((Builtin.Int.intBits i:Int)+(Builtin.Int.intBits j:Int)>((bitsLine:Nat):Int)):=by rw[bitsLine_eq];omega
 intro z;rw[AC]at z;exact a (Ap z.2)
section
variable{X:Cx}
theorem DX:i7 X (binaryOp .Mult) (rI IntMulOk λi j=>.int (i*j)):=N6 λ_ _ _ _ _ _ _ a q=>mul_int q a
noncomputable def sd(_ j:Int):Prop:=j≠0/\j.natAbs.log2<1000000000
theorem AO:i7 X (binaryOp .FloorDiv) (rI sd λi j=>.int (i.fdiv j)):=λa s e H x y v u Q I c b h=>by obtain⟨i,j,rfl,rfl,d,q⟩:=h;obtain⟨t,rfl⟩:=c;obtain⟨f,rfl⟩:=b;exact floordiv_int d.1 ⟨.int (i.fdiv j),H,I.tok _,⟨_,rfl⟩,q⟩ (.inr (I.ok.QL X.A s rfl rfl I.bk))
end
theorem aF{H:Hp}{p:Addr}(h:H p=none)(o:HO):au H (upd H p o):=λb u q=>by rw[ay (bw q h)];exact q
theorem au.tup{K:Frag}{H H':Hp}{a:Addr}{xs:List V}(e:au H H')(h:iB K H a xs):iB K H' a xs:=by
 rcases h with(h|⟨o,h⟩)|h
 .exact .inl (.inl (e _ _ h))
 .exact .inl (.inr ⟨o,e _ _ h⟩)
 .exact .inr h
theorem yr{n:Nat}(h:n<=100000):n<=sizeLine:=Gc h (by decide)
end L2
namespace L2
theorem dF{i j:Int}(c:0<=j)(b:j<=1000000)(a:i.natAbs<2^64):uy i j:=⟨c,b,a⟩
end L2
namespace L2
open PySem PySem.Spec PyProof.Rows
theorem se{H:Hp}{p q:Addr}{o u:HO}(a:H q=some u)(b:H p=none):upd H p o q=some u:=by rw[ay (bw a b)];exact a
theorem bq.thing{P:Program}{w:World}{H:Hp}{h:Heap}{a:Addr}{o:HO}(x:bq P w H h a o):∃b,h.get? a=some b:=by
 cases o with
 |lst d=>obtain⟨_,_,_,_,e⟩:=x;exact⟨_,e⟩
 |tup d=>obtain⟨_,_,_,b,e,_⟩:=x;exact⟨_,e⟩
 |dK c=>obtain⟨_,_,_,_,b,_,_,e,_⟩:=x;exact⟨_,e⟩
 |dT c=>obtain⟨_,_,_,_,b,_,_,e,_⟩:=x;exact⟨_,e⟩
 |set S n=>obtain⟨b,_,_,_,e,_⟩:=x;exact⟨_,e⟩
 |ins C l g=>obtain⟨_,_,_,e,_⟩:=x;exact⟨_,e⟩
 |own y=>exact x
 |xd g=>obtain⟨_,⟨_,_,_,e,_⟩,_⟩:=x;exact⟨_,e⟩
 |p9 j k=>obtain⟨_,_,_,e⟩:=x;exact⟨_,e⟩
 |uo b u=>obtain⟨e,_⟩:=x;exact⟨_,e⟩
 |HA i=>exact⟨_,x⟩
 |met f y=>exact⟨_,x⟩
 |ext φ=>obtain⟨_,e,_⟩:=x;exact e
theorem gv.gone{P:Program}{w:World}{H:Hp}{h:Heap}{a:Addr}(x:gv P w H h)(e:h.get? a=none):H a=none:=by
 cases q:H a with
 |none=>rfl
 |some u=>obtain⟨b,z⟩:=(x a u q).thing;rw[e]at z;cases z
theorem gv.tracked{P:Program}{w:World}{H:Hp}{h h':Heap}(x:gv P w H h)(k:∀b u c,H b=some u->h.get? b=some c->h'.get? b=some c):gv P w H h':=λa o e=>
 (x a o e).stay (λb u z q=>by
   rcases z with rfl|z
   .exact k b o u e q
   .exact k b _ u z q) (λ_ q=>q) λ_ _ q=>q
structure VG(P:Program)(w:World)(outer:List Env)(H:Hp)(s:Shared)(H':Hp)(a C:Addr)(s':Shared):Prop where
 os:s'.os=s.os
 bare:AllBare s'.gens
 un:Un (frs outer) [] H H' s.heap s'.heap
 hok:gv P w H' s'.heap
 new:H' a=none
 old:s.heap.get? a=none
 VH:∃(B:Heap)(a0:Value),Heap.FlyingW B outer a (.ref C) a0 s'.heap/\∀b o,s'.heap.get? b=some o->b∉frs outer->((∃o',s.heap.get? b=some o')\/∃u,H' b=some u)->B.get? b=some o
noncomputable def iC(P:Program)(w:World):yj:=λb H s E e d=>∃a C c,e=.ref a/\VG P w b H s c a C d/\E (.ref C) none c
section
variable{P:Program}{w:World}{K:Frag}{mg:Str->Option Value}{base:Heap}{N:List Str}{qual:Str}{scope:Scope}{f:Addr}{cd:Value}{A:Around}{outer:List Env}{s:Shared}{H:Hp}{E:XK}
abbrev i8(P:Program)(w:World)(K:Frag)(mg:Str->Option Value)(base:Heap)(N:List Str)(qual:Str)(scope:Scope)(f:Addr)(cd:Value)(A:Around)(outer:List Env)(s:Shared)(H:Hp)(E:XK):Cx:=
 yk (iC P w) P w K mg base N qual scope f cd A outer s H E
theorem mJ{e:Env}{l:List Env}{L b:Addr}(a:e.frame=some L):b∈frs (e::l)↔b=L\/b∈frs l:=by unfold frs;rw[JD,a];exact FC
theorem sf{g:List (Addr×Obj)}{t:St}{H1 r:Hp}{i:Shared}{p:Heap}(I:Inv (i8 P w K mg base N qual scope f cd A outer s H E) g t H1 i)
 (u:Un (frs (i8 P w K mg base N qual scope f cd A outer s H E).stack) [] H1 r i.heap p):Un (frs outer) [] H r s.heap p:=by
 have C:(i8 P w K mg base N qual scope f cd A outer s H E).env.frame=some s.heap.objs.size:=rfl;have m:∀b,b∈frs (i8 P w K mg base N qual scope f cd A outer s H E).stack↔b=s.heap.objs.size\/b∈frs outer:=λb=>mJ C;have c:Un (frs outer) [] H H1 s.heap i.heap:=I.base;have D:∀b o,s.heap.get? b=some o->b∉frs outer->b∉frs (i8 P w K mg base N qual scope f cd A outer s H E).stack:=λb o q d z=>by
  rcases(m b).mp z with z|z
  .exact absurd (FR q) (by rw[z];exact Pi _)
  .exact d z
 refine⟨λb o q n d a=>?_,λb o q n d a=>?_,λb o q n a=>?_,λb o q a=>?_,λb l q=>u.tups b l (c.tups b l q),λb o v q=>u.jN b o v (c.jN b o v q),λb x q=>?_⟩
 .exact u.keep b o (c.keep b o q n d a) (c.free b o q n a) (D b o q d) a
 .obtain⟨F,e⟩:=c.slot b o q n d a;obtain⟨h,k⟩:=u.slot b _ e (c.free b o q n a) ((m b).mpr (.inr d)) a;exact⟨h,k⟩
 .obtain⟨j,e⟩:=c.there b o q a;exact u.free b j e (c.free b o q n a) a
 .obtain⟨j,e⟩:=c.there b o q a;exact u.there b j e a
 .obtain⟨B,e⟩:=c.kU b x q;obtain⟨y,k⟩:=u.kU b _ e;exact⟨B++y,by rw[k,SJ]⟩
theorem AQ{l:List Env}{H1 t:Hp}{p g h:Heap}(u:Un (frs l) [] H1 t p g)(k:∀b o,g.get? b=some o->b∉frs l->((∃c,p.get? b=some c)\/∃u,t b=some u)->h.get? b=some o)
 (ff:∀b,b∈frs l->∃o,g.get? b=some o/\∀vs,o.data≠.fields vs)(up:g.UpToSlots h):Un (frs l) [] H1 t p h:=by
 have v:∀b o,b∈frs l->g.get? b=some o->∃m,h.get? b=some {o with slots:=m}:=λb o a q=>by obtain⟨c,e,x⟩:=ff b a;rw[q]at e;cases e;exact up b o q x
 refine⟨λb o q n a d=>k b o (u.keep b o q n a d) a (.inl ⟨o,q⟩),λb o q n a d=>?_,u.free,λb o q d=>?_,u.tups,u.jN,u.kU⟩
 .obtain⟨m,i⟩:=u.slot b o q n a d;obtain⟨j,r⟩:=v b _ a i;exact⟨j,r⟩
 .obtain⟨c,i⟩:=u.there b o q d;by_cases a:b∈frs l
  .obtain⟨m,r⟩:=v b c a i;exact⟨_,r⟩
  .exact⟨c,k b c i a (.inl ⟨o,q⟩)⟩
theorem AR{b:List (Addr×Obj)}{d:St}{H1:Hp}{c:Shared}{a:Addr}(I:Inv (i8 P w K mg base N qual scope f cd A outer s H E) b d H1 c)(e:c.heap.get? a=none):s.heap.get? a=none:=by
 have g:Un (frs outer) [] H H1 s.heap c.heap:=I.base;cases q:s.heap.get? a with
 |none=>rfl
 |some o=>obtain⟨h,z⟩:=g.there a o q (by simp);rw[e]at z;cases z
theorem uP{d:List (Addr×Obj)}{L:St}{H1:Hp}{c:Shared}{h':Heap}{a C:Addr}{j:List Value}(I:Inv (i8 P w K mg base N qual scope f cd A outer s H E) d L H1 c)
 (k:Heap.MadeExcOf c.heap h' a (.ref C) j)(q:E (.ref C) none H1):(i8 P w K mg base N qual scope f cd A outer s H E).xe (.ref a) {c with heap:=h'}:=by
 have B:(i8 P w K mg base N qual scope f cd A outer s H E).env.frame=some s.heap.objs.size:=rfl;have S:∀b,b∈frs (i8 P w K mg base N qual scope f cd A outer s H E).stack↔b=s.heap.objs.size\/b∈frs outer:=λb=>mJ B;have ff:=I.stack;have n:∀env∈(i8 P w K mg base N qual scope f cd A outer s H E).stack,∀b,env.frame=some b->b∈frs (i8 P w K mg base N qual scope f cd A outer s H E).stack:=λenv U b p=>MJ.mpr ⟨env,U,p⟩;have F:=PySem.W.funFrames_hide ff n;refine wpAny_leaves_madeW (base:=PySem.W.hideAll c.heap (frs (i8 P w K mg base N qual scope f cd A outer s H E).stack)) (h:=c.heap) I.ok.frames B (λb o z=>PySem.W.of_hideAll _ z) F k λl t x Z Y O=>?_;have r:∀b o,c.heap.get? b=some o->b∉frs (i8 P w K mg base N qual scope f cd A outer s H E).stack->l.get? b=some o:=λb o z g=>x.1 b o (hideAll_get _ z g);have fm:∀b,b∈frs (i8 P w K mg base N qual scope f cd A outer s H E).stack->∃o,c.heap.get? b=some o/\∀Q,o.data≠.fields Q:=λb p=>(F.mem p).2;have up:c.heap.UpToSlots l:=(Heap.UpToSlots.of_keeps k.keeps).trans O;have R:Un (frs (i8 P w K mg base N qual scope f cd A outer s H E).stack) [] H1 H1 c.heap l:=AQ Un.refl (λb o z g _=>r b o z g) fm up;refine⟨a,C,H1,rfl,⟨I.os,I.bare,sf I R,I.hok.tracked λb u T z M=>r b T M λm=>?_,I.hok.gone k.new,AR I k.new,_,_,x,λb o z g i=>?_⟩,q⟩
 .have:=I.ja b m;rw[z]at this;cases this
 .have J:b∉frs (i8 P w K mg base N qual scope f cd A outer s H E).stack:=λm=>by
   rcases i with⟨y,e⟩|⟨u,e⟩
   .rcases(S b).mp m with m|m
    .exact absurd (FR e) (by rw[m];exact Pi _)
    .exact g m
   .have:=I.ja b m;rw[e]at this;cases this
  have:∃o1,c.heap.get? b=some o1:=by
   rcases i with⟨y,e⟩|⟨u,e⟩
   .exact Un.there (show Un (frs outer) [] H H1 s.heap c.heap from I.base) b y e (by simp)
   .exact(I.hok b u e).thing
  obtain⟨o1,D⟩:=this;have X:=r b o1 D J;have v:l.get? b=some o:=z;rw[X]at v;cases v;exact hideAll_get _ D J
theorem AS{g:List (Addr×Obj)}{J:St}{H1:Hp}{i s':Shared}{e:Value}(I:Inv (i8 P w K mg base N qual scope f cd A outer s H E) g J H1 i)
 (T:iC P w (i8 P w K mg base N qual scope f cd A outer s H E).stack H1 i E e s'):(i8 P w K mg base N qual scope f cd A outer s H E).xe e s':=by
 obtain⟨a,C,n,rfl,F,q⟩:=T;obtain⟨B,Z,x,k⟩:=F.VH;have t:(i8 P w K mg base N qual scope f cd A outer s H E).env.frame=some s.heap.objs.size:=rfl;have R:∀b,b∈frs (i8 P w K mg base N qual scope f cd A outer s H E).stack↔b=s.heap.objs.size\/b∈frs outer:=λb=>mJ t;refine wpAny_leaves_onW I.ok.frames t x λX h M=>?_;have fm:∀b,b∈frs (i8 P w K mg base N qual scope f cd A outer s H E).stack->∃o,s'.heap.get? b=some o/\∀O,o.data≠.fields O:=λb U=>(x.2.2.1.mem U).2;have D:∀b u,n b=some u->b∉frs (i8 P w K mg base N qual scope f cd A outer s H E).stack:=λb u z m=>by have l:=I.ja b m;obtain⟨o,S,_⟩:=I.stack.mem m|>.2;rw[F.un.free b o S l (by simp)]at z;cases z
 have Q:=AQ F.un (λb o z j c=>h.1 b o (k b o z j c)) fm M;refine⟨a,C,n,rfl,⟨F.os.trans I.os,F.bare,sf I Q,F.hok.tracked λb u r z L=>h.1 b r (k b r L (D b u z) (.inr ⟨u,z⟩)),F.new,AR I F.old,B,Z,h,λb o z j c=>?_⟩,q⟩;have QT:b∉frs (i8 P w K mg base N qual scope f cd A outer s H E).stack:=λm=>by
  rcases c with⟨d,e⟩|⟨u,e⟩
  .rcases(R b).mp m with m|m
   .exact absurd (FR e) (by rw[m];exact Pi _)
   .exact j m
  .exact D b u e m
 have y:(∃d,i.heap.get? b=some d)\/∃u,n b=some u:=by
  rcases c with⟨d,e⟩|z
  .exact .inl (Un.there (show Un (frs outer) [] H H1 s.heap i.heap from I.base) b d e (by simp))
  .exact .inr z
 have:∃o1,s'.heap.get? b=some o1:=by
  rcases y with⟨d,e⟩|⟨u,e⟩
  .exact F.un.there b d e (by simp)
  .exact(F.hok b u e).thing
 obtain⟨o1,l⟩:=this;have v:=k b o1 l QT y;have Y:=h.1 b o1 v;have p:X.get? b=some o:=z;rw[Y]at p;cases p;exact v
theorem HL:Passes (iC P w) (i8 P w K mg base N qual scope f cd A outer s H E) E:=λ_ _ _ _ _ _ I h=>AS I h
end
abbrev VJ:List Value:=[.type "ValueError",.type "Exception",.type "BaseException",.type "object"]
structure RY(K:Frag)(C:Addr):Prop where
 exc:PySem.W.excIn K C VJ "ValueError.__new__"=true
 ga:findIn K (.ref C) "__getattribute__"=some (some (.builtin "BaseException.__getattribute__"))
 gt:findIn K (.ref C) "__getattr__"=some none
 cl:findIn K (.ref C) "__class__"=some (some (.builtin "object.__class__"))
 ob:mroIn K C (.type "object")=some true
 bs:mroIn K C (.type "BaseException")=some true
theorem QU{p:Prop}(h:false=true):p:=nomatch h
theorem M6{o:Option Obj}{F:Option Addr->ClassData->Array (Option Value)->Bool}(q:PySem.W.excIn.match_6 (λ_=>Bool) o F (λ_=>false)=true):∃d c l,o=some ⟨.type "type",d,.cls c,l⟩/\F d c l=true:=by
 rcases o with _|⟨b,g,a,f⟩
 .exact QU q
 cases b with
 |type s=>
  by_cases e:s="type"
  .subst e;cases a with
   |cls h=>exact⟨_,_,_,rfl,q⟩
   |_=>exact QU q
  .delta PySem.W.excIn.match_6 at q
   exact QU ((dif_neg e).symm.trans q)
 |_=>exact QU q
noncomputable def AU(X:Cx)(R:Addr->Hp->Prop):Prop:=∀(b:List (Addr×Obj))(e:St)(H:Hp)(s:Shared)(d:Heap)(a C:Addr)(c:List Value),Inv X b e H s->Heap.MadeExcOf s.heap d a (.ref C) c->R C H->X.xe (.ref a) {s with heap:=d}
theorem wc{P:Program}{w:World}{K:Frag}{d:Str->Option Value}{base:Heap}{N:List Str}{c:Str}{a:Scope}{f:Addr}{g:Value}{A:Around}{b:List Env}{s:Shared}{H:Hp}{E:XK}:
 AU (i8 P w K d base N c a f g A b s H E) (λC H'=>E (.ref C) none H'):=λ_ _ _ _ _ _ _ _ I e q=>uP I e q
section
variable{X:Cx}{x:Str}{C:Addr}{e:Expr}{t:TA}{np cpos pos:Pos}{R:Addr->Hp->Prop}
end
theorem PS.kI{X:Cx}{st:Stmt}{t:TS}(h:PS X.kI st t):PS X st t:=λa s b H D I c=>PP (h a s b H D (I.om _) c) (λ_ _ q=>q.gy) λ_ _ z=>Ed z
theorem AL.QV{P:Program}{w:World}{K:Frag}{i:Str->Option Value}{base:Heap}{x b:Str}{st:Stmt}{f:Addr}{j:FuncData}{N ps:List Str}{k:Nat}{sp:Sp}(F:AL K x b st f j)(S:eE N ps (ak st))
 (d:∀vs H Q E,sp vs H Q E->vs.length=ps.length)
 (o:∀(c:Value)(A:Around)(a:List Env)(s:Shared)(H:Hp)(vs:List V)(Q:VK)(E:XK),cC k (A.deeper (envOfC b (ak st) s.heap.objs.size f c))->sp vs H Q E->
   ∃t,rP (i8 P w K i base N b (ak st) f c A a s H E) (aS st) t/\t {nx:=λ_ H'=>Q .aI H',rt:=Q} (start N vs) H):bE P w K i base (iC P w) (k+1) f j ps sp:=by
 obtain⟨u,r,kV,p,q,y,c,v,l,e,m,g⟩:=F.ex;subst e;exact Oj m g S d λA a s H vs Q E n h=>o c A a s H vs Q E n h
theorem bE.OC{P:Program}{w:World}{K:Frag}{c:Str->Option Value}{base:Heap}{k:Nat}{f:Addr}{d:FuncData}{ps:List Str}{sp:Sp}(F:bE P w K c base (iC P w) k f d ps sp):
 bE P w K c base OA k f d ps (λvs H Q _=>sp vs H Q E0):=
 ⟨λvs H Q E h=>F.len vs H Q E0 h,λA a s H b g vs Q E i m j r h=>Tb (F.run A a s H b g vs Q E0 i m j r h) λr n z=>by
   cases r with
   |error e=>obtain⟨_,_,_,_,_,q⟩:=z;exact q.elim
   |ok l=>cases l<;>exact z⟩
noncomputable def FX(X:Cx)(a:List (Addr×Obj))(d:St)(E:XK)(e:Value)(s':Shared):Prop:=∃c b,Inv X a d c b/\iC X.prog X.w X.stack c b E e s'
section
variable{X:Cx}{k:Nat}{f:Addr}{fd:FuncData}{ps:List Str}{sp:Sp}{x:Str}{p pos:Pos}{e:Expr}{es:List Expr}{t:TA}
end
noncomputable def OD(a C:Addr)(h:Heap):Prop:=∃b c,h.get? a=some b/\b.cls=.ref C/\b.data=.fields c
noncomputable def RZ(a C:Addr):HO:=.ext (OD a C)
section
variable{X:Cx}{pins:List (Addr×Obj)}{σ:St}{H:Hp}{s:Shared}
end
section
variable{prog:Program}{w:World}{A:Around}{E:Value->Shared->Prop}{s:Shared}{K:Frag}{a C:Addr}
end
inductive OE:V->Value->Prop where
 |own (D:Addr):OE (.ref D) (.ref D)
 |ty (n:String):OE (.ty n) (.type n)
section
variable{κ:Type}[DecidableEq κ]
noncomputable def jT(kvs:List (κ×V))(k:κ):Option V:=(kvs.find? λa=>decide (a.1=k)).map (·.2)
noncomputable def putK(kvs:List (κ×V))(k:κ)(v:V):List (κ×V):=
 if(kvs.any λa=>decide (a.1=k))=true then kvs.map (λa=>if a.1=k then(a.1,v)else a)else kvs++[(k,v)]
theorem jl{p:κ×V}{r:List (κ×V)}{k:κ}(e:p.1=k):jT (p::r) k=some p.2:=by simp[jT,JE,e]
theorem jm{p:κ×V}{r:List (κ×V)}{k:κ}(e:¬p.1=k):jT (p::r) k=jT r k:=by simp[jT,JE,e]
theorem sj(k:κ):∀kvs:List (κ×V),(kvs.any λa=>decide (a.1=k))=(jT kvs k).isSome
 |[]=>rfl
 |p::r=>by
  rw[HB];by_cases e:p.1=k
  .simp only[jl e,GM e,VD,Option.isSome_some]
  .rw[jm e,Fn e,Um];exact sj k r
theorem gB(kvs:List (κ×V))(k:κ)(v:V):(putK kvs k v).length<=kvs.length+1:=by
 unfold putK;split
 .rw[Ee];omega
 .rw[Dx,AI,G2];omega
theorem gp.yt{o:Option V}{u:Option Value}(r:gp o u):o.isSome=u.isSome:=by
 cases o with
 |none=>cases u with
  |none=>rfl
  |some _=>exact(show False from r).elim
 |some _=>cases u with
  |none=>exact(show False from r).elim
  |some _=>rfl
theorem gp.getD{o:Option V}{u:Option Value}{d:V}{d':Value}(r:gp o u)(rd:RelV d d'):RelV (o.getD d) (u.getD d'):=by
 cases o with
 |none=>cases u with
  |none=>exact rd
  |some _=>exact(show False from r).elim
 |some _=>cases u with
  |none=>exact(show False from r).elim
  |some _=>exact r
theorem KV.val{kvs:List (κ×V)}{vs:List (κ×Value)}(r:KV kvs vs)(k:κ):gp (jT kvs k) (valueAt vs k):=by
 unfold KV at r
 induction r with
 |nil=>exact Gj
 |@cons p q i a h t f=>
  obtain⟨d,g⟩:=h;by_cases e:p.1=k
  .have c:q.1=k:=d.symm.trans e;have b:valueAt (q::a) k=some q.2:=by simp[valueAt,JE,c]
   rw[jl e,b];exact g
  .have c:¬q.1=k:=λz=>e (d.trans z);have b:valueAt (q::a) k=valueAt a k:=by simp[valueAt,JE,c]
   rw[jm e,b];exact f
theorem KV.any{kvs:List (κ×V)}{vs:List (κ×Value)}(r:KV kvs vs)(k:κ):(kvs.any λa=>decide (a.1=k))=vs.any λa=>decide (a.1=k):=by
 unfold KV at r
 induction r with
 |nil=>rfl
 |cons h t b=>rw[HB,HB,b,h.1]
theorem KV.repl{kvs:List (κ×V)}{vs:List (κ×Value)}(r:KV kvs vs)(k:κ){y:V}{u:Value}(c:RelV y u):
 KV (kvs.map λa=>if a.1=k then(a.1,y)else a) (vs.map λa=>if a.1=k then(a.1,u)else a):=by
 unfold KV at r⊢
 induction r with
 |nil=>exact .nil
 |@cons p q i g h t d=>
  rw[Ha,Ha];refine .cons ?_ d;obtain⟨b,f⟩:=h;by_cases e:p.1=k
  .rw[FM e,FM (b.symm.trans e)];exact⟨b,c⟩
  .rw[Da e,Da (λz=>e (b.trans z))];exact⟨b,f⟩
theorem KV.put{kvs:List (κ×V)}{vs:List (κ×Value)}(r:KV kvs vs)(k:κ){y:V}{u:Value}(a:RelV y u):KV (putK kvs k y) (stored vs k u):=by
 unfold putK stored;rw[r.any k];by_cases e:(vs.any λb=>decide (b.1=k))=true
 .rw[FM e,FM e];exact r.repl k a
 .rw[Da e,Da e];exact Paired.snoc r ⟨rfl,a⟩
theorem KV.keys{kvs:List (κ×V)}{vs:List (κ×Value)}(r:KV kvs vs):kvs.map (·.1)=vs.map (·.1):=by
 unfold KV at r
 induction r with
 |nil=>rfl
 |cons h t a=>rw[Ha,Ha,a,h.1]
theorem KV.length{kvs:List (κ×V)}{vs:List (κ×Value)}(r:KV kvs vs):kvs.length=vs.length:=Paired.length r
end
theorem we{P:Program}{w:World}{k:Key}{u:Value}(r:RelV (kV k) u):(bg P w).is k u=true:=by
 cases k with
 |inl i=>obtain⟨t,e⟩:=(show∃t,u=Value.int i t from r);subst e;exact rM P w i t
 |inr x=>obtain⟨t,e⟩:=(show∃t,u=Value.str x t from r);subst e;exact rN P w x t
theorem pG{P:Program}{w:World}:∀{a:List Key}{us:List Value},Vals (a.map kV) us->ItemsAre (bg P w) a us
 |[],_,r=>by rw[Y6]at r;cases r;exact .nil
 |k::a,_,r=>by
  rw[Ha]at r;cases r with
  |cons h t=>exact .cons (we h) (pG t)
abbrev KT(H:Hp):List (List Key×V)->List (List Key×Addr×Value)->Prop:=Paired λp q=>p.1=q.1/\H q.2.1=some (.tup (p.1.map kV))/\RelV p.2 q.2.2
theorem KT.val{H:Hp}{kvs:List (List Key×V)}{xs:List (List Key×Addr×Value)}(r:KT H kvs xs)(k:List Key):gp (jT kvs k) ((atKey xs k).map (·.2)):=by
 induction r with
 |nil=>exact Gj
 |@cons p q i a h t f=>
  obtain⟨d,_,g⟩:=h;by_cases e:p.1=k
  .have c:q.1=k:=d.symm.trans e;have b:atKey (q::a) k=some q.2:=by simp[atKey,JE,c]
   rw[jl e,b];exact g
  .have c:¬q.1=k:=λz=>e (d.trans z);have b:atKey (q::a) k=atKey a k:=by simp[atKey,JE,c]
   rw[jm e,b];exact f
theorem KT.repl{H:Hp}{kvs:List (List Key×V)}{xs:List (List Key×Addr×Value)}(r:KT H kvs xs)(k:List Key){y:V}{u:Value}(d:RelV y u):
 KT H (kvs.map λb=>if b.1=k then(b.1,y)else b) (xs.map (putAt k u)):=by
 induction r with
 |nil=>exact .nil
 |@cons p q j i h t f=>
  rw[Ha,Ha];refine .cons ?_ f;obtain⟨a,c,g⟩:=h;unfold putAt;by_cases e:p.1=k
  .rw[FM e,FM (a.symm.trans e)];exact⟨a,c,d⟩
  .rw[Da e,Da (λz=>e (a.trans z))];exact⟨a,c,g⟩
theorem KT.put{H:Hp}{kvs:List (List Key×V)}{xs:List (List Key×Addr×Value)}(r:KT H kvs xs)(k:List Key){b:Addr}{y:V}{u:Value}(d:H b=some (.tup (k.map kV)))(a:RelV y u):
 KT H (putK kvs k y) (storedH xs k b u):=by
 have e:(kvs.any λc=>decide (c.1=k))=(atKey xs k).isSome:=by rw[sj,(r.val k).yt,Option.isSome_map]
 unfold putK storedH;rw[e];by_cases q:(atKey xs k).isSome=true
 .rw[FM q,FM q];exact r.repl k a
 .rw[Da q,Da q];exact Paired.snoc r ⟨rfl,d,a⟩
theorem KT.keeps{H H':Hp}{kvs:List (List Key×V)}{xs:List (List Key×Addr×Value)}(r:KT H kvs xs)(c:∀b a,H b=some (.tup a)->H' b=some (.tup a)):KT H' kvs xs:=
 Paired.IX r λ_ _ z=>⟨z.1,c _ _ z.2.1,z.2.2⟩
section
variable{P:Program}{w:World}{H:Hp}{h:Heap}{a:Addr}
theorem HM{u:HO}(ok:gv P w H h)(e:Rd H a u):bq P w H h a u:=e.ok ok
theorem wg{kvs:List (Key×V)}(b:gv P w H h)(e:Rd H a (.dK kvs)):kvs.length<=sizeLine/\(a==sysModules)=false/\∃vs,KV kvs vs/\h.DictOf (bg P w) a vs:=
 show bq P w H h a (.dK kvs)from HM b e
theorem HN{kvs:List (Key×V)}(b:gv P w H h)(e:H a=some (.dK kvs)):kvs.length<=sizeLine/\(a==sysModules)=false/\∃vs,KV kvs vs/\h.DictOf (bg P w) a vs:=wg b (.inl e)
theorem uQ{b:List Key}(d:gv P w H h)(e:H a=some (.tup (b.map kV))):(tupleKind (bg P w)).is h b a:=by obtain⟨_,c,r,o,i,g,n,f⟩:=(show bq P w H h a (.tup (b.map kV))from d a _ e);exact⟨o,c.toArray,n,i,g,f,by simpa using pG r⟩
theorem AV{kvs:List (List Key×V)}(d:gv P w H h)(e:Rd H a (.dT kvs)):kvs.length<=sizeLine/\(a==sysModules)=false/\
 ∃xs,KT H kvs xs/\h.DictOfH (tupleKind (bg P w)) a xs:=by
 obtain⟨z,y,xs,r,o,u,v,s,n,k,j,i⟩:=(show bq P w H h a (.dT kvs)from HM d e);refine⟨z,y,xs,r,o,u,v,s,n,k,j,λx b=>?_,i⟩;have c:∀{l:List (List Key×V)}{m:List (List Key×Addr×Value)},KT H l m->∀x∈m,(tupleKind (bg P w)).is h x.1 x.2.1:=by
  intro l m q
  induction q with
  |nil=>intro x b;exact nomatch b
  |@cons p q B A f t g=>
   intro x b;rcases FC.mp b with e|b
   .subst e;exact uQ d (by rw[<-f.1];exact f.2.1)
   .exact g x b
 exact c r x b
theorem OG{kvs:List (List Key×V)}(b:gv P w H h)(e:H a=some (.dT kvs)):kvs.length<=sizeLine/\(a==sysModules)=false/\
 ∃xs,KT H kvs xs/\h.DictOfH (tupleKind (bg P w)) a xs:=AV b (.inl e)
end
noncomputable def yu(H:Hp)(a:Addr)(y:V)(r:Option V):Prop:=
 (∃c k,Rd H a (.dK c)/\y=kV k/\r=jT c k)\/∃c k b,Rd H a (.dT c)/\y=.ref b/\H b=some (.tup (k.map kV))/\r=jT c k
noncomputable def AW(H:Hp)(a:Addr)(y v:V)(H':Hp):Prop:=
 (∃c k,H a=some (.dK c)/\y=kV k/\c.length<sizeLine/\H'=upd H a (.dK (putK c k v)))\/
 ∃c k b,H a=some (.dT c)/\y=.ref b/\H b=some (.tup (k.map kV))/\c.length<sizeLine/\H'=upd H a (.dT (putK c k v))
theorem yu.k{H:Hp}{a:Addr}{kvs:List (Key×V)}{k:Key}(e:H a=some (.dK kvs)):yu H a (kV k) (jT kvs k):=.inl ⟨kvs,k,.inl e,rfl,rfl⟩
theorem AW.k{H:Hp}{a:Addr}{kvs:List (Key×V)}{k:Key}{v:V}(e:H a=some (.dK kvs))(b:kvs.length<sizeLine):AW H a (kV k) v (upd H a (.dK (putK kvs k v))):=.inl ⟨kvs,k,e,rfl,b,rfl⟩
section
variable{X:Cx}{pins:List (Addr×Obj)}{σ:St}{H:Hp}{s:Shared}{a:Addr}{y v:V}{u r:Value}{o:Option V}{A:Around}{E:Value->Shared->Prop}
theorem Inv.big(I:Inv X pins σ H s):sysModules<s.heap.objs.size:=by have h:mainGlobals<s.heap.objs.size:=(I.mod.glob.keeps I.bk).lt;exact Rc (by decide) h
theorem yv{Q:Value->Shared->Prop}(B:A.units+1<cLine)(I:Inv X pins σ H s)(g:yu H a y (some v))(q:RelV y u)(h:∀w' s',Inv X pins σ H s'->RelV v w'->Q w' s'):
 wpAny (model X.prog X.w) A (getItem (.ref a) u) Q E s:=by
 rcases g with⟨f,k,e,m,l⟩|⟨f,k,b,e,m,D,l⟩
 .subst m;obtain⟨z,hd,x,d,n⟩:=wg I.hok e;obtain⟨w',i,c⟩:=gp.some_of (v:=v) (o:=valueAt x k) (by rw[l];exact d.val k);exact wpAny_getItem_of (we q) n.mapOf i (h w' _ (I.tok _) c)
 .subst m;cases(show u=Value.ref b from q);obtain⟨z,hd,t,d,n⟩:=AV I.hok e;obtain⟨w',i,c⟩:=gp.some_of (v:=v) (o:=(atKey t k).map (·.2)) (by rw[l];exact d.val k);obtain⟨p,C,j⟩:=Kk.mp i;refine wpAny_getItem_heap (tupleKind_room_in1 B) (uQ I.hok D) n C ?_;rw[j];exact h w' _ (I.tok _) c
theorem qm{h':Heap}{t':Nat}{c:HO}(I:Inv X pins σ H s)(f:NF (H a))(g:Heap.SameBut a s.heap h')(he:∃q,h'.get? a=some q)(d:bq X.prog X.w (upd H a c) h' a c):
 Inv X pins σ (upd H a c) {s with heap:=h',toks:=t'}:=
 I.write (x:=a) (e:=a) f (.inl rfl) (λb q h z=>(g.2 b h).trans z) he d
theorem AX{P:Program}{w:World}{H':Hp}{h':Heap}{kvs:List (Key×V)}{vs:List (Key×Value)}(z:kvs.length<=sizeLine)(hd:(a==sysModules)=false)(b:KV kvs vs)(c:h'.DictOf (bg P w) a vs):
 bq P w H' h' a (.dK kvs):=⟨z,hd,vs,b,c⟩
theorem yw{H':Hp}{Q:Unit->Shared->Prop}(L:A.units+1<cLine)(I:Inv X pins σ H s)(g:AW H a y v H')(B:RelV y u)(rv:RelV v r)(h:∀s',Inv X pins σ H' s'->Q () s'):
 wpAny (model X.prog X.w) A (setItem (.ref a) u r) Q E s:=by
 rcases g with⟨f,k,e,p,l,t⟩|⟨f,k,b,e,p,F,l,t⟩
 .subst p t;obtain⟨z,hd,K,d,x⟩:=HN I.hok e;have hz:K.length<=sizeLine:=by rw[<-d.length];exact z
  have n:(putK f k v).length<=sizeLine:=by have:=gB f k v;omega
  refine wpAny_setItem_pairs (hsz:=hz) (we B) x λC j m=>h _ ?_;have M:∃q,C.get? a=some q:=let⟨q,_,_,i,_⟩:=j;⟨q,i⟩
  exact qm I (by rw[e];exact Gj) m M (AX n hd (d.put k rv) j)
 .subst p t;cases(show u=Value.ref b from B);obtain⟨z,hd,J,d,x⟩:=OG I.hok e;have hz:J.length<=sizeLine:=by rw[<-Paired.length d];exact z
  have n:(putK f k v).length<=sizeLine:=by have:=gB f k v;omega
  refine wpAny_setItem_heap (hsz:=hz) (tupleKind_room_in1 L) (uQ I.hok F) x λC j m=>h _ ?_;obtain⟨q,S,T,i,R,P,O,_,N⟩:=j;refine qm I (by rw[e];exact Gj) m ⟨q,i⟩ ⟨n,hd,_,(d.put k F rv).keeps λc U D=>?_,q,S,T,i,R,P,O,N⟩;rw[ay (ND D e (λz=>nomatch z))];exact D
end
section
variable{X:Cx}{pins:List (Addr×Obj)}{σ:St}{H:Hp}{s:Shared}{a:Addr}{kvs:List (Key×V)}{k:Key}{u:Value}{A:Around}{E:Value->Shared->Prop}
end
noncomputable def JF(i:Expr):Prop:=∀a b,subscripted i false a b=operate [a,b] (getItem a b)
theorem DY{prog:Program}{w:World}{A:Around}{E:Value->Shared->Prop}{s:Shared}{env:Env}{b a:Expr}{pos:Pos}{T id:String}{Q:Value->Shared->Prop}
 (n:typeLookup (.type T) "__getitem__"=pure (some (.builtin id)))(m:JF a)
 (h:wpAny (model prog w) A (eval b env) (λo f=>wpAny (model prog w) A (eval a env) (λi c=>c.TypeIs o T/\wpAny (model prog w) A (getItem o i) Q E c) E f) E s):
 wpAny (model prog w) A (eval (.Subscript b a pos) env) Q E s:=by
 refine Subscript_ (PP h (λo f k=>PP k (λi c d=>?_) λ_ _ x=>x) λ_ _ x=>x);obtain⟨l,d⟩:=d;unfold subscriptTail;refine AN ?_;rw[getitemInPython_of_ne l.not_modules];refine AN (wpAny_specialOf l n ?_);have g:wpAny (model prog w) A (subscripted a false o i) (λr e=>wpAny (model prog w) A (letTemporaryGo b o r>>=λ_=>pure r) Q E e) E c:=by rw[m o i];exact wpAny_operating (PP d (λr e j=>AN (wpAny_letTemporaryGo (BM j))) λ_ _ x=>x)
 first
  |exact BM (AN g)
  |exact AN (BM (AN g))
  |exact AN g
theorem sq{X:Cx}{c:List (Addr×Obj)}{h:St}{H:Hp}{s:Shared}{a:Addr}{y:V}{o:Option V}(I:Inv X c h H s)(g:yu H a y o):s.TypeIs (.ref a) "dict":=by
 rcases g with⟨d,k,e,_,_⟩|⟨d,k,b,e,_,_,_⟩
 .obtain⟨_,_,j,_,f⟩:=wg I.hok e;exact f.typeIs
 .obtain⟨_,_,i,_,f⟩:=AV I.hok e;exact f.typeIs
noncomputable def OH(e d:TE):TE:=λb H Q=>e b H λx f=>d b f λy c=>∃a v,x=.ref a/\yu c a y (some v)/\Q v c
section
variable{X:Cx}{o i e value:Expr}{pos pos' tpos:Pos}{td ty tv:TE}
theorem DZ(p:X.A.units+1<cLine)(r:PE X o td)(t:PE X i ty)(q:JF i):PE X (.Subscript o i pos) (OH td ty):=by intro b s d H Q I h;refine DY PySem.F.slot_dict_getitem.lookup q (bC (r b s d H _ I h) λu j ⟨x,C,z,l,n⟩=>bC (t b j d C _ z n) λE s2 ⟨y,B,f,k,a,v,ex,g,m⟩=>?_);subst ex;obtain rfl:u=Value.ref a:=l;exact⟨sq f g,yv p f g k λD s3 w c=>⟨v,B,w,c,m⟩⟩
end
theorem su{P:Program}{w:World}{H:Hp}(h:Heap)(a:sysModules<h.objs.size):bq P w H (h.push {cls:=.type "dict",data:=.dict #[]}) h.objs.size (.dK []):=
 ⟨L9 _,Pl.mpr (Ki (HI a)),[],.nil,Heap.DictOf.new h⟩
noncomputable def JG:TE:=λ_ H Q=>∀p,H p=none->Q (.ref p) (upd H p (.dK []))
section
variable{X:Cx}{pos:Pos}
theorem AY:PE X (.Dict [] [] pos) JG:=λb s c H Q I h=>wpAny_Dict_empty ⟨.ref s.heap.objs.size,_,I.laid (a:=s.heap.objs.size) (o:=.dK []) (t':=s.toks) (λ_ _ q=>Bi _ q) (Bz _) (su s.heap I.big),rfl,h _ (I.hok.fresh (Bz _))⟩
end
noncomputable def qo:List (TE×TE)->St->Hp->(List (V×V)->Hp->Prop)->Prop
 |[],_,H,Q=>Q [] H
 |(tk,tv)::r,σ,H,Q=>tk σ H λx H1=>tv σ H1 λy b=>qo r σ b λps a=>Q ((x,y)::ps) a
abbrev VV:List (V×V)->List (Value×Value)->Prop:=Paired λp q=>RelV p.1 q.1/\RelV p.2 q.2
noncomputable def OI(X:Cx)(pos:Pos)(c:List (Option Expr))(a:List Expr)(i:List (TE×TE)):Prop:=
 ∀(b:List (Addr×Obj))(s:Shared)(d:St)(H:Hp)(Q:List (V×V)->Hp->Prop),Inv X b d H s->qo i d H Q->
  wpAny (model X.prog X.w) X.A (evalPairs (pairTrees c a X.env pos)) (λg h=>∃e f,Inv X b d f h/\VV e g/\Q e f) X.xe s
theorem Eb{X:Cx}{pos:Pos}:OI X pos [] [] []:=λa s b H Q I h=>pairTrees_nil_walk ⟨[],H,I,.nil,h⟩
theorem AZ{X:Cx}{pos:Pos}{k v:Expr}{f:List (Option Expr)}{vs:List Expr}{e d:TE}{g:List (TE×TE)}(t:PE X k e)(q:PE X v d)(r:OI X pos f vs g):
 OI X pos (some k::f) (v::vs) ((e,d)::g):=λa s b H Q I h=>
 pairTrees_cons_walk (bC (t a s b H _ I h) λu i ⟨x,D,A,l,o⟩=>bC (q a i b D _ A o) λF s2 ⟨y,C,z,j,n⟩=>bC (r a s2 b C _ z n) λE s3 ⟨p,B,w,c,m⟩=>⟨(x,y)::p,B,w,.cons ⟨l,j⟩ c,m⟩)
noncomputable def iJ(kvs a:List (Key×V)):List (Key×V):=a.foldl (λb c=>putK b c.1 c.2) kvs
theorem KV.merge:∀{a:List (Key×V)}{b:List (Key×Value)}{kvs:List (Key×V)}{vs:List (Key×Value)},KV a b->KV kvs vs->KV (iJ kvs a) (merged vs b):=by
 intro a b kvs vs r;unfold KV at r
 induction r generalizing kvs vs with
 |nil=>intro q;exact q
 |@cons p q g f h t d=>
  intro c;have e:KV (putK kvs p.1 p.2) (stored vs q.1 q.2):=by have:=c.put p.1 h.2;rw[<-h.1];exact this
  exact d e
theorem iD:∀(a kvs:List (Key×V)),(iJ kvs a).length<=kvs.length+a.length
 |[],kvs=>by show kvs.length<=kvs.length+0;omega
 |p::r,kvs=>by have h1:=iD r (putK kvs p.1 p.2);have b:=gB kvs p.1 p.2;show(iJ (putK kvs p.1 p.2) r).length<=_;rw[AI];omega
theorem mK{P:Program}{w:World}:∀{kvs:List (Key×V)}{e:List (Value×Value)},VV (kvs.map λf=>(kV f.1,f.2)) e->∃d,Carries (bg P w) e d/\KV kvs d
 |[],_,r=>by rw[Y6]at r;cases r;exact⟨[],Gj,.nil⟩
 |p::kvs,_,r=>by
  rw[Ha]at r;cases r with
  |@cons a b k i h t=>obtain⟨d,c,q⟩:=mK (P:=P) (w:=w) t;obtain⟨j,g⟩:=b;exact⟨(p.1,g)::d,⟨we h.1,rfl,c⟩,.cons ⟨rfl,h.2⟩ q⟩
noncomputable def OJ(f:List (TE×TE)):TE:=λd H Q=>∀p,H p=none->qo f d (upd H p (.dK [])) λe c=>c p=some (.dK [])/\∃a:List (Key×V),e=a.map (λb=>(kV b.1,b.2))/\a.length<=15/\Q (.ref p) (upd c p (.dK (iJ [] a)))
theorem Ec{X:Cx}{pos:Pos}{b:List (Option Expr)}{d:List Expr}{m:List (TE×TE)}(h:OI X pos b d m)(i:b.all (·.isSome)=true)(y:b.length=d.length)(C:b≠[])
 (F:b.length<=15):PE X (.Dict b d pos) (OJ m):=by
 intro f s n H Q I q;have x:=I.hok.fresh (Bz s.heap.objs.size);have J:=I.laid (a:=s.heap.objs.size) (o:=.dK []) (h':=s.heap.push {cls:=.type "dict",data:=.dict #[]}) (t':=s.toks) (λ_ _ q=>Bi _ q) (Bz _) (su s.heap I.big);refine wpAny_Dict_walk (knd:=bg X.prog X.w) i y C F (bC (h f _ n _ _ J (q _ x)) λK s2 ⟨L,O,l,j,e,g,D,M,u⟩=>?_);subst D;obtain⟨p,c,r⟩:=mK (P:=X.prog) (w:=X.w) j;obtain⟨z,hd,N,t,E⟩:=HN l.hok e;cases t;refine⟨p,c,E,λh' k v=>⟨.ref s.heap.objs.size,_,?_,rfl,u⟩⟩;have hz:(iJ [] g).length<=sizeLine:=by have B:=iD g [];rw[G2]at B;rw[Y2];omega
 have A:∃q,h'.get? s.heap.objs.size=some q:=let⟨q,_,_,hq,_⟩:=k;⟨q,hq⟩
 exact qm l (by rw[e];exact Gj) v A (AX hz hd (r.merge .nil) k)
structure M2(X:Cx)(o:Expr)(m:Str)(apos:Pos)(e f:Expr)(cpos:Pos):Prop where
 base:attributeBase o m X.env (eval o X.env)=eval o X.env
 few:((backTo cpos (starEach [e,f] X.env)).all (λx=>!x.1)&&(backToKw cpos (keywordEach [] X.env)).all (λx=>x.1.isSome)
  &&decide (([e,f]:List Expr).length+([]:List Keyword).length+(if([]:List Keyword).isEmpty then 0 else 1)<30))=true
 line:(apos.endLine==cpos.line)=true
 trees:backTo cpos (starEach [e,f] X.env)=[(false,eval e X.env),(false,eval f X.env)]
section
variable{X:Cx}{pins:List (Addr×Obj)}{σ:St}{H:Hp}{s:Shared}{a:Addr}{y d:V}{u r:Value}{o:Option V}{A:Around}{E:Value->Shared->Prop}
end
section
variable{X:Cx}{o e f:Expr}{apos cpos:Pos}{td ty tx:TE}
end
section
variable{X:Cx}{pins:List (Addr×Obj)}{σ:St}{H:Hp}{s:Shared}{a:Addr}{kvs:List (Key×V)}{A:Around}{E:Value->Shared->Prop}
end
section
variable{X:Cx}{pins:List (Addr×Obj)}{σ:St}{H:Hp}{s:Shared}{a:Addr}{y:V}{u:Value}{A:Around}{E:Value->Shared->Prop}
end
end L2
namespace L2
open PySem PySem.Spec PyProof.Rows PySem.W
variable{X:Cx}
theorem A3{prog:Program}{w:World}{A:Around}{E:Value->Shared->Prop}{s:Shared}{T:String}{r d:Addr}{n:Nat}{P:Nat->Value->Prop}{v:Heap->Prop}{R:List Value->Shared->Prop}(K:KdlSrc prog w T r d n P v)(B:A.handled=none)(p:v s.heap)(z:n<=sizeLine)
 (h:∀(g:Heap)(i:Nat)(a:Array Value),s.heap.objs.size<g.objs.size->(∀b o,s.heap.get? b=some o->g.get? b=some o)->ItemsOf P a n->R a.toList {s with heap:=g,toks:=i}):wpAny (model prog w) A (collect (.ref r)) R E s:=by
 have u:=K.there _ p;unfold collect;refine AN (wpAny_runValue (Pv entry_proto_collect' ?_));rw[Oy PySem.F.plain_proto_collect _];show wpAny _ A.in1 (newList []>>=λl=>again (.builtin "list.__iadd__" ⟨[l,.ref r],[]⟩)) _ _ s;refine AN (Nw ?_);refine BM ⟨X9 X6 _,Pv entry_list_iadd' ?_⟩;rw[Oy X6 _];have D:(s.heap.push {cls:=.type "list",data:=.seq ([]:List Value).toArray}).get? s.heap.objs.size=some {cls:=.type "list",data:=.seq #[]}:=Fu _ rfl;show wpAny _ A.in1 (Builtin.List.listExtendWith (.ref s.heap.objs.size) (.ref r) (.ref s.heap.objs.size)) _ _ _;have m:=kdl_extend (A:=A) (s:={s with heap:=s.heap.push {cls:=.type "list",data:=.seq ([]:List Value).toArray}}) (R:=λ(q:Result)(t:Shared)=>∃(g:Heap)(i:Nat)(a:Array Value)(c:Nat),q=.ok (.ret (.ref s.heap.objs.size))/\t={s with heap:=g,toks:=i}/\
  (∀b o,s.heap.get? b=some o->g.get? b=some o)/\g.get? s.heap.objs.size=some {cls:=.type "list",dict:=none,data:=.seq a c,slots:= #[]}/\ItemsOf P a n) K B (K.keep _ _ p λb _ o e=>Bi _ e) s.heap.objs.size (Y5 u.1) (Y5 u.2) (.ref s.heap.objs.size) 0 D
  (λg i a c k j a2=>⟨g,i,a,c,rfl,rfl,λb o e=>k b o (HI (FR e)) (Bi _ e),j,a2⟩) z
 refine PP m (λf t x=>?_) λe t x=>?_
 .cases f with
  |done f=>
   obtain⟨g,i,a,c,e,rfl,k,j,a2⟩:=x;cases e;show wpAny _ A (load s.heap.objs.size>>=_) _ _ _
   exact AN (wpAny_load j (BM (h g i a (FR j) k a2)))
  |again H=>refine⟨x.1,Tb x.2 λq s2 y=>?_⟩;obtain⟨g,i,a,c,rfl,rfl,k,j,a2⟩:=y;show wpAny _ A (load s.heap.objs.size>>=_) _ _ _;exact AN (wpAny_load j (BM (h g i a (FR j) k a2)))
 .obtain⟨_,_,_,_,C,_⟩:=x;cases C
end L2
namespace L2
open PySem PySem.Spec PyProof.Rows
noncomputable def jU(cells:List (Str×Addr)):List (Str×NameKind)->List (Str×Addr)->List (Str×Addr)
 |[],acc=>acc
 |(n,k)::r,acc=>jU cells r (if k=.free then(n,(cells.lookup n).getD 0)::acc else acc)
theorem mL{env:Env}:∀(l:List (Str×NameKind))(a:List (Str×Addr)),(∀p∈l,p.2=.free->∃c,env.cells.lookup p.1=some c)->
 (forIn l a λ(x:Str×NameKind)(cs:List (Str×Addr))=>if(x.2==NameKind.free)=true then(do let c<-cellOf env x.1;pure (Iw ((x.1,c)::cs)))else(pure (Iw cs):Sem _))=pure (jU env.cells l a)
 |[],a,_=>rfl
 |(n,k)::r,a,h=>by
  have ih:=λa=>mL (env:=env) r a λp g=>h p (B1 _ g);rw[List.forIn_cons];by_cases b:k=.free
  .obtain⟨c,i⟩:=h (n,k) Bn b;have d:env.cells.lookup n=some c:=i;have e:cellOf env n=pure c:=by unfold cellOf;rw[d]
   have f:(k==NameKind.free)=true:=by simp[b]
   simp only[f,YQ,e,pure_bind,ih];simp only[jU,b,YQ,d,HK]
  .have f:(k==NameKind.free)=false:=by simpa using b
   simp only[f,N2,YV,pure_bind,ih];simp only[jU,b,YV]
theorem mO{a:Scope}{env:Env}(h:∀p∈a.names,p.2=.free->∃c,env.cells.lookup p.1=some c):closureFor a env=pure (jU env.cells a.names []):=by have:=mL (env:=env) a.names [] h;unfold closureFor;simp only[bind_pure];exact this
theorem sA{cells:List (Str×Addr)}:∀(l:List (Str×NameKind))(a:List (Str×Addr)),(∀p∈l,p.2=.free->∃c,cells.lookup p.1=some c)->(∀y c,a.lookup y=some c->cells.lookup y=some c)->
 ∀y c,(jU cells l a).lookup y=some c->cells.lookup y=some c
 |[],_,_,ha,y,c,h=>ha y c h
 |(n,k)::r,a,hl,ha,y,c,h=>by
  refine sA r _ (λp i=>hl p (B1 _ i)) (λz d hz=>?_) y c h;by_cases b:k=.free
  .rw[FM b,DV]at hz;obtain⟨m,g⟩:=hl (n,k) Bn b;have f:cells.lookup n=some m:=g;split at hz
   .rename_i e
    have j:z=n:=by simpa using e
    subst j;rw[f]at hz⊢;exact hz
   .exact ha z d hz
  .rw[Da b]at hz;exact ha z d hz
theorem mP{cells:List (Str×Addr)}:∀(l:List (Str×NameKind))(a:List (Str×Addr))(y:Str),((a.lookup y).isSome=true\/(y,NameKind.free)∈l)->((jU cells l a).lookup y).isSome=true
 |[],_,_,h=>h.elim id λz=>nomatch z
 |(n,k)::r,a,y,h=>by
  refine mP r _ y ?_;by_cases b:k=.free
  .rw[FM b,DV];by_cases e:(y==n)=true
   .left;rw[e];rfl
   .rw[SU]at e;rw[e];rcases h with h|h
    .exact .inl h
    .rcases FC.mp h with h|h
     .have:y=n:=Kt Prod.fst h;subst this;simp at e
     .exact .inr h
  .rw[Da b];rcases h with h|h
   .exact .inl h
   .rcases FC.mp h with h|h
    .have:NameKind.free=k:=Kt Prod.snd h;exact absurd this.symm b
    .exact .inr h
theorem pH{cells:List (Str×Addr)}:∀(l:List (Str×NameKind))(a:List (Str×Addr))(y:Str)(c:Addr),(jU cells l a).lookup y=some c->(∃b,a.lookup y=some b)\/(y,NameKind.free)∈l
 |[],_,y,c,h=>.inl ⟨c,h⟩
 |(n,k)::r,a,y,c,h=>by
  rcases pH r _ y c h with⟨b,h'⟩|h'
  .by_cases d:k=.free
   .rw[FM d,DV]at h';split at h'
    .rename_i e
     have f:y=n:=by simpa using e
     subst f;subst d;exact .inr Bn
    .exact .inl ⟨b,h'⟩
   .rw[Da d]at h';exact .inl ⟨b,h'⟩
  .exact .inr (B1 _ h')
theorem gC{env:Env}(d:env.scope.kind=.function):∀(l:List (Str×NameKind))(y:Str),
 (l.map λ(n,k)=>if(k==NameKind.free&&env.scope.kind==.function&&env.kindOf n==some .cell)then(n,NameKind.cell)else(n,k)).lookup y=(l.lookup y).map λk=>if(k==NameKind.free&&env.kindOf y==some .cell)=true then NameKind.cell else k
 |[],_=>rfl
 |(n,k)::r,y=>by
  have ih:=gC d r y;have b:(env.scope.kind==ScopeKind.function)=true:=by rw[d];rfl
  rw[Ha,DV];by_cases e:(y==n)=true
  .have f:y=n:=by simpa using e
   subst f;by_cases c:(k==NameKind.free&&env.kindOf y==some .cell)=true
   .have a:(k==NameKind.free&&env.scope.kind==.function&&env.kindOf y==some .cell)=true:=by rw[b,Ur];exact c
    simp only[a,YQ,DV,Pm,IM,c]
   .have a:¬(k==NameKind.free&&env.scope.kind==.function&&env.kindOf y==some .cell)=true:=by rw[b,Ur];exact c
    rw[Da a];simp only[DV,Pm,IM];rw[Da c]
  .rw[SU]at e;by_cases a:(k==NameKind.free&&env.scope.kind==.function&&env.kindOf n==some .cell)=true
   .simp only[a,YQ,e,DV];exact ih
   .rw[SU]at a;simp only[a,N2,YV,e,DV];exact ih
noncomputable def cS(sc b:Scope)(N a xs:List Str):Bool:=
 sc.kind==.function&&xs.all (λx=>sc.names.lookup x==some .local&&!a.contains x)&&
 sc.names.all (λp=>p.2 !=.cell&&(p.2 !=.local||sc.names.lookup p.1==some .local)&&(p.2 !=.free||(b.names.lookup p.1==some .cell&&sc.names.lookup p.1==some .free)))&&
 a.all (λy=>sc.names.lookup y !=some .local)&&(N.length==a.length&&(N.zip a).all (λp=>p.1==p.2||sc.names.lookup p.2==none))
structure eY(sc M7:Scope)(N N' xs:List Str):Prop where
 kind:sc.kind=.function
 own:∀x∈xs,sc.names.lookup x=some .local/\x∉N'
 uR:∀p∈sc.names,p.2≠.cell
 loc:∀p∈sc.names,p.2=.local->sc.names.lookup p.1=some .local
 free:∀p∈sc.names,p.2=.free->M7.names.lookup p.1=some .cell/\sc.names.lookup p.1=some .free
 out:∀y∈N',sc.names.lookup y≠some .local
 len:N.length=N'.length
 pair:∀(i:Nat)(y:Str),N'[i]?=some y->sc.names.lookup y≠none->N[i]?=some y
theorem eY.of{sc k:Scope}{N b xs:List Str}(h:cS sc k N b xs=true):eY sc k N b xs:=by
 unfold cS at h;simp only[AC,Hb,X4,bne_iff_ne,IH,YC,ne_eq]at h;obtain⟨⟨⟨⟨r,j⟩,c⟩,q⟩,o,n⟩:=h;refine⟨r,λx f=>⟨(j x f).1,λz=>?_⟩,λp a=>(c p a).1.1,λp a e=>?_,λp a e=>?_,q,o,λi y d l=>?_⟩
 .have:=(j x f).2;rw[List.contains_eq_mem]at this;simp[z]at this
 .rcases(c p a).1.2 with z|z
  .exact absurd e z
  .exact z
 .rcases(c p a).2 with z|z
  .exact absurd e z
  .exact z
 .have s:i<b.length:=(GE.mp d).1;have g:N[i]?=some (N[i]'(by lia)):=DL (by lia);have m:(N[i]'(by lia),y)∈N.zip b:=by refine KE (i:=i) ?_;rw[List.getElem?_zip_eq_some];exact⟨g,d⟩
  rcases n _ m with z|z
  .rw[g];exact Kt some z
  .exact absurd z l
noncomputable def aM(X:Cx)(a:Scope)(C:Addr)(xs c:List Str)(s:Shared)(H:Hp)(b:List Addr):Cx:=
 {X with N:=xs++c,s₀:=s,H₀:=H,env:=compEnvC a (jU X.env.cells a.names []) C X.env,outer:=X.stack,stack:=X.stack,ex:=b,fn:=λy=>xs.contains y,pn:=[],xe:=λ_ _=>False}
section
variable{X:Cx}{pins:List (Addr×Obj)}{σ:St}{H:Hp}{s:Shared}{scope:Scope}{xs N':List Str}{fp:List Addr}
theorem iK(I:Inv X pins σ H s)(O:eY scope X.env.scope X.N N' xs):∀p∈scope.names,p.2=.free->∃c,X.env.cells.lookup p.1=some c:=λp a e=>I.ok.has p.1 (.inl (O.free p a e).1)
theorem fF(I:Inv X pins σ H s)(O:eY scope X.env.scope X.N N' xs)(y:Str):(relabel scope X.env).names.lookup y=(scope.names.lookup y).map λk=>if k=.free then NameKind.cell else k:=by
 unfold relabel;show(UZ _ scope.names).lookup y=_;rw[gC I.ok.kind];cases e:scope.names.lookup y with
 |none=>rfl
 |some k=>
  rw[IM,IM];by_cases a:k=.free
  .subst a;have:=(O.free (y,.free) (NA e) rfl).1;have b:X.env.kindOf y=some .cell:=this;rw[b];rfl
  .rw[Da a,Da (by simp[a])]
theorem A4{n:Heap}{R:Nat}(I:Inv X pins σ H s)(O:eY scope X.env.scope X.N N' xs)(A:∀b∈fp,oq X pins H b)(D:∀b∈fp,b<s.heap.objs.size){L:Str->Option Value}
 (Y:n.Ns s.heap.objs.size L)(g:∀b o,s.heap.get? b=some o->n.get? b=some o):
 Inv (aM X scope s.heap.objs.size xs N' s H fp) [] (xs.map (λ_=>none)++σ) H {s with heap:=n,toks:=R}:=by
 have f:=sA (cells:=X.env.cells) scope.names [] (iK I O) (λy c z=>nomatch z);refine⟨⟨I.ok.mod,?_,I.ok.glob,I.ok.blt,Bz _,λx y c n F=>I.ok.inj x y c (f x c n) (f y c F),λy B=>?_,λy c n F=>?_,I.ok.hd,I.ok.frames,.inl rfl,λb j=>⟨HI (D b j),λx c e=>(A b j).2.2.2.2.1 x c (f x c e)⟩,
  I.bs,Gc I.ok.Dq I.sz,λb o e j=>?_,λb j z=>?_,I.stack,I.ja,I.ok.tree,I.ok.QL⟩,rfl,I.bare,Un.kept g,⟨L,Y,λi y v e1 h e3=>?_⟩,λy c e=>?_,I.hok.fresh (Bz _),λy c e=>I.gx y c (f y c e),λp T=>absurd (show p∈([]:List (Addr×Obj))from T) (by simp),I.hok.kept g,?_⟩
 .show scope.kind=_;exact O.kind
 .have d:(relabel scope X.env).names.lookup y=some .cell\/(relabel scope X.env).names.lookup y=some .free:=B;rw[fF I O]at d;have a:scope.names.lookup y=some .free:=by
   cases e:scope.names.lookup y with
   |none=>rw[e]at d;rcases d with z|z<;>cases z
   |some k=>
    rw[e]at d;by_cases g:k=.free
    .rw[g]
    .rw[IM,Da g]at d;rcases d with z|z
     .have:k=.cell:=IR z;exact absurd this (O.uR (y,k) (NA e))
     .exact absurd (IR z) g
  exact Q1.mp (mP scope.names [] y (.inr (NA a)))
 .have E:(jU X.env.cells scope.names []).lookup y=some c:=F;have B:y∈xs:=by have Us:xs.contains y=true:=n;simpa using Us
  rcases pH scope.names [] y c E with⟨_,z⟩|z
  .cases z
  .have K:=(O.free (y,.free) z rfl).2;rw[(O.own y B).1]at K;cases K
 .have P:X.base.get? b=some o:=e;rcases(A b j).2.2.2.1 with z|z
  .exact I.ok.Ad b o P z
  .exact absurd (Fk (FR P) (Gc I.ok.Dq z)) (Pi _)
 .rcases FC.mp (I.uv b z)with q|q
  .exact(A b j).2.1 q
  .exact(A b j).2.2.1 q
 .have J:(xs++N')[i]?=some y:=e1;by_cases M:i<xs.length
  .rw[P2 (by simpa using M),Fm]at h;cases q:xs[i]? with
   |none=>rw[q]at h;cases h
   |some z=>rw[q]at h;cases h
  .rw[KM (by simpa using M)]at h;rw[KM (by lia)]at J;rw[Ee]at h;have VM:y∈N':=KE J;have t:NI (relabel scope X.env) y:=e3;unfold NI at t;rw[fF I O]at t;have a:scope.names.lookup y=some .free:=by
    cases e:scope.names.lookup y with
    |none=>rw[e]at t;rcases t with z|z|z<;>cases z
    |some k=>
     rw[e]at t;by_cases g:k=.free
     .rw[g]
     .rw[IM,Da g]at t;rcases t with z|z|z
      .have:k=.local:=IR z;subst this;exact absurd e (O.out y VM)
      .have:k=.cell:=IR z;exact absurd this (O.uR (y,k) (NA e))
      .exact absurd (IR z) g
   have Q:=(O.free (y,.free) (NA a) rfl).1;obtain⟨m,U,Z⟩:=I.loc;have VN:=O.pair _ y J (by rw[a];simp);obtain⟨u,r,l⟩:=Z _ y v VN h (.inr (.inl Q));refine⟨u,r,?_⟩;rcases l with⟨S,_⟩|⟨_,c,hc,o,C,hd⟩
   .have:X.env.scope.names.lookup y=some .local:=S;rw[Q]at this;cases this
   .refine .inr ⟨.inl ?_,c,?_,o,g c o C,hd⟩
    .show(relabel scope X.env).names.lookup y=_;rw[fF I O,a];rfl
    .obtain⟨c',w⟩:=Q1.mp (mP (cells:=X.env.cells) scope.names [] y (.inr (NA a)));have q:=f y c' w;rw[hc]at q;show(jU X.env.cells scope.names []).lookup y=some c;rw[w,<-IR q]
 .obtain⟨v,o,C,hd⟩:=I.cell y c (f y c e);exact⟨v,o,g c o C,hd⟩
 .show(xs.map (λ_=>none)++σ).length=(xs++N').length;rw[Dx,Dx,Ee,I.len,O.len]
end
noncomputable def PF(X:Cx)(d:List Expr)(t:TT):Prop:=
 ∀(a:List (Addr×Obj))(s:Shared)(b:St)(H:Hp)(Q:Bool->Hp->Prop),Inv X a b H s->t b H Q->
  wpAny (model X.prog X.w) X.A (forIn d true λc r=>if r=true then do let ok<-isTrue c X.env (eval c X.env);pure (Iw ok)else pure (Iw r)) (TP X a b Q) X.xe s
noncomputable def R0:TT:=λ_ H Q=>Q true H
theorem JJ{X:Cx}:PF X [] R0:=λ_ _ _ H _ I h=>wpAny_tests_nil ⟨H,I,h⟩
theorem JK{X:Cx}{c:Expr}{t:TT}(h:PT X c t):PF X [c] t:=λa s b H Q I q=>wpAny_tests_one (h a s b H Q I q)
noncomputable def A5(k:Nat)(q:TI)(g:TG)(tc:TT)(te:TE):TE:=λe H Q=>q e H λJ p=>∀D,p D=none->∃W:Nat->Nat->Hp->Prop,(∃m,W 0 m (upd p D (.lst [])))/\∀i m d,W i m d->
 (J.stop i d/\Q (.ref D) d)\/(J.go i d/\∀x o,J.NX i d x o->∀j:List (Option V),j.length=k->g x (j++e) o λa r=>∃h:List (Option V),h.length=k/\a=h++e/\
   tc a r λb n=>if b=true then te a n λy l=>∃f,l D=some (.lst f)/\f.length<sizeLine/\∃c,c<m/\W (i+1) c (upd l D (.lst (f++[y])))else∃c,c<m/\W (i+1) c n)
theorem qq{prog:Program}{w:World}{A:Around}{R:Result->Shared->Prop}{s:Shared}{u a l:Expr}{q:List Expr}{f:Scope}{pos:Pos}{E y:Value}{env:Env}(I:Nat->Shared->Prop)
 (z:∀n s,I n s->wpAny (model prog w) A (pyNext E) (λr e=>match r with
   |none=>R (.ok .next) e
   |some v=>wpAny (model prog w) A (letOwnedTupleGo a E v) (λ_ d=>wpAny (model prog w) A (assign a env v) (λ_ k=>
     wpAny (model prog w) A (forIn q true λc r=>if r=true then do let ok<-isTrue c env (eval c env);pure (Iw ok)else pure (Iw r)) (λok b=>
      if ok=true then wpAny (model prog w) A (eval u env) (λx j=>wpAny (model prog w) A (call (.builtin "list.append") [y,x]) (λ_ i=>∃m,m<n/\I m i) (λ_ _=>False) j) (λ_ _=>False) b
      else∃m,m<n/\I m b) (λ_ _=>False) k) (λ_ _=>False) d) (λ_ _=>False) e) (λ_ _=>False) s)
 (n:Nat)(h:I n s):
 codeAny (model prog w) A (.compLoop (.ListComp u [⟨a,l,q,0⟩] f pos) 0 E y env) R s:=by
 refine codeAny_loop rfl I (λn s F=>?_) n h;show wpAny _ A ((compTurn (.ListComp u [⟨a,l,q,0⟩] f pos) 0 E y env).onRaise (λx=>do noteFrame x env;theTreesLotGoes x)) _ _ s;refine wpAny_noted ?_;rw[compTurn_list];refine AN (YS (AN (PP (z n s F) (λr e p=>?_) λ_ _ g=>g.elim)));cases r with
 |none=>exact BM p
 |some v=>
  refine AN (PP p (λ_ d t=>?_) λ_ _ g=>g.elim);refine AN (PP t (λ_ k D=>AN (PP D (λok b o=>?_) λ_ _ g=>g.elim)) λ_ _ g=>g.elim);cases ok with
  |false=>exact BM ⟨rfl,o⟩
  |true=>exact AN (AN (PP o (λx j C=>AN (PP C (λ_ i B=>BM (BM ⟨rfl,B⟩)) λ_ _ g=>g.elim)) λ_ _ g=>g.elim))
section
variable{X:Cx}
theorem mQ{tg L U:Expr}{R:List Expr}{scope:Scope}{xs B:List Str}{pos:Pos}{g:TG}{tc:TT}{te:TE}(hc:X.calm=true)(O:eY scope X.env.scope X.N B xs)
 (hg:∀C s0 H0 j,PG (aM X scope C xs B s0 H0 j) tg g)(hf:∀C s0 H0 j,PF (aM X scope C xs B s0 H0 j) R tc)(he:∀C s0 H0 j,PE (aM X scope C xs B s0 H0 j) U te)
 {l:List (Addr×Obj)}{s:St}{H1:Hp}{s2:Shared}{it:Addr}{j:List Addr}{tn:Nat->Heap->Prop}{J:It}{Q:VK}{E:Value->Shared->Prop}{RR:Value->Addr->Result->Shared->Prop}
 (I2:Inv X l s H1 s2)(T:Turn X.prog X.w X.K tg J j it tn)(st2:tn 0 s2.heap)(f2:∀b∈j,oq X l H1 b)
 (h:∀D,H1 D=none->∃W:Nat->Nat->Hp->Prop,(∃m,W 0 m (upd H1 D (.lst [])))/\∀i m H2,W i m H2->
   (J.stop i H2/\Q (.ref D) H2)\/(J.go i H2/\∀x H3,J.NX i H2 x H3->∀t:List (Option V),t.length=xs.length->g x (t++s) H3 λP H4=>∃H:List (Option V),H.length=xs.length/\P=H++s/\
     tc P H4 λb F=>if b=true then te P F λy H6=>∃ys,H6 D=some (.lst ys)/\ys.length<sizeLine/\∃v,v<m/\W (i+1) v (upd H6 D (.lst (ys++[y])))else∃v,v<m/\W (i+1) v F))
 (hRR:∀D C s' H',(∃m,s'.heap.Ns C m)->(∀h',Heap.SameBut C s'.heap h'->Inv X l s H' {s' with heap:=h'})->s2.heap.objs.size<=D->s2.heap.objs.size<=C->H' C=none->Q (.ref D) H'->RR (.ref D) C (.ok .next) s'):
 wpAny (model X.prog X.w) X.A (newList []) (λacc s₃=>wpAny (model X.prog X.w) X.A (newFunctionEnv scope X.env.globals (jU X.env.cells scope.names []) [] X.env.qual none .none (some X.env)) (λM s₄=>codeAny (model X.prog X.w) X.A (.compStart (.ListComp U [⟨tg,L,R,0⟩] scope pos) 0 (.ref it) acc {M with scope:=relabel scope X.env}) (RR acc M.locals) s₄) E s₃) E s2:=by
 refine Nw (wpAny_newFunctionEnv O.uR (by intro y hy;simp at hy) (λk A6 A7=>?_) O.kind);dsimp only at A6 A7⊢;have hD:H1 s2.heap.objs.size=none:=I2.hok.fresh (Bz _);obtain⟨W,⟨m0,w0⟩,turn⟩:=h s2.heap.objs.size hD;have I3:Inv X l s (upd H1 s2.heap.objs.size (.lst [])) {s2 with heap:=s2.heap.push {cls:=.type "list",dict:=none,data:=.seq ([]:List Value).toArray}}:=
  I2.laid (t':=s2.toks) (λb u e=>Bi _ e) (Bz _) ⟨L9 _,[],0,.nil,Fu _ rfl⟩
 have R1:∀b∈j,b<s2.heap.objs.size:=λb f=>by obtain⟨o,e,_⟩:=T.obj _ _ st2 b f;exact FR e
 have f3:∀b∈j,oq X l (upd H1 s2.heap.objs.size (.lst [])) b:=λb f=>by obtain⟨q0,q⟩:=f2 b f;exact⟨by rw[ay (HI (R1 b f))];exact q0,q⟩
 generalize M8:({s2 with heap:=s2.heap.push {cls:=.type "list",dict:=none,data:=.seq ([]:List Value).toArray}}:Shared)=s3 at I3;have pI:s3.heap=s2.heap.push {cls:=.type "list",dict:=none,data:=.seq ([]:List Value).toArray}:=by rw[<-M8]
 have S:s3.heap.objs.size=s2.heap.objs.size+1:=by rw[pI,Heap.size_push]
 have old:∀b o,s3.heap.get? b=some o->k.get? b=some o:=λb o e=>A7.extBut b o (by rw[<-pI];exact HI (FR e)) (Bi _ (by rw[<-pI];exact e));have J4:Inv (aM X scope s3.heap.objs.size xs B s3 (upd H1 s2.heap.objs.size (.lst [])) j) [] (xs.map (λ_=>none)++s) (upd H1 s2.heap.objs.size (.lst [])) {s3 with heap:=k,toks:=s2.toks+([]:List (Str×Value)).length}:=
  A4 I3 O f3 (λb f=>by rw[S];exact XB (R1 b f)) (by rw[pI];exact A6) old
 have VO:({s3 with heap:=k,toks:=s2.toks+([]:List (Str×Value)).length}:Shared)={s2 with heap:=k,toks:=s2.toks+([]:List (Str×Value)).length}:=by rw[<-M8]
 rw[VO]at J4;have Uu:tn 0 k:=T.keep _ _ _ st2 λb f o e=>old b o (by rw[pI];exact Bi _ e);have hC:(s2.heap.push {cls:=.type "list",dict:=none,data:=.seq ([]:List Value).toArray}).objs.size=s3.heap.objs.size:=by rw[pI]
 have R3:∀{H':Hp},(∀b∈j,H' b=none)->∀b∈j,oq (aM X scope s3.heap.objs.size xs B s3 (upd H1 s2.heap.objs.size (.lst [])) j) [] H' b:=λhn b f=>⟨hn b f,HI (by rw[S];exact XB (R1 b f)),J4.ok.Ae b f,.inl f,λx c e=>((J4.ok.Ro b f).2 x c e),λp hp=>absurd (show p∈([]:List (Addr×Obj))from hp) (by simp)⟩;have I:codeAny (model X.prog X.w) X.A (.compLoop (.ListComp U [⟨tg,L,R,0⟩] scope pos) 0 (.ref it) (.ref s2.heap.objs.size) (compEnvC scope (jU X.env.cells scope.names []) s3.heap.objs.size X.env))
  (RR (.ref s2.heap.objs.size) s3.heap.objs.size) {s2 with heap:=k,toks:=s2.toks+([]:List (Str×Value)).length}:=by
  refine qq (λn s'=>∃(i:Nat)(t:List (Option V))(H':Hp),t.length=xs.length/\Inv (aM X scope s3.heap.objs.size xs B s3 (upd H1 s2.heap.objs.size (.lst [])) j) [] (t++s) H' s'/\tn i s'.heap/\(∀b∈j,H' b=none)/\W i n H') ?_ m0
   ⟨0,xs.map (λ_=>none),_,Ee _,J4,Uu,λb f=>(f3 b f).1,w0⟩
  rintro n s5 ⟨i,t,F,hv0,I5,M5,QO,w5⟩;rcases turn i n F w5 with⟨stop,qn⟩|⟨go,step⟩
  .refine bC (T.done (aM X scope s3.heap.objs.size xs B s3 (upd H1 s2.heap.objs.size (.lst [])) j) rfl rfl rfl hc i [] s5 (t++s) F _ I5 (R3 QO) M5 stop) ?_;rintro r s6 ⟨hr,Y⟩;subst hr;obtain⟨m,hnm,_⟩:=Y.loc;refine hRR _ _ s6 F ⟨m,hnm⟩ (λh' HP=>?_) (Bz _) (by rw[S];exact X7 _) Y.free qn;have R4:∀b o,s3.heap.get? b=some o->b≠s3.heap.objs.size:=λb o e=>HI (FR e);have u:=Y.base;have VQ:=I3.HC (s':={s6 with heap:=h'}) (H':=F) (ch:=j) Y.os ⟨λb o e n f hx=>HP.extBut b _ (R4 b o e) (u.keep b o e n f hx),λb o e n f hx=>by
    obtain⟨sl,q⟩:=u.slot b o e n f hx;exact⟨sl,HP.extBut b _ (R4 b o e) q⟩,u.free,λb o e hx=>by
    obtain⟨o',q⟩:=u.there b o e hx;exact⟨o',HP.extBut b _ (R4 b o e) q⟩,u.tups,u.jN,u.kU⟩ (λa o e=>?_) Y.bare (λb f=>?_)
   .exact VQ
   .have Uv:∀b u,F b=some u->b≠s3.heap.objs.size:=λb u e z=>by subst z;have:=Y.free;have e2:F s3.heap.objs.size=none:=this;rw[e2]at e;cases e
    refine(Y.hok a o e).stay (λb u f q=>HP.extBut b u ?_ q) (λ_ q=>q) λ_ _ q=>q;rcases f with rfl|f
    .exact Uv _ _ e
    .exact Uv _ _ f
   .obtain⟨q0,q1,q2,q3,q4,q5⟩:=f3 b f;exact⟨q3,q1,q4,q5⟩
  .refine bC (T.item (aM X scope s3.heap.objs.size xs B s3 (upd H1 s2.heap.objs.size (.lst [])) j) rfl rfl rfl hc i [] s5 (t++s) F _ I5 (R3 QO) M5 go) ?_;rintro r s6 ⟨u,hr,h6⟩;subst hr;refine bC h6 ?_;rintro _ s7 ⟨x,H7,I7,r7,y7,R5,VR⟩;have VU:=I7.pinned (R3 VR) (T.obj _ _ R5);refine bC (hg _ _ _ _ _ s7 (t++s) H7 x u _ VU r7 (step x H7 y7 t hv0)) ?_;rintro _ s8 ⟨XC,H8,I8,H,hv1,e8,q8⟩;subst e8;have fin:∀{Z:Shared}{H9:Hp},Inv (aM X scope s3.heap.objs.size xs B s3 (upd H1 s2.heap.objs.size (.lst [])) j) ([]++mw j s7.heap) (H++s) H9 Z->(∃v,v<n/\W (i+1) v H9)->
    ∃m,m<n/\∃(i:Nat)(t:List (Option V))(H':Hp),t.length=xs.length/\Inv (aM X scope s3.heap.objs.size xs B s3 (upd H1 s2.heap.objs.size (.lst [])) j) [] (t++s) H' Z/\tn i Z.heap/\(∀b∈j,H' b=none)/\W i m H':=λ{Z H9} I9 ⟨v,hm,w9⟩=>by
    refine⟨v,hm,i+1,H,H9,hv1,I9.je,T.keep _ _ _ R5 λb f o e=>(I9.pin (b,o) (FV _ (FV _ (fV f e)))).1,λb f=>?_,w9⟩;obtain⟨o,e,d⟩:=T.obj _ _ R5 b f;exact(I9.pin (b,o) (FV _ (FV _ (fV f e)))).2.1
   refine bC (hf _ _ _ _ _ s8 (H++s) H8 _ I8 q8) ?_;rintro ok Z ⟨H9,I9,q9⟩;cases ok with
   |false=>exact fin I9 q9
   |true=>show wpAny _ _ _ _ _ _;refine bC (he _ _ _ _ _ Z (H++s) H9 _ I9 q9) ?_;rintro y VW ⟨vy,VX,VY,VZ,ys,hys,hl,V0⟩;refine bC (gP (X:=aM X scope s3.heap.objs.size xs B s3 (upd H1 s2.heap.objs.size (.lst [])) j) _ VW (H++s) VX (.ref s2.heap.objs.size) [vy] _ [y] (λ_ H'=>∃v,v<n/\W (i+1) v H') VY rfl (.cons VZ .nil) ⟨_,ys,vy,rfl,rfl,hys,hl,V0⟩) ?_;rintro _ XD ⟨_,XE,V1,_,V2⟩;exact fin V1 V2
 rw[hC];exact codeAny_compStart_list I (T.self X.A 0 _ _ _ Uu I)
theorem Ef{tg a i:Expr}{f:List Expr}{scope:Scope}(xs k:List Str){pos:Pos}{o:TI}{g:TG}{tc:TT}{te:TE}(F:X.calm=true)(u:cS scope X.env.scope X.N k xs=true)(y:PI X tg a o)
 (B:∀C d j c,PG (aM X scope C xs k d j c) tg g)(E:∀C d j c,PF (aM X scope C xs k d j c) f tc)(he:∀C d j c,PE (aM X scope C xs k d j c) i te)
 (r:∀z,foldedSetIterable a X.env z=pure z:=by intro _;rfl):PE X (.ListComp i [⟨tg,a,f,0⟩] scope pos) (A5 xs.length o g tc te):=by
 intro b s n H Q I h;have O:=eY.of u;rw[eval_ListComp];refine wpAny_comprehension_free (use:=none) rfl r (mO (iK I O)) O.kind O.loc (bC (y b s n H _ I h) λv s1 M=>bC M λp s2 L=>?_);obtain⟨it,c,Z,J,H2,e,S,T,st2,R,t⟩:=L;subst e;refine mQ (RR:=λl C=>compPost (model X.prog X.w) X.A X.xe none (EP X b n Q) l C) F O B E he S T st2 R t ?_;rintro D C s' Y ⟨m,x⟩ K _ _ _ q;exact⟨m,x,λP U=>⟨.ref D,Y,K P U,rfl,q⟩⟩
end
theorem pJ{a:List Bool}:∀{us:List Value},Vals (a.map V.bl) us->us=a.map Value.bool:=by
 induction a with
 |nil=>intro us r;rw[Y6]at r;cases r;rfl
 |cons b a f=>
  intro us r;rw[Ha]at r;cases r with
  |cons d c=>have e:_=Value.bool b:=d;rw[e,f c];rfl
theorem uS(d:List Bool):((Ea d.length).all λi=>(d[i]?).getD true)=d.all id:=by
 rw[T2,Hb,Hb];constructor
 .intro h b e;obtain⟨i,c,rfl⟩:=X1 e;have:=h i (SF.mpr c);simp only[DL c,HK]at this;exact this
 .intro h i c;have a:=SF.mp c;simp only[DL a,HK];exact h _ (Mo a)
section
variable{X:Cx}
theorem yx(k:X.calm=true):aZ X (.builtin "sum") (λxs H Q=>∃(p:Addr)(a:List Int),xs=[.ref p]/\iH X.K H p (a.map V.int)/\Q (.int a.sum) H):=by
 intro d s o H xs t Q I r h;obtain⟨p,a,rfl,l,q⟩:=h;obtain⟨u,rfl,g⟩:=Vals.one r;cases(show u=Value.ref p from g);obtain⟨b,rv,i,_⟩:=I.list l;have f:=intsAre_of rv;obtain⟨xs,e⟩:=f.allInts.items;have c:s.heap.IsList p (intItems xs):=e▸i.isList;refine sum_intListG (I.ok.hd k) c λx v w j=>?_;have n:a=xs.toList.map (·.1):=by rw[<-nums_intItems,<-e];exact(show numsOf b.toArray.toList=a from f.numsOf).symm
 have m:preSum (numAt xs) xs.size=a.sum:=by rw[preSum_eq,Qe (by simp),n]
 rw[m];exact⟨.int a.sum,H,I.kept j,⟨_,rfl⟩,q⟩
theorem yy(x:X.calm=true):aZ X (.builtin "all") (λxs H Q=>∃(p:Addr)(c:List Bool),xs=[.ref p]/\iH X.K H p (c.map V.bl)/\Q (.bl (c.all id)) H):=by
 intro j s D H xs E Q I r h;obtain⟨p,c,rfl,y,q⟩:=h;obtain⟨u,rfl,m⟩:=Vals.one r;cases(show u=Value.ref p from m);obtain⟨a,rv,n,_⟩:=I.list y;have k:=pJ rv;have g:=n.isList;have f:p<s.heap.objs.size:=by obtain⟨_,e,_⟩:=g;exact FR e
 refine call_all_walk (YR g ?_);refine⟨s.heap.objs.size,[s.heap.objs.size,p],[s.heap.objs.size],a.toArray.size,_,_,λi=>(c[i]?).getD true,rfl,Walks.list (A:=X.A.in1) (I.ok.hd x) _ p (HI f) a.toArray,
  ⟨⟨_,Fu _ rfl,rfl,rfl⟩,g.push _⟩,λi v J M N B l=>?_,λL F w=>?_⟩
 .have d:a[i]?=some v:=by simpa using B
  rw[k,Fm]at d;cases e:c[i]? with
  |none=>rw[e]at d;cases d
  |some b=>rw[e]at d;simp only[e,HK]at l;have:v=Value.bool b:=(IR d).symm;subst this;exact QP l
 .have e:((Ea a.toArray.size).all λi=>(c[i]?).getD true)=c.all id:=by
   have C:a.toArray.size=c.length:=by rw[Fs,k,Ee]
   rw[C];exact uS c
  rw[e];exact⟨.bl _,H,I.kept λb o z=>w b o (λt=>by rw[Do.mp t]at z;exact Pi _ (FR z)) (Bi _ z),rfl,q⟩
theorem Eg{i:Nat}{x:Str}{tg f r:Expr}{k:List Expr}{scope:Scope}{d pos t:Pos}(xs P:List Str){wi:TI}{g:TG}{tc:TT}{te:TE}(hN:X.N.Nodup)(hi:X.N[i]?=some x)(B:Loc X.env.scope x)(hc:X.calm=true)(ho:cS scope X.env.scope X.N P xs=true)(OM:PI X tg f wi)
 (hg:∀C K M F,PG (aM X scope C xs P K M F) tg g)(hf:∀C K M F,PF (aM X scope C xs P K M F) k tc)(he:∀C K M F,PE (aM X scope C xs P K M F) r te)
 (Y:swapsWith (.ListComp r [⟨tg,f,k,0⟩] scope pos) (some (.Name x d)) t.line X.env=pure true:=by rfl)
 (hs:∀z,foldedSetIterable f X.env z=pure z:=by intro _;rfl)(hfn:X.fn x=true\/X.env.scope.names.lookup x=some .local:=by first|exact .inl rfl|exact .inr rfl|assumption):
 PS X (.Assign [.Name x d] (.ListComp r [⟨tg,f,k,0⟩] scope pos) t) (mq (A5 xs.length wi g tc te) (fD i)):=by
 intro j s R H W I h;have O:=eY.of ho;rw[exec_Assign_Name_used _ _ _ _ Y];refine AN (YS (AN ?_));show wpAny _ X.A (do let _<-comprehension (.ListComp r [⟨tg,f,k,0⟩] scope pos) scope X.env _ (newList []) false (eval f X.env) (some (assign (.Name x d) X.env))) _ _ s;refine AN (PP (wpAny_comprehension_free (use:=some (assign (.Name x d) X.env)) (Q:=λ_ s'=>SP X j W .next s') rfl hs (mO (iK I O)) O.kind O.loc (bC (OM j s R H _ I h) λv s1 h1=>bC h1 λitv s2 h2=>?_)) (λ_ s' hq=>BM (BM hq)) λ_ _ e=>e);obtain⟨it,F,tn,J,H2,e,L,T,st2,f2,hq⟩:=h2;subst e;refine mQ (Q:=λx H1=>fD i x R H1 W.nx) (RR:=λacc C=>compPost (model X.prog X.w) X.A X.xe (some (assign (.Name x d) X.env)) (λ_ s'=>SP X j W .next s') acc C) hc O hg hf he L T st2 f2 hq ?_;rintro D C s' H' ⟨m,hm⟩ hI _ hC fC q;have I':Inv X j R H' s':=hI s'.heap ⟨rfl,λ_ _=>rfl⟩;have U:∀b o,s2.heap.get? b=some o->b≠C:=λb o e=>HI (Fk (FR e) hC);have nL:C≠X.env.locals:=λe=>by obtain⟨m2,hn2,_⟩:=L.loc;obtain⟨o,_,_,ho2,_⟩:=hn2;exact U _ o ho2 e.symm
 have nC:∀y c,X.env.cells.lookup y=some c->c≠C:=λy c e z=>by obtain⟨v,o,e1,_⟩:=L.cell y c e;exact U _ o e1 z
 have nP:∀p∈X.pn++j,p.1≠C:=λp hp z=>U _ _ (L.pin p hp).1 z;show wpAny _ X.A (assign (.Name x d) X.env (.ref D)) _ _ _;refine wpAny_assign_Name (oW I' hN hi B (v:=.ref D) rfl (λS R6 Z=>?_) hfn);obtain⟨a,HP,ha⟩:=Z;have aC:a≠C:=by
  rcases ha with rfl|ha
  .exact Ki nL
  .exact nC x a ha
 refine⟨m,hm.sameBut HP (Ki aC),λh' l=>⟨_,H',?_,q⟩⟩;refine R6.HC (s':={S with heap:=h'}) (H':=H') (ch:=[C]) rfl ⟨λb o e n E B=>l.extBut b o (λz=>B (by rw[z];exact Do.mpr rfl)) e,λb o e n E B=>⟨o.slots,l.extBut b o (λz=>B (by rw[z];exact Do.mpr rfl)) e⟩,λb o e n B=>n,λb o e B=>⟨o,l.extBut b o (λz=>B (by rw[z];exact Do.mpr rfl)) e⟩,λb xs q=>q,λb o u q=>q,λb ps q=>⟨#[],by rw[Array.append_empty];exact q⟩⟩ (λa o e=>?_) R6.bare (λb E=>?_)
 .refine(R6.hok a o e).stay (λb u E q=>l.extBut b u ?_ q) (λ_ q=>q) λ_ _ q=>q;rintro rfl;rcases E with rfl|E
  .rw[fC]at e;cases e
  .rw[fC]at E;cases E
 .rw[Do.mp E];exact⟨.inr (Gc L.sz hC),nL,λy c e z=>nC y c e z,nP⟩
end
end L2
namespace L2
open PySem PySem.Spec PyProof.Rows PySem.W
noncomputable def tx(l:List Nat):Str:=⟨l.toArray⟩
theorem jV(x:Str):tx x.cps.toList=x:=by unfold tx;rw[S5]
theorem p7(l:List Nat):(tx l).length=l.length:=rfl
theorem jM(l:List Nat):(tx l).cps.toList=l:=rfl
theorem uT{a b:List Nat}(h:tx a=tx b):a=b:=by have:=Kt (λx=>x.cps.toList) h;exact this
theorem eZ(a b:List Nat):tx a++tx b=tx (a++b):=by show Str.mk (a.toArray++b.toArray)=Str.mk (a++b).toArray;congr 1;exact List.append_toArray a b
theorem mR(x:Str):x.length=x.cps.toList.length:=by unfold Str.length;exact(Ar).symm
noncomputable def oA(l:List Nat)(a b:Option Int):List Nat:=(l.drop (HT.bO l.length 0 a)).take (HT.bO l.length l.length b -HT.bO l.length 0 a)
section
variable{X:Cx}
theorem JL(a b:Option Int)(n:Nat):Builtin.Str.strSliceIndices a b 1 n=(Ea (HT.bO n n b -HT.bO n 0 a)).map (HT.bO n 0 a+·):=by obtain⟨d,c,f⟩:=jh a b n;have e:Builtin.Str.strSliceIndices a b 1 n=sliceRange (sliceBounds a b none n).1 (sliceBounds a b none n).2.1 1:=rfl;rw[e,d,c,sliceRange_one]
theorem A8(x:Str)(a c:Option Int):Txt.slice x a c=tx (oA x.cps.toList a c):=by
 unfold Txt.slice;rw[JL,pick_run];have b:=mR x;unfold oA;rw[<-b];split
 .rename_i h
  simp only[Pm,QW,IH,Ee,YB]at h;rw[h];have z:HT.bO x.length 0 a=0\/x.length=0:=by
   have:HT.bO x.length x.length c<=x.length:=by
    unfold HT.bO;split
    .exact Bz _
    .split<;>omega
   omega
  rcases z with z|z
  .rw[z,Q8,Qe (by rw[b];exact Bz _),jV]
  .have:x.cps.toList=[]:=Jn.mp (by rw[<-b,z]);rw[this,z];simp only[List.drop_nil,U9];rw[<-this,jV]
 .rfl
theorem JM:HH X (λx b c H Q=>∃z:Str,x=.str z/\z.length<=sizeLine/\Q (.str (tx (oA z.cps.toList b c))) H):=by
 intro a s m H x v o n b c p Q I r g y f h;obtain⟨z,rfl,hz,q⟩:=h;obtain⟨t,rfl⟩:=r;refine⟨"str",_,PySem.F.slot_str_getitem.lookup,typeIs_str _ _ _,?_⟩;have d:∀l u:Option (Int×Tok),o=partValue l->n=partValue u->b=l.map (·.1)->c=u.map (·.1)->wpAny (model X.prog X.w) X.A (getItem (.str z t) (.ref p)) (EP X a m Q) X.xe s:=λl u E D C B=>by
  refine wpAny_getItem_str_slice (l:=l) (u:=u) (st:=none) (by rw[E,D]at g;exact g) rfl ?_;refine post_val_or_str ?_;have e:(if((none:Option (Int×Tok)).map (·.1)).getD 1==1&&(slicePicked z l u none).length==z.length then z else⟨((slicePicked z l u none).filterMap (z.cps[·]?)).toArray⟩)=Txt.slice z b c:=by rw[C,B];rfl
  rw[e];exact⟨Gc (Txt.slice_le z _ _) hz,λJ k=>⟨.str (Txt.slice z b c),H,I.tok _,⟨_,rfl⟩,by rw[A8];exact q⟩⟩
 cases y with
 |none=>
  cases f with
  |none=>exact d none none rfl rfl rfl rfl
  |int j u=>exact d none (some (j,u)) rfl rfl rfl rfl
 |int i w=>
  cases f with
  |none=>exact d (some (i,w)) none rfl rfl rfl rfl
  |int j u=>exact d (some (i,w)) (some (j,u)) rfl rfl rfl rfl
theorem yz:aZ X (.type "str") (λxs H Q=>(∃x,xs=[.str x]/\Q (.str x) H)):=by intro a s c H xs d Q I r h;obtain⟨x,rfl,q⟩:=h;obtain⟨u,rfl,b⟩:=vals1 r;obtain⟨t,rfl⟩:=b;exact PySem.P.str_of_str ⟨.str x,H,I,⟨_,rfl⟩,q⟩
theorem yC:aZ X (.type "int") (λxs H Q=>(∃x n,xs=[.str x]/\PySem.intText? x=some n/\x.length<=640/\Q (.int n) H)):=by intro a s e H xs f Q I r h;obtain⟨x,n,rfl,d,c,q⟩:=h;obtain⟨u,rfl,b⟩:=vals1 r;obtain⟨t,rfl⟩:=b;exact PySem.W.KIN.call_text d c ⟨.int n,H,I.tok _,⟨_,rfl⟩,q⟩
theorem Eh:i7 X (binaryOp .Mult) (λx y H Q=>∃z:Str,x=.str z/\y=.int 3/\z.length<=1000/\Q (.str (tx (z.cps.toList++z.cps.toList++z.cps.toList))) H):=by
 intro a s f H x y v u Q I c b h;obtain⟨z,rfl,rfl,j,q⟩:=h;obtain⟨t,rfl⟩:=c;obtain⟨i,rfl⟩:=b;refine SB.mul ⟨by decide,λ_ _=>?_,λ_ _=>?_⟩ λg k=>⟨.str _,H,I.tok _,⟨_,rfl⟩,?_⟩
 .have:((2^63 -1)/3:Int)>1000:=by decide
  omega
 .unfold Builtin.Str.tooLong;exact Fn (by rw[Y2];show¬z.length*3>_;omega)
 .have e:Txt.mul z 3=tx (z.cps.toList++z.cps.toList++z.cps.toList):=by
   unfold Txt.mul;rw[Da (by decide)];split
   .rename_i h
    have d:z.length=0:=by simpa using h
    have:z.cps.toList=[]:=Jn.mp (by rw[<-mR,d]);rw[this];exact(jV z).symm.trans (by rw[this];rfl)
   .show Str.mk (((#[]++z.cps)++z.cps)++z.cps)=_;unfold tx;congr 1;apply Tn.mp;simp
  rw[e];exact q
theorem yD:RP X "str.startswith" (λx xs H Q=>∃(z y:Str)(i:Nat),x=.str z/\xs=[.str y,.int i]/\i<=z.length/\Q (.bl (y.cps.toList.isPrefixOf (z.cps.toList.drop i))) H):=by
 intro d s o H x xs v p Q I j r h;obtain⟨z,y,i,rfl,rfl,m,q⟩:=h;obtain⟨t,rfl⟩:=j;obtain⟨w,u,rfl,l,k⟩:=vals2 r;obtain⟨g,rfl⟩:=l;obtain⟨f,rfl⟩:=k;refine call_gives PySem.F.slot_str_startswith (typeIs_str _ _ _) PySem.F.entry_str_startswith (PySem.F.args_str_startswith_3 _ _ _) (gives_str_startswith_from z y i t g f) ?_;refine⟨.bl _,H,I,rfl,?_⟩;have e:fromIndex z.length (i:Int)=i:=by unfold fromIndex;omega
 rw[e];have n:(decide (i+y.length<=z.length)&&Builtin.Str.subAt z y i)=y.cps.toList.isPrefixOf (z.cps.toList.drop i):=by
  rw[T2,AC,TC,Y8,List.prefix_iff_eq_take];unfold Builtin.Str.subAt;rw[IH,<-Tn,Array.toList_extract,mR y,mR z];have hz:i<=z.cps.toList.length:=by rw[<-mR];exact m
  generalize z.cps.toList=a at*;generalize y.cps.toList=b at*;rw[List.extract_eq_take_drop,YK];constructor
  .rintro⟨A,c⟩;exact c.symm
  .intro c;refine⟨?_,c.symm⟩;have:=Kt IY c;rw[SL,YM]at this;omega
 rw[n];exact q
end
end L2
namespace qt
open L2 PySem
noncomputable def dg(m:Nat):List Nat:=(M3 10 m).map Char.toNat
theorem A9(m:Nat):(Str.ofString (toString ((m:Nat):Int)))=tx (dg m):=by have h:=PySem.W.KIN.signs_num m;have:tx (Str.ofString (toString ((m:Nat):Int))).cps.toList=Str.ofString (toString ((m:Nat):Int)):=jV _;rw[<-this,h];rfl
theorem mT(m:Nat):∀c∈dg m,48<=c/\c<=57:=by intro c b;obtain⟨d,a,e⟩:=Hn.mp b;have r:=Vt (Nat.isDigit_of_mem_toDigits (by decide) (by decide) a);rw[<-e];exact r
theorem uU(m:Nat):PySem.NumText.digitsVal (dg m)=m:=PySem.W.KIN.val_back m
theorem pK(m:Nat):dg m≠[]:=by
 intro h;have:=uU m;have b:(M3 10 m).length=0:=by have:=Kt IY h;unfold dg at this;rw[Ee]at this;exact this
 have a:=Ve 10 m;omega
theorem qu{m k:Nat}(a:1<=k)(h:m<10^k):(dg m).length<=k:=by unfold dg;rw[Ee];exact Vj a h
theorem Ba{m:Nat}(h:m<10):dg m=[m+48]:=by
 have:∀m,m<10->dg m=[m+48]:=by decide
 exact this m h
theorem JN{m:Nat}(h:10<=m):dg m=dg (m/10)++dg (m%10):=by have t:M3 10 (m/10)++M3 10 (m%10)=M3 10 (10*(m/10)+m%10):=Nat.toDigits_append_toDigits (by decide) (by omega) (Sq _ (by decide));rw[Nat.div_add_mod]at t;unfold dg;rw[<-t,KB]
theorem Ei(m:Nat):∀c r,dg m=c::r->c=48->r=[]:=by
 induction m using Nat.strongRecOn with
 |ind m f=>
  intro c r e b;rcases UF m 10 with h|h
  .rw[Ba h]at e;cases e;rfl
  .rw[JN h]at e;cases hd:dg (m/10)with
   |nil=>exact absurd hd (pK _)
   |cons a s=>
    rw[hd]at e;have d:a=c:=by have:=YF e;exact this.1
    have:=f (m/10) (by omega) a s hd (d.trans b);subst this;have v:=uU (m/10);rw[hd,d,b]at v;have:PySem.NumText.digitsVal [48]=0:=rfl;omega
end qt
namespace L2
open PySem PySem.Spec PyProof.Rows
section
variable{X:Cx}
noncomputable def QX(a st:Int)(n:Nat):It:=⟨λi _=>i<n,λi H x b=>b=H/\x=.int (a+i*st),λi _=>n<=i⟩
theorem sC{P:Program}{w:World}{K:Frag}{tg:Expr}(c:Addr)(g st:Int)(n:Nat):Turn P w K tg (QX g st n) [c] c (λi h=>IsRangeIter h c (g+(i:Nat)*st) ((n:Int) -(i:Nat)) st)where
 mem:=by simp
 obj:=λi h st b d=>by
  have e:b=c:=by simpa using d
  subst e;exact⟨_,st,λv z=>by have L:Data.fields _=Data.cell v:=z;cases L⟩
 keep:=λi h l st k=>k c (by simp) _ st
 item:=by intro X r m u q i a s F H E I j D p;subst r m u;obtain⟨C,B,O,A,y,x⟩:=j c (by simp);have W:=Walks.range (prog:=X.prog) (w:=X.w) (I.ok.hd q) c g st n;refine W.item i s _ _ p D λv l J N f M=>?_;obtain⟨t,rfl⟩:=N;have R:Inv X a F H {s with heap:=l,toks:=J}:=I.turned (λb o d e=>M b o (by simpa using d) e) C B A y x;exact⟨_,rfl,vX (s:={s with heap:=l,toks:=J}) (n:="range_iterator") f rfl rfl (by decide) ⟨.int (g+i*st),H,R,⟨t,rfl⟩,⟨rfl,rfl⟩,f,λb d=>(j b d).1⟩⟩
 done:=by intro X r m u q i a s F H E I j D p;subst r m u;obtain⟨C,B,O,A,y,x⟩:=j c (by simp);exact wpAny_pyNext_range_end (I.ok.hd q) D (by have:n<=i:=p;omega) λl Q=>⟨rfl,I.turned (t':=s.toks) (λb o d e=>Q b o d e) C B A y x⟩
 self:=λ_ _ _ _ _ st h=>wpAny_pyIter_rangeiter st h
theorem yE{tg:Expr}{c:List (Addr×Obj)}{f:St}{H:Hp}{s:Shared}{R:It->Hp->Prop}{E:Value->Shared->Prop}{a d st:Int}{n:Nat}{t u v:Tok}{g:Nat}(I:Inv X c f H s)(i:Builtin.Range.small a d st=true)(j:Builtin.Range.rangeSize a d st=(n:Int))
 (q:R (QX a st n) H):wpAny (model X.prog X.w) X.A (pyIter (.ref s.heap.objs.size)) (RC X c f tg R) E {s with heap:=s.heap.push {cls:=.type "range",data:=.fields #[.int a t,.int d u,.int st v]},toks:=g}:=by
 refine wpAny_pyIter_range (IsRange.new ..) i ?_;have h:Inv X c f H {s with heap:=s.heap.push {cls:=.type "range",data:=.fields #[.int a t,.int d u,.int st v]},toks:=g}:=I.kept λb o e=>Bi _ e;refine⟨(s.heap.push {cls:=.type "range",data:=.fields #[.int a t,.int d u,.int st v]}).objs.size,[(s.heap.push {cls:=.type "range",data:=.fields #[.int a t,.int d u,.int st v]}).objs.size],_,_,H,rfl,
  h.kept (t':=g) λb o e=>Bi _ e,sC _ a st n,?_,λb k=>?_,q⟩
 .have m:a+((0:Nat):Int)*st=a:=by simp
  have l:(n:Int) -((0:Nat):Int)=Builtin.Range.rangeSize a d st:=by rw[j];simp
  show IsRangeIter _ _ (a+((0:Nat):Int)*st) ((n:Int) -((0:Nat):Int)) st;rw[m,l];exact Fu _ rfl
 .have e:b=(s.heap.push {cls:=.type "range",data:=.fields #[.int a t,.int d u,.int st v]}).objs.size:=by simpa using k
  subst e;exact h.Dz (Bz _) (h.hok.fresh (Bz _))
noncomputable def ON(ta:TA):TI:=λa H R=>ta a H λb c=>∃(i j k:Int)(n:Nat),b=[.int i,.int j,.int k]/\(k≠0/\k.natAbs<1073741824/\Builtin.Range.small i j k=true/\Builtin.Range.rangeSize i j k=(n:Int))/\R (QX i k n) c
theorem yF{tg a b c:Expr}{ta:TA}{p pos:Pos}(C:Gl X "range")(B:X.mg "range"=none)(D:PA X [a,b,c] ta)(A:starEach [a,b,c] X.env=[(false,eval a X.env),(false,eval b X.env),(false,eval c X.env)]:=by rfl)(g:starEach [b,c] X.env=[(false,eval b X.env),(false,eval c X.env)]:=by rfl):
 PI X tg (.Call (.Name "range" p) [a,b,c] [] pos) (ON ta):=by
 intro f s o H R I h;refine Call_ (jP I C B boot_range (TK (bC (D pos f s o H _ I h) λJ L ⟨F,M,E,v,m⟩=>?_) (by rw[A,g]) (by rw[g];rfl)));obtain⟨i,j,k,n,e,⟨m,z,y,x⟩,q⟩:=m;subst e;cases v with
 |cons r d=>
  cases d with
  |cons w d=>
   cases d with
   |cons l d=>
    cases d;obtain⟨t,rfl⟩:=r;obtain⟨K,rfl⟩:=w;obtain⟨u,rfl⟩:=l;exact call_range_3 m (yE E y x q) (.inl (Q9 z))
end
end L2
namespace L2
open PySem
end L2
namespace L2
open PySem PySem.Spec PyProof.Rows
noncomputable def Dt(X:Cx)(H:Hp)(x:V)(d:PyData):Prop:=
 ∀(a:List (Addr×Obj))(b:St)(s:Shared)(u:Value),Inv X a b H s->RelV x u->∃c,Reads s.heap u d c
section
variable{X:Cx}{H:Hp}
theorem JO(i:Int):Dt X H (.int i) (.int i):=λ_ _ s u _ r=>by obtain⟨t,rfl⟩:=r;exact⟨_,.int i t⟩
theorem OO(b:Bool):Dt X H (.bl b) (.bool b):=λ_ _ s u _ r=>by
 cases(show u=Value.bool b from r);exact⟨_,.bool b⟩
theorem JP(x:Str):Dt X H (.str x) (.str x):=λ_ _ s u _ r=>by obtain⟨t,rfl⟩:=r;exact⟨_,.str x t⟩
theorem JQ:Dt X H .aI .none:=λ_ _ s u _ r=>by
 cases(show u=Value.none from r);exact⟨_,.none⟩
theorem uV{a:List (Addr×Obj)}{c:St}{s:Shared}(I:Inv X a c H s):∀{xs:List V}{ds:List PyData}{us:List Value},Paired (Dt X H) xs ds->Vals xs us->∃b,ReadsAll s.heap us ds b
 |_,_,_,.nil,.nil=>⟨_,.nil⟩
 |_,_,_,.cons h t,.cons r d=>by obtain⟨b,q⟩:=h _ _ _ _ I r;obtain⟨f,e⟩:=uV I t d;exact⟨_,.cons q e⟩
theorem Bb{a:Addr}{xs:List V}{ds:List PyData}(h:iH X.K H a xs)(b:Paired (Dt X H) xs ds):Dt X H (.ref a) (.list ds):=λ_ _ s u I r=>by
 cases(show u=Value.ref a from r);obtain⟨d,rv,c,_⟩:=I.list h;obtain⟨g,q⟩:=uV I b rv;obtain⟨o,e,f,n,hd⟩:=c.isList;exact⟨_,.list e f hd (by simpa using q)⟩
theorem JR{a:Addr}{xs:List V}{ds:List PyData}(h:iB X.K H a xs)(b:Paired (Dt X H) xs ds):Dt X H (.ref a) (.tuple ds):=λ_ _ s u I r=>by
 cases(show u=Value.ref a from r);obtain⟨c,rv,d,_⟩:=I.tuple h;obtain⟨g,q⟩:=uV I b rv;obtain⟨o,e,f,n,hd⟩:=d;exact⟨_,.tuple e f hd (by simpa using q)⟩
noncomputable def R7(X:Cx):R2:=λx y H Q=>∃b a,Dt X H x b/\Dt X H y a/\(SeqAt.shaped b=true/\SeqAt.shaped a=true/\SeqAt.noMix b a=true)/\Q (.bl (PySem.Spec.same b a)) H
noncomputable def R8(X:Cx):R2:=λx y H Q=>∃b a,Dt X H x b/\Dt X H y a/\(SeqAt.shaped b=true/\SeqAt.shaped a=true/\SeqAt.noMix b a=true)/\Q (.bl (!PySem.Spec.same b a)) H
theorem JS(j:X.A.units+64<cLine):i7 X (compareOp .Eq) (R7 X):=by intro a s m H x y v u Q I c b h;obtain⟨o,n,l,k,⟨i,g,f⟩,q⟩:=h;obtain⟨r,e⟩:=l _ _ _ _ I c;obtain⟨p,d⟩:=k _ _ _ _ I b;exact eq_dataH_same e d i g j f ⟨.bl _,H,I,rfl,q⟩
theorem JT(j:X.A.units+64<cLine):i7 X (compareOp .NotEq) (R8 X):=by intro a s m H x y v u Q I c b h;obtain⟨o,n,l,k,⟨i,g,f⟩,q⟩:=h;obtain⟨r,e⟩:=l _ _ _ _ I c;obtain⟨p,d⟩:=k _ _ _ _ I b;exact ne_dataH_same e d i g j f ⟨.bl _,H,I,rfl,q⟩
end
section
variable{X:Cx}
end
section
variable{X:Cx}{tg:Expr}
end
section
variable{prog:Program}{w:World}{A:Around}{E:Value->Shared->Prop}
end
theorem yG{X:Cx}(C:X.calm=true):aZ X (.builtin "min") (λxs H Q=>∃(p:Addr)(a:List Int),xs=[.ref p]/\iH X.K H p (a.map V.int)/\a≠[]/\∀m∈a,(∀n∈a,m<=n)->Q (.int m) H):=by
 intro f s J H xs L Q I r h;obtain⟨p,a,rfl,D,w,q⟩:=h;obtain⟨u,rfl,l⟩:=Vals.one r;cases(show u=Value.ref p from l);obtain⟨d,rv,o,_⟩:=I.list D;have i:=intsAre_of rv;obtain⟨xs,g⟩:=i.allInts.items;have e:s.heap.IsList p (intItems xs):=g▸o.isList;have k:a=xs.toList.map (·.1):=by rw[<-nums_intItems,<-g];exact(show numsOf d.toArray.toList=a from i.numsOf).symm
 have A:a.length=xs.size:=by rw[k,Ee,Ar]
 have y:0<xs.size:=by rw[<-A];exact Wp.mpr w
 refine min_intList (I.ok.hd C) e y λv N M x B=>?_;obtain⟨t,rfl⟩:=intItems_at x;obtain⟨O,F⟩:=argBest_lt (numAt xs) (xs.size -1);have c:∀j,j<a.length->numAt xs j=a.getD j 0:=λj _=>by rw[numAt_eq,<-k]
 have E:∀j,j<a.length->a.getD j 0∈a:=λj b=>by rw[U2,DL b];exact Mo b
 refine⟨.int _,H,I.kept B,⟨_,rfl⟩,q _ ?_ λn z=>?_⟩
 .rw[c _ (by lia)];exact E _ (by lia)
 .obtain⟨j,b,rfl⟩:=X1 z;have:=F j (by lia);rw[c j b,U2,DL b]at this;exact this
theorem yH{X:Cx}(C:X.calm=true):aZ X (.builtin "max") (λxs H Q=>∃(p:Addr)(a:List Int),xs=[.ref p]/\iH X.K H p (a.map V.int)/\a≠[]/\∀m∈a,(∀n∈a,n<=m)->Q (.int m) H):=by
 intro f s J H xs L Q I r h;obtain⟨p,a,rfl,D,w,q⟩:=h;obtain⟨u,rfl,l⟩:=Vals.one r;cases(show u=Value.ref p from l);obtain⟨d,rv,o,_⟩:=I.list D;have i:=intsAre_of rv;obtain⟨xs,g⟩:=i.allInts.items;have e:s.heap.IsList p (intItems xs):=g▸o.isList;have k:a=xs.toList.map (·.1):=by rw[<-nums_intItems,<-g];exact(show numsOf d.toArray.toList=a from i.numsOf).symm
 have A:a.length=xs.size:=by rw[k,Ee,Ar]
 have y:0<xs.size:=by rw[<-A];exact Wp.mpr w
 refine max_intList (I.ok.hd C) e y λv N M x B=>?_;obtain⟨t,rfl⟩:=intItems_at x;obtain⟨O,F⟩:=argBest_gt (numAt xs) (xs.size -1);have c:∀j,j<a.length->numAt xs j=a.getD j 0:=λj _=>by rw[numAt_eq,<-k]
 have E:∀j,j<a.length->a.getD j 0∈a:=λj b=>by rw[U2,DL b];exact Mo b
 refine⟨.int _,H,I.kept B,⟨_,rfl⟩,q _ ?_ λn z=>?_⟩
 .rw[c _ (by lia)];exact E _ (by lia)
 .obtain⟨j,b,rfl⟩:=X1 z;have:=F j (by lia);rw[c j b,U2,DL b]at this;exact this
end L2
namespace L2
open PySem
variable{r:List Expr}{env:Env}{pos:Pos}
inductive JU:List Expr->List (Int×Int)->Prop where
 |nil:JU [] []
 |cons {a b:Int} {j1 j2 k:Nat} {p1 p2 pos:Pos} {es:List Expr} {qs:List (Int×Int)} (h:JU es qs):JU (.Tuple [.Constant (.int a) j1 p1,.Constant (.int b) j2 p2] k pos::es) ((a,b)::qs)
end L2
namespace L2
open PySem PySem.Spec PyProof.Rows
section
variable{X:Cx}{H:Hp}
end
mutual
noncomputable def aH:PyData->Bool
 |.int _=>true
 |.list xs=>dG xs
 |.tuple xs=>dG xs
 |.none=>false
 |.bool _=>false
 |.str _=>false
 |.dict _=>false
noncomputable def dG:List PyData->Bool
 |[]=>true
 |x::xs=>aH x&&dG xs
end
mutual
theorem Bc:∀d:PyData,aH d=true->d.canLay0=true
 |.int _,_=>by simp[PyData.canLay0]
 |.list xs,h=>by rw[aH]at h;rw[PyData.canLay0];exact jW xs h
 |.tuple xs,h=>by rw[aH]at h;rw[PyData.canLay0];exact jW xs h
 |.none,h=>by simp[aH]at h
 |.bool _,h=>by simp[aH]at h
 |.str _,h=>by simp[aH]at h
 |.dict _,h=>by simp[aH]at h
theorem jW:∀xs:List PyData,dG xs=true->PyData.canLayAll0 xs=true
 |[],_=>by simp[PyData.canLayAll0]
 |x::xs,h=>by rw[dG,AC]at h;rw[PyData.canLayAll0,Bc x h.1,jW xs h.2];rfl
end
mutual
theorem Bd:∀d e:PyData,aH d=true->aH e=true->SeqAt.noMix d e=true
 |.int _,.int _,_,_=>by simp[SeqAt.noMix]
 |.int _,.list _,_,_=>by simp[SeqAt.noMix]
 |.int _,.tuple _,_,_=>by simp[SeqAt.noMix]
 |.list _,.int _,_,_=>by simp[SeqAt.noMix]
 |.list _,.tuple _,_,_=>by simp[SeqAt.noMix]
 |.tuple _,.int _,_,_=>by simp[SeqAt.noMix]
 |.tuple _,.list _,_,_=>by simp[SeqAt.noMix]
 |.list xs,.list b,h,a=>by rw[aH]at h a;rw[SeqAt.noMix];exact jX xs b h a
 |.tuple xs,.tuple b,h,a=>by rw[aH]at h a;rw[SeqAt.noMix];exact jX xs b h a
 |.none,_,h,_=>by simp[aH]at h
 |.bool _,_,h,_=>by simp[aH]at h
 |.str _,_,h,_=>by simp[aH]at h
 |.dict _,_,h,_=>by simp[aH]at h
 |.int _,.none,_,h=>by simp[aH]at h
 |.int _,.bool _,_,h=>by simp[aH]at h
 |.int _,.str _,_,h=>by simp[aH]at h
 |.int _,.dict _,_,h=>by simp[aH]at h
 |.list _,.none,_,h=>by simp[aH]at h
 |.list _,.bool _,_,h=>by simp[aH]at h
 |.list _,.str _,_,h=>by simp[aH]at h
 |.list _,.dict _,_,h=>by simp[aH]at h
 |.tuple _,.none,_,h=>by simp[aH]at h
 |.tuple _,.bool _,_,h=>by simp[aH]at h
 |.tuple _,.str _,_,h=>by simp[aH]at h
 |.tuple _,.dict _,_,h=>by simp[aH]at h
theorem jX:∀xs a:List PyData,dG xs=true->dG a=true->SeqAt.noMixAll xs a=true
 |[],[],_,_=>by simp[SeqAt.noMixAll]
 |[],_::_,_,_=>by simp[SeqAt.noMixAll]
 |_::_,[],_,_=>by simp[SeqAt.noMixAll]
 |x::xs,y::a,h,b=>by rw[dG,AC]at h b;rw[SeqAt.noMixAll,Bd x y h.1 b.1,jX xs a h.2 b.2];rfl
end
mutual
theorem yI:∀d e:PyData,aH d=true->aH e=true->(same d e=true↔d=e)
 |.int a,.int b,_,_=>by simp[same]
 |.int _,.list _,_,_=>by simp[same]
 |.int _,.tuple _,_,_=>by simp[same]
 |.list _,.int _,_,_=>by simp[same]
 |.list _,.tuple _,_,_=>by simp[same]
 |.tuple _,.int _,_,_=>by simp[same]
 |.tuple _,.list _,_,_=>by simp[same]
 |.list xs,.list f,h,c=>by rw[aH]at h c;rw[same,iL xs f h c,PyData.list.injEq]
 |.tuple xs,.tuple f,h,c=>by rw[aH]at h c;rw[same,iL xs f h c,PyData.tuple.injEq]
 |.none,_,h,_=>by simp[aH]at h
 |.bool _,_,h,_=>by simp[aH]at h
 |.str _,_,h,_=>by simp[aH]at h
 |.dict _,_,h,_=>by simp[aH]at h
 |.int _,.none,_,h=>by simp[aH]at h
 |.int _,.bool _,_,h=>by simp[aH]at h
 |.int _,.str _,_,h=>by simp[aH]at h
 |.int _,.dict _,_,h=>by simp[aH]at h
 |.list _,.none,_,h=>by simp[aH]at h
 |.list _,.bool _,_,h=>by simp[aH]at h
 |.list _,.str _,_,h=>by simp[aH]at h
 |.list _,.dict _,_,h=>by simp[aH]at h
 |.tuple _,.none,_,h=>by simp[aH]at h
 |.tuple _,.bool _,_,h=>by simp[aH]at h
 |.tuple _,.str _,_,h=>by simp[aH]at h
 |.tuple _,.dict _,_,h=>by simp[aH]at h
theorem iL:∀xs a:List PyData,dG xs=true->dG a=true->(sameAll xs a=true↔xs=a)
 |[],[],_,_=>by simp[sameAll]
 |[],_::_,_,_=>by simp[sameAll]
 |_::_,[],_,_=>by simp[sameAll]
 |x::xs,y::a,h,b=>by rw[dG,AC]at h b;rw[sameAll,AC,yI x y h.1 b.1,iL xs a h.2 b.2,W2]
end
section
variable{X:Cx}
end
theorem sD{xs:List PyData}{n:Nat}(h:∀x∈xs,x.depth<=n):PyData.depthAll xs<=n:=by
 induction xs with
 |nil=>simp[PyData.depthAll]
 |cons x xs a=>rw[PyData.depthAll];have:=h x (Bn ..);have:=a λy b=>h y (B1 _ b);lia
theorem uW(d:List Bool):((Ea d.length).any λi=>(d[i]?).getD false)=d.any id:=by
 rw[T2,YO,YO];constructor
 .rintro⟨i,c,h⟩;have a:=SF.mp c;simp only[DL a,HK]at h;exact⟨_,Mo a,h⟩
 .rintro⟨b,e,h⟩;obtain⟨i,c,rfl⟩:=X1 e;refine⟨i,SF.mpr c,?_⟩;simp only[DL c,HK];exact h
section
variable{X:Cx}
theorem yJ(x:X.calm=true):aZ X (.builtin "any") (λxs H Q=>∃(p:Addr)(c:List Bool),xs=[.ref p]/\iH X.K H p (c.map V.bl)/\Q (.bl (c.any id)) H):=by
 intro j s D H xs E Q I r h;obtain⟨p,c,rfl,y,q⟩:=h;obtain⟨u,rfl,m⟩:=Vals.one r;cases(show u=Value.ref p from m);obtain⟨a,rv,n,_⟩:=I.list y;have k:=pJ rv;have g:=n.isList;have f:p<s.heap.objs.size:=by obtain⟨_,e,_⟩:=g;exact FR e
 refine call_any_walk (YR g ?_);refine⟨s.heap.objs.size,[s.heap.objs.size,p],[s.heap.objs.size],a.toArray.size,_,_,λi=>(c[i]?).getD false,rfl,Walks.list (A:=X.A.in1) (I.ok.hd x) _ p (HI f) a.toArray,
  ⟨⟨_,Fu _ rfl,rfl,rfl⟩,g.push _⟩,λi v J M N B l=>?_,λL F w=>?_⟩
 .have d:a[i]?=some v:=by simpa using B
  rw[k,Fm]at d;cases e:c[i]? with
  |none=>rw[e]at d;cases d
  |some b=>rw[e]at d;simp only[e,HK]at l;have:v=Value.bool b:=(IR d).symm;subst this;exact QP l
 .have e:((Ea a.toArray.size).any λi=>(c[i]?).getD false)=c.any id:=by
   have C:a.toArray.size=c.length:=by rw[Fs,k,Ee]
   rw[C];exact uW c
  rw[e];exact⟨.bl _,H,I.kept λb o z=>w b o (λt=>by rw[Do.mp t]at z;exact Pi _ (FR z)) (Bi _ z),rfl,q⟩
end
end L2
set_option genSizeOf false
set_option genInjectivity false
namespace Num
noncomputable def ev(x:Rat):List Rat->Rat
 |[]=>0
 |r::a=>r+x*ev x a
noncomputable def sm(f:Nat->Int):Nat->Int
 |0=>0
 |n+1=>sm f n+f n
end Num
namespace Sub
abbrev Ix:=Bool×Nat
abbrev Vc:=Ix->Int
noncomputable def ex(D:List Vc->Int)(r:Ix):List Vc->List Vc->Int
 |_,[]=>0
 |pre,c::post=>c r*D (pre++post) -ex D r (pre++[c]) post
noncomputable def det:List Ix->List Vc->Int
 |[],[]=>1
 |[],_::_=>0
 |r::a,cs=>ex (det a) r [] cs
noncomputable def sg(n:Nat):Int:=(-1)^n
noncomputable def sh(j:Nat)(P:Vc):Vc:=λi=>if j<=i.2 then P (i.1,i.2 -j)else 0
noncomputable def R9(P:Vc):Nat->List Vc
 |0=>[]
 |n+1=>sh n P::R9 P n
noncomputable def rws:Nat->Nat->List Ix
 |_,0=>[]
 |0,_+1=>[]
 |E+1,c+1=>(false,E)::rws E c
noncomputable def comb(c:Int)(a:Vc):List (Int×Vc)->Vc
 |[]=>λi=>c*a i+0*a i
 |z::L=>λi=>1*comb c a L i+z.1*z.2 i
noncomputable def SS(E:Nat)(A B:Vc)(a b:Nat)(c:Ix):Int:=det (rws E (a+b -1)++[c]) (R9 A a++R9 B b)
noncomputable def less(c:Int)(A B:Vc)(L:List (Int×Nat)):Vc:=comb c A (L.map λz=>(z.1,sh z.2 B))
noncomputable def V3(a:Int):Prop:=a=1\/a= -1
structure Ch(A B:Vc)(m n:Nat)(P Q:Vc)(p q:Nat)(lp lq h:Int):Prop where
 hpq:q<=p
 XF:lp≠0
 h0:h≠0
 XG:lq≠0
 lead:Q (false,q)=lq
 zero:∀t,q<t->Q (false,t)=0
 inv:∀k,k<=q->k<p->∃ε:Int,V3 ε/\∀ρ,SS (p+q -k) P Q (q -k) (p -k) ρ=ε*(lp^(q -k)*h^(p -k -1))*SS (m+n -k) A B (n -k) (m -k) ρ
end Sub
namespace Sub
open Num
noncomputable def vc(r f:List Int):Vc:=λi=>if i.1 then f.getD i.2 0 else r.getD i.2 0
end Sub
namespace Num
end Num
namespace Sub
open Num
structure CS(ns ms f0 g0:List Int)(w E b1:Nat)(P Q fP fQ:List Int)(ld h:Int):Prop where
 ch:Ch (vc ns f0) (vc ms g0) (ns.length -1) (ms.length -1) (vc P fP) (vc Q fQ) (P.length -1) (Q.length -1) ld (Q.getD (Q.length -1) 0) h
 lq:0<Q.length
 XH:Q.length<=P.length
 lp:P.length<=ns.length
 XI:Q.length<=ms.length
 lf:fP.length+Q.length<=b1
 V4:fQ=[]\/fQ.length+P.length<=b1
 bP:∀i,(vc P fP i).natAbs<=2^(w*(ns.length -1+(ms.length -1)+1))
 bQ:∀i,(vc Q fQ i).natAbs<=2^(w*(ns.length -1+(ms.length -1)+1))
 bl:ld.natAbs<=2^(w*(ns.length -1+(ms.length -1)+1))
 bh:h.natAbs<=2^(w*(ns.length -1+(ms.length -1) -2*(P.length -1)))
structure FX(ns ms f0 g0:List Int)(w E:Nat):Prop where
 l1:ms.length<=ns.length
 l2:ns.length<=50
 M:∃M:Nat,(∀i,(vc ns f0 i).natAbs<=M)/\(∀i,(vc ms g0 i).natAbs<=M)/\1<=M/\(ns.length -1+(ms.length -1)+1)*M<=2^w
 E1:∀p,(ns.length -1+(ms.length -1) -2*p)*p+(ns.length -1+(ms.length -1)+1)<=E
end Sub
namespace Num
abbrev co(a:List Int):Nat->Int:=λi=>a.getD i 0
end Num
namespace Sub
open Num
end Sub
namespace Num
noncomputable def wt:Nat->List Rat->List Rat
 |_,[]=>[]
 |k,r::a=>((k:Int):Rat)*r::wt (k+1) a
noncomputable def hz(t:Int):List Int->List Int
 |[]=>[]
 |r::a=>(r+t*(hz t a).headD 0)::hz t a
noncomputable def cs(l:List Int):List Rat:=l.map λx:Int=>((x:Int):Rat)
noncomputable def sc(u b:Rat):List Rat->List Rat
 |[]=>[]
 |r::a=>r*u*b^a.length::sc u b a
end Num
namespace VL
open PySem PySem.Spec PyProof.Rows L2
theorem ff{C:Prop}(h:false=true):C:=Bool.noConfusion h
theorem nn{α:Type}{a:α}{C:Prop}(h:none=some a):C:=Option.noConfusion rfl (heq_of_eq h)
inductive W where
 |aI|bl (b:Bool)|int (i:Int)|str (x:Str)|ty (n:String)|cls (C:Addr)|err (C:Addr)
 |tup (l:List W)|lst (l:List W)|dct (ks vs:List W)|obj (C:Addr) (fs:List Str) (vs:List W)|di (ns:List Int)
noncomputable def wj:HO->Bool
 |.lst _|.ins _ _ _|.dK _|.dT _|.set _ _=>true
 |_=>false
noncomputable def kZ:Key->W
 |.inl i=>.int i
 |.inr x=>.str x
noncomputable def oB(K:Frag)(C:Addr)(a:List Str):Prop:=DG K C/\a.length<1000/\a.Nodup/\∀x∈a,gz K C x
noncomputable def Rz(H:Hp)(a:Addr)(u:HO):Prop:=H a=some u\/False
theorem Rz.rd{H:Hp}{a:Addr}{u:HO}(h:Rz H a u):Rd H a u:=h.elim .inl Ed
theorem Rz.at{H:Hp}{a:Addr}{u:HO}(h:Rz H a u):H a=some u:=h.elim id Ed
mutual
noncomputable def Rep(K:Frag)(A:Addr->Prop)(H:Hp):W->V->Prop
 |.aI,v=>v=.aI
 |.bl b,v=>v=.bl b
 |.int i,v=>v=.int i
 |.str x,v=>v=.str x
 |.ty n,v=>v=.ty n
 |.cls C,v=>v=.ref C
 |.err C,v=>∃a,v=.ref a/\H a=some (RZ a C)/\¬A a
 |.tup l,v=>∃p vs,v=.ref p/\H p=some (.tup vs)/\af K A H l vs
 |.lst l,v=>∃p vs,v=.ref p/\¬A p/\Rz H p (.lst vs)/\af K A H l vs
 |.dct f c,v=>∃p kvs,v=.ref p/\¬A p/\H p=some (.dK kvs)/\f=kvs.map (λx=>kZ x.1)/\af K A H c (kvs.map (·.2))
 |.obj C d c,v=>∃p g vs,v=.ref p/\¬A p/\H p=some (.ins C g (d.zip vs))/\vs.length=d.length/\oB K C d/\af K A H c vs
 |.di e,v=>∃p,v=.ref p/\((∃o,H p=some (.uo o (.lst (e.map V.int))))\/iH K (λ_=>none) p (e.map V.int))
noncomputable def af(K:Frag)(A:Addr->Prop)(H:Hp):List W->List V->Prop
 |[],vs=>vs=[]
 |w::a,vs=>∃v r,vs=v::r/\Rep K A H w v/\af K A H a r
end
section
variable{K:Frag}{A B:Addr->Prop}{H H':Hp}
theorem au.rz{p:Addr}{u:HO}(s:au H H')(h:Rz H p u):Rz H' p u:=.inl (s _ _ h.at)
theorem au.rd{p:Addr}{u:HO}(s:au H H')(h:Rd H p u):Rd H' p u:=by
 rcases h with h|⟨o,h⟩
 .exact .inl (s _ _ h)
 .exact .inr ⟨o,s _ _ h⟩
noncomputable def pL(B:Addr->Prop)(H H':Hp):Prop:=∀p o,H p=some o->(wj o=true/\B p)\/H' p=some o
theorem pL.un{p:Addr}{o:HO}(h:pL A H H')(e:H p=some o)(n:wj o=true->¬A p):H' p=some o:=by
 rcases h p o e with⟨z,y⟩|z
 .exact(n z y).elim
 .exact z
mutual
theorem Rep.chg(h:pL A H H')(d:∀p o,H p=some o->B p->A p):∀(w:W){v:V},Rep K A H w v->Rep K B H' w v
 |.aI,_,r=>by dsimp only[Rep]at r⊢;exact r
 |.bl _,_,r=>by dsimp only[Rep]at r⊢;exact r
 |.int _,_,r=>by dsimp only[Rep]at r⊢;exact r
 |.str _,_,r=>by dsimp only[Rep]at r⊢;exact r
 |.ty _,_,r=>by dsimp only[Rep]at r⊢;exact r
 |.cls _,_,r=>by dsimp only[Rep]at r⊢;exact r
 |.err C,v,r=>by obtain⟨a,e,b,c⟩:=r;exact⟨a,e,h.un b (λz=>by cases z),λz=>c (d a _ b z)⟩
 |.tup l,v,r=>by obtain⟨p,f,e,b,c⟩:=r;exact⟨p,f,e,h.un b (λz=>by cases z),af.chg h d l c⟩
 |.lst l,v,r=>by
  dsimp only[Rep]at r⊢;obtain⟨p,f,e,n,b,c⟩:=r;refine⟨p,f,e,λz=>?_,?_,af.chg h d l c⟩
  .exact n (d p _ b.at z)
  .exact .inl (h.un b.at λ_=>n)
 |.dct s g,v,r=>by obtain⟨p,i,e,n,b,c,j⟩:=r;exact⟨p,i,e,λz=>n (d p _ b z),h.un b λ_=>n,c,af.chg h d g j⟩
 |.obj C t g,v,r=>by obtain⟨p,m,f,e,n,b,c,k,j⟩:=r;exact⟨p,m,f,e,λz=>n (d p _ b z),h.un b λ_=>n,c,k,af.chg h d g j⟩
 |.di q,v,r=>by obtain⟨p,e,b⟩:=r;exact⟨p,e,b.imp (by rintro⟨o,z⟩;exact⟨o,h.un z λz=>by cases z⟩) id⟩
theorem af.chg(h:pL A H H')(a:∀p o,H p=some o->B p->A p):∀(l:List W){vs:List V},af K A H l vs->af K B H' l vs
 |[],_,r=>by dsimp only[af]at r⊢;exact r
 |w::l,vs,r=>by obtain⟨v,b,e,d,c⟩:=r;exact⟨v,b,e,Rep.chg h a w d,af.chg h a l c⟩
end
theorem pL.same(s:au H H'):pL A H H':=λ_ _ e=>.inr (s _ _ e)
theorem pL.put{p:Addr}{a o:HO}(b:H p=some a)(c:wj a=true)(d:A p):pL A H (upd H p o):=λq u e=>by
 by_cases n:q=p
 .subst n;rw[b]at e;cases e;exact .inl ⟨c,d⟩
 .exact .inr (by rw[ay n];exact e)
theorem Rep.mv(s:au H H')(a:∀p o,H p=some o->B p->A p)(w:W){v:V}(h:Rep K A H w v):Rep K B H' w v:=Rep.chg (.same s) a w h
theorem af.mv(s:au H H')(a:∀p o,H p=some o->B p->A p)(l:List W){vs:List V}(h:af K A H l vs):af K B H' l vs:=af.chg (.same s) a l h
theorem Rep.same{w:W}{v:V}(s:au H H')(h:Rep K A H w v):Rep K A H' w v:=Rep.mv s (λ_ _ _ z=>z) w h
theorem af.same{l:List W}{vs:List V}(s:au H H')(h:af K A H l vs):af K A H' l vs:=af.mv s (λ_ _ _ z=>z) l h
theorem Rep.less{w:W}{v:V}(a:∀p,B p->A p)(h:Rep K A H w v):Rep K B H w v:=Rep.mv (au.refl H) (λp _ _ z=>a p z) w h
theorem af.less{l:List W}{vs:List V}(a:∀p,B p->A p)(h:af K A H l vs):af K B H l vs:=af.mv (au.refl H) (λp _ _ z=>a p z) l h
theorem af.put{p:Addr}{xs:List V}{o:HO}(a:H p=some (.lst xs))(b:A p)(l:List W){vs:List V}(h:af K A H l vs):af K A (upd H p o) l vs:=af.chg (.put a rfl b) (λ_ _ _ z=>z) l h
theorem af.nil:af K A H [] []:=by dsimp only[af]
theorem af.cons{w:W}{v:V}{l:List W}{vs:List V}(b:Rep K A H w v)(a:af K A H l vs):af K A H (w::l) (v::vs):=by dsimp only[af];exact⟨v,vs,rfl,b,a⟩
theorem af.nil_inv{vs:List V}(h:af K A H [] vs):vs=[]:=by dsimp only[af]at h;exact h
theorem af.cons_inv{w:W}{l:List W}{vs:List V}(h:af K A H (w::l) vs):∃v r,vs=v::r/\Rep K A H w v/\af K A H l r:=by dsimp only[af]at h;exact h
theorem af.len:∀{l:List W}{vs:List V},af K A H l vs->vs.length=l.length
 |[],vs,h=>by rw[h.nil_inv];rfl
 |w::l,vs,h=>by obtain⟨v,r,rfl,_,a⟩:=h.cons_inv;rw[AI,AI,a.len]
theorem af.app:∀{l m:List W}{vs us:List V},af K A H l vs->af K A H m us->af K A H (l++m) (vs++us)
 |[],m,vs,us,h,k=>by rw[h.nil_inv];exact k
 |w::l,m,vs,us,h,k=>by obtain⟨v,r,rfl,b,a⟩:=h.cons_inv;exact .cons b (a.app k)
theorem af.get:∀{l:List W}{vs:List V}{i:Nat}{w:W},af K A H l vs->l[i]?=some w->∃v,vs[i]?=some v/\Rep K A H w v
 |[],_,_,_,_,e=>by simp at e
 |x::l,vs,0,w,h,e=>by obtain⟨v,r,rfl,b,a⟩:=h.cons_inv;simp at e;subst e;exact⟨v,rfl,b⟩
 |x::l,vs,i+1,w,h,e=>by obtain⟨v,r,rfl,b,a⟩:=h.cons_inv;obtain⟨u,d,c⟩:=a.get (i:=i) (by simpa using e);exact⟨u,by simpa using d,c⟩
theorem af.set:∀{l:List W}{vs:List V}{i:Nat}{w:W}{v:V},af K A H l vs->Rep K A H w v->af K A H (l.set i w) (vs.set i v)
 |[],_,_,_,_,h,_=>by rw[h.nil_inv];exact .nil
 |x::l,vs,0,w,v,h,e=>by obtain⟨c,r,rfl,b,a⟩:=h.cons_inv;exact .cons e a
 |x::l,vs,i+1,w,v,h,e=>by obtain⟨c,r,rfl,b,a⟩:=h.cons_inv;exact .cons b (a.set e)
theorem af.take:∀{l:List W}{vs:List V}(n:Nat),af K A H l vs->af K A H (l.take n) (vs.take n)
 |_,_,0,_=>.nil
 |[],vs,n+1,h=>by rw[h.nil_inv];exact .nil
 |x::l,vs,n+1,h=>by obtain⟨c,r,rfl,b,a⟩:=h.cons_inv;exact .cons b (a.take n)
theorem af.drop:∀{l:List W}{vs:List V}(n:Nat),af K A H l vs->af K A H (l.drop n) (vs.drop n)
 |_,_,0,h=>h
 |[],vs,n+1,h=>by rw[h.nil_inv];exact .nil
 |x::l,vs,n+1,h=>by obtain⟨b,r,rfl,c,a⟩:=h.cons_inv;exact a.drop n
theorem af.dropLast{l:List W}{vs:List V}(h:af K A H l vs):af K A H l.dropLast vs.dropLast:=by rw[Rn,Rn,h.len];exact h.take _
theorem af.rev:∀{l:List W}{vs:List V},af K A H l vs->af K A H l.reverse vs.reverse
 |[],vs,h=>by rw[h.nil_inv];exact .nil
 |x::l,vs,h=>by obtain⟨c,r,rfl,b,a⟩:=h.cons_inv;rw[Ta,Ta];exact a.rev.app (.cons b .nil)
theorem af.rep{l:List W}{vs:List V}(h:af K A H l vs):∀n:Nat,af K A H (A0 n l).flatten (A0 n vs).flatten
 |0=>.nil
 |n+1=>by rw[Ej,Ej,Gq,Gq];exact h.app (h.rep n)
theorem af.ints{a:List Int}:∀{vs:List V},af K A H (a.map W.int) vs->vs=a.map V.int:=by
 induction a with
 |nil=>intro vs h;exact h.nil_inv
 |cons n a c=>intro vs h;obtain⟨v,r,rfl,b,d⟩:=h.cons_inv;dsimp only[Rep]at b;rw[b,c d];rfl
theorem af.Ek(a:List Int):af K A H (a.map W.int) (a.map V.int):=by
 induction a with
 |nil=>exact .nil
 |cons n a b=>exact .cons (by dsimp only[Rep]) b
theorem af.Uw{a:List Bool}:∀{vs:List V},af K A H (a.map W.bl) vs->vs=a.map V.bl:=by
 induction a with
 |nil=>intro vs h;exact h.nil_inv
 |cons n e c=>intro vs h;obtain⟨v,r,rfl,b,d⟩:=h.cons_inv;dsimp only[Rep]at b;rw[b,c d];rfl
end
end VL
set_option genSizeOf false
set_option genInjectivity false
namespace VL
open PySem PySem.Spec
open PyProof.Rows hiding St
open L2
inductive Md where
 |s|f|t (ms:List Md)|o (fs:List Str) (ms:List Md)
 |io (m:Md)
 |ls (m:Md)
 |d
noncomputable def e9(P:W->V->List Addr->Prop):List W->List V->List Addr->Prop
 |[],vs,F=>vs=[]/\F=[]
 |w::d,vs,F=>∃v a c b,vs=v::a/\F=c++b/\P w v c/\e9 P d a b
mutual
noncomputable def Fp(K:Frag)(B:Addr->Prop)(H:Hp):Md->W->V->List Addr->Prop
 |.s,w,v,F=>F=[]/\Rep K B H w v
 |.f,w,v,F=>∃a p vs,w=.lst a/\v=.ref p/\F=[p]/\H p=some (.lst vs)/\af K B H a vs
 |.t c,w,v,F=>∃a p vs,w=.tup a/\v=.ref p/\H p=some (.tup vs)/\cR K B H c a vs F
 |.o b c,w,v,F=>∃C g a p vs F',w=.obj C b a/\v=.ref p/\F=p::F'/\H p=some (.ins C g (b.zip vs))/\vs.length=b.length/\oB K C b/\cR K B H c a vs F'
 |.io _,_,_,_=>False
 |.d,w,v,F=>∃e a p kvs,w=.dct e a/\v=.ref p/\F=[p]/\H p=some (.dK kvs)/\e=kvs.map (λx=>kZ x.1)/\af K B H a (kvs.map (·.2))
 |.ls m,w,v,F=>∃a p vs F',w=.lst a/\v=.ref p/\F=p::F'/\H p=some (.lst vs)/\e9 (Fp K B H m) a vs F'
noncomputable def cR(K:Frag)(B:Addr->Prop)(H:Hp):List Md->List W->List V->List Addr->Prop
 |[],b,vs,F=>b=[]/\vs=[]/\F=[]
 |m::f,b,vs,F=>∃w c v a e d,b=w::c/\vs=v::a/\F=e++d/\Fp K B H m w v e/\cR K B H f c a d
end
theorem e9.mono{P Q:W->V->List Addr->Prop}:∀{a:List W}{vs:List V}{F:List Addr},(∀w v F',(∀p∈F',p∈F)->P w v F'->Q w v F')->e9 P a vs F->e9 Q a vs F
 |[],_,_,_,h=>h
 |w::a,vs,F,k,⟨v,b,e,j,i,d,g,f⟩=>⟨v,b,e,j,i,d,k w v e (λp c=>by rw[d];exact He _ c) g,e9.mono (λw v F' h=>k w v F' λp c=>by rw[d];exact FV _ (h p c)) f⟩
theorem e9.len{P:W->V->List Addr->Prop}:∀{a:List W}{vs:List V}{F:List Addr},e9 P a vs F->vs.length=a.length
 |[],_,_,h=>by rw[h.1];rfl
 |w::a,vs,F,⟨v,b,i,g,d,f,e,c⟩=>by rw[d,AI,AI,e9.len c]
theorem e9.app{P:W->V->List Addr->Prop}:∀{a us:List W}{vs xs:List V}{F G:List Addr},e9 P a vs F->e9 P us xs G->e9 P (a++us) (vs++xs) (F++G)
 |[],us,vs,xs,F,G,⟨d,c⟩,k=>by rw[d,c];exact k
 |w::a,us,vs,xs,F,G,⟨v,b,h,g,d,c,f,e⟩,k=>⟨v,b++xs,h,g++G,by rw[d];rfl,by rw[c,PH],f,e9.app e k⟩
noncomputable def lg(B G:Addr->Prop)(H H':Hp):Prop:=∀p o,H p=some o->(wj o=true/\B p/\¬G p)\/H' p=some o
section
variable{K:Frag}{A B G:Addr->Prop}{H H':Hp}
theorem lg.c(h:lg A G H H'):pL A H H':=λp o e=>(h p o e).imp (λz=>⟨z.1,z.2.1⟩) id
theorem lg.un{p:Addr}{o:HO}(h:lg A G H H')(e:H p=some o)(g:wj o=true->G p):H' p=some o:=by
 rcases h p o e with⟨z,_,y⟩|z
 .exact(y (g z)).elim
 .exact z
mutual
theorem Fp.chg(h:lg A G H H')(l:∀p o,H p=some o->B p->A p):∀(m:Md){w:W}{v:V}{F:List Addr},(∀p∈F,G p)->Fp K A H m w v F->Fp K B H' m w v F
 |.s,w,v,F,a,r=>by dsimp only[Fp]at r⊢;exact⟨r.1,Rep.chg h.c l w r.2⟩
 |.f,w,v,F,a,r=>by obtain⟨e,p,vs,k,j,b,i,g⟩:=r;exact⟨e,p,vs,k,j,b,h.un i (λ_=>a p (by rw[b];exact Bn)),af.chg h.c l e g⟩
 |.t n,w,v,F,a,r=>by obtain⟨e,p,vs,k,j,i,g⟩:=r;exact⟨e,p,vs,k,j,h.un i (λz=>by cases z),cR.chg h l n a g⟩
 |.o N n,w,v,F,a,r=>by obtain⟨C,M,e,p,vs,y,k,j,b,i,g,I,L⟩:=r;exact⟨C,M,e,p,vs,y,k,j,b,h.un i (λ_=>a p (by rw[b];exact Bn)),g,I,cR.chg h l n (λq x=>a q (by rw[b];exact B1 _ x)) L⟩
 |.io _,w,v,F,a,r=>Ed r
 |.d,w,v,F,a,r=>by obtain⟨D,e,p,u,k,j,b,i,E,g⟩:=r;exact⟨D,e,p,u,k,j,b,h.un i (λ_=>a p (by rw[b];exact Bn)),E,af.chg h.c l e g⟩
 |.ls m,w,v,F,a,r=>by obtain⟨e,p,vs,y,k,j,b,i,g⟩:=r;exact⟨e,p,vs,y,k,j,b,h.un i (λ_=>a p (by rw[b];exact Bn)),g.mono λw v G J z=>Fp.chg h l m (λq x=>a q (by rw[b];exact B1 _ (J q x))) z⟩
theorem cR.chg(h:lg A G H H')(f:∀p o,H p=some o->B p->A p):∀(a:List Md){b:List W}{vs:List V}{F:List Addr},(∀p∈F,G p)->cR K A H a b vs F->cR K B H' a b vs F
 |[],_,_,_,_,r=>by dsimp only[cR]at r⊢;exact r
 |m::a,b,vs,F,g,r=>by obtain⟨w,n,v,c,s,q,l,k,e,j,i⟩:=r;exact⟨w,n,v,c,s,q,l,k,e,Fp.chg h f m (λp d=>g p (by rw[e];exact He _ d)) j,cR.chg h f a (λp d=>g p (by rw[e];exact FV _ d)) i⟩
end
theorem lg.same(s:au H H'):lg A (λ_=>True) H H':=λ_ _ e=>.inr (s _ _ e)
theorem Fp.mv(s:au H H')(a:∀p o,H p=some o->B p->A p)(m:Md){w:W}{v:V}{F:List Addr}(h:Fp K A H m w v F):Fp K B H' m w v F:=Fp.chg (.same s) a m (λ_ _=>trivial) h
theorem cR.mv(s:au H H')(b:∀p o,H p=some o->B p->A p)(a:List Md){w:List W}{v:List V}{F:List Addr}(h:cR K A H a w v F):cR K B H' a w v F:=cR.chg (.same s) b a (λ_ _=>trivial) h
mutual
theorem Fp.rep(j:∀p,B p->A p):∀(m:Md){w:W}{v:V}{F:List Addr},(∀p∈F,¬B p)->Fp K A H m w v F->Rep K B H w v
 |.s,w,v,F,a,h=>by dsimp only[Fp]at h;exact h.2.less j
 |.f,w,v,F,a,h=>by obtain⟨b,p,vs,rfl,rfl,rfl,e,c⟩:=h;exact⟨p,vs,rfl,a p (Do.mpr rfl),.inl e,c.less j⟩
 |.t l,w,v,F,a,h=>by obtain⟨b,p,vs,rfl,rfl,e,c⟩:=h;exact⟨p,vs,rfl,e,cR.rep j l a c⟩
 |.o J l,w,v,F,a,h=>by obtain⟨C,D,b,p,vs,i,rfl,rfl,rfl,e,c,x,y⟩:=h;exact⟨p,D,vs,rfl,a p Bn,e,c,x,cR.rep j l (λq g=>a q (B1 _ g)) y⟩
 |.io _,w,v,F,a,h=>Ed h
 |.d,w,v,F,a,h=>by obtain⟨I,b,p,n,rfl,rfl,rfl,e,u,c⟩:=h;exact⟨p,n,rfl,a p (Do.mpr rfl),e,u,c.less j⟩
 |.ls m,w,v,F,a,h=>by
  obtain⟨b,p,vs,i,rfl,rfl,rfl,e,c⟩:=h;dsimp only[Rep];have z:∀(b:List W)(vs:List V)(i:List Addr),(∀q∈i,¬B q)->e9 (Fp K A H m) b vs i->af K B H b vs:=λb=>by
   induction b with
   |nil=>rintro vs i _ ⟨rfl,_⟩;exact .nil
   |cons w b r=>rintro vs i a ⟨v,k,L,E,rfl,rfl,e,c⟩;exact .cons (Fp.rep j m (λq g=>a q (He _ g)) e) (r k E (λq g=>a q (FV _ g)) c)
  exact⟨p,vs,rfl,a p Bn,.inl e,z b vs i (λq g=>a q (B1 _ g)) c⟩
theorem cR.rep(e:∀p,B p->A p):∀(b:List Md){a:List W}{vs:List V}{F:List Addr},(∀p∈F,¬B p)->cR K A H b a vs F->af K B H a vs
 |[],_,_,_,_,h=>by obtain⟨rfl,rfl,_⟩:=h;exact .nil
 |m::b,a,vs,F,d,h=>by obtain⟨w,j,v,f,l,k,rfl,rfl,rfl,i,g⟩:=h;exact .cons (Fp.rep e m (λp c=>d p (He _ c)) i) (cR.rep e b (λp c=>d p (FV _ c)) g)
end
mutual
theorem Fp.mu:∀(m:Md){w:W}{v:V}{F:List Addr},Fp K A H m w v F->∀p∈F,∃o,H p=some o/\wj o=true
 |.s,w,v,F,h,p,a=>by dsimp only[Fp]at h;rw[h.1]at a;cases a
 |.f,w,v,F,h,p,a=>by obtain⟨b,q,vs,_,_,rfl,c,_⟩:=h;rw[Do.mp a];exact⟨_,c,rfl⟩
 |.t i,w,v,F,h,p,a=>by obtain⟨b,q,vs,_,_,c,k⟩:=h;exact cR.mu i k p a
 |.o y i,w,v,F,h,p,a=>by
  obtain⟨C,z,b,q,vs,e,_,_,rfl,c,_,_,j⟩:=h;rcases FC.mp a with rfl|a
  .exact⟨_,c,rfl⟩
  .exact cR.mu i j p a
 |.io _,w,v,F,h,p,a=>Ed h
 |.d,w,v,F,h,p,a=>by obtain⟨x,b,q,l,_,_,rfl,c,_⟩:=h;rw[Do.mp a];exact⟨_,c,rfl⟩
 |.ls m,w,v,F,h,p,a=>by
  obtain⟨b,q,vs,e,_,_,rfl,c,j⟩:=h;have r:∀(b:List W)(vs:List V)(e:List Addr),e9 (Fp K A H m) b vs e->∀p∈e,∃o,H p=some o/\wj o=true:=λb=>by
   induction b with
   |nil=>rintro vs e ⟨_,rfl⟩ p a;cases a
   |cons w b n=>
    rintro vs e ⟨v,g,D,u,rfl,rfl,c,k⟩ p a;rcases FK.mp a with a|a
    .exact Fp.mu m c p a
    .exact n g u k p a
  rcases FC.mp a with rfl|a
  .exact⟨_,c,rfl⟩
  .exact r b vs e j p a
theorem cR.mu:∀(b:List Md){c:List W}{vs:List V}{F:List Addr},cR K A H b c vs F->∀p∈F,∃o,H p=some o/\wj o=true
 |[],_,_,_,h,p,a=>by dsimp only[cR]at h;rw[h.2.2]at a;cases a
 |m::b,c,vs,F,h,p,a=>by
  obtain⟨w,g,v,d,j,i,_,_,rfl,f,e⟩:=h;rcases FK.mp a with a|a
  .exact Fp.mu m f p a
  .exact cR.mu b e p a
end
inductive gQ where
 |ix (n:Nat)|fl (n:Nat) (x:Str)
noncomputable def bz:W->List gQ->Option W
 |w,[]=>some w
 |.tup l,.ix n::π=>match l[n]? with
  |some u=>bz u π
  |none=>none
 |.lst l,.ix n::π=>match l[n]? with
  |some u=>bz u π
  |none=>none
 |.obj _ _ l,.fl n _::π=>match l[n]? with
  |some u=>bz u π
  |none=>none
 |_,_=>none
noncomputable def setAt:W->List gQ->W->W
 |_,[],u=>u
 |.tup l,.ix n::π,u=>match l[n]? with
  |some x=>.tup (l.set n (setAt x π u))
  |none=>.tup l
 |.lst l,.ix n::π,u=>match l[n]? with
  |some x=>.lst (l.set n (setAt x π u))
  |none=>.lst l
 |.obj C a l,.fl n _::π,u=>match l[n]? with
  |some x=>.obj C a (l.set n (setAt x π u))
  |none=>.obj C a l
 |w,_,_=>w
noncomputable def gq:Md->List gQ->Option Md
 |m,[]=>some m
 |.t a,.ix n::π=>match a[n]? with
  |some m=>gq m π
  |none=>none
 |.o b a,.fl n x::π=>if b[n]?=some x then(match a[n]? with
  |some m=>gq m π
  |none=>none)else none
 |.ls m,.ix _::π=>gq m π
 |_,_=>none
noncomputable def rJ(K:Frag)(H:Hp):V->List gQ->V->Prop
 |v,[],u=>u=v
 |v,.ix n::π,u=>∃p vs x,v=.ref p/\(H p=some (.tup vs)\/H p=some (.lst vs))/\vs[n]?=some x/\rJ K H x π u
 |v,.fl n f::π,u=>∃p vs x,v=.ref p/\(∃(C b:Addr)(a:List Str),H p=some (.ins C b (a.zip vs))/\vs.length=a.length/\oB K C a/\a[n]?=some f)/\vs[n]?=some x/\rJ K H x π u
theorem dH{α:Type}:∀{l:List α}{n:Nat}{x:α},l[n]?=some x->l.set n x=l
 |[],_,_,e=>by cases e
 |y::l,0,x,e=>by cases e;rfl
 |y::l,n+1,x,e=>by rw[SV,dH (by simpa using e)]
theorem cR.at:∀(i:List Md){l:List W}{vs:List V}{F:List Addr}{n:Nat}{m:Md}{w:W},cR K A H i l vs F->i[n]?=some m->l[n]?=some w->
 ∃v d F' k,vs[n]?=some v/\F=d++F'++k/\Fp K A H m w v F'/\∀(H':Hp)(B:Addr->Prop) w' g j,Fp K B H' m w' g j->lg A (·∈d++k) H H'->(∀p o,H p=some o->B p->A p)->cR K B H' i (l.set n w') (vs.set n g) (d++j++k)
 |[],_,_,_,n,m,w,_,e,_=>by cases e
 |m0::i,l,vs,F,0,m,w,h,D,C=>by obtain⟨I,E,v,f,d,k,rfl,rfl,rfl,x,t⟩:=h;cases D;cases C;refine⟨v,[],d,k,rfl,by simp,x,λH' B w' g j y q r=>?_⟩;exact⟨w',E,g,f,j,k,rfl,rfl,by simp,y,cR.chg q r i (λp s=>by simpa using s) t⟩
 |m0::i,l,vs,F,n+1,m,w,h,D,C=>by obtain⟨I,E,v,f,d,k,rfl,rfl,rfl,x,t⟩:=h;obtain⟨u,L,P,J,O,rfl,N,M⟩:=cR.at i t (n:=n) (by simpa using D) (by simpa using C);refine⟨u,d++L,P,J,by simpa using O,by simp,N,λH' B w' g j y q r=>?_⟩;refine⟨I,E.set n w',v,f.set n g,d,L++j++J,rfl,rfl,by simp,Fp.chg q r m0 (λp s=>by simp[s]) x,M H' B w' g j y (λp o e=>(q p o e).imp (λ⟨a,b,c⟩=>⟨a,b,λz=>c ?_⟩) id) r⟩;rcases FK.mp z with z|z<;>simp[z]
theorem e9.at{m:Md}:∀{q:List W}{vs:List V}{F:List Addr}{n:Nat}{w:W},e9 (Fp K A H m) q vs F->q[n]?=some w->
 ∃v d F' j,vs[n]?=some v/\F=d++F'++j/\Fp K A H m w v F'/\∀(H':Hp)(B:Addr->Prop) w' g i,Fp K B H' m w' g i->lg A (·∈d++j) H H'->(∀p o,H p=some o->B p->A p)->e9 (Fp K B H' m) (q.set n w') (vs.set n g) (d++i++j)
 |[],_,_,n,w,_,e=>by cases e
 |w0::M,vs,F,0,w,h,y=>by obtain⟨v,f,d,j,rfl,rfl,t,s⟩:=h;cases y;refine⟨v,[],d,j,rfl,by simp,t,λH' B w' g i x k l=>?_⟩;exact⟨g,f,i,j,rfl,by simp,x,s.mono λw v G L z=>Fp.chg k l m (λp r=>by simpa using L p r) z⟩
 |w0::M,vs,F,n+1,w,h,y=>by obtain⟨v,f,d,j,rfl,rfl,t,s⟩:=h;obtain⟨u,D,N,C,J,rfl,I,E⟩:=e9.at s (n:=n) (by simpa using y);refine⟨u,d++D,N,C,by simpa using J,by simp,I,λH' B w' g i x k l=>?_⟩;refine⟨v,f.set n g,d,D++i++C,rfl,by simp,Fp.chg k l m (λp r=>by simp[r]) t,E H' B w' g i x (λp o e=>(k p o e).imp (λ⟨a,b,c⟩=>⟨a,b,λz=>c ?_⟩) id) l⟩;rcases FK.mp z with z|z<;>simp[z]
noncomputable def V5(K:Frag)(A:Addr->Prop)(H:Hp)(m:Md)(w:W)(v:V)(F:List Addr)(π:List gQ)(e:Md)(w':W):Prop:=
 ∃b d g c,F=d++g++c/\rJ K H v π b/\Fp K A H e w' b g/\∀(H':Hp)(B:Addr->Prop) a f,Fp K B H' e a b f->lg A (·∈d++c) H H'->(∀p o,H p=some o->B p->A p)->Fp K B H' m (setAt w π a) v (d++f++c)
theorem Fp.path:∀(π:List gQ)(m:Md){w:W}{v:V}{F:List Addr}{l:Md}{w':W},Fp K A H m w v F->gq m π=some l->bz w π=some w'->V5 K A H m w v F π l w'
 |[],m,w,v,F,l,w',h,g,i=>by dsimp only[gq]at g;dsimp only[bz]at i;cases g;cases i;refine⟨v,[],F,[],by simp,rfl,h,λH' B k y h' _ _=>?_⟩;dsimp only[setAt];simpa using h'
 |n::π,.s,w,v,F,l,w',h,g,i=>by cases n<;>exact nn g
 |n::π,.f,w,v,F,l,w',h,g,i=>by cases n<;>exact nn g
 |n::π,.io _,w,v,F,l,w',h,g,i=>by cases n<;>exact nn g
 |n::π,.d,w,v,F,l,w',h,g,i=>by cases n<;>exact nn g
 |.fl n _::π,.t x,w,v,F,l,w',h,g,i=>by cases g
 |.fl n _::π,.ls x,w,v,F,l,w',h,g,i=>by cases g
 |.ix n::π,.ls X,w,v,F,l,w',h,g,i=>by
  obtain⟨O,p,vs,F0,rfl,rfl,rfl,E,Z⟩:=h;dsimp only[gq]at g;dsimp only[bz]at i;cases j:O[n]? with
  |none=>rw[j]at i;exact nn i
  |some w1=>rw[j]at i;obtain⟨r,N,F',M,u,rfl,U,T⟩:=e9.at Z j;obtain⟨P,L,G',J,rfl,S,R,Q⟩:=Fp.path π X U g i;refine⟨P,p::N++L,G',J++M,by simp,⟨p,vs,r,rfl,.inr E,u,S⟩,R,λH' B k y h' q D=>?_⟩;dsimp only[setAt];rw[j];dsimp only[Fp];have a:=T H' B _ r _ (Q H' B k y h' (λp o e=>(q p o e).imp (by rintro⟨a,b,c⟩;exact⟨a,b,λz=>c (by rcases FK.mp z with z|z<;>simp[z])⟩) id) D) (λp o e=>(q p o e).imp (by rintro⟨a,b,c⟩;exact⟨a,b,λz=>c (by rcases FK.mp z with z|z<;>simp[z])⟩) id) D;rw[dH u]at a;exact⟨_,p,vs,N++(L++y++J)++M,rfl,rfl,by simp,q.un E (λ_=>by simp),a⟩
 |.ix n::π,.o fs x,w,v,F,l,w',h,g,i=>by cases g
 |.ix n::π,.t x,w,v,F,l,w',h,g,i=>by
  obtain⟨O,p,vs,rfl,rfl,E,Z⟩:=h;dsimp only[gq]at g;dsimp only[bz]at i;cases I:x[n]? with
  |none=>rw[I]at g;exact nn g
  |some X=>
   cases j:O[n]? with
   |none=>rw[j]at i;exact nn i
   |some w1=>rw[I]at g;rw[j]at i;obtain⟨r,N,F',M,u,rfl,U,T⟩:=cR.at x Z I j;obtain⟨P,L,G',J,rfl,S,R,Q⟩:=Fp.path π X U g i;refine⟨P,N++L,G',J++M,by simp,⟨p,vs,r,rfl,.inl E,u,S⟩,R,λH' B k y h' q D=>?_⟩;dsimp only[setAt];rw[j];dsimp only[Fp];have a:=T H' B _ r _ (Q H' B k y h' (λp o e=>(q p o e).imp (by rintro⟨a,b,c⟩;exact⟨a,b,λz=>c (by rcases FK.mp z with z|z<;>simp[z])⟩) id) D) (λp o e=>(q p o e).imp (by rintro⟨a,b,c⟩;exact⟨a,b,λz=>c (by rcases FK.mp z with z|z<;>simp[z])⟩) id) D;rw[dH u]at a;refine⟨_,p,vs,rfl,rfl,q.un E (λz=>by cases z),?_⟩;simpa using a
 |.fl n f::π,.o fs x,w,v,F,l,w',h,g,i=>by
  obtain⟨C,dx,O,p,vs,F0,rfl,rfl,rfl,E,hl,Y,Z⟩:=h;dsimp only[gq]at g;dsimp only[bz]at i;by_cases hf:fs[n]?=some f;rotate_left
  .rw[Da hf]at g;cases g
  rw[FM hf]at g;cases I:x[n]? with
  |none=>rw[I]at g;exact nn g
  |some X=>
   cases j:O[n]? with
   |none=>rw[j]at i;exact nn i
   |some w1=>rw[I]at g;rw[j]at i;obtain⟨r,N,F',M,u,rfl,U,T⟩:=cR.at x Z I j;obtain⟨P,L,G',J,rfl,S,R,Q⟩:=Fp.path π X U g i;refine⟨P,p::N++L,G',J++M,by simp,⟨p,vs,r,rfl,⟨C,dx,fs,E,hl,Y,hf⟩,u,S⟩,R,λH' B k y h' q D=>?_⟩;dsimp only[setAt];rw[j];dsimp only[Fp];have a:=T H' B _ r _ (Q H' B k y h' (λp o e=>(q p o e).imp (by rintro⟨a,b,c⟩;exact⟨a,b,λz=>c (by rcases FK.mp z with z|z<;>simp[z])⟩) id) D) (λp o e=>(q p o e).imp (by rintro⟨a,b,c⟩;exact⟨a,b,λz=>c (by rcases FK.mp z with z|z<;>simp[z])⟩) id) D;rw[dH u]at a;refine⟨C,dx,_,p,vs,N++(L++y++J)++M,rfl,rfl,by simp,q.un E (λ_=>by simp),hl,Y,a⟩
end
noncomputable def cD(K:Frag)(A:Addr->Prop)(H H':Hp)(m:Md)(w:W)(v:V):Prop:=
 ∃F:List Addr,F.Nodup/\(∀p∈F,H p=none)/\Fp K (λq=>A q\/q∈F) H' m w v F
noncomputable def Dom(A:Addr->Prop)(H:Hp):Prop:=∀p,A p->∃o,H p=some o
theorem Dom.no{A:Addr->Prop}{H:Hp}(d:Dom A H){p:Addr}(h:H p=none):¬A p:=λz=>by obtain⟨o,e⟩:=d p z;rw[h]at e;cases e
theorem Dom.same{A:Addr->Prop}{H H':Hp}(d:Dom A H)(s:au H H'):Dom A H':=λp z=>by obtain⟨o,e⟩:=d p z;exact⟨o,s _ _ e⟩
section
variable{K:Frag}{A B:Addr->Prop}{H H':Hp}{m:Md}{w:W}{v:V}
theorem cD.rep(d:Dom A H)(h:cD K A H H' m w v):Rep K A H' w v:=by obtain⟨F,c,a,h⟩:=h;exact Fp.rep (λp z=>.inl z) m (λp b=>d.no (a p b)) h
theorem cD.of(h:Rep K A H' w v):cD K A H H' .s w v:=⟨[],Xt,by simp,by dsimp only[Fp];exact⟨rfl,h.less λp z=>by simpa using z⟩⟩
theorem cD.s(d:Dom A H)(h:cD K A H H' m w v):cD K A H H' .s w v:=.of (h.rep d)
theorem cD.new{a:List W}{p:Addr}{vs:List V}(b:H p=none)(d:H' p=some (.lst vs))(e:af K A H' a vs)(c:af K (λq=>A q\/q=p) H' a vs):cD K A H H' .f (.lst a) (.ref p):=
 ⟨[p],(by simp),(by simpa using b),by dsimp only[Fp];exact⟨a,p,vs,rfl,rfl,rfl,d,c.less λq z=>by simpa using z⟩⟩
theorem cD.fresh{a:List W}{p:Addr}{vs:List V}{H1:Hp}(s:au H H1)(b:H1 p=none)(h:af K A H1 a vs):cD K A H (upd H1 p (.lst vs)) .f (.lst a) (.ref p):=by
 have sm:=aF b (.lst vs);refine .new (s.free b) aq (h.same sm) (af.mv sm (λq o z y=>?_) a h);rcases y with y|y
 .exact y
 .rw[y,b]at z;cases z
theorem cD.HQ(h:cD K A H H' .f w v):∃a p vs,w=.lst a/\v=.ref p/\H p=none/\H' p=some (.lst vs)/\af K (λq=>A q\/q=p) H' a vs:=by obtain⟨F,e,b,h⟩:=h;obtain⟨a,p,vs,rfl,rfl,rfl,d,c⟩:=h;exact⟨a,p,vs,rfl,rfl,b p (Do.mpr rfl),d,c.less λq z=>by simpa using z⟩
theorem cD.back{a:Hp}(s:au a H)(e:∀p,B p->A p)(h:cD K A H H' m w v):cD K B a H' m w v:=by obtain⟨F,c,b,h⟩:=h;exact⟨F,c,λp d=>s.free (b p d),Fp.mv (au.refl _) (λp o _ z=>z.imp (e p) id) m h⟩
end
abbrev Ev:=List (Option W)
noncomputable def look:Ev->Nat->Option W
 |[],_=>none
 |x::_,0=>x
 |_::l,n+1=>look l n
theorem aU:∀{a:Ev}{i:Nat}{w:W},look a i=some w↔a[i]?=some (some w)
 |[],i,w=>by simp[look]
 |x::l,0,w=>by simp[look]
 |x::l,i+1,w=>by rw[look,aU];simp
abbrev Ms:=List (Nat×Md)
noncomputable def aJ(M:Ms)(i:Nat):Prop:=∃m,(i,m)∈M
structure Fz where
 ab:Addr->Prop
 B:Addr->Prop
 s0:Option V
abbrev FB(A:Fz)(M:Ms)(σ:St):Addr->Prop:=A.B
structure JV(K:Frag)(M:Ms)(A:Fz)(H0:Hp)(σ:St)(H:Hp)(ε:Ev)(F:Nat->List Addr):Prop where
 un:∀i m m',(i,m)∈M->(i,m')∈M->m=m'
 val:∀i m w,(i,m)∈M->look ε i=some w->∃v,σ[i]?=some (some v)/\Fp K A.B H m w v (F i)
 emp:∀i,aJ M i->look ε i=none->F i=[]
 nd:∀i,aJ M i->(F i).Nodup
 ds:∀i j p,aJ M i->aJ M j->p∈F i->p∈F j->i=j
 nw:∀i p,aJ M i->p∈F i->H0 p=none
 na:∀i p,aJ M i->p∈F i->¬A.ab p
 all:∀p,A.B p↔A.ab p\/∃i,aJ M i/\p∈F i
structure SR(K:Frag)(M:Ms)(A:Fz)(H0:Hp)(σ:St)(H:Hp)(ε:Ev):Prop where
 len:σ.length=ε.length
 sh:∀i w,¬aJ M i->look ε i=some w->∃v,σ[i]?=some (some v)/\Rep K A.B H w v
 sm:au H0 H
 dm:Dom A.ab H
 sl:∀v,A.s0=some v->σ[0]?=some (some v)/\aJ M 0
 ow:∃F,JV K M A H0 σ H ε F
theorem aE{a:Ev}{i j:Nat}{x:Option W}(h:i≠j):look (a.set i x) j=look a j:=by
 cases e:look a j with
 |none=>
  cases b:look (a.set i x) j with
  |none=>rfl
  |some w=>rw[aU,KF h,<-aU,e]at b;cases b
 |some w=>rw[aU,KF h,<-aU];exact e
theorem fG{a:Ev}{i:Nat}{w w':W}(h:look (a.set i (some w)) i=some w'):w'=w:=by
 rw[aU,List.getElem?_set]at h;rw[FM rfl]at h;split at h
 .cases h;rfl
 .cases h
theorem jn{a:Ev}{i:Nat}{w:W}(h:look a i=some w):i<a.length:=by rw[aU]at h;exact(GE.mp h).1
section
variable{K:Frag}{M M':Ms}{A:Fz}{H0 H H1:Hp}{σ:St}{ε:Ev}{F:Nat->List Addr}
theorem JV.has(O:JV K M A H0 σ H ε F){i:Nat}{p:Addr}(c:aJ M i)(a:p∈F i):∃o,H p=some o/\wj o=true:=by
 cases b:look ε i with
 |none=>rw[O.emp i c b]at a;cases a
 |some w=>obtain⟨m,d⟩:=c;obtain⟨v,_,h⟩:=O.val i m w d b;exact Fp.mu m h p a
theorem SR.dom(S:SR K M A H0 σ H ε):Dom A.B H:=λp z=>by
 obtain⟨F,O⟩:=S.ow;rcases(O.all p).mp z with z|⟨i,b,a⟩
 .exact S.dm p z
 .obtain⟨o,e,_⟩:=O.has b a;exact⟨o,e⟩
theorem SR.sub'(S:SR K M A H0 σ H ε):∀p,A.ab p->A.B p:=λp z=>by obtain⟨F,O⟩:=S.ow;exact(O.all p).mpr (.inl z)
theorem SR.same(S:SR K M A H0 σ H ε)(s:au H H1):SR K M A H0 σ H1 ε:=by
 obtain⟨F,O⟩:=S.ow;exact⟨S.len,λi w b e=>let⟨v,h1,h2⟩:=S.sh i w b e;⟨v,h1,h2.same s⟩,S.sm.trans s,S.dm.same s,S.sl,F,
  ⟨O.un,λi m w a e=>let⟨v,h1,h2⟩:=O.val i m w a e;⟨v,h1,Fp.mv s (λ_ _ _ z=>z) m h2⟩,O.emp,O.nd,O.ds,O.nw,O.na,O.all⟩⟩
theorem SR.sub(S:SR K M A H0 σ H ε)(h:∀x∈M',x∈M)(s:Option V)(hz:∀v,s=some v->A.s0=some v/\aJ M' 0):∃r,r.ab=A.ab/\r.s0=s/\(∀p,r.B p->A.B p)/\SR K M' r H0 σ H ε:=by
 obtain⟨F,O⟩:=S.ow;have d:∀i,aJ M' i->aJ M i:=by rintro i ⟨m,f⟩;exact⟨m,h _ f⟩
 have q:∀p,(A.ab p\/∃i,aJ M' i/\p∈F i)->A.B p:=λp z=>(O.all p).mpr (z.imp id<|by rintro⟨i,c,n⟩;exact⟨i,d i c,n⟩);refine⟨⟨A.ab,λp=>A.ab p\/∃i,aJ M' i/\p∈F i,s⟩,rfl,rfl,q,S.len,λi w t e=>?_,S.sm,S.dm,λv e=>⟨(S.sl v (hz v e).1).1,(hz v e).2⟩,F,⟨λi m u a b=>O.un i m u (h _ a) (h _ b),λi m w f e=>?_,λi c=>O.emp i (d i c),λi c=>O.nd i (d i c),λi j p c o=>O.ds i j p (d i c) (d j o),λi p c=>O.nw i p (d i c),λi p c=>O.na i p (d i c),λp=>OB⟩⟩
 .by_cases c:aJ M i
  .have g:=c;obtain⟨m,f⟩:=c;obtain⟨v,l,k⟩:=O.val i m w f e;refine⟨v,l,Fp.rep q m (λp n z=>?_) k⟩;rcases z with z|⟨j,o,y⟩
   .exact O.na i p g n z
   .have:=O.ds i j p g (d j o) n y;subst this;exact t o
  .obtain⟨v,l,k⟩:=S.sh i w c e;exact⟨v,l,k.less q⟩
 .obtain⟨v,l,k⟩:=O.val i m w (h _ f) e;exact⟨v,l,Fp.mv (au.refl _) (λp _ _ z=>q p z) m k⟩
theorem SR.go(S:SR K M A H0 σ H ε):SR K [] ⟨A.ab,A.ab,none⟩ H0 σ H ε:=by
 obtain⟨a,b,c,h,d⟩:=S.sub (M':=[]) (λx f=>by cases f) none (λv e=>by cases e);obtain⟨F,O⟩:=d.ow;have e:∀p,a.B p↔A.ab p:=λp=>by rw[O.all p,b];exact⟨λz=>z.elim id (by rintro⟨i,⟨m,g⟩,_⟩;cases g),.inl⟩
 have:a.B=A.ab:=funext λp=>propext (e p);have:a=⟨A.ab,A.ab,none⟩:=by
  cases a;simp only at b c this;rw[b,this,c]
 rw[<-this];exact d
theorem SR.set(S:SR K M A H0 σ H ε){i:Nat}{w:W}{v:V}(g:¬aJ M i)(h:Rep K A.B H w v):SR K M A H0 (σ.set i (some v)) H (ε.set i (some w)):=by
 obtain⟨F,O⟩:=S.ow;refine⟨by rw[NM,NM];exact S.len,λj f d e=>?_,S.sm,S.dm,λu e=>?_,F,⟨O.un,λj m f k e=>?_,λj d e=>?_,O.nd,O.ds,O.nw,O.na,O.all⟩⟩
 .by_cases a:i=j
  .subst a;have l:i<σ.length:=by rw[S.len];have:=jn e;rwa [NM]at this
   have:=fG e;subst this;exact⟨v,N0 l,h⟩
  .rw[aE a]at e;obtain⟨u,c,b⟩:=S.sh j f d e;exact⟨u,by rw[KF a];exact c,b⟩
 .obtain⟨c,b⟩:=S.sl u e;exact⟨by rw[KF (by rintro rfl;exact g b)];exact c,b⟩
 .have a:i≠j:=by rintro rfl;exact g ⟨m,k⟩
  rw[aE a]at e;obtain⟨u,c,b⟩:=O.val j m f k e;exact⟨u,by rw[KF a];exact c,b⟩
 .have a:i≠j:=by rintro rfl;exact g d
  rw[aE a]at e;exact O.emp j d e
theorem SR.own(S:SR K M' A H0 σ H ε){i:Nat}{m:Md}{w:W}{v:V}(y:∀x,x∈M↔x=(i,m)\/x∈M')(Q:¬aJ M' i)(s:au H H1)(h:cD K A.B H H1 m w v):
 ∃N,N.ab=A.ab/\N.s0=A.s0/\(∀p o,H p=some o->N.B p->A.B p)/\SR K M N H0 (σ.set i (some v)) H1 (ε.set i (some w)):=by
 obtain⟨F,O⟩:=S.ow;obtain⟨G,nd,nw,L⟩:∃G:List Addr,G.Nodup/\(∀p∈G,H p=none)/\(i<ε.length->Fp K (λq=>A.B q\/q∈G) H1 m w v G)/\(ε.length<=i->G=[]):=by
  by_cases g:i<ε.length
  .obtain⟨G,nd,nw,L⟩:=h;exact⟨G,nd,nw,λ_=>L,λz=>by lia⟩
  .exact⟨[],Xt,by simp,λz=>(g z).elim,λ_=>rfl⟩
 have f:∀j,aJ M j↔j=i\/aJ M' j:=λj=>by
  constructor
  .rintro⟨r,R⟩;rcases(y _).mp R with e|e
   .cases e;exact .inl rfl
   .exact .inr ⟨r,e⟩
  .rintro(rfl|⟨r,R⟩)
   .exact⟨m,(y _).mpr (.inl rfl)⟩
   .exact⟨r,(y _).mpr (.inr R)⟩
 have P:∀j,aJ M' j->j≠i:=λj c e=>by subst e;exact Q c
 have E:∀j p,aJ M' j->p∈F j->p∉G:=λj p c d z=>by obtain⟨o,e,_⟩:=O.has c d;rw[nw p z]at e;cases e
 have T:∀p o,H p=some o->(A.B p\/p∈G)->A.B p:=λp o e z=>by
  rcases z with z|z
  .exact z
  .rw[nw p z]at e;cases e
 refine⟨⟨A.ab,λp=>A.B p\/p∈G,A.s0⟩,rfl,rfl,T,by rw[NM,NM];exact S.len,λj J c e=>?_,S.sm.trans s,S.dm.same s,λu e=>?_,λj=>if j=i then G else F j,⟨λj Y X a b=>?_,λj r J c e=>?_,λj c e=>?_,λj c=>?_,λj k p c U a b=>?_,λj p c d=>?_,λj p c d=>?_,λp=>?_⟩⟩
 .have t:j≠i/\¬aJ M' j:=⟨λz=>c ((f j).mpr (.inl z)),λz=>c ((f j).mpr (.inr z))⟩;rw[aE (Ki t.1)]at e;obtain⟨u,I,D⟩:=S.sh j J t.2 e;exact⟨u,by rw[KF (Ki t.1)];exact I,Rep.mv s T J D⟩
 .obtain⟨I,D⟩:=S.sl u e;exact⟨by rw[KF (Ki (P 0 D))];exact I,(f 0).mpr (.inr D)⟩
 .rcases(y _).mp a with a|a
  .rcases(y _).mp b with b|b
   .cases a;cases b;rfl
   .cases a;exact(Q ⟨_,b⟩).elim
  .rcases(y _).mp b with b|b
   .cases b;exact(Q ⟨_,a⟩).elim
   .exact O.un j Y X a b
 .rcases(y _).mp c with a|a
  .cases a;have g:i<ε.length:=by have:=jn e;rwa [NM]at this
   have:=fG e;subst this;exact⟨v,N0 (by rw[S.len];exact g),by rw[FM rfl];exact L.1 g⟩
  .have n:=P j ⟨r,a⟩;rw[aE (Ki n)]at e;obtain⟨u,I,D⟩:=O.val j r J a e;exact⟨u,by rw[KF (Ki n)];exact I,by rw[Da n];exact Fp.mv s T r D⟩
 .by_cases n:j=i
  .subst n;rw[FM rfl];refine L.2 (U8 λg=>?_);have:look (ε.set j (some w)) j=some w:=by rw[aU];exact N0 g
   rw[this]at e;cases e
  .rw[aE (Ki n)]at e;rw[Da n];exact O.emp j (((f j).mp c).resolve_left n) e
 .by_cases n:j=i
  .rw[FM n];exact nd
  .rw[Da n];exact O.nd j (((f j).mp c).resolve_left n)
 .by_cases C:j=i
  .by_cases l:k=i
   .rw[C,l]
   .rw[FM C]at a;rw[Da l]at b;exact(E k p (((f k).mp U).resolve_left l) b a).elim
  .by_cases l:k=i
   .rw[Da C]at a;rw[FM l]at b;exact(E j p (((f j).mp c).resolve_left C) a b).elim
   .rw[Da C]at a;rw[Da l]at b;exact O.ds j k p (((f j).mp c).resolve_left C) (((f k).mp U).resolve_left l) a b
 .by_cases n:j=i
  .rw[FM n]at d;exact S.sm.free (nw p d)
  .rw[Da n]at d;exact O.nw j p (((f j).mp c).resolve_left n) d
 .by_cases n:j=i
  .rw[FM n]at d;exact S.dm.no (nw p d)
  .rw[Da n]at d;exact O.na j p (((f j).mp c).resolve_left n) d
 .constructor
  .rintro(z|z)
   .rcases(O.all p).mp z with z|⟨j,c,d⟩
    .exact .inl z
    .exact .inr ⟨j,(f j).mpr (.inr c),by rw[Da (P j c)];exact d⟩
   .exact .inr ⟨i,(f i).mpr (.inl rfl),by rw[FM rfl];exact z⟩
  .rintro(z|⟨j,c,d⟩)
   .exact .inl ((O.all p).mpr (.inl z))
   .by_cases n:j=i
    .rw[FM n]at d;exact .inr d
    .rw[Da n]at d;exact .inl ((O.all p).mpr (.inr ⟨j,((f j).mp c).resolve_left n,d⟩))
theorem JV.chg(S:SR K M A H0 σ H ε)(O:JV K M A H0 σ H ε F){i:Nat}{m:Md}{w w':W}{v:V}{F':List Addr}(N:(i,m)∈M)(R:look ε i=some w)(Q:σ[i]?=some (some v))
 (x:∀p o,H p=some o->(wj o=true/\p∈F i)\/H1 p=some o)(nd:F'.Nodup)(nw:∀p∈F',p∈F i\/H p=none)(h:Fp K (λp=>(A.B p/\p∉F i)\/p∈F') H1 m w' v F'):
 ∃s,s.ab=A.ab/\s.s0=A.s0/\(∀p,s.B p↔(A.B p/\p∉F i)\/p∈F')/\(∀p o,H p=some o->s.B p->A.B p)/\pL A.B H H1/\SR K M s H0 σ H1 (ε.set i (some w')):=by
 have f:aJ M i:=⟨m,N⟩;have J:∀p,p∈F i->A.B p:=λp c=>(O.all p).mpr (.inr ⟨i,f,c⟩);have P:pL A.B H H1:=λp o e=>(x p o e).imp (λz=>⟨z.1,J p z.2⟩) id;have I:∀p o,H p=some o->((A.B p/\p∉F i)\/p∈F')->A.B p:=λp o e z=>by
  rcases z with z|z
  .exact z.1
  .rcases nw p z with z|z
   .exact J p z
   .rw[z]at e;cases e
 have C:∀j p,aJ M j->j≠i->p∈F j->p∉F i/\p∉F':=λj p d n c=>by
  have a:p∉F i:=λz=>n (O.ds j i p d f c z);refine⟨a,λz=>?_⟩;rcases nw p z with z|z
  .exact a z
  .obtain⟨o,e,_⟩:=O.has d c;rw[z]at e;cases e
 refine⟨⟨A.ab,λp=>(A.B p/\p∉F i)\/p∈F',A.s0⟩,rfl,rfl,λ_=>OB,I,P,by rw[NM];exact S.len,λj g d e=>?_,λp o e=>?_,λp z=>?_,S.sl,λj=>if j=i then F' else F j,⟨O.un,λj t g d e=>?_,λj d e=>?_,λj d=>?_,λj k p d L a b=>?_,λj p d c=>?_,λj p d c=>?_,λp=>?_⟩⟩
 .have n:i≠j:=by rintro rfl;exact d f
  rw[aE n]at e;obtain⟨u,E,D⟩:=S.sh j g d e;exact⟨u,E,Rep.chg P I g D⟩
 .rcases x p o (S.sm p o e)with⟨_,z⟩|z
  .rw[O.nw i p f z]at e;cases e
  .exact z
 .obtain⟨o,e⟩:=S.dm p z;rcases x p o e with⟨_,y⟩|y
  .exact(O.na i p f y z).elim
  .exact⟨o,y⟩
 .by_cases n:j=i
  .subst n;have T:=O.un j m t N d;subst T;have:=fG e;subst this;exact⟨v,Q,by rw[FM rfl];exact h⟩
  .rw[aE (Ki n)]at e;obtain⟨u,E,D⟩:=O.val j t g d e;refine⟨u,E,?_⟩;rw[Da n];refine Fp.chg (G:=λp=>p∈F j) (λp o e=>?_) I t (λp c=>c) D;rcases x p o e with⟨z,y⟩|z
   .exact .inl ⟨z,J p y,λq=>(C j p ⟨t,d⟩ n q).1 y⟩
   .exact .inr z
 .by_cases n:j=i
  .subst n;have:look (ε.set j (some w')) j=some w':=by rw[aU];exact N0 (jn R)
   rw[this]at e;cases e
  .rw[aE (Ki n)]at e;rw[Da n];exact O.emp j d e
 .by_cases n:j=i
  .rw[FM n];exact nd
  .rw[Da n];exact O.nd j d
 .by_cases r:j=i
  .by_cases l:k=i
   .rw[r,l]
   .rw[FM r]at a;rw[Da l]at b;exact((C k p L l b).2 a).elim
  .by_cases l:k=i
   .rw[Da r]at a;rw[FM l]at b;exact((C j p d r a).2 b).elim
   .rw[Da r]at a;rw[Da l]at b;exact O.ds j k p d L a b
 .by_cases n:j=i
  .rw[FM n]at c;rcases nw p c with z|z
   .exact O.nw i p f z
   .exact S.sm.free z
  .rw[Da n]at c;exact O.nw j p d c
 .by_cases n:j=i
  .rw[FM n]at c;rcases nw p c with z|z
   .exact O.na i p f z
   .exact S.dm.no z
  .rw[Da n]at c;exact O.na j p d c
 .constructor
  .rintro(⟨z,y⟩|z)
   .rcases(O.all p).mp z with z|⟨j,d,c⟩
    .exact .inl z
    .have n:j≠i:=by rintro rfl;exact y c
     exact .inr ⟨j,d,by rw[Da n];exact c⟩
   .exact .inr ⟨i,f,by rw[FM rfl];exact z⟩
  .rintro(z|⟨j,d,c⟩)
   .exact .inl ⟨(O.all p).mpr (.inl z),λy=>O.na i p f y z⟩
   .by_cases n:j=i
    .rw[FM n]at c;exact .inr c
    .rw[Da n]at c;exact .inl ⟨(O.all p).mpr (.inr ⟨j,d,c⟩),(C j p d n c).1⟩
end
end VL
namespace HT
open PySem PySem.Spec PyProof.Rows
section
open PySem.SeqAt
open PySem.AutoSeq1 (wpAny_loadPart')
open PySem.MeetsSeq PySem.MeetsSeq2 PySem.MeetsSeq3
theorem qv(l b:Addr)(items f:Array Value)(n Q:Nat)(dd M:Option Addr)(P H:Array (Option Value))(k:Nat):
 ∀(i:Nat)(E x:List Int),items.size -i=k->i<=items.size->i<=f.size->IntsAre (items.toList.drop i) E->IntsAre (f.toList.drop i) x->Meets (Builtin.«list.__eq__.loop» ⟨[.ref l,.ref b,rawInt i,rawInt 0],[]⟩)
  (λA R s=>s.heap.get? l=some {cls:=.type "list",dict:=dd,data:=.seq items n,slots:=P}/\s.heap.get? b=some {cls:=.type "list",dict:=M,data:=.seq f Q,slots:=H}/\
    R (.ok (.ret (.bool (lexLt E x)))) s):=by
 induction k with
 |zero=>
  intro i E x U i1 T C z j w A R s h;obtain⟨J,g,d,F,I⟩:=s;obtain⟨y,B,h⟩:=h
  wp_walk using Kj y,Kj B
  have o:items[((i:Nat):Int).toNat]?=none:=by simp;omega
  have Z:items.toList.drop i=[]:=by simp;omega
  rw[Z]at C;cases C;rw[o];have e:lexLt [] x=decide (items.size<f.size):=by
   have hz:=z.length;rw[YM,Ar]at hz;cases x with
   |nil=>rw[G2]at hz;rw[ou];exact(Fn (by omega)).symm
   |cons m x=>rw[AI]at hz;rw[mE];exact(GM (by omega)).symm
  rw[e]at h
  wp_walk using Kj y,Kj B
  exact h
 |succ k S=>
  intro i E x U i1 T C z j w A R s h;obtain⟨J,g,d,F,I⟩:=s;obtain⟨y,B,h⟩:=h
  wp_walk using Kj y,Kj B
  have D:i<items.size:=by omega
  have o:items[((i:Nat):Int).toNat]?=some items[i]:=by simp[D]
  have d1:items.toList.drop i=items[i]::items.toList.drop (i+1):=by simp[Qr,D]
  rw[d1]at C;generalize items[i]=v at C o;cases C with
  |cons a t L=>
  by_cases O:i<f.size
  .have p:f[((i:Nat):Int).toNat]?=some f[i]:=by simp[O]
   have N:f.toList.drop i=f[i]::f.toList.drop (i+1):=by simp[Qr,O]
   rw[N]at z;generalize f[i]=v2 at z p;cases z with
   |cons c u K=>
   have Y:((i:Int)+1)=((i+1:Nat):Int):=by push_cast;rfl
   rw[mD]at h;rw[o,p];obtain⟨e,X,r⟩:=AB A.in1 ⟨J,g,d,F,I⟩ a t c u;refine AN (X j w _ _ ?_);cases e with
   |true=>
    rw[FM (r.mp rfl)]at h
    wp_walk
    rw[Y];exact⟨X9 plain_eq_loop _,Pv entry_eq_loop (by rw[Oy plain_eq_loop _];exact S (i+1) _ _ (by omega) (by omega) (by omega) L K j w A R _ ⟨y,B,h⟩)⟩
   |false=>
    rw[Da (λq=>absurd (r.mpr q) Fh)]at h;have Sb:=rW A.in1 ⟨J,g,d,F,I⟩ a t c u j w
    wp_walk using Kj y,Kj B
    rw[o,p]
    wp_walk using Sb
    exact h
  .have p:f[((i:Nat):Int).toNat]?=none:=by simp;omega
   have N:f.toList.drop i=[]:=by simp;omega
   rw[N]at z;cases z;rw[mF]at h;rw[o,p]
   wp_walk using Kj y,Kj B
   have e:decide (items.size<f.size)=false:=Fn (by omega);show R (.ok (.ret (.bool (decide (items.size<f.size))))) _;rw[e];exact h
theorem qw(l b:Addr)(items a:Array Value)(n m:Nat)(q f:Option Addr)(k c:Array (Option Value))(i j:List Int)(t:IntsAre items.toList i)(r:IntsAre a.toList j):
 Meets (Builtin.«list.__lt__» ⟨[.ref l,.ref b],[]⟩)
  (λ_ R s=>s.heap.get? l=some {cls:=.type "list",dict:=q,data:=.seq items n,slots:=k}/\s.heap.get? b=some {cls:=.type "list",dict:=f,data:=.seq a m,slots:=c}/\
    R (.ok (.ret (.bool (lexLt i j)))) s):=by
 intro e w A R s h;obtain⟨x,g,d,u,v⟩:=s;obtain⟨o,p,h⟩:=h;have y:=AutoSeq1.sub_list_list
 wp_walk using Kj o,Kj p
 exact⟨X9 plain_eq_loop _,Pv entry_eq_loop (by rw[Oy plain_eq_loop _];exact qv l b items a n m q f k c _ 0 i j rfl (L9 _) (L9 _) t r e w A R _ ⟨o,p,h⟩)⟩
end
section
variable{prog:Program}{w:World}{A:Around}{E:Value->Shared->Prop}{s:Shared}
theorem uX{l b:Addr}{items a:Array Value}{c d:List Int}{Q:Value->Shared->Prop}(u:s.heap.IsList l items)(z:s.heap.IsList b a)(y:IntsAre items.toList c)(v:IntsAre a.toList d)
 (t:A.units<cLine)(h:Q (.bool (lexLt c d)) s):wpAny (model prog w) A (compareOp .Lt (.ref l) (.ref b)) Q E s:=by
 obtain⟨⟨C,B,p,q⟩,m,o,n,hd⟩:=id u;obtain⟨⟨D,j,k,i⟩,e,g,r,f⟩:=id z;simp only at o hd g f;subst o hd g f;exact richCompare_meets_room (op:=.Lt) ⟨_,m,rfl⟩ ⟨_,e,rfl⟩ PySem.F.slot_list_lt PySem.F.entry_list_lt (PySem.F.args_list_lt_2 _ _) (qw l b items a n r B j q i c d y v)
  ⟨m,e,show Value.bool (lexLt c d)≠Value.notImplemented/\Q (.bool (lexLt c d)) s from⟨(λx=>nomatch x),h⟩⟩ t
end
end HT
namespace VL
open PySem PySem.Spec PySem.Calls PyProof.Rows
theorem ints_get:∀{vs:List Value}{a:List Int},IntsAre vs a->∀(j:Nat)(h:j<vs.length),∃t,vs[j]=.int (a.getD j 0) t
 |_,_,.cons n t _,0,_=>⟨t,rfl⟩
 |_,_,.cons n t r,j+1,h=>by obtain⟨u,e⟩:=ints_get r j (by simpa using h);exact⟨u,by simpa using e⟩
theorem all_eq:∀(a b:List Int),a.length=b.length->(Ea a.length).all (λj=>a.getD j 0==b.getD j 0)=decide (a=b)
 |[],[],_=>rfl
 |n::a,m::b,h=>by
  have ih:=all_eq a b (by simpa using h);rw[AI,Ra,BQ,List.all_map];have:((λj=>(n::a).getD j 0==(m::b).getD j 0)∘Vx)=λj=>a.getD j 0==b.getD j 0:=by funext j;rfl
  rw[this,ih];show((n==m)&&decide (a=b))=_;by_cases e:n=m<;>by_cases c:a=b<;>simp[e,c]
 |[],_::_,h=>by simp at h
 |_::_,[],h=>by simp at h
theorem sF:∀{vs:List Value}{a b:List Int},IntsAre vs a->IntsAre vs b->a=b
 |_,_,_,.nil,.nil=>rfl
 |_,_,_,.cons n t r,.cons _ _ c=>by rw[sF r c]
section
variable{A:Around}{s:Shared}
theorem Be{l b:Addr}{items a:Array Value}{c d:List Int}(h:s.heap.IsList l items)(m:s.heap.IsList b a)(k:IntsAre items.toList c)(i:IntsAre a.toList d)(r:A.units<cLine):
 SeqAt.EqAt A s (.ref l) (.ref b) (decide (c=d)):=by
 have p:items.size=c.length:=by rw[<-k.length];simp
 have x:a.size=d.length:=by rw[<-i.length];simp
 by_cases e:l=b
 .subst e;obtain⟨o,y,_,n,hd⟩:=h;obtain⟨C,f,_,D,g⟩:=m;rw[y]at f;cases f;rw[hd]at g;cases g;rw[GM (sF k i)];exact SeqAt.EqAt.same _
 .refine SeqAt.EqAt.of_refs e ?_;by_cases hz:items.size=a.size
  .have:=SeqAt.RcAt.lists (e:=λj=>c.getD j 0==d.getD j 0) h m hz r λj w v=>by obtain⟨t,B⟩:=ints_get k j (by simpa using w);obtain⟨u,z⟩:=ints_get i j (by simpa using v);rw[show items[j]=items.toList[j]'(by simpa using w) by simp,show a[j]=a.toList[j]'(by simpa using v) by simp,B,z];exact Y0 _ _ _ _
   rw[p,all_eq c d (by omega)]at this;exact this
  .rw[Fn (λq=>hz (by rw[p,x,q]))];exact SeqAt.RcAt.lists_lengths h m (by simpa using hz) r
end
theorem mU:∀a:List Int,HT.lexLt a a=false
 |[]=>rfl
 |x::xs=>by rw[HT.mD,FM rfl];exact mU xs
end VL
namespace HT
open PySem PySem.Spec PyProof.Rows
noncomputable def Sd(A:Around)(s:Shared)(x y:Value)(c:Bool):Prop:=∀(a:Program)(w:World)(E:Value->Shared->Prop)(Q:Value->Shared->Prop),Q (.bool c) s->wpAny (model a w) A (richCompare .Lt x y) Q E s
inductive qx(A:Around)(s:Shared):List Value->List Value->Bool->Prop where
 |nn:qx A s [] [] false
 |nc {y ys}:qx A s [] (y::ys) true
 |cn {x xs}:qx A s (x::xs) [] false
 |eq {x y xs ys c} (h:SeqAt.EqAt A s x y true) (r:qx A s xs ys c):qx A s (x::xs) (y::ys) c
 |ne {x y xs ys c} (h:SeqAt.EqAt A s x y false) (r:Sd A s x y c):qx A s (x::xs) (y::ys) c
section
open PySem.SeqAt
open PySem.AutoSeq1 (wpAny_loadPart')
open PySem.MeetsSeq PySem.MeetsSeq2 PySem.MeetsSeq3
theorem sG(l b:Addr)(items a:Array Value)(n D:Nat)(I u:Option Addr)(C q:Array (Option Value))(c:Bool):
 Meets (Builtin.«tuple.__lt__» ⟨[.ref l,.ref b],[]⟩)
  (λA R s=>s.heap.get? l=some {cls:=.type "tuple",dict:=I,data:=.seq items n,slots:=C}/\s.heap.get? b=some {cls:=.type "tuple",dict:=u,data:=.seq a D,slots:=q}/\
    qx A.in1 s items.toList a.toList c/\R (.ok (.ret (.bool c))) s):=
 .of_wp λf w A R s h=>by
  obtain⟨B,g,d,v,z⟩:=s;obtain⟨F,H,o,h⟩:=h;have M:=AutoSeq1.sub_tuple_tuple;have L:items.size=items.toList.length:=by simp
  have K:a.size=a.toList.length:=by simp
  wp_walk using Kj F,Kj H,wpAny_forIn_list _ (λrest b t=>b.1=none/\t=⟨B,g,d,v,z⟩/\∃(m k:List Value),rest=m.zip k/\
   qx A.in1 ⟨B,g,d,v,z⟩ m k c/\m.length+a.size=k.length+items.size) _
  case turn=>
   rintro⟨y,x⟩ rest b t ⟨j,rfl,m,k,hz,i,e⟩;cases i with
   |nn=>cases hz
   |nc=>cases hz
   |cn=>cases hz
   |eq p r=>
    rw[E7]at hz;injection hz with hyx hrest;injection hyx with hy o;subst hy o;simp only[AI]at e;refine AN (p f w _ _ ?_)
    wp_walk
    exact⟨rfl,rfl,_,_,hrest,r,by omega⟩
   |ne p r=>
    rw[E7]at hz;injection hz with hyx hrest;injection hyx with hy o;subst hy o;refine AN (p f w _ _ ?_);have J:=r f w
    wp_walk using J
    exact⟨_,rfl,by simpa using h⟩
  case fin=>
   rintro⟨O,N⟩ t ⟨j,rfl,m,k,hz,i,e⟩;simp only at j;subst j;have E:c=decide (items.size<a.size):=by
    cases i with
    |nn=>simp only[G2]at e;exact(Fn (by omega)).symm
    |nc=>simp only[G2,AI]at e;exact(GM (by omega)).symm
    |cn=>simp only[G2,AI]at e;exact(Fn (by omega)).symm
    |eq p r=>rw[E7]at hz;cases hz
    |ne p r=>rw[E7]at hz;cases hz
   rw[E]at h
   wp_walk
   exact⟨_,rfl,by simpa[Builtin.Tuple.tupleCompareSizes]using h⟩
  case h=>exact⟨rfl,rfl,items.toList,a.toList,rfl,o,by omega⟩
end
section
variable{prog:Program}{w:World}{A:Around}{E:Value->Shared->Prop}{s:Shared}
theorem Bf{l b:Addr}{items a:Array Value}{c:Bool}{Q:Value->Shared->Prop}(u:IsTup s.heap l items)(v:IsTup s.heap b a)(r:qx A.in1 s items.toList a.toList c)
 (t:A.units<cLine)(h:Q (.bool c) s):wpAny (model prog w) A (compareOp .Lt (.ref l) (.ref b)) Q E s:=by
 obtain⟨⟨z,y,o,p⟩,k,m,n,hd⟩:=id u;obtain⟨⟨B,i,j,g⟩,d,f,q,e⟩:=id v;simp only at m hd f e;subst m hd f e;exact richCompare_meets_room (op:=.Lt) ⟨_,k,rfl⟩ ⟨_,d,rfl⟩ PySem.F.slot_tuple_lt PySem.F.entry_tuple_lt (PySem.F.args_tuple_lt_2 _ _) (sG l b items a n q y i p g c)
  ⟨k,d,r,show Value.bool c≠Value.notImplemented/\Q (.bool c) s from⟨(λx=>nomatch x),h⟩⟩ t
end
end HT
set_option genSizeOf false
set_option genInjectivity false
namespace VL
open PySem PySem.Spec
open PyProof.Rows hiding St
open L2
inductive BI where
 |len|abs|max2|min2|sum|all|any|list|tuple|zO|int|QZ|str
 deriving DecidableEq
inductive CE where
 |var (i:Nat)|int (i:Int)|bl (b:Bool)|str (x:Str)|aI|Bg (n:String)|glob (g:Nat)
 |bin (op:Operator) (a b:CE)|neg (a:CE)|not (a:CE)
 |cmp (op:CmpOp) (a b:CE)
 |and (as:List CE)|or (as:List CE)
 |tup (as:List CE)|lst (as:List CE)
 |ix (a i:CE)|sl (a lo hi:CE)
 |call (f:Nat) (as:List CE)|blt (b:BI) (as:List CE)
 |comp (ts:List Nat) (one:Bool) (n:Nat) (it:CE) (c:CE) (e:CE)
 |p9 (as:List CE)
 |own (i:Nat) (π:List gQ)|i9 (i g f:Nat) (as:List CE)
 |wk (is:List Nat) (a:CE)
 |slt (a lo hi:CE)|M9 (a b c:CE)|JW (a:CE) (n:Nat) (x:Str)|pM (g f:Nat) (a:CE)
 |JX (i:Nat)|JY (a:CE)|Na (ks:List Str) (vs:List Int) (k:CE)
inductive CS where
 |set (i:Nat) (e:CE)|OP (ts:List Nat) (e:CE)|par (ts:List Nat) (es:List CE)
 |app (i:Nat) (e:CE)|qy (j:Nat) (e:CE)
 |ret (e:CE)|iff (c:CE) (a b:List CS)|Nb (c:CE) (b:List CS)
 |fr (ts:List Nat) (one:Bool) (it:CE) (b:List CS)
 |brk
 |HR (i:Nat) (π:List gQ) (e:CE)|Bh (i n:Nat) (e:CE)
 |HS (e:CE)|zP (e:CE)|Nc (c:CE) (a b:List CS)|OQ (c:CE) (b:List CS)
 |yK
 |JZ (is:List Nat) (b:List CS)
 |OR (i:Nat)
 |M6 (i:Nat) (π:List gQ) (e:CE)|OS (i:Nat)|OT (i n:Nat) (e:CE)|OU (c:CE) (a b:List CS)|OV (i:Nat) (k e:CE)
noncomputable def OW:W->W->(W->Prop)->Prop
 |.int i,.int j,Q=>Q (.int (i+j))
 |.lst a,.lst b,Q=>a.length+b.length<=sizeLine/\Q (.lst (a++b))
 |.tup a,.tup b,Q=>a≠[]/\a.length+b.length<=sizeLine/\Q (.tup (a++b))
 |.str a,.str b,Q=>a.length+b.length<=sizeLine/\Q (.str (a++b))
 |_,_,_=>False
noncomputable def OX:W->W->(W->Prop)->Prop
 |.int i,.int j,Q=>IntMulOk i j/\Q (.int (i*j))
 |.lst a,.int k,Q=> -(2^63)<=k/\k<2^63/\a.length*k.toNat<=sizeLine/\Q (.lst (A0 k.toNat a).flatten)
 |.str a,.int k,Q=>k=3/\a.length<=1000/\Q (.str (tx (a.cps.toList++a.cps.toList++a.cps.toList)))
 |_,_,_=>False
noncomputable def Nd(C:Int->Int->Prop)(g:Int->Int->Int):W->W->(W->Prop)->Prop
 |.int i,.int j,Q=>C i j/\Q (.int (g i j))
 |_,_,_=>False
noncomputable def OY:W->W->(W->Prop)->Prop
 |.int i,.int j,Q=>Q (.int (i -j))
 |_,_,_=>False
noncomputable def eu:Operator->W->W->(W->Prop)->Prop
 |.Add=>OW
 |.Sub=>OY
 |.Mult=>OX
 |.FloorDiv=>Nd sd λi j=>i.fdiv j
 |.Mod=>Nd (λ_ j=>j≠0) λi j=>i.fmod j
 |.Pow=>Nd uy λi j=>i^j.toNat
 |.LShift=>Nd uy λi j=>i*2^j.toNat
 |.RShift=>Nd (λ_ j=>0<=j) λi j=>i/2^j.toNat
 |_=>λ_ _ _=>False
noncomputable def kM:Nat->W->Bool
 |_,.int _=>true
 |_,.str x=>PyData.strOk x
 |_,.aI=>true
 |n+1,.lst l=>l.all (kM n)
 |n+1,.tup l=>l.all (kM n)
 |_,_=>false
noncomputable def HU:Nat->W->Bool
 |_,.bl _=>true
 |_,.str x=>PyData.strOk x
 |_,.aI=>true
 |n+1,.lst l=>l.all (HU n)
 |n+1,.tup l=>l.all (HU n)
 |_,_=>false
noncomputable def Se(a:Bool):W->W->(W->Prop)->Prop
 |.int i,.int j,Q=>Q (.bl (if a then !decide (i=j)else decide (i=j)))
 |.str i,.str j,Q=>Q (.bl (if a then !decide (i=j)else decide (i=j)))
 |.bl i,.bl j,Q=>Q (.bl (if a then !decide (i=j)else decide (i=j)))
 |x,y,Q=>((kM 9 x=true/\kM 9 y=true)\/(HU 9 x=true/\HU 9 y=true)\/(kM 60 x=true/\kM 60 y=true))/\∀b:Bool,(b=true↔x=y)->Q (.bl (if a then !b else b))
noncomputable def Bj(p:Int->Int->Bool):W->W->(W->Prop)->Prop
 |.int i,.int j,Q=>Q (.bl (p i j))
 |_,_,_=>False
noncomputable def OZ(x y:W)(Q:W->Prop):Prop:=∃(a b:Int)(c d:List Int),x=.tup [.int a,.lst (c.map W.int)]/\y=.tup [.int b,.lst (d.map W.int)]/\Q (.bl (if a=b then HT.lexLt c d else decide (a<b)))
noncomputable def Ux:W->W->(W->Prop)->Prop
 |.int i,.int j,Q=>Q (.bl (decide (i<j)))
 |.tup a,.tup b,Q=>OZ (.tup a) (.tup b) Q
 |_,_,_=>False
noncomputable def Sg(a:Bool):W->W->(W->Prop)->Prop
 |.aI,.aI,Q=>Q (.bl (!a))
 |.bl _,.aI,Q=>Q (.bl a)
 |.int _,.aI,Q=>Q (.bl a)
 |.str _,.aI,Q=>Q (.bl a)
 |.lst _,.aI,Q=>Q (.bl a)
 |.tup _,.aI,Q=>Q (.bl a)
 |.err _,.aI,Q=>Q (.bl a)
 |_,_,_=>False
noncomputable def Uy:W->W->(W->Prop)->Prop
 |.str i,.str j,Q=>∃c,i=tx [c]/\Q (.bl (decide (c∈j.cps.toList)))
 |.str i,.lst l,Q=>∃xs:List Str,l=xs.map W.str/\Q (.bl (decide (i∈xs)))
 |.str i,.tup l,Q=>∃xs:List Str,l=xs.map W.str/\Q (.bl (decide (i∈xs)))
 |_,_,_=>False
noncomputable def dz:CmpOp->W->W->(W->Prop)->Prop
 |.Eq=>Se false
 |.NotEq=>Se true
 |.Lt=>Ux
 |.LtE=>Bj λi j=>decide (i<=j)
 |.Gt=>Bj λi j=>decide (j<i)
 |.GtE=>Bj λi j=>decide (j<=i)
 |.Is=>Sg false
 |.IsNot=>Sg true
 |.In=>Uy
 |_=>λ_ _ _=>False
noncomputable def HV:CmpOp->W->W->(W->Prop)->Prop
 |.Lt=>Bj λi j=>decide (i<j)
 |o=>dz o
noncomputable def HW:W->W->(W->Prop)->Prop
 |.lst l,.int i,Q=>∃w,ie l i=some w/\Q w
 |.tup l,.int i,Q=>∃w,ie l i=some w/\Q w
 |.di a,.int i,Q=>∃n,ie a i=some n/\Q (.int n)
 |.str x,.int i,Q=>x.length<=sizeLine/\∃c,ie x.cps.toList i=some c/\Q (.str (tx [c]))
 |_,_,_=>False
noncomputable def O2:W->Bool
 |.str _=>true
 |_=>false
noncomputable def J0:W->W->W->(W->Prop)->Prop
 |.str z,.str y,.int i,Q=>0<=i/\i<=z.length/\Q (.bl (y.cps.toList.isPrefixOf (z.cps.toList.drop i.toNat)))
 |_,_,_,_=>False
noncomputable def J1(n:Nat)(x:Str):W->(W->Prop)->Prop
 |.obj _ b a,Q=>b[n]?=some x/\∃w,a[n]?=some w/\Q w
 |_,_=>False
noncomputable def jZ(l:List W)(a b:Option Int):List W:=(l.drop (HT.bO l.length 0 a)).take (HT.bO l.length l.length b -HT.bO l.length 0 a)
noncomputable def gi:CE->Bool
 |.aI=>true
 |_=>false
noncomputable def V6:W->(Option Int->Prop)->Prop
 |.int i,Q=>Q (some i)
 |_,_=>False
noncomputable def zQ(c:CE)(y:W)(Q:Option Int->Prop):Prop:=cond (gi c) (Q none) (V6 y Q)
noncomputable def Q0:W->Option Int->Option Int->(W->Prop)->Prop
 |.lst l,a,b,Q=>Q (.lst (jZ l a b))
 |.di c,a,b,Q=>Q (.lst (jZ (c.map W.int) a b))
 |_,_,_,_=>False
noncomputable def El:W->Option Int->Option Int->(W->Prop)->Prop
 |.str x,a,b,Q=>x.length<=sizeLine/\Q (.str (tx (oA x.cps.toList a b)))
 |.tup l,a,b,Q=>¬(HT.bO l.length 0 a=0/\HT.bO l.length l.length b=l.length)/\Q (.tup (jZ l a b))
 |_,_,_,_=>False
noncomputable def V7:W->Option String
 |.aI=>some "NoneType"
 |.bl _=>some "bool"
 |.int _=>some "int"
 |.str _=>some "str"
 |.lst _=>some "list"
 |.tup _=>some "tuple"
 |_=>none
noncomputable def uY(a b:String):Bool:=a==b||(a=="bool"&&b=="int")
noncomputable def ly:BI->List W->(W->Prop)->Prop
 |.len,[.lst l],Q=>Q (.int l.length)
 |.len,[.tup l],Q=>Q (.int l.length)
 |.len,[.di c],Q=>Q (.int c.length)
 |.len,[.str x],Q=>x.length<=sizeLine/\Q (.int x.length)
 |.abs,[.int i],Q=>Q (.int (if i<0 then-i else i))
 |.max2,[.int i,.int j],Q=>Q (.int (if j>i then j else i))
 |.max2,[.lst l],Q=>∃c:List Int,l=c.map W.int/\c≠[]/\∀m∈c,(∀n∈c,n<=m)->Q (.int m)
 |.min2,[.int i,.int j],Q=>Q (.int (if j<i then j else i))
 |.min2,[.lst l],Q=>∃c:List Int,l=c.map W.int/\c≠[]/\∀m∈c,(∀n∈c,m<=n)->Q (.int m)
 |.sum,[.lst l],Q=>∃c:List Int,l=c.map W.int/\Q (.int c.sum)
 |.all,[.lst l],Q=>∃d:List Bool,l=d.map W.bl/\Q (.bl (d.all id))
 |.any,[.lst l],Q=>∃d:List Bool,l=d.map W.bl/\Q (.bl (d.any id))
 |.list,[.lst l],Q=>Q (.lst l)
 |.list,[.tup l],Q=>Q (.lst l)
 |.tuple,[.lst l],Q=>Q (.tup l)
 |.tuple,[.tup l],Q=>Q (.tup l)
 |.zO,[w,.ty n],Q=>∃a,V7 w=some a/\Q (.bl (uY a n))
 |.int,[.bl b],Q=>Q (.int (if b then 1 else 0))
 |.int,[.str x],Q=>∃n,PySem.intText? x=some n/\x.length<=640/\Q (.int n)
 |.str,[.int i],Q=>i.natAbs.log2<1920/\Q (.str (toString i))
 |.str,[.str x],Q=>Q (.str x)
 |.QZ,[.int i,.int j],Q=>(0<j/\j<1073741824)/\Q (.tup [.int (i/j),.int (i%j)])
 |_,_,_=>False
noncomputable def J2(j:Str):W->Bool
 |.str i=>decide (i=j)
 |_=>false
noncomputable def sH(j:Str)(a:List W):List W:=if a.any (J2 j)=true then a else a++[.str j]
noncomputable def sI(j:Str)(u:W)(b a:List W):List W:=if b.any (J2 j)=true then QY (λx w=>if J2 j x=true then u else w) b a else a++[u]
noncomputable def jo(j:Str):List Str->List Int->Option Int
 |x::b,w::a=>if x=j then some w else jo j b a
 |_,_=>none
noncomputable def bU(a:Ev):List Nat->List W->Ev
 |i::c,w::b=>bU (a.set i (some w)) c b
 |_,_=>a
noncomputable def wT(b:Bool)(a:List Nat)(w:W)(c:Ev)(Q:Ev->Prop):Prop:=
 match b,a,w with
 |true,[i],w=>Q (c.set i (some w))
 |false,a,.tup l=>l.length=a.length/\Q (bU c a l)
 |_,_,_=>False
noncomputable def lA(f:W->(Option W->Prop)->Prop):List W->List W->(List W->Prop)->Prop
 |[],acc,Q=>Q acc
 |w::a,acc,Q=>f w λr=>match r with
  |some y=>acc.length<sizeLine/\lA f a (acc++[y]) Q
  |none=>lA f a acc Q
noncomputable def truth:W->(Bool->Prop)->Prop
 |.bl b,Q=>Q b
 |_,_=>False
noncomputable def items:W->(List W->Prop)->Prop
 |.lst l,Q=>Q l
 |.tup l,Q=>Q l
 |_,_=>False
noncomputable def gr(a st:Int)(n:Nat):List W:=(Ea n).map λ(i:Nat)=>W.int (a+(i:Int)*st)
noncomputable def Em:List W->(List W->Prop)->Prop
 |[.int j],Q=> -(2^62)<=j/\j<2^62/\Q (gr 0 1 j.toNat)
 |[.int i,.int j],Q=>(-(2^62)<=i/\i<2^62/\-(2^62)<=j/\j<2^62)/\Q (gr i 1 (j -i).toNat)
 |[.int i,.int j,.int k],Q=>∃n:Nat,(k≠0/\k.natAbs<1073741824/\Builtin.Range.small i j k=true/\Builtin.Range.rangeSize i j k=(n:Int))/\Q (gr i k n)
 |_,_=>False
mutual
noncomputable def Dc:W->Bool
 |.aI=>true
 |.bl _=>true
 |.int _=>true
 |.str _=>true
 |.tup l=>Bk l
 |_=>false
noncomputable def Bk:List W->Bool
 |[]=>true
 |w::l=>Dc w&&Bk l
end
mutual
noncomputable def flat:Md->W->Bool
 |.s,w=>Dc w
 |.f,w=>match w with
  |.lst l=>Bk l
  |_=>false
 |.t a,w=>match w with
  |.tup l=>wm a l
  |_=>false
 |.o _ _,_=>false
 |.io _,_=>false
 |.d,_=>false
 |.ls _,_=>false
noncomputable def wm:List Md->List W->Bool
 |[],l=>l.isEmpty
 |m::a,l=>match l with
  |w::l=>flat m w&&wm a l
  |[]=>false
end
abbrev aW:=List W->(W->Prop)->(Addr->Prop)->Prop
noncomputable def J3:W->Bool
 |.aI|.bl _|.int _|.str _=>true
 |_=>false
section
variable(Φ:Nat->aW)(G:Nat->W)
mutual
noncomputable def wE(R:Addr->Prop):CE->Ev->(W->Prop)->Prop
 |.var i,d,Q=>match look d i with
  |some w=>Q w
  |none=>False
 |.int i,_,Q=>Q (.int i)
 |.bl b,_,Q=>Q (.bl b)
 |.str x,_,Q=>Q (.str x)
 |.aI,_,Q=>Q .aI
 |.Bg n,_,Q=>Q (.ty n)
 |.glob g,_,Q=>Q (G g)
 |.bin op a b,d,Q=>wE R a d λx=>wE R b d λy=>eu op x y Q
 |.neg a,d,Q=>wE R a d λx=>match x with
  |.int i=>Q (.int (-i))
  |_=>False
 |.not a,d,Q=>wE R a d λx=>truth x λb=>Q (.bl (!b))
 |.cmp op a b,d,Q=>wE R a d λx=>wE R b d λy=>dz op x y Q
 |.and o,d,Q=>xX R o d Q
 |.or o,d,Q=>M1 R o d Q
 |.tup o,d,Q=>wA R o d λm=>m.length<=sizeLine/\Q (.tup m)
 |.lst o,d,Q=>wA R o d λm=>m.length<=sizeLine/\Q (.lst m)
 |.ix a i,d,Q=>wE R a d λx=>wE R i d λy=>HW x y Q
 |.sl a r s,d,Q=>wE R a d λx=>wE R r d λy=>zQ r y λl=>wE R s d λz=>zQ s z λh=>Q0 x l h Q
 |.call f o,d,Q=>wA R o d λm=>Φ f m Q R
 |.blt b o,d,Q=>wA R o d λm=>ly b m Q
 |.comp v one n A c e,d,Q=>wE R A d λz=>items z λm=>lA (λw K=>wT one v w (A0 n none++d) λq=>wE (λ_=>False) c q λx=>truth x λk=>if k=true then wE (λ_=>False) e q λy=>K (some y)else K none) m [] λl=>Q (.lst l)
 |.p9 o,d,Q=>wA R o d λm=>Em m λl=>Q (.lst l)
 |.own i π,d,Q=>match look d i with
  |some w=>match bz w π with
   |some u=>Q u
   |none=>False
  |none=>False
 |.wk _ a,d,Q=>wE R a d λw=>J3 w=true/\Q w
 |.i9 _ _ _ _,_,_=>False
 |.slt a r s,d,Q=>wE R a d λx=>wE R r d λy=>zQ r y λl=>wE R s d λz=>zQ s z λh=>El x l h Q
 |.M9 a b c,d,Q=>wE R a d λx=>O2 x=true/\wE R b d λy=>wE R c d λz=>J0 x y z Q
 |.JW a n x,d,Q=>wE R a d λw=>J1 n x w Q
 |.pM g f a,d,Q=>wE R a d λx=>match x with
  |.obj C B m=>G g=.cls C/\Φ f [.obj C B m] Q R
  |_=>False
 |.JX i,d,Q=>match look d i with
  |some (.dct t vs)=>∃xs:List Str,t=xs.map W.str/\xs.length<64/\∀p:List Str,p.Perm xs->P9 p=true->Q (.lst (p.map W.str))
  |_=>False
 |.JY a,d,Q=>wE R a d λx=>match x with
  |.lst l=>∃xs:List Str,l=xs.map W.str/\xs.length<64/\∀p:List Str,p.Nodup->(∀z,z∈p↔z∈xs)->P9 p=true->Q (.lst (p.map W.str))
  |_=>False
 |.Na t vs k,d,Q=>wE R k d λx=>match x with
  |.str j=>∃n,jo j t vs=some n/\Q (.int n)
  |_=>False
noncomputable def wA(R:Addr->Prop):List CE->Ev->(List W->Prop)->Prop
 |[],_,Q=>Q []
 |a::c,b,Q=>wE R a b λx=>wA R c b λxs=>Q (x::xs)
noncomputable def xX(R:Addr->Prop):List CE->Ev->(W->Prop)->Prop
 |[],_,_=>False
 |a::e,c,Q=>match e with
  |[]=>wE R a c Q
  |b::d=>wE R a c λx=>truth x λk=>if k=true then xX R (b::d) c Q else Q (.bl false)
noncomputable def M1(R:Addr->Prop):List CE->Ev->(W->Prop)->Prop
 |[],_,_=>False
 |a::e,c,Q=>match e with
  |[]=>wE R a c Q
  |b::d=>wE R a c λx=>truth x λk=>if k=true then Q (.bl true)else M1 R (b::d) c Q
end
structure Dn where
 nx:Ev->Prop
 rt:W->Prop
 bk:Ev->Prop
 ct:Ev->Prop
 ex:Addr->Prop
mutual
noncomputable def wP(R:Addr->Prop):CE->Ev->(W->Ev->Prop)->Prop
 |.i9 i g f h,c,Q=>match look c i with
  |some (.obj C _ _)=>G g=.cls C/\GO R h c λj d=>match look d i with
   |some m=>Φ f (m::j) (λr=>∃w y,r=.tup [w,y]/\Q w (d.set i (some y))) R
   |none=>False
  |_=>False
 |.bin op a b,c,Q=>wP R a c λx l=>wP R b l λy k=>eu op x y λz=>Q z k
 |.cmp op a b,c,Q=>wP R a c λx l=>wP R b l λy k=>dz op x y λz=>Q z k
 |.call f h,c,Q=>GO R h c λj d=>Φ f j (λw=>Q w d) R
 |.blt b h,c,Q=>GO R h c λj d=>ly b j λw=>Q w d
 |.ix a b,c,Q=>wP R a c λx l=>wP R b l λy k=>HW x y λz=>Q z k
 |.lst h,c,Q=>GO R h c λj d=>j.length<=sizeLine/\Q (.lst j) d
 |.tup h,c,Q=>GO R h c λj d=>j.length<=sizeLine/\Q (.tup j) d
 |.and h,c,Q=>vN R h c Q
 |.or h,c,Q=>Dj R h c Q
 |e,c,Q=>wE Φ G R e c λw=>Q w c
noncomputable def GO(R:Addr->Prop):List CE->Ev->(List W->Ev->Prop)->Prop
 |[],b,Q=>Q [] b
 |a::e,b,Q=>wP R a b λx d=>GO R e d λxs c=>Q (x::xs) c
noncomputable def vN(R:Addr->Prop):List CE->Ev->(W->Ev->Prop)->Prop
 |[],_,_=>False
 |a::f,d,Q=>match f with
  |[]=>wP R a d Q
  |b::e=>wP R a d λx c=>truth x λk=>if k=true then vN R (b::e) c Q else Q (.bl false) c
noncomputable def Dj(R:Addr->Prop):List CE->Ev->(W->Ev->Prop)->Prop
 |[],_,_=>False
 |a::f,d,Q=>match f with
  |[]=>wP R a d Q
  |b::e=>wP R a d λx c=>truth x λk=>if k=true then Q (.bl true) c else Dj R (b::e) c Q
end
noncomputable def ig(b:W->Dn->Ev->Prop)(D:Dn):List W->Ev->Prop
 |[],a=>D.nx a
 |w::c,a=>b w {nx:=ig b D c,rt:=D.rt,bk:=D.nx,ct:=ig b D c,ex:=λ_=>False} a
noncomputable def O3(c:Ev->(Bool->Ev->Prop)->Prop)(b:Dn->Ev->Prop)(D:Dn)(d:Ev):Prop:=
 ∃J:Nat->Ev->Prop,(∃m,J m d)/\∀m d,J m d->c d λk f=>if k=true then∃N:Ev->Prop,(∀a,N a->∃e,e<m/\J e a)/\b {nx:=N,rt:=D.rt,bk:=D.nx,ct:=N,ex:=λ_=>False} f else D.nx f
noncomputable def J5(c:Ev->(Bool->Prop)->Prop)(b:Dn->Ev->Prop)(D:Dn)(a:Ev):Prop:=
 ∃J:Nat->Ev->Prop,(∃m,J m a)/\∀m a,J m a->c a λk=>if k=true then∃N:Ev->Prop,(∀d,N d->∃e,e<m/\J e d)/\b {nx:=N,rt:=D.rt,bk:=D.nx,ct:=N,ex:=λ_=>False} a else D.nx a
mutual
noncomputable def wS:CS->Dn->Ev->Prop
 |.set i e,D,d=>wE Φ G D.ex e d λw=>D.nx (d.set i (some w))
 |.OP m e,D,d=>wE Φ G D.ex e d λw=>match w with
  |.tup l=>l.length=m.length/\D.nx (bU d m l)
  |_=>False
 |.par m es,D,d=>wA Φ G D.ex es d λg=>g.length=m.length/\D.nx (bU d m g)
 |.app i e,D,d=>match look d i with
  |some (.lst l)=>wE Φ G D.ex e d λw=>l.length<sizeLine/\D.nx (d.set i (some (.lst (l++[w]))))
  |_=>False
 |.qy j e,D,d=>wP Φ G D.ex e d λw f=>D.nx (f.set j (some w))
 |.ret e,D,d=>wE Φ G D.ex e d D.rt
 |.iff c a b,D,d=>wE Φ G D.ex c d λx=>truth x λk=>if k=true then wSs a D d else wSs b D d
 |.Nb c b,D,d=>J5 (λd Q=>wE Φ G (λ_=>False) c d λx=>truth x Q) (wSs b) D d
 |.fr m one s b,D,d=>wE Φ G (λ_=>False) s d λz=>items z λg=>ig (λw u f=>wT one m w f λt=>wSs b u t) D g d
 |.brk,D,d=>D.bk d
 |.HR i π e,D,d=>match look d i with
  |some h=>match bz h π with
   |some (.lst l)=>wE Φ G D.ex e d λw=>l.length<sizeLine/\D.nx (d.set i (some (setAt h π (.lst (l++[w])))))
   |_=>False
  |none=>False
 |.Bh i n e,D,d=>wE Φ G D.ex e d λw=>match look d i with
  |some (.obj C o g)=>n<g.length/\D.nx (d.set i (some (.obj C o (g.set n w))))
  |_=>False
 |.HS e,D,d=>wE Φ G D.ex e d λw=>match look d 0 with
  |some h=>D.rt (.tup [w,h])
  |none=>False
 |.zP e,D,d=>wP Φ G D.ex e d λ_ f=>D.nx f
 |.Nc c a b,D,d=>wP Φ G D.ex c d λx f=>truth x λk=>if k=true then wSs a D f else wSs b D f
 |.OQ c b,D,d=>O3 (λd Q=>wP Φ G (λ_=>False) c d λx f=>truth x λk=>Q k f) (wSs b) D d
 |.yK,_,_=>False
 |.OR i,D,d=>D.nx (d.set i (some (.dct [] [])))
 |.M6 i π e,D,d=>match look d i with
  |some h=>match bz h π with
   |some (.lst l)=>wE Φ G D.ex e d λw=>match w with
    |.lst r=>l.length+r.length<=sizeLine/\D.nx (d.set i (some (setAt h π (.lst (l++r)))))
    |_=>False
   |_=>False
  |none=>False
 |.OS i,D,d=>match look d i with
  |some (.lst l)=>D.nx (d.set i (some (.lst l.reverse)))
  |_=>False
 |.OT i n e,D,d=>match look d i with
  |some (.obj C o g)=>∃l,g[n]?=some (.lst l)/\∀a:Addr,wP Φ G D.ex e (d.set i (some (.obj C o (g.set n (.cls a))))) λw f=>∃q,look f i=some (.obj C o q)/\q[n]?=some (.cls a)/\l.length<sizeLine/\D.nx (f.set i (some (.obj C o (q.set n (.lst (l++[w]))))))
  |_=>False
 |.OU c a b,D,d=>wP Φ G D.ex c d λx f=>truth x λk=>if(!k)=true then wSs a D f else wSs b D f
 |.OV i k e,D,d=>wE Φ G D.ex e d λw=>match look d i with
  |some (.dct p vs)=>wE Φ G D.ex k d λx=>match x with
   |.str j=>p.length<sizeLine/\D.nx (d.set i (some (.dct (sH j p) (sI j w p vs))))
   |_=>False
  |_=>False
 |.JZ _ b,D,d=>wSs b {D with nx:=λ_=>False,bk:=λ_=>False,ct:=λ_=>False} d
noncomputable def wSs:List CS->Dn->Ev->Prop
 |[],D,a=>D.nx a
 |s::c,D,a=>match c with
  |[]=>wS s D a
  |t::b=>wS s {D with nx:=wSs (t::b) D} a
end
end
noncomputable def aT(K:Frag)(B:Addr->Prop)(H:Hp)(w:W)(v:V):Prop:=
 match w with
 |.lst l=>∃p a,v=.ref p/\Rz H p (.lst a)/\af K B H l a
 |w=>Rep K B H w v
section
variable{K:Frag}{A B:Addr->Prop}{H H':Hp}{w:W}{v:V}
theorem Rep.b(h:Rep K B H w v):aT K B H w v:=by
 cases w with
 |lst l=>obtain⟨p,a,e,_,d,c⟩:=h;exact⟨p,a,e,d,c⟩
 |_=>exact h
theorem aT.same(s:au H H')(h:aT K B H w v):aT K B H' w v:=by
 cases w with
 |lst l=>obtain⟨p,a,e,c,b⟩:=h;exact⟨p,a,e,VL.au.rz s c,b.same s⟩
 |_=>exact Rep.same s h
theorem aT.lst{l:List W}(h:aT K B H (.lst l) v):∃p vs,v=.ref p/\Rz H p (.lst vs)/\af K B H l vs:=h
theorem aT.O4{l:List W}(h:aT K B H (.tup l) v):∃p vs,v=.ref p/\H p=some (.tup vs)/\af K B H l vs:=by have h:Rep K B H (.tup l) v:=h;dsimp only[Rep]at h;exact h
theorem aT.tup{l:List W}(h:aT K B H (.tup l) v):∃p vs,v=.ref p/\iB K H p vs/\af K B H l vs:=by have h:Rep K B H (.tup l) v:=h;obtain⟨p,vs,e,b,a⟩:=h;exact⟨p,vs,e,iB.of b,a⟩
theorem aT.int{i:Int}(h:aT K B H (.int i) v):v=.int i:=by have h:Rep K B H (.int i) v:=h;dsimp only[Rep]at h;exact h
theorem aT.bl{i:Bool}(h:aT K B H (.bl i) v):v=.bl i:=by have h:Rep K B H (.bl i) v:=h;dsimp only[Rep]at h;exact h
theorem aT.str{i:Str}(h:aT K B H (.str i) v):v=.str i:=by have h:Rep K B H (.str i) v:=h;dsimp only[Rep]at h;exact h
theorem aT.aI(h:aT K B H .aI v):v=.aI:=by have h:Rep K B H .aI v:=h;dsimp only[Rep]at h;exact h
theorem aT.ty{n:String}(h:aT K B H (.ty n) v):v=.ty n:=by have h:Rep K B H (.ty n) v:=h;dsimp only[Rep]at h;exact h
theorem dj(i:Int):Rep K B H (.int i) (.int i):=by dsimp only[Rep]
theorem pN(i:Bool):Rep K B H (.bl i) (.bl i):=by dsimp only[Rep]
theorem oE(i:Str):Rep K B H (.str i) (.str i):=by dsimp only[Rep]
theorem O5:Rep K B H .aI .aI:=by dsimp only[Rep]
theorem V8(n:String):Rep K B H (.ty n) (.ty n):=by dsimp only[Rep]
theorem qz{l:List W}{p:Addr}{vs:List V}(b:H p=some (.tup vs))(a:af K B H l vs):Rep K B H (.tup l) (.ref p):=by dsimp only[Rep];exact⟨p,vs,rfl,b,a⟩
end
abbrev KP:=W->Prop
noncomputable def Cont(K:Frag)(B:Addr->Prop)(H:Hp)(m:Md)(P:KP)(Q:VK):Prop:=∀w v a,P w->au H a->cD K B H a m w v->Q v a
theorem Cont.now{K:Frag}{B:Addr->Prop}{H:Hp}{P:KP}{Q:VK}(c:Cont K B H .s P Q){w:W}{v:V}(p:P w)(h:Rep K B H w v):Q v H:=c w v H p (au.refl H) (.of h)
theorem Cont.s{K:Frag}{B:Addr->Prop}{H:Hp}{m:Md}{P:KP}{Q:VK}(d:Dom B H)(c:Cont K B H .s P Q):Cont K B H m P Q:=λw v b p a h=>c w v b p a (h.s d)
noncomputable def zR(X:Cx)(f:Value->Value->Sem Value)(r:W->W->KP->Prop)(m:W->W->Md):Prop:=
 ∀(a:List (Addr×Obj))(s:Shared)(b:St)(H:Hp)(B:Addr->Prop)(x y:W)(d c:V)(v u:Value)(P:KP)(Q:VK),Inv X a b H s->Dom B H->RelV d v->RelV c u->aT X.K B H x d->aT X.K B H y c->r x y P->Cont X.K B H (m x y) P Q->
  wpAny (model X.prog X.w) X.A (f v u) (EP X a b Q) X.xe s
section
variable{X:Cx}
theorem En:i7 X (binaryOp .Add) (λx y H Q=>∃l b xs d,x=.ref l/\y=.ref b/\Rd H l (.lst xs)/\Rd H b (.lst d)/\xs.length+d.length<=sizeLine/\∀p,H p=none->Q (.ref p) (upd H p (.lst (xs++d)))):=by
 intro g s A H x y v u Q I j i h;obtain⟨l,b,xs,d,rfl,rfl,m,o,hz,q⟩:=h;cases j;cases i;obtain⟨z,c,n,r,e⟩:=m.ok I.hok;obtain⟨B,a,C,f,w⟩:=o.ok I.hok;have D:=r.length;have k:=f.length;refine PySem.P.add_list e w ?_ (by rw[Fs,Fs];lia);have t:c.toArray++a.toArray=(c++a).toArray:=by simp
 rw[t];exact⟨.ref _,_,I.Ox (t':=s.toks) (r.append f) (by rw[Dx];lia),rfl,q _ I.fresh⟩
theorem Eo:i7 X (binaryOp .Mult) (λx y H Q=>∃l k xs,x=.ref l/\y=.int k/\Rd H l (.lst xs)/\-(2^63)<=k/\k<2^63/\xs.length*k.toNat<=sizeLine/\∀p,H p=none->Q (.ref p) (upd H p (.lst (A0 k.toNat xs).flatten))):=by
 intro o s M H x y v u Q I B A h;obtain⟨l,k,xs,rfl,rfl,D,J,E,hz,q⟩:=h;cases B;obtain⟨t,rfl⟩:=A;obtain⟨z,b,n,r,e⟩:=D.ok I.hok;have C:=r.length;have d:b.toArray.size*k.toNat<=sizeLine:=by rw[Fs,<-C];exact hz
 have g:¬b.toArray.size*k.toNat>(2^63 -1)/8:=by
  have:(sizeLine:Nat)<=(2^63 -1)/8:=by decide
  lia
 have f:¬(!Builtin.List.listFitsIndex k)=true:=by rw[fitsIndex_both J E];exact Fh
 have L:¬Builtin.List.listTooLong (b.toArray.size*k.toNat)=true:=by rw[r6 d];exact Fh
 have c:Sj (λj i=>j++i) #[] (A0 (if b.toArray.isEmpty=true then 0 else k.toNat) b.toArray)=(A0 k.toNat b).flatten.toArray:=by
  have K:∀m:Nat,Sj (λj i=>j++i) #[] (A0 m b.toArray)=(A0 m b).flatten.toArray:=λm=>by have:=foldl_rep b m [];rw[Jl]at this;exact this
  rw[K];cases b with
  |nil=>simp
  |cons a N=>rw[Da (by simp)]
 refine wpAny_binaryOp_repeat_ref (T:="list") (U:="int") (by decide) ⟨_,e,rfl⟩ (λw=>typeIs_int w k t) noFill_list_mul F.fills_int_mul F.slot_int_rmul repeat_list F.slot_int_index.lookup
  (call_meets F.slot_int_rmul (typeIs_int s k t) F.entry_int_rmul (F.args_int_rmul_2 _ _) (int___rmul___int_list k t l b.toArray n)
    ⟨e,rfl,⟨_,e,rfl⟩,call_meets F.slot_list_mul ⟨_,e,rfl⟩ F.entry_list_mul (F.args_list_mul_2 _ _) (AutoListH.list___mul___list_int_3 l b.toArray n k t f g L) ⟨e,?_⟩⟩)
 rw[c];exact⟨.ref _,_,I.Ox (t':=s.toks) (r.rep k.toNat) (by rw[len_rep,Nat.mul_comm];exact hz),rfl,q _ I.fresh⟩
noncomputable def Ep:W->W->Md
 |.lst _,_=>.f
 |_,_=>.s
theorem J6:zR X (binaryOp .Add) OW Ep:=by
 intro f s m H B x y N M v u P Q I d t o A w h c;cases x with
 |int i=>
  cases y with
  |int j=>
   cases A.int;cases w.int;exact Jm f s m H _ _ v u Q I t o ⟨i,j,rfl,rfl,c.now h (dj _)⟩
  |_=>exact h.elim
 |str i=>
  cases y with
  |str j=>
   cases A.str;cases w.str;exact uA f s m H _ _ v u Q I t o ⟨i,j,rfl,rfl,h.1,c.now h.2 (oE _)⟩
  |_=>exact h.elim
 |lst a=>
  cases y with
  |lst b=>obtain⟨p,n,rfl,J,g⟩:=A.lst;obtain⟨q,C,rfl,D,k⟩:=w.lst;obtain⟨F,h⟩:=h;refine En f s m H _ _ v u Q I t o ⟨p,q,n,C,rfl,rfl,J.rd,D.rd,by rw[g.len,k.len];exact F,λr l=>?_⟩;exact c _ _ _ h (aF l _) (.fresh (au.refl H) l (g.app k))
  |_=>exact h.elim
 |tup a=>
  cases y with
  |tup b=>
   obtain⟨p,n,rfl,L,g⟩:=A.O4;have J:iB X.K H p n:=iB.of L;obtain⟨q,C,rfl,D,k⟩:=w.tup;obtain⟨E,F,h⟩:=h;refine DN f s m H _ _ v u Q I t o ⟨p,q,n,C,rfl,rfl,J,D,λz=>E ?_,by rw[g.len,k.len];exact F,λz=>?_,λ_ r l=>?_⟩
   .have:=g.len;rw[z]at this;exact Jn.mp this.symm
   .have:=k.len;rw[z]at this;have e:b=[]:=Jn.mp this.symm;subst e;rw[Kx]at h;exact c.now h (qz L g)
   .exact c _ _ _ h (aF l _) (.of (qz aq ((g.app k).same (aF l _))))
  |_=>exact h.elim
 |_=>exact h.elim
theorem J7:zR X (binaryOp .Mult) OX Ep:=by
 intro b s e H B x y D C v u P Q I d g f m l h c;cases x with
 |int i=>
  cases y with
  |int j=>
   cases m.int;cases l.int;exact DX b s e H _ _ v u Q I g f ⟨i,j,rfl,rfl,h.1,c.now h.2 (dj _)⟩
  |_=>exact h.elim
 |lst a=>
  cases y with
  |int k=>obtain⟨p,t,rfl,n,q⟩:=m.lst;cases l.int;obtain⟨z,w,A,h⟩:=h;refine Eo b s e H _ _ v u Q I g f ⟨p,k,t,rfl,rfl,n.rd,z,w,by rw[q.len];exact A,λr o=>?_⟩;exact c _ _ _ h (aF o _) (.fresh (au.refl H) o (q.rep _))
  |_=>exact h.elim
 |str a=>
  cases y with
  |int k=>
   cases m.str;cases l.int;obtain⟨rfl,n,h⟩:=h;exact Eh b s e H _ _ v u Q I g f ⟨a,rfl,rfl,n,c.now h (oE _)⟩
  |_=>exact h.elim
 |_=>exact h.elim
noncomputable def mS:W->W->Md:=λ_ _=>.s
theorem J8:zR X (binaryOp .Sub) OY mS:=by
 intro a s b H B x y m l v u P Q I d f e k g h c;cases x with
 |int i=>
  cases y with
  |int j=>
   cases k.int;cases g.int;exact Jo a s b H _ _ v u Q I f e ⟨i,j,rfl,rfl,c.now h (dj _)⟩
  |_=>exact h.elim
 |_=>exact h.elim
theorem sJ{f:Value->Value->Sem Value}{C:Int->Int->Prop}{g:Int->Int->Int}(n:i7 X f (rI C λi j=>.int (g i j))):zR X f (Nd C g) mS:=by
 intro a s b H B x y p o v u P Q I d k e m l h c;cases x with
 |int i=>
  cases y with
  |int j=>
   cases m.int;cases l.int;exact n a s b H _ _ v u Q I k e ⟨i,j,rfl,rfl,h.1,c.now h.2 (dj _)⟩
  |_=>exact h.elim
 |_=>exact h.elim
noncomputable def Er:Operator->W->W->Md
 |.Add=>Ep
 |.Mult=>Ep
 |_=>mS
theorem uZ(op:Operator):zR X (binaryOp op) (eu op) (Er op):=by
 cases op with
 |Add=>exact J6
 |Sub=>exact J8
 |Mult=>exact J7
 |FloorDiv=>exact sJ AO
 |Mod=>exact sJ DC
 |Pow=>exact sJ Jp
 |LShift=>exact sJ Jq
 |RShift=>exact sJ Jr
 |_=>exact λa s b H B x y f e v u P Q I d i g k j h c=>h.elim
theorem qA{f:Value->Value->Sem Value}{p:Int->Int->Bool}(m:i7 X f (DA λi j=>.bl (p i j))):zR X f (Bj p) mS:=by
 intro a s b H B x y o n v u P Q I d g e l k h c;cases x with
 |int i=>
  cases y with
  |int j=>
   cases l.int;cases k.int;exact m a s b H _ _ v u Q I g e ⟨i,j,rfl,rfl,c.now h (pN _)⟩
  |_=>exact h.elim
 |_=>exact h.elim
end
mutual
noncomputable def toD:W->PyData
 |.aI=>.none
 |.bl b=>.bool b
 |.int i=>.int i
 |.str x=>.str x
 |.lst l=>.list (toDL l)
 |.tup l=>.tuple (toDL l)
 |_=>.none
noncomputable def toDL:List W->List PyData
 |[]=>[]
 |w::l=>toD w::toDL l
end
mutual
noncomputable def uq:W->Bool
 |.aI=>true
 |.bl _=>true
 |.int _=>true
 |.str x=>PyData.strOk x
 |.lst l=>qB l
 |.tup l=>qB l
 |_=>false
noncomputable def qB:List W->Bool
 |[]=>true
 |w::l=>uq w&&qB l
end
section
variable{X:Cx}{B:Addr->Prop}{H:Hp}
mutual
theorem O7:∀(w:W){v:V},uq w=true->Rep X.K B H w v->Dt X H v (toD w)
 |.aI,v,_,h=>by obtain rfl:=h;exact JQ
 |.bl b,v,_,h=>by obtain rfl:=h;exact OO b
 |.int i,v,_,h=>by obtain rfl:=h;exact JO i
 |.str x,v,_,h=>by obtain rfl:=h;exact JP x
 |.lst l,v,d,h=>by obtain⟨p,e,rfl,_,c,a⟩:=h;exact Bb (.inl c.rd) (wu l d a)
 |.tup l,v,d,h=>by obtain⟨p,e,rfl,c,a⟩:=h;exact JR (iB.of c) (wu l d a)
 |.ty _,_,d,_=>ff d
 |.cls _,_,d,_=>ff d
 |.err _,_,d,_=>ff d
 |.dct _ _,_,d,_=>ff d
 |.obj _ _ _,_,d,_=>ff d
 |.di _,_,d,_=>ff d
theorem wu:∀(l:List W){vs:List V},qB l=true->af X.K B H l vs->Paired (Dt X H) vs (toDL l)
 |[],vs,_,h=>by rw[h.nil_inv];exact .nil
 |w::l,vs,d,h=>by obtain⟨v,r,rfl,b,a⟩:=h.cons_inv;have d:=Iy.mp d;exact .cons (O7 w d.1 b) (wu l d.2 a)
end
theorem Es{w:W}{v:V}(d:uq w=true)(h:aT X.K B H w v):Dt X H v (toD w):=by
 cases w with
 |lst l=>obtain⟨p,c,rfl,b,a⟩:=h.lst;exact Bb (.inl b.rd) (wu l d a)
 |_=>exact O7 (B:=B) _ d h
end
mutual
theorem toD_lay:∀w:W,uq w=true->(toD w).canLay0=true
 |.aI,_=>rfl
 |.bl _,_=>rfl
 |.int _,_=>rfl
 |.str x,d=>d
 |.lst l,d=>toDL_lay l d
 |.tup l,d=>toDL_lay l d
 |.ty _,d=>ff d
 |.cls _,d=>ff d
 |.err _,d=>ff d
 |.dct _ _,d=>ff d
 |.obj _ _ _,d=>ff d
 |.di _,d=>ff d
theorem toDL_lay:∀l:List W,qB l=true->PyData.canLayAll0 (toDL l)=true
 |[],_=>rfl
 |w::l,d=>by have d:=Iy.mp d;exact Iy.mpr ⟨toD_lay w d.1,toDL_lay l d.2⟩
end
mutual
theorem toD_inj:∀x y:W,uq x=true->uq y=true->same (toD x) (toD y)=true->x=y
 |.aI,.aI,_,_,_=>rfl
 |.aI,.bl _,_,_,h=>ff h
 |.aI,.int _,_,_,h=>ff h
 |.aI,.str _,_,_,h=>ff h
 |.aI,.lst _,_,_,h=>ff h
 |.aI,.tup _,_,_,h=>ff h
 |.bl _,.aI,_,_,h=>ff h
 |.bl _,.int _,_,_,h=>ff h
 |.bl _,.str _,_,_,h=>ff h
 |.bl _,.lst _,_,_,h=>ff h
 |.bl _,.tup _,_,_,h=>ff h
 |.int _,.aI,_,_,h=>ff h
 |.int _,.bl _,_,_,h=>ff h
 |.int _,.str _,_,_,h=>ff h
 |.int _,.lst _,_,_,h=>ff h
 |.int _,.tup _,_,_,h=>ff h
 |.str _,.aI,_,_,h=>ff h
 |.str _,.bl _,_,_,h=>ff h
 |.str _,.int _,_,_,h=>ff h
 |.str _,.lst _,_,_,h=>ff h
 |.str _,.tup _,_,_,h=>ff h
 |.lst _,.aI,_,_,h=>ff h
 |.lst _,.bl _,_,_,h=>ff h
 |.lst _,.int _,_,_,h=>ff h
 |.lst _,.str _,_,_,h=>ff h
 |.lst _,.tup _,_,_,h=>ff h
 |.tup _,.aI,_,_,h=>ff h
 |.tup _,.bl _,_,_,h=>ff h
 |.tup _,.int _,_,_,h=>ff h
 |.tup _,.str _,_,_,h=>ff h
 |.tup _,.lst _,_,_,h=>ff h
 |.bl a,.bl b,_,_,h=>Kt _ (eq_of_beq h)
 |.int a,.int b,_,_,h=>Kt _ (eq_of_beq h)
 |.str a,.str b,_,_,h=>Kt _ (eq_of_beq h)
 |.lst a,.lst b,d,e,h=>Kt _ (toDL_inj a b d e h)
 |.tup a,.tup b,d,e,h=>Kt _ (toDL_inj a b d e h)
 |.ty _,_,d,_,_=>ff d
 |.cls _,_,d,_,_=>ff d
 |.err _,_,d,_,_=>ff d
 |.dct _ _,_,d,_,_=>ff d
 |.obj _ _ _,_,d,_,_=>ff d
 |.di _,_,d,_,_=>ff d
 |_,.ty _,_,d,_=>ff d
 |_,.cls _,_,d,_=>ff d
 |_,.err _,_,d,_=>ff d
 |_,.dct _ _,_,d,_=>ff d
 |_,.obj _ _ _,_,d,_=>ff d
 |_,.di _,_,d,_=>ff d
theorem toDL_inj:∀x y:List W,qB x=true->qB y=true->sameAll (toDL x) (toDL y)=true->x=y
 |[],[],_,_,_=>rfl
 |[],_::_,_,_,h=>ff h
 |_::_,[],_,_,h=>ff h
 |x::xs,y::a,d,e,h=>by have d:=Iy.mp d;have e:=Iy.mp e;have h:=Iy.mp h;rw[toD_inj x y d.1 e.1 h.1,toDL_inj xs a d.2 e.2 h.2]
end
mutual
theorem toD_refl:∀x:W,uq x=true->same (toD x) (toD x)=true
 |.aI,_=>rfl
 |.bl a,_=>Pm a
 |.int a,_=>Pm a
 |.str a,_=>Pm a
 |.lst a,d=>toDL_refl a d
 |.tup a,d=>toDL_refl a d
 |.ty _,d=>ff d
 |.cls _,d=>ff d
 |.err _,d=>ff d
 |.dct _ _,d=>ff d
 |.obj _ _ _,d=>ff d
 |.di _,d=>ff d
theorem toDL_refl:∀x:List W,qB x=true->sameAll (toDL x) (toDL x)=true
 |[],_=>rfl
 |x::xs,d=>by have d:=Iy.mp d;exact Iy.mpr ⟨toD_refl x d.1,toDL_refl xs d.2⟩
end
theorem toD_same(x y:W)(d:uq x=true)(e:uq y=true):same (toD x) (toD y)=true↔x=y:=⟨toD_inj x y d e,by rintro rfl;exact toD_refl x d⟩
theorem toDL_map:∀l:List W,toDL l=l.map toD
 |[]=>rfl
 |w::l=>Kt (toD w::·) (toDL_map l)
theorem mV:∀l:List W,qB l=l.all uq
 |[]=>rfl
 |w::l=>Kt (uq w&&·) (mV l)
theorem sL:∀(n:Nat)(w:W),(kM n w=true\/HU n w=true)->uq w=true/\(toD w).depth<=n+1
 |n,.aI,_=>⟨rfl,L9 _⟩
 |n,.bl _,_=>⟨rfl,L9 _⟩
 |n,.int _,_=>⟨rfl,L9 _⟩
 |n,.str x,h=>by
  have:PyData.strOk x=true:=by
   rcases h with h|h
   .cases n<;>exact h
   .cases n<;>exact h
  exact⟨this,L9 _⟩
 |0,.lst l,h=>h.elim ff ff
 |0,.tup l,h=>h.elim ff ff
 |n+1,.lst l,h=>by
  have b:∀w∈l,uq w=true/\(toD w).depth<=n+1:=λw a=>by
   refine sL n w ?_;rcases h with h|h
   .exact .inl (Hb.mp h w a)
   .exact .inr (Hb.mp h w a)
  refine⟨(mV l).trans (Hb.mpr λw a=>(b w a).1),?_⟩;dsimp only[toD];rw[toDL_map];exact Ol (sD λx c=>by obtain⟨w,a,rfl⟩:=Hn.mp c;exact(b w a).2)
 |n+1,.tup l,h=>by
  have b:∀w∈l,uq w=true/\(toD w).depth<=n+1:=λw a=>by
   refine sL n w ?_;rcases h with h|h
   .exact .inl (Hb.mp h w a)
   .exact .inr (Hb.mp h w a)
  refine⟨(mV l).trans (Hb.mpr λw a=>(b w a).1),?_⟩;dsimp only[toD];rw[toDL_map];exact Ol (sD λx c=>by obtain⟨w,a,rfl⟩:=Hn.mp c;exact(b w a).2)
 |0,.ty _,h=>h.elim ff ff
 |0,.cls _,h=>h.elim ff ff
 |0,.err _,h=>h.elim ff ff
 |0,.dct _ _,h=>h.elim ff ff
 |0,.obj _ _ _,h=>h.elim ff ff
 |0,.di _,h=>h.elim ff ff
 |n+1,.ty _,h=>h.elim ff ff
 |n+1,.cls _,h=>h.elim ff ff
 |n+1,.err _,h=>h.elim ff ff
 |n+1,.dct _ _,h=>h.elim ff ff
 |n+1,.obj _ _ _,h=>h.elim ff ff
 |n+1,.di _,h=>h.elim ff ff
inductive wz(b:Bool):PyData->Prop where
 |none:wz b .none
 |str (x:Str):wz b (.str x)
 |bool (x:Bool) (h:b=true):wz b (.bool x)
 |int (x:Int) (h:b=false):wz b (.int x)
 |list {l:List PyData} (h:∀x∈l,wz b x):wz b (.list l)
 |tuple {l:List PyData} (h:∀x∈l,wz b x):wz b (.tuple l)
mutual
theorem lR{b:Bool}:∀d e:PyData,wz b d->wz b e->SeqAt.noMix d e=true
 |.list xs,.list a,h,k=>by
  cases h with
  |list h=>
   cases k with
   |list k=>rw[SeqAt.noMix];exact mW xs a h k
 |.tuple xs,.tuple a,h,k=>by
  cases h with
  |tuple h=>
   cases k with
   |tuple k=>rw[SeqAt.noMix];exact mW xs a h k
 |.bool _,.int _,h,k=>by
  cases h with
  |bool _ h=>
   cases k with
   |int _ k=>rw[h]at k;cases k
 |.int _,.bool _,h,k=>by
  cases h with
  |int _ h=>
   cases k with
   |bool _ k=>rw[h]at k;exact ff k
 |.dict _,_,h,_=>by cases h
 |.none,.none,_,_=>by simp[SeqAt.noMix]
 |.none,.bool _,_,_=>by simp[SeqAt.noMix]
 |.none,.int _,_,_=>by simp[SeqAt.noMix]
 |.none,.str _,_,_=>by simp[SeqAt.noMix]
 |.none,.list _,_,_=>by simp[SeqAt.noMix]
 |.none,.tuple _,_,_=>by simp[SeqAt.noMix]
 |.none,.dict _,_,_=>by simp[SeqAt.noMix]
 |.bool _,.none,_,_=>by simp[SeqAt.noMix]
 |.bool _,.bool _,_,_=>by simp[SeqAt.noMix]
 |.bool _,.str _,_,_=>by simp[SeqAt.noMix]
 |.bool _,.list _,_,_=>by simp[SeqAt.noMix]
 |.bool _,.tuple _,_,_=>by simp[SeqAt.noMix]
 |.bool _,.dict _,_,_=>by simp[SeqAt.noMix]
 |.int _,.none,_,_=>by simp[SeqAt.noMix]
 |.int _,.int _,_,_=>by simp[SeqAt.noMix]
 |.int _,.str _,_,_=>by simp[SeqAt.noMix]
 |.int _,.list _,_,_=>by simp[SeqAt.noMix]
 |.int _,.tuple _,_,_=>by simp[SeqAt.noMix]
 |.int _,.dict _,_,_=>by simp[SeqAt.noMix]
 |.str _,.none,_,_=>by simp[SeqAt.noMix]
 |.str _,.bool _,_,_=>by simp[SeqAt.noMix]
 |.str _,.int _,_,_=>by simp[SeqAt.noMix]
 |.str _,.str _,_,_=>by simp[SeqAt.noMix]
 |.str _,.list _,_,_=>by simp[SeqAt.noMix]
 |.str _,.tuple _,_,_=>by simp[SeqAt.noMix]
 |.str _,.dict _,_,_=>by simp[SeqAt.noMix]
 |.list _,.none,_,_=>by simp[SeqAt.noMix]
 |.list _,.bool _,_,_=>by simp[SeqAt.noMix]
 |.list _,.int _,_,_=>by simp[SeqAt.noMix]
 |.list _,.str _,_,_=>by simp[SeqAt.noMix]
 |.list _,.tuple _,_,_=>by simp[SeqAt.noMix]
 |.list _,.dict _,_,_=>by simp[SeqAt.noMix]
 |.tuple _,.none,_,_=>by simp[SeqAt.noMix]
 |.tuple _,.bool _,_,_=>by simp[SeqAt.noMix]
 |.tuple _,.int _,_,_=>by simp[SeqAt.noMix]
 |.tuple _,.str _,_,_=>by simp[SeqAt.noMix]
 |.tuple _,.list _,_,_=>by simp[SeqAt.noMix]
 |.tuple _,.dict _,_,_=>by simp[SeqAt.noMix]
theorem mW{b:Bool}:∀xs a:List PyData,(∀x∈xs,wz b x)->(∀y∈a,wz b y)->SeqAt.noMixAll xs a=true
 |[],[],_,_=>by simp[SeqAt.noMixAll]
 |[],_::_,_,_=>by simp[SeqAt.noMixAll]
 |_::_,[],_,_=>by simp[SeqAt.noMixAll]
 |x::xs,y::a,h,k=>by rw[SeqAt.noMixAll,lR x y (h x Bn) (k y Bn),mW xs a (λz hz=>h z (B1 _ hz)) λz hz=>k z (B1 _ hz)];rfl
end
theorem j3:∀(n:Nat)(w:W),kM n w=true->wz false (toD w)
 |n,.aI,_=>.none
 |n,.int i,_=>.int i rfl
 |n,.str x,_=>.str x
 |n,.bl _,h=>by cases n<;>exact ff h
 |n+1,.lst l,h=>by dsimp only[toD];rw[toDL_map];exact .list λx a=>by obtain⟨w,b,rfl⟩:=Hn.mp a;exact j3 n w (Hb.mp h w b)
 |n+1,.tup l,h=>by dsimp only[toD];rw[toDL_map];exact .tuple λx a=>by obtain⟨w,b,rfl⟩:=Hn.mp a;exact j3 n w (Hb.mp h w b)
 |0,.lst l,h=>ff h
 |0,.tup l,h=>ff h
 |n,.ty _,h=>by cases n<;>exact ff h
 |n,.cls _,h=>by cases n<;>exact ff h
 |n,.err _,h=>by cases n<;>exact ff h
 |n,.dct _ _,h=>by cases n<;>exact ff h
 |n,.obj _ _ _,h=>by cases n<;>exact ff h
 |n,.di _,h=>by cases n<;>exact ff h
theorem qC:∀(n:Nat)(w:W),HU n w=true->wz true (toD w)
 |n,.aI,_=>.none
 |n,.bl i,_=>.bool i rfl
 |n,.str x,_=>.str x
 |n,.int _,h=>by cases n<;>exact ff h
 |n+1,.lst l,h=>by dsimp only[toD];rw[toDL_map];exact .list λx a=>by obtain⟨w,b,rfl⟩:=Hn.mp a;exact qC n w (Hb.mp h w b)
 |n+1,.tup l,h=>by dsimp only[toD];rw[toDL_map];exact .tuple λx a=>by obtain⟨w,b,rfl⟩:=Hn.mp a;exact qC n w (Hb.mp h w b)
 |0,.lst l,h=>ff h
 |0,.tup l,h=>ff h
 |n,.ty _,h=>by cases n<;>exact ff h
 |n,.cls _,h=>by cases n<;>exact ff h
 |n,.err _,h=>by cases n<;>exact ff h
 |n,.dct _ _,h=>by cases n<;>exact ff h
 |n,.obj _ _ _,h=>by cases n<;>exact ff h
 |n,.di _,h=>by cases n<;>exact ff h
section
variable{X:Cx}
theorem qD(E:X.A.units+64<cLine)(j:Bool){a:List (Addr×Obj)}{s:Shared}{i:St}{H:Hp}{B:Addr->Prop}{x y:W}{m l:V}{v u:Value}{P:KP}{Q:VK}(I:Inv X a i H s)(r:RelV m v)(p:RelV l u)(D:aT X.K B H x m)(C:aT X.K B H y l)
 (h:((kM 9 x=true/\kM 9 y=true)\/(HU 9 x=true/\HU 9 y=true)\/(kM 60 x=true/\kM 60 y=true))/\∀b:Bool,(b=true↔x=y)->P (.bl (if j then !b else b)))(c:Cont X.K B H .s P Q):
 wpAny (model X.prog X.w) X.A (compareOp (if j then .NotEq else .Eq) v u) (EP X a i Q) X.xe s:=by
 obtain⟨k,h⟩:=h;have g:uq x=true/\(toD x).depth<=61:=by
  rcases k with h|h|h
  .exact(sL 9 x (.inl h.1)).imp id λz=>Gc z (by decide)
  .exact(sL 9 x (.inr h.1)).imp id λz=>Gc z (by decide)
  .exact sL 60 x (.inl h.1)
 have f:uq y=true/\(toD y).depth<=61:=by
  rcases k with h|h|h
  .exact(sL 9 y (.inl h.2)).imp id λz=>Gc z (by decide)
  .exact(sL 9 y (.inr h.2)).imp id λz=>Gc z (by decide)
  .exact sL 60 y (.inl h.2)
 have o:SeqAt.shaped (toD x)=true:=by unfold SeqAt.shaped;rw[toD_lay x g.1,GM (Gc g.2 (by decide))];rfl
 have n:SeqAt.shaped (toD y)=true:=by unfold SeqAt.shaped;rw[toD_lay y f.1,GM (Gc f.2 (by decide))];rfl
 have t:SeqAt.noMix (toD x) (toD y)=true:=by
  rcases k with⟨e,d⟩|⟨e,d⟩|⟨e,d⟩
  .exact lR _ _ (j3 9 x e) (j3 9 y d)
  .exact lR _ _ (qC 9 x e) (qC 9 y d)
  .exact lR _ _ (j3 60 x e) (j3 60 y d)
 have q:=h (same (toD x) (toD y)) (toD_same x y g.1 f.1);cases j with
 |true=>exact JT E a s i H _ _ v u Q I r p ⟨_,_,Es g.1 D,Es f.1 C,⟨o,n,t⟩,c.now q (pN _)⟩
 |false=>exact JS E a s i H _ _ v u Q I r p ⟨_,_,Es g.1 D,Es f.1 C,⟨o,n,t⟩,c.now q (pN _)⟩
theorem HX(p:X.A.units+64<cLine)(e:Bool):zR X (compareOp (if e then .NotEq else .Eq)) (Se e) mS:=by
 intro f s r H B x y E D v u P Q I d l g n m h c;have sc:∀a b:V,Jt a b=true->(∀k:Bool,k=decide (a=b)->Q (.bl (if e then !k else k)) H)->RelV a v->RelV b u->wpAny (model X.prog X.w) X.A (compareOp (if e then .NotEq else .Eq) v u) (EP X f r Q) X.xe s:=λa b C q z t=>by
  cases e with
  |true=>exact N9 f s r H _ _ v u Q I z t ⟨C,q _ rfl⟩
  |false=>exact N8 f s r H _ _ v u Q I z t ⟨C,q _ rfl⟩
 cases x with
 |int i=>
  cases y with
  |int j=>
   cases n.int;cases m.int;refine sc _ _ rfl (λk o=>c.now (w:=.bl (if e then !k else k)) ?_ (pN _)) l g;rw[o,show decide (V.int i=V.int j)=decide (i=j)from by simp];exact h
  |_=>exact qD p e I l g n m h c
 |str i=>
  cases y with
  |str j=>
   cases n.str;cases m.str;refine sc _ _ rfl (λk o=>c.now (w:=.bl (if e then !k else k)) ?_ (pN _)) l g;rw[o,show decide (V.str i=V.str j)=decide (i=j)from by simp];exact h
  |_=>exact qD p e I l g n m h c
 |bl i=>
  cases y with
  |bl j=>
   cases n.bl;cases m.bl;refine sc _ _ rfl (λk o=>c.now (w:=.bl (if e then !k else k)) ?_ (pN _)) l g;rw[o,show decide (V.bl i=V.bl j)=decide (i=j)from by simp];exact h
  |_=>exact qD p e I l g n m h c
 |_=>exact qD p e I l g n m h c
theorem HY(i:Bool):zR X (compareOp (if i then .IsNot else .Is)) (Sg i) mS:=by
 intro j s m H B x y n t v u P Q I d r o l C h c;have a:t=.aI->(∀k:Bool,k=decide (n=.aI)->P (.bl (if i then !k else k)))->wpAny (model X.prog X.w) X.A (compareOp (if i then .IsNot else .Is) v u) (EP X j m Q) X.xe s:=λe q=>by
  cases i with
  |true=>exact DE j s m H _ _ v u Q I r o ⟨e,c.now (q _ rfl) (pN _)⟩
  |false=>exact Ju j s m H _ _ v u Q I r o ⟨e,c.now (q _ rfl) (pN _)⟩
 cases y with
 |aI=>
  have e:=C.aI;cases x with
  |aI=>have g:=l.aI;refine a e λk f=>?_;rw[f,g];cases i<;>exact h
  |bl b=>have g:=l.bl;refine a e λk f=>?_;rw[f,g];cases i<;>exact h
  |int b=>have g:=l.int;refine a e λk f=>?_;rw[f,g];cases i<;>exact h
  |str b=>have g:=l.str;refine a e λk f=>?_;rw[f,g];cases i<;>exact h
  |lst b=>obtain⟨p,z,g,_⟩:=l.lst;refine a e λk f=>?_;rw[f,g];cases i<;>exact h
  |tup b=>obtain⟨p,z,g,_⟩:=l.tup;refine a e λk f=>?_;rw[f,g];cases i<;>exact h
  |err b=>have l:Rep X.K B H (.err b) n:=l;obtain⟨p,g,_⟩:=l;refine a e λk f=>?_;rw[f,g];cases i<;>exact h
  |_=>exact h.elim
 |_=>
  exfalso
  cases x<;>exact h
theorem sM{K:Frag}{A:Addr->Prop}{H:Hp}:∀{l:List Int}{vs:List V},af K A H (l.map W.int) vs->vs=l.map V.int
 |[],_,h=>h.nil_inv
 |i::l,vs,h=>by obtain⟨x,r,rfl,b,a⟩:=h.cons_inv;rw[sM a];have:x=.int i:=b;rw[this];rfl
theorem wB{X:Cx}{b:List (Addr×Obj)}{i:St}{H:Hp}{s:Shared}{B:Addr->Prop}{a:Int}{f:List Int}{v:V}(I:Inv X b i H s)(h:Rep X.K B H (.tup [.int a,.lst (f.map W.int)]) v):
 ∃p t q items,v=.ref p/\IsTup s.heap p #[.int a t,.ref q]/\s.heap.IsList q items/\IntsAre items.toList f:=by
 obtain⟨p,F,rfl,A,d⟩:=h;obtain⟨x,l,rfl,e,d⟩:=d.cons_inv;obtain⟨y,l,rfl,w,d⟩:=d.cons_inv;obtain rfl:=d.nil_inv;have e:x=.int a:=e;subst e;obtain⟨q,J,rfl,_,g,z⟩:=w;rw[sM z]at g;obtain⟨u,r,j,_⟩:=I.tuple (.inl (.inl A));obtain⟨c,n,⟨o2,o,C,E,_,D⟩,_⟩:=I.list (.inl g.rd);cases r with
 |cons m r=>
 cases r with
 |cons k r=>
 cases r;obtain⟨t,rfl⟩:=m;cases k;exact⟨p,t,q,c.toArray,rfl,j,⟨o2,C,E,o,D⟩,intsAre_of n⟩
theorem J9{X:Cx}(hu:X.A.units+64<cLine):zR X (compareOp .Lt) OZ mS:=by
 rintro z s U H B x y L J v u P Q I d N M R O ⟨a,b,j,g,rfl,rfl,h⟩ c;obtain⟨p,t,q,items,rfl,T,D,i1⟩:=wB I (show Rep X.K B H (.tup [.int a,.lst (j.map W.int)]) L from R);obtain⟨Z,r,Y,l,rfl,S,C,F⟩:=wB I (show Rep X.K B H (.tup [.int b,.lst (g.map W.int)]) J from O);cases N;cases M;have o:X.A.in1.units<cLine:=by show X.A.units+1<_;omega
 refine HT.Bf (c:=if a=b then HT.lexLt j g else decide (a<b)) T S ?_ (by omega) ⟨.bl (if a=b then HT.lexLt j g else decide (a<b)),H,I,rfl,c.now h (pN _)⟩;by_cases e:a=b
 .rw[FM e];have k:=Y0 (A:=X.A.in1) (s:=s) a t b r;rw[show(a==b)=true by simpa using e]at k;refine .eq k ?_;have m:=Be D C i1 F o;by_cases f:j=g
  .rw[GM f]at m;have:HT.lexLt j g=false:=by rw[f];exact mU g
   rw[this];exact .eq m .nn
  .rw[Fn f]at m;exact .ne m λi w E Q n=>HT.uX D C i1 F o n
 .rw[Da e];have k:=Y0 (A:=X.A.in1) (s:=s) a t b r;rw[show(a==b)=false by simpa using e]at k;exact .ne k λi w E Q n=>HT.rW _ _ _ _ _ _ _ _ _ _ n
theorem O8(q:X.A.units+64<cLine):zR X (compareOp .Lt) Ux mS:=by
 intro e s f H B x y k g v u P Q I d m l o n h c;cases x with
 |int i=>
  cases y with
  |int j=>exact qA (p:=λi j=>decide (i<j)) Oa e s f H B (.int i) (.int j) k g v u P Q I d m l o n h c
  |_=>exact h.elim
 |tup a=>
  cases y with
  |tup b=>exact J9 q e s f H B (.tup a) (.tup b) k g v u P Q I d m l o n h c
  |_=>exact h.elim
 |_=>exact h.elim
theorem mX{K:Frag}{A:Addr->Prop}{H:Hp}:∀{l:List Str}{vs:List V},af K A H (l.map W.str) vs->vs=l.map V.str
 |[],_,h=>h.nil_inv
 |i::l,vs,h=>by obtain⟨x,r,rfl,b,a⟩:=h.cons_inv;rw[mX a];have:x=.str i:=b;rw[this];rfl
theorem qE(i:Str):∀l:List Str,QS (.str i) (l.map V.str)=decide (i∈l)
 |[]=>rfl
 |x::l=>by
  have ih:=qE i l;unfold QS at ih⊢;rw[Ha,HB,ih];show((x==i)||_)=_;by_cases e:x=i
  .rw[IH.mpr e,GM (show i∈x::l by rw[e];exact Bn)];rfl
  .rw[Pl.mpr e,Um];exact YG.mpr ⟨B1 _,λz=>(FC.mp z).resolve_left λq=>e q.symm⟩
theorem mY:∀l:List Str,(l.map V.str).all jj=true
 |[]=>rfl
 |x::l=>mY l
theorem O9:zR X (compareOp .In) Uy mS:=by
 intro a s b H B x y z w v u P Q I d k g t m h c;cases x with
 |str i=>
  cases t.str;cases y with
  |str j=>
   cases m.str;obtain⟨n,rfl,h⟩:=h;refine yd a s b H _ _ v u Q I k g ⟨_,j,rfl,rfl,?_⟩;rw[show tx [n]=⟨#[n]⟩from rfl,PySem.StrLaws.found_one];exact c.now h (pN _)
  |lst l=>obtain⟨f,rfl,h⟩:=h;obtain⟨p,r,rfl,q,o⟩:=m.lst;have e:=mX o;subst e;refine pC a s b H _ _ v u Q I k g ⟨p,_,rfl,.inl (.inl q.rd),rfl,mY f,?_⟩;rw[qE];exact c.now h (pN _)
  |tup l=>obtain⟨f,rfl,h⟩:=h;obtain⟨p,r,rfl,q,o⟩:=m.tup;have e:=mX o;subst e;refine pC a s b H _ _ v u Q I k g ⟨p,_,rfl,.inr q,rfl,mY f,?_⟩;rw[qE];exact c.now h (pN _)
  |_=>exact h.elim
 |_=>exact h.elim
theorem qF(a:X.A.units+64<cLine)(op:CmpOp):zR X (compareOp op) (dz op) mS:=by
 cases op with
 |Eq=>exact HX a false
 |NotEq=>exact HX a true
 |Lt=>exact O8 a
 |LtE=>exact qA Oc
 |Gt=>exact qA Od
 |GtE=>exact qA Oe
 |Is=>exact HY false
 |IsNot=>exact HY true
 |In=>exact O9
 |_=>exact λb s e H B x y g f v u P Q I d j i l k h c=>h.elim
end
noncomputable def ER(X:Cx)(b:Hp)(R:Addr->Prop):Prop:=∃E:XK,Passes (iC X.prog X.w) X E/\(∀C a,R C->au b a->E (.ref C) none a)/\AU X (λC a=>R C/\au b a)
theorem yL{X:Cx}:Passes (iC X.prog X.w) X E0:=λ_ _ _ _ _ _ _ h=>by obtain⟨_,_,_,_,_,q⟩:=h;exact q.elim
theorem ER.none{X:Cx}{a:Hp}:ER X a λ_=>False:=⟨E0,yL,λ_ _ z=>z.elim,λ_ _ _ _ _ _ _ _ _ _ z=>z.1.elim⟩
abbrev RL:=(Addr->Prop)->Hp->Hp->W->V->Prop
abbrev WT:=Ev->(W->Prop)->Prop
noncomputable def Ka(K:Frag)(m:Md):RL:=λB H a w v=>cD K B H a m w v
noncomputable def Uz(K:Frag):RL:=λB _ a w v=>aT K B a w v
noncomputable def tV(X:Cx)(M:Ms)(R:Addr->Prop)(e:RL)(t:WT):TE:=λb H Q=>∃A d c P,SR X.K M A d b H c/\ER X d R/\t c P/\∀w v a,P w->au H a->e (FB A M b) H a w v->Q v a
noncomputable def UA(X:Cx)(M:Ms)(R:Addr->Prop)(t:WT):TT:=λe H Q=>∃A c a P,SR X.K M A c e H a/\ER X c R/\t a P/\∀x d,P x->au H d->∃b,x=.bl b/\Q b d
abbrev Sh:=(Addr->Prop)->Hp->List W->List V->Prop
noncomputable def UB(X:Cx)(M:Ms)(R:Addr->Prop)(g:Sh)(t:Ev->(List W->Prop)->Prop):TA:=λb H Q=>∃A f c P,SR X.K M A f b H c/\ER X f R/\t c P/\∀d e a,P d->au H a->g (FB A M b) a d e->Q e a
abbrev VE(X:Cx)(M:Ms)(R:Addr->Prop)(m:Md)(e:Expr)(t:WT):Prop:=PE X e (tV X M R (Ka X.K m) t)
abbrev VB(X:Cx)(M:Ms)(R:Addr->Prop)(e:Expr)(t:WT):Prop:=PE X e (tV X M R (Uz X.K) t)
abbrev VT(X:Cx)(M:Ms)(R:Addr->Prop)(e:Expr)(t:WT):Prop:=PT X e (UA X M R t)
noncomputable def kN(K:Frag)(B:Addr->Prop)(H:Hp):List W->List V->Prop
 |[],vs=>vs=[]
 |w::a,vs=>∃v r,vs=v::r/\aT K B H w v/\kN K B H a r
noncomputable def V9(K:Frag):Sh:=λB H a b=>af K B H a b
noncomputable def Si(K:Frag):Sh:=λB H a b=>kN K B H a b
abbrev VA(X:Cx)(M:Ms)(R:Addr->Prop)(es:List Expr)(t:Ev->(List W->Prop)->Prop):Prop:=PA X es (UB X M R (V9 X.K) t)
abbrev Nf(X:Cx)(M:Ms)(R:Addr->Prop)(es:List Expr)(t:Ev->(List W->Prop)->Prop):Prop:=PA X es (UB X M R (Si X.K) t)
theorem PE.imp{X:Cx}{e:Expr}{t t':TE}(h:PE X e t)(k:∀a H Q,t' a H Q->t a H Q):PE X e t':=λb s a H Q I w=>h b s a H Q I (k a H Q w)
theorem PT.imp{X:Cx}{e:Expr}{t t':TT}(h:PT X e t)(k:∀a H Q,t' a H Q->t a H Q):PT X e t':=λb s a H Q I w=>h b s a H Q I (k a H Q w)
theorem PW.imp{X:Cx}{e:Expr}{t t':TT}(h:PW X e t)(k:∀a H Q,t' a H Q->t a H Q):PW X e t':=λc b s a H Q I w=>h c b s a H Q I (k a H Q w)
theorem PA.imp{X:Cx}{e:List Expr}{t t':TA}(h:PA X e t)(k:∀a H Q,t' a H Q->t a H Q):PA X e t':=λc b s a H Q I w=>h c b s a H Q I (k a H Q w)
section
variable{X:Cx}{M:Ms}{R:Addr->Prop}{e a b c:Expr}{t ta tb tc:WT}{m:Md}{pos:Pos}
theorem Bl(h:VE X M R m e t):VE X M R .s e t:=PE.imp h<|by rintro l H Q ⟨A,i,d,P,S,g,p,k⟩;exact⟨A,i,d,P,S,g,p,λw v j f s r=>k w v j f s (r.s S.dom)⟩
theorem Pa(h:VE X M R m e t):VB X M R e t:=PE.imp h<|by rintro l H Q ⟨A,i,d,P,S,g,p,k⟩;exact⟨A,i,d,P,S,g,p,λw v j f s r=>k w v j f s (r.rep S.dom).b⟩
theorem Bm{i:Nat}(h:PE X e (jc i))(r:aJ M i->(i,.f)∈M):VB X M R e (λd Q=>match look d i with|some w=>Q w|none=>False):=PE.imp h<|by
 rintro x H Q ⟨A,B,d,P,S,z,p,k⟩
 revert p
 cases l:look d i with
 |none=>exact λp=>p.elim
 |some w=>
  intro p;by_cases n:aJ M i
  .obtain⟨F,O⟩:=S.ow;obtain⟨v,j,g⟩:=O.val i .f w (r n) l;obtain⟨y,q,o,rfl,rfl,_,u,s⟩:=g;exact⟨_,j,k _ _ H p (au.refl H) ⟨q,o,rfl,.inl u,s⟩⟩
  .obtain⟨v,j,g⟩:=S.sh i w n l;exact⟨v,j,k _ _ H p (au.refl H) g.b⟩
theorem Kc{i:Nat}(h:PE X e (jc i))(g:¬aJ M i):VE X M R .s e (λd Q=>match look d i with|some w=>Q w|none=>False):=PE.imp h<|by
 rintro n H Q ⟨A,q,d,P,S,o,p,k⟩
 revert p
 cases f:look d i with
 |none=>exact λp=>p.elim
 |some w=>intro p;obtain⟨v,l,j⟩:=S.sh i w g f;exact⟨v,l,k _ _ H p (au.refl H) (.of j)⟩
noncomputable def j4(K:Frag)(i:Nat)(π:List gQ):TE:=λd H Q=>∃v u,d[i]?=some (some v)/\rJ K H v π u/\Q u H
theorem Bo{i:Nat}{π:List gQ}{m h:Md}{K:Frag}{A:Fz}{s H:Hp}{f:St}{g:Ev}{w u:W}(S:SR K M A s f H g)(l:(i,m)∈M)(k:gq m π=some h)(n:look g i=some w)(j:bz w π=some u):
 ∃v d F,f[i]?=some (some v)/\rJ K H v π d/\Fp K A.B H h u d F:=by
 obtain⟨F,O⟩:=S.ow;obtain⟨v,p,o⟩:=O.val i m w l n;obtain⟨d,z,x,y,_,r,q,_⟩:=Fp.path π m o k j;exact⟨v,d,x,p,r,q⟩
theorem sN{d:Ev}{i:Nat}{π:List gQ}{Q:W->Prop}(h:match look d i with|some w=>(match bz w π with|some u=>Q u|none=>False)|none=>False):∃w u,look d i=some w/\bz w π=some u/\Q u:=by
 cases g:look d i with
 |none=>rw[g]at h;exact h.elim
 |some w=>
  rw[g]at h;dsimp only at h;cases f:bz w π with
  |none=>rw[f]at h;exact h.elim
  |some u=>rw[f]at h;exact⟨w,u,rfl,f,h⟩
theorem Kd{i:Nat}{π:List gQ}{j:Md}(h:PE X e (j4 X.K i π))(r:(i,j)∈M)(o:gq j π=some .f):VB X M R e (λg Q=>match look g i with|some w=>(match bz w π with|some u=>Q u|none=>False)|none=>False):=PE.imp h<|by rintro C H Q ⟨A,J,g,P,S,I,p,k⟩;obtain⟨w,u,B,z,q⟩:=sN p;obtain⟨v,E,F,y,x,d⟩:=Bo S r o B z;obtain⟨D,n,l,rfl,rfl,_,d,s⟩:=d;exact⟨v,_,y,x,k _ _ H q (au.refl H) ⟨n,l,rfl,.inl d,s⟩⟩
theorem Ke{i:Nat}{π:List gQ}{f:Md}(h:PE X e (j4 X.K i π))(n:(i,f)∈M)(l:gq f π=some .s):VE X M R .s e (λd Q=>match look d i with|some w=>(match bz w π with|some u=>Q u|none=>False)|none=>False):=PE.imp h<|by rintro z H Q ⟨A,C,d,P,S,B,p,k⟩;obtain⟨w,u,y,x,q⟩:=sN p;obtain⟨v,j,F,r,o,g⟩:=Bo S n l y x;dsimp only[Fp]at g;exact⟨v,j,r,o,k _ _ H q (au.refl H) (.of g.2)⟩
theorem yM{v:V}{w:W}(h:PE X e (tC v))(d:∀B H,Rep X.K B H w v):VE X M R .s e (λ_ Q=>Q w):=PE.imp h<|by rintro f H Q ⟨A,j,g,P,S,i,p,k⟩;exact k _ _ H p (au.refl H) (.of (d _ _))
theorem Bp{op:Operator}(U:VB X M R a ta)(T:VB X M R b tb)(O:∀x y,Er op x y=m\/m=.s):VE X M R m (.BinOp a op b pos) (λi Q=>ta i λx=>tb i λy=>eu op x y Q):=by
 rintro j s g H Q I ⟨A,D,i,P,S,C,p,k⟩;refine wpAny_BinOp (bin U T I (R:=λn l f=>∃x y,eu op x y P/\au H f/\aT X.K (FB A M g) f x n/\aT X.K (FB A M g) f y l) ⟨A,D,i,_,S,C,p,λx n H1 q B J=>⟨A,D,i,_,S.same B,C,q,λy l f o s2 F=>⟨x,y,o,B.trans s2,aT.same s2 J,F⟩⟩⟩ ?_);rintro v u s2 n l f Y rv L ⟨x,y,h,sm,q,o⟩;have d:=(S.same sm).dom;refine uZ op j s2 g f (FB A M g) x y n l v u P Q Y d rv L q o h ?_;have c:Cont X.K (FB A M g) f m P Q:=λw z Z N E r=>k w z Z N (sm.trans E) (r.back sm λ_ z=>z);rcases O x y with e|e
 .rw[e];exact c
 .subst e;exact Cont.s d c
end
theorem aV{x:W}{Q:Bool->Prop}(h:truth x Q):∃b,x=.bl b/\Q b:=by
 cases x with
 |bl b=>exact⟨b,rfl,h⟩
 |_=>exact h.elim
theorem Rep.iM{K:Frag}{B:Addr->Prop}{H:Hp}{b:Bool}{v:V}(h:Rep K B H (.bl b) v):v=.bl b:=by dsimp only[Rep]at h;exact h
theorem Rep.int_inv{K:Frag}{B:Addr->Prop}{H:Hp}{b:Int}{v:V}(h:Rep K B H (.int b) v):v=.int b:=by dsimp only[Rep]at h;exact h
theorem cD.aO{K:Frag}{B:Addr->Prop}{H H':Hp}{w:W}{v:V}(h:cD K B H H' .s w v):Rep K B H' w v:=by obtain⟨F,_,_,h⟩:=h;obtain⟨rfl,h⟩:=h;exact h.less λp z=>.inl z
section
variable{X:Cx}{M:Ms}{R:Addr->Prop}{e a b c:Expr}{t ta tb tc:WT}{m:Md}{pos:Pos}{rest es:List Expr}
noncomputable def Kf:W->Bool
 |.lst _=>true
 |_=>false
theorem Kg{op:Operator}{x y:W}{P:W->Prop}(h:eu op x y P)(d:(op=.Add/\(Kf x=true\/Kf y=true))\/(op=.Mult/\Kf x=true)):Er op x y=.f:=by
 rcases d with⟨rfl,d⟩|⟨rfl,d⟩
 .cases x with
  |lst l=>rfl
  |_=>
   rcases d with d|d
   .cases d
   .cases y<;>first|exact h.elim|exact ff d
 .cases x<;>first|rfl|exact ff d
theorem u0{op:Operator}{F E:RL}(ha:PE X a (tV X M R F ta))(hb:PE X b (tV X M R E tb))(h1:∀B H H' w v,Dom B H->F B H H' w v->aT X.K B H' w v)(h2:∀B H H' w v,Dom B H->E B H H' w v->aT X.K B H' w v)
 (ho:∀B H H' w v B2 g Wa J U,F B H H' w v->E B2 g Wa J U->(op=.Add/\(Kf w=true\/Kf J=true))\/(op=.Mult/\Kf w=true)):VE X M R .f (.BinOp a op b pos) (λi Q=>ta i λx=>tb i λy=>eu op x y Q):=by
 rintro j s l H Q I ⟨A,T,i,P,S,O,p,k⟩;refine wpAny_BinOp (bin ha hb I (R:=λo n g=>∃x y,eu op x y P/\au H g/\aT X.K (FB A M l) g x o/\aT X.K (FB A M l) g y n/\Er op x y=.f) ⟨A,T,i,_,S,O,p,λx o H1 D C N=>⟨A,T,i,_,S.same C,O,D,λy n g q s2 L=>⟨x,y,q,C.trans s2,aT.same s2 (h1 _ _ _ _ _ S.dom N),h2 _ _ _ _ _ (S.same C).dom L,Kg q (ho _ _ _ _ _ _ _ _ _ _ N L)⟩⟩⟩ ?_);rintro v u s2 o n g I2 rv Z ⟨x,y,h,sm,D,q,em⟩;have d:=(S.same sm).dom;refine uZ op j s2 l g (FB A M l) x y o n v u P Q I2 d rv Z D q h ?_;rw[em];exact λw z H' pw Y r=>k w z H' pw (sm.trans Y) (r.back sm λ_ z=>z)
theorem Kh(j:VE X M R .s a ta):VE X M R .s (.UnaryOp .USub a pos) (λd Q=>ta d λx=>match x with|.int i=>Q (.int (-i))|_=>False):=PE.imp (N5 Js j)<|by
 rintro q H Q ⟨A,o,d,P,S,l,p,k⟩;refine⟨A,o,d,_,S,l,p,λx r n f g h=>?_⟩;cases x with
 |int i=>exact⟨i,h.aO.int_inv,k _ _ n f g (.of (dj _))⟩
 |_=>exact f.elim
theorem Kl(i:VE X M R .s a ta):VE X M R .s (.UnaryOp .Not a pos) (λd Q=>ta d λx=>truth x λb=>Q (.bl (!b))):=PE.imp (Jc i)<|by rintro o H Q ⟨A,n,d,P,S,j,p,k⟩;refine⟨A,n,d,_,S,j,p,λx q l f g h=>?_⟩;obtain⟨b,rfl,f⟩:=aV f;exact⟨b,h.aO.iM,k _ _ l f g (.of (pN _))⟩
theorem Km{op:CmpOp}(N:X.A.units+64<cLine)(O:behindInMarks op b=false)(U:VB X M R a ta)(T:VB X M R b tb):VE X M R .s (.Compare a [op] [b] pos) (λf Q=>ta f λx=>tb f λy=>dz op x y Q):=by rintro g s i H Q I ⟨A,C,f,P,S,B,p,k⟩;refine wpAny_Compare1 (bin U T I (R:=λl j d=>∃x y,dz op x y P/\au H d/\aT X.K (FB A M i) d x l/\aT X.K (FB A M i) d y j) ⟨A,C,f,_,S,B,p,λx l H1 o q F=>⟨A,C,f,_,S.same q,B,o,λy j d n s2 E=>⟨x,y,n,q.trans s2,aT.same s2 F,E⟩⟩⟩ ?_) O;rintro v u s2 l j d Y rv J ⟨x,y,h,sm,o,n⟩;exact qF N op g s2 i d (FB A M i) x y l j v u P Q Y (S.same sm).dom rv J o n h λw z Z L D r=>k w z Z L (sm.trans D) (r.back sm λ_ z=>z)
theorem Kn{op:CmpOp}(hu:X.A.units+64<cLine)(hm:behindInMarks op b=false)(ha:VB X M R a ta)(hb:VB X M R b tb):VT X M R (.Compare a [op] [b] pos) (λj Q=>ta j λx=>tb j λy=>dz op x y Q):=by
 rintro d s i H Q I ⟨A,F,j,P,S,E,p,k⟩;have q:=bin ha hb I (R:=λn l g=>∃x y,dz op x y P/\au H g/\aT X.K (FB A M i) g x n/\aT X.K (FB A M i) g y l) ⟨A,F,j,_,S,E,p,λx n H1 C o N=>⟨A,F,j,_,S.same o,E,C,λy l g B s2 L=>⟨x,y,B,o.trans s2,aT.same s2 N,L⟩⟩⟩
  (f:=compareOp op) (Q:=EP X d i λz D=>∃b,z=.bl b/\Q b D)<|by rintro v u s2 n l g I2 rv O ⟨x,y,h,sm,C,B⟩;refine qF hu op d s2 i g (FB A M i) x y n l v u _ _ I2 (S.same sm).dom rv O C B h λw z D pw J r=>?_;obtain⟨b,rfl,q⟩:=k w D pw (sm.trans J);exact⟨b,r.aO.iM,q⟩
 refine wpAny_isTrue_Compare1 (bC q λv o Z=>bC Z λu s2 Y=>bC Y λc s3 ⟨z,H3,I3,T,b,ez,U⟩=>?_) hm;subst ez;cases T;exact QP ⟨H3,I3,U⟩
theorem Ko(r:VE X M R .s a ta)(p:VE X M R .s (.BoolOp .And (b::rest) pos) tb):VE X M R .s (.BoolOp .And (a::b::rest) pos) (λd Q=>ta d λx=>truth x λk=>if k=true then tb d Q else Q (.bl false)):=
 PE.imp (Jb r p)<|by
  rintro w H Q ⟨A,j,d,P,S,i,h,k⟩;refine⟨A,j,d,_,S,i,h,λx C v g f n=>?_⟩;obtain⟨q,rfl,g⟩:=aV g;refine⟨q,n.aO.iM,?_⟩;cases q with
  |true=>exact⟨A,j,d,_,S.same f,i,g,λy B u o s2 l=>k _ _ u o (f.trans s2) (l.back f λ_ z=>z)⟩
  |false=>exact k _ _ v g f (.of (pN _))
theorem Pb(r:VE X M R .s a ta)(p:VE X M R .s (.BoolOp .Or (b::rest) pos) tb):VE X M R .s (.BoolOp .Or (a::b::rest) pos) (λd Q=>ta d λx=>truth x λk=>if k=true then Q (.bl true)else tb d Q):=
 PE.imp (NQ r p)<|by
  rintro w H Q ⟨A,j,d,P,S,i,h,k⟩;refine⟨A,j,d,_,S,i,h,λx C v g f n=>?_⟩;obtain⟨q,rfl,g⟩:=aV g;refine⟨q,n.aO.iM,?_⟩;cases q with
  |false=>exact⟨A,j,d,_,S.same f,i,g,λy B u o s2 l=>k _ _ u o (f.trans s2) (l.back f λ_ z=>z)⟩
  |true=>exact k _ _ v g f (.of (pN _))
abbrev HZ(X:Cx)(M:Ms)(R:Addr->Prop)(e:Expr)(t:WT):Prop:=PW X e (UA X M R t)
theorem Et(d:VT X M R a ta):HZ X M R (.BoolOp .And [a] pos) ta:=vV d
theorem Kp(d:VT X M R a ta):HZ X M R (.BoolOp .Or [a] pos) ta:=Ai d
theorem Kq(o:VT X M R a ta)(n:HZ X M R (.BoolOp .And (b::rest) pos) tb):HZ X M R (.BoolOp .And (a::b::rest) pos) (λd Q=>ta d λx=>truth x λk=>if k=true then tb d Q else Q (.bl false)):=
 PW.imp (Aj o n)<|by
  rintro s H Q ⟨A,j,d,P,S,i,h,k⟩;refine⟨A,j,d,_,S,i,h,λx r f g=>?_⟩;obtain⟨q,rfl,f⟩:=aV f;refine⟨q,rfl,?_⟩;cases q with
  |true=>exact⟨A,j,d,P,S.same g,i,f,λy p l s2=>k _ p l (g.trans s2)⟩
  |false=>obtain⟨b,e,q⟩:=k _ r f g;cases e;exact q
theorem Pc(o:VT X M R a ta)(n:HZ X M R (.BoolOp .Or (b::rest) pos) tb):HZ X M R (.BoolOp .Or (a::b::rest) pos) (λd Q=>ta d λx=>truth x λk=>if k=true then Q (.bl true)else tb d Q):=
 PW.imp (HD o n)<|by
  rintro s H Q ⟨A,j,d,P,S,i,h,k⟩;refine⟨A,j,d,_,S,i,h,λx r f g=>?_⟩;obtain⟨q,rfl,f⟩:=aV f;refine⟨q,rfl,?_⟩;cases q with
  |false=>exact⟨A,j,d,P,S.same g,i,f,λy p l s2=>k _ p l (g.trans s2)⟩
  |true=>obtain⟨b,e,q⟩:=k _ r f g;cases e;exact q
theorem Kr(i:VT X M R a ta):VT X M R (.UnaryOp .Not a pos) (λd Q=>ta d λx=>truth x λb=>Q (.bl (!b))):=PT.imp (Ak i)<|by rintro o H Q ⟨A,n,d,P,S,j,h,k⟩;refine⟨A,n,d,_,S,j,h,λx l f g=>?_⟩;obtain⟨q,rfl,f⟩:=aV f;obtain⟨b,e,z⟩:=k _ l f g;cases e;exact⟨q,rfl,z⟩
theorem u5(he:∀d,isTrue e X.env d=(do let v<-d;standAt e.pos;holding [v] (truthy v)))(h:VE X M R .s e t):VT X M R e t:=PT.imp (Ah h he)<|by rintro p H Q ⟨A,o,f,P,S,l,h,k⟩;refine⟨A,o,f,P,S,l,h,λx q n j g i=>?_⟩;obtain⟨b,rfl,z⟩:=k _ n j g;exact⟨b,i.aO.iM,z⟩
theorem Ks:VA X M R [] (λ_ Q=>Q []):=PA.imp bS<|by rintro d H Q ⟨A,i,f,P,S,g,h,k⟩;exact k [] [] H h (au.refl H) .nil
theorem Eu{g:Ev->(List W->Prop)->Prop}(q:starEach (a::es) X.env=(false,eval a X.env)::starEach es X.env)(u:VE X M R .s a ta)(r:VA X M R es g):VA X M R (a::es) (λd Q=>ta d λx=>g d λxs=>Q (x::xs)):=
 PA.imp (aP u r q)<|by rintro w H Q ⟨A,l,d,P,S,j,h,k⟩;refine⟨A,l,d,_,S,j,h,λx y B p i n=>⟨A,l,d,_,S.same i,j,p,λxs z v f s2 o=>?_⟩⟩;exact k _ _ v f (i.trans s2) (.cons (n.aO.same s2) o)
theorem Ew:Nf X M R [] (λ_ Q=>Q []):=PA.imp bS<|by rintro d H Q ⟨A,i,f,P,S,g,h,k⟩;exact k [] [] H h (au.refl H) rfl
theorem Bq{g:Ev->(List W->Prop)->Prop}(s:starEach (a::es) X.env=(false,eval a X.env)::starEach es X.env)(v:VB X M R a ta)(u:Nf X M R es g):Nf X M R (a::es) (λd Q=>ta d λx=>g d λxs=>Q (x::xs)):=
 PA.imp (aP v u s)<|by rintro y H Q ⟨A,l,d,P,S,j,h,k⟩;refine⟨A,l,d,_,S,j,h,λx n z r i p=>⟨A,l,d,_,S.same i,j,r,λxs o w f s2 q=>?_⟩⟩;exact k _ _ w f (i.trans s2) ⟨n,o,rfl,aT.same s2 p,q⟩
theorem Ku{i:Ev->(List W->Prop)->Prop}(h:VA X M R es i):VE X M R .f (.List es pos) (λd Q=>i d λg=>g.length<=sizeLine/\Q (.lst g)):=PE.imp (uH h)<|by rintro s H Q ⟨A,r,d,P,S,q,h,k⟩;refine⟨A,r,d,_,S,q,h,λg u v n j l=>?_⟩;refine⟨by rw[af.len l];exact n.1,λp o=>?_⟩;exact k _ _ _ n.2 (j.trans (aF o _)) (.fresh j o l)
theorem Kv{g:Ev->(List W->Prop)->Prop}{n:Nat}(h:VA X M R es g):VE X M R .s (.Tuple es n pos) (λd Q=>g d λf=>f.length<=sizeLine/\Q (.tup f)):=PE.imp (uG h)<|by rintro u H Q ⟨A,r,d,P,S,q,h,k⟩;refine⟨A,r,d,_,S,q,h,λf v w j o i=>?_⟩;refine⟨by rw[af.len i];exact j.1,λp l=>?_⟩;exact k _ _ _ j.2 (o.trans (aF l _)) (.of (qz aq (af.same (aF l _) i)))
theorem wC{K:Frag}{B:Addr->Prop}{H:Hp}{l:List W}{vs:List V}{i:Int}{w:W}(h:af K B H l vs)(e:ie l i=some w):∃v,ie vs i=some v/\Rep K B H w v:=by
 unfold ie at e⊢;rw[h.len];cases d:AE l.length i with
 |none=>rw[d]at e;exact nn e
 |some j=>rw[d]at e;exact h.get e
theorem aT.di{K:Frag}{B:Addr->Prop}{H:Hp}{d:List Int}{v:V}(h:aT K B H (.di d) v):∃p,v=.ref p/\iH K H p (d.map V.int):=by
 have h:Rep K B H (.di d) v:=h;obtain⟨p,e,h⟩:=h;refine⟨p,e,?_⟩;rcases h with⟨o,h⟩|h
 .exact .inl (.inr ⟨o,h⟩)
 .rcases h with(h|⟨o,h⟩)|h
  .cases h
  .cases h
  .exact .inr h
theorem wD{d:List Int}{i n:Int}(e:ie d i=some n):ie (d.map V.int) i=some (.int n):=by
 unfold ie at e⊢;rw[Ee];cases f:AE d.length i with
 |none=>rw[f]at e;exact nn e
 |some j=>rw[f]at e;show(d.map V.int)[j]?=_;have e:d[j]?=some n:=e;rw[Fm,e];rfl
theorem Pd(J:jg b)(L:VB X M R a ta)(K:VE X M R .s b tb):VE X M R .s (.Subscript a b pos) (λg Q=>ta g λx=>tb g λy=>HW x y Q):=PE.imp (AF uM L K J)<|by
 rintro N H Q ⟨A,F,g,P,S,E,h,k⟩;refine⟨A,F,g,_,S,E,h,λx T Y I j f=>⟨A,F,g,_,S.same j,E,I,λy O r d s2 q=>?_⟩⟩;have f:=aT.same s2 f;cases x with
 |lst l=>
  cases y with
  |int i=>obtain⟨p,u,rfl,o,C⟩:=f.lst;obtain⟨w,e,d⟩:=d;obtain⟨v,D,B⟩:=wC C e;exact .inl ⟨p,u,i,v,rfl,q.aO.int_inv,.inl o.rd,D,k _ _ r d (j.trans s2) (.of B)⟩
  |_=>exact d.elim
 |tup l=>
  cases y with
  |int i=>obtain⟨p,u,rfl,o,C⟩:=f.tup;obtain⟨w,e,d⟩:=d;obtain⟨v,D,B⟩:=wC C e;exact .inr (.inl ⟨p,u,i,v,rfl,q.aO.int_inv,o,D,k _ _ r d (j.trans s2) (.of B)⟩)
  |_=>exact d.elim
 |di U=>
  cases y with
  |int i=>obtain⟨p,rfl,o⟩:=f.di;obtain⟨n,e,d⟩:=d;exact .inl ⟨p,_,i,_,rfl,q.aO.int_inv,o,wD e,k _ _ r d (j.trans s2) (.of (dj _))⟩
  |_=>exact d.elim
 |str z=>
  cases y with
  |int i=>
   cases f.str;obtain⟨hz,n,e,d⟩:=d;exact .inr (.inr ⟨z,i,n,rfl,q.aO.int_inv,hz,e,k _ _ r d (j.trans s2) (.of (oE _))⟩)
  |_=>exact d.elim
 |_=>exact d.elim
theorem Br{K:Frag}{B:Addr->Prop}{H:Hp}{l:List W}{vs:List V}(h:af K B H l vs)(d f:Option Int):af K B H (jZ l d f) (rY vs d f):=by unfold jZ rY;rw[h.len];exact(h.drop _).take _
noncomputable def Kw(X:Cx)(M:Ms)(R:Addr->Prop)(t:Ev->(Option Int->Prop)->Prop):TO:=λh H Q=>∃A f d P,SR X.K M A f h H d/\ER X f R/\t d P/\∀o g,P o->au H g->Q o g
theorem PO.imp{e:Option Expr}{t t':TO}(h:PO X e t)(k:∀d H Q,t' d H Q->t d H Q):PO X e t':=λf s d H Q I w=>h f s d H Q I (k d H Q w)
theorem Ey:PO X none (Kw X M R λ_ Q=>Q none):=PO.imp DK<|by rintro d H Q ⟨A,i,f,P,S,g,h,k⟩;exact k none H h (au.refl H)
theorem Ez(l:VE X M R .s a ta):PO X (some a) (Kw X M R λd Q=>ta d λy=>match y with|.int i=>Q (some i)|_=>False):=PO.imp (DM l)<|by
 rintro q H Q ⟨A,p,d,P,S,n,h,k⟩;refine⟨A,p,d,_,S,n,h,λx r o f g j=>?_⟩;cases x with
 |int i=>exact⟨i,j.aO.int_inv,k _ o f g⟩
 |_=>exact f.elim
theorem Pe{w y:Option Expr}{p2:Pos}{tl v:Ev->(Option Int->Prop)->Prop}(D:VB X M R a ta)(o:PO X w (Kw X M R tl))(j:PO X y (Kw X M R v)):VE X M R .f (.Subscript a (.Slice w y none p2) pos) (λd Q=>ta d λx=>tl d λl=>v d λh=>Q0 x l h Q):=
 PE.imp (rX DR D o j)<|by
  rintro F H Q ⟨A,u,d,P,S,s,h,k⟩;refine⟨A,u,d,_,S,s,h,λx J N C g n=>⟨A,u,d,_,S.same g,s,C,λl L o s2=>⟨A,u,d,_,S.same (g.trans s2),s,o,λh K j s3=>?_⟩⟩⟩;have n:=aT.same (s2.trans s3) n;cases x with
  |lst I=>obtain⟨p,z,rfl,r,E⟩:=n.lst;refine⟨p,z,rfl,.inl r.rd,λq i=>?_⟩;exact k _ _ _ j (((g.trans s2).trans s3).trans (aF i _)) (.fresh ((g.trans s2).trans s3) i (Br E l h))
  |di B=>obtain⟨p,rfl,r⟩:=n.di;refine⟨p,_,rfl,r,λq i=>?_⟩;exact k _ _ _ j (((g.trans s2).trans s3).trans (aF i _)) (.fresh ((g.trans s2).trans s3) i (Br (af.Ek B) l h))
  |_=>exact j.elim
noncomputable def Pf:BI->Md
 |.list=>.f
 |_=>.s
noncomputable def eG(X:Cx)(f:Value)(b:BI):Prop:=
 ∀(d:List (Addr×Obj))(s:Shared)(g:St)(H:Hp)(B:Addr->Prop)(h:List W)(i:List V)(j:List Value)(P:KP)(Q:VK),Inv X d g H s->Dom B H->Vals i j->kN X.K B H h i->ly b h P->Cont X.K B H (Pf b) P Q->
  wpAny (model X.prog X.w) X.A (call f j) (EP X d g Q) X.xe s
noncomputable def Ky(K:Frag)(b:BI):List V->Hp->VK->Prop:=λf H Q=>∃(B:Addr->Prop)(d:List W)(P:KP),Dom B H/\kN K B H d f/\ly b d P/\Cont K B H (Pf b) P Q
theorem eG.r{f:Value}{b:BI}(h:eG X f b):aZ X f (Ky X.K b):=by rintro g s i H l n Q I r ⟨B,j,P,d,p,o,k⟩;exact h g s i H B j l n P Q I d r p o k
theorem cF{K:Frag}{B:Addr->Prop}{H:Hp}{w:W}{vs:List V}(h:kN K B H [w] vs):∃v,vs=[v]/\aT K B H w v:=by obtain⟨v,r,rfl,f,d⟩:=h;cases(show r=[]from d);exact⟨v,rfl,f⟩
theorem wF{K:Frag}{B:Addr->Prop}{H:Hp}{w w':W}{vs:List V}(h:kN K B H [w,w'] vs):∃v d,vs=[v,d]/\aT K B H w v/\aT K B H w' d:=by obtain⟨v,r,rfl,i,g⟩:=h;obtain⟨d,rfl,f⟩:=cF g;exact⟨v,d,rfl,i,f⟩
theorem cw_len:eG X (.builtin "len") .len:=by
 intro f s k H B q u n P Q I d r o h c
 match q,h with
 |[.lst l],h=>obtain⟨v,rfl,g⟩:=cF o;obtain⟨p,i,rfl,g,j⟩:=g.lst;exact fX f s k H _ n Q I r ⟨p,i,rfl,.inl (.inl g.rd),c.now (w:=.int i.length) (by rw[j.len];exact h) (dj _)⟩
 |[.tup l],h=>obtain⟨v,rfl,g⟩:=cF o;obtain⟨p,i,rfl,g,j⟩:=g.tup;exact fX f s k H _ n Q I r ⟨p,i,rfl,.inr g,c.now (w:=.int i.length) (by rw[j.len];exact h) (dj _)⟩
 |[.di ns],h=>obtain⟨v,rfl,g⟩:=cF o;obtain⟨p,rfl,j⟩:=g.di;exact fX f s k H _ n Q I r ⟨p,_,rfl,.inl j,c.now (w:=.int ns.length) h (by rw[Ee];exact dj _)⟩
 |[.str z],h=>obtain⟨v,rfl,g⟩:=cF o;cases g.str;exact qk f s k H _ n Q I r ⟨z,rfl,h.1,c.now h.2 (dj _)⟩
theorem cw_abs:eG X (.builtin "abs") .abs:=by
 intro f s g H B j o k P Q I d r l h c
 match j,h with
 |[.int i],h=>obtain⟨v,rfl,n⟩:=cF l;cases n.int;exact Av f s g H _ k Q I r ⟨i,rfl,c.now h (dj _)⟩
theorem cw_max(q:X.calm=true):eG X (.builtin "max") .max2:=by
 intro f s n H B w D o P Q I d r u h c
 match w,h with
 |[.int i,.int j],h=>obtain⟨v,E,rfl,g,k⟩:=wF u;cases g.int;cases k.int;exact ye q f s n H _ o Q I r ⟨i,j,rfl,c.now h (dj _)⟩
 |[.lst l],h=>obtain⟨x,rfl,y,h⟩:=h;obtain⟨v,rfl,g⟩:=cF u;obtain⟨p,C,rfl,g,k⟩:=g.lst;have e:=af.ints k;subst e;exact yH q f s n H _ o Q I r ⟨p,x,rfl,.inl g.rd,y,λm A z=>c.now (h m A z) (dj _)⟩
theorem cw_dvm:eG X (.builtin "divmod") .QZ:=by
 intro f s g H B k w l P Q I d r o h c
 match k,h with
 |[.int i,.int j],h=>obtain⟨v,x,rfl,u,p⟩:=wF o;cases u.int;cases p.int;exact rS f s g H _ l Q I r ⟨i,j,rfl,h.1,λq n=>c _ _ _ h.2 (aF n _) (.of (qz aq (.cons (dj _) (.cons (dj _) .nil))))⟩
theorem cw_min(q:X.calm=true):eG X (.builtin "min") .min2:=by
 intro f s n H B w D o P Q I d r u h c
 match w,h with
 |[.int i,.int j],h=>obtain⟨v,E,rfl,g,k⟩:=wF u;cases g.int;cases k.int;exact yf q f s n H _ o Q I r ⟨i,j,rfl,c.now h (dj _)⟩
 |[.lst l],h=>obtain⟨x,rfl,y,h⟩:=h;obtain⟨v,rfl,g⟩:=cF u;obtain⟨p,C,rfl,g,k⟩:=g.lst;have e:=af.ints k;subst e;exact yG q f s n H _ o Q I r ⟨p,x,rfl,.inl g.rd,y,λm A z=>c.now (h m A z) (dj _)⟩
theorem cw_sum(o:X.calm=true):eG X (.builtin "sum") .sum:=by
 intro f s i H B j x k P Q I d r q h c
 match j,h with
 |[.lst l],h=>obtain⟨n,rfl,h⟩:=h;obtain⟨v,rfl,g⟩:=cF q;obtain⟨p,w,rfl,g,u⟩:=g.lst;have e:=af.ints u;subst e;exact yx o f s i H _ k Q I r ⟨p,n,rfl,.inl g.rd,c.now h (dj _)⟩
theorem cw_all(n:X.calm=true):eG X (.builtin "all") .all:=by
 intro f s i H B j x k P Q I d r o h c
 match j,h with
 |[.lst l],h=>obtain⟨u,rfl,h⟩:=h;obtain⟨v,rfl,g⟩:=cF o;obtain⟨p,w,rfl,g,q⟩:=g.lst;have e:=af.Uw q;subst e;exact yy n f s i H _ k Q I r ⟨p,u,rfl,.inl g.rd,c.now h (pN _)⟩
theorem cw_any(n:X.calm=true):eG X (.builtin "any") .any:=by
 intro f s i H B j x k P Q I d r o h c
 match j,h with
 |[.lst l],h=>obtain⟨u,rfl,h⟩:=h;obtain⟨v,rfl,g⟩:=cF o;obtain⟨p,w,rfl,g,q⟩:=g.lst;have e:=af.Uw q;subst e;exact yJ n f s i H _ k Q I r ⟨p,u,rfl,.inl g.rd,c.now h (pN _)⟩
theorem cw_list:eG X (.type "list") .list:=by
 intro f s n H B w x o P Q I d r u h c
 match w,h with
 |[.lst l],h=>obtain⟨v,rfl,g⟩:=cF u;obtain⟨p,j,rfl,g,k⟩:=g.lst;exact jk f s n H _ o Q I r ⟨p,j,rfl,.inl (.inl g.rd),λq i=>c _ _ _ h (aF i _) (.fresh (au.refl H) i k)⟩
 |[.tup l],h=>obtain⟨v,rfl,g⟩:=cF u;obtain⟨p,j,rfl,g,k⟩:=g.tup;exact jk f s n H _ o Q I r ⟨p,j,rfl,.inr g,λq i=>c _ _ _ h (aF i _) (.fresh (au.refl H) i k)⟩
theorem cw_int:eG X (.type "int") .int:=by
 intro f s j H B o u k P Q I d r l h c
 match o,h with
 |[.bl i],h=>obtain⟨v,rfl,g⟩:=cF l;cases g.bl;exact yg f s j H _ k Q I r (.inr ⟨i,rfl,c.now h (dj _)⟩)
 |[.str z],h=>obtain⟨v,rfl,g⟩:=cF l;cases g.str;obtain⟨n,q,p,h⟩:=h;exact yC f s j H _ k Q I r ⟨z,n,rfl,q,p,c.now h (dj _)⟩
theorem cw_str:eG X (.type "str") .str:=by
 intro f s j H B n o k P Q I d r l h c
 match n,h with
 |[.int i],h=>obtain⟨v,rfl,g⟩:=cF l;cases g.int;exact qe f s j H _ k Q I r ⟨i,rfl,h.1,c.now h.2 (oE _)⟩
 |[.str z],h=>obtain⟨v,rfl,g⟩:=cF l;cases g.str;exact yz f s j H _ k Q I r ⟨z,rfl,c.now h (oE _)⟩
theorem cw_tuple:eG X (.type "tuple") .tuple:=by
 intro f s k H B x y n P Q I d r u h c
 match x,h with
 |[.lst l],h=>obtain⟨v,rfl,g⟩:=cF u;obtain⟨p,i,rfl,g,j⟩:=g.lst;exact eX f s k H _ n Q I r ⟨p,i,rfl,.inl ⟨.inl g.rd,λq o=>c _ _ _ h (aF o _) (.of (qz aq (af.same (aF o _) j)))⟩⟩
 |[.tup l],h=>obtain⟨v,rfl,g⟩:=cF u;obtain⟨p,i,rfl,w,j⟩:=g.O4;have g:iB X.K H p i:=iB.of w;exact eX f s k H _ n Q I r ⟨p,i,rfl,.inr ⟨g,c.now h (qz w j)⟩⟩
noncomputable def sO(K:Frag):Prop:=∀a∈["NoneType","bool","int","str","list","tuple"],∀b∈["int","bool","tuple","list","str","dict"],kitOne K (.type a) (.type b)=some (uY a b)
theorem cw_isi(O:sO X.K):aZ X (.builtin "isinstance") (λvs H Q=>∃(B:Addr->Prop)(w:W)(n:String)(P:KP),n∈["int","bool","tuple","list","str","dict"]/\kN X.K B H [w,.ty n] vs/\ly .zO [w,.ty n] P/\Cont X.K B H .s P Q):=by
 rintro k s A H vs us Q I r ⟨B,w,n,P,N,S,h,c⟩;obtain⟨v,Z,rfl,i,T⟩:=wF S;cases T.ty;obtain⟨a,d,h⟩:=h;have x:Q (.bl (uY a n)) H:=c.now h (pN _);obtain⟨E,D,rfl,f,F⟩:=vals2 r;cases(show D=Value.type n from F);have g:∀q,q∈["NoneType","bool","int","str","list","tuple"]->a=q->kitOne X.K (.type q) (.type n)=some (uY a n):=λq m e=>by rw[e];exact O q m n N
 have j:∀y:Tok,EP X k A Q (.bool (uY a n)) {s with toks:=y}:=λy=>⟨.bl _,H,I.tok _,rfl,x⟩;cases w with
 |aI=>
  cases i.aI;cases d;exact fE I f .aI (g _ (by simp) rfl) j
 |bl b=>
  cases i.bl;cases d;exact fE I f (.bl b) (g _ (by simp) rfl) j
 |int b=>
  cases i.int;cases d;exact fE I f (.int b) (g _ (by simp) rfl) j
 |str b=>
  cases i.str;cases d;exact fE I f (.str b) (g _ (by simp) rfl) j
 |lst l=>obtain⟨p,C,rfl,u,J⟩:=i.lst;cases d;exact fE I f (.lst u.at) (g _ (by simp) rfl) j
 |tup l=>obtain⟨p,C,rfl,u,J⟩:=i.tup;cases d;cases(show E=Value.ref p from f);obtain⟨L,r',⟨o,Y,U,_⟩,_⟩:=I.tuple u;exact On PySem.W.kitx_tuple I.jO ⟨o,Y,U⟩ (g _ (by simp) rfl) (λz=>nomatch z) j
 |_=>exact nn d
end
noncomputable def Dd(K:Frag)(n:Nat)(m:Md)(sp:aW):Sp:=λc H Q E=>∃A a P R,a.length=n/\af K A H a c/\Dom A H/\sp a P R/\Cont K A H m P Q/\∀C b,R C->au H b->E (.ref C) none b
noncomputable def Pg(K:Frag)(n:Nat)(h:Md)(sp:aW):Sp:=λi H Q E=>∃(b:Addr->Prop)(F:List Addr)(g:W)(f:V)(e:List W)(c:List V)(P:W->Prop)(R:Addr->Prop),i=f::c/\e.length+1=n/\F.Nodup/\(∀p∈F,¬b p)/\Dom b H/\Fp K (λp=>b p\/p∈F) H h g f F/\af K (λp=>b p\/p∈F) H e c/\sp (g::e) P R/\
 (∀w y v d a,P (.tup [w,y])->pL (·∈F) H a->d.Nodup->(∀p∈d,p∈F\/H p=none)->Fp K (λp=>b p\/p∈d) a h y f d->Rep K (λp=>b p\/p∈d) a w v->Q v a)/\(∀C a,R C->pL (·∈F) H a->E (.ref C) none a)
noncomputable def oF(K:Frag)(n:Nat)(m:Md)(sp:aW):Sp:=
 match m with
 |.io a=>Pg K n a sp
 |m=>Dd K n m sp
inductive b3(P:Program)(w:World)(K:Frag)(mg:Str->Option Value)(base:Heap):Nat->Value->Nat->Sp->Prop where
 |fn {k:Nat} {f:Addr} {fd:FuncData} {ps:List Str} {sp:Sp} (kp:keepIn K (.ref f)=true) (b:Binds K fd ps []) (F:bE P w K mg base (iC P w) k f fd ps sp):b3 P w K mg base k (.ref f) ps.length sp
 |mk {k n:Nat} {C f:Addr} {fd:FuncData} {ps:List Str} {sp UC:Sp} (M:Mk K C f) (b:Binds K fd ps []) (F:bE P w K mg base (iC P w) k f fd ps UC)
  (h:∀vs H Q E,sp vs H Q E->∀x dx,H x=none->H dx=none->dx≠x->UC (.ref x::vs) (upd (upd H dx (.own x)) x (.ins C dx [])) (λv H2=>v=.aI/\Q (.ref x) H2) E):b3 P w K mg base (k+1) (.ref C) n sp
theorem b3.keep{P:Program}{w:World}{K:Frag}{b:Str->Option Value}{base:Heap}{k n:Nat}{a:Value}{sp:Sp}(c:b3 P w K b base k a n sp):keepIn K a=true:=by
 cases c with
 |fn kp _ _=>exact kp
 |mk M _ _ _=>exact M.kp
theorem b3.run{X:Cx}{k n:Nat}{g:Value}{sp:Sp}{a:List (Addr×Obj)}{d:St}{H:Hp}{s:Shared}{Q:VK}{E:XK}{us:List Value}{vs:List V}(c:b3 X.prog X.w X.K X.mg X.base k g n sp)(f:cC k X.A)(e:Passes (iC X.prog X.w) X E)(I:Inv X a d H s)(r:Vals vs us)(h:sp vs H Q E):
 wpAny (model X.prog X.w) X.A (call g us) (EP X a d Q) X.xe s:=by
 cases c with
 |fn p b F=>exact qf (ds:=[]) (zM:=[]) F f b .nil e I r (by rw[Kx];exact h)
 |mk M b F l=>exact AA (ds:=[]) (zM:=[]) M F f b .nil e I r (λx o m j i=>by rw[Kx];exact l vs H Q E h x o m j i)
section
variable{X:Cx}{M:Ms}{R:Addr->Prop}{e a b c:Expr}{t ta tb tc:WT}{m:Md}{pos p:Pos}{es:List Expr}{x:Str}
theorem wG{J:Ev->(List W->Prop)->Prop}{k n:Nat}{T:Value}{sp:aW}(F:b3 X.prog X.w X.K X.mg X.base k T n (Dd X.K n m sp))(hr:cC k X.A)(hg:Gl X x)(hm:X.mg x=some T)
 (hn:∀d P R,sp d P R->d.length=n)(ha:VA X M R (e::es) J)(y:(x==("__debug__":Str))=false)(he:starEach (e::es) X.env=(false,eval e X.env)::starEach es X.env)(u:(backTo pos (starEach es X.env)).any (·.1)=false):
 VE X M R m (.Call (.Name x p) (e::es) [] pos) (λj Q=>J j λd=>sp d Q R):=by
 rintro f s i H Q I ⟨A,H0,j,P,S,er,h,kk⟩;obtain⟨E,N,O,hR⟩:=er;refine YI (qb I hg hm ?_ y);refine callWith_K (h₀:=X.base) I.ok.mod.NH F.keep (bC (ha pos f s i H (λl g=>∃d,au H g/\af X.K (FB A M i) g d l/\sp d P R) I ⟨A,H0,j,_,S,⟨E,N,O,hR⟩,h,λd l g hw L q=>⟨d,L,q,hw⟩⟩) λus L ⟨l,g,U,r,d,sm,q,D⟩=>⟨U.jO,?_⟩) he u;exact F.run hr N U r ⟨FB A M i,d,P,R,hn _ _ _ D,q,(S.same sm).dom,D,λw v B pw o Z=>kk w v B pw (sm.trans o) (Z.back sm λ_ z=>z),λC B Y o=>O C B Y (S.sm.trans (sm.trans o))⟩
theorem Kz{l:Ev->(List W->Prop)->Prop}{bi:BI}{id:String}(E:aZ X (.builtin id) (Ky X.K bi))(D:Gl X x)(C:X.mg x=none)(y:bootBuiltins x=some (.builtin id))(F:Nf X M R (e::es) l)(B:x≠"__name__")(j:(x==("__debug__":Str))=false)
 (he:starEach (e::es) X.env=(false,eval e X.env)::starEach es X.env)(i:(backTo pos (starEach es X.env)).any (·.1)=false):VE X M R (Pf bi) (.Call (.Name x p) (e::es) [] pos) (λd Q=>l d λf=>ly bi f Q):=
 PE.imp (gA E D C y F B j he i)<|by rintro n H Q ⟨A,J,d,P,S,I,h,k⟩;exact⟨A,J,d,_,S,I,h,λf N O u g q=>⟨FB A M n,f,P,(S.same g).dom,q,u,λw v L s o r=>k w v L s (g.trans o) (r.back g λ_ z=>z)⟩⟩
theorem KA{l:Ev->(List W->Prop)->Prop}{bi:BI}{id:String}(E:aZ X (.type id) (Ky X.K bi))(D:Gl X x)(C:X.mg x=none)(y:bootBuiltins x=some (.type id))(F:Nf X M R (e::es) l)(B:x≠"__name__")(j:(x==("__debug__":Str))=false)
 (he:starEach (e::es) X.env=(false,eval e X.env)::starEach es X.env)(i:(backTo pos (starEach es X.env)).any (·.1)=false):VE X M R (Pf bi) (.Call (.Name x p) (e::es) [] pos) (λd Q=>l d λf=>ly bi f Q):=
 PE.imp (gO E D C y F B j he i)<|by rintro n H Q ⟨A,J,d,P,S,I,h,k⟩;exact⟨A,J,d,_,S,I,h,λf N O u g q=>⟨FB A M n,f,P,(S.same g).dom,q,u,λw v L s o r=>k w v L s (g.trans o) (r.back g λ_ z=>z)⟩⟩
theorem KC{n:String}(T:sO X.K)(i:n∈["int","bool","tuple","list","str","dict"])(U:Gl X x)(O:X.mg x=none)(L:bootBuiltins x=some (.builtin "isinstance"))(Z:VB X M R a ta)(Y:VB X M R b (λ_ Q=>Q (.ty n)))(N:x≠"__name__")(j:(x==("__debug__":Str))=false)
 (he:starEach [a,b] X.env=(false,eval a X.env)::starEach [b] X.env)(Wb:starEach [b] X.env=(false,eval b X.env)::starEach [] X.env)(g:(backTo pos (starEach [b] X.env)).any (·.1)=false):
 VE X M R .s (.Call (.Name x p) [a,b] [] pos) (λd Q=>ta d λw=>ly .zO [w,.ty n] Q):=
 PE.imp (gA (cw_isi T) U O L (aP Z (aP Y bS Wb) he) N j he g)<|by rintro y H Q ⟨A,u,d,P,S,q,h,k⟩;refine⟨A,u,d,_,S,q,h,λw v H1 J f F=>⟨A,u,d,λl=>l=.ty n,S.same f,q,rfl,λl o H2 De s2 E=>?_⟩⟩;subst De;exact⟨FB A M y,w,n,P,i,⟨v,[o],rfl,aT.same s2 F,o,[],rfl,E,rfl⟩,J,λB C H' I D r=>k B C H' I ((f.trans s2).trans D) (r.back (f.trans s2) λ_ z=>z)⟩
end
inductive Bs(K:Frag)(br:Bool)(B:Addr->Prop)(H:Hp):It->List W->Prop where
 |lst {a:Addr} {vs:List V} {ws:List W} (h:Rz H a (.lst vs)) (n:br=false->¬B a) (r:af K B H ws vs):Bs K br B H (RD K a) ws
 |tup {a:Addr} {vs:List V} {ws:List W} (h:iB K H a vs) (r:af K B H ws vs):Bs K br B H (RE K a) ws
 |p9 (lo:Int) (n:Nat):Bs K br B H (NY lo n) (gr lo 1 n)
 |EA (lo st:Int) (n:Nat):Bs K br B H (QX lo st n) (gr lo st n)
structure IW(K:Frag)(B:Addr->Prop)(Hs:Hp)(J:It)(ws:List W):Prop where
 go:∀i H,au Hs H->i<ws.length->J.go i H
 yl:∀i H x H' w,au Hs H->ws[i]?=some w->J.NX i H x H'->au H H'/\∀B':Addr->Prop,(∀p o,Hs p=some o->B' p->B p)->Rep K B' H' w x
 st:∀i H,au Hs H->i=ws.length->J.stop i H
theorem jq(a st:Int)(n:Nat):(gr a st n).length=n:=by unfold gr;simp
theorem sP{b st:Int}{n i:Nat}{w:W}(h:(gr b st n)[i]?=some w):w=.int (b+i*st)/\i<n:=by
 unfold gr at h;rw[Fm]at h;by_cases a:i<n
 .rw[MF a]at h;cases h;exact⟨rfl,a⟩
 .rw[QR (by simpa using a)]at h;cases h
theorem Bs.iw{K:Frag}{br:Bool}{B:Addr->Prop}{g:Hp}{J:It}{o:List W}(h:Bs K br B g J o):IW K B g J o:=by
 cases h with
 |@lst a c _ h n r=>
  have q:∀H,au g H->iH K H a c:=λH s=>.inl (VL.au.rd s h.rd);refine⟨λi H s b=>?_,λi H x l w s d y=>?_,λi H s b=>⟨c,q H s,by rw[r.len,b];exact Bz _⟩⟩
  .have f:i<c.length:=by rw[r.len];exact b
   exact⟨c,c[i],q H s,DL f⟩
  .obtain⟨rfl,y⟩:=y;obtain⟨v,e,j⟩:=r.get d;have:=y c (q _ s);rw[e]at this;cases this;exact⟨au.refl _,λm k=>Rep.mv s k w j⟩
 |@tup a c _ h r=>
  have q:∀H,au g H->iB K H a c:=λH s=>L2.au.tup s h;refine⟨λi H s b=>?_,λi H x l w s d y=>?_,λi H s b=>⟨c,q H s,by rw[r.len,b];exact Bz _⟩⟩
  .have f:i<c.length:=by rw[r.len];exact b
   exact⟨c,c[i],q H s,DL f⟩
  .obtain⟨rfl,y⟩:=y;obtain⟨v,e,j⟩:=r.get d;have:=y c (q _ s);rw[e]at this;cases this;exact⟨au.refl _,λm k=>Rep.mv s k w j⟩
 |p9 p n=>refine⟨λi H s b=>by rw[jq]at b;exact b,λi H x l w s d y=>?_,λi H s b=>by rw[jq]at b;exact Nm b.symm⟩;obtain⟨rfl,rfl⟩:=y;obtain⟨rfl,_⟩:=sP d;exact⟨au.refl _,λm _=>by rw[Vv];exact dj _⟩
 |EA p t n=>refine⟨λi H s b=>by rw[jq]at b;exact b,λi H x l w s d y=>?_,λi H s b=>by rw[jq]at b;exact Nm b.symm⟩;obtain⟨rfl,rfl⟩:=y;obtain⟨rfl,_⟩:=sP d;exact⟨au.refl _,λm _=>dj _⟩
noncomputable def itemsOf:W->Option (List W)
 |.lst l=>some l
 |.tup l=>some l
 |_=>none
theorem pO{z:W}{Q:List W->Prop}:items z Q↔∃a,itemsOf z=some a/\Q a:=by
 cases z<;>simp[items,itemsOf]
noncomputable def EB(X:Cx)(M:Ms)(R:Addr->Prop)(br:Bool)(t:WT):TI:=λb H Q=>∃A e c P,SR X.K M A e b H c/\ER X e R/\t c P/\∀z,P z->∃d,itemsOf z=some d/\∀J a,au H a->Bs X.K br (FB A M b) a J d->Q J a
theorem PI.imp{X:Cx}{tg e:Expr}{t t':TI}(h:PI X tg e t)(k:∀a H Q,t' a H Q->t a H Q):PI X tg e t':=λb s a H Q I w=>h b s a H Q I (k a H Q w)
section
variable{X:Cx}{M:Ms}{R:Addr->Prop}{e a b c tg:Expr}{t ta tb tc:WT}{m:Md}{pos p:Pos}{es:List Expr}{x:Str}{br:Bool}
theorem KD{l:Expr}{tl:TE}(w:PE X l tl):PI X tg l (λj H Q=>tl j H λx H1=>∃a,x=.ref a/\(((∃xs,iH X.K H1 a xs)/\Q (RD X.K a) H1)\/((∃xs,iB X.K H1 a xs)/\Q (RE X.K a) H1))):=by
 intro g s j H Q I h;refine bC (w g s j H _ I h) ?_;rintro v d ⟨x,H1,f,r,u⟩;obtain⟨a,e,q⟩:=u;subst e;cases r;rcases q with⟨⟨xs,k⟩,q⟩|⟨⟨xs,k⟩,q⟩
 .obtain⟨i,rv,p,hz⟩:=f.list k;refine YR p.isList ?_;refine⟨d.heap.objs.size,[d.heap.objs.size],_,_,H1,rfl,f.kept (t':=d.toks) λb o e=>Bi _ e,x9 a _,⟨_,Fu _ rfl,rfl,rfl⟩,λb n=>?_,q⟩;have e:b=d.heap.objs.size:=by simpa using n
  subst e;exact f.Dz (Bz _) (f.hok.fresh (Bz _))
 .obtain⟨i,rv,p,hz⟩:=f.tuple k;refine wpAny_pyIter_tuple (show d.heap.IsTuple a i.toArray from p) ?_;refine⟨d.heap.objs.size,[d.heap.objs.size],_,_,H1,rfl,f.kept (t':=d.toks) λb o e=>Bi _ e,uw a _,⟨_,Fu _ rfl,rfl,rfl⟩,λb n=>?_,q⟩;have e:b=d.heap.objs.size:=by simpa using n
  subst e;exact f.Dz (Bz _) (f.hok.fresh (Bz _))
noncomputable def Ph(K:Frag)(br:Bool):RL:=λB _ d w v=>aT K B d w v/\(br=false->Rep K B d w v)
theorem kO(h:VE X M R m e t):PE X e (tV X M R (Ph X.K br) t):=PE.imp h<|by rintro l H Q ⟨A,i,d,P,S,g,p,k⟩;exact⟨A,i,d,P,S,g,p,λw v j f s r=>k w v j f s ⟨(r.rep S.dom).b,λ_=>r.rep S.dom⟩⟩
theorem Pj(h:VB X M R e t):PE X e (tV X M R (Ph X.K true) t):=PE.imp h<|by rintro l H Q ⟨A,i,d,P,S,g,p,k⟩;exact⟨A,i,d,P,S,g,p,λw v j f s r=>k w v j f s ⟨r,λz=>by cases z⟩⟩
theorem Ph.lst{K:Frag}{B:Addr->Prop}{H H':Hp}{l:List W}{v:V}(h:Ph K br B H H' (.lst l) v):∃p vs,v=.ref p/\Rz H' p (.lst vs)/\(br=false->¬B p)/\af K B H' l vs:=by obtain⟨p,vs,rfl,f,d⟩:=h.1.lst;refine⟨p,vs,rfl,f,λe=>?_,d⟩;have:=h.2 e;obtain⟨i,_,g,n,_⟩:=this;cases g;exact n
theorem fh(r:PE X a (tV X M R (Ph X.K br) ta)):PI X tg a (EB X M R br ta):=PI.imp (KD r)<|by
 rintro y H Q ⟨A,w,q,P,S,u,h,k⟩;refine⟨A,w,q,P,S,u,h,λz v o hz j n=>?_⟩;obtain⟨B,g,k⟩:=k z hz;cases z with
 |lst l=>
  cases g;obtain⟨p,f,rfl,d,i,s⟩:=n.lst;exact⟨p,rfl,.inl ⟨⟨f,.inl d.rd⟩,k _ o j (.lst d i s)⟩⟩
 |tup l=>
  cases g;obtain⟨p,f,rfl,d,i⟩:=n.1.tup;exact⟨p,rfl,.inr ⟨⟨f,d⟩,k _ o j (.tup d i)⟩⟩
 |_=>exact nn g
theorem EC(u:Gl X "range")(q:X.mg "range"=none)(v:VE X M R .s a ta)(f:starEach [a] X.env=(false,eval a X.env)::starEach [] X.env):
 PI X tg (.Call (.Name "range" p) [a] [] pos) (EB X M R br (λd Q=>ta d λx=>Em [x] λl=>Q (.lst l))):=
 PI.imp (ya u q (aP v bS f) f)<|by
  rintro B H Q ⟨A,z,d,P,S,w,h,k⟩;refine⟨A,z,d,_,S,w,h,λx C y hz g i=>?_⟩;cases x with
  |int j=>obtain⟨o,n,hz⟩:=hz;obtain⟨D,r,k⟩:=k _ hz;cases r;cases i.aO.int_inv;exact⟨j,rfl,o,n,k _ y g (.p9 0 j.toNat)⟩
  |_=>exact hz.elim
theorem ED(B:Gl X "range")(w:X.mg "range"=none)(D:VE X M R .s a ta)(C:VE X M R .s b tb)(n:starEach [a,b] X.env=(false,eval a X.env)::starEach [b] X.env)(d:starEach [b] X.env=(false,eval b X.env)::starEach [] X.env):
 PI X tg (.Call (.Name "range" p) [a,b] [] pos) (EB X M R br (λf Q=>ta f λx=>tb f λy=>Em [x,y] λl=>Q (.lst l))):=
 PI.imp (yb B w (aP D (aP C bS d) n) (by rw[n,d];rfl) d)<|by
  rintro F H Q ⟨A,q,f,P,S,o,h,k⟩;refine⟨A,q,f,_,S,o,h,λx J L hz g u=>⟨A,q,f,_,S.same g,o,hz,λy I E hz s2 r=>?_⟩⟩;cases x with
  |int i=>
   cases y with
   |int j=>obtain⟨v,hz⟩:=hz;obtain⟨K,z,k⟩:=k _ hz;cases z;cases u.aO.int_inv;cases r.aO.int_inv;exact⟨i,j,rfl,v,k _ E (g.trans s2) (.p9 i (j -i).toNat)⟩
   |_=>exact hz.elim
  |_=>exact hz.elim
theorem EF(F:Gl X "range")(D:X.mg "range"=none)(K:VE X M R .s a ta)(J:VE X M R .s b tb)(I:VE X M R .s c tc)(u:starEach [a,b,c] X.env=(false,eval a X.env)::starEach [b,c] X.env)(f:starEach [b,c] X.env=(false,eval b X.env)::starEach [c] X.env)(q:starEach [c] X.env=(false,eval c X.env)::starEach [] X.env):
 PI X tg (.Call (.Name "range" p) [a,b,c] [] pos) (EB X M R br (λd Q=>ta d λx=>tb d λy=>tc d λz=>Em [x,y,z] λl=>Q (.lst l))):=
 PI.imp (yF F D (aP K (aP J (aP I bS q) f) u) (by rw[u,f,q];rfl) (by rw[f,q];rfl))<|by
  rintro N H Q ⟨A,r,d,P,S,o,h,k⟩;refine⟨A,r,d,_,S,o,h,λx U H1 hz g B=>⟨A,r,d,_,S.same g,o,hz,λy T Z hz s2 w=>⟨A,r,d,_,S.same (g.trans s2),o,hz,λz O L hz s3 v=>?_⟩⟩⟩;cases x with
  |int i=>
   cases y with
   |int j=>
    cases z with
    |int l=>obtain⟨n,C,hz⟩:=hz;obtain⟨Y,E,k⟩:=k _ hz;cases E;cases B.aO.int_inv;cases w.aO.int_inv;cases v.aO.int_inv;exact⟨i,j,l,n,rfl,C,k _ L ((g.trans s2).trans s3) (.EA i l n)⟩
    |_=>exact hz.elim
   |_=>exact hz.elim
  |_=>exact hz.elim
end
noncomputable def up(M:Ms)(n:Nat):Ms:=M.map λx=>(x.1+n,x.2)
section
variable{K:Frag}{M:Ms}{A:Fz}{H0 H H1:Hp}{σ v0:St}{ε δ:Ev}
theorem j5{n i:Nat}{m:Md}:(i,m)∈up M n↔n<=i/\(i -n,m)∈M:=by
 unfold up;rw[Hn];constructor
 .rintro⟨⟨j,b⟩,a,e⟩;cases e;exact⟨Nat.le_add_left _ _,by rw[NG];exact a⟩
 .rintro⟨h,a⟩;exact⟨(i -n,m),a,by simp;omega⟩
theorem cT{n i:Nat}:aJ (up M n) i↔n<=i/\aJ M (i -n):=by
 constructor
 .rintro⟨m,h⟩;exact⟨(j5.mp h).1,m,(j5.mp h).2⟩
 .rintro⟨h,m,a⟩;exact⟨m,j5.mpr ⟨h,a⟩⟩
theorem mZ{n i:Nat}(c:δ.length=n)(h:n<=i):look (δ++ε) i=look ε (i -n):=by
 have e:∀w,look (δ++ε) i=some w↔look ε (i -n)=some w:=λw=>by rw[aU,aU,KM (by lia),c]
 cases b:look ε (i -n)with
 |none=>
  cases a:look (δ++ε) i with
  |none=>rfl
  |some w=>rw[e]at a;rw[b]at a;cases a
 |some w=>exact(e w).mpr b
theorem SR.block(S:SR K M A H0 σ H ε){n:Nat}(r:v0.length=n)(s:au H H1){D:Addr}{o:HO}(x:H D=none)(I:H1 D=some o):SR K (up M n) ⟨λq=>A.ab q\/q=D,λq=>A.B q\/q=D,none⟩ H0 (v0++σ) H1 (A0 n none++ε):=by
 obtain⟨F,O⟩:=S.ow;have hd:(A0 n (none:Option W)).length=n:=by simp
 have y:∀{i:Nat},n<=i->(v0++σ)[i]?=σ[i -n]?:=λ{i} h=>by rw[KM (by lia),r]
 have u:∀p o,H p=some o->(A.B p\/p=D)->A.B p:=λp o e z=>by
  rcases z with z|rfl
  .exact z
  .rw[x]at e;cases e
 refine⟨by rw[Dx,Dx,r,hd,S.len],λi w c e=>?_,S.sm.trans s,λp z=>?_,(λv e=>by cases e),λi=>F (i -n),⟨λi m C a b=>O.un _ m C (j5.mp a).2 (j5.mp b).2,λi m w E e=>?_,λi c e=>?_,λi c=>O.nd _ (cT.mp c).2,λi j p c t a b=>?_,λi p c d=>O.nw _ p (cT.mp c).2 d,λi p c d z=>?_,λp=>?_⟩⟩
 .by_cases f:n<=i
  .rw[mZ hd f]at e;rw[y f];obtain⟨v,k,g⟩:=S.sh (i -n) w (λz=>c (cT.mpr ⟨f,z⟩)) e;exact⟨v,k,Rep.mv s u w g⟩
  .rw[aU,P2 (by rw[hd];lia),YN,FM (by lia)]at e;cases e
 .rcases z with z|rfl
  .exact(S.dm.same s) p z
  .exact⟨_,I⟩
 .obtain⟨f,l⟩:=j5.mp E;rw[mZ hd f]at e;rw[y f];obtain⟨v,k,g⟩:=O.val _ m w l e;exact⟨v,k,Fp.mv s u m g⟩
 .obtain⟨f,l⟩:=cT.mp c;rw[mZ hd f]at e;exact O.emp _ l e
 .have:=O.ds _ _ p (cT.mp c).2 (cT.mp t).2 a b;have:=(cT.mp c).1;have:=(cT.mp t).1;lia
 .rcases z with z|rfl
  .exact O.na _ p (cT.mp c).2 d z
  .obtain⟨o,e,_⟩:=O.has (cT.mp c).2 d;rw[x]at e;cases e
 .constructor
  .rintro(z|rfl)
   .rcases(O.all p).mp z with z|⟨i,c,d⟩
    .exact .inl (.inl z)
    .exact .inr ⟨i+n,cT.mpr ⟨by lia,by rw[NG];exact c⟩,by rw[NG];exact d⟩
   .exact .inl (.inr rfl)
  .rintro((z|rfl)|⟨i,c,d⟩)
   .exact .inl ((O.all p).mpr (.inl z))
   .exact .inr rfl
   .exact .inl ((O.all p).mpr (.inr ⟨i -n,(cT.mp c).2,d⟩))
end
noncomputable def Pk:List Nat->HF
 |[]=>NV
 |i::a=>HG (fD i) (Pk a)
noncomputable def gT(K:Frag)(b:Bool)(a:List Nat):TG:=
 match b,a with
 |true,[i]=>fD i
 |true,_=>λ_ _ _ _=>False
 |false,a=>Jf K a.length (Pk a)
noncomputable def b8(a:St):List Nat->List V->St
 |i::b,v::vs=>b8 (a.set i (some v)) b vs
 |_,_=>a
theorem sQ:∀(b:List Nat)(vs:List V)(a:St),(b8 a b vs).length=a.length
 |[],vs,a=>by rw[b8];simp
 |i::b,[],a=>by rw[b8];simp
 |i::b,v::vs,a=>by rw[b8,sQ b vs,NM]
theorem sR{n:Nat}:∀(c:List Nat)(vs:List V)(b a:St),b.length=n->(∀i∈c,i<n)->b8 (b++a) c vs=b8 b c vs++a
 |[],vs,b,a,_,_=>by rw[b8,b8]<;>simp
 |i::c,[],b,a,_,_=>by rw[b8,b8]<;>simp
 |i::c,v::vs,b,a,d,h=>by have hi:=h i Bn;rw[b8,b8,List.set_append_left _ _ (by lia),sR c vs _ a (by rw[NM];exact d) λj e=>h j (B1 _ e)]
section
variable{K:Frag}{M:Ms}{A:Fz}{H0 H:Hp}
theorem Bt:∀(a:List Nat)(vs:List V)(b:St)(Q:St->Hp->Prop),vs.length=a.length->Q (b8 b a vs) H->Pk a vs b H Q
 |[],[],b,Q,_,q=>⟨rfl,q⟩
 |[],_::_,_,_,h,_=>by cases h
 |_::_,[],_,_,h,_=>by cases h
 |i::a,v::vs,b,Q,h,q=>⟨v,vs,rfl,Bt a vs _ Q (by simpa using h) (by rw[b8]at q;exact q)⟩
theorem SR.bU:∀(a:List Nat)(c:List W)(vs:List V){b:St}{d:Ev},(∀i∈a,¬aJ M i)->SR K M A H0 b H d->af K (FB A M b) H c vs->c.length=a.length->SR K M A H0 (b8 b a vs) H (bU d a c)
 |[],c,vs,b,d,_,S,_,_=>by rw[b8,VL.bU]<;>first|exact S|simp
 |i::a,[],vs,b,d,_,S,_,h=>by cases h
 |i::a,w::c,vs,b,d,e,S,r,h=>by obtain⟨v,f,rfl,m,l⟩:=r.cons_inv;rw[b8,VL.bU];have k:=e i Bn;exact SR.bU a c f (λj g=>e j (B1 _ g)) (S.set k m) l (by simpa using h)
theorem tgt{c:St}{e:Ev}{b:Bool}{a:List Nat}{w:W}{v:V}{P:Ev->Prop}{Q:St->Hp->Prop}(m:∀i∈a,¬aJ M i)(S:SR K M A H0 c H e)(j:Rep K (FB A M c) H w v)(h:wT b a w e P)
 (k:∀vs d,P d->SR K M A H0 (b8 c a vs) H d->Q (b8 c a vs) H):gT K b a v c H Q:=by
 cases b with
 |true=>
  match a,h with
  |[i],h=>
   have:=k [v] (e.set i (some w)) h (by rw[b8,b8]<;>first|exact S.set (m i Bn) j|simp);rw[b8,b8]at this
   .exact this
   .simp
 |false=>
  cases w with
  |tup l=>obtain⟨f,h⟩:=h;obtain⟨p,vs,rfl,n,g⟩:=j;exact⟨p,vs,rfl,iB.of n,by rw[g.len,f],Bt a vs c Q (by rw[g.len,f]) (k vs _ h (SR.bU a l vs m S g f))⟩
  |_=>exact h.elim
end
theorem PF.imp{X:Cx}{e:List Expr}{t t':TT}(h:PF X e t)(k:∀a H Q,t' a H Q->t a H Q):PF X e t':=λb s a H Q I w=>h b s a H Q I (k a H Q w)
noncomputable def Sl(K:Frag)(M:Ms)(t:WT):TE:=λb H Q=>∃A d c P,SR K M A d b H c/\t c P/\∀w v a,P w->au H a->Rep K (FB A M b) a w v->Q v a
noncomputable def Sm(K:Frag)(M:Ms)(t:WT):TT:=λd H Q=>∃A e a P,SR K M A e d H a/\t a P/\∀x c,P x->au H c->∃b,x=.bl b/\Q b c
section
variable{X:Cx}{M:Ms}{R:Addr->Prop}{tg iter elt:Expr}{ifs:List Expr}{scope:Scope}{xs N':List Str}{pos:Pos}{ti tc te:WT}{one:Bool}{ts:List Nat}
theorem sS(L:∀i∈ts,i<xs.length)(n:St)(H:Hp)(Q:VK)
 (hh:tV X M R (Ka X.K .f) (λt Q=>ti t λz=>items z λc=>lA (λw K=>wT one ts w (A0 xs.length none++t) λa=>tc a λx=>truth x λk=>if k=true then te a λy=>K (some y)else K none) c [] λl=>Q (.lst l)) n H Q):
 A5 xs.length (EB X M R true ti) (gT X.K one ts) (Sm X.K (up M xs.length) tc) (Sl X.K (up M xs.length) te) n H Q:=by
 obtain⟨A,H0,t,P,S,er,h,k⟩:=hh;refine⟨A,H0,t,_,S,er,h,λz hz=>?_⟩;obtain⟨c,ez,hw⟩:=pO.mp hz;refine⟨c,ez,λJ H1 s1 it D Y=>?_⟩;have iw:=it.iw;generalize O:(λ(w:W)(K:Option W->Prop)=>wT one ts w (A0 xs.length none++t) λa=>tc a λx=>truth x λk=>if k=true then te a λy=>K (some y)else K none)=f at hw;have UD:H D=none:=s1.free Y;refine⟨λi m g=>∃d r,m=c.length -i/\i<=c.length/\au H1 g/\g D=some (.lst r)/\af X.K (λq=>FB A M n q\/q=D) g d r/\lA f (c.drop i) d (λl=>P (.lst l)),
  ⟨c.length,[],[],rfl,L9 _,aF Y _,aq,.nil,hw⟩,?_⟩
 rintro i m g ⟨d,r,rfl,hi,s2,Q2,F,v⟩;by_cases E:i<c.length
 .refine .inr ⟨iw.go i g s2 E,λx T y u s=>?_⟩;have hwi:c[i]?=some c[i]:=DL E;rw[Qr E]at v;generalize c[i]=w at*;obtain⟨s3,I⟩:=iw.yl i g x T w s2 hwi y;have Wd:au H T:=s1.trans (s2.trans s3);have We:T D=some (.lst r):=s3 _ _ Q2;have S3:SR X.K (up M xs.length) ⟨λq=>A.ab q\/q=D,λq=>A.B q\/q=D,none⟩ H0 (u++n) T (A0 xs.length none++t):=S.block s Wd UD We;have Wf:Rep X.K (λq=>A.B q\/q=D) T w x:=by
   refine I _ λp o e z=>?_;rcases z with z|rfl
   .exact z
   .rw[Y]at e;cases e
  have hM:∀j∈ts,¬aJ (up M xs.length) j:=λj hj z=>by have:=(cT.mp z).1;have:=L j hj;lia
  rw[lA,<-O]at v;rw[O]at v;refine tgt hM S3 Wf v λC a hp S4=>?_;have e4:b8 (u++n) ts C=b8 u ts C++n:=sR ts C u n s L;rw[e4]at S4⊢;have hv1:(b8 u ts C).length=xs.length:=by rw[sQ];exact s
  refine⟨b8 u ts C,hv1,rfl,⟨_,H0,a,_,S4,hp,λq H5 U s5=>?_⟩⟩;obtain⟨b,rfl,U⟩:=aV U;refine⟨b,rfl,?_⟩;have Z:au g H5:=s3.trans s5;cases b with
  |false=>exact⟨c.length -(i+1),by lia,d,r,rfl,E,s2.trans Z,Z _ _ Q2,F.same Z,U⟩
  |true=>
   refine⟨_,H0,a,_,S4.same s5,U,λy vy H6 hy s6 ry=>?_⟩;obtain⟨N,hy⟩:=hy;have Sn:=Z.trans s6;have UE:=Sn _ _ Q2;refine⟨r,UE,by rw[F.len];exact N,c.length -(i+1),by lia,d++[y],r++[vy],rfl,E,λb o e=>?_,aq,?_,hy⟩
   .rw[ay (bw e Y)];exact Sn _ _ (s2 _ _ e)
   .have Wg:Rep X.K (λq=>A.B q\/q=D) H6 y vy:=ry;exact af.put UE (.inr rfl) _ ((F.same Sn).app (.cons Wg .nil))
 .have e:i=c.length:=by lia
  subst e;refine .inl ⟨iw.st _ g s2 rfl,?_⟩;rw[U6,lA]at v;exact k _ _ g v (s1.trans s2) (.new UD Q2 (F.less λp z=>.inl z) F)
theorem EG(s:X.calm=true)(o:cS scope X.env.scope X.N N' xs=true)(e:∀i∈ts,i<xs.length)(p:PI X tg iter (EB X M R true ti))(q:∀C b d c,PG (aM X scope C xs N' b d c) tg (gT X.K one ts))
 (r:∀C b d c,PF (aM X scope C xs N' b d c) ifs (Sm X.K (up M xs.length) tc))(he:∀C b d c,PE (aM X scope C xs N' b d c) elt (Sl X.K (up M xs.length) te))(n:∀z,foldedSetIterable iter X.env z=pure z):
 VE X M R .f (.ListComp elt [⟨tg,iter,ifs,0⟩] scope pos) (λg Q=>ti g λz=>items z λm=>lA (λw K=>wT one ts w (A0 xs.length none++g) λa=>tc a λx=>truth x λk=>if k=true then te a λy=>K (some y)else K none) m [] λl=>Q (.lst l)):=
 PE.imp (Ef xs N' s o p q r he n) λj H Q h=>sS e j H Q h
end
section
variable{K:Frag}{M M':Ms}{A:Fz}{H0 H H1:Hp}{σ:St}{ε:Ev}
theorem SR.rb(S:SR K M A H0 σ H ε):∃f,SR K M A f σ H ε/\au H0 f/\au f H/\(∀p o,H p=some o->(wj o=true/\A.B p)\/f p=some o):=by
 classical
 obtain⟨F,O⟩:=S.ow;have d:∀p o,(if(∃i,aJ M i/\p∈F i)then none else H p)=some o->H p=some o:=λp o z=>by
  split at z
  .cases z
  .exact z
 refine⟨λp=>if(∃i,aJ M i/\p∈F i)then none else H p,⟨S.len,S.sh,d,S.dm,S.sl,F,⟨O.un,O.val,O.emp,O.nd,O.ds,λi p c a=>FM ⟨i,c,a⟩,O.na,O.all⟩⟩,λb o z=>?_,d,λp o z=>?_⟩
 .try dsimp only
  rw[Da]
  .exact S.sm _ _ z
  .rintro⟨i,c,e⟩;rw[O.nw i b c e]at z;cases z
 .by_cases a:∃i,aJ M i/\p∈F i
  .have g:=a;obtain⟨i,c,a⟩:=a;obtain⟨j,e,h⟩:=O.has c a;rw[z]at e;cases e;exact .inl ⟨h,(O.all p).mpr (.inr g)⟩
  .exact .inr ((Da a).trans z)
end
section
variable{K:Frag}{B A:Addr->Prop}{H Hs:Hp}
theorem Bs.low{J:It}{f:List W}(h:∀p o,H p=some o->(wj o=true/\B p)\/Hs p=some o)(d:∀p,A p->B p)(i:Bs K false B H J f):Bs K false A Hs J f:=by
 have rd:∀{a:Addr}{b:List V},Rz H a (.lst b)->¬B a->Rz Hs a (.lst b):=λ{a b} r n=>by
  rcases h a _ r.at with⟨_,z⟩|z
  .exact(n z).elim
  .exact .inl z
 cases i with
 |lst q n r=>exact .lst (rd q (n rfl)) (λe z=>n e (d _ z)) (af.chg h (λp _ _ z=>d p z) _ r)
 |@tup a b _ q r=>
  refine .tup ?_ (af.chg h (λp _ _ z=>d p z) _ r);rcases q with(q|⟨o,q⟩)|q
  .rcases h a _ q with⟨z,_⟩|z
   .cases z
   .exact .inl (.inl z)
  .rcases h a _ q with⟨z,_⟩|z
   .cases z
   .exact .inl (.inr ⟨o,z⟩)
  .exact .inr q
 |p9 c n=>exact .p9 c n
 |EA c g n=>exact .EA c g n
end
abbrev WS:=Dn->Ev->Prop
noncomputable def dw:Md->Bool
 |.io _=>true
 |_=>false
noncomputable def u6(K:Frag)(b:Addr->Prop)(g:Option V)(f H':Hp)(m:Md)(w:W)(v:V):Prop:=
 match m with
 |.io h=>∃c d e a,w=.tup [c,d]/\g=some e/\a.Nodup/\(∀p∈a,f p=none/\¬b p)/\Fp K (λp=>b p\/p∈a) H' h d e a/\Rep K (λp=>b p\/p∈a) H' c v
 |m=>cD K b f H' m w v
theorem u6.of{K:Frag}{a:Addr->Prop}{c:Option V}{b H':Hp}{m:Md}{w:W}{v:V}(d:dw m=false)(h:cD K a b H' m w v):u6 K a c b H' m w v:=by
 cases m with
 |io _=>cases d
 |_=>exact h
theorem u6.back{K:Frag}{d:Addr->Prop}{a:Option V}{f e H':Hp}{m:Md}{w:W}{v:V}(s:au f e)(h:u6 K d a e H' m w v):u6 K d a f H' m w v:=by
 cases m with
 |io r=>obtain⟨g,i,j,q,o,n,l,c,k⟩:=h;exact⟨g,i,j,q,o,n,l,λp b=>⟨s.free (c p b).1,(c p b).2⟩,k⟩
 |_=>exact cD.back s (λ_ z=>z) h
structure KS(X:Cx)(M:Ms)(m:Md)(ab:Addr->Prop)(s0:Option V)(H0:Hp)(d:Dn)(D:Ends):Prop where
 nx:∀A ε σ H,A.ab=ab->A.s0=s0->d.nx ε->SR X.K M A H0 σ H ε->D.nx σ H
 rt:∀w v H',d.rt w->au H0 H'->u6 X.K ab s0 H0 H' m w v->D.rt v H'
 bk:∀A ε σ H,A.ab=ab->A.s0=s0->d.bk ε->SR X.K M A H0 σ H ε->D.bk σ H
 ct:∀A ε σ H,A.ab=ab->A.s0=s0->d.ct ε->SR X.K M A H0 σ H ε->D.ct σ H
noncomputable def sV(X:Cx)(M:Ms)(m:Md)(t:WS):TS:=λD c H=>∃A a b d,SR X.K M A a c H b/\ER X a d.ex/\A.s0.isSome=dw m/\t d b/\KS X M m A.ab A.s0 a d D
abbrev VS(X:Cx)(M:Ms)(m:Md)(st:Stmt)(t:WS):Prop:=PS X st (sV X M m t)
abbrev wH(X:Cx)(M:Ms)(m:Md)(st:List Stmt)(t:WS):Prop:=rP X st (sV X M m t)
theorem PS.imp{X:Cx}{e:Stmt}{t t':TS}(h:PS X e t)(k:∀D a H,t' D a H->t D a H):PS X e t':=λb s a H D I w=>h b s a H D I (k D a H w)
theorem rP.imp{X:Cx}{e:List Stmt}{t t':TS}(h:rP X e t)(k:∀D a H,t' D a H->t D a H):rP X e t':=λb s a H D I w=>h b s a H D I (k D a H w)
section
variable{X:Cx}{M M':Ms}{R:Addr->Prop}{m mr m0:Md}{st:Stmt}{rest:List Stmt}{t u:WS}{e e1 e2 c:Expr}{te t1 t2 tc:(Addr->Prop)->WT}{pos pos':Pos}{x:Str}{i:Nat}{π:List gQ}
theorem EH:wH X M m [] (λd a=>d.nx a):=rP.imp Dv<|by rintro D b H ⟨A,g,a,d,S,f,hz,h,k⟩;exact k.nx A a b H rfl rfl h S
theorem EI(h:VS X M m st t):wH X M m [st] t:=qc h
theorem Bu(h:VS X M m st t)(k:wH X M m rest u):wH X M m (st::rest) (λd b=>t {d with nx:=u d} b):=
 rP.imp (jd h k)<|by rintro D r H ⟨A,j,b,d,S,f,hz,h,k⟩;exact⟨A,j,b,{d with nx:=u d},S,f,hz,h,λq a l s o g n p=>⟨q,j,a,d,p,f,(by rw[g];exact hz),n,by rw[o,g];exact k⟩,k.rt,k.bk,k.ct⟩
theorem EJ{st:List Stmt}(h:wH X M' m st t)(j:∀x∈M',x∈M)(g:dw m=true->aJ M 0->aJ M' 0):wH X M m st (λd a=>t {d with nx:=λ_=>False,bk:=λ_=>False,ct:=λ_=>False} a):=rP.imp h<|by rintro D B H ⟨A,p,a,d,S,l,hz,h,k⟩;obtain⟨y,n,b,_,o⟩:=S.sub (M':=M') j A.s0 (λv e=>⟨e,g (by rw[<-hz,e];rfl) (S.sl v e).2⟩);refine⟨y,p,a,{d with nx:=λ_=>False,bk:=λ_=>False,ct:=λ_=>False},o,l,by rw[b];exact hz,h,λ_ _ _ _ _ _ z=>z.elim,λw v q f s r=>k.rt w v q f s ?_,λ_ _ _ _ _ _ z=>z.elim,λ_ _ _ _ _ _ z=>z.elim⟩;rw[b,n]at r;exact r
theorem KG:VS X M m (.Break pos) (λd a=>d.bk a):=PS.imp An<|by rintro D b H ⟨A,g,a,d,S,f,hz,h,k⟩;exact k.bk A a b H rfl rfl h S
theorem EK(f:∀{l:TE},PE X e l->PS X st (mq l (fD i)))(j:∀x,x∈M↔x=(i,m0)\/x∈M')(E:¬aJ M' i)(g:dw m=true->i≠0)(he:∀R,VE X M' R m0 e (te R)):VS X M m st (λd b=>te d.ex b λw=>d.nx (b.set i (some w))):=by
 rintro a s o H D I ⟨A,U,b,d,S,K,hz,h,k⟩;have J:∀v,A.s0=some v->A.s0=some v/\aJ M' 0:=λv e=>by
  refine⟨e,?_⟩;have C:dw m=true:=by rw[<-hz,e];rfl
  obtain⟨q,F⟩:=(S.sl v e).2;rcases(j _).mp F with z|z
  .cases z;exact(g C rfl).elim
  .exact⟨q,z⟩
 obtain⟨Z,N,L,hb,n⟩:=S.sub (M':=M') (λx y=>(j x).mpr (.inr y)) A.s0 J;refine f (he d.ex) a s o H D I ⟨Z,U,b,_,n,K,h,λw v T B p r=>?_⟩;obtain⟨Y,P,O,_,Q⟩:=n.own j E p r;exact k.nx Y _ _ T (P.trans N) (O.trans L) B Q
theorem KH{f:List Nat}(g:∀{j:TE},PE X e j->PS X st (mq j (gT X.K false f)))(z:∀i∈f,¬aJ M i)(he:∀R,VE X M R .s e (te R)):
 VS X M m st (λd b=>te d.ex b λw=>match w with|.tup l=>l.length=f.length/\d.nx (bU b f l)|_=>False):=by
 rintro a s o H D I ⟨A,F,b,d,S,B,hz,h,k⟩;refine g (he d.ex) a s o H D I ⟨A,F,b,_,S,B,h,λw v E n q r=>?_⟩;cases w with
 |tup l=>exact tgt (P:=d.nx) z (S.same q) r.aO n λJ p y C=>k.nx A _ _ E rfl rfl y C
 |_=>exact n.elim
theorem KI{a:List Nat}{es:List Expr}{ta:(Addr->Prop)->Ev->(List W->Prop)->Prop}(n:∀{o:TA},PA X es o->PS X st (λD f H=>o f H λvs H1=>vs.length=a.length/\D.nx (b8 f a vs) H1))(q:∀i∈a,¬aJ M i)(he:∀R,VA X M R es (ta R)):
 VS X M m st (λd g=>ta d.ex g λj=>j.length=a.length/\d.nx (bU g a j)):=by
 rintro b s f H D I ⟨A,w,g,d,S,v,hz,h,k⟩;refine n (he d.ex) b s f H D I ⟨A,w,g,_,S,v,h,λj vs H1 l p r=>?_⟩;exact⟨by rw[af.len r,l.1],k.nx A _ _ H1 rfl rfl l.2 (SR.bU a j vs q (S.same p) r l.1)⟩
theorem lS{K:Frag}{A:Fz}{L H:Hp}{C:St}{D:Ev}{w:W}{l:List W}(S:SR K M A L C H D)(b:(i,m0)∈M)(hp:gq m0 π=some .f)(N:look D i=some w)(hu:bz w π=some (.lst l)):
 ∃v p vs,C[i]?=some (some v)/\rJ K H v π (.ref p)/\H p=some (.lst vs)/\af K A.B H l vs/\A.B p/\∀H1,au H H1->∀(d:List W)(a:List V),af K A.B H1 d a->
  ∃h,h.ab=A.ab/\h.s0=A.s0/\(∀q o,H1 q=some o->h.B q->A.B q)/\pL A.B H1 (upd H1 p (.lst a))/\SR K M h L C (upd H1 p (.lst a)) (D.set i (some (setAt w π (.lst d)))):=by
 obtain⟨F,O⟩:=S.ow;obtain⟨v,g,j⟩:=O.val i m0 w b N;obtain⟨v',Y,F',U,I,r,fp,y⟩:=Fp.path π m0 j hp hu;obtain⟨ws,p,vs,e1,rfl,rfl,E,h4⟩:=fp;cases e1;have Z:p∈F i:=by rw[I];simp
 have J:A.B p:=(O.all p).mpr (.inr ⟨i,⟨m0,b⟩,Z⟩);refine⟨v,p,vs,g,r,E,h4,J,λH1 s d a hr=>?_⟩;have Q:=S.same s;obtain⟨F0,O0⟩:=Q.ow;have O1:JV K M A L C H1 D F:=⟨O.un,λi m w b e=>let⟨v,g,j⟩:=O.val i m w b e;⟨v,g,Fp.mv s (λ_ _ _ z=>z) m j⟩,O.emp,O.nd,O.ds,O.nw,O.na,O.all⟩;have T:=s _ _ E;have P:pL A.B H1 (upd H1 p (.lst a)):=.put T rfl J;have Su:p∉Y++U:=by
  have:=O.nd i ⟨m0,b⟩;rw[I]at this;intro z;have g:=P3.mp this;rcases FK.mp z with z|z
  .have j:=P3.mp g.1;exact j.2.2 p z p (by simp) rfl
  .exact g.2.2 p (by simp) p z rfl
 have k:Fp K A.B (upd H1 p (.lst a)) m0 (setAt w π (.lst d)) v (Y++[p]++U):=by
  refine y (upd H1 p (.lst a)) A.B (.lst d) [p] ?_ (λq o e=>?_) (λq _ _ z=>z)
  .exact⟨d,p,a,rfl,rfl,rfl,aq,af.chg P (λ_ _ _ z=>z) d hr⟩
  .by_cases n:q=p
   .subst n;rw[E]at e;cases e;exact .inl ⟨rfl,J,Su⟩
   .exact .inr (by rw[ay n];exact s _ _ e)
 rw[<-I]at k;have hc:∀q o,H1 q=some o->(wj o=true/\q∈F i)\/upd H1 p (.lst a) q=some o:=λq o e=>by
  by_cases n:q=p
  .subst n;rw[T]at e;cases e;exact .inl ⟨rfl,Z⟩
  .exact .inr (by rw[ay n];exact e)
 have Pp:Fp K (λq=>(A.B q/\q∉F i)\/q∈F i) (upd H1 p (.lst a)) m0 (setAt w π (.lst d)) v (F i):=Fp.mv (au.refl _) (λq _ _ z=>by
  rcases z with z|z
  .exact z.1
  .exact(O.all q).mpr (.inr ⟨i,⟨m0,b⟩,z⟩)) m0 k
 obtain⟨h,a1,a2,_,a3,a4,a5⟩:=O1.chg (F':=F i) Q b N g hc (O.nd i ⟨m0,b⟩) (λq hq=>.inl hq) Pp;exact⟨h,a1,a2,a3,P,a5⟩
theorem Bv{a:Ev}{P:List W->Prop}(h:match look a i with|some (.lst l)=>P l|_=>False):∃l,look a i=some (.lst l)/\P l:=by
 cases b:look a i with
 |none=>rw[b]at h;exact h.elim
 |some d=>
  rw[b]at h;cases d with
  |lst l=>exact⟨l,rfl,h⟩
  |_=>exact h.elim
theorem Bw{b:Ev}{P:W->List W->Prop}(h:match look b i with|some a=>(match bz a π with|some (.lst l)=>P a l|_=>False)|none=>False):∃a l,look b i=some a/\bz a π=some (.lst l)/\P a l:=by
 cases f:look b i with
 |none=>rw[f]at h;exact h.elim
 |some a=>
  rw[f]at h;dsimp only at h;cases d:bz a π with
  |none=>rw[d]at h;exact h.elim
  |some u=>
   rw[d]at h;cases u with
   |lst l=>exact⟨a,l,rfl,d,h⟩
   |_=>exact h.elim
theorem UG:gq m0 []=some m0:=by cases m0<;>rfl
theorem Pq{w:W}:bz w []=some w:=by cases w<;>rfl
theorem Pr{w u:W}:setAt w [] u=u:=by cases w<;>rfl
theorem KJ(q:∀{y:TE},PE X e y->PS X st (mh (Ow X.K "list" lQ (j4 X.K i π) (rT y Az))))(L:(i,m0)∈M)(J:gq m0 π=some .f)(he:∀R,VE X M R .s e (te R)):
 VS X M m st (λd a=>match look a i with|some j=>(match bz j π with|some (.lst l)=>te d.ex a λw=>l.length<sizeLine/\d.nx (a.set i (some (setAt j π (.lst (l++[w])))))|_=>False)|none=>False):=by
 rintro g s E H D I ⟨A,Y,a,d,S,P,hz,h,k⟩;obtain⟨j,l,e1,e2,h⟩:=Bw h;obtain⟨F,p,n,O,N,C,B,hB,b⟩:=lS S L J e1 e2;refine q (he d.ex) g s E H D I ⟨F,_,O,N,.inl ⟨rfl,n,.inl (.inl C)⟩,A,Y,a,_,S,P,h,λw v U z o r=>?_⟩;obtain⟨Z,Q,a2,_,_,T⟩:=b U o (l++[w]) (n++[v]) ((B.same o).app (.cons r.aO .nil));exact⟨p,n,v,rfl,rfl,o _ _ C,by rw[B.len];exact z.1,k.nx Z _ _ _ Q a2 z.2 T⟩
theorem KL(o:∀{q:TE},PE X e q->PS X st (mh (Ow X.K "list" lQ (jc i) (rT q Az))))(F:(i,.f)∈M)(he:∀R,VE X M R .s e (te R)):
 VS X M m st (λd a=>match look a i with|some (.lst l)=>te d.ex a λw=>l.length<sizeLine/\d.nx (a.set i (some (.lst (l++[w]))))|_=>False):=by
 rintro g s E H D I ⟨A,Q,a,d,S,N,hz,h,k⟩;obtain⟨l,e1,h⟩:=Bv h;obtain⟨U,p,j,L,J,B,z,Y,b⟩:=lS (π:=[]) S F UG e1 Pq;cases J;refine o (he d.ex) g s E H D I ⟨_,L,.inl ⟨rfl,j,.inl (.inl B)⟩,A,Q,a,_,S,N,h,λw v P y n r=>?_⟩;obtain⟨T,O,a2,_,_,C⟩:=b P n (l++[w]) (j++[v]) ((z.same n).app (.cons r.aO .nil));rw[Pr]at C;exact⟨p,j,v,rfl,rfl,n _ _ B,by rw[z.len];exact y.1,k.nx T _ _ _ O a2 y.2 C⟩
theorem Bx(he:∀R,VE X [] R mr e (te R))(o:mr=m\/m=.s)(j:dw m=false):VS X M m (.Return (some e) pos) (λd b=>te d.ex b d.rt):=by
 rintro a s n H D I ⟨A,q,b,d,S,p,hz,h,k⟩;refine mj (he d.ex) a s n H D I ⟨_,q,b,_,S.go,p,h,λw v l g f r=>?_⟩;rcases o with rfl|rfl
 .exact k.rt w v l g (S.sm.trans f) (.of j (r.back S.sm λ_ z=>z))
 .exact k.rt w v l g (S.sm.trans f) (.of j ((r.s S.dm).back S.sm λ_ z=>z))
theorem EM(he:∀R,VE X M R .s e (te R)):VS X M .s (.Return (some e) pos) (λd b=>te d.ex b d.rt):=by rintro a s f H D I ⟨A,o,b,d,S,l,hz,h,k⟩;refine mj (he d.ex) a s f H D I ⟨A,o,b,_,S,l,h,λw v n j g r=>?_⟩;exact k.rt w v n j (S.sm.trans g) (.of rfl (cD.back S.sm S.sub' r))
theorem EN(he:∀R,VE X M R m e (te R))(l:dw m=false):VS X M m (.Return (some e) pos) (λd b=>te d.ex b d.rt):=by rintro a s f H D I ⟨A,p,b,d,S,n,hz,h,k⟩;refine mj (he d.ex) a s f H D I ⟨A,p,b,_,S,n,h,λw v o j g r=>?_⟩;exact k.rt w v o j (S.sm.trans g) (.of l (cD.back S.sm S.sub' r))
theorem EO(he:PE X e (jc i))(b:(i,m)∈M)(n:dw m=false):VS X M m (.Return (some e) pos) (λd f=>match look f i with|some w=>d.rt w|none=>False):=by
 rintro a s j H D I ⟨A,B,f,d,S,y,hz,h,k⟩
 try dsimp only at h
 cases g:look f i with
 |none=>rw[g]at h;exact h.elim
 |some w=>
  rw[g]at h;obtain⟨F,O⟩:=S.ow;obtain⟨v,r,o⟩:=O.val i m w b g;refine mj he a s j H D I ⟨_,r,k.rt _ _ H h S.sm (.of n ⟨F i,O.nd i ⟨m,b⟩,λp l=>O.nw i p ⟨m,b⟩ l,Fp.mv (au.refl _) (λq _ _ z=>?_) m o⟩)⟩;rcases z with z|z
  .exact(O.all q).mpr (.inl z)
  .exact(O.all q).mpr (.inr ⟨i,⟨m,b⟩,z⟩)
theorem qG{K:Frag}{A:Fz}{n H:Hp}{o:St}{h:Ev}{g b:W}{v:V}(S:SR K M A n o H h)(a:(0,m0)∈M)(q:look h 0=some b)(f:∃d,A.s0=some d)(r:Rep K A.B H g v):u6 K A.ab A.s0 n H (.io m0) (.tup [g,b]) v:=by obtain⟨d,f⟩:=f;obtain⟨F,O⟩:=S.ow;obtain⟨u,l,s⟩:=O.val 0 m0 b a q;rw[(S.sl d f).1]at l;cases l;have k:∀p,(A.ab p\/p∈F 0)->A.B p:=λp z=>(O.all p).mpr (z.imp id λz=>⟨0,⟨m0,a⟩,z⟩);exact⟨g,b,d,F 0,rfl,f,O.nd 0 ⟨m0,a⟩,λp j=>⟨O.nw 0 p ⟨m0,a⟩ j,O.na 0 p ⟨m0,a⟩ j⟩,Fp.mv (au.refl _) (λp _ _ z=>k p z) m0 s,r.less k⟩
theorem Pu{a b:List Stmt}(r:∀R,VT X M R c (tc R))(w:wH X M m a t)(v:wH X M m b u):VS X M m (.If c a b pos) (λd f=>tc d.ex f λx=>truth x λk=>if k=true then t d f else u d f):=by
 rintro g s p H D I ⟨A,n,f,d,S,l,hz,h,k⟩;refine HE (r d.ex) w v g s p H D I ⟨A,n,f,_,S,l,h,λx y j o=>?_⟩;obtain⟨q,rfl,j⟩:=aV j;refine⟨q,rfl,?_⟩;cases q with
 |true=>exact⟨A,n,f,d,S.same o,l,hz,j,k⟩
 |false=>exact⟨A,n,f,d,S.same o,l,hz,j,k⟩
end
theorem u7{X:Cx}{st:Stmt}{t:TS}(h:PS X.kI st t):PS X st t:=PS.kI h
section
variable{X:Cx}{M:Ms}{m:Md}{body:List Stmt}{tb:WS}{c iter tg:Expr}{tc:WT}{ti:(Addr->Prop)->WT}{pos:Pos}{one:Bool}{ts:List Nat}
theorem KN(L:VT X.kI M (λ_=>False) c tc)(O:wH X.kI M m body tb):VS X M m (.While c body [] pos) (λd r=>J5 (λr Q=>tc r λx=>truth x Q) tb d r):=by
 refine PS.imp (u7 (rQ PassesOwn.never L O)) ?_;rintro D T H ⟨A,u,r,d,S,U,hz,h,k⟩;obtain⟨J,⟨B,F⟩,s⟩:=h;refine⟨λn b f=>∃e a,e.ab=A.ab/\e.s0=A.s0/\J n a/\SR X.K M e u b f a,⟨B,A,r,rfl,rfl,F,S⟩,?_⟩;rintro n z Y ⟨y,v,t,p,E,w⟩;refine⟨y,u,v,_,w,.none,s n v E,λx R o s2=>?_⟩;obtain⟨q,rfl,o⟩:=aV o;refine⟨q,rfl,?_⟩;cases q with
 |true=>obtain⟨N,P,o⟩:=o;refine⟨λb f=>∃e a,e.ab=A.ab/\e.s0=A.s0/\N a/\SR X.K M e u b f a,λb f ⟨e,a,j,a2,i,g⟩=>?_,y,u,v,_,w.same s2,.none,(by rw[p];exact hz),o,⟨λe a b f j a2 i g=>⟨e,a,j.trans t,a2.trans p,i,g⟩,by rw[t,p];exact k.rt,λe a b f j a2 i g=>k.nx e a b f (j.trans t) (a2.trans p) i g,λe a b f j a2 i g=>⟨e,a,j.trans t,a2.trans p,i,g⟩⟩⟩;obtain⟨C,l,I⟩:=P a i;exact⟨C,l,e,a,j,a2,I,g⟩
 |false=>exact k.nx y _ _ R t p o (w.same s2)
theorem KO(hc:X.calm=true)(hM:∀i∈ts,¬aJ M i)(Z:PI X.kI tg iter (EB X.kI M (λ_=>False) false (ti λ_=>False)))(hg:PG X.kI tg (gT X.K one ts))(hb:wH X.kI M m body tb)(hs:∀x,foldedSetIterable iter X.env x=pure x):
 VS X M m (.For tg iter body [] pos) (λd I=>ti (λ_=>False) I λz=>items z λg=>ig (λw P a=>wT one ts w a λl=>tb P l) d g I):=by
 refine PS.imp (u7 (Jk PassesOwn.never hc Z hg hb hs)) ?_;rintro D σ H ⟨A,H0,I,d,S,er,hz,h,k⟩;refine⟨A,H0,I,_,S,.none,h,λz U=>?_⟩;obtain⟨g,ez,hw⟩:=pO.mp U;refine⟨g,ez,λJ H1 s1 it=>?_⟩;have S1:=S.same s1;obtain⟨N,Ss,Q,b1,b2⟩:=S1.rb;have low:Bs X.K false A.ab N J g:=it.low (λp o e=>b2 p o e) λp z=>S.sub' p z;have iw:=low.iw;refine⟨λi n f r=>n=g.length -i/\i<=g.length/\∃b a,b.ab=A.ab/\b.s0=A.s0/\SR X.K M b N f r a/\ig (λw P a=>wT one ts w a λl=>tb P l) d (g.drop i) a,⟨g.length,rfl,L9 _,A,I,rfl,rfl,Ss,hw⟩,?_⟩;have up:∀{b:Fz}{f:St}{r:Hp}{a:Ev},SR X.K M b N f r a->SR X.K M b H0 f r a:=λ{b f r a} q=>by obtain⟨F,O⟩:=q.ow;exact⟨q.len,q.sh,Q.trans q.sm,q.dm,q.sl,F,⟨O.un,O.val,O.emp,O.nd,O.ds,λi p Z e=>Q.free (O.nw i p Z e),O.na,O.all⟩⟩
 rintro i n T H2 ⟨rfl,hi2,A2,c9,C,B,E,R⟩;by_cases u:i<g.length
 .refine .inr ⟨iw.go i H2 E.sm u,λf r=>∃b a,b.ab=A.ab/\b.s0=A.s0/\SR X.K M b N f r a/\ig (λw P a=>wT one ts w a λl=>tb P l) d (g.drop (i+1)) a,by rintro f r ⟨b,a,v,a2,t,s⟩;exact⟨g.length -(i+1),by omega,rfl,u,b,a,v,a2,t,s⟩,λx H3 y=>?_⟩;have Y:g[i]?=some g[i]:=DL u;rw[Qr u,ig]at R;generalize g[i]=w at*;obtain⟨s3,L⟩:=iw.yl i H2 x H3 w E.sm Y y;have hr:Rep X.K (FB A2 M T) H3 w x:=L _ λp o e z=>by
   obtain⟨F,O⟩:=E.ow;rcases(O.all p).mp z with z|⟨j,hj,e2⟩
   .rw[C]at z;exact z
   .rw[O.nw j p hj e2]at e;cases e
  refine tgt hM (E.same s3) hr R λvs a hp S4=>?_;exact⟨A2,N,a,_,S4,.none,(by rw[B];exact hz),hp,⟨λb l Pw UH v a2 t s=>⟨b,l,v.trans C,a2.trans B,s,t⟩,λw' v' r t s q3=>k.rt w' v' r t (Q.trans s) (by rw[C,B]at q3;exact q3.back Q),λb l Pw UH v a2 t s=>k.nx b _ _ _ (v.trans C) (a2.trans B) t (up s),λb l Pw UH v a2 t s=>⟨b,l,v.trans C,a2.trans B,s,t⟩⟩⟩
 .have e:i=g.length:=by omega
  subst e;refine .inl ⟨iw.st _ H2 E.sm rfl,?_⟩;rw[U6,ig]at R;exact k.nx A2 _ _ _ C B R (up E)
end
structure Go(A:Fz)(H:Hp)(A':Fz)(H':Hp):Prop where
 ab:A'.ab=A.ab
 s0:A'.s0=A.s0
 B:∀p o,H p=some o->A'.B p->A.B p
 ch:pL A.B H H'
theorem Go.same{A:Fz}{H H':Hp}(s:au H H'):Go A H A H':=⟨rfl,rfl,λ_ _ _ z=>z,.same s⟩
theorem Go.trans{A c b:Fz}{H H1 a:Hp}(g:Go A H c H1)(k:Go c H1 b a):Go A H b a:=by
 refine⟨k.ab.trans g.ab,k.s0.trans g.s0,λp o e z=>?_,λp o e=>?_⟩
 .rcases g.ch p o e with⟨_,y⟩|y
  .exact y
  .exact g.B p o e (k.B p o y z)
 .rcases g.ch p o e with y|y
  .exact .inl y
  .rcases k.ch p o y with⟨f,d⟩|h
   .exact .inl ⟨f,g.B p o e d⟩
   .exact .inr h
theorem Go.rep{K:Frag}{A a:Fz}{H H1:Hp}{w:W}{v:V}(g:Go A H a H1)(h:Rep K A.B H w v):Rep K a.B H1 w v:=Rep.chg g.ch g.B w h
theorem Go.Sv{K:Frag}{A a:Fz}{H H1:Hp}{w:List W}{v:List V}(g:Go A H a H1)(h:af K A.B H w v):af K a.B H1 w v:=af.chg g.ch g.B w h
abbrev u9:=Ev->(W->Ev->Prop)->Prop
abbrev KQ:=Ev->(List W->Ev->Prop)->Prop
noncomputable def tP(X:Cx)(M:Ms)(R:Addr->Prop)(t:u9):TE:=λe H Q=>∃A c f P,SR X.K M A c e H f/\ER X c R/\t f P/\∀d w v b a,P w a->Go A H d b->SR X.K M d c e b a->Rep X.K d.B b w v->Q v b
noncomputable def UI(X:Cx)(M:Ms)(R:Addr->Prop)(t:u9):TT:=λe H Q=>∃A c f P,SR X.K M A c e H f/\ER X c R/\t f P/\∀g x d a,P x a->Go A H g d->SR X.K M g c e d a->∃b,x=.bl b/\Q b d
noncomputable def Wh(X:Cx)(M:Ms)(R:Addr->Prop)(t:KQ):TA:=λe H Q=>∃A c f P,SR X.K M A c e H f/\ER X c R/\t f P/\∀d g h b a,P g a->Go A H d b->SR X.K M d c e b a->af X.K d.B b g h->Q h b
abbrev VP(X:Cx)(M:Ms)(R:Addr->Prop)(e:Expr)(t:u9):Prop:=PE X e (tP X M R t)
abbrev wJ(X:Cx)(M:Ms)(R:Addr->Prop)(e:Expr)(t:u9):Prop:=PT X e (UI X M R t)
abbrev Ia(X:Cx)(M:Ms)(R:Addr->Prop)(e:Expr)(t:u9):Prop:=PW X e (UI X M R t)
abbrev Dg(X:Cx)(M:Ms)(R:Addr->Prop)(es:List Expr)(t:KQ):Prop:=PA X es (Wh X M R t)
section
variable{X:Cx}{M:Ms}{R:Addr->Prop}{m m0:Md}{e a b c:Expr}{es rest:List Expr}{t ta tb:u9}{tl:KQ}{pos apos cpos p:Pos}{i j:Nat}{st:Stmt}{x:Str}{π:List gQ}
theorem Px{t:WT}(h:VE X M R .s e t):VP X M R e (λd Q=>t d λw=>Q w d):=PE.imp h<|by rintro o H Q ⟨A,l,d,P,S,g,h,k⟩;exact⟨A,l,d,_,S,g,h,λw v n f s r=>k A w v n d f (.same s) (S.same s) r.aO⟩
theorem KR{t:WT}(h:VT X M R e t):wJ X M R e (λd Q=>t d λw=>Q w d):=PT.imp h<|by rintro o H Q ⟨A,l,d,P,S,g,h,k⟩;exact⟨A,l,d,_,S,g,h,λw n f s=>k A w n d f (.same s) (S.same s)⟩
theorem KU{op:Operator}(ha:VP X M R a ta)(hb:VP X M R b tb):VP X M R (.BinOp a op b pos) (λD Q=>ta D λx J=>tb J λy f=>eu op x y λz=>Q z f):=by rintro n s N H Q I ⟨A,L,D,P,S,U,p,k⟩;refine wpAny_BinOp (bin ha hb I (R:=λC q l=>∃x y d f,eu op x y (λz=>P z f)/\Go A H d l/\SR X.K M d L N l f/\Rep X.K d.B l x C/\Rep X.K d.B l y q) ⟨A,L,D,_,S,U,p,λA1 x C H1 J F g1 S1 Z=>⟨A1,L,J,_,S1,U,F,λd y q l f E T o Y=>⟨x,y,d,f,E,g1.trans T,o,T.rep Z,Y⟩⟩⟩ ?_);rintro v u s2 C q l I2 rv ru ⟨x,y,d,f,h,g,o,F,E⟩;exact uZ op n s2 N l d.B x y C q v u _ Q I2 o.dom rv ru F.b E.b h λw z H' pw O r=>k d w z H' f pw (g.trans (.same O)) (o.same O) (r.rep o.dom)
theorem KW{op:CmpOp}(hu:X.A.units+64<cLine)(hm:behindInMarks op b=false)(ha:VP X M R a ta)(hb:VP X M R b tb):VP X M R (.Compare a [op] [b] pos) (λD Q=>ta D λx J=>tb J λy f=>dz op x y λz=>Q z f):=by rintro n s N H Q I ⟨A,L,D,P,S,U,p,k⟩;refine wpAny_Compare1 (bin ha hb I (R:=λC q l=>∃x y d f,dz op x y (λz=>P z f)/\Go A H d l/\SR X.K M d L N l f/\Rep X.K d.B l x C/\Rep X.K d.B l y q) ⟨A,L,D,_,S,U,p,λA1 x C H1 J F g1 S1 Z=>⟨A1,L,J,_,S1,U,F,λd y q l f E T o Y=>⟨x,y,d,f,E,g1.trans T,o,T.rep Z,Y⟩⟩⟩ ?_) hm;rintro v u s2 C q l I2 rv ru ⟨x,y,d,f,h,g,o,F,E⟩;exact qF hu op n s2 N l d.B x y C q v u _ Q I2 o.dom rv ru F.b E.b h λw z H' pw O r=>k d w z H' f pw (g.trans (.same O)) (o.same O) (r.rep o.dom)
theorem ES{op:CmpOp}(hu:X.A.units+64<cLine)(hm:behindInMarks op b=false)(ha:VP X M R a ta)(hb:VP X M R b tb):wJ X M R (.Compare a [op] [b] pos) (λJ Q=>ta J λx O=>tb O λy n=>dz op x y λz=>Q z n):=by
 rintro l s F H Q I ⟨A,T,J,P,S,er,p,k⟩;have q:=bin ha hb I (R:=λD C o=>∃x y d n,dz op x y (λz=>P z n)/\Go A H d o/\SR X.K M d T F o n/\Rep X.K d.B o x D/\Rep X.K d.B o y C) ⟨A,T,J,_,S,er,p,λA1 x D H1 O N g1 S1 rx=>⟨A1,T,O,_,S1,er,N,λd y C o n L Z E ry=>⟨x,y,d,n,L,g1.trans Z,E,Z.rep rx,ry⟩⟩⟩
  (f:=compareOp op) (Q:=EP X l F λz U=>∃b,z=.bl b/\Q b U)<|by rintro v u s2 D C o I2 rv ru ⟨x,y,d,n,h,g,E,N,L⟩;refine qF hu op l s2 F o d.B x y D C v u _ _ I2 E.dom rv ru N.b L.b h λw z U pw Y r=>?_;obtain⟨b,rfl,q⟩:=k d w U n pw (g.trans (.same Y)) (E.same Y);exact⟨b,r.aO.iM,q⟩
 refine wpAny_isTrue_Compare1 (bC q λv s1 q1=>bC q1 λu s2 q2=>bC q2 λc s3 ⟨z,H3,I3,r3,b,ez,q3⟩=>?_) hm;subst ez;cases r3;exact QP ⟨H3,I3,q3⟩
theorem wK(he:∀d,isTrue e X.env d=(do let v<-d;standAt e.pos;holding [v] (truthy v)))(h:VP X M R e t):wJ X M R e t:=PT.imp (Ah h he)<|by rintro y H Q ⟨A,u,f,P,S,o,h,k⟩;refine⟨A,u,f,P,S,o,h,λw x B s q l n r g=>?_⟩;obtain⟨b,rfl,z⟩:=k w _ s q l n r;exact⟨b,g.iM,z⟩
theorem By(d:wJ X M R a ta):Ia X M R (.BoolOp .And [a] pos) ta:=vV d
theorem ET(z:wJ X M R a ta)(w:Ia X M R (.BoolOp .And (b::rest) pos) tb):Ia X M R (.BoolOp .And (a::b::rest) pos) (λg Q=>ta g λx d=>truth x λk=>if k=true then tb d Q else Q (.bl false) d):=
 PW.imp (Aj z w)<|by
  rintro J H Q ⟨A,s,g,P,S,n,h,k⟩;refine⟨A,s,g,_,S,n,h,λu x F o f l r=>?_⟩;obtain⟨q,rfl,f⟩:=aV f;refine⟨q,rfl,?_⟩;cases q with
  |true=>exact⟨u,s,o,P,r,n,f,λI y E C v B D=>k I _ E C v (l.trans B) D⟩
  |false=>obtain⟨b,e,q⟩:=k u _ F o f l r;cases e;exact q
theorem EU(d:wJ X M R a ta):Ia X M R (.BoolOp .Or [a] pos) ta:=Ai d
theorem KY(z:wJ X M R a ta)(w:Ia X M R (.BoolOp .Or (b::rest) pos) tb):Ia X M R (.BoolOp .Or (a::b::rest) pos) (λg Q=>ta g λx d=>truth x λk=>if k=true then Q (.bl true) d else tb d Q):=
 PW.imp (HD z w)<|by
  rintro J H Q ⟨A,s,g,P,S,n,h,k⟩;refine⟨A,s,g,_,S,n,h,λu x F o f l r=>?_⟩;obtain⟨q,rfl,f⟩:=aV f;refine⟨q,rfl,?_⟩;cases q with
  |false=>exact⟨u,s,o,P,r,n,f,λI y E C v B D=>k I _ E C v (l.trans B) D⟩
  |true=>obtain⟨b,e,q⟩:=k u _ F o f l r;cases e;exact q
theorem EV:Dg X M R [] (λd Q=>Q [] d):=PA.imp bS<|by rintro f H Q ⟨A,l,d,P,S,g,h,k⟩;exact k A [] [] H d h (.same (au.refl H)) S .nil
theorem BA(v:starEach (a::es) X.env=(false,eval a X.env)::starEach es X.env)(y:VP X M R a ta)(w:Dg X M R es tl):Dg X M R (a::es) (λd Q=>ta d λx l=>tl l λxs g=>Q (x::xs) g):=
 PA.imp (aP y w v)<|by rintro I H Q ⟨A,q,d,P,S,o,h,k⟩;refine⟨A,q,d,_,S,o,h,λF x J L l u z C r=>⟨F,q,l,_,C,o,u,λE xs K D g f n B s=>?_⟩⟩;exact k E _ _ D g f (z.trans n) B (.cons (n.rep r) s)
theorem Py(T:jg b)(Y:VP X M R a ta)(U:VP X M R b tb):VP X M R (.Subscript a b pos) (λD Q=>ta D λx K=>tb K λy g=>HW x y λz=>Q z g):=PE.imp (AF uM Y U T)<|by
 rintro σ H Q ⟨A,N,D,P,S,L,h,k⟩;refine⟨A,N,D,_,S,L,h,λA1 x vx H1 K O s Z f=>⟨A1,N,K,_,Z,L,O,λC y vy B g d q u r=>?_⟩⟩;have f:=(q.rep f).b;cases x with
 |lst l=>
  cases y with
  |int i=>obtain⟨p,E,rfl,o,I⟩:=f.lst;obtain⟨w,e,d⟩:=d;obtain⟨v,J,F⟩:=wC I e;exact .inl ⟨p,E,i,v,rfl,r.int_inv,.inl o.rd,J,k C _ _ B g d (s.trans q) u F⟩
  |_=>exact d.elim
 |tup l=>
  cases y with
  |int i=>obtain⟨p,E,rfl,o,I⟩:=f.tup;obtain⟨w,e,d⟩:=d;obtain⟨v,J,F⟩:=wC I e;exact .inr (.inl ⟨p,E,i,v,rfl,r.int_inv,o,J,k C _ _ B g d (s.trans q) u F⟩)
  |_=>exact d.elim
 |di ns=>
  cases y with
  |int i=>obtain⟨p,rfl,o⟩:=f.di;obtain⟨n,e,d⟩:=d;exact .inl ⟨p,_,i,_,rfl,r.int_inv,o,wD e,k C _ _ B g d (s.trans q) u (dj _)⟩
  |_=>exact d.elim
 |str z=>
  cases y with
  |int i=>
   cases f.str;obtain⟨hz,n,e,d⟩:=d;exact .inr (.inr ⟨z,i,n,rfl,r.int_inv,hz,e,k C _ _ B g d (s.trans q) u (oE _)⟩)
  |_=>exact d.elim
 |_=>exact d.elim
theorem af.bl{K:Frag}{B:Addr->Prop}{H:Hp}:∀{d:List W}{vs:List V},af K B H d vs->kN K B H d vs
 |[],_,h=>h.nil_inv
 |w::d,_,h=>by obtain⟨v,r,rfl,g,f⟩:=h.cons_inv;exact⟨v,r,rfl,g.b,f.bl⟩
theorem KZ{bi:BI}{id:String}(J:aZ X (.builtin id) (Ky X.K bi))(I:Gl X x)(F:X.mg x=none)(D:bootBuiltins x=some (.builtin id))(L:Dg X M R (e::es) tl)(E:x≠"__name__")(n:(x==("__debug__":Str))=false)
 (he:starEach (e::es) X.env=(false,eval e X.env)::starEach es X.env)(l:(backTo pos (starEach es X.env)).any (·.1)=false):VP X M R (.Call (.Name x p) (e::es) [] pos) (λf Q=>tl f λg d=>ly bi g λw=>Q w d):=
 PE.imp (gA J I F D L E n he l)<|by rintro Y H Q ⟨A,T,f,P,S,O,h,k⟩;exact⟨A,T,f,_,S,O,h,λu g Z H1 s C N o y=>⟨u.B,g,λw=>P w s,o.dom,y.bl,C,λw v U z q r=>k u w v U s z (N.trans (.same q)) (o.same q) (r.rep o.dom)⟩⟩
theorem K0{bi:BI}{id:String}(J:aZ X (.type id) (Ky X.K bi))(I:Gl X x)(F:X.mg x=none)(D:bootBuiltins x=some (.type id))(L:Dg X M R (e::es) tl)(E:x≠"__name__")(n:(x==("__debug__":Str))=false)
 (he:starEach (e::es) X.env=(false,eval e X.env)::starEach es X.env)(l:(backTo pos (starEach es X.env)).any (·.1)=false):VP X M R (.Call (.Name x p) (e::es) [] pos) (λf Q=>tl f λg d=>ly bi g λw=>Q w d):=
 PE.imp (gO J I F D L E n he l)<|by rintro Y H Q ⟨A,T,f,P,S,O,h,k⟩;exact⟨A,T,f,_,S,O,h,λu g Z H1 s C N o y=>⟨u.B,g,λw=>P w s,o.dom,y.bl,C,λw v U z q r=>k u w v U s z (N.trans (.same q)) (o.same q) (r.rep o.dom)⟩⟩
theorem EW(o:∀{q:TE},PE X e q->PS X st (mq q (fD j)))(z:¬aJ M j){tt:(Addr->Prop)->u9}(he:∀R,VP X M R e (tt R)):VS X M m st (λd n=>tt d.ex n λw f=>d.nx (f.set j (some w))):=by rintro l s u H D I ⟨A,F,n,d,S,B,hz,h,k⟩;exact o (he d.ex) l s u H D I ⟨A,F,n,_,S,B,h,λJ w v E f y g C r=>k.nx J _ _ E g.ab g.s0 y (C.set z r)⟩
theorem EX{tt:(Addr->Prop)->u9}(o:∀R,PS X st (mh (tP X M R (tt R)))):VS X M m st (λd n=>tt d.ex n λw f=>d.nx f):=by rintro l s q H D I ⟨A,C,n,d,S,y,hz,h,k⟩;exact o d.ex l s q H D I ⟨A,C,n,_,S,y,h,λE w v B f u g z r=>k.nx E _ _ B g.ab g.s0 u z⟩
theorem BB{x y:List Stmt}{tx v:WS}{tt:(Addr->Prop)->u9}(E:∀R,wJ X M R c (tt R))(J:wH X M m x tx)(F:wH X M m y v):VS X M m (.If c x y pos) (λd o=>tt d.ex o λx f=>truth x λk=>if k=true then tx d f else v d f):=by
 rintro l s C H D I ⟨A,u,o,d,S,r,hz,h,k⟩;refine HE (E d.ex) J F l s C H D I ⟨A,u,o,_,S,r,h,λB x K w n g z=>?_⟩;obtain⟨q,rfl,n⟩:=aV n;refine⟨q,rfl,?_⟩;cases q with
 |true=>exact⟨B,u,w,d,z,r,(by rw[g.s0];exact hz),n,by rw[g.ab,g.s0];exact k⟩
 |false=>exact⟨B,u,w,d,z,r,(by rw[g.s0];exact hz),n,by rw[g.ab,g.s0];exact k⟩
theorem K1{u:List Stmt}{tb:WS}{tt:u9}(hc:wJ X.kI M (λ_=>False) c tt)(hb:wH X.kI M m u tb):VS X M m (.While c u [] pos) (λd E=>O3 (λE Q=>tt E λx f=>truth x λk=>Q k f) tb d E):=by
 refine PS.imp (u7 (rQ PassesOwn.never hc hb)) ?_;rintro D σ H ⟨A,I,E,d,S,er,hz,h,k⟩;obtain⟨J,⟨m0,Z⟩,F⟩:=h;refine⟨λn o v=>∃r f,r.ab=A.ab/\r.s0=A.s0/\J n f/\SR X.K M r I o v f,⟨m0,A,E,rfl,rfl,Z,S⟩,?_⟩;rintro n T H1 ⟨A1,L,z,s,Y,S1⟩;refine⟨A1,I,L,_,S1,.none,F n L Y,λP x H2 c9 C g O=>?_⟩;obtain⟨q,rfl,C⟩:=aV C;refine⟨q,rfl,?_⟩;have z:=g.ab.trans z;have s:=g.s0.trans s;cases q with
 |true=>obtain⟨N,hN,C⟩:=C;refine⟨λo v=>∃r f,r.ab=A.ab/\r.s0=A.s0/\N f/\SR X.K M r I o v f,λo v ⟨r,f,B,a2,y,w⟩=>?_,P,I,c9,_,O,.none,(by rw[s];exact hz),C,⟨λr f o v B a2 y w=>⟨r,f,B.trans z,a2.trans s,y,w⟩,by rw[z,s];exact k.rt,λr f o v B a2 y w=>k.nx r f o v (B.trans z) (a2.trans s) y w,λr f o v B a2 y w=>⟨r,f,B.trans z,a2.trans s,y,w⟩⟩⟩;obtain⟨U,l,j'⟩:=hN f y;exact⟨U,l,r,f,B,a2,j',w⟩
 |false=>exact k.nx P _ _ H2 z s C O
theorem K2{te:(Addr->Prop)->WT}(he:∀R,VE X M R .s e (te R))(y:(0,m0)∈M):VS X M (.io m0) (.Return (some e) pos) (λd f=>te d.ex f λw=>match look f 0 with|some o=>(d.rt (.tup [w,o]))|none=>False):=by
 rintro g s u H D I ⟨A,C,f,d,S,z,hz,h,k⟩;refine mj (he d.ex) g s u H D I ⟨A,C,f,_,S,z,h,λw v B l q r=>?_⟩;cases n:look f 0 with
 |none=>rw[n]at l;exact l.elim
 |some o=>rw[n]at l;exact k.rt _ v B l (S.sm.trans q) (qG (S.same q) y n (Q1.mp hz) r.aO)
theorem K3(q:(0,m0)∈M):VS X M (.io m0) (.Return none pos) (λd g=>match look g 0 with|some n=>(d.rt (.tup [.aI,n]))|none=>False):=by
 rintro f s o H D I ⟨A,u,g,d,S,r,hz,h,k⟩
 try dsimp only at h
 cases l:look g 0 with
 |none=>rw[l]at h;exact h.elim
 |some n=>rw[l]at h;exact vW f s o H D I (k.rt _ _ H h S.sm (qG S q l (Q1.mp hz) O5))
end
section
variable{X:Cx}{M:Ms}{R:Addr->Prop}{m m0:Md}{e o a b c:Expr}{es rest:List Expr}{t ta tb:u9}{tl:KQ}{pos apos cpos p:Pos}{i j n:Nat}{st:Stmt}{x:Str}{π:List gQ}
theorem EY{k n:Nat}{fv:Value}{sp:aW}(F:b3 X.prog X.w X.K X.mg X.base k fv n (Dd X.K n m sp))(hr:cC k X.A)(hg:Gl X x)(hm:X.mg x=some fv)
 (hn:∀d P R,sp d P R->d.length=n)(ha:Dg X M R (e::es) tl)(O:(x==("__debug__":Str))=false)(he:starEach (e::es) X.env=(false,eval e X.env)::starEach es X.env)(N:(backTo pos (starEach es X.env)).any (·.1)=false):
 VP X M R (.Call (.Name x p) (e::es) [] pos) (λD Q=>tl D λd z=>sp d (λw=>Q w z) R):=by
 rintro q s Y H Q I ⟨A,H0,D,P,S,er,h,kk⟩;obtain⟨E,pE,hE,hR⟩:=er;refine YI (qb I hg hm ?_ O);refine callWith_K (h₀:=X.base) I.ok.mod.NH F.keep (bC (ha pos q s Y H (λJ u=>∃d f g,Go A H f u/\SR X.K M f H0 Y u g/\af X.K f.B u d J/\sp d (λw=>P w g) R) I ⟨A,H0,D,_,S,⟨E,pE,hE,hR⟩,h,λf d J u g hw T l L=>⟨d,f,g,T,l,L,hw⟩⟩) λus s1 hz=>?_) he N;obtain⟨J,u,I1,r,d,f,g,T,l,L,Z⟩:=hz;exact⟨I1.jO,F.run hr pE I1 r ⟨f.B,d,_,R,hn _ _ _ Z,L,l.dom,Z,λw v U pw y r'=>kk f w v U g pw (T.trans (.same y)) (l.same y) (r'.rep l.dom),λC U rc y=>hE C U rc (l.sm.trans y)⟩⟩
theorem Ib{K:Frag}{A:Fz}{N H:Hp}{l:St}{q:Ev}{k:W}{sp:aW}{g:List W}{vs:List V}{P:W->Ev->Prop}{Q:VK}{E:XK}{s:V}(S:SR K M A N l H q)(I:(i,m0)∈M)(U:look q i=some k)(T:l[i]?=some (some s))(rs:af K A.B H g vs)(hn:g.length+1=n)
 (h:sp (k::g) (λr=>∃w y,r=.tup [w,y]/\P w (q.set i (some y))) R)(hE:∀C H',R C->au N H'->E (.ref C) none H')(kk:∀f w v H' d,P w d->Go A H f H'->SR K M f N l H' d->Rep K f.B H' w v->Q v H'):Pg K n m0 sp (s::vs) H Q E:=by
 obtain⟨F,O⟩:=S.ow;obtain⟨v,Y,h2⟩:=O.val i m0 k I U;rw[T]at Y;cases Y;have J:aJ M i:=⟨m0,I⟩;have Z:∀p,((A.B p/\p∉F i)\/p∈F i)->A.B p:=λp z=>by
  rcases z with z|z
  .exact z.1
  .exact(O.all p).mpr (.inr ⟨i,J,z⟩)
 refine⟨λp=>A.B p/\p∉F i,F i,k,s,g,vs,_,R,rfl,hn,O.nd i J,λp hp z=>z.2 hp,λp z=>S.dom p z.1,Fp.mv (au.refl _) (λp _ _ z=>Z p z) m0 h2,rs.less Z,h,λw y v F' H' D L nd nw fp u=>?_,λC H' rc L=>hE C H' rc λp o e=>?_⟩
 .obtain⟨w',y',e,D⟩:=D;cases e;obtain⟨f,a1,a2,aB,a3,a4,S'⟩:=O.chg (F':=F') S I U T (λp o e=>(L p o e).imp (λz=>⟨z.1,z.2⟩) id) nd nw fp;exact kk f w v H' _ D ⟨a1,a2,a3,a4⟩ S' (u.less λp z=>(aB p).mp z)
 .rcases L p o (S.sm p o e)with⟨_,z⟩|z
  .rw[O.nw i p J z]at e;cases e
  .exact z
theorem K4{pl:Sem Bool}{G:W}{k n:Nat}{f:Addr}{fd:FuncData}{ps fs:List Str}{ms:List Md}{sp:aW}(hG:∀C,G=.cls C->Meth X.K C x f)(F:bE X.prog X.w X.K X.mg X.base (iC X.prog X.w) k f fd ps (Pg X.K n (.o fs ms) sp))(hr:cC k X.A)(hb:Binds X.K fd ps [])(hi:(i,.o fs ms)∈M)(Z:fs.contains x=false)
 (hn:∀D P R,sp D P R->D.length=n)(hv:PE X o (jc i))(ha:Dg X M R (e::es) tl)(hst:starEach (e::es) X.env=(false,eval e X.env)::starEach es X.env)(hpl:(backTo pos (starEach es X.env)).any (·.1)=false)
 (ht:eval (.Call (.Attribute o x apos) (e::es) [] pos) X.env=(do
   let ov<-eval o X.env
   standAt apos.atName
   let(f,first)<-holding [ov] (getMethod ov x pl)
   callWith pos f first (backTo pos (starEach (e::es) X.env)) (backToKw pos (keywordEach [] X.env)))):
 VP X M R (.Call (.Attribute o x apos) (e::es) [] pos) (λY Q=>match look Y i with|some (.obj C _ _)=>G=.cls C/\(tl Y λD J=>match look J i with|some N=>sp (N::D) (λr=>∃w y,r=.tup [w,y]/\Q w (J.set i (some y))) R|none=>False)|_=>False):=by
 rintro L s σ H Q I ⟨A,H0,Y,P,S,er,h,kk⟩;obtain⟨E,pE,hE,hR⟩:=er
 try dsimp only at h
 cases hl:look Y i with
 |none=>rw[hl]at h;exact h.elim
 |some w1=>
  rw[hl]at h;cases w1 with
  |obj C fs' Wi=>
   obtain⟨hg,h⟩:=h;obtain⟨F0,O0⟩:=S.ow;obtain⟨v0,hv0,Sw⟩:=O0.val i _ _ hi hl;obtain⟨C',dx,cy,q,OL,F',e1,rfl,e3,h1,h2,hc,_⟩:=Sw;cases e1;have lk:(fs.zip OL).lookup x=none:=by
    have:∀(l:List Str)(r:List V),l.contains x=false->(l.zip r).lookup x=none:=λl=>by
     induction l with
     |nil=>intro r _;rfl
     |cons y l ih=>
      intro r Z;cases r with
      |nil=>rfl
      |cons z r=>rw[Sk,YW]at Z;rw[E7,DV,Z.1];exact ih r Z.2
    exact this fs OL Z
   have mt:=hG C hg;refine YT (pl:=pl) (bC (hv L s σ H (λv' H'=>v'=V.ref q/\H'=H) I ⟨_,hv0,rfl,rfl⟩) λu s1 ⟨x1,H1,I1,rx,ex,eh⟩=>?_) ht;subst ex;subst eh;obtain rfl:u=Value.ref q:=rx;refine iI I1 h1 hc.1 mt lk ?_;refine callWith_K (first:=[.ref q]) (h₀:=X.base) I.ok.mod.NH mt.kp (bC (ha pos L s1 σ H1 (λvs' Sx=>∃D U T N,Go A H1 U Sx/\SR X.K M U H0 σ Sx T/\af X.K U.B Sx D vs'/\look T i=some N/\sp (N::D) (λr=>∃w y,r=.tup [w,y]/\P w (T.set i (some y))) R) I1 ⟨A,H0,Y,_,S,⟨E,pE,hE,hR⟩,h,λU D vs H1 T O g1 S1 rs=>?_⟩) λus s2 hz=>?_) hst hpl
   .try dsimp only at O
    cases d:look T i with
    |none=>rw[d]at O;exact O.elim
    |some N=>rw[d]at O;exact⟨D,U,T,N,g1,S1,rs,d,O⟩
   .obtain⟨vs,H2,I2,r,D,U,T,N,g1,S1,rs,d,uJ⟩:=hz;refine⟨I2.jO,qf (us:=.ref q::us) (vs:=.ref q::vs) (ds:=[]) (zM:=[]) F hr hb .nil pE I2 (.cons rfl r) ?_⟩;rw[Kx];exact Ib S1 hi d hv0 rs (by have:=hn _ _ _ uJ;simpa using this) uJ hE λA' w v H' J O g S' rr=>kk A' w v H' J O (g1.trans g) S' rr
  |_=>exact h.elim
end
theorem K5{x:Str}:∀(l:List Str)(r:List V),l.contains x=false->(l.zip r).lookup x=none:=λl=>by
 induction l with
 |nil=>intro r _;rfl
 |cons y l b=>
  intro r a;cases r with
  |nil=>rfl
  |cons z r=>rw[Sk,YW]at a;rw[E7,DV,a.1];exact b r a.2
theorem BC{x:Str}{n:Nat}{v:V}:∀(l:List Str)(r:List V)(n:Nat),l.Nodup->l[n]?=some x->r[n]?=some v->(l.zip r).lookup x=some v:=λl=>by
 induction l with
 |nil=>intro r n _ e _;exact nn e
 |cons y l g=>
  intro r n b c a;cases r with
  |nil=>exact nn a
  |cons z r=>
   rw[E7,DV];cases n with
   |zero=>
    cases c;cases a;rw[Pm]
   |succ n=>
    have d:l[n]?=some x:=by simpa using c
    have f:(x==y)=false:=by rw[Pl];rintro rfl;exact(Hk.mp b).1 (KE d)
    rw[f];exact g r n (Hk.mp b).2 d (by simpa using a)
theorem EZ{x:Str}{v:V}:∀(l:List Str)(r:List V)(n:Nat),l.Nodup->l[n]?=some x->r.length=l.length->fW x v (l.zip r)=l.zip (r.set n v):=λl=>by
 induction l with
 |nil=>intro r n _ e _;exact nn e
 |cons y l g=>
  intro r n b d c;cases r with
  |nil=>cases c
  |cons z r=>
   cases n with
   |zero=>
    cases d;rw[List.set_cons_zero,E7,E7,fW];rw[FM (by first|rfl|simp)]
   |succ n=>
    have f:l[n]?=some x:=by simpa using d
    have a:y≠x:=by rintro rfl;exact(Hk.mp b).1 (KE f)
    rw[SV,E7,E7,fW];rw[Da (by first|exact a|simpa using a),g r n (Hk.mp b).2 f (by simpa using c)]
section
variable{X:Cx}{M:Ms}{R:Addr->Prop}{m m0:Md}{e o a b c:Expr}{es rest:List Expr}{t ta tb:u9}{tl:KQ}{pos apos cpos p:Pos}{i j n:Nat}{st:Stmt}{x:Str}{π:List gQ}
theorem E2{pl:Sem Bool}{G:W}{k n:Nat}{f:Addr}{Z:FuncData}{ps D:List Str}{U:List Md}{sp:aW}(hG:∀C,G=.cls C->Meth X.K C x f)(F:bE X.prog X.w X.K X.mg X.base (iC X.prog X.w) k f Z ps (Pg X.K n (.o D U) sp))(hr:cC k X.A)(hb:Binds X.K Z ps [])(Y:(i,.o D U)∈M)(hx:D.contains x=false)
 (hn:∀O P R,sp O P R->O.length=n)(hv:PE X o (jc i))
 (ht:eval (.Call (.Attribute o x apos) [] [] pos) X.env=(do
   let ov<-eval o X.env
   standAt apos.atName
   let(f,first)<-holding [ov] (getMethod ov x pl)
   callWith pos f first (backTo pos (starEach [] X.env)) (backToKw pos (keywordEach [] X.env)))):
 VP X M R (.Call (.Attribute o x apos) [] [] pos) (λd Q=>match look d i with|some (.obj C _ _)=>G=.cls C/\(match look d i with|some w0=>sp [w0] (λr=>∃w y,r=.tup [w,y]/\Q w (d.set i (some y))) R|none=>False)|_=>False):=by
 rintro l s σ H Q I ⟨A,H0,d,P,S,er,h,kk⟩;obtain⟨E,pE,hE,hR⟩:=er
 try dsimp only at h
 cases B:look d i with
 |none=>rw[B]at h;exact h.elim
 |some w1=>
  rw[B]at h;cases w1 with
  |obj C fs' Wi=>obtain⟨hg,h⟩:=h;obtain⟨F0,O0⟩:=S.ow;obtain⟨v0,z,Sw⟩:=O0.val i _ _ Y B;obtain⟨C',dx,cy,q,OL,F',e1,rfl,e3,h1,h2,hc,_⟩:=Sw;cases e1;have T:=hG C hg;refine YT (pl:=pl) (bC (hv l s σ H (λv' N=>v'=V.ref q/\N=H) I ⟨_,z,rfl,rfl⟩) λu s1 ⟨x1,H1,L,rx,ex,eh⟩=>?_) ht;subst ex;subst eh;obtain rfl:u=Value.ref q:=rx;refine iI L h1 hc.1 T (K5 D OL hx) ?_;refine PySem.W.callWith_K0 (first:=[.ref q]) L.jO T.kp (qf (us:=[.ref q]) (vs:=[.ref q]) (ds:=[]) (zM:=[]) F hr hb .nil pE L (.cons rfl .nil) ?_);exact Ib S Y B z .nil (by have:=hn _ _ _ h;simpa using this) h hE λA' w v N J hw g S' rr=>kk A' w v N J hw g S' rr
  |_=>exact h.elim
theorem SR.more{K:Frag}{A:Fz}{u H H1:Hp}{h:St}{k:Ev}{G:List Addr}(S:SR K M A u h H k)(s:au H H1)(nw:∀q∈G,H q=none)(ex:∀q∈G,∃o,H1 q=some o):SR K M ⟨λq=>A.ab q\/q∈G,λq=>A.B q\/q∈G,A.s0⟩ u h H1 k:=by
 obtain⟨F,O⟩:=S.ow;have r:∀p o,H p=some o->(A.B p\/p∈G)->A.B p:=λp o e z=>by
  rcases z with z|z
  .exact z
  .rw[nw p z]at e;cases e
 refine⟨S.len,λi w d e=>?_,S.sm.trans s,λp z=>?_,S.sl,F,⟨O.un,λi m w y e=>?_,O.emp,O.nd,O.ds,O.nw,λi p d l z=>?_,λp=>?_⟩⟩
 .obtain⟨v,g,f⟩:=S.sh i w d e;exact⟨v,g,Rep.mv s r w f⟩
 .rcases z with z|z
  .exact S.dm.same s p z
  .exact ex p z
 .obtain⟨v,g,f⟩:=O.val i m w y e;exact⟨v,g,Fp.mv s r m f⟩
 .rcases z with z|z
  .exact O.na i p d l z
  .obtain⟨o,e,_⟩:=O.has d l;rw[nw p z]at e;cases e
 .show(A.B p\/p∈G)↔_;rw[O.all p];constructor
  .rintro((z|z)|z)
   .exact .inl (.inl z)
   .exact .inr z
   .exact .inl (.inr z)
  .rintro((z|z)|z)
   .exact .inl (.inl z)
   .exact .inr z
   .exact .inl (.inr z)
theorem BD(h:PE X e (jc i)):PE X e (j4 X.K i []):=PE.imp h<|by rintro g H Q ⟨v,u,f,d,q⟩;cases d;exact⟨v,f,q⟩
theorem rJ.ix{K:Frag}{H:Hp}{n:Nat}:∀(π:List gQ){v u:V},rJ K H v (π++[.ix n]) u->∃p vs,rJ K H v π (.ref p)/\(H p=some (.tup vs)\/H p=some (.lst vs))/\vs[n]?=some u
 |[],v,u,h=>by obtain⟨p,vs,x,e,k,g,f⟩:=h;cases f;exact⟨p,vs,by rw[e];rfl,k,g⟩
 |.ix m::π,v,u,h=>by obtain⟨p,vs,x,e,k,g,f⟩:=h;obtain⟨q,d,a,b,c⟩:=rJ.ix π f;exact⟨q,d,⟨p,vs,x,e,k,g,a⟩,b,c⟩
 |.fl m _::π,v,u,h=>by obtain⟨p,vs,x,e,k,g,f⟩:=h;obtain⟨q,d,a,b,c⟩:=rJ.ix π f;exact⟨q,d,⟨p,vs,x,e,k,g,a⟩,b,c⟩
theorem Pz(h:PE X a (j4 X.K i π))(s:PE X b (tC (.int n)))(l:jg b):PE X (.Subscript a b pos) (j4 X.K i (π++[.ix n])):=
 PE.imp (AF uM h s l)<|by rintro z H Q ⟨v,u,y,w,g⟩;obtain⟨q,f,r,d,k⟩:=rJ.ix π w;exact⟨v,.ref q,y,r,d.elim (λd=>.inr (.inl ⟨q,f,n,u,rfl,rfl,iB.of d,qi k,g⟩)) λd=>.inl ⟨q,f,n,u,rfl,rfl,iH.of d,qi k,g⟩⟩
theorem rJ.fl{K:Frag}{H:Hp}{n:Nat}{f:Str}:∀(π:List gQ){v u:V},rJ K H v (π++[.fl n f]) u->∃p vs C k d,rJ K H v π (.ref p)/\H p=some (.ins C k (List.zip d vs))/\oB K C d/\d[n]?=some f/\vs[n]?=some u
 |[],v,u,h=>by obtain⟨p,vs,x,e,⟨C,k,d,s,_,y,w⟩,r,l⟩:=h;cases l;exact⟨p,vs,C,k,d,by rw[e];rfl,s,y,w,r⟩
 |.ix m::π,v,u,h=>by obtain⟨p,vs,x,e,s,r,l⟩:=h;obtain⟨q,g,C,k,d,a,b,c⟩:=rJ.fl π l;exact⟨q,g,C,k,d,⟨p,vs,x,e,s,r,a⟩,b,c⟩
 |.fl m _::π,v,u,h=>by obtain⟨p,vs,x,e,s,r,l⟩:=h;obtain⟨q,g,C,k,d,a,b,c⟩:=rJ.fl π l;exact⟨q,g,C,k,d,⟨p,vs,x,e,s,r,a⟩,b,c⟩
theorem BE{f:Str}(h:PE X a (j4 X.K i π))(s:attributeBase a f X.env (eval a X.env)=eval a X.env):PE X (.Attribute a f pos) (j4 X.K i (π++[.fl n f])):=
 PE.imp (Ay h s)<|by rintro E H Q ⟨v,u,A,z,l⟩;obtain⟨q,k,C,D,B,r,y,d,g,w⟩:=rJ.fl π z;exact⟨v,.ref q,A,r,q,C,D,_,u,rfl,y,d.1,d.2.2.2 f (KE g),BC (v:=u) (n:=n) B k n d.2.2.1 g w,l⟩
theorem K6{f:Str}{g:List Str}{U:List Md}{te:(Addr->Prop)->WT}(hps:∀{tv:TE},PE X e tv->PS X st (Og X.K (jc i) tv f))(J:(i,.o g U)∈M)(hf:g[n]?=some f)(hm:U[n]?=some .s)(he:∀R,VE X M R .s e (te R)):
 VS X M m st (λd y=>te d.ex y λw=>match look y i with|some (.obj C g u)=>n<u.length/\d.nx (y.set i (some (.obj C g (u.set n w))))|_=>False):=by
 rintro L s σ H D I ⟨A,H0,y,d,S,er,hz,h,k⟩;refine hps (he d.ex) L s σ H D I ⟨A,H0,y,_,S,er,h,λw v H1 l s1 r=>?_⟩
 try dsimp only at l
 cases Y:look y i with
 |none=>rw[Y]at l;exact l.elim
 |some w1=>
  rw[Y]at l;cases w1 with
  |obj C fs' u=>
   obtain⟨hn,l⟩:=l;have S1:=S.same s1;obtain⟨F,O⟩:=S1.ow;obtain⟨v0,P,fp⟩:=O.val i _ _ J Y;obtain⟨C',T,cy,q,E,F',e1,rfl,e3,Z,h2,Q,h3⟩:=fp;cases e1;have r:=r.aO;have hB:A.B q:=(O.all q).mpr (.inr ⟨i,⟨_,J⟩,by rw[e3];exact Bn⟩);obtain⟨w0,hw0⟩:∃w0,u[n]?=some w0:=⟨_,DL hn⟩;obtain⟨v1,F1,G,F2,q1,e4,q3,q4⟩:=cR.at U h3 hm hw0;obtain⟨rfl,_⟩:=q3;have cB:pL A.B H1 (upd H1 q (.ins C T (g.zip (E.set n v)))):=.put Z rfl hB;have Su:q∉F':=by have:=O.nd i ⟨_,J⟩;rw[e3]at this;exact(Hk.mp this).1
   have fp':cR X.K A.B (upd H1 q (.ins C T (g.zip (E.set n v)))) U (u.set n w) (E.set n v) F':=by
    rw[e4];refine q4 _ A.B w v [] ?_ (λp o e=>?_) (λ_ _ _ z=>z)
    .exact⟨rfl,Rep.chg cB (λ_ _ _ z=>z) w r⟩
    .by_cases N:p=q
     .subst N;rw[Z]at e;cases e;refine .inl ⟨rfl,hB,λz=>Su ?_⟩;rw[e4];rcases FK.mp z with z|z<;>simp[z]
     .exact .inr (by rw[ay N];exact e)
   refine⟨_,P,q,C,T,_,rfl,Z,Q.1,Q.2.2.2 f (KE hf),?_,?_⟩
   .rw[List.length_zip,h2,Nat.min_self];exact Q.2.1
   .rw[EZ g E n Q.2.2.1 hf h2];obtain⟨A',a1,a2,_,_,_,S'⟩:=O.chg (F':=F i) (H1:=upd H1 q (.ins C T (g.zip (E.set n v)))) (w':=.obj C g (u.set n w)) S1 J Y P (λp o e=>by
     by_cases N:p=q
     .subst N;rw[Z]at e;cases e;exact .inl ⟨rfl,by rw[e3];exact Bn⟩
     .exact .inr (by rw[ay N];exact e)) (O.nd i ⟨_,J⟩) (λp hp=>.inl hp) (Fp.mv (au.refl _) (λp _ _ z=>by
      rcases z with z|z
      .exact z.1
      .exact(O.all p).mpr (.inr ⟨i,⟨_,J⟩,z⟩)) _ (by exact⟨C,T,u.set n w,q,E.set n v,F',rfl,rfl,e3,aq,by rw[NM];exact h2,Q,fp'⟩))
    exact k.nx A' _ _ _ a1 a2 l S'
  |_=>exact l.elim
end
end VL
namespace L2
open PySem PySem.Spec PyProof.Rows
section
variable{pr:Program}{wo:World}{B:Around}{EE:Value->Shared->Prop}
end
section
variable{X:Cx}{pos:Pos}
end
end L2
namespace VL
open PySem PySem.Spec
open PyProof.Rows hiding St
open L2
section
variable{K:Frag}{M M':Ms}{A:Fz}{H0 H H1:Hp}{σ:St}{ε:Ev}
theorem SR.take(S:SR K M' A H0 σ H ε){i:Nat}{m:Md}{w:W}{v:V}{F:List Addr}(l:∀x,x∈M↔x=(i,m)\/x∈M')(D:¬aJ M' i)(s:i<ε.length)(nd:F.Nodup)(E:∀p∈F,A.ab p)(nw:∀p∈F,H0 p=none)(P:Fp K A.B H m w v F):
 SR K M ⟨λp=>A.ab p/\p∉F,A.B,A.s0⟩ H0 (σ.set i (some v)) H (ε.set i (some w)):=by
 obtain⟨G,O⟩:=S.ow;have f:∀j,aJ M j↔j=i\/aJ M' j:=λj=>by
  constructor
  .rintro⟨q,I⟩;rcases(l _).mp I with e|e
   .cases e;exact .inl rfl
   .exact .inr ⟨q,e⟩
  .rintro(rfl|⟨q,I⟩)
   .exact⟨m,(l _).mpr (.inl rfl)⟩
   .exact⟨q,(l _).mpr (.inr I)⟩
 have C:∀j,aJ M' j->j≠i:=λj c e=>by subst e;exact D c
 refine⟨by rw[NM,NM];exact S.len,λj y c e=>?_,S.sm,λp z=>S.dm p z.1,λu e=>?_,λj=>if j=i then F else G j,⟨λj N L a b=>?_,λj q y c e=>?_,λj c e=>?_,λj c=>?_,λj k p c J a b=>?_,λj p c d=>?_,λj p c d=>?_,λp=>?_⟩⟩
 .have h:j≠i/\¬aJ M' j:=⟨λz=>c ((f j).mpr (.inl z)),λz=>c ((f j).mpr (.inr z))⟩;rw[aE (Ki h.1)]at e;obtain⟨u,t,r⟩:=S.sh j y h.2 e;exact⟨u,by rw[KF (Ki h.1)];exact t,r⟩
 .obtain⟨t,r⟩:=S.sl u e;exact⟨by rw[KF (Ki (C 0 r))];exact t,(f 0).mpr (.inr r)⟩
 .rcases(l _).mp a with a|a
  .rcases(l _).mp b with b|b
   .cases a;cases b;rfl
   .cases a;exact(D ⟨_,b⟩).elim
  .rcases(l _).mp b with b|b
   .cases b;exact(D ⟨_,a⟩).elim
   .exact O.un j N L a b
 .rcases(l _).mp c with a|a
  .cases a;have:=fG e;subst this;exact⟨v,N0 (by rw[S.len];exact s),by rw[FM rfl];exact P⟩
  .have n:=C j ⟨q,a⟩;rw[aE (Ki n)]at e;obtain⟨u,t,r⟩:=O.val j q y a e;exact⟨u,by rw[KF (Ki n)];exact t,by rw[Da n];exact r⟩
 .by_cases n:j=i
  .subst n;have:look (ε.set j (some w)) j=some w:=by rw[aU];exact N0 s
   rw[this]at e;cases e
  .rw[aE (Ki n)]at e;rw[Da n];exact O.emp j (((f j).mp c).resolve_left n) e
 .by_cases n:j=i
  .rw[FM n];exact nd
  .rw[Da n];exact O.nd j (((f j).mp c).resolve_left n)
 .by_cases o:j=i
  .by_cases g:k=i
   .rw[o,g]
   .rw[FM o]at a;rw[Da g]at b;exact(O.na k p (((f k).mp J).resolve_left g) b (E p a)).elim
  .by_cases g:k=i
   .rw[Da o]at a;rw[FM g]at b;exact(O.na j p (((f j).mp c).resolve_left o) a (E p b)).elim
   .rw[Da o]at a;rw[Da g]at b;exact O.ds j k p (((f j).mp c).resolve_left o) (((f k).mp J).resolve_left g) a b
 .by_cases n:j=i
  .rw[FM n]at d;exact nw p d
  .rw[Da n]at d;exact O.nw j p (((f j).mp c).resolve_left n) d
 .by_cases n:j=i
  .rw[FM n]at d;exact λz=>z.2 d
  .rw[Da n]at d;exact λz=>O.na j p (((f j).mp c).resolve_left n) d z.1
 .constructor
  .intro z;by_cases d:p∈F
   .exact .inr ⟨i,(f i).mpr (.inl rfl),by rw[FM rfl];exact d⟩
   .rcases(O.all p).mp z with z|⟨j,c,Q⟩
    .exact .inl ⟨z,d⟩
    .exact .inr ⟨j,(f j).mpr (.inr c),by rw[Da (C j c)];exact Q⟩
  .rintro(z|⟨j,c,d⟩)
   .exact(O.all p).mpr (.inl z.1)
   .by_cases n:j=i
    .rw[FM n]at d;exact(O.all p).mpr (.inl (E p d))
    .rw[Da n]at d;exact(O.all p).mpr (.inr ⟨j,((f j).mp c).resolve_left n,d⟩)
end
section
variable{X:Cx}{M M':Ms}{m:Md}{st:Stmt}{te:(Addr->Prop)->WT}
end
section
variable{K:Frag}{B B':Addr->Prop}{H:Hp}
mutual
theorem Rep.Dc:∀(w:W){v:V},Dc w=true->Rep K B H w v->Rep K B' H w v
 |.aI,_,_,r=>by dsimp only[Rep]at r⊢;exact r
 |.bl _,_,_,r=>by dsimp only[Rep]at r⊢;exact r
 |.int _,_,_,r=>by dsimp only[Rep]at r⊢;exact r
 |.str _,_,_,r=>by dsimp only[Rep]at r⊢;exact r
 |.tup l,v,h,r=>by obtain⟨p,vs,e,b,a⟩:=r;exact⟨p,vs,e,b,af.Dc l h a⟩
 |.ty _,_,h,_=>ff h
 |.cls _,_,h,_=>ff h
 |.err _,_,h,_=>ff h
 |.lst _,_,h,_=>ff h
 |.dct _ _,_,h,_=>ff h
 |.obj _ _ _,_,h,_=>ff h
 |.di _,_,h,_=>ff h
theorem af.Dc:∀(l:List W){vs:List V},Bk l=true->af K B H l vs->af K B' H l vs
 |[],_,_,r=>by dsimp only[af]at r⊢;exact r
 |w::l,vs,h,r=>by obtain⟨v,us,rfl,b,a⟩:=r.cons_inv;rw[Bk,AC]at h;exact .cons (Rep.Dc w h.1 b) (af.Dc l h.2 a)
end
mutual
theorem Fp.flat:∀(m:Md){w:W}{v:V}{F:List Addr},Fp K B H m w v F->flat m w=true->(∀p∈F,¬B' p)->Rep K B' H w v
 |.s,w,v,F,h,f,_=>by dsimp only[Fp]at h;dsimp only[VL.flat]at f;exact Rep.Dc w f h.2
 |.f,w,v,F,h,f,n=>by obtain⟨c,p,vs,rfl,rfl,rfl,b,a⟩:=h;dsimp only[VL.flat]at f;exact⟨p,vs,rfl,n p (Do.mpr rfl),.inl b,af.Dc c f a⟩
 |.t e,w,v,F,h,f,n=>by obtain⟨c,p,vs,rfl,rfl,b,a⟩:=h;dsimp only[VL.flat]at f;exact⟨p,vs,rfl,b,cR.flat e a f n⟩
 |.o _ _,w,v,F,h,f,n=>ff f
 |.io _,w,v,F,h,f,n=>ff f
 |.d,w,v,F,h,f,n=>ff f
 |.ls _,w,v,F,h,f,n=>ff f
theorem cR.flat:∀(b:List Md){a:List W}{vs:List V}{F:List Addr},cR K B H b a vs F->wm b a=true->(∀p∈F,¬B' p)->af K B' H a vs
 |[],a,vs,F,h,f,_=>by obtain⟨rfl,rfl,_⟩:=h;exact .nil
 |m::b,a,vs,F,h,f,n=>by obtain⟨w,i,v,d,k,j,rfl,rfl,rfl,g,e⟩:=h;rw[wm,AC]at f;exact .cons (Fp.flat m g f.1 λp c=>n p (He _ c)) (cR.flat b e f.2 λp c=>n p (FV _ c))
end
end
section
variable{X:Cx}{M M':Ms}{m m0:Md}{st:Stmt}{ti:(Addr->Prop)->WT}{tc te:WT}{one:Bool}{ts:List Nat}{i n:Nat}
end
section
variable{K:Frag}{M:Ms}{A:Fz}{H0 H:Hp}{σ:St}{ε:Ev}
end
section
variable{X:Cx}{M:Ms}{m:Md}{st:Stmt}{tg it e o:Expr}{j a b:Nat}{pos q:Pos}{x0:W}{te:WT}
end
section
variable{K:Frag}{M M':Ms}{A:Fz}{H0 Hs H H1:Hp}{σ:St}{ε:Ev}
end
section
variable{X:Cx}{M M':Ms}{m:Md}{st:Stmt}{ti:(Addr->Prop)->WT}{te:u9}{i:Nat}
theorem K7{R:Addr->Prop}{es:List Expr}{pos:Pos}{tl:KQ}(n:Dg X M R es tl):VP X M R (.List es pos) (λb Q=>tl b λc a=>c.length<=sizeLine/\Q (.lst c) a):=PE.imp (uH n)<|by rintro s H Q ⟨A,q,b,P,S,o,h,k⟩;refine⟨A,q,b,_,S,o,h,λr c l t a e g j d=>⟨by rw[af.len d];exact e.1,λp f=>?_⟩⟩;have sm:=aF f (.lst l);exact k r _ _ _ a e.2 (g.trans (.same sm)) (j.same sm) ((cD.fresh (au.refl _) f d).rep j.dom)
theorem K8{R:Addr->Prop}{es:List Expr}{pos:Pos}{f:Nat}{tl:KQ}(n:Dg X M R es tl):VP X M R (.Tuple es f pos) (λb Q=>tl b λc a=>c.length<=sizeLine/\Q (.tup c) a):=PE.imp (uG n)<|by rintro t H Q ⟨A,r,b,P,S,o,h,k⟩;refine⟨A,r,b,_,S,o,h,λs c j u a e g q d=>⟨by rw[af.len d];exact e.1,λp l=>?_⟩⟩;have sm:=aF l (.tup j);exact k s _ _ _ a e.2 (g.trans (.same sm)) (q.same sm) (qz aq (af.same sm d))
end
section
variable{K:Frag}{B:Addr->Prop}{H:Hp}{j:Int}
end
theorem Ic{K:Frag}{M:Ms}{A:Fz}{r H:Hp}{h:St}{j:Ev}{i:Nat}{u t:List W}(S:SR K M A r h H j)(c:(i,.d)∈M)(y:look j i=some (.dct u t)):
 ∃p kvs,h[i]?=some (some (.ref p))/\H p=some (.dK kvs)/\u=kvs.map (λx=>kZ x.1)/\af K A.B H t (kvs.map (·.2))/\∀H1,au H H1->∀(a:List (Key×V))(b f:List W),b=a.map (λx=>kZ x.1)->af K A.B H1 f (a.map (·.2))->
  ∃g,g.ab=A.ab/\g.s0=A.s0/\SR K M g r h (upd H1 p (.dK a)) (j.set i (some (.dct b f))):=by
 obtain⟨F,O⟩:=S.ow;obtain⟨v,k,l⟩:=O.val i .d _ c y;obtain⟨XM,XN,p,kvs,T,rfl,D,C,N,Q⟩:=l;cases T;have I:p∈F i:=by rw[D];exact Bn
 have Pn:A.B p:=(O.all p).mpr (.inr ⟨i,⟨.d,c⟩,I⟩);refine⟨p,kvs,k,C,N,Q,λH1 s a b f R J=>?_⟩;have Z:=S.same s;have O1:JV K M A r h H1 j F:=⟨O.un,λi m w c e=>let⟨v,k,l⟩:=O.val i m w c e;⟨v,k,Fp.mv s (λ_ _ _ z=>z) m l⟩,O.emp,O.nd,O.ds,O.nw,O.na,O.all⟩;have E:=s _ _ C;have U:pL A.B H1 (upd H1 p (.dK a)):=.put E rfl Pn;have P:∀q o,H1 q=some o->(wj o=true/\q∈F i)\/upd H1 p (.dK a) q=some o:=λq o e=>by
  by_cases n:q=p
  .subst n;rw[E]at e;cases e;exact .inl ⟨rfl,I⟩
  .exact .inr (by rw[ay n];exact e)
 have Pp:Fp K (λq=>(A.B q/\q∉F i)\/q∈F i) (upd H1 p (.dK a)) .d (.dct b f) (.ref p) (F i):=⟨b,f,p,a,rfl,rfl,D,aq,R,af.chg U (λq _ _ z=>by
  rcases z with z|z
  .exact z.1
  .exact(O.all q).mpr (.inr ⟨i,⟨.d,c⟩,z⟩)) f J⟩
 obtain⟨g,Y,a2,_,a3,a4,X⟩:=O1.chg (F':=F i) Z c y k P (O.nd i ⟨.d,c⟩) (λq L=>.inl L) Pp;exact⟨g,Y,a2,X⟩
section
variable{X:Cx}{M:Ms}{R:Addr->Prop}{o e f:Expr}{te tf:WT}{i:Nat}{pos:Pos}
theorem BF{b:Ev}{P:List W->List W->Prop}(h:match look b i with|some (.dct a vs)=>P a vs|_=>False):∃a vs,look b i=some (.dct a vs)/\P a vs:=by
 cases c:look b i with
 |none=>rw[c]at h;exact h.elim
 |some w=>
  rw[c]at h;cases w with
  |dct a vs=>exact⟨a,vs,rfl,h⟩
  |_=>exact h.elim
end
section
variable{X:Cx}{M M':Ms}{m:Md}{st:Stmt}{i:Nat}{e e1:Expr}{te t1:(Addr->Prop)->WT}
theorem K9{R:Addr->Prop}{pos:Pos}:VE X M' R .d (.Dict [] [] pos) (λb Q=>Q (.dct [] [])):=PE.imp AY<|by rintro f H Q ⟨A,j,b,P,S,g,h,k⟩;intro p a;refine k _ _ _ h (aF a _) ⟨[p],by simp,λq c=>?_,[],[],p,[],rfl,rfl,rfl,aq,rfl,.nil⟩;rw[Do.mp c];exact a
noncomputable def Ie:V->V->V->Hp->(Hp->Prop)->Prop:=λo k v H Q=>∃p a,o=.ref p/\AW H p k v a/\Q a
theorem set_dict(d:X.A.units+1<cLine):NU X Ie:=by intro a s l H o k v r t u Q I b c rv h;obtain⟨p,j,rfl,f,q⟩:=h;cases b;exact yw d I f c rv λn g=>⟨j,g,q⟩
end
section
variable{K:Frag}{M:Ms}{A:Fz}{H0 H:Hp}{σ:St}{ε:Ev}
end
section
variable{X:Cx}{M M':Ms}{m:Md}{st:Stmt}{tg it XO XQ e:Expr}{j a b t y:Nat}{pos pos2:Pos}{te:WT}
end
end VL
namespace L2
open PySem PySem.Spec PyProof.Rows PySem.W
theorem qH:Slot "set_iterator" "__next__" "set_iterator.__next__":=.of (owner:="set_iterator") (n:="__next__") (by rw[typeLookup_type,builtinLookup_eq_fast];kernel_rfl) (by decide+kernel) (by decide+kernel) (by decide+kernel) (by first|exact .inl (by decide+kernel)|exact .inr (by decide+kernel)) (by rw[isSubtype_type];kernel_rfl)
theorem BG:entryFor table "set_iterator.__next__"=some Builtin.«set_iterator.__next__»:=entryFor_of_tree (by kernel_rfl)
theorem BH:entryFor table "set.__iter__"=some Builtin.«frozenset.__iter__»:=entryFor_alias (id':="frozenset.__iter__") (by kernel_rfl) rfl (by decide+kernel) (by kernel_rfl)
theorem sU:Manifest.owners.lookup (String.ofList ['r','o','t','a','r','e','t','i','_','t','e','s'].reverse)=some Manifest.sig_set_iterator:=by kernel_rfl
theorem BJ(a:Value):argsOk "set_iterator.__next__" ⟨[a],[]⟩:=by unfold argsOk;rw[signature?_of (id:="set_iterator.__next__") (n:=['_','_','t','x','e','n','_','_']) (o:=['r','o','t','a','r','e','t','i','_','t','e','s']) (by kernel_rfl) sU];kernel_rfl
theorem qI{α:Type}:∀{l:List α}{i:Nat}(h:i<l.length),(l[i]::l.eraseIdx i).Perm l
 |x::l,0,_=>.refl _
 |x::l,i+1,h=>by
  have h':i<l.length:=by simpa using h
  exact(W6 x l[i] _).trans ((qI h').cons x)
section
variable{prog:Program}{w:World}{A:Around}{E:Value->Shared->Prop}{s:Shared}
theorem BK{a:Source}{n:Nat}{Q:Nat->Shared->Prop}(b:n≠0)(h:∀i d,i<n->Q i {s with drawn:=d}):wpAny (model prog w) A (choose a n) Q E s:=λe p c=>⟨b,h _ _ (Sq _ (Nat.pos_of_ne_zero b))⟩
theorem sW{α:Type}:∀(n:Nat)(xs:List α){s:Shared}{Q:List α->Shared->Prop},xs.length=n->(∀b d,b.Perm xs->Q b {s with drawn:=d})->wpAny (model prog w) A (drawOrder n xs) Q E s
 |0,xs,s,Q,a,h=>by rw[Jn.mp a]at h⊢;exact BM (h [] s.drawn (.refl _))
 |n+1,[],s,Q,a,h=>by cases a
 |n+1,x::xs,s,Q,a,h=>by show wpAny _ _ (choose .order (x::xs).length>>=_) _ _ _;refine AN (BK (by simp) λi d c=>?_);have e:(x::xs)[i]?=some (x::xs)[i]:=DL c;rw[e];refine AN (sW n ((x::xs).eraseIdx i) (by rw[Q3 c,a];rfl) λb g f=>BM ?_);exact h _ g ((WG _ f).trans (qI c))
end
theorem wL{α:Type}(a:Nat->Nat):∀(n k:Nat)(l:List α)(out:Array α),l.length=n->(pickOrder.go a n k l out).toList.Perm (out.toList++l)
 |0,k,l,out,h=>by rw[Jn.mp h,Kx];exact .refl _
 |n+1,k,l,out,h=>by have b:a k%l.length<l.length:=Sq _ (by omega);have e:l[a k%l.length]?=some l[a k%l.length]:=DL b;unfold pickOrder.go;rw[e];dsimp only;refine(wL a n (k+1) _ _ (by rw[Q3 b];omega)).trans ?_;rw[So,PH];exact WH _ (qI b)
theorem yN{α:Type}(a:Nat->Nat)(es:Array α):(pickOrder a es).toList.Perm es.toList:=by have:=wL a es.size 0 es.toList #[] (by simp);exact this
noncomputable def jr(w:World)(a:Addr)(es:Array (Int×Value))(ep:Nat)(t:SetTable)(h:Heap):Prop:=h.get? a=some {cls:=.type "set",dict:=none,data:=.set es ep t,slots:= #[]}/\t.fits es.size=true/\(w.params.followText "set-order"=true\/t.led=true)/\(es= #[]\/t.plain=false)
noncomputable def UJ(w:World)(a:Addr)(es:Array (Int×Value))(ep:Nat)(t:SetTable)(vs:List Value)(c:Addr)(i:Nat)(h:Heap)(first:Value):Prop:=
 (w.params.followText "set-order"=true/\(∃d:Nat,first=.int d 0)/\vs=(pickOrder (w.params.setOrder a ep) es).toList.map (·.2))\/
 (w.params.followText "set-order"=false/\1<es.size/\∃b:List Nat,first=.ref c/\h.get? c=some {cls:=.type "tuple",data:=.seq (b.map λ(j:Nat)=>rawInt j).toArray}/\b.length=vs.length/\∀(k j:Nat)(v:Value),b[k]?=some j->vs[k]?=some v->∃e,es[j]?=some (e,v))\/
 (w.params.followText "set-order"=false/\es.size<=1/\vs=es.toList.map (·.2)/\((i=0/\first=.int 0 0)\/(i=1/\∃j:Nat,t.place= #[j]/\first=.int (j+1:Nat) 0)))
noncomputable def PB(w:World)(a:Addr)(es:Array (Int×Value))(ep:Nat)(t:SetTable)(vs:List Value)(I b:Addr)(i:Nat)(h:Heap):Prop:=
 ∃first,h.get? I=some {cls:=.type "set_iterator",data:=.fields #[first,.int i 0,.ref a,.int es.size 0,.int ep 0]}/\UJ w a es ep t vs b i h first
section
variable{prog:Program}{w:World}{A:Around}{E:Value->Shared->Prop}{s:Shared}{a I tp:Addr}{es:Array (Int×Value)}{ep i:Nat}{t:SetTable}{vs:List Value}
theorem fY{Q:(Array (Int×Value)×Nat×SetTable)->Shared->Prop}(b:jr w a es ep t s.heap)(h:Q (es,ep,t) s):wpAny (model prog w) A (setState a) Q E s:=wpAny_setState_of b.1 rfl b.2.1 h
theorem yO{Q:Array (Int×Value)->Shared->Prop}(c:jr w a es ep t s.heap)(b:w.params.followText "set-order"=true)(h:Q (pickOrder (w.params.setOrder a ep) es) s):wpAny (model prog w) A (setWalk a) Q E s:=by unfold setWalk;refine AN (fY c ?_);refine AN (m:=setsByText) (AN (X5 (BM ?_)));dsimp only;refine Re (λ_=>?_) (λz=>absurd b z);exact AN (X5 (BM h))
theorem PC(j:Nat):SetTable.below #[j] 0=0:=by show(if 0<1 then(if(#[j].getD ((0+1)/2) 0)<0 then SetTable.below.go #[j] 0 0 ((0+1)/2+1) 1 else SetTable.below.go #[j] 0 0 0 ((0+1)/2))else 0)=0;rw[FM (by omega),Da (by omega)];rfl
theorem PD(j:Nat):SetTable.below #[j] (j+1)=1:=by show(if 0<1 then(if(#[j].getD ((0+1)/2) (j+1))<j+1 then SetTable.below.go #[j] (j+1) 0 ((0+1)/2+1) 1 else SetTable.below.go #[j] (j+1) 0 0 ((0+1)/2))else 0)=1;rw[FM (by omega),FM (by show j<j+1;omega)];rfl
theorem BL:isSubtype (.type "StopIteration") (.type "StopIteration")=pure true:=by rw[isSubtype_type];kernel_rfl
theorem j6{I:Addr}{h:Heap}{b:Array Value}{k:Nat}{x:Value}(e:h.get? I=some {cls:=.type "set_iterator",data:=.fields b}):(h.update I (Obj.mapFields (·.setIfInBounds k x))).get? I=some {cls:=.type "set_iterator",data:=.fields (b.setIfInBounds k x)}:=Y3 _ e rfl
theorem BN{α:Type}{P:α->Shared->Prop}(c:A.handled=none)(k:∀(e:Value)(h':Heap),Shared.TypeIs {s with heap:=h'} e "StopIteration"->(∀b o,s.heap.get? b=some o->h'.get? b=some o)->E e {s with heap:=h'}):
 wpAny (model prog w) A (newExc (.type "StopIteration") []>>=raiseNew (α:=α)) P E s:=by
 refine AN ?_;simp only[newExc,newTuple];refine AN (Nw ?_ (by size_fits));refine AN (m:=firstArgMember _ _) (wpAny_of_eq (a:=Value.none) (by first|rfl|(simp only[firstArgMember];rfl)) ?_);refine Nw ?_ (by size_fits);simp only[raiseNew];refine AN (wpAny_handled ?_);rw[c];exact AN (BM (wpAny_throw (k (.ref _) _ ⟨_,Fu _ rfl,rfl⟩ λb o e=>Bi _ (Bi _ e))))
theorem lT{P:Fin->Shared->Prop}{Q:Option Value->Shared->Prop}{c:Array Value}(g:A.handled=none)(e:s.heap.get? I=some {cls:=.type "set_iterator",data:=.fields c})(hz:2<c.size)
 (d:∀h',(∀b o,b≠I->s.heap.get? b=some o->h'.get? b=some o)->Q none {s with heap:=h'}):
 wpAny (model prog w) A.in1 (setField (.ref I) 2 .none>>=λ_=>newExc (.type "StopIteration") []>>=λe=>raiseNew e) P (λe s'=>wpAny (model prog w) A (do if<-isInstance e (.type "StopIteration")then pure none else throw e) Q E s') s:=by
 refine AN (X3 e rfl hz ?_);refine BN (A:=A.in1) (s:={s with heap:=_}) g λx h' f k=>?_;refine AN (wpAny_isInstance (T:="StopIteration") (b:=true) f BL ?_);exact BM (d _ λb o n q=>k b o ((Kb _ _ (Ki n)).trans q))
theorem sX{Q:Option Value->Shared->Prop}(J:A.handled=none)(p:jr w a es ep t s.heap)(hI:PB w a es ep t vs I tp i s.heap)(M:i<=vs.length)(l:vs.length=es.size)
 (K:∀v h',vs[i]?=some v->PB w a es ep t vs I tp (i+1) h'->(∀b o,b≠I->s.heap.get? b=some o->h'.get? b=some o)->Q (some v) {s with heap:=h'})
 (H:∀h',i=vs.length->(∀b o,b≠I->s.heap.get? b=some o->h'.get? b=some o)->Q none {s with heap:=h'}):wpAny (model prog w) A (pyNext (.ref I)) Q E s:=by
 obtain⟨first,c,hF⟩:=hI;have T:s.TypeIs (.ref I) "set_iterator":=⟨_,c,rfl⟩;have cI:∀o,s.heap.get? I=some o->o.cls≠.type "tuple":=λo e=>by rw[c]at e;cases e;intro z;injection z with z;exact absurd z (by decide)
 unfold pyNext;refine AN (wpAny_attempt (wpAny_callSpecial?_slot (name:=Str.ofString "__next__") T qH (Y4 qH T BG ?_ (BJ _))));refine AN (BM ?_);refine AN (wpAny_fieldsOf c rfl ?_);show wpAny _ _ (setEntries a>>=_) _ _ s;refine AN (m:=setEntries a) (AN (fY p (BM ?_)));rw[Da (by simp)];rcases hF with⟨g,⟨d,rfl⟩,rfl⟩|⟨g,N,F,rfl,L,Y,R⟩|⟨g,N,rfl,S⟩
 .show wpAny _ _ (setNext a d i ep>>=_) _ _ s;refine AN (m:=setNext a d i ep) ?_;unfold setNext;refine AN (fY p ?_);refine AN (m:=setsByText) (AN (X5 (BM ?_)));dsimp only;refine Re (λ_=>?_) (λz=>absurd g z);rw[Da (by simp)];refine AN (yO p g (BM ?_));cases h:(pickOrder (w.params.setOrder a ep) es)[i]? with
  |none=>refine lT J c (by show 2<5;omega) λh' k=>H h' ?_ k;have:=Array.getElem?_eq_none_iff.mp h;rw[Ee,Ar]at M⊢;omega
  |some e=>
   dsimp only[IM];refine AN (X3 c rfl (by show 0<5;omega) ?_);have y:=j6 (k:=0) (x:=rawInt (d:Nat)) c;refine AN (X3 y rfl (by show 1<5;omega) ?_);have C:=j6 (k:=1) (x:=rawInt ((i:Int)+1)) y;refine BM ⟨_,rfl,BM (K _ _ ?_ ⟨_,C,.inl ⟨g,⟨d,rfl⟩,rfl⟩⟩ λb o n q=>?_)⟩
   .rw[Fm,Qb,h];rfl
   .exact(Kb _ _ (Ki n)).trans ((Kb _ _ (Ki n)).trans q)
 .show wpAny _ _ (seqItems? (.ref tp)>>=_) _ _ s;refine AN (wpAny_seqItems L rfl ?_);dsimp only;rw[show((i:Int)).toNat=i from rfl];cases h:F[i]? with
  |none=>
   have e:(UZ (λ(j:Nat)=>rawInt j) F).toArray[i]?=none:=by rw[Rh,Fm,h];rfl
   rw[e];dsimp only;refine AN (X3 c rfl (by show 0<5;omega) ?_);have y:=j6 (k:=0) (x:=rawInt 0) c;refine lT (s:={s with heap:=_}) J y (by show 2<5;omega) λh' k=>H h' ?_ λb o n q=>k b o n ((Kb _ _ (Ki n)).trans q);have:=List.getElem?_eq_none_iff.mp h;omega
  |some j=>
   have e:(UZ (λ(j:Nat)=>rawInt j) F).toArray[i]?=some (rawInt j):=by rw[Rh,Fm,h];rfl
   rw[e];have lt:=(GE.mp h).1;have P:vs[i]?=some vs[i]:=DL (by omega);obtain⟨X,Z⟩:=R i j _ h P;show wpAny _ _ (setNextDrawn a j ep>>=_) _ _ s;refine AN (m:=setNextDrawn a j ep) ?_;unfold setNextDrawn;refine AN (fY p ?_);dsimp only;rw[Da (by simp)];refine AN (BM ?_);rw[Z];refine BM ?_;refine AN (X3 c rfl (by show 1<5;omega) ?_);have C:=j6 (k:=1) (x:=rawInt ((i:Int)+1)) c;refine BM ⟨_,rfl,BM (K _ _ P ⟨_,C,?_⟩ λb o n q=>(Kb _ _ (Ki n)).trans q)⟩;refine .inr (.inl ⟨g,N,F,rfl,(Kb _ _ λz=>?_).trans L,Y,R⟩);exact cI _ (by rw[z];exact L) rfl
 .have led:t.led=true:=p.2.2.1.resolve_left (by rw[g];exact Fh);have O:∀(d:Nat)(r:Option (Value×Nat)),first=.int d 0->(match es[SetTable.below t.place d]?,t.place[SetTable.below t.place d]? with|some (_,x),some j=>some (x,j+1)|_,_=>none)=r->wpAny (model prog w) A.in1 (setNext a d i ep) (λz D=>z=r/\D=s) (λ_ _=>False) s:=λd r u er=>by
   unfold setNext;refine AN (fY p ?_);refine AN (m:=setsByText) (AN (X5 (BM ?_)));dsimp only;refine Re (λz=>absurd (g.symm.trans z) Fh) (λ_=>?_);refine AN (BM ?_);refine Re (λz=>?_) (λ_=>?_)
   .have z:(!t.plain&&decide (es.size>1))=true:=z;rw[AC]at z;have:=Ap z.2;omega
   .refine AN (m:=(if(!t.led&&!es.isEmpty)=true then unsupported "set:maker-not-led"else pure ())) ?_;rw[Da (by rw[led];simp)];exact BM (BM ⟨er,rfl⟩)
  have fits:t.place.size=es.size:=by have:=p.2.1;unfold SetTable.fits at this;rw[AC,IH]at this;exact this.1
  rcases UF 0 es.size with hz|hz
  .have Us:es.size=1:=by omega
   obtain⟨j,B⟩:∃j,t.place= #[j]:=by
    have:t.place.toList.length=1:=by rw[Ar];omega
    obtain⟨j,B⟩:=List.length_eq_one_iff.mp this;exact⟨j,by rw[<-S5 (xs:=t.place),B]⟩
   rcases S with⟨rfl,u⟩|⟨rfl,U,f,u⟩
   .obtain⟨⟨X,v⟩,ev⟩:∃e,es[0]?=some e:=⟨_,UV hz⟩;subst u;show wpAny _ _ (setNext a 0 0 ep>>=_) _ _ s;refine AN (PP (O 0 (some (v,j+1)) rfl (by rw[B,PC,ev];rfl)) (λz D hz=>?_) λ_ _ z=>z.elim);obtain⟨rfl,rfl⟩:=hz;dsimp only;refine AN (X3 c rfl (by show 0<5;omega) ?_);have y:=j6 (k:=0) (x:=rawInt (j+1:Nat)) c;refine AN (X3 y rfl (by show 1<5;omega) ?_);have C:=j6 (k:=1) (x:=rawInt (((0:Nat):Int)+1)) y;refine BM ⟨_,rfl,BM (K _ _ ?_ ⟨_,C,.inr (.inr ⟨g,N,rfl,.inr ⟨rfl,j,B,rfl⟩⟩)⟩ λb o n q=>?_)⟩
    .rw[Fm,Qb,ev];rfl
    .exact(Kb _ _ (Ki n)).trans ((Kb _ _ (Ki n)).trans q)
   .rw[B]at f;cases f;subst u;show wpAny _ _ (setNext a (j+1) _ ep>>=_) _ _ s;refine AN (PP (O (j+1) none rfl (by rw[B,PD,Array.getElem?_eq_none (by omega)])) (λz D hz=>?_) λ_ _ z=>z.elim);obtain⟨rfl,rfl⟩:=hz;exact lT J c (by show 2<5;omega) λh' k=>H h' (by rw[l];omega) k
  .have e0:es= #[]:=Array.eq_empty_of_size_eq_zero (by omega);rcases S with⟨rfl,u⟩|⟨rfl,U,f,u⟩
   .subst u;show wpAny _ _ (setNext a (0) _ ep>>=_) _ _ s;refine AN (PP (O (0) none rfl (by rw[e0];rfl)) (λz D hz=>?_) λ_ _ z=>z.elim);obtain⟨rfl,rfl⟩:=hz;exact lT J c (by show 2<5;omega) λh' k=>H h' (by rw[l];omega) k
   .rw[f]at fits;have:(1:Nat)=es.size:=fits;omega
theorem E3{ps:List Nat}{n:Nat}(h:ps.Perm (Ea n)){k j:Nat}(e:ps[k]?=some j):j<n:=SF.mp (h.mem_iff.mp (KE e))
theorem BO{Q:Value->Shared->Prop}(h:jr w a es ep t s.heap)(hz:es.size<=1000)
 (k:∀(vs:List Value)(I tp:Addr)(h':Heap)(d:Drawn),vs.Perm (es.toList.map (·.2))->s.heap.objs.size<=I->(tp=a\/s.heap.objs.size<=tp)->tp<I->(∀b o,s.heap.get? b=some o->h'.get? b=some o)->PB w a es ep t vs I tp 0 h'->Q (.ref I) {s with heap:=h',drawn:=d}):wpAny (model prog w) A (pyIter (.ref a)) Q E s:=by
 have K:s.TypeIs (.ref a) "set":=⟨_,h.1,rfl⟩;refine wpAny_pyIter_slot K PySem.F.slot_set_iter (Y4 PySem.F.slot_set_iter K BH ?_ (PySem.F.args_set_iter_1 _));unfold Builtin.«frozenset.__iter__»;refine AN (m:=Builtin.Frozenset.slot0 "__iter__" _) (BM ?_);refine AN (m:=Builtin.Frozenset.sizeOf a) (AN (m:=setEntries a) (AN (fY h (BM (BM ?_)))));refine AN (m:=setDrawn a) ?_;unfold setDrawn;refine AN (fY h ?_);refine AN (m:=setsByText) (AN (X5 (BM (BM ?_))));dsimp only;have l:∀(c:Shared)(vs:List Value)(tp:Addr)(first:Value),(tp=a\/s.heap.objs.size<=tp)->tp<c.heap.objs.size->(∀b o,s.heap.get? b=some o->c.heap.get? b=some o)->s.heap.objs.size<=c.heap.objs.size->jr w a es ep t c.heap->(∃d,c={s with heap:=c.heap,drawn:=d})->vs.Perm (es.toList.map (·.2))->(∀h',(∀b o,c.heap.get? b=some o->h'.get? b=some o)->UJ w a es ep t vs tp 0 h' first)->_:=λc vs tp first Z Y P O Q4 hd p U=>
  (show wpAny (model prog w) A.in1 (do
    let z<-setEpoch a
    let z<-newFields "set_iterator" [first,rawInt 0,.ref a,rawInt es.size,rawInt z]
    ret z) (λC H=>∃v,C=Fin.done (Flow.ret v)/\∃N r,H.TypeIs v N/\typeLookup (.type N) "__next__"=pure (some r)/\Q v H) E c from by
    refine AN (m:=setEpoch a) (AN (fY Q4 (BM ?_)));refine AN (Nw ?_ (by size_fits));refine BM ⟨_,rfl,"set_iterator",_,⟨_,Fu _ rfl,rfl⟩,qH.lookup,?_⟩;obtain⟨d,e⟩:=hd;have n:∀b o,c.heap.get? b=some o->(c.heap.push {cls:=.type "set_iterator",data:=.fields #[first,.int 0 0,.ref a,.int es.size 0,.int ep 0]}).get? b=some o:=λb o q=>Bi _ q;have:=k vs c.heap.objs.size tp (c.heap.push {cls:=.type "set_iterator",data:=.fields #[first,.int 0 0,.ref a,.int es.size 0,.int ep 0]}) d p O Z Y (λb o q=>n b o (P b o q)) ⟨first,Fu _ rfl,U _ n⟩;rw[e];exact this)
 refine Re (λz=>?_) (λz=>?_)
 .rw[AC]at z;have x:w.params.followText "set-order"=false:=by have y:(!w.params.followText "set-order")=true:=z.1;simpa using y
  have D:(!t.plain&&decide (es.size>1))=true:=z.2;rw[AC]at D;have B:=Ap D.2;refine AN (m:=drawOrder es.size (Ea es.size)) (sW es.size (Ea es.size) YB λu d p=>?_);have S:u.length=es.size:=by rw[p.length_eq,YB]
  refine AN (wpAny_newTuple ?_ (by rw[Ee,S,Y2];omega));have lt:∀j∈u,j<es.size:=λj T=>SF.mp (p.mem_iff.mp T)
  let f:Nat->Value:=λj=>((es.toList.map (·.2))[j]?).getD .none
  have R:(u.map f).Perm (es.toList.map (·.2)):=by
   have h2:((Ea es.size).map f).Perm ((Ea es.size).map f):=.refl _;have X:(Ea es.size).map f=es.toList.map (·.2):=by
    apply Tf;intro k;rw[Fm];rcases UF k es.size with y|y
    .rw[MF y];show some (f k)=_;have:(es.toList.map (·.2))[k]?=some ((es.toList.map (·.2))[k]'(by simpa using y)):=DL _;show some (((es.toList.map (·.2))[k]?).getD .none)=_;rw[this];rfl
    .rw[QR (by simpa using y),QR (by simpa using y)];rfl
   rw[<-X];exact p.map f
  refine l {s with heap:=_,drawn:=d} (u.map f) s.heap.objs.size (.ref s.heap.objs.size) (.inr (Bz _)) (by rw[size_push'];exact YJ _) (λb o q=>Bi _ q) (by rw[size_push'];exact X7 _) ⟨Bi _ h.1,h.2⟩ ⟨d,rfl⟩ R λh' n=>.inr (.inl ⟨x,B,u,rfl,n _ _ (Fu _ rfl),by rw[Ee],λkk j v M L=>?_⟩);rw[Fm,M]at L;have J:=E3 p M;cases L;refine⟨es[j].1,?_⟩;rw[UV J];show some es[j]=some (es[j].1,((es.toList.map (·.2))[j]?).getD .none);rw[Fm,Qb,UV J];rfl
 .refine AN (BM ?_);cases x:w.params.followText "set-order"with
  |true=>exact l s _ a (rawInt 0) (.inl rfl) (FR h.1) (λ_ _ q=>q) (Bz _) h ⟨s.drawn,rfl⟩ ((yN _ es).map _) λh' n=>.inl ⟨x,⟨0,rfl⟩,rfl⟩
  |false=>
   have B:es.size<=1:=by
    rcases h.2.2.2 with y|y
    .rw[y];exact L9 _
    .rcases UF 1 es.size with g|g
     .refine absurd ?_ z;rw[AC];refine⟨by show(!w.params.followText "set-order")=true;rw[x];rfl,?_⟩;show(!t.plain&&decide (es.size>1))=true;rw[y,GM g];rfl
     .exact g
   exact l s _ a (rawInt 0) (.inl rfl) (FR h.1) (λ_ _ q=>q) (Bz _) h ⟨s.drawn,rfl⟩ (.refl _) λh' n=>.inr (.inr ⟨x,B,rfl,.inl ⟨rfl,rfl⟩⟩)
theorem BP{Q:Bool->Shared->Prop}(e:s.TypeIs (.ref a) "set")(h:Q false s):wpAny (model prog w) A (Builtin.List.listLengthHint (.ref a)) Q E s:=by
 unfold Builtin.List.listLengthHint;refine AN (wpAny_specialOf e PySem.F.slot_set_len.lookup ?_);generalize d:("set.__len__":String)=f
 wp_delta
 rw[show splitId f=some ("set","__len__")from by subst d;decide+kernel];subst d;refine AN (wpAny_isInstance (T:="set") (b:=true) e sub_set_self ?_);refine Re (λc=>absurd c (by decide)) (λ_=>?_);refine Re (λ_=>?_) (λc=>absurd (by decide+kernel) c);exact AN (wpAny_typeOf e (BM h))
theorem dH:Slot "set_iterator" "__iter__" "set_iterator.__iter__":=.of (owner:="set_iterator") (n:="__iter__") (by rw[typeLookup_type,builtinLookup_eq_fast];kernel_rfl) (by decide+kernel) (by decide+kernel) (by decide+kernel) (by first|exact .inl (by decide+kernel)|exact .inr (by decide+kernel)) (by rw[isSubtype_type];kernel_rfl)
theorem vd:entryFor table "set_iterator.__iter__"=some Builtin.«dict_keyiterator.__iter__»:=entryFor_alias (id':="dict_keyiterator.__iter__") (by kernel_rfl) rfl (by decide+kernel) (by kernel_rfl)
theorem ve(a:Value):argsOk "set_iterator.__iter__" ⟨[a],[]⟩:=by unfold argsOk;rw[signature?_of (id:="set_iterator.__iter__") (n:=['_','_','r','e','t','i','_','_']) (o:=['r','o','t','a','r','e','t','i','_','t','e','s']) (by kernel_rfl) sU];kernel_rfl
theorem yP(q:A.handled=none)(d:vs.length=es.size)(K:a≠I)(M:tp≠I):WalksS prog w A I [I,a,tp] [I] (λa b=>b=a) vs.length (λi v=>vs[i]?=some v) (λi s=>jr w a es ep t s.heap/\PB w a es ep t vs I tp i s.heap)where
 sub:=λb g=>by rw[Do.mp g];exact Bn
 grefl:=λ_=>rfl
 gtrans:=λ_ _ _ y x=>x.trans y
 frame:=λi s l L c _ m=>by
  obtain⟨S,first,e,F⟩:=c;refine⟨⟨m a (by simp) _ S.1,S.2⟩,first,m I (by simp) _ e,?_⟩;rcases F with f|⟨J,H,r,D,C,B⟩|f
  .exact .inl f
  .exact .inr (.inl ⟨J,H,r,D,m tp (by simp) _ C,B⟩)
  .exact .inr (.inr f)
 item:=λi s Q E u c h=>sX q c.1 c.2 (T1 u) d (λv l j n k=>h v _ j ⟨⟨k a _ K c.1.1,c.1.2⟩,n⟩ ⟨λb o g e=>k b o (λz=>g (by simp[z])) e,rfl,rfl,rfl,Bz _⟩) λl z=>by omega
 done:=λs Q E c h=>sX q c.1 c.2 (Bz _) d (λv l j=>by rw[QR (Bz _)]at j;cases j) λl _ k=>h _ ⟨λb o g e=>k b o (λz=>g (by simp[z])) e,rfl,rfl,rfl,Bz _⟩
 self:=λi s Q E c h=>by obtain⟨S,first,e,F⟩:=c;have p:s.TypeIs (.ref I) "set_iterator":=⟨_,e,rfl⟩;refine wpAny_pyIter_slot p dH (Y4 dH p vd ?_ (ve _));exact BM ⟨.ref I,rfl,"set_iterator",_,p,qH.lookup,h⟩
theorem E4{R:List Value->Shared->Prop}(hh:A.handled=none)(N:jr w a es ep t s.heap)(hz:es.size<=1000)
 (h:∀(g:Heap)(u:Nat)(d:Drawn)(vs:List Value),s.heap.objs.size<=g.objs.size->(∀b o,s.heap.get? b=some o->g.get? b=some o)->vs.Perm (es.toList.map (·.2))->R vs {s with heap:=g,toks:=u,drawn:=d}):wpAny (model prog w) A (collect (.ref a)) R E s:=by
 have lt:=FR N.1;unfold collect;refine AN (wpAny_runValue (Pv entry_proto_collect' ?_));rw[Oy PySem.F.plain_proto_collect _];show wpAny _ A.in1 (newList []>>=λl=>again (.builtin "list.__iadd__" ⟨[l,.ref a],[]⟩)) _ _ s;refine AN (Nw ?_);refine BM ⟨X9 X6 _,Pv entry_list_iadd' ?_⟩;rw[Oy X6 _];have JH:(s.heap.push {cls:=.type "list",data:=.seq ([]:List Value).toArray}).get? s.heap.objs.size=some {cls:=.type "list",data:=.seq #[]}:=Fu _ rfl;generalize UK:s.heap.push {cls:=.type "list",data:=.seq ([]:List Value).toArray}=x at JH⊢;have k0:∀b o,s.heap.get? b=some o->x.get? b=some o:=λb o e=>by rw[<-UK];exact Bi _ e
 have n0:x.objs.size=s.heap.objs.size+1:=by rw[<-UK];exact size_push' _ _
 have Sy:jr w a es ep t x:=⟨k0 _ _ N.1,N.2⟩;have S:s.heap.objs.size≠a:=Y5 lt;show wpAny _ A.in1 (Builtin.List.listExtendWith (.ref s.heap.objs.size) (.ref a) (.ref s.heap.objs.size)) _ _ _;unfold Builtin.List.listExtendWith;have Wn:Shared.TypeIs {s with heap:=x} (.ref a) "set":=⟨_,Sy.1,rfl⟩;refine AN (wpAny_typeOf (T:="set") Wn ?_);have h1:Builtin.List.listSameRef (.ref s.heap.objs.size) (.ref a)=false:=by simp[Builtin.List.listSameRef,S]
 have h2:(Value.type "set"==Value.type "list")=false:=by decide
 have h3:(Value.type "set"==Value.type "tuple")=false:=by decide
 simp only[h1,h2,h3,QQ,N2,YV];refine AN (BO (s:={s with heap:=x}) Sy hz λvs I tp K d hp J X Wo k Z=>?_);have J:s.heap.objs.size<I:=by have:x.objs.size<=I:=J;omega
 have D:jr w a es ep t K:=⟨k _ _ Sy.1,N.2⟩;have C:vs.length=es.size:=by rw[hp.length_eq,Ee,Ar]
 have W:=yP (prog:=prog) (A:=A.in1) hh C (HI (Rc lt J)) (HI Wo) (w:=w) (ep:=ep) (t:=t);have H:s.heap.objs.size∉[I,a,tp]:=by
  simp only[FC,Os,X8,not_or];refine⟨HI J,S,λz=>?_⟩;rcases X with y|y
  .exact S (z.trans y)
  .have:x.objs.size<=tp:=y;omega
 have UL:=k _ _ JH;have U:∀(h:Heap)(p u:Nat),jr w a es ep t h/\PB w a es ep t vs I tp 0 h->(∀b o,b≠s.heap.objs.size->s.heap.get? b=some o->h.get? b=some o)->h.get? s.heap.objs.size=some {cls:=.type "list",data:=.seq #[] p}->
  codeAny (model prog w) A (.builtin "list.extend.loop" ⟨[.ref s.heap.objs.size,.ref I,.ref s.heap.objs.size],[]⟩) (λ(q:Result)(B:Shared)=>∃(g:Heap)(u:Nat)(r:Array Value)(c:Nat),q=.ok (.ret (.ref s.heap.objs.size))/\B={s with heap:=g,toks:=u,drawn:=d}/\
  (∀b o,s.heap.get? b=some o->g.get? b=some o)/\g.get? s.heap.objs.size=some {cls:=.type "list",dict:=none,data:=.seq r c,slots:= #[]}/\r.toList=vs) {s with heap:=h,toks:=u,drawn:=d}:=by
  intro h p u Y hk PJ;refine codeAny_extend_loopS W (by rw[C,Y2];omega) s.heap.objs.size H _ vs.length 0 _ #[] p rfl (L9 _) Y PJ (ItemsOf.nil _) λB f c' M hS' v=>?_;refine⟨B.heap,B.toks,f,c',rfl,?_,λb o e=>?_,hS',?_⟩
  .have P:=M.gens;have O:=M.drawn;have e3:=M.os;cases B;cases P;cases O;cases e3;rfl
  .have Q:=FR e;refine M.heap b o (λm=>?_) (hk b o (HI Q) e);rcases FC.mp m with e'|m
   .exact HI Q e'
   .rw[Do.mp m]at Q;exact absurd (Rc Q J) (Pi _)
  .apply Tf;intro j;rcases UF j f.size with y|y
   .have P:f[j]?=some f[j]:=UV y;rw[Qb,P,v.2 j _ P]
   .rw[QR (by rw[Ar];exact y),QR (by rw[<-v.1];exact y)]
 refine AN (Sr (BP (s:={s with heap:=K,drawn:=d}) ⟨_,D.1,rfl⟩ ?_));refine Re (λ_=>?_) (λhab=>absurd (by decide+kernel) hab);refine AN (wpAny_rule ?_);refine AN ?_;show wpAny _ _ (updateSeq s.heap.objs.size (·.push .none)>>=λ_=>updateSeq s.heap.objs.size (·.pop)) _ _ _;refine AN (wpAny_updateSeq UL rfl ?_);have L:=Y3 (Obj.mapSeq (·.push Value.none)) UL rfl;refine wpAny_updateSeq (hz:=by seq_fits) L rfl ?_;have Sz:=Y3 (Obj.mapSeq (·.pop)) L rfl;have kk:∀b o,b≠s.heap.objs.size->K.get? b=some o->((K.update s.heap.objs.size (Obj.mapSeq (·.push Value.none))).update s.heap.objs.size (Obj.mapSeq (·.pop))).get? b=some o:=λb o n e=>(Kb _ _ (Ki n)).trans ((Kb _ _ (Ki n)).trans e);refine BM ⟨X9 PySem.F.plain_extend_loop _,Tb (U _ _ _ ?_ (λb o n e=>kk b o n (k b o (k0 b o e))) Sz) λq s2 y=>?_⟩
 .exact W.frame 0 {s with heap:=K,drawn:=d} _ s.toks ⟨D,Z⟩ (Bz _) λb hb o e=>kk b o (λz=>H (z▸hb)) e
 .obtain⟨g,u,r,c,rfl,rfl,k5,O,rfl⟩:=y;show wpAny _ A (load s.heap.objs.size>>=_) _ _ _;exact AN (wpAny_load O (BM (h g u d r.toList (T1 (FR O)) k5 hp)))
end
section
variable{X:Cx}
theorem Inv.Wq{a:List (Addr×Obj)}{b:List (Option V)}{H:Hp}{s:Shared}(I:Inv X a b H s)(d:Drawn):Inv X a b H {s with drawn:=d}:=⟨I.ok,I.os,I.bare,I.base,I.loc,I.cell,I.free,I.gx,I.pin,I.hok,I.len⟩
theorem gR:∀{us:List Value}{a:List Str},StrsAre us a->Vals (a.map V.str) us
 |_,_,.nil=>.nil
 |_,_,.cons y t r=>.cons ⟨t,rfl⟩ (gR r)
theorem pP:∀{us:List Value}{c:List Str},Vals (c.map V.str) us->StrsAre us c
 |[],[],_=>.nil
 |_::_,[],h=>by cases h
 |[],_::_,h=>by cases h
 |u::us,y::c,h=>by
  cases h with
  |cons a b=>obtain⟨t,rfl⟩:=a;exact .cons y t (pP b)
theorem j7{us vs:List Value}(p:vs.Perm us):∀{c:List Str},StrsAre us c->∃d,StrsAre vs d/\d.Perm c:=by
 induction p with
 |nil=>exact λ{c} h=>⟨c,h,.refl _⟩
 |cons x _ k=>
  intro c h;cases h with
  |cons y t r=>obtain⟨d,i,g⟩:=k r;exact⟨y::d,.cons y t i,g.cons y⟩
 |swap x y l=>
  intro c h;cases h with
  |cons a t r=>
   cases r with
   |cons b u r=>exact⟨b::a::_,.cons b u (.cons a t r),.swap a b _⟩
 |trans _ _ f e=>intro c h;obtain⟨d,i,g⟩:=e h;obtain⟨j,n,m⟩:=f i;exact⟨j,n,m.trans g⟩
theorem pQ{f:List (Addr×Obj)}{C:List (Option V)}{H:Hp}{s:Shared}{Q:V->Hp->Prop}{r:Addr}(I:Inv X f C H s)(l:List Str)(i:l.length<64)
 (B:∀(R:List Value->Shared->Prop),(∀(g:Heap)(k:Nat)(d:Drawn)(vs:List Value)(c:List Str),s.heap.objs.size<=g.objs.size->(∀b o,s.heap.get? b=some o->g.get? b=some o)->StrsAre vs c->c.Perm l->R vs {s with heap:=g,toks:=k,drawn:=d})->wpAny (model X.prog X.w) X.A.in1 (collect (.ref r)) R X.xe s)
 (q:∀(p:Addr)(c:List Str),H p=none->c.Perm l->sortedS c=true->Q (.ref p) (upd H p (.lst (c.map V.str)))):wpAny (model X.prog X.w) X.A (call (.builtin "sorted") [.ref r]) (EP X f C Q) X.xe s:=by
 refine Calls.call_function_entry kind_sorted plain_sorted entry_sorted (args_sorted1 _) ?_;unfold Builtin.«sorted»;refine AN (m:=checkCount "sorted" 1 1 _) (BM ?_);refine AN (B _ λh' k d vs P j z n x=>?_);have J:vs.length=l.length:=by rw[<-x.length_eq];exact StrsAre.length n
 have L:vs.length<=sizeLine:=by rw[J];exact Gc (T1 i) (by decide)
 refine AN (wpAny_newList ?_ L);have y:(h'.push (seqObj "list" vs.toArray 0)).get? h'.objs.size=some (seqObj "list" vs.toArray 0):=Fu _ rfl;show wpAny _ _ _ _ _ {s with heap:=h'.push (seqObj "list" vs.toArray 0),toks:=k,drawn:=d};refine AN (Sr (Y4 slot_list_sort ⟨_,y,rfl⟩ entry_list_sort (list_sort_treeK strKind_oneLt y n.keysOf (λE D rest e=>keyKind_strs (by rw[<-e];exact n)) (by rw[J];exact i) λh v t=>⟨_,rfl,?_⟩) (args_list_sort _)));obtain⟨c,M,a2,a3⟩:=sorted_out_str n v t;refine BM ⟨_,rfl,?_⟩;obtain⟨O,N⟩:=sortedHeap_at (out:=(arrOf h).map (·.2)) y;refine⟨.ref h'.objs.size,_,(I.laid (a:=h'.objs.size) (o:=.lst (c.map V.str)) (t':=k) (h':=sortedHeap (h'.push (seqObj "list" vs.toArray 0)) h'.objs.size vs ((arrOf h).map (·.2))) (λb u e=>?_) j ⟨?_,((arrOf h).map (·.2)).toList,O,gR M,?_⟩).Wq d,rfl,q _ c (I.hok.fresh j) (a2.trans x) a3⟩
 .have K:=z b u e;have F:=FR K;rw[sortedHeap_old (HI F) (by rw[size_push'];exact XB F)];exact Bi _ K
 .rw[Ee,a2.length_eq,x.length_eq];exact Gc (T1 i) (by decide)
 .rw[N]
end
theorem sY:∀{us vs:List Value}{xs a:List Str},StrsAre us xs->StrsAre vs a->StrsAre (us++vs) (xs++a)
 |_,_,_,_,.nil,h=>h
 |_,_,_,_,.cons y t r,h=>.cons y t (sY r h)
theorem E5(t:SetTable)(es:Array (Int×Value))(h:Int)(x:Value):(layNew t es h x).2.1.led=t.led/\(t.plain=false->(layNew t es h x).2.1.plain=false):=by
 unfold layNew;split
 .dsimp only;unfold SetTable.orStandIn;split
  .exact⟨rfl,λe=>e⟩
  .exact⟨rfl,λ_=>rfl⟩
 .exact⟨rfl,λ_=>rfl⟩
theorem yQ(t:SetTable)(es:Array (Int×Value))(n:Nat):(relayAll t es n).2.1.led=t.led/\(t.plain=false->(relayAll t es n).2.1.plain=false):=by
 unfold relayAll;split
 .rename_i t' o hr
  unfold SetTable.relaid SetTable.laid at hr;simp only[bind,Option.bind]at hr;split at hr
  .cases hr
  .cases hr;dsimp only;split
   .exact⟨rfl,λe=>e⟩
   .exact⟨rfl,λ_=>rfl⟩
 .exact⟨rfl,λ_=>rfl⟩
noncomputable def ju(prog:Program)(w:World)(a:Addr)(P:Str->Prop)(n:Nat)(h:Heap):Prop:=∃b d t c,jr w a b d t h/\ElemsOf (PySem.strKind prog w) b.toList/\StrsAre (b.toList.map (·.2)) c/\c.Nodup/\(∀z,z∈c↔P z)/\b.size<=n
section
variable{prog:Program}{w:World}{A:Around}{E:Value->Shared->Prop}{s:Shared}{a:Addr}{es:Array (Int×Value)}{ep:Nat}{t:SetTable}
theorem wN(d:jr w a es ep t s.heap){c:Array (Int×Value)}{t':SetTable}{Q:Unit->Shared->Prop}(hz:c.size<=2000)(h:t'.fits c.size=true)(g:t'.led=t.led)(f:t'.plain=false)
 (k:∀h',jr w a c (ep+1) t' h'->(∀b o,b≠a->s.heap.get? b=some o->h'.get? b=some o)->Q () {s with heap:=h'}):wpAny (model prog w) A (storeSet a c t') Q E s:=by
 refine wpAny_storeSet_of d.1 rfl (k _ ⟨?_,h,by rw[g];exact d.2.2.1,.inr f⟩ λb o n e=>(Kb _ _ (Ki n)).trans e) (by rw[Y2];omega);have:=Y3 (Obj.putSet c t') d.1 rfl;exact this
theorem str_is{k:Str}{v:Value}:(PySem.strKind prog w).is k v=true↔∃b,v=.str k b:=by
 constructor
 .intro h;cases v with
  |str y b=>have h:(y==k)=true:=h;exact⟨b,by rw[IH.mp h]⟩
  |_=>exact absurd h (by intro z;cases z)
 .rintro⟨b,rfl⟩;exact strKind_is prog w k b
theorem E6{P:Str->Prop}{n:Nat}{x:Str}{f:Tok}{Q:Bool->Shared->Prop}(B:ju prog w a P n s.heap)(hn:n<=1000)
 (k:∀b h',ju prog w a (λz=>P z\/z=x) (n+1) h'->(∀b o,b≠a->s.heap.get? b=some o->h'.get? b=some o)->Q b {s with heap:=h'}):wpAny (model prog w) A (setAddHashed a (.str x f) ((PySem.strKind prog w).hash x)) Q E s:=by
 obtain⟨es,ep,t,C,B,l,h,J,hP,hz⟩:=B;have hk:(PySem.strKind prog w).is x (.str x f)=true:=strKind_is prog w x f;have sb:scanBound=4096:=rfl;have len:C.length=es.size:=by rw[<-StrsAre.length h,Ee,Ar]
 unfold setAddHashed;unfold setAddHashedIn;refine Sr (AN (fY B ?_));dsimp only;rw[byScan_of (x:=.str x f) rfl (by omega) l,FM rfl];unfold setAddByScan;refine AN (AN (wpAny_rule (AN (wpAny_setScan_of hk B.1 rfl B.2.1 l ?_))));have H:x∈C↔∃e∈es.toList,(PySem.strKind prog w).is x e.2=true:=by
  constructor
  .intro p;obtain⟨j,hj,e⟩:=X1 p;have:es.toList[j]?=some (es.toList[j]'(by rw[Ar];omega)):=DL _;refine⟨es.toList[j]'(by rw[Ar];omega),Mo _,str_is.mpr ?_⟩;have hv:=Vals.get (i:=j) (x:=V.str x) (gR h) (by rw[Fm,DL hj,e];rfl);obtain⟨u,S,t',rfl⟩:=hv;rw[Fm,this]at S;exact⟨t',IR S⟩
  .rintro⟨e,he,p⟩;obtain⟨t',e2⟩:=str_is.mp p;have:=h.strs;rw[<-this];exact Hn.mpr ⟨e.2,Hn.mpr ⟨e,he,rfl⟩,by rw[e2];rfl⟩
 cases hr:List.findIdx? (λe=>(PySem.strKind prog w).is x e.2) es.toList with
 |some j=>dsimp only;obtain⟨hj,Wr,_⟩:=List.findIdx?_eq_some_iff_getElem.mp hr;have p:x∈C:=H.mpr ⟨_,Mo hj,Wr⟩;refine BM (BM ?_);exact k false s.heap ⟨es,ep,t,C,B,l,h,J,λz=>⟨λy=>.inl ((hP z).mp y),λy=>y.elim (hP z).mpr λe=>by rw[e];exact p⟩,by omega⟩ λ_ _ _ e=>e
 |none=>
  dsimp only;have p:x∉C:=λy=>by obtain⟨e,he,hp⟩:=H.mp y;have:=List.findIdx?_eq_none_iff.mp hr e he;rw[hp]at this;cases this
  have D:=layNew_perm t es ((PySem.strKind prog w).hash x) (.str x f);have N:=layNew_fits t es ((PySem.strKind prog w).hash x) (.str x f);have T:=E5 t es ((PySem.strKind prog w).hash x) (.str x f);generalize layNew t es ((PySem.strKind prog w).hash x) (.str x f)=L at D N T⊢;obtain⟨c,U,wd,gave⟩:=L;dsimp only at D N T⊢;rw[So]at D;have K:ElemsOf (PySem.strKind prog w) c.toList:=(l.push hk rfl).perm D;have hz1:c.size=es.size+1:=by rw[<-Ar,D.length_eq,Dx,Ar];rfl
  have SD:StrsAre ((es.toList++[((PySem.strKind prog w).hash x,Value.str x f)]).map (·.2)) (C++[x]):=by rw[KB];exact sY h (.cons x f .nil)
  obtain⟨ys,SG,Z⟩:=j7 (D.map _) SD;have M:∀(F:Array (Int×Value))(d:SetTable)(PK:Nat)(h':Heap),F.toList.Perm c.toList->jr w a F PK d h'->ju prog w a (λz=>P z\/z=x) (n+1) h':=λF d PK h' q PL=>by
   obtain⟨zs,SH,Y⟩:=j7 (q.map _) SG;have I:=Y.trans Z;refine⟨F,PK,d,zs,PL,K.perm q,SH,I.nodup_iff.mpr ?_,λz=>?_,?_⟩
   .exact P3.mpr ⟨J,YL _ _,λu S v hv e=>p (by rw[<-Do.mp hv,<-e];exact S)⟩
   .rw[I.mem_iff,FK,Do,hP]
   .rw[<-Ar,q.length_eq,Ar];omega
  have gw:∀(b:Bool){g:Shared}{Q':Unit->Shared->Prop},Q' () g->wpAny (model prog w) A (match b with|true=>rule "set.scan.the-table-gave-way"|false=>pure ()) Q' E g:=λb g Q' hq=>by
   cases b
   .exact BM hq
   .exact wpAny_rule hq
  refine AN (gw _ ?_);have m:∀d:SetTable,d.fits c.size=true->d.led=t.led->d.plain=false->wpAny (model prog w) A (do
   storeSet a c d
   if(!wd&&d.tooFull)=true then do
      (match(relayAll d c (SetTable.grown c.size)).2.2 with|true=>rule "set.scan.the-table-gave-way"|false=>pure ())
      storeSet a (relayAll d c (SetTable.grown c.size)).1 (relayAll d c (SetTable.grown c.size)).2.1
      pure (some true)
    else pure (some true)) (λr s'=>wpAny (model prog w) A (match r with|some added=>pure added|none=>setAddHashedIn a (.str x f) ((PySem.strKind prog w).hash x) 99999) Q E s') E s:=λd f2 l2 p2=>by
   refine AN (wN B (by omega) f2 l2 p2 λh1 Q4 k1=>?_);split
   .have O:=relayAll_perm d c (SetTable.grown c.size);have X:=relayAll_fits d c (SetTable.grown c.size);have R:=yQ d c (SetTable.grown c.size);generalize relayAll d c (SetTable.grown c.size)=Rl at O X R⊢;obtain⟨F,t3,g2⟩:=Rl;dsimp only at O X R⊢;have hz2:F.size=c.size:=by rw[<-Ar,O.length_eq,Ar]
    refine AN (gw _ ?_);refine AN (wN (s:={s with heap:=h1}) Q4 (by omega) X R.1 (R.2 p2) λh2 PL k2=>?_);exact BM (BM (k true h2 (M _ _ _ _ O PL) λb o n e=>k2 b o n (k1 b o n e)))
   .exact BM (BM (k true h1 (M _ _ _ _ (.refl _) Q4) k1))
  cases hpl:U.plain with
  |true=>rw[FM rfl,hashByValue_scannable 8 (x:=.str x f) rfl];refine AN (BM ?_);exact m {U with plain:=false} (SetTable.fits_plain_off N) T.1 rfl
  |false=>rw[Da Fh];refine AN (BM ?_);exact m U N T.1 hpl
theorem ju.same{P d:Str->Prop}{n b:Nat}{h h':Heap}(x:ju prog w a P n h)(k:∀o,h.get? a=some o->h'.get? a=some o)(e:∀z,P z↔d z)(g:n<=b):ju prog w a d b h':=by obtain⟨es,ep,t,f,c,p,m,l,j,i⟩:=x;exact⟨es,ep,t,f,⟨k _ c.1,c.2⟩,p,m,l,λz=>(j z).trans (e z),Gc i g⟩
theorem sZ{R:Result->Shared->Prop}{I l:Addr}{xs:List Str}{P:Nat->Value->Prop}{St:Nat->Shared->Prop}{j:List Addr}{G:Array GenState->Array GenState->Prop}(W:WalksS prog w A.in1 I [I,l] j G xs.length P St)(h:a∉[I,l])(y:∀i v,P i v->∃f x,xs[i]?=some x/\v=.str x f)(c:xs.length<=1000):
 ∀(k i:Nat)(s:Shared),xs.length -i=k->i<=xs.length->St i s->ju prog w a (λz=>z∈xs.take i) i s.heap->(∀s',Moved (a::j) G s s'->ju prog w a (λz=>z∈xs) xs.length s'.heap->R (.ok (.ret .none)) s')->codeAny (model prog w) A (.builtin "set.update.loop" ⟨[.ref a,.ref I],[]⟩) R s
 |0,i,s,H,J,d,p,q=>by
  have e:i=xs.length:=by omega
  subst e;refine Pv L0 ?_;rw[Oy W1 _];show wpAny _ A.in1 (pyNext (.ref I)>>=_) _ _ s;refine AN (W.done s _ _ d λs' g=>?_);show wpAny _ A.in1 (ret Value.none) _ _ s';refine BM (q s' (g.mono λb c=>B1 _ c) (p.same (λo e=>g.heap a o (λz=>h (W.sub _ z)) e) (λz=>by rw[OK]) (Bz _)))
 |k+1,i,s,H,J,d,p,q=>by
  have r:i<xs.length:=by omega
  refine Pv L0 ?_;rw[Oy W1 _];show wpAny _ A.in1 (pyNext (.ref I)>>=_) _ _ s;refine AN (W.item i s _ _ r d λv s' K O g=>?_);obtain⟨f,x,D,rfl⟩:=y i v K;have n:ju prog w a (λz=>z∈xs.take i) i s'.heap:=p.same (λo e=>g.heap a o (λz=>h (W.sub _ z)) e) (λ_=>OB) (Bz _);show wpAny _ A.in1 (holding [Value.str x f] (setAdd a (.str x f))>>=_) _ _ s';unfold setAdd;refine AN (Sr (Sr ?_));refine AN ((PySem.strKind prog w).pyHash (k:=x) (strKind_is prog w x f) ?_);refine E6 (s:={s' with toks:=_}) n (by omega) λb B Q u=>?_;have L:ju prog w a (λz=>z∈xs.take (i+1)) (i+1) B:=Q.same (λ_ e=>e) (λz=>by rw[Po,D,FK];simp) (Bz _);have C:∀b o,b∉a::j->s'.heap.get? b=some o->B.get? b=some o:=λb o c e=>u b o (λz=>c (by rw[z];exact Bn)) e;refine BM ⟨X9 W1 _,sZ W h y c k (i+1) _ (by omega) r (W.frame _ s' _ _ O (X7 _) λb c o e=>u b o (λz=>h (z▸c)) e) L λm N M=>?_⟩;exact q m (Moved.trans W.gtrans ((g.mono λb c=>B1 _ c).then_heap (X7 _) C) N) M
theorem E8{l:Value}{b:Value->Shared->Prop}
 (h:b (.ref s.heap.objs.size) {s with heap:=s.heap.push {cls:=.type "set",dict:=none,data:=.set #[] 0 (.fresh 0 0 (!w.params.followText "set-order"))}}):
 codeAny (model prog w) A (.call (.builtin "set.__new__") ⟨[.type "set",l],[]⟩) (wants b E) s:=by
 refine codeAny_of_tree ?_;show wpAny _ A.in1 (do checkBuiltinCall "set.__new__" ⟨[.type "set",l],[]⟩;again (.builtin "set.__new__" ⟨[.type "set",l],[]⟩)) _ _ s;refine AN (wpAny_of_eq (PySem.F.newCall_set_1 l) (BM ⟨X9 PySem.F.plain_set_new _,Pv PySem.F.entry_set_new ?_⟩));rw[Oy PySem.F.plain_set_new _];unfold Builtin.«set.__new__» Builtin.Frozenset.newClass;have c:=sub_set_self;obtain⟨i,g,d,e,f⟩:=s;dsimp only;wp_walk;refine X5 (BM ?_);dsimp only;simp only[newObj];exact AN (wpAny_alloc (BM (BM h)))
theorem yR{l:Addr}{its:Array Value}{xs:List Str}{Q:Value->Shared->Prop}(hh:A.handled=none)(X:s.heap.IsList l its)(S:StrsAre its.toList xs)(hb:xs.length<=1000)
 (h:∀(h':Heap)(m:Nat),ju prog w s.heap.objs.size (λz=>z∈xs) xs.length h'->(∀b o,s.heap.get? b=some o->h'.get? b=some o)->Q (.ref s.heap.objs.size) {s with heap:=h',toks:=m}):wpAny (model prog w) A (call (.type "set") [.ref l]) Q E s:=by
 have sz:its.size=xs.length:=by rw[<-Ar];exact StrsAre.length S
 generalize D:s.heap.push {cls:=.type "set",dict:=none,data:=.set #[] 0 (.fresh 0 0 (!w.params.followText "set-order"))}=g;have Z:g.get? s.heap.objs.size=some {cls:=.type "set",dict:=none,data:=.set #[] 0 (.fresh 0 0 (!w.params.followText "set-order"))}:=by rw[<-D];exact Fu _ rfl
 have R:∀b o,s.heap.get? b=some o->g.get? b=some o:=λb o e=>by rw[<-D];exact Bi _ e
 have N:g.objs.size=s.heap.objs.size+1:=by rw[<-D];exact size_push' _ _
 have B:codeAny (model prog w) A.in1 (.call (.builtin "set.__new__") ⟨[.type "set",.ref l],[]⟩) (wants (λp f=>p=.ref s.heap.objs.size/\f={s with heap:=g}) E) s:=E8 ⟨rfl,by rw[D]⟩;have hT:Shared.TypeIs {s with heap:=g} (.ref s.heap.objs.size) "set":=⟨_,Z,rfl⟩;have PM:codeAny (model prog w) A.in1 (.call (.builtin "set.__init__") ⟨[.ref s.heap.objs.size,.ref l],[]⟩) (wants (λr d=>r=.none/\∃h' m,d={s with heap:=h',toks:=m}/\ju prog w s.heap.objs.size (λz=>z∈xs) xs.length h'/\(∀b o,s.heap.get? b=some o->h'.get? b=some o)) E) {s with heap:=g}:=by
  refine codeAny_call_builtin Pt.init.plain PySem.F.entry_set_init (check_set_init_1 hT ?_);have j:g.IsList l its:=by obtain⟨o,y,r⟩:=X;exact⟨o,R _ _ y,r⟩
  have XS:Shared.TypeIs {s with heap:=g} (.ref l) "list":=by obtain⟨o,y,hc,_⟩:=j;exact⟨o,y,hc⟩
  have Wt:=PySem.F.sub_list_set;have Wu:=PySem.F.sub_list_frozenset;have hne:(Value.type "list"==Value.type "dict")=false:=by decide
  unfold Builtin.«set.__init__» noKeywords Builtin.Frozenset.updateFrom;generalize Wv:pyIter=PI
  wp_walk
  subst Wv;have P:l<s.heap.objs.size:=by obtain⟨o,y,_⟩:=X;exact FR y
  have h3:A.in1.in1.in1.handled=none:=hh;refine YR (s:={s with heap:=g}) j ?_;refine AN (wpAny_runValue ?_);have L:s.heap.objs.size∉[g.objs.size,l]:=by simp only[FC,Os,X8,not_or];exact⟨by omega,Y5 P⟩
  have W:=(Walks.list (prog:=prog) (w:=w) h3 g.objs.size l (by rw[N];exact HI (XB P)) its).toS;rw[sz]at W;refine sZ W L (λi v hv=>?_) hb xs.length 0 _ rfl (L9 _) ⟨⟨_,Fu _ rfl,rfl,rfl⟩,j.push _⟩ ?_ λH C k=>?_
  .have q:its.toList[i]?=some v:=by rw[Qb];exact hv
   have li:=(GE.mp q).1;have O:i<xs.length:=by rw[Ar]at li;omega
   obtain⟨u,T,m,rfl⟩:=Vals.get (i:=i) (x:=V.str xs[i]) (gR S) (by rw[Fm,DL O];rfl);rw[q]at T;cases T;exact⟨m,_,DL O,rfl⟩
  .refine⟨#[],0,_,[],⟨Bi _ Z,rfl,?_,.inl rfl⟩,(λe he=>by cases he),StrsAre.nil,M4,(λz=>by simp),Bz _⟩;cases w.params.followText "set-order"
   .exact .inr rfl
   .exact .inl rfl
  .show wpAny _ _ _ _ _ _;refine BM ?_;show wpAny _ _ (ret Value.none) _ _ _;refine BM ⟨rfl,H.heap,H.toks,?_,k,λb o e=>?_⟩
   .have e1:=C.gens;have e2:=C.drawn;have e3:=C.os;cases H;cases e1;cases e2;cases e3;rfl
   .have Y:=FR e;exact C.heap b o (by simp only[FC,Os,X8,not_or];exact⟨HI Y,by rw[N];exact HI (XB Y)⟩) (Bi _ (R b o e))
 obtain⟨c,tl,Ww⟩:=Pt.mro;have J:=Pt.made;have U:=Pt.sub;refine wpAny_call (codeAny_of_tree ?_);show wpAny _ _ (callAny (.type "set") _) _ _ _;refine BM ⟨Code.quiet_builtin _ (by decide+kernel),Pv PySem.F.entry_type_call ?_⟩;rw[Around.under_plain (weight_type_call_type "set" [.ref l] []) rfl];have h1:=Pt.notType;have h2:=Pt.canCreate;have hct:=PySem.F.typeCall_set_1 (.ref l)
 repeat (any_goals (first|assumption|wp_step))
 refine Tb B λr f I=>?_;cases r with
 |error e=>exact I
 |ok fl=>
  cases fl with
  |ret p=>
   obtain⟨rfl,rfl⟩:=I;have hli:=Pt.init.lookup;have hbi:=Pt.init.bind (.ref s.heap.objs.size)
   repeat (any_goals (first|assumption|wp_step))
   refine Tb PM λn d M=>?_;cases n with
   |error e=>exact M
   |ok PN=>
    cases PN with
    |ret r=>
     obtain⟨rfl,h',m,rfl,k,K⟩:=M
     repeat (any_goals (first|assumption|wp_step))
     exact h _ _ k K
    |_=>exact M.elim
  |_=>exact I.elim
end
section
variable{X:Cx}
noncomputable def wQ(X:Cx)(p:Addr)(xs:List Str):Heap->Prop:=ju X.prog X.w p (λz=>z∈xs) xs.length
theorem yS(i:X.calm=true):aZ X (.type "set") (λus H Q=>∃(a:Addr)(xs:List Str),us=[V.ref a]/\Rd H a (.lst (xs.map V.str))/\xs.length<64/\∀p,H p=none->Q (.ref p) (upd H p (.ext (wQ X p xs)))):=by
 intro c s v H xs us Q I r h;obtain⟨a,xs,rfl,j,l,q⟩:=h;obtain⟨u,rfl,f⟩:=vals1 r;cases f;obtain⟨_,its,n,g,e⟩:=j.ok I.hok;have m:=I.hok.fresh (Bz s.heap.objs.size);refine yR (its:=its.toArray) (I.ok.hd i) ⟨_,e,rfl,n,rfl⟩ (by exact pP g) (by omega) λA d b k=>?_;refine⟨.ref s.heap.objs.size,_,I.laid (o:=.ext (wQ X s.heap.objs.size xs)) (t':=d) k (Bz _) ⟨b,?_,λx w y z=>?_⟩,rfl,q _ m⟩
 .obtain⟨B,C,t,xs,b,_⟩:=b;exact⟨_,b.1⟩
 .exact ju.same y z (λ_=>OB) (Bz _)
theorem vf(y:X.calm=true):aZ X (.builtin "sorted") (λus H Q=>∃(a:Addr)(xs:List Str),us=[V.ref a]/\H a=some (.ext (wQ X a xs))/\xs.length<64/\
 ∀(p:Addr)(b:List Str),H p=none->b.Nodup->(∀z,z∈b↔z∈xs)->sortedS b=true->Q (.ref p) (upd H p (.lst (b.map V.str)))):=by
 intro l s K H xs us Q I r h;obtain⟨a,xs,rfl,B,D,q⟩:=h;obtain⟨u,rfl,v⟩:=vals1 r;cases v;obtain⟨i,_,_⟩:=I.hok a _ B;obtain⟨J,M,t,j,i,x,c,f,C,hz⟩:=i;have L:j.length=J.size:=by rw[<-StrsAre.length c,Ee,Ar]
 refine pQ I j (by omega) (λR k=>E4 (A:=X.A.in1) (I.ok.hd y) i (by omega) λg o d m n w e=>?_) λp b e a2 a3=>q p b e (a2.nodup_iff.mpr f) (λz=>by rw[a2.mem_iff,C]) a3;obtain⟨b,F,E⟩:=j7 e c;exact k g o d m b n w F E
theorem E9{prog:Program}{w:World}{x:Str}{v:Value}(h:(bg prog w).is (.inr x) v=true):∃t,v=Value.str x t:=by
 have h:l7 (.inr x) v=true:=h;rcases aX h with⟨i,t,e,rfl⟩|⟨y,t,e,rfl⟩
 .cases e
 .cases e;exact⟨t,rfl⟩
theorem Fb{a:List Str}:∀{us:List Value},us.length=a.length->(∀(j:Nat)(v:Value),us[j]?=some v->∃n t,a[j]?=some n/\v=Value.str n t)->StrsAre us a:=by
 induction a with
 |nil=>intro us h _;rw[Jn.mp h];exact .nil
 |cons n a b=>
  intro us h k;cases us with
  |nil=>cases h
  |cons u us=>obtain⟨f,t,d,c⟩:=k 0 u rfl;cases d;subst c;exact .cons n t (b (by simpa using h) λj v e=>k (j+1) v (by simpa using e))
theorem vg(P:X.calm=true):aZ X (.builtin "sorted") (λxs H Q=>∃(a:Addr)(kvs:List (Key×V))(b:List Str),xs=[V.ref a]/\H a=some (.dK kvs)/\kvs.map (·.1)=b.map G1/\b.length<64/\
 ∀(p:Addr)(i:List Str),H p=none->i.Perm b->sortedS i=true->Q (.ref p) (upd H p (.lst (i.map V.str)))):=by
 intro C s Z H xs us Q I r h;obtain⟨a,kvs,b,rfl,S,E,g,q⟩:=h;obtain⟨u,rfl,J⟩:=vals1 r;cases J;obtain⟨z,K,d,f,Y⟩:=wg I.hok (.inl S);obtain⟨ep,o⟩:=Y.dictAt;have D:d.length=b.length:=by have U:=Kt IY E;rw[Ee,Ee]at U;have y:=f.length;omega
 have keys:d.map (·.1)=b.map G1:=by rw[<-E];exact f.keys.symm
 have O:d.length<=sizeLine:=by rw[D];exact Gc (T1 g) (by decide)
 refine pQ I b g (λR k=>A3 (A:=X.A.in1) (kdl_dict (knd:=bg X.prog X.w) (kvs:=d) (ep:=ep) K) (I.ok.hd P) o O λT F B l m c=>?_) q;refine k T F s.drawn B.toList b (T1 l) m (Fb (by rw[Ar,c.1,D]) λj v e=>?_) (.refl _);obtain⟨L,x,M,N⟩:=c.2 j v (by rw[<-Qb];exact e);have y:(d.map (·.1))[j]?=some L:=by rw[Fm,M];rfl
 rw[keys,Fm]at y;obtain⟨n,en,rfl⟩:=Kk.mp y;obtain⟨t,rfl⟩:=E9 N;exact⟨n,t,en,rfl⟩
end
end L2
namespace VL
open PySem PySem.Spec
open PyProof.Rows hiding St
open L2
section
variable{X:Cx}{M:Ms}{R:Addr->Prop}{e a b c o:Expr}{ta tb tc:WT}{m:Md}{pos p:Pos}{x:Str}{i:Nat}
theorem La{v y:Option Expr}{p2:Pos}{tl u:Ev->(Option Int->Prop)->Prop}(E:VB X M R a ta)(n:PO X v (Kw X M R tl))(f:PO X y (Kw X M R u)):VE X M R .s (.Subscript a (.Slice v y none p2) pos) (λd Q=>ta d λx=>tl d λl=>u d λh=>El x l h Q):=
 PE.imp (rX (JM.or Jx) E n f)<|by
  rintro I H Q ⟨A,t,d,P,S,r,h,k⟩;refine⟨A,t,d,_,S,r,h,λx K O D g j=>⟨A,t,d,_,S.same g,r,D,λl N n s2=>⟨A,t,d,_,S.same (g.trans s2),r,n,λh L f s3=>?_⟩⟩⟩;have j:=aT.same (s2.trans s3) j;cases x with
  |str z=>
   cases j.str;exact .inl ⟨z,rfl,f.1,k _ _ _ f.2 ((g.trans s2).trans s3) (.of (oE _))⟩
  |tup J=>obtain⟨p,C,rfl,F,B⟩:=j.tup;refine .inr ⟨p,C,rfl,F,by rw[B.len];exact f.1,λq w=>?_⟩;exact k _ _ _ f.2 (((g.trans s2).trans s3).trans (aF w _)) (.of (qz aq (af.same (aF w _) (Br B l h))))
  |_=>exact f.elim
theorem Lb{apos d:Pos}(O:VE X M R .s a ta)(N:VE X M R .s b tb)(L:VE X M R .s c tc)(l:attributeBase a "startswith" X.env (eval a X.env)=eval a X.env)(j:(apos.endLine==d.line)=true)
 (g:starEach [b,c] X.env=(false,eval b X.env)::starEach [c] X.env)(s2:starEach [c] X.env=(false,eval c X.env)::starEach [] X.env):
 VE X M R .s (.Call (.Attribute a "startswith" apos) [b,c] [] d) (λf Q=>ta f λx=>O2 x=true/\tb f λy=>tc f λz=>J0 x y z Q):=
 PE.imp (rZ PySem.F.plainAttrs_str PySem.F.slot_str_startswith PySem.F.type_str_startswith yD O (aP N (aP L bS s2) g) l (by rw[g,s2];rfl) j g (by rw[s2];rfl))<|by
  rintro σ H Q ⟨A,u,f,P,S,t,h,k⟩;refine⟨A,u,f,_,S,t,h,λw v H1 r g J=>?_⟩;cases w with
  |str z=>
   obtain⟨_,r⟩:=r;have e:=J.aO;have e:v=.str z:=e;subst e;refine⟨rfl,A,u,f,_,S.same g,t,r,λC D H2 De s2 I=>⟨A,u,f,_,S.same (g.trans s2),t,De,λB v3 Z q s3 E=>?_⟩⟩;cases C with
   |str y=>
    cases B with
    |int n=>have Y:D=.str y:=I.aO;have U:=E.aO.int_inv;subst Y U;obtain⟨T,h2,q⟩:=q;obtain⟨K,rfl⟩:=OF T;exact⟨z,y,K,rfl,rfl,by omega,k _ _ Z q ((g.trans s2).trans s3) (.of (pN _))⟩
    |_=>exact q.elim
   |_=>
    cases B<;>exact q.elim
  |_=>exact ff r.1
theorem Lc{n:Nat}(D:VE X M R .s a ta)(B:attributeBase a x X.env (eval a X.env)=eval a X.env):VE X M R .s (.Attribute a x pos) (λf Q=>ta f λw=>J1 n x w Q):=
 PE.imp (Ay D B)<|by
  rintro U H Q ⟨A,T,f,P,S,J,h,k⟩;refine⟨A,T,f,_,S,J,h,λw v O d t z=>?_⟩;cases w with
  |obj C I Y=>obtain⟨j,u,L,d⟩:=d;obtain⟨q,N,l,rfl,Z,F,h2,g,E⟩:=z.aO;obtain⟨y,K,r⟩:=E.get L;exact⟨q,C,N,_,y,rfl,F,g.1,g.2.2.2 x (KE j),BC (v:=y) (n:=n) I l n g.2.2.1 j K,k _ _ O d t (.of r)⟩
  |_=>exact d.elim
theorem Ig{K:Frag}{C:Addr}{f:Addr}(g:Meth K C x f):∀(l:List Str)(r:List V),(∀y∈l,gz K C y)->(l.zip r).lookup x=none
 |[],_,_=>rfl
 |y::l,[],_=>rfl
 |y::l,z::r,h=>by
  have d:=h y Bn;have j:(x==y)=false:=Pl.mpr λe=>by have d:findIn K (.ref C) y=some none:=d;rw[<-e,g.at_]at d;cases d
  rw[E7,DV,j];exact Ig g l r λq k=>h q (B1 _ k)
theorem Ld{pl:Sem Bool}{G:W}{k n:Nat}{f:Addr}{U:FuncData}{ps:List Str}{sp:aW}{apos:Pos}(hG:∀C,G=.cls C->Meth X.K C x f)(F:bE X.prog X.w X.K X.mg X.base (iC X.prog X.w) k f U ps (Dd X.K n m sp))(hr:cC k X.A)(hb:Binds X.K U ps [])
 (hn:∀d P R,sp d P R->d.length=n)(ho:VE X M R .s o ta)
 (ht:eval (.Call (.Attribute o x apos) [] [] pos) X.env=(do
   let ov<-eval o X.env
   standAt apos.atName
   let(f,first)<-holding [ov] (getMethod ov x pl)
   callWith pos f first (backTo pos (starEach [] X.env)) (backToKw pos (keywordEach [] X.env)))):
 VE X M R m (.Call (.Attribute o x apos) [] [] pos) (λB Q=>ta B λw=>match w with|.obj C j d=>G=.cls C/\sp [.obj C j d] Q R|_=>False):=by
 rintro r s y H Q I ⟨A,H0,B,P,S,Y,h,kk⟩;obtain⟨E,pE,hE,hR⟩:=id Y;refine YT (pl:=pl) (bC (ho r s y H (λZ l=>∃w,(match w with|.obj C j d=>G=.cls C/\sp [.obj C j d] P R|_=>False)/\au H l/\Rep X.K (FB A M y) l w Z) I ⟨A,H0,B,_,S,Y,h,λw v H1 g O t=>⟨w,g,O,t.aO⟩⟩) λu O ⟨x1,H1,N,rx,w,g,sm,t⟩=>?_) ht;cases w with
 |obj C j d=>obtain⟨hg,g⟩:=g;have J:=t;obtain⟨q,dx,vs,rfl,na,h1,h2,T,h3⟩:=t;obtain rfl:u=Value.ref q:=rx;have L:=hG C hg;refine iI N h1 T.1 L (Ig L j vs T.2.2.2) ?_;refine PySem.W.callWith_K0 (first:=[.ref q]) N.jO L.kp (qf (us:=[.ref q]) (vs:=[.ref q]) (ds:=[]) (zM:=[]) F hr hb .nil pE N (.cons rfl .nil) ?_);rw[Kx];exact⟨FB A M y,[.obj C j d],P,R,hn _ _ _ g,.cons J .nil,(S.same sm).dom,g,λw v l pw D r'=>kk w v l pw (sm.trans D) (r'.back sm λ_ z=>z),λC l rc D=>hE C l rc (S.sm.trans (sm.trans D))⟩
 |_=>exact g.elim
theorem Wx{a b c:Bool}(z:((a&&b)&&c)=true):(a=true/\b=true)/\c=true:=by cases a<;>cases b<;>cases c<;>first|exact⟨⟨rfl,rfl⟩,rfl⟩|exact ff z
noncomputable def oG:List Str->List Int->List (Key×V)
 |x::d,v::vs=>(.inr x,.int v)::oG d vs
 |_,_=>[]
noncomputable def Fc:List Str->List Int->List (Option Expr)->List Expr->Bool
 |[],[],[],[]=>true
 |x::f,v::vs,some k::d,e::es=>(match k with|.Constant (.str y) _ _=>decide (y=x)|_=>false)&&(match e with|.Constant (.int j) _ _=>decide (j=v)|_=>false)&&Fc f vs d es
 |_,_,_,_=>false
theorem wR(j:Str):∀(d:List Str)(vs:List Int)(n:Int),jo j d vs=some n->jT (oG d vs) (.inr j)=some (.int n)
 |[],_,_,h=>nn h
 |_::_,[],_,h=>nn h
 |x::d,v::vs,n,h=>by
  have h:(if x=j then some v else jo j d vs)=some n:=h;by_cases e:x=j
  .rw[FM e]at h;cases h;exact jl (by rw[e])
  .rw[Da e]at h;show jT ((G1 x,V.int v)::oG d vs) _=_;rw[jm (by intro z;cases z;exact e rfl)];exact wR j d vs n h
theorem pS:∀(f:List Str)(vs:List Int)(d:List (Key×V)),f.Nodup->(∀j∈d,∀x∈f,j.1≠G1 x)->iJ d (oG f vs)=d++oG f vs
 |[],_,d,_,_=>(Kx d).symm
 |_::_,[],d,_,_=>(Kx d).symm
 |x::f,v::vs,d,l,h=>by
  obtain⟨q,n⟩:=Hk.mp l;have e:putK d (G1 x:Key) (V.int v)=d++[(G1 x,.int v)]:=by unfold putK;rw[Da];intro z;obtain⟨j,g,e⟩:=YO.mp z;exact h j g x Bn (Ap e)
  show iJ (putK d (G1 x:Key) (V.int v)) (oG f vs)=_;rw[e,pS f vs _ n λj g y k=>?_]
  .rw[PH];rfl
  .rcases FK.mp g with g|g
   .exact h j g y (B1 _ k)
   .rw[Do.mp g];intro z;cases z;exact q k
theorem wU:∀(f:List Str)(vs:List Int)(d:List (Option Expr))(es:List Expr),Fc f vs d es=true->OI X p d es (QY (λx v=>(tC (.str x),tC (.int v))) f vs)/\d.all (·.isSome)=true/\d.length=es.length/\d.length=f.length/\f.length=vs.length
 |[],[],[],[],_=>⟨Eb,rfl,rfl,rfl,rfl⟩
 |x::f,v::vs,some k::d,e::es,h=>by
  obtain⟨⟨j,g⟩,w⟩:=Wx h;obtain⟨s,r,q,n,l⟩:=wU f vs d es w;have u:PE X k (tC (.str x)):=by
   cases k with
   |Constant c _ _=>
    cases c with
    |str y=>
     cases Ap j;exact Ag
    |_=>exact ff j
   |_=>exact ff j
  have t:PE X e (tC (.int v)):=by
   cases e with
   |Constant c _ _=>
    cases c with
    |int y=>
     cases Ap g;exact l8
    |_=>exact ff g
   |_=>exact ff g
  exact⟨AZ u t s,r,Kt (·+1) q,Kt (·+1) n,Kt (·+1) l⟩
theorem pT:∀(d:List Str)(vs:List Int){g:St}{H:Hp}{Q:List (V×V)->Hp->Prop},Q ((oG d vs).map λf=>(kV f.1,f.2)) H->qo (QY (λx v=>(tC (.str x),tC (.int v))) d vs) g H Q
 |[],_,_,_,_,h=>h
 |_::_,[],_,_,_,h=>h
 |x::d,v::vs,_,_,_,h=>pT d vs h
theorem wV:∀(d:List Str)(vs:List Int),(oG d vs).length<=d.length
 |[],_=>L9 _
 |_::_,[]=>L9 _
 |x::d,v::vs=>Ol (wV d vs)
theorem Le{d:List Str}{vs:List Int}{r:List (Option Expr)}{es:List Expr}(E:X.A.units+1<cLine)(F:Fc d vs r es=true)(K:d.Nodup)(O:d≠[])(B:d.length<=15)(N:VE X M R .s b tb)(I:JF b):
 VE X M R .s (.Subscript (.Dict r es p) b pos) (λl Q=>tb l λx=>match x with|.str j=>∃n,jo j d vs=some n/\Q (.int n)|_=>False):=by
 obtain⟨t,D,C,y,r5⟩:=wU (X:=X) (p:=p) d vs r es F;refine PE.imp (DZ E (Ec t D C (λz=>O (Jn.mp (by rw[<-y,z];rfl))) (by rw[y];exact B)) N I) ?_;rintro Z H Q ⟨A,Y,l,P,S,T,h,k⟩;intro q J;refine pT d vs ⟨aq,oG d vs,rfl,Gc (wV d vs) B,?_⟩;rw[pS d vs [] K (λkv L=>by cases L),Jl,Dk];have sm:au H (upd H q (.dK (oG d vs))):=aF J _;refine⟨A,Y,l,_,S.same sm,T,h,λw v U f u t=>?_⟩;cases w with
 |str j=>obtain⟨n,e,f⟩:=f;have ev:v=.str j:=t.aO;subst ev;refine⟨q,.int n,rfl,?_,k _ _ U f (sm.trans u) (.of (dj _))⟩;have g:=yu.k (k:=G1 j) (u q _ aq);rw[wR j d vs n e]at g;exact g
 |_=>exact f.elim
theorem tu:∀{kvs:List (Key×V)}{d:List Str},kvs.map (λx=>kZ x.1)=d.map W.str->kvs.map (·.1)=d.map G1
 |[],[],_=>rfl
 |[],_::_,h=>by cases h
 |_::_,[],h=>by cases h
 |x::kvs,n::d,h=>by
  obtain⟨k,v⟩:=x;rw[Ha,Ha]at h;have f:=(YF h).1;have g:=tu (YF h).2;rw[Ha,Ha,g];cases k with
  |inl i=>cases f
  |inr y=>
   cases f;rfl
theorem gD{K:Frag}{B:Addr->Prop}{H:Hp}:∀d:List Str,af K B H (d.map W.str) (d.map V.str)
 |[]=>.nil
 |m::d=>.cons (oE m) (gD d)
theorem tw{K:Frag}{B:Addr->Prop}{H:Hp}:∀{d:List Str}{vs:List V},af K B H (d.map W.str) vs->vs=d.map V.str
 |[],_,h=>by cases h;rfl
 |m::d,_,h=>by obtain⟨v,r,rfl,g,f⟩:=af.cons_inv h;rw[tw f];have e:v=.str m:=g;rw[e];rfl
theorem boot_set:bootBuiltins "set"=some (.type "set"):=by decide+kernel
theorem Lf{q:Pos}(E:X.calm=true)(z:(i,.d)∈M)(y:PE X o (jc i))(D:Gl X "sorted")(hz:X.mg "sorted"=none)(t:starEach [o] X.env=(false,eval o X.env)::starEach [] X.env):
 VE X M R .f (.Call (.Name "sorted" q) [o] [] pos) (λr Q=>match look r i with|some (.dct s vs)=>∃xs:List Str,s=xs.map W.str/\xs.length<64/\∀j:List Str,j.Perm xs->sortedS j=true->Q (.lst (j.map W.str))|_=>False):=
 PE.imp (gA (vg E) D hz boot_sorted (aP y bS t) (he:=t))<|by rintro J H Q ⟨A,N,r,P,S,L,h,k⟩;obtain⟨s,vs,B,v,n,w,h⟩:=BF h;obtain⟨p,l,I,F,C,K,_⟩:=Ic S z B;refine⟨_,I,p,l,v,rfl,F,tu (by rw[<-C];exact n),w,λq g u a b=>?_⟩;have sm:au H (upd H q (.lst (g.map V.str))):=aF u _;exact k _ _ _ (h g a b) sm (.new u aq (gD g) (gD g))
theorem Lg{q I p2:Pos}(C:X.calm=true)(L:VE X M R .s a ta)(K:Gl X "sorted")(hz:X.mg "sorted"=none)(U:Gl X "set")(u:X.mg "set"=none)(B:starEach [a] X.env=(false,eval a X.env)::starEach [] X.env):
 VE X M R .f (.Call (.Name "sorted" q) [.Call (.Name "set" I) [a] [] p2] [] pos) (λt Q=>ta t λx=>match x with|.lst l=>∃xs:List Str,l=xs.map W.str/\xs.length<64/\∀d:List Str,d.Nodup->(∀z,z∈d↔z∈xs)->sortedS d=true->Q (.lst (d.map W.str))|_=>False):=
 PE.imp (gA (vf C) K hz boot_sorted (aP (gO (yS C) U u boot_set (aP L bS B) (he:=B)) bS rfl) (he:=rfl))<|by
  rintro Z H Q ⟨A,Y,t,P,S,O,h,k⟩;refine⟨A,Y,t,_,S,O,h,λw v E r y F=>?_⟩;cases w with
  |lst l=>obtain⟨xs,rfl,n,r⟩:=r;obtain⟨p,vs,rfl,hB,D,N⟩:=F.aO;rw[tw N]at D;refine⟨p,xs,rfl,Rz.rd D,n,λp2 j=>⟨p2,xs,rfl,aq,n,λJ d g T a2 a3=>?_⟩⟩;have sm:au E (upd (upd E p2 (.ext (wQ X p2 xs))) J (.lst (d.map V.str))):=(aF j _).trans (aF g _);exact k _ _ _ (r d T a2 a3) (y.trans sm) (.new (y.trans (aF j _)|>.free g) aq (gD d) (gD d))
  |_=>exact r.elim
end
section
variable{X:Cx}{M M':Ms}{m m0:Md}{st:Stmt}{i n:Nat}{e e1:Expr}{te t1:(Addr->Prop)->WT}{π:List gQ}
theorem Lh(t:∀{x:TE},PE X e x->PS X st (mh (Ow X.K "list" v9 (j4 X.K i π) (rT x Az))))(P:(i,m0)∈M)(O:gq m0 π=some .f)(he:∀R,VE X M R .f e (te R)):
 VS X M m st (λd a=>match look a i with|some g=>(match bz g π with|some (.lst l)=>(te d.ex a λw=>match w with|.lst y=>l.length+y.length<=sizeLine/\d.nx (a.set i (some (setAt g π (.lst (l++y)))))|_=>False)|_=>False)|none=>False):=by
 rintro c s J H D I ⟨A,H0,a,d,S,Y,hz,h,k⟩;obtain⟨g,l,e1,Z,h⟩:=Bw h;obtain⟨N,p,j,T,Q,E,C,hB,b⟩:=lS S P O e1 Z;refine t (he d.ex) c s J H D I ⟨N,_,T,Q,.inl ⟨rfl,j,.inl (.inl E)⟩,A,H0,a,_,S,Y,h,λw v H1 B o r=>?_⟩;obtain⟨L,q,u,rfl,rfl,hq,U,F⟩:=cD.HQ r;obtain⟨A',a1,a2,_,_,S'⟩:=b H1 o (l++L) (j++u) ((C.same o).app (F.less λ_ z=>.inl z));exact⟨p,q,j,u,rfl,rfl,o _ _ E,U,by rw[C.len,F.len];exact B.1,k.nx A' _ _ _ a1 a2 B.2 S'⟩
theorem Li(j:PS X st (mh (Ov X.K "list" r8 (jc i))))(t:(i,.f)∈M):VS X M m st (λd c=>match look c i with|some (.lst l)=>d.nx (c.set i (some (.lst l.reverse)))|_=>False):=by rintro b s r H D I ⟨A,E,c,d,S,C,hz,h,k⟩;obtain⟨l,e1,h⟩:=Bv h;obtain⟨z,p,g,w,v,o,u,B,a⟩:=lS (π:=[]) S t UG e1 Pq;cases v;obtain⟨y,x,a2,_,_,q⟩:=a H (au.refl H) l.reverse g.reverse u.rev;rw[Pr]at q;exact j b s r H D I ⟨_,w,.inl ⟨rfl,g,.inl (.inl o)⟩,p,g,rfl,rfl,o,k.nx y _ _ _ x a2 h q⟩
section
variable{K:Frag}{B:Addr->Prop}{H:Hp}{j:Str}
theorem tD(k:Key):J2 j (kZ k)=decide (k=G1 j):=by
 cases k with
 |inr i=>
  show decide (i=j)=_;by_cases e:i=j
  .rw[e,GM rfl,GM rfl]
  .rw[Fn e,Fn (λz=>e (by cases z;rfl))]
 |inl x=>exact(Fn (λz=>by cases z)).symm
theorem tE:∀kvs:List (Key×V),(kvs.map λx=>kZ x.1).any (J2 j)=kvs.any λa=>decide (a.1=G1 j)
 |[]=>rfl
 |x::kvs=>by rw[Ha,HB,HB,tE kvs,tD]
theorem yT{w:W}{v:V}{kvs:List (Key×V)}{a:List W}(h:af K B H a (kvs.map (·.2)))(r:Rep K B H w v):
 sH j (kvs.map λx=>kZ x.1)=(putK kvs (.inr j) v).map (λx=>kZ x.1)/\af K B H (sI j w (kvs.map λx=>kZ x.1) a) ((putK kvs (.inr j) v).map (·.2)):=by
 unfold sH sI putK;rw[tE];by_cases e:(kvs.any λb=>decide (b.1=G1 j))=true
 .rw[FM e,FM e,FM e];clear e;constructor
  .rw[NK];refine SI λx _=>?_;show _=kZ (if x.1=G1 j then(x.1,v)else x).1;split<;>rfl
  .induction kvs generalizing a with
   |nil=>
    cases a with
    |nil=>exact .nil
    |cons _ _=>obtain⟨_,_,e,_⟩:=h;cases e
   |cons x kvs c=>
    cases a with
    |nil=>have h:(x::kvs).map (·.2)=[]:=h;cases h
    |cons u a=>
     obtain⟨y,q,e,f,d⟩:=h;cases e;refine⟨_,_,rfl,?_,c d⟩;show Rep K B H (if J2 j (kZ x.1)=true then w else u) (if x.1=G1 j then(x.1,v)else x).2;rw[tD];by_cases e:x.1=G1 j
     .rw[FM (GM e),FM e];exact r
     .rw[Da (by rw[TC];exact e),Da e];exact f
 .rw[Da e,Da e,Da e];constructor
  .rw[KB];rfl
  .rw[KB];exact h.app (.cons r .nil)
end
theorem Lj(t:∀{y B:TE},PE X e y->PE X e1 B->PS X st (mq y (NW (jc i) B Ie)))(Y:(i,.d)∈M)(he:∀R,VE X M R .s e (te R))(U:∀R,VE X M R .s e1 (t1 R)):
 VS X M m st (λd b=>te d.ex b λw=>match look b i with|some (.dct l vs)=>(t1 d.ex b λx=>(match x with|.str j=>l.length<sizeLine/\d.nx (b.set i (some (.dct (sH j l) (sI j w l vs))))|_=>False))|_=>False):=by
 rintro g s O H D I ⟨A,N,b,d,S,K,hz,h,k⟩;refine t (he d.ex) (U d.ex) g s O H D I ⟨A,N,b,_,S,K,h,λw v H1 q C r=>?_⟩;obtain⟨l,vs,T,q⟩:=BF q;obtain⟨p,o,h1,h3,L,Z,f⟩:=Ic S Y T;refine⟨_,h1,A,N,b,_,S.same C,K,q,λz P H2 a s2 Q=>?_⟩;cases z with
 |str j=>
  obtain⟨J,a⟩:=a;have c:=C.trans s2;have ez:P=.str j:=Q.aO;subst ez;obtain⟨F,E⟩:=yT (j:=j) (Z.same c) (r.aO.same s2);rw[<-L]at F E;obtain⟨A',a1,a2,S'⟩:=f H2 c _ _ _ F E;have u:o.length<sizeLine:=by have:=Kt IY L;rw[Ee]at this;omega
  exact⟨p,_,rfl,AW.k (k:=G1 j) (c _ _ h3) u,k.nx A' _ _ _ a1 a2 a S'⟩
 |_=>exact a.elim
theorem Fd{R:Addr->Prop}{a:Expr}{pos:Pos}{ta:u9}(g:wJ X M R a ta):wJ X M R (.UnaryOp .Not a pos) (λd Q=>ta d λx c=>truth x λb=>Q (.bl (!b)) c):=PT.imp (Ak g)<|by rintro u H Q ⟨A,s,d,P,S,l,h,k⟩;refine⟨A,s,d,_,S,l,h,λt x r o f j p=>?_⟩;obtain⟨q,rfl,f⟩:=aV f;obtain⟨b,e,z⟩:=k t _ r o f j p;cases e;exact⟨q,rfl,z⟩
end
noncomputable def Lk(n:Nat):Md->Md
 |.o b a=>.o b (a.set n .s)
 |m=>m
noncomputable def Dh(M:Ms)(i n:Nat):Ms:=M.map λx=>if x.1=i then(x.1,Lk n x.2)else x
theorem aL{M:Ms}{i n j:Nat}:aJ (Dh M i n) j↔aJ M j:=by
 constructor
 .rintro⟨m,h⟩;obtain⟨⟨a,b⟩,d,c⟩:=Hn.mp h;by_cases e:a=i
  .rw[FM e]at c;cases c;exact⟨_,d⟩
  .rw[Da e]at c;cases c;exact⟨_,d⟩
 .rintro⟨m,h⟩;by_cases e:j=i
  .exact⟨Lk n m,Hn.mpr ⟨_,h,by rw[FM e]⟩⟩
  .exact⟨m,Hn.mpr ⟨_,h,by rw[Da e]⟩⟩
theorem BR{M:Ms}{i n j:Nat}{m:Md}(h:(j,m)∈Dh M i n)(e:j≠i):(j,m)∈M:=by
 obtain⟨⟨a,b⟩,d,c⟩:=Hn.mp h;by_cases q:a=i
 .rw[FM q]at c;cases c;exact(e q).elim
 .rw[Da q]at c;cases c;exact d
theorem PU{M:Ms}{i n j:Nat}{m:Md}(h:(j,m)∈M)(e:j≠i):(j,m)∈Dh M i n:=Hn.mpr ⟨_,h,by rw[Da e]⟩
theorem PV{M:Ms}{i n:Nat}{m:Md}(h:(i,m)∈M):(i,Lk n m)∈Dh M i n:=Hn.mpr ⟨_,h,by rw[FM rfl]⟩
section
variable{K:Frag}{A B:Addr->Prop}{H H':Hp}
theorem cR.out:∀(b:List Md){g:List W}{vs:List V}{F:List Addr}{n:Nat}{l:List W},cR K A H b g vs F->b[n]?=some .f->g[n]?=some (.lst l)->
 ∃p xs d c,vs[n]?=some (.ref p)/\F=d++p::c/\H p=some (.lst xs)/\af K A H l xs/\cR K A H (b.set n .s) (g.set n (.cls p)) vs (d++c)
 |[],_,_,_,n,l,_,e,_=>by cases e
 |m0::b,g,vs,F,0,l,h,m,k=>by obtain⟨q,o,v,a,d,c,rfl,rfl,rfl,j,i⟩:=h;cases m;cases k;obtain⟨D,p,xs,e,rfl,rfl,C,z⟩:=j;cases e;exact⟨p,xs,[],c,rfl,rfl,C,z,.cls p,o,.ref p,a,[],c,rfl,rfl,rfl,⟨rfl,rfl⟩,i⟩
 |m0::b,g,vs,F,n+1,l,h,m,k=>by obtain⟨q,o,v,a,d,c,rfl,rfl,rfl,j,i⟩:=h;obtain⟨p,xs,t,r,y,rfl,x,w,u⟩:=cR.out b i (n:=n) (by simpa using m) (by simpa using k);exact⟨p,xs,d++t,r,by simpa using y,by simp,x,w,q,o.set n (.cls p),v,a,d,t++r,rfl,rfl,by simp,j,u⟩
theorem cR.UM:∀(c:List Md){i:List W}{vs:List V}{F:List Addr}{n:Nat}{l:List W}{p:Addr}{xs:List V},cR K A H (c.set n .s) i vs F->c[n]?=some .f->i[n]?=some (.cls p)->H p=some (.lst xs)->af K A H l xs->
 ∃g d,F=g++d/\cR K A H c (i.set n (.lst l)) vs (g++p::d)
 |[],_,_,_,n,l,p,xs,_,e,_,_,_=>by cases e
 |m0::c,i,vs,F,0,l,p,xs,h,r,o,k,j=>by obtain⟨u,t,v,a,g,d,rfl,rfl,rfl,b,m⟩:=h;cases r;cases o;obtain⟨rfl,b⟩:=b;have b:v=.ref p:=b;subst b;exact⟨[],d,rfl,.lst l,t,.ref p,a,[p],d,rfl,rfl,rfl,⟨l,p,xs,rfl,rfl,rfl,k,j⟩,m⟩
 |m0::c,i,vs,F,n+1,l,p,xs,h,r,o,k,j=>by obtain⟨u,t,v,a,g,d,rfl,rfl,rfl,b,m⟩:=h;obtain⟨x,w,rfl,q⟩:=cR.UM c m (n:=n) (by simpa using r) (by simpa using o) k j;exact⟨g++x,w,by simp,u,t.set n (.lst l),v,a,g,x++p::w,rfl,rfl,by simp,b,q⟩
end
open Classical in
noncomputable def pU(B C:Addr->Prop)(H:Hp):Hp:=λp=>if B p/\¬C p then none else H p
theorem yU{B C:Addr->Prop}{H:Hp}{p:Addr}{o:HO}(h:pU B C H p=some o):H p=some o/\¬(B p/\¬C p):=by
 unfold pU at h;split at h
 .cases h
 .exact⟨h,by assumption⟩
theorem wW{B C:Addr->Prop}{H:Hp}{p:Addr}{o:HO}(h:H p=some o)(n:¬(B p/\¬C p)):pU B C H p=some o:=by unfold pU;rw[Da n];exact h
theorem ER.up{X:Cx}{d H1:Hp}{R:Addr->Prop}(s:au d H1)(h:ER X d R):ER X H1 R:=by obtain⟨E,p,l,k⟩:=h;exact⟨E,p,λC n i g=>l C n i (s.trans g),λb e H f m a C c I j q=>k b e H f m a C c I j ⟨q.1,s.trans q.2⟩⟩
section
variable{K:Frag}{M:Ms}{A:Fz}{H0 H:Hp}{σ:St}{ε:Ev}{i n:Nat}{fs:List Str}{ms:List Md}{C:Addr}{ws l:List W}
theorem SR.view(S:SR K M A H0 σ H ε)(U:(i,.o fs ms)∈M)(hn:ms[n]?=some .f)(hl:look ε i=some (.obj C fs ws))(hw:ws[n]?=some (.lst l)):
 ∃(q P p:Addr)(vs xs:List V)(R:Fz)(Z:Hp),σ[i]?=some (some (.ref q))/\H q=some (.ins C P (fs.zip vs))/\vs.length=fs.length/\oB K C fs/\vs[n]?=some (.ref p)/\H p=some (.lst xs)/\af K A.B H l xs/\au H0 Z/\Z p=some (.lst xs)/\H0 p=none/\¬A.ab p/\R.s0=A.s0/\(∀a,R.ab a↔A.ab a\/a=p)/\(∀a,R.B a↔A.B a)/\
  SR K (Dh M i n) R Z σ H (ε.set i (some (.obj C fs (ws.set n (.cls p))))):=by
 obtain⟨F,O⟩:=S.ow;obtain⟨v,hv,fp⟩:=O.val i _ _ U hl;obtain⟨C',P,cy,q,vs,F',e1,rfl,N,h1,h2,hc,fl⟩:=fp;cases e1;obtain⟨p,xs,J,I,g1,rfl,X,g4,g5⟩:=cR.out ms fl hn hw;have D:aJ M i:=⟨_,U⟩;have nd:(q::(J++p::I)).Nodup:=by rw[<-N];exact O.nd i D
 have Q5:=(Hk.mp nd).2;have L:p∈F i:=by rw[N];simp
 have pB:A.B p:=(O.all p).mpr (.inr ⟨i,D,L⟩);have Wz:¬A.ab p:=O.na i p D L;have pn:p∉q::(J++I):=by
  intro z;rcases FC.mp z with z|z
  .exact(Hk.mp nd).1 (by rw[<-z];simp)
  .obtain⟨E,a2,a3⟩:=P3.mp Q5;rcases FK.mp z with z|z
   .exact a3 p z p Bn rfl
   .exact(Hk.mp a2).1 z
 let UN:Addr->Prop:=λa=>A.ab a\/a=p
 have lt:=jn hl;have r:∀a∈q::(J++I),a∈F i:=λa g=>by
  rw[N];rcases FC.mp g with z|z
  .rw[z];exact Bn
  .refine B1 _ ?_;rcases FK.mp z with z|z
   .exact He _ z
   .exact FV _ (B1 _ z)
 have SM:∀a∈F i,a=p\/a∈q::(J++I):=λa g=>by
  rw[N]at g;rcases FC.mp g with z|z
  .exact .inr (by rw[z];exact Bn)
  .rcases FK.mp z with z|z
   .exact .inr (B1 _ (He _ z))
   .rcases FC.mp z with z|z
    .exact .inl z
    .exact .inr (B1 _ (FV _ z))
 refine⟨q,P,p,vs,xs,⟨UN,A.B,A.s0⟩,pU A.B UN H,hv,h1,h2,hc,g1,X,g4,λa o e=>?_,wW X (λz=>z.2 (.inr rfl)),O.nw i p D L,Wz,rfl,λa=>OB,λa=>OB,?_⟩
 .refine wW (S.sm a o e) λz=>?_;rcases(O.all a).mp z.1 with y|⟨j,d,s⟩
  .exact z.2 (.inl y)
  .rw[O.nw j a d s]at e;cases e
 .refine⟨by rw[NM];exact S.len,λj w d e=>?_,λa o e=>(yU e).1,λa z=>?_,λu e=>?_,λj=>if j=i then q::(J++I)else F j,⟨λj m1 m2 a b=>?_,λj m w d e=>?_,λj d e=>?_,λj d=>?_,λj k a d hk x y=>?_,λj a d g=>?_,λj a d g=>?_,λa=>?_⟩⟩
  .have d:¬aJ M j:=λz=>d (aL.mpr z);have c:i≠j:=by rintro rfl;exact d D
   rw[aE c]at e;exact S.sh j w d e
  .rcases z with z|z
   .exact S.dm a z
   .exact⟨_,by rw[z];exact X⟩
  .exact⟨(S.sl u e).1,aL.mpr (S.sl u e).2⟩
  .by_cases c:j=i
   .subst c;obtain⟨⟨E,b1⟩,Y,t⟩:=Hn.mp a;obtain⟨⟨a2,b2⟩,c2,Q⟩:=Hn.mp b;have T:E=j:=by
     by_cases z:E=j
     .exact z
     .rw[Da z]at t;cases t;rfl
    have x2:a2=j:=by
     by_cases z:a2=j
     .exact z
     .rw[Da z]at Q;cases Q;rfl
    subst T;subst x2;rw[FM rfl]at t Q;have:=O.un _ _ _ Y c2;subst this;cases t;cases Q;rfl
   .exact O.un j m1 m2 (BR a c) (BR b c)
  .by_cases c:j=i
   .subst c;have:=fG e;subst this;obtain⟨⟨E,b1⟩,Y,t⟩:=Hn.mp d;have T:E=j:=by
     by_cases z:E=j
     .exact z
     .rw[Da z]at t;cases t;rfl
    subst T;rw[FM rfl]at t;have:=O.un _ _ _ Y U;subst this;cases t;refine⟨_,hv,?_⟩;rw[FM rfl];exact⟨C,P,ws.set n (.cls p),q,vs,J++I,rfl,rfl,rfl,h1,h2,hc,g5⟩
   .rw[aE (Ki c)]at e;rw[Da c];exact O.val j m w (BR d c) e
  .by_cases c:j=i
   .subst c;have:look (ε.set j (some (.obj C fs (ws.set n (.cls p))))) j=some (.obj C fs (ws.set n (.cls p))):=by rw[aU];exact N0 lt
    rw[this]at e;cases e
   .rw[aE (Ki c)]at e;rw[Da c];exact O.emp j (aL.mp d) e
  .by_cases c:j=i
   .rw[FM c];refine Hk.mpr ⟨λz=>(Hk.mp nd).1 ?_,?_⟩
    .rcases FK.mp z with z|z
     .exact He _ z
     .exact FV _ (B1 _ z)
    .obtain⟨E,a2,a3⟩:=P3.mp Q5;exact P3.mpr ⟨E,(Hk.mp a2).2,λx hx y hy=>a3 x hx y (B1 _ hy)⟩
   .rw[Da c];exact O.nd j (aL.mp d)
  .have up:∀j,aJ (Dh M i n) j->∀a,a∈(if j=i then q::(J++I)else F j)->a∈F j:=λj d a g=>by
    by_cases c:j=i
    .rw[FM c]at g;rw[c];exact r a g
    .rw[Da c]at g;exact g
   exact O.ds j k a (aL.mp d) (aL.mp hk) (up j d a x) (up k hk a y)
  .have h:a∈F j/\a≠p:=by
    by_cases c:j=i
    .rw[FM c]at g;exact⟨by rw[c];exact r a g,λz=>pn (by rw[<-z];exact g)⟩
    .rw[Da c]at g;exact⟨g,λz=>c (O.ds j i p (aL.mp d) D (by rw[<-z];exact g) L)⟩
   unfold pU;rw[FM ⟨(O.all a).mpr (.inr ⟨j,aL.mp d,h.1⟩),λz=>z.elim (O.na j a (aL.mp d) h.1) h.2⟩]
  .have h:a∈F j/\a≠p:=by
    by_cases c:j=i
    .rw[FM c]at g;exact⟨by rw[c];exact r a g,λz=>pn (by rw[<-z];exact g)⟩
    .rw[Da c]at g;exact⟨g,λz=>c (O.ds j i p (aL.mp d) D (by rw[<-z];exact g) L)⟩
   exact λz=>z.elim (O.na j a (aL.mp d) h.1) h.2
  .constructor
   .intro z;rcases(O.all a).mp z with y|⟨j,d,s⟩
    .exact .inl (.inl y)
    .by_cases c:j=i
     .subst c;rcases SM a s with y|y
      .exact .inl (.inr y)
      .exact .inr ⟨j,aL.mpr d,by rw[FM rfl];exact y⟩
     .exact .inr ⟨j,aL.mpr d,by rw[Da c];exact s⟩
   .rintro(z|⟨j,d,s⟩)
    .rcases z with z|z
     .exact(O.all a).mpr (.inl z)
     .rw[z];exact pB
    .by_cases c:j=i
     .rw[FM c]at s;exact(O.all a).mpr (.inr ⟨i,D,r a s⟩)
     .rw[Da c]at s;exact(O.all a).mpr (.inr ⟨j,aL.mp d,s⟩)
theorem SR.back{t:Fz}{Z H1:Hp}{X:Ev}{p:Addr}{xs L:List V}{N J:List W}(un:∀j m1 m2,(j,m1)∈M->(j,m2)∈M->m1=m2)(D:SR K (Dh M i n) t Z σ H1 X)(Y:(i,.o fs ms)∈M)(hn:ms[n]?=some .f)(s0:au H0 Z)(hp:Z p=some (.lst xs))(Q:H0 p=none)(UO:¬A.ab p)(es:t.s0=A.s0)(I:∀a,t.ab a↔A.ab a\/a=p)
 (hl:look X i=some (.obj C fs J))(hw:J[n]?=some (.cls p))(hr:af K t.B H1 N L):SR K M ⟨A.ab,t.B,A.s0⟩ H0 σ (upd H1 p (.lst L)) (X.set i (some (.obj C fs (J.set n (.lst N))))):=by
 obtain⟨F,O⟩:=D.ow;have r:aJ M i:=⟨_,Y⟩;have P:H1 p=some (.lst xs):=D.sm _ _ hp;have pB:t.B p:=(O.all p).mpr (.inl ((I p).mpr (.inr rfl)));have E:∀j,aJ M j->p∉F j:=λj c z=>O.na j p (aL.mpr c) z ((I p).mpr (.inr rfl));have cB:pL t.B H1 (upd H1 p (.lst L)):=.put P rfl pB;have cO:∀G:Addr->Prop,¬G p->lg t.B G H1 (upd H1 p (.lst L)):=λG hG a o e=>by
  by_cases z:a=p
  .subst z;rw[P]at e;cases e;exact .inl ⟨rfl,pB,hG⟩
  .exact .inr (by rw[ay z];exact e)
 obtain⟨v,hv,fp⟩:=O.val i _ _ (PV Y) hl;obtain⟨C',dx,XT,q,vs,F',e1,rfl,d,h1,h2,hc,fl⟩:=fp;cases e1;have qp:q≠p:=λz=>E i r (by rw[d,<-z];exact Bn);have WA:cR K t.B (upd H1 p (.lst L)) (ms.set n .s) J vs F':=cR.chg (cO (·∈F') (λz=>E i r (by rw[d];exact B1 _ z))) (λ_ _ _ z=>z) _ (λ_ z=>z) fl;obtain⟨U,T,rfl,WB⟩:=cR.UM ms WA hn hw aq (af.chg cB (λ_ _ _ z=>z) N hr);have lt:=jn hl;refine⟨by rw[NM];exact D.len,λj w c e=>?_,λa o e=>?_,λa z=>?_,λu e=>?_,λj=>if j=i then q::(U++p::T)else F j,⟨un,λj m w c e=>?_,λj c e=>?_,λj c=>?_,λj k a c hk x y=>?_,λj a c g=>?_,λj a c g=>?_,λa=>?_⟩⟩
 .have b:i≠j:=by rintro rfl;exact c r
  rw[aE b]at e;obtain⟨u,S,R⟩:=D.sh j w (λz=>c (aL.mp z)) e;exact⟨u,S,Rep.chg cB (λ_ _ _ z=>z) w R⟩
 .have:a≠p:=λz=>by rw[z,Q]at e;cases e
  rw[ay this];exact D.sm _ _ (s0 _ _ e)
 .obtain⟨o,e⟩:=D.dm a ((I a).mpr (.inl z));exact⟨o,by rw[ay (λy=>UO (by rw[<-y];exact z))];exact e⟩
 .obtain⟨S,R⟩:=D.sl u (by rw[es];exact e);exact⟨S,aL.mp R⟩
 .by_cases b:j=i
  .subst b;have:=fG e;subst this;have:=un _ _ _ c Y;subst this;refine⟨_,hv,?_⟩;rw[FM rfl];exact⟨C,dx,_,q,vs,U++p::T,rfl,rfl,rfl,by rw[ay qp];exact h1,h2,hc,WB⟩
  .rw[aE (Ki b)]at e;rw[Da b];obtain⟨u,S,R⟩:=O.val j m w (PU c b) e;exact⟨u,S,Fp.chg (cO (·∈F j) (E j ⟨m,c⟩)) (λ_ _ _ z=>z) m (λ_ z=>z) R⟩
 .by_cases b:j=i
  .subst b;have:look (X.set j (some (.obj C fs (J.set n (.lst N))))) j=some (.obj C fs (J.set n (.lst N))):=by rw[aU];exact N0 lt
   rw[this]at e;cases e
  .rw[aE (Ki b)]at e;rw[Da b];exact O.emp j (aL.mpr c) e
 .by_cases b:j=i
  .rw[FM b];have nd:(q::(U++T)).Nodup:=by rw[<-d];exact O.nd i (aL.mpr r)
   have pq:p∉q::(U++T):=by rw[<-d];exact E i r
   obtain⟨n1,n2⟩:=Hk.mp nd;obtain⟨a1,a2,a3⟩:=P3.mp n2;refine Hk.mpr ⟨λz=>?_,P3.mpr ⟨a1,Hk.mpr ⟨λz=>pq (B1 _ (FV _ z)),a2⟩,λx hx y hy e=>?_⟩⟩
   .rcases FK.mp z with z|z
    .exact n1 (He _ z)
    .rcases FC.mp z with z|z
     .exact qp z
     .exact n1 (FV _ z)
   .rcases FC.mp hy with z|z
    .exact pq (by rw[<-z,<-e];exact B1 _ (He _ hx))
    .exact a3 x hx y z e
  .rw[Da b];exact O.nd j (aL.mpr c)
 .have up:∀j,∀a,a∈(if j=i then q::(U++p::T)else F j)->a∈F j\/(a=p/\j=i):=λj a g=>by
   by_cases b:j=i
   .rw[FM b]at g;rw[b,d];rcases FC.mp g with z|z
    .exact .inl (by rw[z];exact Bn)
    .rcases FK.mp z with z|z
     .exact .inl (B1 _ (He _ z))
     .rcases FC.mp z with z|z
      .exact .inr ⟨z,rfl⟩
      .exact .inl (B1 _ (FV _ z))
   .rw[Da b]at g;exact .inl g
  rcases up j a x with x|⟨x,e⟩
  .rcases up k a y with y|⟨y,e⟩
   .exact O.ds j k a (aL.mpr c) (aL.mpr hk) x y
   .exact(E j c (by rw[<-y];exact x)).elim
  .rcases up k a y with y|⟨y,e'⟩
   .exact(E k hk (by rw[<-x];exact y)).elim
   .rw[e,e']
 .by_cases b:j=i
  .rw[FM b]at g;rcases FC.mp g with z|z
   .rw[z];exact s0.free (O.nw i q (aL.mpr r) (by rw[d];exact Bn))
   .rcases FK.mp z with z|z
    .exact s0.free (O.nw i a (aL.mpr r) (by rw[d];exact B1 _ (He _ z)))
    .rcases FC.mp z with z|z
     .rw[z];exact Q
     .exact s0.free (O.nw i a (aL.mpr r) (by rw[d];exact B1 _ (FV _ z)))
  .rw[Da b]at g;exact s0.free (O.nw j a (aL.mpr c) g)
 .by_cases b:j=i
  .rw[FM b]at g;have na:∀a∈F i,¬A.ab a:=λa h z=>O.na i a (aL.mpr r) h ((I a).mpr (.inl z));rcases FC.mp g with z|z
   .exact na a (by rw[d,z];exact Bn)
   .rcases FK.mp z with z|z
    .exact na a (by rw[d];exact B1 _ (He _ z))
    .rcases FC.mp z with z|z
     .rw[z];exact UO
     .exact na a (by rw[d];exact B1 _ (FV _ z))
  .rw[Da b]at g;exact λz=>O.na j a (aL.mpr c) g ((I a).mpr (.inl z))
 .show t.B a↔_;rw[O.all a,I a];constructor
  .rintro((z|z)|⟨j,c,z⟩)
   .exact .inl z
   .exact .inr ⟨i,r,by rw[FM rfl,z];exact B1 _ (FV _ Bn)⟩
   .refine .inr ⟨j,aL.mp c,?_⟩;by_cases b:j=i
    .rw[FM b];rw[b,d]at z;rcases FC.mp z with z|z
     .rw[z];exact Bn
     .refine B1 _ ?_;rcases FK.mp z with z|z
      .exact He _ z
      .exact FV _ (B1 _ z)
    .rw[Da b];exact z
  .rintro(z|⟨j,c,z⟩)
   .exact .inl (.inl z)
   .by_cases b:j=i
    .rw[FM b]at z;rcases FC.mp z with z|z
     .exact .inr ⟨i,aL.mpr r,by rw[d,z];exact Bn⟩
     .rcases FK.mp z with z|z
      .exact .inr ⟨i,aL.mpr r,by rw[d];exact B1 _ (He _ z)⟩
      .rcases FC.mp z with z|z
       .exact .inl (.inr z)
       .exact .inr ⟨i,aL.mpr r,by rw[d];exact B1 _ (FV _ z)⟩
    .rw[Da b]at z;exact .inr ⟨j,aL.mpr c,z⟩
end
section
variable{X:Cx}{M:Ms}{m:Md}{st:Stmt}{i n:Nat}{e:Expr}{fs:List Str}{ms:List Md}{x:Str}
theorem Ll(Q:∀{Z:TE},PE X e Z->PS X st (mh (Ow X.K "list" lQ (j4 X.K i [.fl n x]) (rT Z Az))))(T:(i,.o fs ms)∈M)(hf:fs[n]?=some x)(hn:ms[n]?=some .f)(un:∀j m1 m2,(j,m1)∈M->(j,m2)∈M->m1=m2){tt:(Addr->Prop)->u9}(he:∀R,VP X (Dh M i n) R e (tt R)):
 VS X M m st (λd J=>match look J i with|some (.obj C fs P)=>(∃l,P[n]?=some (.lst l)/\∀a:Addr,tt d.ex (J.set i (some (.obj C fs (P.set n (.cls a))))) λw c=>∃E,look c i=some (.obj C fs E)/\E[n]?=some (.cls a)/\l.length<sizeLine/\d.nx (c.set i (some (.obj C fs (E.set n (.lst (l++[w])))))))|_=>False):=by
 rintro t s σ H D I ⟨A,H0,J,d,S,er,hz,h,k⟩
 try dsimp only at h
 cases L:look J i with
 |none=>rw[L]at h;exact h.elim
 |some w0=>
  rw[L]at h;cases w0 with
  |obj C y P=>
   obtain⟨l,hw,h⟩:=h;have WC:y=fs:=by obtain⟨F,O⟩:=S.ow;obtain⟨v,hv,fp⟩:=O.val i _ _ T L;obtain⟨C',dx,E,q,Y,F',e1,_⟩:=fp;cases e1;rfl
   subst WC;obtain⟨q,dx,p,Y,N,A',Fe,g1,g2,g3,hc,g4,g5,g6,s0,g7,g8,g9,es,ea,eb,S'⟩:=S.view T hn L hw;refine Q (he d.ex) t s σ H D I ⟨.ref q,.ref p,g1,⟨q,Y,.ref p,rfl,⟨C,dx,y,g2,g3,hc,hf⟩,g4,rfl⟩,.inl ⟨rfl,N,.inl (.inl g5)⟩,A',Fe,_,_,S',er.up s0,h p,λA1 w v H1 bJ b g S1 r=>?_⟩;obtain⟨E,U,De,u,b⟩:=b;have hr:af X.K A1.B H1 l N:=g.Sv (g6.less λa z=>(eb a).mp z);have S2:=SR.back (A:=A) un S1 T hn s0 g7 g8 g9 (g.s0.trans es) (λa=>by rw[g.ab];exact ea a) U De (hr.app (.cons r .nil));exact⟨p,N,v,rfl,rfl,S1.sm _ _ g7,by rw[g6.len];exact u,k.nx ⟨A.ab,A1.B,A.s0⟩ _ _ _ rfl rfl b S2⟩
  |_=>exact h.elim
end
theorem a2{a b:Bool}(z:(a&&b)=true):a=true/\b=true:=by cases a<;>cases b<;>first|exact⟨rfl,rfl⟩|exact ff z
theorem a3{a b c:Bool}(z:((a&&b)&&c)=true):(a=true/\b=true)/\c=true:=⟨a2 (a2 z).1,(a2 z).2⟩
structure SE where
 N:List Str
 nk:List (Str×NameKind)
 M:Ms
 fn:List Str
 gn:List Str
 zn:List Str
 md:List Md
 mt:List (Nat×Nat)
noncomputable def gu:List Md->Nat->Md
 |[],_=>.s
 |x::_,0=>x
 |_::l,n+1=>gu l n
noncomputable def Lm:Md->Bool
 |.f=>true
 |_=>false
noncomputable def Ff:Md->Bool
 |.s=>true
 |_=>false
noncomputable def tF(M:Ms)(i:Nat):Bool:=(M.lookup i).isSome
theorem jv{M:Ms}{i:Nat}(h:tF M i=false):¬aJ M i:=by
 rintro⟨m,d⟩;unfold tF at h;have:∀M:Ms,(i,m)∈M->(M.lookup i).isSome=true:=λM=>by
  induction M with
  |nil=>intro z;cases z
  |cons x M c=>
   intro z;obtain⟨a,b⟩:=x;rw[DV];cases e:i==a with
   |true=>rfl
   |false=>
    rcases FC.mp z with z|z
    .cases z;rw[Pm]at e;cases e
    .exact c z
 rw[this M d]at h;cases h
theorem dI{M:Ms}{i:Nat}{m:Md}(h:M.lookup i=some m):(i,m)∈M:=by
 induction M with
 |nil=>exact nn h
 |cons x M c=>
  obtain⟨a,b⟩:=x;rw[DV]at h;cases e:i==a with
  |true=>rw[e]at h;cases h;cases IH.mp e;exact Bn
  |false=>rw[e]at h;exact B1 _ (c h)
noncomputable def tG(M:Ms)(i:Nat):Bool:=match M.lookup i with
 |none=>true
 |some m=>Lm m
theorem tH{M:Ms}{i:Nat}(h:tG M i=true):aJ M i->(i,.f)∈M:=λa=>by
 unfold tG at h;cases e:M.lookup i with
 |none=>exact(jv (by unfold tF;rw[e];rfl) a).elim
 |some m=>rw[e]at h;cases m<;>first|exact dI e|exact ff h
noncomputable def PX:Md->Bool
 |.d=>true
 |_=>false
noncomputable def yV(M:Ms)(i:Nat):Bool:=match M.lookup i with
 |none=>false
 |some m=>PX m
theorem qJ{M:Ms}{i:Nat}(h:yV M i=true):(i,.d)∈M:=by
 unfold yV at h;cases e:M.lookup i with
 |none=>rw[e]at h;exact ff h
 |some m=>rw[e]at h;cases m<;>first|exact dI e|exact ff h
noncomputable def BS(M:Ms)(i:Nat):Bool:=match M.lookup i with
 |none=>false
 |some m=>Lm m
theorem qK{M:Ms}{i:Nat}(h:BS M i=true):(i,.f)∈M:=by
 unfold BS at h;cases e:M.lookup i with
 |none=>rw[e]at h;exact ff h
 |some m=>rw[e]at h;cases m<;>first|exact dI e|exact ff h
noncomputable def SE.sc(S:SE):Scope:={kind:=.function,names:=S.nk,isGenerator:=false,isCoroutine:=false}
noncomputable def PY(S:SE)(x:Str):Bool:=S.nk.lookup x==some .local||(S.nk.lookup x==some .cell||S.nk.lookup x==some .free)
noncomputable def okN(x:Str):Bool:=!(x==("__debug__":Str))&&!(x==("__classdict__":Str))&&!(x==("__name__":Str))
noncomputable def lB(S:SE)(x:Str):Bool:=(S.nk.lookup x==some .globalImplicit)&&okN x
noncomputable def tys:List String:=["int","bool","tuple","list","str","dict"]
noncomputable def lU:Expr->Bool
 |.Call _ _ _ _=>false
 |_=>true
noncomputable def mC(f:Const->Bool):Expr->Bool
 |.Constant c _ _=>f c
 |_=>false
noncomputable def SN(f:Str->Pos->Bool):Expr->Bool
 |.Name x p=>f x p
 |_=>false
noncomputable def tK(f:Str->Bool):Expr->Bool:=SN λx _=>f x
noncomputable def iu(S:SE)(i:Nat):Expr->Bool:=tK λx=>S.N[i]?==some x&&PY S x&&okN x
noncomputable def o1{α:Type}(f:α->Bool):List α->Bool
 |[a]=>f a
 |_=>false
noncomputable def PZ(f:Expr->List CmpOp->List Expr->Bool):Expr->Bool
 |.Compare l b a _=>f l b a
 |_=>false
noncomputable def pV(f:Expr->List Expr->Bool->Pos->Bool):Expr->Bool
 |.Call g es a p=>f g es a.isEmpty p
 |_=>false
noncomputable def qL(f:Expr->Str->Pos->Bool):Expr->Bool
 |.Attribute o m p=>f o m p
 |_=>false
noncomputable def UP(f:Option Expr->Option Expr->Option Expr->Bool):Expr->Bool
 |.Slice l h t _=>f l h t
 |_=>false
noncomputable def UQ(f:Expr->List Comprehension->Scope->Bool):Expr->Bool
 |.ListComp x a s _=>f x a s
 |_=>false
noncomputable def BU(f:Operator->Expr->Expr->Bool):Expr->Bool
 |.BinOp l o r _=>f o l r
 |_=>false
noncomputable def Q6(f:UnaryOp->Expr->Bool):Expr->Bool
 |.UnaryOp o x _=>f o x
 |_=>false
noncomputable def BV(f:CmpOp->Expr->Expr->Bool):Expr->Bool:=PZ λl b a=>o1 (λo=>o1 (λr=>f o l r) a) b
noncomputable def o2{α:Type}(f:α->α->Bool):List α->Bool
 |a::l=>o1 (f a) l
 |_=>false
noncomputable def o3{α:Type}(f:α->α->α->Bool):List α->Bool
 |a::l=>o2 (f a) l
 |_=>false
noncomputable def Ln(f:BoolOp->List Expr->Bool):Expr->Bool
 |.BoolOp o es _=>f o es
 |_=>false
noncomputable def vh(f:List Expr->Bool):Expr->Bool
 |.Tuple es _ _=>f es
 |_=>false
noncomputable def Lo(f:List Expr->Bool):Expr->Bool
 |.List es _=>f es
 |_=>false
noncomputable def vj(f:Expr->Expr->Bool):Expr->Bool
 |.Subscript v s _=>f v s
 |_=>false
noncomputable def SO(f:Expr->Option Expr->Option Expr->Bool):Expr->Bool:=vj λv s=>UP (λl h t=>t.isNone&&f v l h) s
noncomputable def jw(f:Str->List Expr->Bool):Expr->Bool:=pV λg a k _=>k&&tK (λx=>f x a) g
noncomputable def vm(f:Expr->Str->Pos->Pos->Bool):Expr->Bool:=pV λg b k c=>k&&b.isEmpty&&qL (λo m a=>f o m a c) g
noncomputable def Ih(f:Expr->Expr->Expr->List Expr->Scope->Bool):Expr->Bool:=UQ λx a s=>o1 (λg=>decide (g.is_async=0)&&f x g.target g.iter g.ifs s) a
theorem fj{f:Const->Bool}{e:Expr}(h:mC f e=true):∃c k p,e=.Constant c k p/\f c=true:=by cases e<;>first|exact⟨_,_,_,rfl,h⟩|exact ff h
theorem wY{f:Str->Pos->Bool}{e:Expr}(h:SN f e=true):∃x p,e=.Name x p/\f x p=true:=by cases e<;>first|exact⟨_,_,rfl,h⟩|exact ff h
theorem BW{f:Expr->List CmpOp->List Expr->Bool}{e:Expr}(h:PZ f e=true):∃l b a p,e=.Compare l b a p/\f l b a=true:=by cases e<;>first|exact⟨_,_,_,_,rfl,h⟩|exact ff h
theorem fH{f:Expr->List Expr->Bool->Pos->Bool}{e:Expr}(h:pV f e=true):∃g es a p,e=.Call g es a p/\f g es a.isEmpty p=true:=by cases e<;>first|exact⟨_,_,_,_,rfl,h⟩|exact ff h
theorem b4{f:Expr->Str->Pos->Bool}{e:Expr}(h:qL f e=true):∃o m p,e=.Attribute o m p/\f o m p=true:=by cases e<;>first|exact⟨_,_,_,rfl,h⟩|exact ff h
theorem Fg{f:Option Expr->Option Expr->Option Expr->Bool}{e:Expr}(h:UP f e=true):∃l r t p,e=.Slice l r t p/\f l r t=true:=by cases e<;>first|exact⟨_,_,_,_,rfl,h⟩|exact ff h
theorem Fi{f:Expr->List Comprehension->Scope->Bool}{e:Expr}(h:UQ f e=true):∃x a s p,e=.ListComp x a s p/\f x a s=true:=by cases e<;>first|exact⟨_,_,_,_,rfl,h⟩|exact ff h
theorem cG{α:Type}{f:α->Bool}{l:List α}(h:o1 f l=true):∃a,l=[a]/\f a=true:=by rcases l with _|⟨a,_|_⟩<;>first|exact⟨_,rfl,h⟩|exact ff h
theorem Lp{α:Type}{f:α->α->Bool}{l:List α}(h:o2 f l=true):∃a b,l=[a,b]/\f a b=true:=by
 cases l with
 |nil=>exact ff h
 |cons a l=>obtain⟨b,rfl,c⟩:=cG h;exact⟨_,_,rfl,c⟩
theorem bR{f:Str->Bool}{e:Expr}(h:tK f e=true):∃x p,e=.Name x p/\f x=true:=wY h
theorem j8{f:Operator->Expr->Expr->Bool}{e:Expr}(h:BU f e=true):∃l o r p,e=.BinOp l o r p/\f o l r=true:=by cases e<;>first|exact⟨_,_,_,_,rfl,h⟩|exact ff h
theorem jx{f:UnaryOp->Expr->Bool}{e:Expr}(h:Q6 f e=true):∃o x p,e=.UnaryOp o x p/\f o x=true:=by cases e<;>first|exact⟨_,_,_,rfl,h⟩|exact ff h
theorem j9{f:CmpOp->Expr->Expr->Bool}{e:Expr}(h:BV f e=true):∃l o r p,e=.Compare l [o] [r] p/\f o l r=true:=by obtain⟨l,g,d,p,rfl,c⟩:=BW h;obtain⟨o,rfl,b⟩:=cG c;obtain⟨r,rfl,a⟩:=cG b;exact⟨_,_,_,_,rfl,a⟩
theorem gS{f:BoolOp->List Expr->Bool}{e:Expr}(h:Ln f e=true):∃o es p,e=.BoolOp o es p/\f o es=true:=by cases e<;>first|exact⟨_,_,_,rfl,h⟩|exact ff h
theorem cZ{f:List Expr->Bool}{e:Expr}(h:vh f e=true):∃es k p,e=.Tuple es k p/\f es=true:=by cases e<;>first|exact⟨_,_,_,rfl,h⟩|exact ff h
theorem m5{f:List Expr->Bool}{e:Expr}(h:Lo f e=true):∃es p,e=.List es p/\f es=true:=by cases e<;>first|exact⟨_,_,rfl,h⟩|exact ff h
theorem cH{f:Expr->Expr->Bool}{e:Expr}(h:vj f e=true):∃v s p,e=.Subscript v s p/\f v s=true:=by cases e<;>first|exact⟨_,_,_,rfl,h⟩|exact ff h
theorem lV{f:Expr->Option Expr->Option Expr->Bool}{e:Expr}(h:SO f e=true):∃v l r q p,e=.Subscript v (.Slice l r none q) p/\f v l r=true:=by obtain⟨v,s,p,rfl,c⟩:=cH h;obtain⟨l,r,t,q,rfl,b⟩:=Fg c;obtain⟨k,a⟩:=a2 b;rw[Option.isNone_iff_eq_none.mp k];exact⟨_,_,_,_,_,rfl,a⟩
theorem aN{f:Str->List Expr->Bool}{e:Expr}(h:jw f e=true):∃x q es p,e=.Call (.Name x q) es [] p/\f x es=true:=by obtain⟨g,es,d,p,rfl,c⟩:=fH h;obtain⟨k,b⟩:=a2 c;obtain⟨x,q,rfl,a⟩:=bR b;rw[GT.mp k];exact⟨_,_,_,_,rfl,a⟩
theorem iN{f:Expr->Str->Pos->Pos->Bool}{e:Expr}(h:vm f e=true):∃o m a c,e=.Call (.Attribute o m a) [] [] c/\f o m a c=true:=by obtain⟨g,n,j,p,rfl,i⟩:=fH h;obtain⟨⟨k,l⟩,d⟩:=a3 i;obtain⟨o,m,a,rfl,b⟩:=b4 d;rw[GT.mp k,GT.mp l];exact⟨_,_,_,_,rfl,b⟩
noncomputable def BX(f:Expr->Str->Pos->Pos->Expr->Expr->Bool):Expr->Bool:=pV λg b k c=>k&&o2 (λx y=>qL (λo m a=>f o m a c x y) g) b
theorem m6{f:Expr->Str->Pos->Pos->Expr->Expr->Bool}{e:Expr}(h:BX f e=true):∃o m a c x y,e=.Call (.Attribute o m a) [x,y] [] c/\f o m a c x y=true:=by obtain⟨g,l,j,p,rfl,i⟩:=fH h;obtain⟨k,b⟩:=a2 i;obtain⟨x,y,rfl,b⟩:=Lp b;obtain⟨o,m,a,rfl,d⟩:=b4 b;rw[GT.mp k];exact⟨_,_,_,_,_,_,rfl,d⟩
theorem pW{f:Expr->Expr->Expr->List Expr->Scope->Bool}{e:Expr}(h:Ih f e=true):∃d tg b c a p,e=.ListComp d [⟨tg,b,c,0⟩] a p/\f d tg b c a=true:=by obtain⟨x,m,s,p,rfl,j⟩:=Fi h;obtain⟨⟨tg,l,n,z⟩,rfl,i⟩:=cG j;obtain⟨k,g⟩:=a2 i;cases Ap k;exact⟨_,_,_,_,_,_,rfl,g⟩
noncomputable def WD(n:Int):Const->Bool
 |.int j=>decide (j=n)
 |_=>false
noncomputable def tL(S:SE)(i:Nat):List gQ->Expr->Bool
 |[],e=>iu S i e
 |.fl _ x::π,e=>qL (λa f _=>decide (f=x)&&lU a&&tL S i π a) e
 |.ix n::π,e=>vj (λa k=>mC (WD n) k&&tL S i π a) e
noncomputable def iE(S:SE)(m:Md->Bool)(i:Nat)(π:List gQ)(e:Expr):Bool:=!π.isEmpty&&tL S i π.reverse e&&(match S.M.lookup i with
 |some a=>(match gq a π with
  |some k=>m k
  |none=>false)
 |none=>false)
noncomputable def fk(S:SE):CE->Expr->Bool
 |.var i,e=>iu S i e&&tG S.M i
 |.own i π,e=>iE S Lm i π e
 |_,_=>false
noncomputable def Q7:BI->Str
 |.len=>"len"
 |.abs=>"abs"
 |.max2=>"max"
 |.min2=>"min"
 |.sum=>"sum"
 |.all=>"all"
 |.any=>"any"
 |.list=>"list"
 |.tuple=>"tuple"
 |.zO=>"isinstance"
 |.int=>"int"
 |.QZ=>"divmod"
 |.str=>"str"
noncomputable def UR:BI->Nat->Bool
 |_,n=>0<n
noncomputable def zS:CE->Bool
 |.not a=>zS a
 |.wk _ a=>zS a
 |.and b=>BY b
 |.or b=>BY b
 |_=>true
where BY:List CE->Bool
 |[]=>true
 |a::b=>zS a&&BY b
noncomputable def tM:Expr->Bool
 |.Slice _ _ _ _=>false
 |_=>true
noncomputable def qM:Expr->Bool
 |.Set _ _ _=>false
 |_=>true
noncomputable def BZ:List Expr->Option (List Str)
 |[]=>some []
 |.Name x _::es=>(BZ es).map λl=>x::l
 |_::_=>none
noncomputable def P1:Expr->Option (Bool×List Str)
 |.Name x _=>some (true,[x])
 |.Tuple es _ _=>(BZ es).map λl=>(false,l)
 |_=>none
noncomputable def mask(xs:List Str)(N:List Str):List Str:=N.map λy=>if xs.contains y then y++("!":Str)else y
noncomputable def SE.comp(S:SE)(a:Scope)(xs:List Str):SE:=
 {S with N:=xs++mask xs S.N,nk:=a.names.map λp=>(p.1,if p.2=.free then .cell else p.2),M:=up S.M xs.length}
noncomputable def SE.lend(S:SE)(a:List Nat):SE:={S with M:=S.M.filter (λx=>!a.contains x.1)}
noncomputable def WE:Expr->Bool
 |.Call (.Name _ _) (_::_) _ _=>true
 |.Compare _ _ _ _=>true
 |_=>false
noncomputable def P4:CE->Option String
 |.Bg n=>some n
 |_=>none
noncomputable def B0:CE->Bool
 |_=>false
noncomputable def B3(n:Bool)(f:Expr->Bool):Option Expr->Bool
 |none=>n
 |some e=>!n&&f e
noncomputable def Ii:CE->Bool
 |.bl b=>b
 |_=>false
noncomputable def P5:BI->List CE->Bool
 |.zO,[_,c]=>(P4 c).isSome
 |.zO,_=>false
 |_,_=>true
noncomputable def SQ(y:Bool)(f:Expr->Bool):List Expr->Bool
 |[]=>y
 |[e]=>f e
 |_=>false
noncomputable def wZ(f:Expr->Bool)(g:List Expr->Bool):List Expr->Bool
 |e::es=>f e&&g es
 |[]=>false
noncomputable def B4(f:Expr->Bool):List Expr->Bool:=o1 f
noncomputable def m7(S:SE)(g:List Nat)(d:Bool)(n:Nat)(k:Bool)(i:Expr->Bool)(j:SE->List Expr->Bool)(h:SE->Expr->Bool)(f tg b:Expr)(e:List Expr)(a:Scope):Bool:=
 match P1 tg with
 |some (o,c)=>(d==o)&&(n==c.length)&&(g==Ea n)&&cS a S.sc S.N (mask c S.N) c&&decide (c++mask c S.N).Nodup&&qM b&&(!k||!d)&&i b&&j (S.comp a c) e&&h (S.comp a c) f
 |none=>false
noncomputable def kg(c:Nat->Md):CE->Bool
 |.lst _=>true
 |.comp _ _ _ _ _ _=>true
 |.blt .list _=>true
 |.JX _=>true
 |.JY _=>true
 |.pM _ f _=>match c f with
  |.f=>true
  |_=>false
 |.sl _ _ _=>true
 |.bin .Add a b=>kg c a||kg c b
 |.bin .Mult a _=>kg c a
 |.call f _=>match c f with
  |.f=>true
  |_=>false
 |_=>false
noncomputable def mo(a:Nat->Md)(c:CE):Md:=if kg a c=true then .f else .s
noncomputable def P6:Expr->Bool
 |.Name _ _=>true
 |_=>false
noncomputable def SW(b:List Str)(vs:List Int):Expr->Bool
 |.Dict a es _=>Fc b vs a es
 |_=>false
mutual
noncomputable def aG(S:SE)(F:Bool):CE->Expr->Bool
 |.var i,e=>iu S i e&&!tF S.M i
 |.int i,e=>mC (λc=>decide (c=.int i)) e
 |.bl b,e=>mC (λc=>decide (c=.bool b)) e
 |.str x,e=>mC (λc=>decide (c=.str x)) e
 |.aI,e=>mC (λc=>decide (c=.none)) e
 |.Bg n,e=>tK (λx=>decide (x=Str.ofString n)&&lB S x&&S.zn.contains x&&tys.contains n) e
 |.glob g,e=>tK (λx=>S.gn[g]?==some x&&lB S x) e
 |.bin op a b,e=>BU (λo l r=>decide (op=o)&&(aG S false a l||fk S a l)&&(aG S false b r||fk S b r)) e
 |.neg a,e=>Q6 (λo x=>decide (o=.USub)&&aG S false a x) e
 |.not a,e=>Q6 (λo x=>decide (o=.Not)&&aG S false a x) e
 |.cmp op a b,e=>BV (λo l r=>decide (op=o)&&qM r&&(aG S false a l||fk S a l)&&(aG S false b r||fk S b r)) e
 |.and d,e=>Ln (λo es=>decide (o=.And)&&!es.isEmpty&&fq S d es) e
 |.or d,e=>Ln (λo es=>decide (o=.Or)&&!es.isEmpty&&fq S d es) e
 |.tup d,e=>vh (λes=>fq S d es) e
 |.lst d,e=>Lo (λes=>fq S d es) e
 |.ix a i,e=>vj (λv s=>tM s&&(aG S false a v||fk S a v)&&aG S false i s) e
 |.sl a w z,e=>SO (λv l h=>(aG S false a v||fk S a v)&&B3 (gi w) (λx=>aG S false w x) l&&B3 (gi z) (λx=>aG S false z x) h) e
 |.call f d,e=>jw (λx es=>S.fn[f]?==some x&&lB S x&&!es.isEmpty&&!dw (gu S.md f)&&!S.mt.any (·.1==f)&&fq S d es) e
 |.blt b d,e=>jw (λx es=>decide (x=Q7 b)&&lB S x&&S.zn.contains x&&UR b es.length&&P5 b d&&kP S d es) e
 |.comp E one n i c x,e=>Ih (λt tg j q p=>m7 S E one n (B0 i) (λj=>aG S true i j||fk S i j) (λD q=>SQ (Ii c) (λf=>aG D false c f&&zS c) q) (λD t=>aG D false x t) t tg j q p) e
 |.p9 d,e=>jw (λx es=>F&&decide (x=("range":Str))&&lB S x&&S.zn.contains x&&(d.length==1||d.length==2||d.length==3)&&fq S d es) e
 |.own i π,e=>iE S Ff i π e
 |.wk H a,e=>WE e&&aG (S.lend H) false a e
 |.i9 _ _ _ _,_=>false
 |.slt a w z,e=>SO (λv l h=>(aG S false a v||fk S a v)&&B3 (gi w) (λx=>aG S false w x) l&&B3 (gi z) (λx=>aG S false z x) h) e
 |.M9 a b c,e=>BX (λo m C B u v=>decide (m=("startswith":Str))&&(C.endLine==B.line)&&lU o&&aG S false a o&&aG S false b u&&aG S false c v) e
 |.JW a _ x,e=>qL (λo f _=>decide (f=x)&&lU o&&aG S false a o) e
 |.pM g f a,e=>vm (λo x C B=>(C.endLine==B.line)&&P6 o&&S.fn[f]?==some x&&S.mt.any (λy=>y.1==f&&y.2==g)&&!dw (gu S.md f)&&aG S false a o) e
 |.JX i,e=>jw (λx es=>decide (x=("sorted":Str))&&lB S x&&S.zn.contains x&&B4 (λv=>yV S.M i&&iu S i v) es) e
 |.JY a,e=>jw (λx es=>decide (x=("sorted":Str))&&lB S x&&S.zn.contains x&&B4 (λv=>jw (λy es=>decide (y=("set":Str))&&lB S y&&S.zn.contains y&&B4 (λu=>aG S false a u) es) v) es) e
 |.Na A vs k,e=>vj (λv s=>tM s&&SW A vs v&&decide A.Nodup&&!A.isEmpty&&decide (A.length<=15)&&aG S false k s) e
noncomputable def fq(S:SE):List CE->List Expr->Bool
 |[],es=>es.isEmpty
 |a::b,es=>wZ (λe=>aG S false a e) (λes=>fq S b es) es
noncomputable def kP(S:SE):List CE->List Expr->Bool
 |[],es=>es.isEmpty
 |a::b,es=>wZ (λe=>aG S false a e||fk S a e) (λes=>kP S b es) es
end
structure XOk(S:SE)(Φ:Nat->aW)(Ψ:Nat->Md)(G:Nat->W)(X:Cx):Prop where
 hN:X.N=S.N
 nd:X.N.Nodup
 calm:X.calm=true
 un:X.A.units+64<cLine
 nk:∀x,X.env.scope.names.lookup x=S.nk.lookup x
 fns:∀(j:Nat)(x:Str),S.fn[j]?=some x->S.mt.any (·.1==j)=false->∃fv n k,X.mg x=some fv/\b3 X.prog X.w X.K X.mg X.base k fv n (oF X.K n (Ψ j) (Φ j))/\cC k X.A/\∀ws P R,Φ j ws P R->ws.length=n
 pM:∀(j g:Nat)(x:Str),S.fn[j]?=some x->(j,g)∈S.mt->∃f fd ps n k,(∀C,G g=.cls C->Meth X.K C x f)/\Binds X.K fd ps []/\bE X.prog X.w X.K X.mg X.base (iC X.prog X.w) k f fd ps (oF X.K n (Ψ j) (Φ j))/\cC k X.A/\∀ws P R,Φ j ws P R->ws.length=n
 B5:Ψ=gu S.md
 Fj:∀(j:Nat)(x:Str),S.gn[j]?=some x->∃u v,X.mg x=some u/\RelV v u/\∀B H,Rep X.K B H (G j) v
 vn:∀x∈S.zn,X.mg x=none
 kit:sO X.K
section
variable{S:SE}{Φ:Nat->aW}{Ψ:Nat->Md}{G:Nat->W}{X:Cx}
theorem XOk.kI(h:XOk S Φ Ψ G X):XOk S Φ Ψ G X.kI:=⟨h.hN,h.nd,h.calm,h.un,h.nk,h.fns,h.pM,h.B5,h.Fj,h.vn,h.kit⟩
theorem w6{x:Str}(h:okN x=true):(x==("__debug__":Str))=false/\(x==("__classdict__":Str))=false/\x≠"__name__":=by unfold okN at h;simp only[AC,YC]at h;exact⟨h.1.1,h.1.2,λz=>by rw[z]at h;exact absurd h.2 (by simp)⟩
theorem bV{x:Str}(a:XOk S Φ Ψ G X)(h:lB S x=true):Gl X x/\(x==("__debug__":Str))=false/\x≠"__name__":=by unfold lB at h;rw[AC]at h;obtain⟨c,d,b⟩:=w6 h.2;refine⟨?_,c,b⟩;show X.env.scope.names.lookup x=_;rw[a.nk];exact IH.mp h.1
theorem cU(b:XOk S Φ Ψ G X){i:Nat}{e:Expr}(h:iu S i e=true):PE X e (jc i):=by obtain⟨x,c,rfl,h⟩:=bR h;obtain⟨h,d⟩:=Iy.mp h;obtain⟨f,a⟩:=Iy.mp h;obtain⟨j,g,_⟩:=w6 d;refine Af (by rw[b.hN];exact IH.mp f) ?_ j g;simp only[PY,X4,IH]at a;rw[<-b.nk]at a;exact a
noncomputable def noStar:Expr->Bool
 |.Starred _ _=>false
 |_=>true
theorem aD{e:Expr}(h:noStar e=true)(es:List Expr)(env:Env):starEach (e::es) env=(false,eval e env)::starEach es env:=by
 cases e<;>first|rfl|exact ff h
theorem bK:∀{es:List Expr}(h:es.all noStar=true)(pos:Pos)(env:Env),(backTo pos (starEach es env)).any (·.1)=false
 |[],_,_,_=>rfl
 |e::es,h,pos,env=>by rw[BQ,AC]at h;rw[aD h.1];show(false||(backTo pos (starEach es env)).any (·.1))=false;rw[bK h.2];rfl
theorem cz{m:Md->Bool}{i:Nat}{π:List gQ}{e:Expr}(h:iE S m i π e=true):
 (∃g k,π≠[]/\tL S i π.reverse e=true/\S.M.lookup i=some g/\gq g π=some k/\m k=true)/\((∃a f q,e=.Attribute a f q)\/∃a j c d q,e=.Subscript a (.Constant (.int j) c d) q):=by
 unfold iE at h;rw[AC,AC]at h;obtain⟨⟨y,l⟩,b⟩:=h;have u:π≠[]:=λz=>by rw[z]at y;exact ff y
 constructor
 .split at b
  .rename_i g hl
   split at b
   .rename_i k hk
    exact⟨g,k,u,l,hl,hk,b⟩
   .cases b
  .cases b
 .cases t:π.reverse with
  |nil=>exact(u (by simpa using t)).elim
  |cons s r=>
   rw[t]at l;cases s with
   |ix n=>obtain⟨v,s,p,rfl,w⟩:=cH l;obtain⟨c,k,q,rfl,A⟩:=fj (a2 w).1;cases c<;>first|exact .inr ⟨_,_,_,_,_,rfl⟩|exact ff A
   |fl n x=>obtain⟨o,m,p,rfl,w⟩:=b4 l;exact .inl ⟨_,_,_,rfl⟩
theorem m8{m:Md->Bool}{i:Nat}{π:List gQ}{v:Expr}{p:Pos}(h:iE S m i π (.Starred v p)=true):False:=by rcases(cz h).2 with⟨_,_,_,e⟩|⟨_,_,_,_,_,e⟩<;>cases e
theorem aQ{b:Bool}{c:CE}{e:Expr}(h:aG S b c e=true\/fk S c e=true):noStar e=true:=by
 cases e with
 |Starred v p=>
  rcases h with h|h
  .cases c with
   |own i d=>exact(m8 h).elim
   |wk f a=>exact ff h
   |_=>exact ff h
  .cases c<;>first|exact ff h|exact(m8 h).elim
 |_=>rfl
theorem eK{a b:Bool}(h:(a||b)=true):a=true\/b=true:=by
 cases a
 .exact .inr h
 .exact .inl rfl
theorem kh:∀{cs:List CE}{es:List Expr},fq S cs es=true->es.all noStar=true
 |[],es,h=>by
  cases es with
  |nil=>rfl
  |cons _ _=>exact ff h
 |c::cs,[],h=>by cases h
 |c::cs,e::es,h=>by have h:=a2 h;rw[BQ,aQ (.inl h.1),kh h.2];rfl
theorem m9:∀{cs:List CE}{es:List Expr},kP S cs es=true->es.all noStar=true
 |[],es,h=>by
  cases es with
  |nil=>rfl
  |cons _ _=>exact ff h
 |c::cs,[],h=>by cases h
 |c::cs,e::es,h=>by have h:=a2 h;rw[BQ,aQ (eK h.1),m9 h.2];rfl
theorem qN{b:Expr}(h:tM b=true):jg b:=λo i=>by cases b<;>first|rfl|exact ff h
theorem kj{a:Expr}(h:lU a=true)(f:Str)(env:Env)(b:Sem Value):attributeBase a f env b=b:=by cases a<;>first|rfl|exact ff h
theorem ng(b:XOk S Φ Ψ G X){i:Nat}:∀(π:List gQ)(e:Expr),tL S i π e=true->PE X e (j4 X.K i π.reverse)
 |[],e,h=>BD (cU b h)
 |.fl n x::π,e,h=>by obtain⟨o,m,p,rfl,g⟩:=b4 h;obtain⟨⟨a,f⟩,d⟩:=a3 g;have a:=Ap a;subst a;rw[Ta];exact BE (ng b π _ d) (kj f _ _ _)
 |.ix n::π,e,h=>by
  obtain⟨v,s,p,rfl,g⟩:=cH h;obtain⟨f,d⟩:=a2 g;obtain⟨c,k,q,rfl,j⟩:=fj f;cases c<;>try exact ff j
  have a:=Ap j;subst a;rw[Ta];exact Pz (ng b π _ d) l8 (qN rfl)
theorem qO(b:XOk S Φ Ψ G X){m:Md->Bool}{i:Nat}{π:List gQ}{e:Expr}(h:iE S m i π e=true):∃a k,(i,a)∈S.M/\gq a π=some k/\m k=true/\PE X e (j4 X.K i π):=by obtain⟨⟨a,k,_,g,f,d,c⟩,_⟩:=cz h;have:=ng b π.reverse e g;rw[List.reverse_reverse]at this;exact⟨a,k,dI f,d,c,this⟩
theorem P7(g:XOk S Φ Ψ G X){i:Nat}{π:List gQ}{e:Expr}(h:iE S Ff i π e=true)(R:Addr->Prop):VE X S.M R .s e (λa Q=>match look a i with|some w=>(match bz w π with|some u=>Q u|none=>False)|none=>False):=by
 obtain⟨j,k,d,c,f,b⟩:=qO g h;cases k<;>first|(cases f;done)|skip
 exact Ke b d c
theorem Ij(g:XOk S Φ Ψ G X){i:Nat}{π:List gQ}{e:Expr}(h:iE S Lm i π e=true)(R:Addr->Prop):VB X S.M R e (λa Q=>match look a i with|some w=>(match bz w π with|some u=>Q u|none=>False)|none=>False):=by
 obtain⟨j,k,d,c,f,b⟩:=qO g h;cases k<;>first|(cases f;done)|skip
 exact Kd b d c
end
structure bW(Φ:Nat->aW)(Ψ:Nat->Md)(G:Nat->W)(c:CE):Prop where
 e:∀{S:SE}{X:Cx},XOk S Φ Ψ G X->∀ex,aG S false c ex=true->∀R,VE X S.M R (mo Ψ c) ex (wE Φ G R c)
 t:∀{S:SE}{X:Cx},XOk S Φ Ψ G X->∀ex,aG S false c ex=true->zS c=true->∀R,VT X S.M R ex (wE Φ G R c)
 i:∀{S:SE}{X:Cx},XOk S Φ Ψ G X->∀tg br ex,(aG S true c ex||(br&&fk S c ex))=true->(B0 c=true->∃elts kk tp,tg=Expr.Tuple elts kk tp)->∀R,PI X tg ex (EB X S.M R br (wE Φ G R c))
structure oH(Φ:Nat->aW)(Ψ:Nat->Md)(G:Nat->W)(cs:List CE):Prop where
 a:∀{S:SE}{X:Cx},XOk S Φ Ψ G X->∀es,fq S cs es=true->∀R,VA X S.M R es (wA Φ G R cs)
 b:∀{S:SE}{X:Cx},XOk S Φ Ψ G X->∀es,kP S cs es=true->∀R,Nf X S.M R es (wA Φ G R cs)
 av:∀{S:SE}{X:Cx},XOk S Φ Ψ G X->∀es pos,es≠[]->fq S cs es=true->∀R,VE X S.M R .s (.BoolOp .And es pos) (xX Φ G R cs)
 ov:∀{S:SE}{X:Cx},XOk S Φ Ψ G X->∀es pos,es≠[]->fq S cs es=true->∀R,VE X S.M R .s (.BoolOp .Or es pos) (M1 Φ G R cs)
 «at»:∀{S:SE}{X:Cx},XOk S Φ Ψ G X->∀es pos,es≠[]->fq S cs es=true->zS.BY cs=true->∀R,HZ X S.M R (.BoolOp .And es pos) (xX Φ G R cs)
 ot:∀{S:SE}{X:Cx},XOk S Φ Ψ G X->∀es pos,es≠[]->fq S cs es=true->zS.BY cs=true->∀R,HZ X S.M R (.BoolOp .Or es pos) (M1 Φ G R cs)
section
variable{Φ:Nat->aW}{Ψ:Nat->Md}{G:Nat->W}
theorem cV{c:CE}(h:kg Ψ c=false):mo Ψ c=.s:=by unfold mo;rw[h];rfl
theorem iy{c:CE}(h:kg Ψ c=true):mo Ψ c=.f:=by unfold mo;rw[h];rfl
theorem bW.s{c:CE}(h:bW Φ Ψ G c){S:SE}{X:Cx}(a:XOk S Φ Ψ G X){ex:Expr}(k:aG S false c ex=true)(R:Addr->Prop):VE X S.M R .s ex (wE Φ G R c):=Bl (h.e a ex k R)
theorem bW.b{c:CE}(h:bW Φ Ψ G c){S:SE}{X:Cx}(a:XOk S Φ Ψ G X){ex:Expr}(k:(aG S false c ex||fk S c ex)=true)(R:Addr->Prop):VB X S.M R ex (wE Φ G R c):=by
 rcases eK k with k|k
 .exact Pa (h.e a ex k R)
 .cases c with
  |var i=>have k:(iu S i ex&&tG S.M i)=true:=k;rw[AC]at k;exact Bm (cU a k.1) (tH k.2)
  |own i d=>exact Ij a k R
  |_=>exact ff k
theorem bW.mk1{c:CE}(he:∀{S:SE}{X:Cx},XOk S Φ Ψ G X->∀ex,aG S false c ex=true->∀R,VE X S.M R (mo Ψ c) ex (wE Φ G R c))
 (e:∀{S:SE}{ex:Expr}(env:Env),aG S false c ex=true->∀a,isTrue ex env a=(do let v<-a;standAt ex.pos;holding [v] (truthy v)))
 (f:∀(S:SE)(ex:Expr),aG S true c ex=true->aG S false c ex=true)(d:∀(S:SE)(ex:Expr),fk S c ex=false):bW Φ Ψ G c:=
 ⟨he,λb ex k _ R=>u5 (e _ k) (Bl (he b ex k R)),λ{S X} b g br ex k _ R=>by rw[d,SZ,QQ]at k;exact fh (kO (he b ex (f _ _ k) R))⟩
theorem Lq(i:Nat):bW Φ Ψ G (.var i):=by
 have d:∀{S:SE}{X:Cx},XOk S Φ Ψ G X->∀ex,aG S false (.var i) ex=true->∀R,VE X S.M R (mo Ψ (.var i)) ex (wE Φ G R (.var i)):=λ{S X} a ex k R=>by have k:=a2 k;have e:¬aJ S.M i:=jv (by simpa using k.2);rw[cV rfl];exact Kc (cU a k.1) e
 refine⟨d,λ{S X} a ex k _ R=>u5 (λc=>?_) (Bl (d a ex k R)),λ{S X} a f br ex k _ R=>?_⟩
 .have k:=a2 k;cases ex<;>first|rfl|(have:=k.1;exact ff this)
 .rcases eK k with k|k
  .exact fh (kO (d a ex (by exact k) R))
  .rw[AC]at k;obtain⟨rfl,b⟩:=k;have b:(iu S i ex&&tG S.M i)=true:=b;rw[AC]at b;exact fh (Pj (Bm (cU a b.1) (tH b.2)))
theorem Lr(i:Nat)(π:List gQ):bW Φ Ψ G (.own i π):=by
 have d:∀R,wE Φ G R (.own i π)=λe Q=>match look e i with|some w=>(match bz w π with|some u=>Q u|none=>False)|none=>False:=λR=>rfl
 have c:∀{S:SE}{X:Cx},XOk S Φ Ψ G X->∀ex,aG S false (.own i π) ex=true->∀R,VE X S.M R (mo Ψ (.own i π)) ex (wE Φ G R (.own i π)):=λ{S X} a ex k R=>by rw[cV rfl,d];exact P7 a k R
 refine⟨c,λ{S X} a ex k _ R=>u5 (λb=>?_) (Bl (c a ex k R)),λ{S X} a g br ex k _ R=>?_⟩
 .rcases(cz k).2 with⟨_,_,_,rfl⟩|⟨_,_,_,_,_,rfl⟩<;>rfl
 .rcases eK k with k|k
  .exact fh (kO (c a ex (by exact k) R))
  .rw[AC]at k;obtain⟨rfl,f⟩:=k;rw[d];exact fh (Pj (Ij a f R))
theorem Ls(i:Int):bW Φ Ψ G (.int i):=by
 refine .mk1 (λ{S X} d ex k R=>?_) (λ{S ex} b k a=>?_) (λS ex k=>by exact k) (λ_ _=>rfl)
 .obtain⟨c,q,p,rfl,k⟩:=fj k;cases Ap k;rw[cV rfl];exact yM l8 λ_ _=>dj _
 .obtain⟨c,q,p,rfl,k⟩:=fj k;rfl
theorem P8(i:Bool):bW Φ Ψ G (.bl i):=by
 refine .mk1 (λ{S X} d ex k R=>?_) (λ{S ex} b k a=>?_) (λS ex k=>by exact k) (λ_ _=>rfl)
 .obtain⟨c,q,p,rfl,k⟩:=fj k;cases Ap k;rw[cV rfl];exact yM NN λ_ _=>pN _
 .obtain⟨c,q,p,rfl,k⟩:=fj k;rfl
theorem Lu(i:Str):bW Φ Ψ G (.str i):=by
 refine .mk1 (λ{S X} d ex k R=>?_) (λ{S ex} b k a=>?_) (λS ex k=>by exact k) (λ_ _=>rfl)
 .obtain⟨c,q,p,rfl,k⟩:=fj k;cases Ap k;rw[cV rfl];exact yM Ag λ_ _=>oE _
 .obtain⟨c,q,p,rfl,k⟩:=fj k;rfl
theorem Lv:bW Φ Ψ G .aI:=by
 refine .mk1 (λ{S X} d ex k R=>?_) (λ{S ex} b k a=>?_) (λS ex k=>by exact k) (λ_ _=>rfl)
 .obtain⟨c,q,p,rfl,k⟩:=fj k;cases Ap k;rw[cV rfl];exact yM Ja λ_ _=>O5
 .obtain⟨c,q,p,rfl,k⟩:=fj k;rfl
theorem Fl{n:String}(h:tys.contains n=true):bootBuiltins (Str.ofString n)=some (.type n):=by
 have:n∈tys:=by simpa using h
 unfold tys at this;simp only[FC,Os,X8]at this;rcases this with rfl|rfl|rfl|rfl|rfl|rfl<;>rfl
theorem Lw(n:String):bW Φ Ψ G (.Bg n):=by
 refine .mk1 (λ{S X} d ex k R=>?_) (λ{S ex} l k a=>?_) (λS ex k=>by exact k) (λ_ _=>rfl)
 .obtain⟨x,q,rfl,b⟩:=bR k
  replace k:=b
  simp only[AC]at k;obtain⟨⟨⟨c,g⟩,f⟩,e⟩:=k;obtain⟨j,i,h⟩:=bV d g;have c:=Ap c;subst c;rw[cV rfl];exact yM (v:=.ty n) (Du j (d.vn _ (by simpa using f)) (Fl e) rfl h i) λ_ _=>V8 _
 .obtain⟨x,q,rfl,b⟩:=bR k
  replace k:=b
  rfl
theorem Fo(g:Nat):bW Φ Ψ G (.glob g):=by
 refine .mk1 (λ{S X} c ex k R=>?_) (λ{S ex} m k a=>?_) (λS ex k=>by exact k) (λ_ _=>rfl)
 .obtain⟨x,q,rfl,b⟩:=bR k
  replace k:=b
  simp only[AC]at k;obtain⟨e,d⟩:=k;obtain⟨l,j,n⟩:=bV c d;obtain⟨u,v,i,h,f⟩:=c.Fj g _ (IH.mp e);rw[cV rfl];exact yM (Ds l i h j) f
 .obtain⟨x,q,rfl,b⟩:=bR k
  replace k:=b
  rfl
theorem vo{K:Frag}{B:Addr->Prop}{H H':Hp}{w:W}{v:V}(h:cD K B H H' .f w v):Kf w=true:=by obtain⟨a,p,b,rfl,_⟩:=h.HQ;rfl
theorem B6{S:SE}{a:CE}{l:Expr}(k:fk S a l=true)(z:kg Ψ a=true):False:=by cases a<;>first|exact ff k|exact ff z
theorem Lx(op:Operator){a b:CE}(J:bW Φ Ψ G a)(I:bW Φ Ψ G b):bW Φ Ψ G (.bin op a b):=by
 refine .mk1 (λ{S X} n ex k R=>?_) (λ{S ex} P k s=>?_) (λS ex k=>by exact k) (λ_ _=>rfl)
 .obtain⟨l,o,r,t,rfl,u⟩:=j8 k
  replace k:=u
  simp only[AC]at k;obtain⟨⟨A,i⟩,g⟩:=k;have A:=Ap A;subst A;show VE X S.M R _ _ λF Q=>wE Φ G R a F λx=>wE Φ G R b F λy=>eu op x y Q;have E:∀B H m w v,Dom B H->Uz X.K B H m w v->aT X.K B m w v:=λ_ _ _ _ _ _ h=>h;have D:∀B H m w v,Dom B H->Ka X.K .f B H m w v->aT X.K B m w v:=λ_ _ _ _ _ d h=>(cD.rep d h).b;have p:=J.b n i R;have j:=I.b n g R;have L:kg Ψ a=true->VE X S.M R .f l (wE Φ G R a):=λz=>by
   rcases eK i with i|i
   .have:=J.e n l i R;rw[iy z]at this;exact this
   .exact(B6 i z).elim
  have O:kg Ψ b=true->VE X S.M R .f r (wE Φ G R b):=λz=>by
   rcases eK g with g|g
   .have:=I.e n r g R;rw[iy z]at this;exact this
   .exact(B6 g z).elim
  cases op with
  |Add=>
   by_cases c:kg Ψ a=true
   .rw[iy (show kg Ψ (.bin .Add a b)=true by show(kg Ψ a||kg Ψ b)=true;rw[c];rfl)];exact u0 (L c) j D E λ_ _ _ _ _ _ _ _ _ _ C _=>.inl ⟨rfl,.inl (vo C)⟩
   .by_cases q:kg Ψ b=true
    .rw[iy (show kg Ψ (.bin .Add a b)=true by show(kg Ψ a||kg Ψ b)=true;rw[q,Bool.or_true])];exact u0 p (O q) E D λ_ _ _ _ _ _ _ _ _ _ _ N=>.inl ⟨rfl,.inr (vo N)⟩
    .rw[cV (show kg Ψ (.bin .Add a b)=false by show(kg Ψ a||kg Ψ b)=false;rw[SU _|>.mp c,SU _|>.mp q];rfl)];exact Bp p j λ_ _=>.inr rfl
  |Mult=>
   by_cases c:kg Ψ a=true
   .rw[iy (show kg Ψ (.bin .Mult a b)=true from c)];exact u0 (L c) j D E λ_ _ _ _ _ _ _ _ _ _ C _=>.inr ⟨rfl,vo C⟩
   .rw[cV (show kg Ψ (.bin .Mult a b)=false from SU _|>.mp c)];exact Bp p j λ_ _=>.inr rfl
  |_=>rw[cV rfl];exact Bp p j λ_ _=>.inr rfl
 .obtain⟨l,o,r,t,rfl,u⟩:=j8 k
  replace k:=u
  rfl
theorem Ly{a:CE}(e:bW Φ Ψ G a):bW Φ Ψ G (.neg a):=by
 refine .mk1 (λ{S X} f ex k R=>?_) (λ{S ex} g k b=>?_) (λS ex k=>by exact k) (λ_ _=>rfl)
 .obtain⟨o,x,c,rfl,d⟩:=jx k
  replace k:=d
  rw[AC]at k;cases Ap k.1;rw[cV rfl];exact Kh (e.s f k.2 R)
 .obtain⟨o,x,c,rfl,d⟩:=jx k
  replace k:=d
  rw[AC]at k;cases Ap k.1;rfl
theorem Lz{a:CE}(h:bW Φ Ψ G a):bW Φ Ψ G (.not a):=by
 have e:∀R,wE Φ G R (.not a)=λi Q=>wE Φ G R a i λx=>truth x λb=>Q (.bl (!b)):=λR=>rfl;have g:∀{S:SE}{X:Cx},XOk S Φ Ψ G X->∀ex,aG S false (.not a) ex=true->∀R,VE X S.M R (mo Ψ (.not a)) ex (wE Φ G R (.not a)):=λ{S X} c ex k R=>by
  obtain⟨o,x,d,rfl,f⟩:=jx k
  replace k:=f
  rw[AC]at k;cases Ap k.1;rw[cV rfl,e];exact Kl (h.s c k.2 R)
 refine⟨g,λ{S X} c ex k j R=>?_,λ{S X} c m br ex k _ R=>?_⟩
 .obtain⟨o,x,d,rfl,f⟩:=jx k
  replace k:=f
  rw[AC]at k;cases Ap k.1;rw[e];exact Kr (h.t c _ k.2 (by exact j) R)
 .have l:fk S (.not a) ex=false:=rfl;rw[l,SZ,QQ]at k;exact fh (kO (g c ex (by exact k) R))
theorem LA(op:CmpOp){a b:CE}(n:bW Φ Ψ G a)(m:bW Φ Ψ G b):bW Φ Ψ G (.cmp op a b):=by
 have e:∀R,wE Φ G R (.cmp op a b)=λg Q=>wE Φ G R a g λx=>wE Φ G R b g λy=>dz op x y Q:=λR=>rfl;have f:∀{S:SE}{X:Cx},XOk S Φ Ψ G X->∀ex,aG S false (.cmp op a b) ex=true->∀R,VE X S.M R .s ex (wE Φ G R (.cmp op a b))/\VT X S.M R ex (wE Φ G R (.cmp op a b)):=λ{S X} c ex k R=>by
  obtain⟨l,o,r,p,rfl,q⟩:=j9 k
  replace k:=q
  simp only[AC,YC]at k;obtain⟨⟨⟨d,t⟩,i⟩,h⟩:=k;have d:=Ap d;subst d;have j:behindInMarks op r=false:=by cases r<;>first|rfl|exact ff t
  rw[e];exact⟨Km c.un j (n.b c i R) (m.b c h R),Kn c.un j (n.b c i R) (m.b c h R)⟩
 refine⟨λc ex k R=>by rw[cV rfl];exact(f c ex k R).1,λc ex k _ R=>(f c ex k R).2,λ{S X} c v br ex k _ R=>?_⟩;have u:fk S (.cmp op a b) ex=false:=rfl;rw[u,SZ,QQ]at k;exact fh (kO (f c ex (by exact k) R).1)
theorem gU{es:List Expr}(h:(!es.isEmpty)=true):es≠[]:=by rintro rfl;cases h
theorem LB{b:List CE}(g:oH Φ Ψ G b):bW Φ Ψ G (.and b):=by
 have e:∀R,wE Φ G R (.and b)=xX Φ G R b:=λR=>rfl;have f:∀{S:SE}{X:Cx},XOk S Φ Ψ G X->∀ex,aG S false (.and b) ex=true->∀R,VE X S.M R .s ex (wE Φ G R (.and b)):=λ{S X} a ex k R=>by
  obtain⟨o,j,c,rfl,d⟩:=gS k
  replace k:=d
  rw[AC,AC]at k;cases Ap k.1.1;rw[e];exact g.av a _ _ (gU k.1.2) k.2 R
 refine⟨λa ex k R=>by rw[cV rfl];exact f a ex k R,λ{S X} a ex k h R=>?_,λ{S X} a l br ex k _ R=>?_⟩
 .obtain⟨o,j,c,rfl,d⟩:=gS k
  replace k:=d
  rw[AC,AC]at k;cases Ap k.1.1;rw[e];exact(g.at a _ _ (gU k.1.2) k.2 (by exact h) R).pt
 .have i:fk S (.and b) ex=false:=rfl;rw[i,SZ,QQ]at k;exact fh (kO (f a ex (by exact k) R))
theorem Qa{b:List CE}(g:oH Φ Ψ G b):bW Φ Ψ G (.or b):=by
 have e:∀R,wE Φ G R (.or b)=M1 Φ G R b:=λR=>rfl;have f:∀{S:SE}{X:Cx},XOk S Φ Ψ G X->∀ex,aG S false (.or b) ex=true->∀R,VE X S.M R .s ex (wE Φ G R (.or b)):=λ{S X} a ex k R=>by
  obtain⟨o,j,c,rfl,d⟩:=gS k
  replace k:=d
  rw[AC,AC]at k;cases Ap k.1.1;rw[e];exact g.ov a _ _ (gU k.1.2) k.2 R
 refine⟨λa ex k R=>by rw[cV rfl];exact f a ex k R,λ{S X} a ex k h R=>?_,λ{S X} a l br ex k _ R=>?_⟩
 .obtain⟨o,j,c,rfl,d⟩:=gS k
  replace k:=d
  rw[AC,AC]at k;cases Ap k.1.1;rw[e];exact(g.ot a _ _ (gU k.1.2) k.2 (by exact h) R).pt
 .have i:fk S (.or b) ex=false:=rfl;rw[i,SZ,QQ]at k;exact fh (kO (f a ex (by exact k) R))
theorem Ik{X:Cx}{M:Ms}{R:Addr->Prop}{m:Md}{e:Expr}{t:WT}{c:CE}(h:VE X M R m e t)(a:mo Ψ c=m\/mo Ψ c=.s):VE X M R (mo Ψ c) e t:=by
 rcases a with z|z
 .rw[z];exact h
 .rw[z];exact Bl h
theorem LC{e:List CE}(f:oH Φ Ψ G e):bW Φ Ψ G (.tup e):=by
 refine .mk1 (λ{S X} g ex k R=>?_) (λ{S ex} h k b=>?_) (λS ex k=>by exact k) (λ_ _=>rfl)
 .obtain⟨d,q,p,rfl,c⟩:=cZ k;rw[cV rfl];exact Kv (f.a g d c R)
 .obtain⟨d,q,p,rfl,c⟩:=cZ k;rfl
theorem LD{e:List CE}(f:oH Φ Ψ G e):bW Φ Ψ G (.lst e):=by
 refine .mk1 (λ{S X} g ex k R=>?_) (λ{S ex} h k b=>?_) (λS ex k=>by exact k) (λ_ _=>rfl)
 .obtain⟨d,p,rfl,c⟩:=m5 k;rw[iy rfl];exact Ku (f.a g d c R)
 .obtain⟨d,p,rfl,c⟩:=m5 k;rfl
theorem Qc{a i:CE}(g:bW Φ Ψ G a)(f:bW Φ Ψ G i):bW Φ Ψ G (.ix a i):=by
 refine .mk1 (λ{S X} e ex k R=>?_) (λ{S ex} h k d=>?_) (λS ex k=>by exact k) (λ_ _=>rfl)
 .obtain⟨v,s,p,rfl,c⟩:=cH k;simp only[AC]at c;rw[cV rfl];exact Pd (qN c.1.1) (g.b e c.1.2 R) (f.s e c.2 R)
 .obtain⟨v,s,p,rfl,c⟩:=cH k;rfl
theorem xg{a:CE}(d:bW Φ Ψ G a){S:SE}{X:Cx}(f:XOk S Φ Ψ G X){l:Option Expr}(k:B3 (gi a) (λx=>aG S false a x) l=true)(R:Addr->Prop):PO X l (Kw X S.M R λb Q=>wE Φ G R a b λy=>zQ a y Q):=by
 cases l with
 |none=>
  have z:gi a=true:=k;cases a with
  |aI=>exact Ey
  |_=>exact ff z
 |some x=>
  have k:(!gi a&&aG S false a x)=true:=k;rw[AC]at k;have e:(λ(b:Ev)(Q:Option Int->Prop)=>wE Φ G R a b λy=>zQ a y Q)=λb Q=>wE Φ G R a b λy=>match y with|.int i=>Q (some i)|_=>False:=by
   have c:gi a=false:=by simpa using k.1
   unfold zQ;rw[c];funext b Q;congr 1;funext y;cases y<;>rfl
  rw[e];exact Ez (d.s f k.2 R)
theorem Qd{a f g:CE}(j:bW Φ Ψ G a)(h:bW Φ Ψ G f)(i:bW Φ Ψ G g):bW Φ Ψ G (.sl a f g):=by
 refine .mk1 (λ{S X} e ex k R=>?_) (λ{S ex} m k d=>?_) (λS ex k=>by exact k) (λ_ _=>rfl)
 .obtain⟨v,l,r,q,p,rfl,c⟩:=lV k;simp only[AC]at c;rw[iy rfl];exact Pe (j.b e c.1.1 R) (xg h e c.1.2 R) (xg i e c.2 R)
 .obtain⟨v,l,r,q,p,rfl,c⟩:=lV k;rfl
theorem Fq(f:Nat){m:List CE}(C:oH Φ Ψ G m):bW Φ Ψ G (.call f m):=by
 refine .mk1 (λ{S X} b ex k R=>?_) (λ{S ex} I k c=>?_) (λS ex k=>by exact k) (λ_ _=>rfl)
 .obtain⟨x,q,l,p,rfl,g⟩:=aN k;simp only[AC]at g;obtain⟨⟨⟨⟨⟨v,u⟩,t⟩,i⟩,s⟩,o⟩:=g;obtain⟨E,D,J⟩:=bV b u;obtain⟨H,n,r,B,F,y,A⟩:=b.fns f x (IH.mp v) (by simpa using s);have F:b3 X.prog X.w X.K X.mg X.base r H n (Dd X.K n (Ψ f) (Φ f)):=by rw[<-b.B5]at i;cases j:Ψ f<;>rw[j]at i F<;>first|exact F|exact ff i
  have d:=kh o;cases l with
  |nil=>exact ff t
  |cons e l=>
   rw[BQ,AC]at d;have h:=wG (M:=S.M) (R:=R) (p:=q) (pos:=p) F y E B A (C.a b _ o R) D (aD d.1 _ _) (bK d.2 _ _);refine Ik h ?_;by_cases z:kg Ψ (.call f m)=true
   .rw[iy z];left;have z:(match Ψ f with|.f=>true|_=>false)=true:=z;cases j:Ψ f<;>rw[j]at z<;>first|rfl|exact ff z
   .exact .inr (cV (by simpa using z))
 .obtain⟨x,q,l,p,rfl,g⟩:=aN k;rfl
theorem tN{X:Cx}(a:X.calm=true):∀b:BI,b≠.zO->(∃id,bootBuiltins (Q7 b)=some (.builtin id)/\aZ X (.builtin id) (Ky X.K b))\/(∃id,bootBuiltins (Q7 b)=some (.type id)/\aZ X (.type id) (Ky X.K b))
 |.len,_=>.inl ⟨"len",rfl,cw_len.r⟩
 |.abs,_=>.inl ⟨"abs",rfl,cw_abs.r⟩
 |.max2,_=>.inl ⟨"max",rfl,(cw_max a).r⟩
 |.min2,_=>.inl ⟨"min",rfl,(cw_min a).r⟩
 |.sum,_=>.inl ⟨"sum",rfl,(cw_sum a).r⟩
 |.all,_=>.inl ⟨"all",rfl,(cw_all a).r⟩
 |.list,_=>.inr ⟨"list",rfl,cw_list.r⟩
 |.tuple,_=>.inr ⟨"tuple",rfl,cw_tuple.r⟩
 |.int,_=>.inr ⟨"int",rfl,cw_int.r⟩
 |.QZ,_=>.inl ⟨"divmod",rfl,cw_dvm.r⟩
 |.str,_=>.inr ⟨"str",rfl,cw_str.r⟩
 |.any,_=>.inl ⟨"any",rfl,(cw_any a).r⟩
 |.zO,h=>absurd rfl h
theorem dB{S:SE}{a:CE}{b:List CE}{es:List Expr}(k:fq S (a::b) es=true):∃e r,es=e::r/\aG S false a e=true/\fq S b r=true:=by
 cases es with
 |nil=>exact ff k
 |cons e r=>exact⟨e,r,rfl,a2 k⟩
theorem nh{S:SE}{es:List Expr}(k:fq S [] es=true):es=[]:=GT.mp k
theorem vp{S:SE}{a:CE}{b:List CE}{es:List Expr}(k:kP S (a::b) es=true):∃e r,es=e::r/\(aG S false a e||fk S a e)=true/\kP S b r=true:=by
 cases es with
 |nil=>exact ff k
 |cons e r=>exact⟨e,r,rfl,a2 k⟩
theorem yW{S:SE}{es:List Expr}(k:kP S [] es=true):es=[]:=GT.mp k
theorem LF(b:BI){i:List CE}(H:oH Φ Ψ G i)(g:∀c∈i,bW Φ Ψ G c):bW Φ Ψ G (.blt b i):=by
 refine .mk1 (λ{S X} h ex k R=>?_) (λ{S ex} Y k s=>?_) (λS ex k=>by exact k) (λ_ _=>rfl)
 .obtain⟨x,q,B,p,rfl,j⟩:=aN k;simp only[AC]at j;obtain⟨⟨⟨⟨⟨l,O⟩,N⟩,L⟩,D⟩,o⟩:=j;have l:=Ap l;obtain⟨A,w,v⟩:=bV h O;have hz:=h.vn x (by simpa using N);have f:=m9 o;cases B with
  |nil=>cases b<;>exact ff L
  |cons e B=>
   rw[BQ,AC]at f;by_cases F:b=.zO
   .subst F;rw[cV rfl];rcases i with _|⟨a,_|⟨c,_|⟨d,i⟩⟩⟩<;>try exact ff D
    obtain⟨n,E⟩:=Q1.mp D;have Z:c=.Bg n:=by cases c<;>first|(cases E;rfl)|exact nn E
    subst Z;obtain⟨K,J⟩:=a2 o;obtain⟨e2,r,rfl,C,Ft⟩:=vp J;cases yW Ft;have st2:=f.2;rw[BQ,AC]at st2;have I:aG S false (.Bg n) e2=true:=by
     rcases eK C with z|z
     .exact z
     .exact ff z
    have t:n∈["int","bool","tuple","list","str","dict"]:=by obtain⟨y,q2,rfl,j⟩:=bR I;have:=(a2 j).2;unfold tys at this;exact Rq.mp this
    have U:=(g a Bn).b h K R;have T:=(g (.Bg n) (B1 _ Bn)).b h C R;have m:bootBuiltins x=some (.builtin "isinstance"):=by rw[l];rfl
    exact KC (M:=S.M) (R:=R) (p:=q) (pos:=p) h.kit t A hz m U T v w (aD f.1 _ _) (aD st2.1 _ _) (bK f.2 _ _)
   .have Q:mo Ψ (.blt b i)=Pf b:=by
     cases b<;>first|rfl|exact cV rfl|exact iy rfl
    rw[Q];rcases tN h.calm b F with⟨P,m,u⟩|⟨P,m,u⟩
    .exact Kz u A hz (by rw[l];exact m) (H.b h _ o R) v w (aD f.1 _ _) (bK f.2 _ _)
    .exact KA u A hz (by rw[l];exact m) (H.b h _ o R) v w (aD f.1 _ _) (bK f.2 _ _)
 .obtain⟨x,q,B,p,rfl,j⟩:=aN k;rfl
theorem LG{K:Frag}{B b:Addr->Prop}{H:Hp}{w:W}{v:V}(a:J3 w=true)(r:Rep K B H w v):Rep K b H w v:=by
 cases w<;>first|(dsimp only[Rep]at r⊢;exact r)|exact ff a
theorem gE{S:SE}{a:List Nat}:∀x∈(S.lend a).M,x∈S.M:=λx b=>(RF.mp b).1
theorem LH(c:List Nat){a:CE}(u:bW Φ Ψ G a):bW Φ Ψ G (.wk c a):=by
 have x:∀R,wE Φ G R (.wk c a)=λd Q=>wE Φ G R a d λw=>J3 w=true/\Q w:=λR=>rfl;have q:∀{S:SE}{X:Cx},XOk S Φ Ψ G X->∀ex,aG S false (.wk c a) ex=true->∀R,VE X S.M R .s ex (wE Φ G R (.wk c a)):=λ{S X} b ex k R=>by have k:=a2 k;have g:XOk (S.lend c) Φ Ψ G X:=⟨b.hN,b.nd,b.calm,b.un,b.nk,b.fns,b.pM,b.B5,b.Fj,b.vn,b.kit⟩;rw[x];refine PE.imp (u.s g k.2 R) ?_;rintro y H Q ⟨A,n,d,P,m,j,h,i⟩;obtain⟨p,D,E,C,l⟩:=m.sub (M':=(S.lend c).M) gE none (λv e=>by cases e);exact⟨p,n,d,_,l,j,h,λw v o f s r=>i w v o f.2 s (.of (LG f.1 r.aO))⟩
 refine⟨λ{S X} b ex k R=>by rw[cV rfl];exact q b ex k R,λ{S X} b ex k z R=>?_,λ{S X} b F br ex k _ R=>?_⟩
 .have k:=a2 k;have g:XOk (S.lend c) Φ Ψ G X:=⟨b.hN,b.nd,b.calm,b.un,b.nk,b.fns,b.pM,b.B5,b.Fj,b.vn,b.kit⟩;rw[x];refine PT.imp (u.t g ex k.2 z R) ?_;rintro y H Q ⟨A,n,d,P,m,j,h,i⟩;obtain⟨p,D,E,C,l⟩:=m.sub (M':=(S.lend c).M) gE none (λv e=>by cases e);exact⟨p,n,d,_,l,j,h,λw o f s=>i w o f.2 s⟩
 .have B:fk S (.wk c a) ex=false:=rfl;rw[B,SZ,QQ]at k;exact fh (kO (q b ex (by exact k) R))
theorem LI(i g f:Nat)(c:List CE):bW Φ Ψ G (.i9 i g f c):=.mk1 (λd ex k R=>by cases k) (λb k a=>by cases k) (λS ex k=>by cases k) (λ_ _=>rfl)
theorem LJ{o:List CE}(h:∀c∈o,bW Φ Ψ G c):bW Φ Ψ G (.p9 o):=by
 refine⟨λ{S X} i ex k R=>?_,λ{S X} i ex k _ R=>?_,λ{S X} i tg br ex k _ R=>?_⟩
 .obtain⟨x,q,z,p,rfl,l⟩:=aN k;simp at l
 .obtain⟨x,q,z,p,rfl,l⟩:=aN k;simp at l
 .have D:fk S (.p9 o) ex=false:=rfl;rw[D,SZ,QQ]at k;obtain⟨x,q,z,p,rfl,l⟩:=aN k;simp only[AC]at l;obtain⟨⟨⟨⟨⟨_,v⟩,C⟩,B⟩,y⟩,u⟩:=l;have v:=Ap v;subst v;obtain⟨w,H,F⟩:=bV i C;have hz:=i.vn _ (by simpa using B);rcases o with _|⟨a,_|⟨b,_|⟨c,_|⟨d,o⟩⟩⟩⟩
  .simp at y
  .obtain⟨e,r,rfl,j,n⟩:=dB u;cases nh n;exact EC (M:=S.M) (R:=R) (br:=br) (tg:=tg) (p:=q) (pos:=p) w hz ((h a Bn).s i j R) (aD (aQ (.inl j)) _ _)
  .obtain⟨e,r,rfl,j,n⟩:=dB u;obtain⟨f,r,rfl,m,t⟩:=dB n;cases nh t;exact ED (M:=S.M) (R:=R) (br:=br) (tg:=tg) (p:=q) (pos:=p) w hz ((h a (by simp)).s i j R) ((h b (by simp)).s i m R) (aD (aQ (.inl j)) _ _) (aD (aQ (.inl m)) _ _)
  .obtain⟨e,r,rfl,j,n⟩:=dB u;obtain⟨f,r,rfl,m,t⟩:=dB n;obtain⟨g,r,rfl,A,E⟩:=dB t;cases nh E;exact EF (M:=S.M) (R:=R) (br:=br) (tg:=tg) (p:=q) (pos:=p) w hz ((h a (by simp)).s i j R) ((h b (by simp)).s i m R) ((h c (by simp)).s i A R) (aD (aQ (.inl j)) _ _) (aD (aQ (.inl m)) _ _) (aD (aQ (.inl A)) _ _)
  .simp at y
theorem tO{f:Expr->Bool}{es:List Expr}(h:B4 f es=true):∃e,es=[e]/\f e=true:=cG h
theorem hu1{X:Cx}(h:X.A.units+64<cLine):X.A.units+1<cLine:=by omega
theorem LK{a f g:CE}(j:bW Φ Ψ G a)(h:bW Φ Ψ G f)(i:bW Φ Ψ G g):bW Φ Ψ G (.slt a f g):=by
 refine .mk1 (λ{S X} e ex k R=>?_) (λ{S ex} m k d=>?_) (λS ex k=>by exact k) (λ_ _=>rfl)
 .obtain⟨v,l,r,q,p,rfl,c⟩:=lV k;simp only[AC]at c;rw[cV rfl];exact La (j.b e c.1.1 R) (xg h e c.1.2 R) (xg i e c.2 R)
 .obtain⟨v,l,r,q,p,rfl,c⟩:=lV k;rfl
theorem LL{a b c:CE}(r:bW Φ Ψ G a)(q:bW Φ Ψ G b)(p:bW Φ Ψ G c):bW Φ Ψ G (.M9 a b c):=by
 refine .mk1 (λ{S X} g ex k R=>?_) (λ{S ex} t k d=>?_) (λS ex k=>by exact k) (λ_ _=>rfl)
 .obtain⟨o,m,v,u,x,y,rfl,e⟩:=m6 k;simp only[AC]at e;obtain⟨⟨⟨⟨⟨f,n⟩,l⟩,j⟩,i⟩,h⟩:=e;have f:=Ap f;subst f;rw[cV rfl];exact Lb (r.s g j R) (q.s g i R) (p.s g h R) (kj l _ _ _) n (aD (aQ (.inl i)) _ _) (aD (aQ (.inl h)) _ _)
 .obtain⟨o,m,v,u,x,y,rfl,e⟩:=m6 k;rfl
theorem LM(n:Nat)(x:Str){a:CE}(h:bW Φ Ψ G a):bW Φ Ψ G (.JW a n x):=by
 refine .mk1 (λ{S X} i ex k R=>?_) (λ{S ex} j k b=>?_) (λS ex k=>by exact k) (λ_ _=>rfl)
 .obtain⟨o,f,p,rfl,d⟩:=b4 k;obtain⟨⟨c,g⟩,e⟩:=a3 d;have c:=Ap c;subst c;rw[cV rfl];exact Lc (h.s i e R) (kj g _ _ _)
 .obtain⟨o,f,p,rfl,d⟩:=b4 k;rfl
theorem ko{y x:Str}{a apos pos:Pos}{es:List Expr}{env:Env}(c:(backTo pos (starEach es env)).any (·.1)=false)(e:es.length<30)(b:(apos.endLine==pos.line)=true):
 eval (.Call (.Attribute (.Name y a) x apos) es [] pos) env=(do
  let ov<-eval (.Name y a) env
  standAt apos.atName
  let(f,first)<-holding [ov] (getMethod ov x (do return (<-importBound (.Name y a) env).getD true))
  callWith pos f first (backTo pos (starEach es env)) (backToKw pos (keywordEach [] env))):=by
 have h:methodCallForm (es.length+([]:List Keyword).length) (backTo pos (starEach es env)) (backToKw pos (keywordEach [] env))=true:=by
  unfold methodCallForm;have g:(backTo pos (starEach es env)).all (λx=>!x.1)=true:=by rw[Hb];intro z hz;rw[Tg]at c;simpa using c z hz
  rw[g];show(true&&true&&decide (es.length+0+0<30))=true;simpa using e
 have d:methodCallPos true (.Name y a) env apos pos=pure pos:=by unfold methodCallPos;simp[b]
 rw[arm_eval_Call,show attributeBase (.Name y a) x env (eval (.Name y a) env)=eval (.Name y a) env from rfl];unfold methodCall;rw[h,d];rfl
theorem B7{c:List (Nat×Nat)}{f g:Nat}(h:c.any (λy=>y.1==f&&y.2==g)=true):(f,g)∈c:=by obtain⟨⟨a,b⟩,d,e⟩:=YO.mp h;rw[AC]at e;cases IH.mp e.1;cases IH.mp e.2;exact d
theorem LN(g f:Nat){a:CE}(D:bW Φ Ψ G a):bW Φ Ψ G (.pM g f a):=by
 refine .mk1 (λ{S X} i ex k R=>?_) (λ{S ex} J k b=>?_) (λS ex k=>by exact k) (λ_ _=>rfl)
 .obtain⟨o,x,l,j,rfl,c⟩:=iN k;simp only[AC]at c;obtain⟨⟨⟨⟨⟨v,u⟩,t⟩,r⟩,d⟩,q⟩:=c;obtain⟨I,H,m,n,p,E,C,F,A,B⟩:=i.pM f g x (IH.mp t) (B7 r);have F:bE X.prog X.w X.K X.mg X.base (iC X.prog X.w) p I H m (Dd X.K n (Ψ f) (Φ f)):=by rw[<-i.B5]at d;cases e:Ψ f<;>rw[e]at d F<;>first|exact F|exact ff d
  cases o with
  |Name y L=>
   have h:=Ld (G:=G g) (M:=S.M) (R:=R) (pos:=j) (apos:=l) E F A C B (D.s i q R) (ko (es:=[]) rfl (by show 0<30;decide) v);refine Ik h ?_;by_cases z:kg Ψ (.pM g f a)=true
   .rw[iy z];left;have z:(match Ψ f with|.f=>true|_=>false)=true:=z;cases e:Ψ f<;>rw[e]at z<;>first|rfl|exact ff z
   .exact .inr (cV (by simpa using z))
  |_=>exact ff u
 .obtain⟨o,x,l,j,rfl,c⟩:=iN k;rfl
theorem LO(i:Nat):bW Φ Ψ G (.JX i):=by
 refine .mk1 (λ{S X} b ex k R=>?_) (λ{S ex} l k c=>?_) (λS ex k=>by exact k) (λ_ _=>rfl)
 .obtain⟨x,q,j,p,rfl,d⟩:=aN k;simp only[AC]at d;obtain⟨⟨⟨e,g⟩,f⟩,a⟩:=d;have e:=Ap e;subst e;obtain⟨v,rfl,a⟩:=cG a;have a:(yV S.M i&&iu S i v)=true:=a;rw[AC]at a;rw[iy rfl];obtain⟨h,_,_⟩:=bV b g;exact Lf b.calm (qJ a.1) (cU b a.2) h (b.vn _ (by simpa using f)) (by obtain⟨y,z,rfl,_⟩:=bR a.2;rfl)
 .obtain⟨x,q,j,p,rfl,d⟩:=aN k;rfl
theorem LP{a:CE}(o:bW Φ Ψ G a):bW Φ Ψ G (.JY a):=by
 refine .mk1 (λ{S X} c ex k R=>?_) (λ{S ex} w k e=>?_) (λS ex k=>by exact k) (λ_ _=>rfl)
 .obtain⟨x,q,i,p,rfl,b⟩:=aN k;simp only[AC]at b;obtain⟨⟨⟨h,n⟩,m⟩,g⟩:=b;have h:=Ap h;subst h;obtain⟨v,rfl,g⟩:=tO g;obtain⟨y,z,i,A,rfl,b⟩:=aN g;simp only[AC]at b;obtain⟨⟨⟨f,l⟩,j⟩,d⟩:=b;have f:=Ap f;subst f;obtain⟨u,rfl,d⟩:=tO d;obtain⟨t,E,D⟩:=bV c n;obtain⟨r,C,B⟩:=bV c l;rw[iy rfl];exact Lg c.calm (o.s c d R) t (c.vn _ (by simpa using m)) r (c.vn _ (by simpa using j)) (aD (aQ (.inl d)) _ _)
 .obtain⟨x,q,i,p,rfl,b⟩:=aN k;rfl
theorem LQ(f:List Str)(vs:List Int){a:CE}(m:bW Φ Ψ G a):bW Φ Ψ G (.Na f vs a):=by
 refine .mk1 (λ{S X} e ex k R=>?_) (λ{S ex} n k b=>?_) (λS ex k=>by exact k) (λ_ _=>rfl)
 .obtain⟨v,s,p,rfl,c⟩:=cH k;simp only[AC]at c;obtain⟨⟨⟨⟨⟨l,d⟩,j⟩,i⟩,h⟩,g⟩:=c;cases v with
  |Dict o r q=>rw[cV rfl];exact Le (hu1 e.un) d (Ap j) (by rintro rfl;cases i) (Ap h) (m.s e g R) λ_ _=>by cases s<;>first|rfl|exact ff l
  |_=>exact ff d
 .obtain⟨v,s,p,rfl,c⟩:=cH k;rfl
theorem ni{f:NameKind->NameKind}:∀(l:List (Str×NameKind))(y:Str),(l.map λp=>(p.1,f p.2)).lookup y=(l.lookup y).map f
 |[],_=>rfl
 |(n,k)::r,y=>by
  rw[Ha,DV,DV];by_cases e:(y==n)=true
  .rw[e];rfl
  .rw[SU]at e;rw[e];exact ni r y
theorem qP{sc a b:Scope}{N c xs:List Str}(h:∀x,a.names.lookup x=b.names.lookup x):cS sc a N c xs=cS sc b N c xs:=by unfold cS;simp only[h]
theorem Fv{S:SE}{X:Cx}(a:XOk S Φ Ψ G X){scope:Scope}{xs:List Str}(e:cS scope X.env.scope X.N (mask xs S.N) xs=true)(g:(xs++mask xs S.N).Nodup){b:List (Addr×Obj)}{c:St}{H:Hp}{s:Shared}(I:Inv X b c H s)(C:Addr)(d:Shared)(i:Hp)(h:List Addr):
 XOk (S.comp scope xs) Φ Ψ G (aM X scope C xs (mask xs S.N) d i h):=by
 refine⟨rfl,g,a.calm,a.un,λx=>?_,a.fns,a.pM,a.B5,a.Fj,a.vn,a.kit⟩;show(relabel scope X.env).names.lookup x=_;rw[fF I (eY.of e)];show _=(scope.names.map λp=>(p.1,if p.2=.free then NameKind.cell else p.2)).lookup x;rw[ni (f:=λk=>if k=.free then NameKind.cell else k)]
noncomputable def fu(X:Cx)(i:Nat)(x:Str):Prop:=X.N[i]?=some x/\Loc X.env.scope x/\(X.fn x=true\/X.env.scope.names.lookup x=some .local)
noncomputable def cX(X:Cx):List Nat->List Str->Prop
 |[],xs=>xs=[]
 |i::a,xs=>∃x r,xs=x::r/\fu X i x/\cX X a r
theorem Il{X:Cx}(a:X.N.Nodup){i:Nat}{x:Str}{p:Pos}(h:fu X i x):PG X (.Name x p) (fD i):=Dw a h.1 h.2.1 h.2.2
theorem B8{X:Cx}(c:X.N.Nodup):∀(es:List Expr)(xs:List Str)(a:List Nat),BZ es=some xs->cX X a xs->NT X es (Pk a)/\(assignEach es X.env).length=a.length/\(assignEach es X.env).findIdx? (·.1)=none
 |[],xs,a,h,k=>by
  cases h;cases a with
  |nil=>exact⟨Dy,rfl,rfl⟩
  |cons i b=>obtain⟨x,r,e,_⟩:=k;cases e
 |e::es,xs,a,h,k=>by
  cases e with
  |Name x p=>
   obtain⟨l,j,rfl⟩:=Kk.mp h;cases a with
   |nil=>cases k
   |cons i b=>obtain⟨o,r,e,n,m⟩:=k;cases e;obtain⟨g,f,d⟩:=B8 c es l b j m;have e:assignEach (.Name x p::es) X.env=(false,assign (.Name x p) X.env)::assignEach es X.env:=rfl;refine⟨Ao (Il c n) g rfl,by rw[e,AI,f,AI],?_⟩;rw[e,List.findIdx?_cons,d];rfl
  |_=>exact nn h
theorem LR{X:Cx}(q:X.calm=true)(c:X.N.Nodup){tg:Expr}{b:Bool}{xs:List Str}{a:List Nat}(h:P1 tg=some (b,xs))(k:cX X a xs):PG X tg (gT X.K b a):=by
 cases tg with
 |Name x p=>
  cases h
  match a,k with
  |[i],k=>obtain⟨g,r,e,f,d⟩:=k;cases e;exact Il c f
  |[],k=>cases k
  |_::_::_,k=>obtain⟨g,r,e,f,d⟩:=k;cases e;obtain⟨u,v,t,_⟩:=d;cases t
 |Tuple s w p=>
  dsimp only[P1]at h;obtain⟨l,o,e⟩:=Kk.mp h;cases e;obtain⟨n,m,j⟩:=B8 c s xs a o k;have:gT X.K false a=Jf X.K a.length (Pk a):=by cases a<;>rfl
  rw[this];exact Jg q n m j
 |_=>exact nn h
theorem kQ{X:Cx}:∀(xs:List Str)(n:Nat),(∀k x,xs[k]?=some x->fu X (n+k) x)->cX X ((Ea xs.length).map (n+·)) xs
 |[],n,_=>rfl
 |x::xs,n,h=>by
  rw[AI,Ra,Ha];refine⟨x,xs,rfl,h 0 x rfl,?_⟩;have:=kQ xs (n+1) λk y a=>by have:=h (k+1) y (by simpa using a);rw[show n+1+k=n+(k+1) by lia];exact this
  rw[NK];have e:(Ea xs.length).map (n+1+·)=(Ea xs.length).map ((n+·)∘Vx):=SI λk _=>by show n+1+k=n+(k+1);lia
  rw[<-e];exact this
theorem tQ{a:Expr}(h:qM a=true)(env:Env)(x:Value):foldedSetIterable a env x=pure x:=by
 cases a<;>first|rfl|exact ff h
theorem xh{e:List Nat}{b:Bool}{n:Nat}{i c x:CE}{R:Addr->Prop}:wE Φ G R (.comp e b n i c x)=λd Q=>wE Φ G R i d λz=>items z λg=>lA (λw K=>wT b e w (A0 n none++d) λa=>wE Φ G (λ_=>False) c a λf=>truth f λk=>if k=true then wE Φ G (λ_=>False) x a λy=>K (some y)else K none) g [] λl=>Q (.lst l):=rfl
theorem yX{S:SE}{X:Cx}(A:XOk S Φ Ψ G X){q:List Nat}{d:Bool}{n:Nat}{en:Bool}{J:Expr->Bool}{L:SE->List Expr->Bool}{F:SE->Expr->Bool}{l tg a:Expr}{i:List Expr}{scope:Scope}(f:m7 S q d n en J L F l tg a i scope=true):
 ∃xs,n=xs.length/\(∀j∈q,j<xs.length)/\cS scope X.env.scope X.N (mask xs S.N) xs=true/\(∀z,foldedSetIterable a X.env z=pure z)/\(en=true->∃es k p,tg=Expr.Tuple es k p)/\J a=true/\L (S.comp scope xs) i=true/\F (S.comp scope xs) l=true/\
  ∀c s B H,Inv X c B H s->∀C e h g,PG (aM X scope C xs (mask xs S.N) e h g) tg (gT X.K d q)/\XOk (S.comp scope xs) Φ Ψ G (aM X scope C xs (mask xs S.N) e h g):=by
 unfold m7 at f;split at f;rotate_left
 .cases f
 rename_i o xs LS
 simp only[AC]at f;obtain⟨⟨⟨⟨⟨⟨⟨⟨⟨u,t⟩,r⟩,T⟩,R⟩,Q⟩,E⟩,P⟩,M⟩,Z⟩:=f;have u:=IH.mp u;have t:=IH.mp t;have r:=IH.mp r;subst u t r;have x:=Ap R;have w:cS scope X.env.scope X.N (mask xs S.N) xs=true:=by rw[A.hN,qP (b:=S.sc) λy=>A.nk y];exact T
 have O:=eY.of w;refine⟨xs,rfl,λj Y=>SF.mp Y,w,tQ Q _,λz=>?_,P,M,Z,λc s B H I C e h g=>?_⟩
 .have:d=false:=by rw[z]at E;simpa using E
  subst this;cases tg with
  |Tuple es f p=>exact⟨_,_,_,rfl⟩
  |Name y p=>cases LS
  |_=>exact nn LS
 .have m:=Fv A w x I C e h g;refine⟨LR m.calm m.nd LS ?_,m⟩;have:=kQ (X:=aM X scope C xs (mask xs S.N) e h g) xs 0 λk y v=>?_
  .simpa using this
  .have U:y∈xs:=KE v;have D:(aM X scope C xs (mask xs S.N) e h g).env.scope.names.lookup y=some .local:=by show(relabel scope X.env).names.lookup y=_;rw[fF I O,(O.own y U).1];rfl
   refine⟨?_,.inl D,.inr D⟩;show(xs++mask xs S.N)[0+k]?=some y;rw[VI,P2 (GE.mp v).1];exact v
theorem nj{L:List Nat}{D:Bool}{n:Nat}{i c x:CE}(hi:bW Φ Ψ G i)(hc:bW Φ Ψ G c)(hx:bW Φ Ψ G x){S:SE}{X:Cx}(Z:XOk S Φ Ψ G X){ex:Expr}(k:aG S false (.comp L D n i c x) ex=true)(R:Addr->Prop):
 ∃y tg a u scope p xs,ex=.ListComp y [⟨tg,a,u,0⟩] scope p/\n=xs.length/\(∀j∈L,j<xs.length)/\cS scope X.env.scope X.N (mask xs S.N) xs=true/\(∀z,foldedSetIterable a X.env z=pure z)/\PI X tg a (EB X S.M R true (wE Φ G R i))/\
  ∀d s B H,Inv X d B H s->(∀C m g o,PG (aM X scope C xs (mask xs S.N) m g o) tg (gT X.K D L))/\(∀C m g o,PF (aM X scope C xs (mask xs S.N) m g o) u (Sm X.K (up S.M xs.length) (wE Φ G (λ_=>False) c)))/\
   ∀C m g o,(XOk (S.comp scope xs) Φ Ψ G (aM X scope C xs (mask xs S.N) m g o)/\aG (S.comp scope xs) false x y=true)/\PE (aM X scope C xs (mask xs S.N) m g o) y (Sl X.K (up S.M xs.length) (wE Φ G (λ_=>False) x)):=by
 obtain⟨y,tg,a,u,scope,p,rfl,kk⟩:=pW k;obtain⟨xs,rfl,T,ho,U,Y,k8,l,Ft,O⟩:=yX Z kk;refine⟨y,tg,a,u,scope,p,xs,rfl,rfl,T,ho,U,hi.i Z tg true a (by rw[QW];exact k8) Y R,λd s B H I=>⟨λC m g o=>(O d s B H I C m g o).1,λC m g o=>?_,λC m g o=>?_⟩⟩
 .have F:=(O d s B H I C m g o).2
  match u,l with
  |[],l=>
   have l:Ii c=true:=l;cases c with
   |bl b=>have:b=true:=l;subst this;refine PF.imp JJ ?_;rintro B H Q ⟨A,g,E,P,J,h,k⟩;obtain⟨b,e,q⟩:=k _ H h (au.refl H);cases e;exact q
   |_=>exact ff l
  |[f],l=>have l:(aG (S.comp scope xs) false c f&&zS c)=true:=l;rw[AC]at l;exact PF.imp (JK (hc.t F f l.1 l.2 λ_=>False))<|by rintro B H Q ⟨A,g,E,P,J,h,k⟩;exact⟨A,g,E,P,J,.none,h,k⟩
  |_::_::_,l=>exact ff l
 .have F:=(O d s B H I C m g o).2;refine⟨⟨F,Ft⟩,?_⟩;exact PE.imp (hx.s F Ft λ_=>False)<|by rintro B H Q ⟨A,g,E,P,J,h,k⟩;exact⟨A,g,E,P,J,.none,h,λw v H' pw s r=>k w v H' pw s r.aO⟩
theorem Fw(q:List Nat)(f:Bool)(n:Nat){i c x:CE}(D:bW Φ Ψ G i)(E:bW Φ Ψ G c)(y:bW Φ Ψ G x):bW Φ Ψ G (.comp q f n i c x):=by
 refine .mk1 (λ{S X} o ex k R=>?_) (λ{S ex} J k e=>?_) (λS ex k=>by exact k) (λ_ _=>rfl)
 .obtain⟨l,r,d,g,b,p,M,rfl,rfl,h,B,j,K,A⟩:=nj D E y o k R;rw[iy rfl];rw[xh];intro a s m H Q I z;obtain⟨w,v,u⟩:=A a s m H I;exact EG o.calm B h K w v (λC t L F=>(u C t L F).2) j a s m H Q I z
 .obtain⟨l,r,d,g,b,p,rfl,N⟩:=pW k;rfl
theorem LU:oH Φ Ψ G []:=by
 have en:∀{S:SE}{a:List Expr},fq S [] a=true->a=[]:=λ{S a} h=>by exact GT.mp h
 have e:∀{S:SE}{a:List Expr},kP S [] a=true->a=[]:=λ{S a} h=>by exact GT.mp h
 refine⟨λd a k R=>?_,λd a k R=>?_,λd a b c k R=>absurd (en k) c,λd a b c k R=>absurd (en k) c,λd a b c k _ R=>absurd (en k) c,λd a b c k _ R=>absurd (en k) c⟩
 .rw[en k];exact Ks
 .rw[e k];exact Ew
theorem Fx{a:CE}{m:List CE}(l:bW Φ Ψ G a)(o:oH Φ Ψ G m):oH Φ Ψ G (a::m):=by
 have p:∀{S:SE}{j:List Expr},fq S (a::m) j=true->∃e r,j=e::r/\aG S false a e=true/\fq S m r=true:=λ{S j} h=>by
  cases j with
  |nil=>exact ff h
  |cons e r=>have h:=Iy.mp h;exact⟨e,r,rfl,h.1,h.2⟩
 have w:∀R,wA Φ G R (a::m)=λv Q=>wE Φ G R a v λx=>wA Φ G R m v λy=>Q (x::y):=λR=>rfl;refine⟨λc j k R=>?_,λ{S X} c j k R=>?_,λ{S X} c j f q k R=>?_,λ{S X} c j f q k R=>?_,λ{S X} c j f q k i R=>?_,λ{S X} c j f q k i R=>?_⟩
 .obtain⟨e,r,rfl,g,d⟩:=p k;rw[w];exact Eu (aD (aQ (.inl g)) _ _) (l.s c g R) (o.a c r d R)
 .cases j with
  |nil=>exact ff k
  |cons e r=>have k:=Iy.mp k;rw[w];exact Bq (aD (aQ (eK k.1)) _ _) (l.b c k.1 R) (o.b c r k.2 R)
 .obtain⟨e,r,rfl,g,d⟩:=p k;cases m with
  |nil=>
   have:r=[]:=by exact GT.mp d
   subst this;exact Al (l.s c g R)
  |cons b u=>
   cases r with
   |nil=>exact ff d
   |cons n r=>exact Ko (l.s c g R) (o.av c (n::r) f (by simp) d R)
 .obtain⟨e,r,rfl,g,d⟩:=p k;cases m with
  |nil=>
   have:r=[]:=by exact GT.mp d
   subst this;exact Al (l.s c g R)
  |cons b u=>
   cases r with
   |nil=>exact ff d
   |cons n r=>exact Pb (l.s c g R) (o.ov c (n::r) f (by simp) d R)
 .obtain⟨e,r,rfl,g,d⟩:=p k;have i:=a2 i;cases m with
  |nil=>
   have:r=[]:=by exact GT.mp d
   subst this;exact Et (l.t c e g i.1 R)
  |cons b u=>
   cases r with
   |nil=>exact ff d
   |cons n r=>exact Kq (l.t c e g i.1 R) (o.at c (n::r) f (by simp) d i.2 R)
 .obtain⟨e,r,rfl,g,d⟩:=p k;have i:=a2 i;cases m with
  |nil=>
   have:r=[]:=by exact GT.mp d
   subst this;exact Kp (l.t c e g i.1 R)
  |cons b u=>
   cases r with
   |nil=>exact ff d
   |cons n r=>exact Pc (l.t c e g i.1 R) (o.ot c (n::r) f (by simp) d i.2 R)
variable(Φ Ψ G)
mutual
theorem snd:∀c:CE,bW Φ Ψ G c
 |.var i=>Lq i
 |.int i=>Ls i
 |.bl b=>P8 b
 |.str x=>Lu x
 |.aI=>Lv
 |.Bg n=>Lw n
 |.glob g=>Fo g
 |.bin op a b=>Lx op (snd a) (snd b)
 |.neg a=>Ly (snd a)
 |.not a=>Lz (snd a)
 |.cmp op a b=>LA op (snd a) (snd b)
 |.and d=>LB (lC d).1
 |.or d=>Qa (lC d).1
 |.tup d=>LC (lC d).1
 |.lst d=>LD (lC d).1
 |.ix a i=>Qc (snd a) (snd i)
 |.sl a e h=>Qd (snd a) (snd e) (snd h)
 |.call f d=>Fq f (lC d).1
 |.blt b d=>LF b (lC d).1 (lC d).2
 |.comp j one n i c x=>Fw j one n (snd i) (snd c) (snd x)
 |.p9 d=>LJ (lC d).2
 |.own i π=>Lr i π
 |.wk m a=>LH m (snd a)
 |.i9 i g f d=>LI i g f d
 |.slt a e h=>LK (snd a) (snd e) (snd h)
 |.M9 a b c=>LL (snd a) (snd b) (snd c)
 |.JW a n x=>LM n x (snd a)
 |.pM g f a=>LN g f (snd a)
 |.JX i=>LO i
 |.JY a=>LP (snd a)
 |.Na l vs k=>LQ l vs (snd k)
theorem lC:∀cs:List CE,oH Φ Ψ G cs/\∀c∈cs,bW Φ Ψ G c
 |[]=>⟨LU,by simp⟩
 |c::cs=>⟨Fx (snd c) (lC cs).1,λd hd=>by
  rcases FC.mp hd with e|h
  .rw[e];exact snd c
  .exact(lC cs).2 d h⟩
end
end
noncomputable def LV(S:SE)(i:Nat)(x:Str):Bool:=S.N[i]?==some x&&(S.nk.lookup x==some .local||S.nk.lookup x==some .cell)
noncomputable def yY(S:SE):List Nat->List Str->Bool
 |[],xs=>xs.isEmpty
 |i::a,xs=>match xs with
  |x::r=>LV S i x&&yY S a r
  |[]=>false
noncomputable def Fy(S:SE)(a:List Nat):Bool:=a.all λi=>!tF S.M i
noncomputable def SE.less(S:SE)(i:Nat):SE:={S with M:=S.M.filter (·.1 !=i)}
noncomputable def SE.bare(S:SE):SE:={S with M:=[]}
noncomputable def B9:Expr->Bool
 |.Tuple _ _ _=>false
 |_=>true
noncomputable def Ca:Expr->Bool
 |.ListComp _ _ _ _=>false
 |_=>true
noncomputable def Nh(S:SE)(b vs:List Expr):Option (Option (List Str)):=
 if !(b.length==2||b.length==3)||vs.length !=b.length then some none
 else if vs.any λ|.Starred ..=>true|_=>false then some none
 else
  let line:=(b.head?.map (·.pos.line)).getD 0
  let a:=b.filterMap λ
   |.Name c pos=>if S.nk.lookup c==some .local&&pos.line==line then some c else none
   |_=>none
  if a.length !=b.length||a.eraseDups.length !=a.length then some none
  else if vs.all (foldedForSure 8)then some none
  else if vs.all (constantsAlone 8)then none
  else some (some a)
noncomputable def yZ(f:List Expr->Expr->Bool):Stmt->Bool
 |.Assign a v _=>f a v
 |_=>false
noncomputable def US(f:Expr->List Stmt->List Stmt->Bool):Stmt->Bool
 |.While c a b _=>f c a b
 |_=>false
noncomputable def UT(f:Expr->Expr->List Stmt->List Stmt->Bool):Stmt->Bool
 |.For t i a b _=>f t i a b
 |_=>false
noncomputable def FA(f:Expr->Bool):Stmt->Bool
 |.Expr v _=>f v
 |_=>false
noncomputable def xj(f:Str->Pos->Expr->Bool):Stmt->Bool:=yZ λa v=>o1 (SN λx p=>f x p v) a
noncomputable def Im(f:List Expr->Expr->Bool):Stmt->Bool:=yZ λa v=>o1 (vh λb=>f b v) a
noncomputable def Io(f:List Expr->List Expr->Bool):Stmt->Bool:=yZ λb v=>o1 (vh λc=>vh (λa=>f c a) v) b
noncomputable def Ip(f:Expr->Expr->Expr->Bool):Stmt->Bool:=yZ λa v=>o1 (vj λo k=>f o k v) a
noncomputable def Cb(f:Expr->Str->Pos->Pos->Expr->Bool):Stmt->Bool:=FA (pV λg b k c=>k&&o1 (λv=>qL (λo m a=>f o m a c v) g) b)
noncomputable def LW(n:Bool)(f:Expr->Bool):Stmt->Bool
 |.Return (some v) _=>f v
 |.Return none _=>n
 |_=>false
noncomputable def FD(f:Expr->List Stmt->List Stmt->Bool):Stmt->Bool
 |.If c a b _=>f c a b
 |_=>false
noncomputable def LX(f:Expr->List Stmt->Bool):Stmt->Bool:=US λc a b=>b.isEmpty&&f c a
noncomputable def Qf(f:Expr->Expr->List Stmt->Bool):Stmt->Bool:=UT λt i a b=>b.isEmpty&&f t i a
noncomputable def SX:Stmt->Bool
 |.Break _=>true
 |_=>false
noncomputable def Cc:Expr->Bool
 |.Dict [] [] _=>true
 |_=>false
theorem vq{e:Expr}(h:Cc e=true):∃p,e=.Dict [] [] p:=by
 cases e with
 |Dict a b p=>
  cases a with
  |nil=>
   cases b with
   |nil=>exact⟨p,rfl⟩
   |cons _ _=>exact ff h
  |cons _ _=>exact ff h
 |_=>exact ff h
noncomputable def Cd(f:Stmt->Bool)(g:List Stmt->Bool):List Stmt->Bool
 |e::es=>f e&&g es
 |[]=>false
mutual
noncomputable def Ni:Md->Md->Bool
 |.s,m=>Ff m
 |.f,m=>Lm m
 |.t a,m=>match m with
  |.t b=>FF a b
  |_=>false
 |.o e a,m=>match m with
  |.o c b=>decide (e=c)&&FF a b
  |_=>false
 |.io a,m=>match m with
  |.io b=>Ni a b
  |_=>false
 |.ls a,m=>match m with
  |.ls b=>Ni a b
  |_=>false
 |.d,m=>PX m
noncomputable def FF:List Md->List Md->Bool
 |[],l=>l.isEmpty
 |a::d,l=>match l with
  |b::c=>Ni a b&&FF d c
  |[]=>false
end
mutual
theorem kq:∀{a b:Md},Ni a b=true->a=b
 |.s,m,h=>by cases m<;>first|rfl|exact ff h
 |.f,m,h=>by cases m<;>first|rfl|exact ff h
 |.t a,m,h=>by
  cases m with
  |t b=>exact Kt _ (qQ h)
  |_=>exact ff h
 |.o e a,m,h=>by
  cases m with
  |o c b=>have h:=Iy.mp h;rw[Ap h.1,qQ h.2]
  |_=>exact ff h
 |.io a,m,h=>by
  cases m with
  |io b=>exact Kt _ (kq h)
  |_=>exact ff h
 |.ls a,m,h=>by
  cases m with
  |ls b=>exact Kt _ (kq h)
  |_=>exact ff h
 |.d,m,h=>by cases m<;>first|rfl|exact ff h
theorem qQ:∀{a b:List Md},FF a b=true->a=b
 |[],l,h=>by
  cases l with
  |nil=>rfl
  |cons b c=>exact ff h
 |a::d,l,h=>by
  cases l with
  |nil=>exact ff h
  |cons b c=>have h:=Iy.mp h;rw[kq h.1,qQ h.2]
end
noncomputable def hasB(M:Ms)(i:Nat)(m:Md):Bool:=match M.lookup i with
 |some k=>Ni k m
 |none=>false
theorem gW{M:Ms}{i:Nat}{m:Md}(h:hasB M i m=true):(i,m)∈M:=by
 unfold hasB at h;cases e:M.lookup i with
 |none=>rw[e]at h;exact ff h
 |some k=>rw[e]at h;rw[<-kq h];exact dI e
noncomputable def Iq(f:Expr->Str->List Expr->Bool):Expr->Bool:=pV λg b k c=>k&&qL (λo m a=>(a.endLine==c.line)&&decide (b.length<30)&&f o m b) g
mutual
noncomputable def fJ(S:SE):CE->Expr->Bool
 |.i9 i g f d,e=>Iq (λo x es=>S.fn[f]?==some x&&S.mt.any (λy=>y.1==f&&y.2==g)&&(match gu S.md f with
  |.io (.o h j)=>hasB S.M i (.o h j)&&!h.contains x
  |_=>false)&&iu S i o&&kR S d es) e
 |.bin op a b,e=>BU (λo l r=>decide (op=o)&&fJ S a l&&fJ S b r) e
 |.cmp op a b,e=>BV (λo l r=>decide (op=o)&&!decide (op=.In)&&!decide (op=.NotIn)&&fJ S a l&&fJ S b r) e
 |.call f d,e=>jw (λx es=>S.fn[f]?==some x&&lB S x&&!es.isEmpty&&!dw (gu S.md f)&&!S.mt.any (·.1==f)&&kR S d es) e
 |.blt b d,e=>jw (λx es=>decide (x=Q7 b)&&lB S x&&S.zn.contains x&&UR b es.length&&!decide (b=.zO)&&!es.isEmpty&&kR S d es) e
 |.ix a b,e=>vj (λv s=>tM s&&fJ S a v&&fJ S b s) e
 |.lst d,e=>Lo (λes=>kR S d es) e
 |.tup d,e=>vh (λes=>kR S d es) e
 |.and _,_=>false
 |.or _,_=>false
 |c,e=>aG S false c e
noncomputable def kR(S:SE):List CE->List Expr->Bool
 |[],es=>es.isEmpty
 |a::b,es=>wZ (λe=>fJ S a e) (λes=>kR S b es) es
end
noncomputable def kT(S:SE):CE->Expr->Bool
 |.cmp op a b,e=>fJ S (.cmp op a b) e
 |.i9 i g f d,e=>fJ S (.i9 i g f d) e
 |.call f d,e=>fJ S (.call f d) e
 |.bin _ _ _,_=>false
 |.blt _ _,_=>false
 |.ix _ _,_=>false
 |.lst _,_=>false
 |.tup _,_=>false
 |.and _,_=>false
 |.or _,_=>false
 |c,e=>aG S false c e&&zS c
noncomputable def jy(S:SE):List CE->List Expr->Bool
 |[],_=>false
 |a::d,es=>match d with
  |[]=>B4 (λe=>kT S a e) es
  |b::c=>wZ (λe=>kT S a e) (λes=>jy S (b::c) es) es
noncomputable def xm(S:SE):CE->Expr->Bool
 |.and a,e=>Ln (λo es=>decide (o=.And)&&jy S a es) e
 |.or a,e=>Ln (λo es=>decide (o=.Or)&&jy S a es) e
 |c,e=>kT S c e
noncomputable def UU:Md->Bool
 |.s=>true
 |_=>false
noncomputable def SY(a:Nat->Md):CE->Md
 |.tup b=>.t (b.map (mo a))
 |.call f _=>a f
 |c=>mo a c
noncomputable def isVar:CE->Option Nat
 |.var i=>some i
 |_=>none
noncomputable def Qg(S:SE)(m:Md)(e:CE)(v:Expr):Bool:=match isVar e with
 |some i=>hasB S.M i m&&iu S i v
 |none=>false
noncomputable def Qh(S:SE)(a:Nat->Md)(m:Md)(e:CE)(v:Expr):Bool:=
 !dw m&&((UU m&&(aG S.bare false e v||aG S false e v))||(Ni (SY a e) m&&(aG S.bare false e v||aG S false e v))||Qg S m e v)
noncomputable def LY(S:SE)(m:Md):Bool:=match m with
 |.io k=>hasB S.M 0 k
 |_=>false
noncomputable def Ir(f:Expr->Str->Pos->Pos->Bool):Stmt->Bool:=FA (vm f)
noncomputable def Iu(f:Expr->Str->Expr->Bool):Stmt->Bool:=yZ λa v=>o1 (qL λo x _=>f o x v) a
noncomputable def isCall:CE->Bool
 |.call _ _=>true
 |_=>false
noncomputable def LZ(S:SE)(i n:Nat)(x:Str):Bool:=match S.M.lookup i with
 |some (.o b a)=>b[n]?==some x&&(match a[n]? with
  |some k=>Ff k
  |none=>false)
 |_=>false
noncomputable def UW(S:SE)(c:List Nat)(a h:Bool)(f:Expr->Bool)(g:List Stmt->Bool)(tg d:Expr)(b:List Stmt):Bool:=
 match P1 tg with
 |some (o,e)=>(a==o)&&yY S c e&&Fy S c&&qM d&&(!h||!a)&&f d&&g b
 |none=>false
noncomputable def vt:Expr->Bool
 |.SetComp _ _ _ _=>false
 |.DictComp _ _ _ _ _=>false
 |_=>true
noncomputable def UX(M:Ms)(i n:Nat):Option Str:=match M.lookup i with
 |some (.o a _)=>a[n]?
 |_=>none
noncomputable def Qi(M:Ms)(i n:Nat):Bool:=match M.lookup i with
 |some (.o _ a)=>(match a[n]? with
  |some .f=>true
  |_=>false)
 |_=>false
noncomputable def FG:Expr->Bool
 |.Starred _ _=>false
 |_=>true
mutual
noncomputable def FH(S:SE)(d:Nat->Md)(m:Md):CS->Stmt->Bool
 |.set i e,st=>xj (λx _ v=>LV S i x&&(if tF S.M i=true then(!dw m||!(i==0))&&((BS S.M i&&kg d e)||(isCall e&&hasB S.M i (SY d e)))&&aG (S.less i) false e v else aG S false e v)) st
 |.OP l e,st=>Im (λes v=>(match BZ es with|some xs=>yY S l xs|none=>false)&&Fy S l&&aG S false e v&&(B9 v||vh (λvs=>decide (Nh S es vs=some none)) v)) st
 |.par l es,st=>Io (λtg vs=>(match BZ tg with|some xs=>yY S l xs&&decide (Nh S tg vs=some (some xs))&&decide xs.Nodup&&xs.all (λx=>S.nk.lookup x==some .local)|none=>false)&&Fy S l&&fq S es vs) st
 |.app i e,st=>Cb (λo f h g v=>decide (f=("append":Str))&&(h.endLine==g.line)&&BS S.M i&&iu S i o&&aG S false e v) st
 |.qy j e,st=>xj (λx _ v=>LV S j x&&!tF S.M j&&Ca v&&vt v&&fJ S e v) st
 |.ret e,st=>LW (gi e&&UU m) (λv=>Qh S d m e v) st
 |.iff c a b,st=>FD (λt x y=>aG S false c t&&zS c&&cA S d m a x&&cA S d m b y) st
 |.Nb c b,st=>LX (λt x=>aG S false c t&&zS c&&cA S d m b x) st
 |.fr l one p b,st=>Qf (λtg i x=>UW S l one (B0 p) (λi=>aG S true p i) (λx=>cA S d m b x) tg i x) st
 |.brk,st=>SX st
 |.HR i π e,st=>Cb (λo f h g v=>decide (f=("append":Str))&&(h.endLine==g.line)&&iE S Lm i π o&&aG S false e v) st
 |.Bh i n e,st=>Iu (λo x v=>LZ S i n x&&iu S i o&&aG S false e v) st
 |.HS e,st=>LW (gi e&&LY S m) (λv=>LY S m&&aG S false e v) st
 |.zP e,st=>FA (λv=>Ca v&&vt v&&fJ S e v) st
 |.Nc c a b,st=>FD (λt x y=>xm S c t&&cA S d m a x&&cA S d m b y) st
 |.OQ c b,st=>LX (λt x=>xm S c t&&cA S d m b x) st
 |.yK,_=>true
 |.OR i,st=>xj (λx _ v=>LV S i x&&(!dw m||!(i==0))&&yV S.M i&&Cc v) st
 |.OV i k e,st=>Ip (λo j v=>yV S.M i&&iu S i o&&tM j&&aG S false k j&&aG S false e v) st
 |.M6 i π e,st=>Cb (λo f h g v=>decide (f=("extend":Str))&&(h.endLine==g.line)&&iE S Lm i π o&&kg d e&&aG S false e v) st
 |.OU c a b,st=>FD (λt x y=>Q6 (λo z=>decide (o=.Not)&&xm S c z) t&&cA S d m a x&&cA S d m b y) st
 |.OS i,st=>Ir (λo f h g=>decide (f=("reverse":Str))&&(h.endLine==g.line)&&BS S.M i&&iu S i o) st
 |.OT i n e,st=>Cb (λo f h g v=>decide (f=("append":Str))&&(h.endLine==g.line)&&Qi S.M i n&&qL (λa x _=>decide (UX S.M i n=some x)&&iu S i a) o&&FG v&&fJ {S with M:=Dh S.M i n} e v) st
 |.JZ _ _,_=>false
noncomputable def cA(S:SE)(c:Nat->Md)(m:Md):List CS->List Stmt->Bool
 |[],es=>es.isEmpty
 |a::f,es=>match a with
  |.JZ d b=>f.isEmpty&&(!dw m||!d.contains 0)&&cA (S.lend d) c m b es
  |a=>Cd (λe=>FH S c m a e) (λes=>cA S c m f es) es
end
structure vv(S:SE)(Φ:Nat->aW)(Ψ:Nat->Md)(G:Nat->W)(X:Cx):Prop extends XOk S Φ Ψ G X where
 bk:X.env.blockKind=.function
 Nj:∀x,X.fn x=true
 L3:∀j x C,S.gn[j]?=some x->G j=.cls C->RY X.K C
 FI:∀i m m',(i,m)∈S.M->(i,m')∈S.M->m=m'
section
variable{S:SE}{Φ:Nat->aW}{Ψ:Nat->Md}{G:Nat->W}{X:Cx}
theorem vv.kI(h:vv S Φ Ψ G X):vv S Φ Ψ G X.kI:={toXOk:=h.toXOk.kI,bk:=h.bk,Nj:=h.Nj,L3:=h.L3,FI:=h.FI}
theorem XOk.L4(h:XOk S Φ Ψ G X)(M:Ms):XOk {S with M:=M} Φ Ψ G X:=⟨h.hN,h.nd,h.calm,h.un,h.nk,h.fns,h.pM,h.B5,h.Fj,h.vn,h.kit⟩
theorem nq(h:vv S Φ Ψ G X){i:Nat}{x:Str}(k:LV S i x=true):fu X i x:=by unfold LV at k;simp only[AC,X4,IH]at k;refine⟨by rw[h.hN];exact k.1,?_,.inl (h.Nj x)⟩;unfold L2.Loc;rw[h.nk];exact k.2
theorem lW(h:vv S Φ Ψ G X):∀{a:List Nat}{xs:List Str},yY S a xs=true->cX X a xs
 |[],xs,k=>GT.mp k
 |i::b,[],k=>by cases k
 |i::b,x::r,k=>by rw[yY,AC]at k;exact⟨x,r,rfl,nq h k.1,lW h k.2⟩
theorem qR{a:List Nat}(h:Fy S a=true):∀i∈a,¬aJ S.M i:=λi b=>jv (by simpa using Hb.mp h i b)
theorem tR{i:Nat}{m:Md}(f:(i,m)∈S.M)(d:∀c,(i,c)∈S.M->c=m){x:Nat×Md}:x∈S.M↔x=(i,m)\/x∈(S.less i).M:=by
 show _↔_\/x∈S.M.filter (·.1 !=i);rw[RF,bne_iff_ne];obtain⟨a,b⟩:=x;constructor
 .intro h;by_cases e:a=i
  .subst e;rw[d b h];exact .inl rfl
  .exact .inr ⟨h,e⟩
 .rintro(e|h)
  .cases e;exact f
  .exact h.1
theorem tS{i:Nat}:¬aJ (S.less i).M i:=by rintro⟨m,h⟩;have h:(i,m)∈S.M.filter (·.1 !=i):=h;rw[RF,bne_iff_ne]at h;exact h.2 rfl
noncomputable def xo:Expr->Bool
 |.SetComp _ _ _ _=>false
 |.DictComp _ _ _ _ _=>false
 |_=>true
theorem L5{d:Bool}{c:CE}{e:Expr}(h:aG S d c e=true):xo e=true:=by
 cases e with
 |SetComp _ _ _ _=>
  cases c with
  |own i b=>rcases(cz h).2 with⟨_,_,_,e⟩|⟨_,_,_,_,_,e⟩<;>cases e
  |wk f a=>exact ff h
  |_=>exact ff h
 |DictComp _ _ _ _ _=>
  cases c with
  |own i b=>rcases(cz h).2 with⟨_,_,_,e⟩|⟨_,_,_,_,_,e⟩<;>cases e
  |wk f a=>exact ff h
  |_=>exact ff h
 |_=>rfl
noncomputable def S0(S:SE)(x:Str)(p:Pos):Expr->Bool
 |.ListComp _ _ scope q=>(S.nk.lookup x==some .local)&&(p.line==q.line)&&!(scope.names.any λ(n,k)=>n==x&&(k==.local||k==.cell))
 |_=>false
theorem Qj(h:vv S Φ Ψ G X){e:Expr}(he:xo e=true)(x:Str)(p:Pos)(l:Nat):swapsWith e (some (.Name x p)) l X.env=pure (S0 S x p e):=by
 cases e with
 |ListComp a b scope q=>show(pure _:Sem Bool)=pure _;rw[h.bk];show(pure (true&&(X.env.scope.names.lookup x==some .local)&&(p.line==q.line)&&_):Sem Bool)=_;rw[h.nk,QW];rfl
 |SetComp _ _ _ _=>exact ff he
 |DictComp _ _ _ _ _=>exact ff he
 |_=>rfl
theorem FJ{e:Expr}{es:List Expr}{k:Nat}{p:Pos}(l:Nat)(env:Env):swapsWithSole [.Tuple es k p] e l env=pure false:=by
 cases e<;>rfl
theorem Ce{e o i:Expr}{p:Pos}(l:Nat)(env:Env):swapsWithSole [.Subscript o i p] e l env=pure false:=by
 cases e<;>rfl
theorem FL{e:Expr}(he:B9 e=true)(es:List Expr)(k:Nat)(p:Pos)(env:Env):swappedStores [.Tuple es k p] e env=pure none:=by
 cases e<;>first|rfl|exact ff he
theorem Cf{e o i:Expr}{p:Pos}(env:Env):swappedStores [.Subscript o i p] e env=pure none:=by
 cases e<;>rfl
theorem Cg(h:vv S Φ Ψ G X){a vs:List Expr}{k k2:Nat}{p p2:Pos}{o:Option (List Str)}(e:Nh S a vs=some o):swappedStores [.Tuple a k p] (.Tuple vs k2 p2) X.env=pure o:=by
 delta swappedStores
 unfold Nh at e;have b:∀x,X.env.kindOf x=S.nk.lookup x:=λx=>h.nk x;simp only[b,h.bk,bne_self_eq_false,QQ];dsimp only at e;split at e
 .rename_i c
  cases e;exact FM c
 rename_i c1
 refine(Da c1).trans ?_;split at e
 .rename_i c
  cases e;exact FM c
 rename_i c2
 refine(Da c2).trans ?_;split at e
 .rename_i c
  cases e;exact FM c
 rename_i c3
 refine(Da c3).trans ?_;split at e
 .rename_i c
  cases e;exact FM c
 rename_i c4
 refine(Da c4).trans ?_;split at e
 .cases e
 rename_i c5
 cases e;exact Da c5
end
theorem gF{f:List Expr->Expr->Bool}{e:Stmt}(h:yZ f e=true):∃a v q,e=.Assign a v q/\f a v=true:=by cases e<;>first|exact⟨_,_,_,rfl,h⟩|exact ff h
theorem FN{f:Expr->List Stmt->List Stmt->Bool}{e:Stmt}(h:US f e=true):∃c a b q,e=.While c a b q/\f c a b=true:=by cases e<;>first|exact⟨_,_,_,_,rfl,h⟩|exact ff h
theorem FO{f:Expr->Expr->List Stmt->List Stmt->Bool}{e:Stmt}(h:UT f e=true):∃t i a b q,e=.For t i a b q/\f t i a b=true:=by cases e<;>first|exact⟨_,_,_,_,_,rfl,h⟩|exact ff h
theorem nt{f:Expr->Bool}{st:Stmt}(h:FA f st=true):∃v q,st=.Expr v q/\f v=true:=by cases st<;>first|exact⟨_,_,rfl,h⟩|exact ff h
theorem kr{f:Str->Pos->Expr->Bool}{st:Stmt}(h:xj f st=true):∃x p v q,st=.Assign [.Name x p] v q/\f x p v=true:=by obtain⟨d,v,q,rfl,c⟩:=gF h;obtain⟨t,rfl,b⟩:=cG c;obtain⟨x,p,rfl,a⟩:=wY b;exact⟨_,_,_,_,rfl,a⟩
theorem y9{f:List Expr->Expr->Bool}{st:Stmt}(h:Im f st=true):∃es k p v q,st=.Assign [.Tuple es k p] v q/\f es v=true:=by obtain⟨d,v,q,rfl,c⟩:=gF h;obtain⟨t,rfl,b⟩:=cG c;obtain⟨es,k,p,rfl,a⟩:=cZ b;exact⟨_,_,_,_,_,rfl,a⟩
theorem zc{f:List Expr->List Expr->Bool}{st:Stmt}(h:Io f st=true):∃es k p vs b a q,st=.Assign [.Tuple es k p] (.Tuple vs b a) q/\f es vs=true:=by obtain⟨i,v,q,rfl,g⟩:=gF h;obtain⟨t,rfl,e⟩:=cG g;obtain⟨es,k,p,rfl,d⟩:=cZ e;obtain⟨vs,b,a,rfl,c⟩:=cZ d;exact⟨_,_,_,_,_,_,_,rfl,c⟩
theorem zd{f:Expr->Expr->Expr->Bool}{st:Stmt}(h:Ip f st=true):∃o k p v q,st=.Assign [.Subscript o k p] v q/\f o k v=true:=by obtain⟨d,v,q,rfl,c⟩:=gF h;obtain⟨t,rfl,b⟩:=cG c;obtain⟨o,k,p,rfl,a⟩:=cH b;exact⟨_,_,_,_,_,rfl,a⟩
theorem jz{f:Expr->Str->Pos->Pos->Expr->Bool}{st:Stmt}(h:Cb f st=true):∃o m c v b q,st=.Expr (.Call (.Attribute o m c) [v] [] b) q/\f o m c b v=true:=by obtain⟨v,q,rfl,n⟩:=nt h;obtain⟨g,s,r,p,rfl,l⟩:=fH n;obtain⟨k,j⟩:=a2 l;obtain⟨e,rfl,i⟩:=cG j;obtain⟨o,m,a,rfl,d⟩:=b4 i;rw[GT.mp k];exact⟨_,_,_,_,_,_,rfl,d⟩
theorem tT{n:Bool}{f:Expr->Bool}{st:Stmt}(h:LW n f st=true):(∃v q,st=.Return (some v) q/\f v=true)\/∃q,st=.Return none q/\n=true:=by
 cases st<;>try exact ff h
 rename_i v q
 cases v
 .exact .inr ⟨_,rfl,h⟩
 .exact .inl ⟨_,_,rfl,h⟩
theorem nv{f:Expr->List Stmt->List Stmt->Bool}{st:Stmt}(h:FD f st=true):∃c a b q,st=.If c a b q/\f c a b=true:=by
 cases st<;>try exact ff h
 exact⟨_,_,_,_,rfl,h⟩
theorem tU{f:Expr->List Stmt->Bool}{st:Stmt}(h:LX f st=true):∃c a q,st=.While c a [] q/\f c a=true:=by obtain⟨c,a,b,q,rfl,e⟩:=FN h;obtain⟨k,d⟩:=a2 e;rw[GT.mp k];exact⟨_,_,_,rfl,d⟩
theorem Ci{f:Expr->Expr->List Stmt->Bool}{st:Stmt}(h:Qf f st=true):∃tg c a q,st=.For tg c a [] q/\f tg c a=true:=by obtain⟨t,i,a,b,q,rfl,e⟩:=FO h;obtain⟨k,d⟩:=a2 e;rw[GT.mp k];exact⟨_,_,_,_,rfl,d⟩
section
variable{X:Cx}{M:Ms}{m:Md}{st:Stmt}{i j k:Nat}{e:Expr}{te:(Addr->Prop)->WT}{M':Ms}{m0:Md}
theorem FP{x y z:Str}{a b c:Expr}{ta:TA}{Q P O R pos:Pos}{S k2 Y}(hc:X.calm=true)(L:X.N.Nodup)(hi:X.N[i]?=some x)(hj:X.N[j]?=some y)(hk:X.N[k]?=some z)(K:i≠j)(J:i≠k)(F:j≠k)
 (U:X.env.scope.names.lookup x=some .local)(T:X.env.scope.names.lookup y=some .local)(hz:X.env.scope.names.lookup z=some .local)(ha:PA X [a,b,c] ta)
 (hw:swappedStores [.Tuple [.Name x Q,.Name y P,.Name z O] S R] (.Tuple [a,b,c] k2 Y) X.env=pure (some [x,y,z])):
 PS X (.Assign [.Tuple [.Name x Q,.Name y P,.Name z O] S R] (.Tuple [a,b,c] k2 Y) pos) (λD f H=>ta f H λvs H1=>∃v w u,vs=[v,w,u]/\D.nx (((f.set i (some v)).set j (some w)).set k (some u)) H1):=by
 intro d s f H D I h;rw[exec_Assign_arm];refine AN (YS ?_);refine AN (BM ?_);rw[Da (by decide)];refine AN (Tuple_ (bC (ha _ d s f H _ I h) λus r ⟨vs,H1,I1,r1,B⟩=>?_));obtain⟨v,w,u,e1,B⟩:=B;subst e1;obtain⟨n,l,g,rfl,rv,t,ru⟩:∃n l g,us=[n,l,g]/\RelV v n/\RelV w l/\RelV u g:=by
  cases r1 with
  |cons p q=>
   cases q with
   |cons p' q'=>
    cases q' with
    |cons C WI=>
     cases WI;exact⟨_,_,_,rfl,p,p',C⟩
 refine Nw ?_ (by show 3<=sizeLine;decide);have I2:Inv X d f H1 {r with heap:=r.heap.push {cls:=.type "tuple",data:=.seq [n,l,g].toArray}}:=I1.kept (t':=r.toks) λb o e=>Bi _ e;rw[hw];refine AN (BM ?_);show wpAny (model X.prog X.w) X.A (do rule "assign.swapped-stores";let items<-unpackItems (.ref r.heap.objs.size) 3 none;assignInOrder [λv=>bindName X.env z v,λv=>bindName X.env y v,λv=>bindName X.env x v] items.reverse;pure Flow.next) _ _ _;refine AN (wpAny_rule (AN (unpackItems_tuple (items:= #[n,l,g]) (I.ok.hd hc) (IsTup.new r.heap _) λh' E=>?_)));have I3:=I2.kept (h':=h') (t':=r.toks) λb o e=>E b o (HI (FR e)) e;show wpAny _ _ (assignInOrder [λv=>bindName X.env z v,λv=>bindName X.env y v,λv=>bindName X.env x v] [g,l,n]>>=λ_=>pure Flow.next) _ _ _;refine AN (X2 (YH (dD I3 L hk (.inl hz) ru (λs2 I4=>?_) (.inr hz))));refine X2 (YH (dD I4 L hj (.inl T) t (λs3 I5=>?_) (.inr T)));refine X2 (YH (dD I5 L hi (.inl U) rv (λs4 Z=>assignInOrder_nil (BM ?_)) (.inr U)));have e6:((f.set k (some u)).set j (some w)).set i (some v)=((f.set i (some v)).set j (some w)).set k (some u):=by rw[MG _ _ (Ki F),MG _ _ (Ki J),MG _ _ (Ki K)]
 rw[e6]at Z;exact⟨_,H1,Z,B⟩
theorem FQ(c:∀R,PS X st (mq (tV X M R (Ka X.K .s) (te R)) (fD i)))(n:¬aJ M i):VS X M m st (λd b=>te d.ex b λw=>d.nx (b.set i (some w))):=by rintro a s f H D I ⟨A,q,b,d,S,o,hz,h,k⟩;refine c d.ex a s f H D I ⟨A,q,b,_,S,o,h,λw v p l g r=>?_⟩;exact k.nx A _ _ p rfl rfl l ((S.same g).set n r.aO)
theorem Cj(c:∀R,PS X st (mq (tV X M' R (Ka X.K m0) (te R)) (fD i)))(g:∀x,x∈M↔x=(i,m0)\/x∈M')(y:¬aJ M' i)(f:dw m=true->i≠0):VS X M m st (λd b=>te d.ex b λw=>d.nx (b.set i (some w))):=by
 rintro a s n H D I ⟨A,Q,b,d,S,E,hz,h,k⟩;have C:∀v,A.s0=some v->A.s0=some v/\aJ M' 0:=λv e=>by
  refine⟨e,?_⟩;have u:dw m=true:=by rw[<-hz,e];rfl
  obtain⟨p,B⟩:=(S.sl v e).2;rcases(g _).mp B with z|z
  .cases z;exact(f u rfl).elim
  .exact⟨p,z⟩
 obtain⟨U,J,F,Y,l⟩:=S.sub (M':=M') (λx q=>(g x).mpr (.inr q)) A.s0 C;refine c d.ex a s n H D I ⟨U,Q,b,_,l,E,h,λw v P t o r=>?_⟩;obtain⟨T,N,L,_,O⟩:=l.own g y o r;exact k.nx T _ _ P (N.trans J) (L.trans F) t O
theorem FT{pos:Pos}:VS X M .s (.Return none pos) (λd c=>d.rt .aI):=by rintro a s b H D I ⟨A,g,c,d,S,f,hz,h,k⟩;exact vW a s b H D I (k.rt _ _ H h S.sm (.of rfl (.of (by dsimp only[Rep]))))
end
theorem pX{f:Expr->Str->List Expr->Bool}{e:Expr}(h:Iq f e=true):∃o m a es c,e=.Call (.Attribute o m a) es [] c/\f o m es=true/\(a.endLine==c.line)=true/\es.length<30:=by obtain⟨g,es,l,p,rfl,j⟩:=fH h;obtain⟨k,i⟩:=a2 j;obtain⟨o,m,a,rfl,d⟩:=b4 i;rw[GT.mp k];have b:=a3 d;exact⟨_,_,_,_,_,rfl,b.2,b.1.1,Ap b.1.2⟩
theorem ze{f:Expr->Str->Pos->Pos->Bool}{st:Stmt}(h:Ir f st=true):∃o m d b q,st=.Expr (.Call (.Attribute o m d) [] [] b) q/\f o m d b=true:=by obtain⟨v,q,rfl,g⟩:=nt h;obtain⟨o,m,a,c,rfl,e⟩:=iN g;exact⟨_,_,_,_,_,rfl,e⟩
theorem zf{f:Expr->Str->Expr->Bool}{st:Stmt}(h:Iu f st=true):∃o x p v q,st=.Assign [.Attribute o x p] v q/\f o x v=true:=by obtain⟨d,v,q,rfl,c⟩:=gF h;obtain⟨t,rfl,b⟩:=cG c;obtain⟨o,x,p,rfl,a⟩:=b4 b;exact⟨_,_,_,_,_,rfl,a⟩
noncomputable def Ck(X:Cx)(M:Ms)(R:Addr->Prop)(g:List Md)(t:Ev->(List W->Prop)->Prop):TA:=λf H Q=>∃A e b P,SR X.K M A e f H b/\ER X e R/\t b P/\∀c d a F,P c->au H a->F.Nodup->(∀p∈F,H p=none)->cR X.K (λq=>A.B q\/q∈F) a g c d F->Q d a
section
variable{X:Cx}{M:Ms}{R:Addr->Prop}{a:Expr}{es:List Expr}{ta:WT}{m:Md}{ms:List Md}{pos:Pos}
theorem FU:PA X [] (Ck X M R [] λ_ Q=>Q []):=PA.imp bS<|by rintro b H Q ⟨A,e,c,P,S,d,h,k⟩;exact k [] [] H [] h (au.refl H) Xt (by simp) (by dsimp only[cR];exact⟨rfl,rfl,rfl⟩)
theorem Cm{l:Ev->(List W->Prop)->Prop}(C:starEach (a::es) X.env=(false,eval a X.env)::starEach es X.env)(E:VE X M R m a ta)(D:PA X es (Ck X M R ms l)):PA X (a::es) (Ck X M R (m::ms) λc Q=>ta c λx=>l c λxs=>Q (x::xs)):=
 PA.imp (aP E D C)<|by
  rintro N H Q ⟨A,t,c,P,S,s,h,k⟩;refine⟨A,t,c,_,S,s,h,λx u L B f w=>?_⟩;obtain⟨G,y,n,r⟩:=w;have d:∀q∈G,∃o,L q=some o:=λq i=>let⟨o,e,_⟩:=Fp.mu m r q i;⟨o,e⟩
  refine⟨_,t,c,_,S.more f n d,s,B,λxs v K F g s2 I j J=>?_⟩;refine k _ _ K (G++F) g (f.trans s2) ?_ (λp b=>?_) ?_
  .refine P3.mpr ⟨y,I,λp b q i e=>?_⟩;subst e;obtain⟨o,e⟩:=d p b;rw[j p i]at e;cases e
  .rcases FK.mp b with b|b
   .exact n p b
   .exact f.free (j p b)
  .refine⟨x,xs,u,v,G,F,rfl,rfl,rfl,Fp.mv s2 (λp o e z=>?_) m r,cR.mv (au.refl _) (λp o e z=>?_) ms J⟩
   .rcases z with z|z
    .exact .inl z
    .rcases FK.mp z with z|z
     .exact .inr z
     .rw[j p z]at e;cases e
   .rcases z with z|z
    .exact .inl (.inl z)
    .rcases FK.mp z with z|z
     .exact .inl (.inr z)
     .exact .inr z
theorem FW{e:Ev->(List W->Prop)->Prop}{j:Nat}(h:PA X es (Ck X M R ms e)):VE X M R (.t ms) (.Tuple es j pos) (λd Q=>e d λb=>b.length<=sizeLine/\Q (.tup b)):=PE.imp (uG h)<|by
 rintro E H Q ⟨A,D,d,P,S,y,h,k⟩;refine⟨A,D,d,_,S,y,h,λb c C F g n q o i=>?_⟩;have u:∀(ms:List Md){b:List W}{c:List V}{F:List Addr}{B:Addr->Prop},cR X.K B C ms b c F->c.length=b.length:=λms=>by
  induction ms with
  |nil=>intro b c F B h;dsimp only[cR]at h;rw[h.1,h.2.1];rfl
  |cons m ms r=>intro b c F B h;obtain⟨w,I,v,l,L,J,rfl,rfl,_,_,x⟩:=h;rw[AI,AI,r x]
 refine⟨by rw[u ms i];exact g.1,λp s=>?_⟩;have f:=aF s (.tup c);refine k _ _ _ g.2 (n.trans f) ⟨F,q,o,?_⟩;exact⟨b,p,c,rfl,rfl,aq,cR.mv f (λ_ _ _ z=>z) ms i⟩
end
noncomputable def c6(b:Nat->aW)(a:Nat->Md)(G:Nat->W)(s:CS):Prop:=∀{S:SE}{X:Cx}{m:Md},vv S b a G X->∀c,FH S a m s c=true->VS X S.M m c (wS b G s)
noncomputable def dJ(b:Nat->aW)(a:Nat->Md)(G:Nat->W)(s:List CS):Prop:=∀{S:SE}{X:Cx}{m:Md},vv S b a G X->∀c,cA S a m s c=true->wH X S.M m c (wSs b G s)
section
variable{Φ:Nat->aW}{Ψ:Nat->Md}{G:Nat->W}
theorem vv.L4{S:SE}{X:Cx}(h:vv S Φ Ψ G X)(M:Ms)(b:∀i m a,(i,m)∈M->(i,a)∈M->m=a):vv {S with M:=M} Φ Ψ G X:={toXOk:=h.toXOk.L4 M,bk:=h.bk,Nj:=h.Nj,L3:=h.L3,FI:=b}
theorem Co{S:SE}{X:Cx}(b:XOk S Φ Ψ G X){f:Nat}{h:List CE}{v:Expr}(k:aG S false (.call f h) v=true)(R:Addr->Prop):VE X S.M R (Ψ f) v (wE Φ G R (.call f h))/\∃g es p,v=.Call g es [] p:=by
 obtain⟨x,q,es,p,rfl,i⟩:=aN k;simp only[AC]at i;obtain⟨⟨⟨⟨⟨s,r⟩,o⟩,d⟩,m⟩,j⟩:=i;obtain⟨B,A,D⟩:=bV b r;obtain⟨C,n,l,z,F,t,y⟩:=b.fns f x (IH.mp s) (by simpa using m);have F:b3 X.prog X.w X.K X.mg X.base l C n (Dd X.K n (Ψ f) (Φ f)):=by rw[<-b.B5]at d;cases u:Ψ f<;>rw[u]at d F<;>first|exact F|exact ff d
 have c:=kh j;cases es with
 |nil=>exact ff o
 |cons e es=>rw[BQ,AC]at c;refine⟨?_,_,_,_,rfl⟩;exact wG (M:=S.M) (R:=R) (p:=q) (pos:=p) F t B z y ((lC Φ Ψ G h).1.a b _ j R) A (aD c.1 _ _) (bK c.2 _ _)
theorem Cp{S:SE}{X:Cx}(c:XOk S Φ Ψ G X):∀(b:List CE)(es:List Expr),fq S b es=true->∀R,PA X es (Ck X S.M R (b.map (mo Ψ)) (wA Φ G R b))
 |[],es,k,R=>by rw[GT.mp k];exact FU
 |a::b,[],k,R=>by cases k
 |a::b,e::es,k,R=>by have k:=a2 k;exact Cm (aD (aQ (.inl k.1)) _ _) ((snd Φ Ψ G a).e c e k.1 R) (Cp c b es k.2 R)
theorem Cq{S:SE}{X:Cx}(a:XOk S Φ Ψ G X){e:CE}{v:Expr}(k:aG S false e v=true)(R:Addr->Prop):VE X S.M R (SY Ψ e) v (wE Φ G R e):=by
 cases e with
 |tup b=>obtain⟨c,kd,p,rfl,k⟩:=cZ k;exact FW (Cp a b c k R)
 |call f b=>exact(Co a k R).1
 |_=>exact(snd Φ Ψ G _).e a v k R
theorem vA{e:CE}(h:isCall e=true):∃f a,e=.call f a:=by cases e<;>first|exact⟨_,_,rfl⟩|exact ff h
theorem pY{e:CE}(h:gi e=true):e=.aI:=by cases e<;>first|rfl|exact ff h
theorem zg{e:CE}{i:Nat}(h:isVar e=some i):e=.var i:=by cases e<;>first|(cases h;rfl)|exact nn h
theorem FY{S:SE}{x:Str}{p:Pos}{v:Expr}(h:S0 S x p v=true):∃a b c d,v=.ListComp a b c d:=by cases v<;>first|exact⟨_,_,_,_,rfl⟩|exact ff h
theorem L6{S:SE}{e:CE}{a:Expr}{b:List Comprehension}{c:Scope}{d:Pos}(k:aG S false e (.ListComp a b c d)=true):∃g f n i c x,e=.comp g f n i c x:=by
 cases e with
 |comp g f n i c x=>exact⟨_,_,_,_,_,_,rfl⟩
 |own i h=>rcases(cz k).2 with⟨_,_,_,e⟩|⟨_,_,_,_,_,e⟩<;>cases e
 |_=>exact ff k
theorem xq{S:SE}{X:Cx}(d:vv S Φ Ψ G X){i:Nat}{x:Str}{p q:Pos}{e:CE}{v:Expr}(P:LV S i x=true)(k:aG S false e v=true)(R:Addr->Prop):
 PS X (.Assign [.Name x p] v q) (mq (tV X S.M R (Ka X.K (mo Ψ e)) (wE Φ G R e)) (fD i)):=by
 have n:=nq d P;have a:=Qj d (L5 k) x p q.line;cases m:S0 S x p v with
 |false=>rw[m]at a;exact qd d.nd n.1 n.2.1 ((snd Φ Ψ G e).e d.toXOk v k R) a n.2.2
 |true=>rw[m]at a;obtain⟨T,gs,h,pp,rfl⟩:=FY m;obtain⟨ts,B,n',E,c,y,rfl⟩:=L6 k;obtain⟨t,tg,r,F,f,p',o,U,rfl,j,O,l,Y,L⟩:=nj (snd Φ Ψ G E) (snd Φ Ψ G c) (snd Φ Ψ G y) d.toXOk k R;cases U;rw[iy rfl,xh];intro b s g H D I J;obtain⟨A,z,w⟩:=L b s g H I;exact Eg o (mask o S.N) d.nd n.1 n.2.1 d.calm O Y A z (λC u Z Q=>(w C u Z Q).2) a l n.2.2 b s g H D I (sS j g H _ J)
theorem L7(i:Nat)(e:CE):c6 Φ Ψ G (.set i e):=by
 intro S X m l st k;obtain⟨x,p,v,q,rfl,h⟩:=kr k;rw[AC]at h;by_cases y:tF S.M i=true
 .rw[FM y]at h;simp only[AC]at h;obtain⟨F,⟨E,d⟩,C⟩:=h;have u:dw m=true->i≠0:=λz e=>by rw[z,e]at E;cases E
  have L:∀{t:Md},(i,t)∈S.M->(∀R,PS X (.Assign [.Name x p] v q) (mq (tV X (S.less i).M R (Ka X.K t) (wE Φ G R e)) (fD i)))->VS X S.M m (.Assign [.Name x p] v q) (λD o=>wE Φ G D.ex e o λw=>D.nx (o.set i (some w))):=λ{t} I O=>Cj (M':=(S.less i).M) (te:=λR=>wE Φ G R e) O (λj=>tR I (λm' T=>l.FI i _ _ T I)) tS u;have J:vv (S.less i) Φ Ψ G X:=l.L4 (S.less i).M λa b c B Q=>l.FI a b c (RF.mp B).1 (RF.mp Q).1;rcases eK d with d|d
  .rw[AC]at d;refine L (qK d.1) λR=>?_;have:=xq J (p:=p) (q:=q) F C R;rw[iy d.2]at this;exact this
  .rw[AC]at d;refine L (gW d.2) λR=>?_;obtain⟨f,as,rfl⟩:=vA d.1;obtain⟨B,g,es,pp,rfl⟩:=Co J.toXOk C R;have n:=nq l F;exact qd l.nd n.1 n.2.1 B rfl n.2.2
 .rw[Da y]at h;refine FQ (te:=λR=>wE Φ G R e) (λR=>?_) (jv (by simpa using y));refine PS.imp (xq l (p:=p) (q:=q) h.1 h.2 R)<|by rintro D σ H ⟨A,Y,o,P,S,U,p,k⟩;exact⟨A,Y,o,P,S,U,p,λw v Z N s r=>k w v Z N s (r.s S.dom)⟩
theorem L8(f:List Nat)(e:CE):c6 Φ Ψ G (.OP f e):=by
 intro S X m b u k;obtain⟨i,kd,p,v,q,rfl,g⟩:=y9 k;simp only[AC]at g;obtain⟨⟨⟨c,h⟩,l⟩,a⟩:=g;split at c;rotate_left
 .cases c
 rename_i xs hxs
 have o:PG X (.Tuple i kd p) (gT X.K false f):=LR b.calm b.nd (by dsimp only[P1];rw[hxs];rfl) (lW b c);have d:swappedStores [.Tuple i kd p] v X.env=pure none:=by
  rcases eK a with a|a
  .exact FL a _ _ _ _
  .obtain⟨r,h,w,rfl,j⟩:=cZ a;exact Cg b (Ap j)
 exact KH (te:=λR=>wE Φ G R e) (λ{t} n=>Aq n o (FJ _ _) d rfl) (qR h) λR=>(snd Φ Ψ G e).s b.toXOk l R
theorem ny{X:Cx}{a:List Nat}{x:Str}{xs:List Str}(h:cX X a (x::xs)):∃i r,a=i::r/\fu X i x/\cX X r xs:=by
 cases a with
 |nil=>cases h
 |cons i r=>obtain⟨_,_,e,c,b⟩:=h;cases e;exact⟨i,r,rfl,c,b⟩
theorem FZ{X:Cx}{a:List Nat}(h:cX X a []):a=[]:=by
 cases a with
 |nil=>rfl
 |cons i r=>obtain⟨_,_,e,_⟩:=h;cases e
theorem xr{X:Cx}{a:List Nat}{x y:Str}(h:cX X a [x,y]):∃i j,a=[i,j]/\fu X i x/\fu X j y:=by obtain⟨i,r,rfl,e,d⟩:=ny h;obtain⟨j,r,rfl,c,b⟩:=ny d;cases FZ b;exact⟨i,j,rfl,e,c⟩
theorem zh{X:Cx}{a:List Nat}{x y z:Str}(h:cX X a [x,y,z]):∃i j k,a=[i,j,k]/\fu X i x/\fu X j y/\fu X k z:=by obtain⟨i,r,rfl,e,d⟩:=ny h;obtain⟨j,k,rfl,c,b⟩:=xr d;exact⟨i,j,k,rfl,e,c,b⟩
theorem F3{α:Type}{l:List α}(h:l.length=2):∃a b,l=[a,b]:=by rcases l with _|⟨a,_|⟨b,_|_⟩⟩<;>first|exact⟨_,_,rfl⟩|(simp at h;done)
theorem Ma{α:Type}{l:List α}(h:l.length=3):∃a b c,l=[a,b,c]:=by
 cases l with
 |nil=>cases h
 |cons a l=>obtain⟨b,c,rfl⟩:=F3 (To h);exact⟨_,_,_,rfl⟩
theorem jA{es:List Expr}{x:Str}{xs:List Str}(h:BZ es=some (x::xs)):∃p r,es=.Name x p::r/\BZ r=some xs:=by
 cases es with
 |nil=>cases h
 |cons e es=>
  cases e with
  |Name a p=>obtain⟨l,b,e⟩:=Kk.mp h;cases e;exact⟨_,_,rfl,b⟩
  |_=>exact nn h
theorem xu{es:List Expr}(h:BZ es=some []):es=[]:=by
 cases es with
 |nil=>rfl
 |cons e es=>
  cases e with
  |Name a p=>obtain⟨l,b,e⟩:=Kk.mp h;cases e
  |_=>exact nn h
theorem xw{es:List Expr}{x y:Str}(h:BZ es=some [x,y]):∃p q,es=[.Name x p,.Name y q]:=by obtain⟨p,r,rfl,b⟩:=jA h;obtain⟨q,r,rfl,a⟩:=jA b;rw[xu a];exact⟨_,_,rfl⟩
theorem zj{es:List Expr}{x y z:Str}(h:BZ es=some [x,y,z]):∃p q r,es=[.Name x p,.Name y q,.Name z r]:=by obtain⟨p,r,rfl,a⟩:=jA h;obtain⟨q,s,rfl⟩:=xw a;exact⟨_,_,_,rfl⟩
theorem F4{S:SE}{a vs:List Expr}{xs:List Str}(h:Nh S a vs=some (some xs)):(a.length=2\/a.length=3)/\vs.length=a.length:=by
 unfold Nh at h;split at h
 .cases h
 .rename_i c
  simp only[X4,YC,bne_iff_ne,not_or,Bool.not_eq_false,IH,ne_eq,WR]at c;exact c
theorem xx{es:List Expr}{xs:List Str}(h:BZ es=some xs):es.length=xs.length:=by
 induction xs generalizing es with
 |nil=>rw[xu h];rfl
 |cons x xs a=>obtain⟨p,r,rfl,b⟩:=jA h;rw[AI,AI,a b]
theorem Mb(Q:List Nat)(es:List CE):c6 Φ Ψ G (.par Q es):=by
 intro S X m o st k;obtain⟨tg,kd,p,f,WJ,U,q,rfl,A⟩:=zc k;simp only[AC]at A;obtain⟨⟨C,k2⟩,Z⟩:=A;split at C;rotate_left
 .cases C
 rename_i xs hxs
 simp only[AC]at C;obtain⟨⟨⟨C,I⟩,B⟩,Y⟩:=C;have I:=Ap I;have B:=Ap B;obtain⟨r,M⟩:=F4 I;have L:=Cg o (k:=kd) (k2:=WJ) (p:=p) (p2:=U) I;have d:∀x∈xs,X.env.scope.names.lookup x=some .local:=λx hx=>by rw[o.nk];exact IH.mp (Hb.mp Y x hx)
 have O:=lW o C;refine KI (ta:=λR=>wA Φ G R es) (λ{tv} P=>?_) (qR k2) λR=>(lC Φ Ψ G es).1.a o.toXOk f Z R;have hd:∀{a b:Nat}{x y:Str},x≠y->X.N[a]?=some x->X.N[b]?=some y->a≠b:=λn E g e=>by rw[e,g]at E;exact n (IR E).symm
 rcases r with r|r
 .obtain⟨x,y,rfl⟩:=F3 ((xx hxs).symm.trans r);obtain⟨T,p2,rfl⟩:=xw hxs;obtain⟨i,j,rfl,t,s⟩:=xr O;obtain⟨a,b,rfl⟩:=F3 (M.trans r);refine PS.imp (Ji o.calm o.nd t.1 s.1 (hd (by simpa using B) t.1 s.1) (d x (by simp)) (d y (by simp)) P L) λD F H h=>?_;have e:(λ(f:List V) l=>f.length=[i,j].length/\D.nx (b8 F [i,j] f) l)=λf l=>∃v w,f=[v,w]/\D.nx ((F.set i (some v)).set j (some w)) l:=by
   funext f l;refine propext ⟨?_,?_⟩
   .rintro⟨E,g⟩;obtain⟨v,w,rfl⟩:=F3 E;exact⟨v,w,rfl,g⟩
   .rintro⟨v,w,rfl,g⟩;exact⟨rfl,g⟩
  rw[e]at h;exact h
 .obtain⟨x,y,z,rfl⟩:=Ma ((xx hxs).symm.trans r);obtain⟨T,p2,p3,rfl⟩:=zj hxs;obtain⟨i,j,A,rfl,t,s,J⟩:=zh O;obtain⟨a,b,c,rfl⟩:=Ma (M.trans r);have K:(x≠y/\x≠z)/\y≠z:=by simp only[Hk,FC,Os,X8,not_or]at B;exact⟨B.1,B.2.1⟩
  refine PS.imp (FP o.calm o.nd t.1 s.1 J.1 (hd K.1.1 t.1 s.1) (hd K.1.2 t.1 J.1) (hd K.2 s.1 J.1) (d x (by simp)) (d y (by simp)) (d z (by simp)) P L) λD F H h=>?_;have e:(λ(f:List V) l=>f.length=[i,j,A].length/\D.nx (b8 F [i,j,A] f) l)=λf l=>∃v w u,f=[v,w,u]/\D.nx (((F.set i (some v)).set j (some w)).set A (some u)) l:=by
   funext f l;refine propext ⟨?_,?_⟩
   .rintro⟨E,g⟩;obtain⟨v,w,u,rfl⟩:=Ma E;exact⟨v,w,u,rfl,g⟩
   .rintro⟨v,w,u,rfl,g⟩;exact⟨rfl,g⟩
  rw[e]at h;exact h
theorem Cr{S:SE}{i:Nat}{o:Expr}(h:iu S i o=true)(a:Str)(env:Env):attributeBase o a env (eval o env)=eval o env:=by
 cases o with
 |Name x p=>rfl
 |_=>exact ff h
theorem Mc(i:Nat)(e:CE):c6 Φ Ψ G (.app i e):=by intro S X m g p k;obtain⟨o,r,u,v,t,q,rfl,c⟩:=jz k;simp only[AC]at c;obtain⟨⟨⟨⟨a,j⟩,h⟩,f⟩,d⟩:=c;have a:=Ap a;subst a;have b:=aD (aQ (.inl d)) [] X.env;refine KL (te:=λR=>wE Φ G R e) (λ{n} l=>?_) (qK h) λR=>(snd Φ Ψ G e).s g.toXOk d R;exact gM (rZ SC YE YD gP (cU g.toXOk f) (aP l bS b) (Cr f _ _) (by rw[b];rfl) j b rfl) rfl
theorem Me(i:Nat):c6 Φ Ψ G (.OR i):=by
 intro S X m b u k;obtain⟨x,p,v,q,rfl,c⟩:=kr k;simp only[AC]at c;obtain⟨⟨⟨l,d⟩,h⟩,g⟩:=c;obtain⟨w,rfl⟩:=vq g;have a:dw m=true->i≠0:=λz e=>by rw[z,e]at d;cases d
 have f:=qJ h;have n:=nq b l;exact EK (M':=(S.less i).M) (te:=λR s Q=>Q (.dct [] [])) (λ{t} o=>qd b.nd n.1 n.2.1 o rfl n.2.2) (λj=>tR f (λy r=>b.FI i _ _ r f)) tS a λR=>K9
theorem xy:∀{S:SE}{c:CE}{e:Expr},fJ S c e=true->noStar e=true:=λ{S c e} h=>by
 cases e with
 |Starred v p=>
  have f:aG S false c (.Starred v p)=true->False:=λz=>by have:=aQ (.inl z);exact ff this
  cases c<;>first|exact ff h;done|exact(f h).elim
 |_=>rfl
theorem ku{S:SE}:∀{b:List CE}{es:List Expr},kR S b es=true->es.all noStar=true
 |[],es,h=>by rw[GT.mp h];rfl
 |a::b,[],h=>by cases h
 |a::b,e::es,h=>by have h:=a2 h;rw[BQ,xy h.1,ku h.2];rfl
theorem b5{S:SE}{X:Cx}(b:XOk S Φ Ψ G X)(R:Addr->Prop){c:CE}{v:Expr}(e:fJ S c v=aG S false c v)(d:wP Φ G R c=λa Q=>wE Φ G R c a λw=>Q w a)(k:fJ S c v=true):VP X S.M R v (wP Φ G R c):=by rw[e]at k;rw[d];exact Px ((snd Φ Ψ G c).s b k R)
mutual
theorem bT{S:SE}{X:Cx}(d:XOk S Φ Ψ G X)(R:Addr->Prop):∀(e:CE)(v:Expr),fJ S e v=true->VP X S.M R v (wP Φ G R e)
 |.i9 i g f t,v,k=>by
  obtain⟨o,x,ap,es,p,rfl,j,Z,Y⟩:=pX k;simp only[AC]at j;obtain⟨⟨⟨⟨m,u⟩,h⟩,A⟩,s⟩:=j;obtain⟨fa,fd,ps,n,P,T,Q,F,C,E⟩:=d.pM f g x (IH.mp m) (B7 u);rw[<-d.B5]at h;cases o with
  |Name y py=>
   cases D:Ψ f with
   |io m0=>
    rw[D]at h F;cases m0 with
    |o U ms=>
     have h:(hasB S.M i (.o U ms)&&!U.contains x)=true:=h;rw[AC]at h;cases t with
     |nil=>
      have:es=[]:=by exact GT.mp s
      subst this;exact E2 (G:=G g) T F C Q (gW h.1) (by simpa using h.2) E (cU d A) (ko (bK (ku s) _ _) Y Z)
     |cons a t=>
      cases es with
      |nil=>exact ff s
      |cons e es=>have J:=s;have J:=a2 J;exact K4 (G:=G g) T F C Q (gW h.1) (by simpa using h.2) E (cU d A) (dM d R (a::t) (e::es) s) (aD (xy J.1) _ _) (bK (ku J.2) _ _) (ko (bK (ku s) _ _) Y Z)
    |_=>exact ff h
   |_=>rw[D]at h;exact ff h
  |_=>exact ff A
 |.bin op a b,v,k=>by obtain⟨l,o,r,p,rfl,j⟩:=j8 k;simp only[AC]at j;obtain⟨⟨m,u⟩,h⟩:=j;have m:=Ap m;subst m;exact KU (bT d R a l u) (bT d R b r h)
 |.cmp op a b,v,k=>by obtain⟨l,o,r,p,rfl,j⟩:=j9 k;simp only[AC]at j;obtain⟨⟨⟨⟨m,A⟩,s⟩,u⟩,h⟩:=j;have m:=Ap m;subst m;exact KW d.un (Au r (op:=op) (by simpa using A) (by simpa using s)) (bT d R a l u) (bT d R b r h)
 |.call f t,v,k=>by
  obtain⟨x,q,es,p,rfl,j⟩:=aN k;simp only[AC]at j;obtain⟨⟨⟨⟨⟨m,u⟩,h⟩,s⟩,B⟩,A⟩:=j;obtain⟨I,H,O⟩:=bV d u;obtain⟨fv,n,P,hm,F,C,E⟩:=d.fns f x (IH.mp m) (by simpa using B);have F:b3 X.prog X.w X.K X.mg X.base P fv n (Dd X.K n (Ψ f) (Φ f)):=by rw[<-d.B5]at s;cases D:Ψ f<;>rw[D]at s F<;>first|exact F|exact ff s
  have z:=ku A;cases es with
  |nil=>exact ff h
  |cons e es=>rw[BQ,AC]at z;exact EY (p:=q) (pos:=p) F C I hm E (dM d R t _ A) H (aD z.1 _ _) (bK z.2 _ _)
 |.blt b t,v,k=>by
  obtain⟨x,q,es,p,rfl,j⟩:=aN k;simp only[AC]at j;obtain⟨⟨⟨⟨⟨⟨m,u⟩,h⟩,A⟩,s⟩,k9⟩,B⟩:=j;have m:=Ap m;obtain⟨I,H,O⟩:=bV d u;have hz:=d.vn x (Rq.mp h);have z:=ku B;cases es with
  |nil=>exact ff k9
  |cons e es=>
   rw[BQ,AC]at z;rcases tN d.calm b (by simpa using s)with⟨id,L,N⟩|⟨id,L,N⟩
   .exact KZ N I hz (by rw[m];exact L) (dM d R t _ B) O H (aD z.1 _ _) (bK z.2 _ _)
   .exact K0 N I hz (by rw[m];exact L) (dM d R t _ B) O H (aD z.1 _ _) (bK z.2 _ _)
 |.ix a b,v,k=>by obtain⟨l,r,p,rfl,j⟩:=cH k;simp only[AC]at j;obtain⟨⟨m,u⟩,h⟩:=j;exact Py (qN m) (bT d R a l u) (bT d R b r h)
 |.lst t,v,k=>by obtain⟨es,p,rfl,j⟩:=m5 k;exact K7 (dM d R t es j)
 |.tup t,v,k=>by obtain⟨es,kd,p,rfl,j⟩:=cZ k;exact K8 (dM d R t es j)
 |.and _,v,k=>by cases k
 |.or _,v,k=>by cases k
 |.var i,v,k=>b5 d R rfl rfl k
 |.int i,v,k=>b5 d R rfl rfl k
 |.bl i,v,k=>b5 d R rfl rfl k
 |.str i,v,k=>b5 d R rfl rfl k
 |.aI,v,k=>b5 d R rfl rfl k
 |.Bg n,v,k=>b5 d R rfl rfl k
 |.glob g,v,k=>b5 d R rfl rfl k
 |.neg a,v,k=>b5 d R rfl rfl k
 |.not a,v,k=>b5 d R rfl rfl k
 |.sl a b c,v,k=>b5 d R rfl rfl k
 |.comp ts one n i c x,v,k=>b5 d R rfl rfl k
 |.p9 t,v,k=>b5 d R rfl rfl k
 |.own i π,v,k=>b5 d R rfl rfl k
 |.wk is a,v,k=>b5 d R rfl rfl k
 |.slt a b c,v,k=>b5 d R rfl rfl k
 |.M9 a b c,v,k=>b5 d R rfl rfl k
 |.JW a n x,v,k=>b5 d R rfl rfl k
 |.pM g f a,v,k=>b5 d R rfl rfl k
 |.JX i,v,k=>b5 d R rfl rfl k
 |.JY a,v,k=>b5 d R rfl rfl k
 |.Na a b c,v,k=>b5 d R rfl rfl k
theorem dM{S:SE}{X:Cx}(c:XOk S Φ Ψ G X)(R:Addr->Prop):∀(b:List CE)(es:List Expr),kR S b es=true->Dg X S.M R es (GO Φ G R b)
 |[],es,k=>by rw[GT.mp k];exact EV
 |a::b,[],k=>by cases k
 |a::b,e::es,k=>by have k:=a2 k;exact BA (aD (xy k.1) _ _) (bT c R a e k.1) (dM c R b es k.2)
end
theorem xA{v:Expr}(a:xo v=true)(b:Ca v=true)(t:Option Expr)(l:Nat)(env:Env):swapsWith v t l env=pure false:=by
 cases v with
 |ListComp _ _ _ _=>exact ff b
 |SetComp _ _ _ _=>exact ff a
 |DictComp _ _ _ _ _=>exact ff a
 |_=>rfl
theorem U0{v:Expr}(h:vt v=true):xo v=true:=by cases v<;>first|rfl|exact ff h
theorem Mf(e:CE):c6 Φ Ψ G (.zP e):=by intro S X m f g k;obtain⟨v,q,rfl,a⟩:=nt k;simp only[AC]at a;obtain⟨⟨d,c⟩,b⟩:=a;exact EX (tt:=λR=>wP Φ G R e) λR=>gM (bT f.toXOk R _ v b) (xA (U0 c) d _ _ _)
theorem F5(j:Nat)(e:CE):c6 Φ Ψ G (.qy j e):=by intro S X m a o k;obtain⟨x,p,v,q,rfl,b⟩:=kr k;simp only[AC]at b;obtain⟨⟨⟨⟨h,g⟩,d⟩,c⟩,f⟩:=b;have n:=nq a h;exact EW (tt:=λR=>wP Φ G R e) (λ{l} i=>qd a.nd n.1 n.2.1 i (xA (U0 c) d _ _ _) n.2.2) (jv (by simpa using g)) λR=>bT a.toXOk R _ v f
theorem Mg(e:CE):c6 Φ Ψ G (.ret e):=by
 intro S X m d h k;rcases tT k with⟨v,q,rfl,a⟩|⟨q,rfl,a⟩
 .unfold Qh at a;rw[AC]at a;obtain⟨c,a⟩:=a;have c:dw m=false:=by simpa using c
  rcases eK a with a|f
  .rcases eK a with a|a
   .rw[AC]at a;have g:m=.s:=by cases m<;>first|rfl|exact ff a.1
    rcases eK a.2 with b|b
    .exact Bx (te:=λR=>wE Φ G R e) (λR=>(snd Φ Ψ G e).e (d.toXOk.L4 []) v b R) (.inr g) c
    .subst g;exact EM (te:=λR=>wE Φ G R e) λR=>(snd Φ Ψ G e).s d.toXOk b R
   .rw[AC]at a;rcases eK a.2 with b|b
    .exact Bx (te:=λR=>wE Φ G R e) (λR=>Cq (d.toXOk.L4 []) b R) (.inl (kq a.1)) c
    .exact EN (te:=λR=>wE Φ G R e) (λR=>by rw[<-kq a.1];exact Cq d.toXOk b R) c
  .unfold Qg at f;split at f
   .rename_i i hv
    obtain rfl:=zg hv;have b:=a2 f;exact EO (cU d.toXOk b.2) (gW b.1) c
   .exact ff f
 .rw[AC]at a;obtain rfl:=pY a.1;cases m<;>try exact ff a.2
  exact FT
theorem xB{S:SE}{m:Md}(h:LY S m=true):∃k,m=.io k/\(0,k)∈S.M:=by
 cases m with
 |io k=>exact⟨k,rfl,gW h⟩
 |_=>exact ff h
theorem Mh(e:CE):c6 Φ Ψ G (.HS e):=by
 intro S X m d f k;rcases tT k with⟨v,q,rfl,a⟩|⟨q,rfl,a⟩
 .rw[AC]at a;obtain⟨c,rfl,b⟩:=xB a.1;exact K2 (te:=λR=>wE Φ G R e) (λR=>(snd Φ Ψ G e).s d.toXOk a.2 R) b
 .rw[AC]at a;obtain⟨c,rfl,b⟩:=xB a.2;obtain rfl:=pY a.1;exact K3 b
theorem gG{S:SE}{X:Cx}(e:XOk S Φ Ψ G X)(R:Addr->Prop)(c:CE)(v:Expr)(k:kT S c v=true):wJ X S.M R v (wP Φ G R c):=by
 have fall:∀{c:CE},kT S c v=(aG S false c v&&zS c)->(wP Φ G R c=λm Q=>wE Φ G R c m λw=>Q w m)->kT S c v=true->wJ X S.M R v (wP Φ G R c):=λ{c} C B k=>by rw[C,AC]at k;rw[B];exact KR ((snd Φ Ψ G c).t e v k.1 k.2 R)
 cases c with
 |cmp op a b=>have k:fJ S (.cmp op a b) v=true:=k;obtain⟨l,o,r,p,rfl,n⟩:=j9 k;simp only[AC]at n;obtain⟨⟨⟨⟨j,u⟩,s⟩,z⟩,y⟩:=n;have j:=Ap j;subst j;exact ES e.un (Au r (op:=op) (by simpa using u) (by simpa using s)) (bT e R a l z) (bT e R b r y)
 |i9 i g f d=>have k:fJ S (.i9 i g f d) v=true:=k;have h:=bT e R _ v k;obtain⟨o,x,D,A,p,rfl,_⟩:=pX k;exact wK (λ_=>rfl) h
 |call f d=>have k:fJ S (.call f d) v=true:=k;have h:=bT e R _ v k;obtain⟨x,q,A,p,rfl,_⟩:=aN k;exact wK (λ_=>rfl) h
 |bin op a b=>exact ff k
 |blt b d=>exact ff k
 |ix a b=>exact ff k
 |lst d=>exact ff k
 |tup d=>exact ff k
 |and d=>exact ff k
 |or d=>exact ff k
 |_=>exact fall rfl rfl k
theorem tW{S:SE}{X:Cx}(c:XOk S Φ Ψ G X)(R:Addr->Prop){pos:Pos}:∀(f:List CE)(es:List Expr),jy S f es=true->Ia X S.M R (.BoolOp .And es pos) (vN Φ G R f)
 |[],es,k=>by cases k
 |[a],es,k=>by obtain⟨e,rfl,k⟩:=cG k;exact By (gG c R a e k)
 |a::b::d,es,k=>by
  cases es with
  |nil=>exact ff k
  |cons e es=>
   have k:kT S a e=true/\jy S (b::d) es=true:=a2 k;have h:=tW c R (pos:=pos) (b::d) es k.2;cases es with
   |nil=>cases d<;>exact ff k.2
   |cons g es=>exact ET (gG c R a e k.1) h
theorem tX{S:SE}{X:Cx}(c:XOk S Φ Ψ G X)(R:Addr->Prop){pos:Pos}:∀(f:List CE)(es:List Expr),jy S f es=true->Ia X S.M R (.BoolOp .Or es pos) (Dj Φ G R f)
 |[],es,k=>by cases k
 |[a],es,k=>by obtain⟨e,rfl,k⟩:=cG k;exact EU (gG c R a e k)
 |a::b::d,es,k=>by
  cases es with
  |nil=>exact ff k
  |cons e es=>
   have k:kT S a e=true/\jy S (b::d) es=true:=a2 k;have h:=tX c R (pos:=pos) (b::d) es k.2;cases es with
   |nil=>cases d<;>exact ff k.2
   |cons g es=>exact KY (gG c R a e k.1) h
theorem nA{S:SE}{X:Cx}(f:XOk S Φ Ψ G X)(R:Addr->Prop)(c:CE)(v:Expr)(k:xm S c v=true):wJ X S.M R v (wP Φ G R c):=by
 cases c with
 |and d=>have k:Ln (λo b=>decide (o=.And)&&jy S d b) v=true:=k;obtain⟨o,b,p,rfl,a⟩:=gS k;rw[AC]at a;have e:=Ap a.1;subst e;exact PW.pt (tW f R d b a.2)
 |or d=>have k:Ln (λo b=>decide (o=.Or)&&jy S d b) v=true:=k;obtain⟨o,b,p,rfl,a⟩:=gS k;rw[AC]at a;have e:=Ap a.1;subst e;exact PW.pt (tX f R d b a.2)
 |_=>exact gG f R _ v k
theorem Mi(c:CE){a b:List CS}(j:dJ Φ Ψ G a)(i:dJ Φ Ψ G b):c6 Φ Ψ G (.Nc c a b):=by intro S X m d l k;obtain⟨t,x,y,q,rfl,e⟩:=nv k;simp only[AC]at e;obtain⟨⟨h,g⟩,f⟩:=e;exact BB (tt:=λR=>wP Φ G R c) (λR=>nA d.toXOk R c t h) (j d x g) (i d y f)
theorem Mj(c:CE){b:List CS}(e:dJ Φ Ψ G b):c6 Φ Ψ G (.OQ c b):=by intro S X m d f k;obtain⟨t,x,q,rfl,a⟩:=tU k;simp only[AC]at a;exact K1 (nA d.kI.toXOk _ c t a.1) (e d.kI x a.2)
theorem F6{S:SE}{i n:Nat}{x:Str}(h:LZ S i n x=true):∃b a,(i,.o b a)∈S.M/\b[n]?=some x/\a[n]?=some .s:=by
 unfold LZ at h;split at h
 .rename_i b a hl
  rw[AC]at h;obtain⟨d,c⟩:=h;split at c
  .rename_i k hk
   have:k=.s:=by cases k<;>first|rfl|exact ff c
   subst this;exact⟨b,a,dI hl,IH.mp d,hk⟩
  .cases c
 .cases h
theorem Ml(i n:Nat)(e:CE):c6 Φ Ψ G (.Bh i n e):=by intro S X m b t k;obtain⟨o,x,p,v,q,rfl,a⟩:=zf k;simp only[AC]at a;obtain⟨⟨f,d⟩,c⟩:=a;obtain⟨w,u,l,j,h⟩:=F6 f;exact K6 (te:=λR=>wE Φ G R e) (λ{r} g=>jR (cU b.toXOk d) g (by cases v<;>rfl)) l j h λR=>(snd Φ Ψ G e).s b.toXOk c R
theorem Mm(i:Nat)(π:List gQ)(e:CE):c6 Φ Ψ G (.HR i π e):=by
 intro S X m h w k;obtain⟨o,x,A,v,z,q,rfl,c⟩:=jz k;simp only[AC]at c;obtain⟨⟨⟨a,l⟩,g⟩,d⟩:=c;have a:=Ap a;subst a;have b:=aD (aQ (.inl d)) [] X.env;obtain⟨y,k,r,p,t,j⟩:=qO h.toXOk g;have:k=.f:=by cases k<;>first|rfl|exact ff t
 subst this;refine KJ (te:=λR=>wE Φ G R e) (λ{u} n=>?_) r p λR=>(snd Φ Ψ G e).s h.toXOk d R;exact gM (rZ SC YE YD gP j (aP n bS b) (by rcases(cz g).2 with⟨_,_,_,rfl⟩|⟨_,_,_,_,_,rfl⟩<;>rfl) (by rw[b];rfl) l b rfl) rfl
theorem Mn(i:Nat)(b e:CE):c6 Φ Ψ G (.OV i b e):=by
 intro S X m a y k;obtain⟨o,j,p,v,q,rfl,c⟩:=zd k;simp only[AC]at c;obtain⟨⟨⟨⟨l,h⟩,g⟩,f⟩,d⟩:=c;have t:∀u,assign (.Subscript o j p) X.env u=(do
  let ov<-holding [u] (eval o X.env)
  let iv<-holding [u,ov] (eval j X.env)
  standAt p
  holding [u,ov,iv] (setItem ov iv u)
  release [u,ov,iv] []):=by
  intro u;cases j with
  |Slice _ _ _ _=>exact ff g
  |_=>rfl
 refine Lj (te:=λR=>wE Φ G R e) (t1:=λR=>wE Φ G R b) (λ{w x} n r=>?_) (qJ l) (λR=>(snd Φ Ψ G e).s a.toXOk d R) λR=>(snd Φ Ψ G b).s a.toXOk f R;exact Aq (pos:=q) n (Jh (cU a.toXOk h) r (set_dict (hu1 a.un)) t) (Ce _ _) (Cf _) rfl
theorem Mp(i:Nat)(π:List gQ)(e:CE):c6 Φ Ψ G (.M6 i π e):=by
 intro S X m j x k;obtain⟨o,y,B,v,A,q,rfl,c⟩:=jz k;simp only[AC]at c;obtain⟨⟨⟨⟨a,p⟩,g⟩,n⟩,d⟩:=c;have a:=Ap a;subst a;have b:=aD (aQ (.inl d)) [] X.env;obtain⟨z,k,t,s,u,l⟩:=qO j.toXOk g;have:k=.f:=by cases k<;>first|rfl|exact ff u
 subst this;refine Lh (e:=v) (te:=λR=>wE Φ G R e) (λ{w} r=>?_) t s λR=>?_
 .exact gM (rZ SC PySem.F.slot_list_extend PySem.F.type_list_extend yo l (aP r bS b) (by rcases(cz g).2 with⟨_,_,_,rfl⟩|⟨_,_,_,_,_,rfl⟩<;>rfl) (by rw[b];rfl) p b rfl) rfl
 .have h:=(snd Φ Ψ G e).e j.toXOk v d R;rw[iy n]at h;exact h
theorem Mq(i:Nat):c6 Φ Ψ G (.OS i):=by intro S X m f g k;obtain⟨o,h,l,j,q,rfl,b⟩:=ze k;simp only[AC]at b;obtain⟨⟨⟨a,e⟩,d⟩,c⟩:=b;have a:=Ap a;subst a;exact Li (gM (JB SC PySem.F.slot_list_reverse PySem.F.type_list_reverse uN (cU f.toXOk c) (by obtain⟨y,z,rfl,_⟩:=bR c;rfl) e) rfl) (qK d)
theorem Mr(i n:Nat)(e:CE):c6 Φ Ψ G (.OT i n e):=by
 intro S X m l H k;obtain⟨o,I,O,v,N,q,rfl,s⟩:=jz k;simp only[AC]at s;obtain⟨⟨⟨⟨⟨h,C⟩,b⟩,g⟩,J⟩,u⟩:=s;have h:=Ap h;subst h;obtain⟨a,x,p,rfl,g⟩:=b4 g;obtain⟨c,t⟩:=a2 g;have c:=Ap c;unfold Qi at b;unfold UX at c;cases r:S.M.lookup i with
 |none=>rw[r]at b;exact ff b
 |some B=>
  rw[r]at b c;cases B with
  |o L d=>
   have b:(match d[n]? with|some .f=>true|_=>false)=true:=b;have E:d[n]?=some .f:=by
    cases w:d[n]? with
    |none=>rw[w]at b;exact ff b
    |some z=>rw[w]at b;cases z<;>first|rfl|exact ff b
   have j:=aD (xy u) [] X.env;have A:PE X (.Attribute a x p) (j4 X.K i [.fl n x]):=BE (n:=n) (π:=[]) (BD (cU l.toXOk t)) (by obtain⟨y,z,rfl,_⟩:=bR t;rfl);refine Ll (tt:=λR=>wP Φ G R e) (λ{F} D=>?_) (dI r) c E l.FI λR=>bT (l.toXOk.L4 (Dh S.M i n)) R e v u;exact gM (rZ SC YE YD gP A (aP D bS j) rfl (by rw[j];rfl) C j rfl) rfl
  |_=>exact ff b
theorem Mu(c:CE){a b:List CS}(s:dJ Φ Ψ G a)(r:dJ Φ Ψ G b):c6 Φ Ψ G (.OU c a b):=by intro S X m f u k;obtain⟨t,x,y,p,rfl,g⟩:=nv k;simp only[AC]at g;obtain⟨⟨e,n⟩,l⟩:=g;obtain⟨o,z,q,rfl,e⟩:=jx e;obtain⟨j,i⟩:=a2 e;cases Ap j;exact BB (tt:=λR h Q=>wP Φ G R c h λx d=>truth x λb=>Q (.bl (!b)) d) (λR=>Fd (nA f.toXOk R c z i)) (s f x n) (r f y l)
theorem Mv:c6 Φ Ψ G .brk:=by
 intro S X m b a k;cases a with
 |Break _=>exact KG
 |_=>exact ff k
theorem Qk(c:CE){a b:List CS}(l:dJ Φ Ψ G a)(j:dJ Φ Ψ G b):c6 Φ Ψ G (.iff c a b):=by intro S X m d n k;obtain⟨t,x,y,q,rfl,e⟩:=nv k;simp only[AC]at e;obtain⟨⟨⟨i,h⟩,g⟩,f⟩:=e;exact Pu (tc:=λR=>wE Φ G R c) (λR=>(snd Φ Ψ G c).t d.toXOk t i h R) (l d x g) (j d y f)
theorem Mw(c:CE){b:List CS}(h:dJ Φ Ψ G b):c6 Φ Ψ G (.Nb c b):=by intro S X m d i k;obtain⟨t,x,q,rfl,a⟩:=tU k;simp only[AC]at a;obtain⟨⟨g,f⟩,e⟩:=a;exact KN ((snd Φ Ψ G c).t d.kI.toXOk t g f _) (h d.kI x e)
theorem Mx(j:List Nat)(d:Bool)(f:CE){b:List CS}(u:dJ Φ Ψ G b):c6 Φ Ψ G (.fr j d f b):=by
 intro S X m c v k;obtain⟨g,i,x,q,rfl,a⟩:=Ci k;unfold UW at a;split at a;rotate_left
 .cases a
 rename_i o xs LS
 simp only[AC]at a;obtain⟨⟨⟨⟨⟨⟨e,t⟩,s⟩,r⟩,h⟩,n⟩,l⟩:=a;have e:=IH.mp e;subst e;refine KO (ti:=λR=>wE Φ G R f) c.calm (qR s) ((snd Φ Ψ G f).i c.kI.toXOk g false i (by rw[n];rfl) (λz=>?_) _) (LR (X:=X.kI) c.calm c.kI.nd LS (lW c.kI t)) (u c.kI x l) (tQ r _);have:d=false:=by rw[z]at h;simpa using h
 subst this;cases g with
 |Tuple w a p=>exact⟨_,_,_,rfl⟩
 |Name y p=>cases LS
 |_=>exact nn LS
theorem F7:dJ Φ Ψ G []:=by intro S X m b a k;rw[GT.mp k];exact EH
noncomputable def Iv(Φ:Nat->aW)(Ψ:Nat->Md)(G:Nat->W):CS->Prop
 |.JZ _ b=>dJ Φ Ψ G b
 |_=>True
theorem F8{S:SE}{m:Md}{s:CS}{a:List CS}{st:List Stmt}(k:cA S Ψ m (s::a) st=true):(∃c b,s=.JZ c b/\(a.isEmpty&&(!dw m||!c.contains 0)&&cA (S.lend c) Ψ m b st)=true)\/Cd (λe=>FH S Ψ m s e) (λes=>cA S Ψ m a es) st=true:=by
 cases s<;>first|exact .inr k|exact .inl ⟨_,_,rfl,k⟩
theorem Cs{s:CS}{c:List CS}(h:c6 Φ Ψ G s/\Iv Φ Ψ G s)(v:dJ Φ Ψ G c):dJ Φ Ψ G (s::c):=by
 intro S X m a d k;rcases F8 k with⟨u,b,rfl,o⟩|k
 .obtain⟨n,p⟩:=a2 o;obtain⟨l,f⟩:=a2 n;cases GT.mp l;have q:dw m=true->aJ S.M 0->aJ (S.lend u).M 0:=by rintro e ⟨g,A⟩;rw[e]at f;exact⟨g,RF.mpr ⟨A,f⟩⟩
  have w:dJ Φ Ψ G b:=h.2;exact EJ (w (a.L4 _ λi m j y x=>a.FI i m j (gE _ y) (gE _ x)) d p) gE q
 have h:c6 Φ Ψ G s:=h.1;cases d with
 |nil=>exact ff k
 |cons e r=>
  have k:FH S Ψ m s e=true/\cA S Ψ m c r=true:=a2 k;cases c with
  |nil=>
   have:r=[]:=by have:=k.2;exact GT.mp this
   subst this;exact EI (h a e k.1)
  |cons t B=>have z:=Bu (h a e k.1) (v a r k.2);exact z
theorem My:c6 Φ Ψ G .yK:=by rintro S X m g e k a s b H D I ⟨A,j,c,d,S,i,hz,h,f⟩;exact Ed h
variable(Φ Ψ G)
mutual
theorem S6:∀s:CS,c6 Φ Ψ G s/\Iv Φ Ψ G s
 |.set i e=>⟨L7 i e,trivial⟩
 |.OP d e=>⟨L8 d e,trivial⟩
 |.par d es=>⟨Mb d es,trivial⟩
 |.app i e=>⟨Mc i e,trivial⟩
 |.qy j e=>⟨F5 j e,trivial⟩
 |.ret e=>⟨Mg e,trivial⟩
 |.iff c a b=>⟨Qk c (fK a) (fK b),trivial⟩
 |.Nb c b=>⟨Mw c (fK b),trivial⟩
 |.fr d one f b=>⟨Mx d one f (fK b),trivial⟩
 |.brk=>⟨Mv,trivial⟩
 |.HR i π e=>⟨Mm i π e,trivial⟩
 |.Bh i n e=>⟨Ml i n e,trivial⟩
 |.HS e=>⟨Mh e,trivial⟩
 |.zP e=>⟨Mf e,trivial⟩
 |.Nc c a b=>⟨Mi c (fK a) (fK b),trivial⟩
 |.OQ c b=>⟨Mj c (fK b),trivial⟩
 |.yK=>⟨My,trivial⟩
 |.OR i=>⟨Me i,trivial⟩
 |.OV i k e=>⟨Mn i k e,trivial⟩
 |.M6 i π e=>⟨Mp i π e,trivial⟩
 |.OS i=>⟨Mq i,trivial⟩
 |.OT i n e=>⟨Mr i n e,trivial⟩
 |.OU c a b=>⟨Mu c (fK a) (fK b),trivial⟩
 |.JZ g b=>⟨λ_ _ k=>(by cases k),fK b⟩
theorem fK:∀a:List CS,dJ Φ Ψ G a
 |[]=>F7
 |s::a=>Cs (S6 s) (fK a)
end
end
structure Tab(P:Program)(w:World)(K:Frag)(mg:Str->Option Value)(base:Heap)(fn gn zn:List Str)(md:List Md)(mt:List (Nat×Nat))(Φ:Nat->aW)(G:Nat->W)(k:Nat):Prop where
 fns:∀(j:Nat)(x:Str),fn[j]?=some x->mt.any (·.1==j)=false->∃fv n k',mg x=some fv/\b3 P w K mg base k' fv n (oF K n (gu md j) (Φ j))/\k'<=k/\∀ws P R,Φ j ws P R->ws.length=n
 pM:∀(j g:Nat)(x:Str),fn[j]?=some x->(j,g)∈mt->∃f fd ps n k',(∀C,G g=.cls C->Meth K C x f)/\Binds K fd ps []/\bE P w K mg base (iC P w) k' f fd ps (oF K n (gu md j) (Φ j))/\k'<=k/\∀ws P R,Φ j ws P R->ws.length=n
 Fj:∀(j:Nat)(x:Str),gn[j]?=some x->∃u v,mg x=some u/\RelV v u/\∀B H,Rep K B H (G j) v
 vn:∀x∈zn,mg x=none
 kit:sO K
 L3:∀j x C,gn[j]?=some x->G j=.cls C->RY K C
noncomputable def aA(n:Nat)(a:List W):Ev:=a.map some++A0 (n -a.length) none
noncomputable def fall:Md->(W->Prop)->Ev->Prop
 |.s,P,_=>P .aI
 |.io _,P,a=>match look a 0 with
  |some b=>P (.tup [.aI,b])
  |none=>False
 |_,_,_=>False
section
variable{K:Frag}{A:Addr->Prop}{H:Hp}{N:List Str}{ws:List W}{vs:List V}{M:Ms}
theorem iO{i:Nat}{w:W}(a:ws.length<=i)(e:look (aA N.length ws) i=some w):False:=by
 rw[aU]at e;unfold aA at e;rw[KM (by simp;omega),YN]at e;split at e
 .cases e
 .cases e
theorem pZ{i:Nat}{w:W}(h:af K A H ws vs)(e:look (aA N.length ws) i=some w):∃v,(start N vs)[i]?=some (some v)/\Rep K A H w v:=by
 have f:=h.len;by_cases a:i<ws.length
 .rw[aU]at e;unfold aA at e;rw[P2 (by simpa using a),Fm]at e;obtain⟨d,c,b⟩:=Kk.mp e;cases b;obtain⟨v,b,r⟩:=h.get c;refine⟨v,?_,r⟩;unfold L2.start;rw[P2 (by simp;lia),Fm,b];rfl
 .exact(iO (by lia) e).elim
theorem Ct(h:af K A H ws vs)(d:Dom A H)(g:∀i m,(i,m)∈M->ws.length<=i)(b:∀i m a,(i,m)∈M->(i,a)∈M->m=a):SR K M ⟨A,A,none⟩ H (start N vs) H (aA N.length ws):=by have f:=h.len;refine⟨by simp[L2.start,aA,f],λi w k e=>pZ h e,au.refl _,d,(λv e=>by cases e),λ_=>[],⟨b,λi m w c e=>(iO (g i m c) e).elim,λ_ _ _=>rfl,λ_ _=>Xt,(λi j p _ _ z=>by cases z),(λi p _ z=>by cases z),(λi p _ z=>by cases z),λp=>⟨.inl,λz=>z.elim id<|by rintro⟨_,_,z⟩;cases z⟩⟩⟩
open Classical in
noncomputable def era(F:List Addr)(H:Hp):Hp:=λp=>if p∈F then none else H p
theorem Cu{F:List Addr}{p:Addr}{o:HO}(h:era F H p=some o):p∉F/\H p=some o:=by
 unfold era at h;split at h
 .cases h
 .exact⟨by assumption,h⟩
theorem Cv{F:List Addr}{p:Addr}(h:era F H p=none):p∈F\/H p=none:=by
 unfold era at h;split at h
 .exact .inl (by assumption)
 .exact .inr h
theorem Mz{F:List Addr}{p:Addr}(h:p∈F):era F H p=none:=by unfold era;rw[FM h]
theorem F9{F:List Addr}{p:Addr}(h:p∉F):era F H p=H p:=by unfold era;rw[Da h]
theorem Cw{F:List Addr}{k:W}{l:V}{q:Md}(D:F.Nodup)(E:∀p∈F,¬A p)(d:Dom A H)(P:Fp K (λp=>A p\/p∈F) H q k l F)(h:af K (λp=>A p\/p∈F) H ws vs)
 (s:(0,q)∈M)(O:∀i m,(i,m)∈M->i=0\/ws.length+1<=i)(y:∀i m B,(i,m)∈M->(i,B)∈M->m=B)(L:0<N.length):
 SR K M ⟨A,λp=>A p\/p∈F,some l⟩ (era F H) (start N (l::vs)) H (aA N.length (k::ws)):=by
 have I:=h.len;have C:look (aA N.length (k::ws)) 0=some k:=rfl;have zk:(start N (l::vs))[0]?=some (some l):=rfl;have u:∀i,aJ M i->i≠0->∀w,look (aA N.length (k::ws)) i=some w->False:=λi ⟨m,r⟩ n w e=>iO (by rcases O i m r with z|z;exact(n z).elim;simpa using z) e;refine⟨by simp[L2.start,aA,I],λi w g e=>?_,λp o e=>(Cu e).2,d,λv e=>?_,λi=>if i=0 then F else[],⟨y,λi m w r e=>?_,λi g e=>?_,λi g=>?_,λi j p g R a b=>?_,λi p g c=>?_,λi p g c=>?_,λp=>?_⟩⟩
 .cases i with
  |zero=>exact(g ⟨q,s⟩).elim
  |succ i=>
   have Q:look (ws.map some++A0 (N.length -(k::ws).length) none) i=some w:=e;have:look (aA (N.length -1) ws) i=some w:=by unfold aA;rw[show N.length -1 -ws.length=N.length -(k::ws).length by simp;lia];exact Q
   cases N with
   |nil=>cases L
   |cons x N=>obtain⟨v,f,t⟩:=pZ (N:=N) h this;refine⟨v,?_,t⟩;unfold L2.start at f⊢;rw[Ha,List.cons_append,List.getElem?_cons_succ,show(x::N).length -(l::vs).length=N.length -vs.length by simp];exact f
 .cases e;exact⟨zk,q,s⟩
 .rcases Y7 i with rfl|g
  .have:=y 0 m q r s;subst this;rw[C]at e;cases e;exact⟨l,zk,by rw[FM rfl];exact P⟩
  .exact(u i ⟨m,r⟩ (by lia) w e).elim
 .rcases Y7 i with rfl|J
  .rw[C]at e;cases e
  .rw[Da (by lia)]
 .split
  .exact D
  .exact Xt
 .by_cases f:i=0
  .by_cases t:j=0
   .rw[f,t]
   .rw[Da t]at b;cases b
  .rw[Da f]at a;cases a
 .by_cases f:i=0
  .rw[FM f]at c;exact Mz c
  .rw[Da f]at c;cases c
 .by_cases f:i=0
  .rw[FM f]at c;exact E p c
  .rw[Da f]at c;cases c
 .constructor
  .rintro(z|z)
   .exact .inl z
   .exact .inr ⟨0,⟨q,s⟩,by rw[FM rfl];exact z⟩
  .rintro(z|⟨i,g,c⟩)
   .exact .inl z
   .by_cases f:i=0
    .rw[FM f]at c;exact .inr c
    .rw[Da f]at c;cases c
end
theorem Iz{M:Ms}(h:(M.map (·.1)).Nodup):∀i m c,(i,m)∈M->(i,c)∈M->m=c:=by
 induction M with
 |nil=>intro i m c a;cases a
 |cons x M d=>
  obtain⟨j,k⟩:=x;rw[Ha,Hk]at h;intro i m c a b;rcases FC.mp a with a|a
  .rcases FC.mp b with b|b
   .cases a;cases b;rfl
   .cases a;exact(h.1 (Hn.mpr ⟨_,b,rfl⟩)).elim
  .rcases FC.mp b with b|b
   .cases b;exact(h.1 (Hn.mpr ⟨_,a,rfl⟩)).elim
   .exact d h.2 i m c a b
section
variable{P:Program}{w:World}{K:Frag}{mg:Str->Option Value}{base:Heap}{x qual:Str}{st:Stmt}{f:Addr}{fd:FuncData}{N ps:List Str}{k:Nat}{fn gn zn:List Str}{md:List Md}{mt:List (Nat×Nat)}{Φ:Nat->aW}{G:Nat->W}
theorem Cy{M:Ms}{b:Value}{A:Around}{a:List Env}{s:Shared}{H:Hp}{E:XK}(t:eE N ps (ak st))(T:Tab P w K mg base fn gn zn md mt Φ G k)(q:cC k (i8 P w K mg base N qual (ak st) f b A a s H E).A)(un:∀i m r,(i,m)∈M->(i,r)∈M->m=r):
 vv ⟨N,(ak st).names,M,fn,gn,zn,md,mt⟩ Φ (gu md) G (i8 P w K mg base N qual (ak st) f b A a s H E):=
 {hN:=rfl,nd:=t.nd,calm:=rfl,un:=q.units,nk:=λ_=>rfl,
  fns:=λj x e h=>by obtain⟨v,n,p,o,l,d,c⟩:=T.fns j x e h;exact⟨v,n,p,o,l,q.mono d,c⟩
  pM:=λj g x e h=>by obtain⟨f,fd,ps,n,p,o,l,d,c,u⟩:=T.pM j g x e h;exact⟨f,fd,ps,n,p,o,l,d,q.mono c,u⟩
  B5:=rfl,Fj:=T.Fj,vn:=T.vn,kit:=T.kit,
  bk:=by show(if(ak st).kind.isAnnotationScope then ScopeKind.function else(ak st).kind)=_;rw[t.kind];rfl
  Nj:=λ_=>rfl,L3:=T.L3,FI:=un}
theorem Cz(F:AL K x qual st f fd)(O:eE N ps (ak st))(T:Tab P w K mg base fn gn zn md mt Φ G k)(b:List CS)(M:Ms)(m:Md)(t:aW)(hM:M.all (λi=>decide (ps.length<=i.1))=true)(hu:(M.map (·.1)).Nodup)(d:dw m=false)
 (g:cA ⟨N,(ak st).names,M,fn,gn,zn,md,mt⟩ (gu md) m b (aS st)=true)(B:∀c P R,t c P R->c.length=ps.length)
 (hp:∀c P R,t c P R->wSs Φ G b ⟨fall m P,P,λ_=>False,λ_=>False,R⟩ (aA N.length c)):bE P w K mg base (iC P w) (k+1) f fd ps (Dd K ps.length m t):=by
 refine AL.QV F O (by rintro vs H Q E ⟨A,c,P,R,p,o,_⟩;rw[o.len,p]) λcdv A n s H vs Q E hr hz=>?_;obtain⟨U,c,u,R,p,o,h3,h4,L,J⟩:=hz;have y:=Iz hu;refine⟨_,fK Φ (gu md) G b (Cy O T hr y) (aS st) g,⟨U,U,none⟩,H,aA N.length c,⟨fall m u,u,λ_=>False,λ_=>False,R⟩,Ct o h3 (λi m hi=>?_) y,⟨E,HL,λC j rc l=>J C j rc l,λe Y S s1 h' a C h I hx q=>wc e Y S s1 h' a C h I hx (J C S q.1 q.2)⟩,(by rw[d];rfl),hp c u R h4,⟨λA' Z X j ea eb D S'=>?_,λw v j hw l r=>?_,λ_ _ _ _ _ _ z=>z.elim,λ_ _ _ _ _ _ z=>z.elim⟩⟩
 .rw[p];exact Ap (Hb.mp hM (i,m) hi)
 .cases m with
  |s=>exact L .aI .aI j D S'.sm (.of (by dsimp only[Rep]))
  |io _=>cases d
  |_=>exact D.elim
 .cases m with
  |io _=>cases d
  |_=>exact L w v j hw l r
theorem Ga(F:AL K x qual st f fd)(Sc:eE N ps (ak st))(T:Tab P w K mg base fn gn zn md mt Φ G k)(b:List CS)(M:Ms)(j:Md)(Sf:aW)(hM:M.all (λi=>i.1==0||decide (ps.length<=i.1))=true)(hu:(M.map (·.1)).Nodup)(U:hasB M 0 j=true)(hN:0<N.length)
 (J:cA ⟨N,(ak st).names,M,fn,gn,zn,md,mt⟩ (gu md) (.io j) b (aS st)=true)(hlen:∀h P R,Sf h P R->h.length=ps.length)
 (D:∀h P R,Sf h P R->wSs Φ G b ⟨fall (.io j) P,P,λ_=>False,λ_=>False,R⟩ (aA N.length h)):bE P w K mg base (iC P w) (k+1) f fd ps (Pg K ps.length j Sf):=by
 refine AL.QV F Sc (by rintro vs H Q E ⟨ab,F,O,v0,h,vs',P,R,e,h1,_,_,_,_,h2,_⟩;rw[e,AI,h2.len,h1]) λcdv A outer s H vs Q E hr hz=>?_;obtain⟨ab,F,O,v0,h,vs',P0,R,e,h1,nd,na,d,fp,h2,h4,h5,h6⟩:=hz;subst e;have un:=Iz hu;have U:=gW U;have Y:∀{c},au (era F H) c->pL (·∈F) H c:=λ{c} t p o e=>by
  by_cases EL:p∈F
  .obtain⟨o',e',hm⟩:=Fp.mu j fp p EL;rw[e]at e';cases e';exact .inl ⟨hm,EL⟩
  .exact .inr (t p o (by rw[F9 EL];exact e))
 refine⟨_,fK Φ (gu md) G b (Cy Sc T hr un) (aS st) J,⟨ab,λp=>ab p\/p∈F,some v0⟩,era F H,aA N.length (O::h),⟨fall (.io j) P0,P0,λ_=>False,λ_=>False,R⟩,Cw nd na d fp h2 U (λi m hi=>?_) un hN,⟨E,HL,λC c rc t=>h6 C c rc (Y t),λu σ H1 s1 h' a C L I hx q=>wc u σ H1 s1 h' a C L I hx (h6 C H1 q.1 (Y q.2))⟩,rfl,D _ P0 R h4,⟨λA' n σ' c ea eb l S'=>?_,λw v c hw t r=>?_,λ_ _ _ _ _ _ z=>z.elim,λ_ _ _ _ _ _ z=>z.elim⟩⟩
 .have:=Hb.mp hM (i,m) hi;rw[X4]at this;rcases this with z|z
  .exact .inl (IH.mp z)
  .exact .inr (by rw[h1];exact Ap z)
 .have l:(match look n 0 with|some O=>P0 (.tup [.aI,O])|none=>False):=l;cases hl:look n 0 with
  |none=>rw[hl]at l;exact l.elim
  |some y=>rw[hl]at l;obtain⟨wr,y',WK,F',e1,X,S7,Z,g,S⟩:=qG (v:=.aI) S' U hl ⟨v0,eb⟩ (by dsimp only[Rep]:Rep K A'.B c .aI .aI);cases e1;rw[eb]at X;cases X;rw[ea]at g S Z;exact h5 .aI y .aI F' c l (Y S'.sm) S7 (λp D=>Cv (Z p D).1) g S
 .obtain⟨wr,y,WK,F',rfl,X,S7,Z,g,S⟩:=r;cases X;exact h5 wr y v F' c hw (Y t) S7 (λp D=>Cv (Z p D).1) g S
end
end VL
namespace L2
open PySem PySem.Spec PyProof.Rows
abbrev rv(as:List (Addr×Rat)):List V:=as.map λx=>V.ref x.1
section
variable{X:Cx}{H:Hp}
end
end L2
namespace VL
open PySem PySem.Spec
open PyProof.Rows hiding St
open L2
section
variable{K:Frag}{A:Addr->Prop}{H H':Hp}{v:V}{p:Addr}{r:Rat}{rs:List Rat}
end
noncomputable def cE:List aW->Nat->aW
 |[],_=>λ_ _ _=>False
 |x::_,0=>x
 |_::l,n+1=>cE l n
noncomputable def dh:List W->Nat->W
 |[],_=>.aI
 |x::_,0=>x
 |_::l,n+1=>dh l n
section
variable{Q:W->Prop}{l a b:List W}{i j:Int}{x y:Str}{p q:Bool}
theorem x_len:ly .len [.lst l] Q=Q (.int l.length):=rfl
theorem zY{c:List Int}:ly .len [.di c] Q=Q (.int c.length):=rfl
theorem zX:ly .len [.tup l] Q=Q (.int l.length):=rfl
theorem GP:ly .abs [.int i] Q=Q (.int (if i<0 then-i else i)):=rfl
theorem GQ:ly .max2 [.int i,.int j] Q=Q (.int (if j>i then j else i)):=rfl
theorem GR:ly .min2 [.int i,.int j] Q=Q (.int (if j<i then j else i)):=rfl
theorem zZ:ly .list [.lst l] Q=Q (.lst l):=rfl
theorem vO:ly .list [.tup l] Q=Q (.lst l):=rfl
theorem vP:ly .tuple [.lst l] Q=Q (.tup l):=rfl
theorem rK:ly .tuple [.tup l] Q=Q (.tup l):=rfl
theorem GS:ly .int [.bl p] Q=Q (.int (if p then 1 else 0)):=rfl
theorem GU:eu .Add (.int i) (.int j) Q=Q (.int (i+j)):=rfl
theorem GV:eu .Add (.lst a) (.lst b) Q=(a.length+b.length<=sizeLine/\Q (.lst (a++b))):=rfl
theorem GW:eu .Sub (.int i) (.int j) Q=Q (.int (i -j)):=rfl
theorem GX:eu .Mult (.int i) (.int j) Q=(IntMulOk i j/\Q (.int (i*j))):=rfl
theorem GY:eu .Mult (.lst a) (.int j) Q=(-(2^63)<=j/\j<2^63/\a.length*j.toNat<=sizeLine/\Q (.lst (A0 j.toNat a).flatten)):=rfl
theorem z3:eu .FloorDiv (.int i) (.int j) Q=(sd i j/\Q (.int (i.fdiv j))):=rfl
theorem GZ:eu .Mod (.int i) (.int j) Q=(j≠0/\Q (.int (i.fmod j))):=rfl
theorem G0:eu .Pow (.int i) (.int j) Q=(uy i j/\Q (.int (i^j.toNat))):=rfl
theorem G3:eu .RShift (.int i) (.int j) Q=(0<=j/\Q (.int (i/2^j.toNat))):=rfl
theorem Nq:dz .Eq (.int i) (.int j) Q=Q (.bl (decide (i=j))):=rfl
theorem Nr:dz .NotEq (.int i) (.int j) Q=Q (.bl (!decide (i=j))):=rfl
theorem x_lt:dz .Lt (.int i) (.int j) Q=Q (.bl (decide (i<j))):=rfl
theorem Nt:dz .LtE (.int i) (.int j) Q=Q (.bl (decide (i<=j))):=rfl
theorem Nu:dz .Gt (.int i) (.int j) Q=Q (.bl (decide (j<i))):=rfl
theorem Nv:dz .GtE (.int i) (.int j) Q=Q (.bl (decide (j<=i))):=rfl
theorem G4:HV .Lt (.int i) (.int j) Q=Q (.bl (decide (i<j))):=rfl
theorem G5:HV .LtE (.int i) (.int j) Q=Q (.bl (decide (i<=j))):=rfl
theorem vQ{Q:Bool->Prop}:truth (.bl p) Q=Q p:=rfl
theorem Nx:HW (.lst l) (.int i) Q=∃w,ie l i=some w/\Q w:=rfl
theorem G7{c:List Int}:HW (.di c) (.int i) Q=∃n,ie c i=some n/\Q (.int n):=rfl
theorem G8{c:List Int}{d e:Option Int}:Q0 (.di c) d e Q=Q (.lst (jZ (c.map W.int) d e)):=rfl
theorem G6:HW (.tup l) (.int i) Q=∃w,ie l i=some w/\Q w:=rfl
theorem Ny{c d:Option Int}:Q0 (.lst l) c d Q=Q (.lst (jZ l c d)):=rfl
theorem G9{w:W}{Q:Option Int->Prop}:zQ .aI w Q=Q none:=rfl
theorem Hf{n:Int}{Q:Option Int->Prop}:zQ (.int n) (.int i) Q=Q (some i):=rfl
theorem Hg{n:Nat}{Q:Option Int->Prop}:zQ (.var n) (.int i) Q=Q (some i):=rfl
theorem Hh{o:Operator}{c d:CE}{Q:Option Int->Prop}:zQ (.bin o c d) (.int i) Q=Q (some i):=rfl
theorem vR{Q:List W->Prop}:items (.lst l) Q=Q l:=rfl
theorem rL{Q:List W->Prop}:items (.tup l) Q=Q l:=rfl
theorem IP{n:Nat}{w:W}{c:Ev}{Q:Ev->Prop}:wT true [n] w c Q=Q (c.set n (some w)):=rfl
theorem Nz{c:List Nat}{d:Ev}{Q:Ev->Prop}:wT false c (.tup l) d Q=(l.length=c.length/\Q (bU d c l)):=by
 cases c<;>rfl
theorem Hi{i j:Nat}{c:Ev}{Q:Ev->Prop}:wT false [i,j] (.tup l) c Q=(l.length=2/\Q (bU c [i,j] l)):=rfl
theorem Hj{i j k:Nat}{c:Ev}{Q:Ev->Prop}:wT false [i,j,k] (.tup l) c Q=(l.length=3/\Q (bU c [i,j,k] l)):=rfl
theorem z4:ly .len [.str x] Q=(x.length<=sizeLine/\Q (.int x.length)):=rfl
theorem z5:ly .int [.str x] Q=∃n,PySem.intText? x=some n/\x.length<=640/\Q (.int n):=rfl
theorem z6:ly .str [.int i] Q=(i.natAbs.log2<1920/\Q (.str (toString i))):=rfl
theorem z7:ly .str [.str x] Q=Q (.str x):=rfl
theorem z8:eu .Add (.str x) (.str y) Q=(x.length+y.length<=sizeLine/\Q (.str (x++y))):=rfl
theorem z9:eu .Mult (.str x) (.int i) Q=(i=3/\x.length<=1000/\Q (.str (tx (x.cps.toList++x.cps.toList++x.cps.toList)))):=rfl
theorem Hl:dz .Eq (.str x) (.str y) Q=Q (.bl (decide (x=y))):=rfl
theorem Ho:dz .NotEq (.str x) (.str y) Q=Q (.bl (!decide (x=y))):=rfl
theorem Hq:dz .In (.str x) (.str y) Q=∃c,x=tx [c]/\Q (.bl (decide (c∈y.cps.toList))):=rfl
theorem Hr:dz .In (.str x) (.lst l) Q=∃xs:List Str,l=xs.map W.str/\Q (.bl (decide (x∈xs))):=rfl
theorem Ht:HW (.str x) (.int i) Q=(x.length<=sizeLine/\∃c,ie x.cps.toList i=some c/\Q (.str (tx [c]))):=rfl
theorem Hu{c d:Option Int}:El (.str x) c d Q=(x.length<=sizeLine/\Q (.str (tx (oA x.cps.toList c d)))):=rfl
theorem Hv{c d:Option Int}:El (.tup l) c d Q=(¬(HT.bO l.length 0 c=0/\HT.bO l.length l.length d=l.length)/\Q (.tup (jZ l c d))):=rfl
theorem Hw:J0 (.str x) (.str y) (.int i) Q=(0<=i/\i<=x.length/\Q (.bl (y.cps.toList.isPrefixOf (x.cps.toList.drop i.toNat)))):=rfl
theorem Hx{C:Addr}{c:List Str}{n:Nat}:J1 n x (.obj C c l) Q=(c[n]?=some x/\∃w,l[n]?=some w/\Q w):=rfl
theorem Hy{k:Nat}{π:List gQ}{Q:Option Int->Prop}:zQ (.own k π) (.int i) Q=Q (some i):=rfl
theorem Aa{A B:Prop}:(if true=true then A else B)=A:=rfl
theorem vS{A B:Prop}:(if false=true then A else B)=B:=rfl
end
noncomputable def U1(d:Nat->aW)(G:Nat->W)(c:Bool)(e:List Nat)(b:List CS):W->Dn->Ev->Prop:=λw g a=>wT c e w a λf=>wSs d G b g f
theorem Np{d:Nat->aW}{G:Nat->W}{e:List Nat}{a:Bool}{f:CE}{b:List CS}{D:Dn}{c:Ev}:wS d G (.fr e a f b) D c=wE d G (λ_=>False) f c λz=>items z λg=>ig (U1 d G a e b) D g c:=rfl
theorem GN{d:Nat->aW}{G:Nat->W}{e:List Nat}{a:Bool}{b:List CS}{w:W}{D:Dn}{c:Ev}:U1 d G a e b w D c=wT a e w c λf=>wSs d G b D f:=rfl
noncomputable def WN{α:Type}(S:α->Ev)(J:α->Prop)(c:α->Nat)(s:α):Ev->Prop:=λa=>∃b,a=S b/\J b/\c b<c s
noncomputable def S8{α:Type}(S:α->Ev)(J:α->Prop)(d:α->Nat)(b:Dn->Ev->Prop)(D:Dn)(s:α)(k:Bool):Prop:=
 if k=true then∃N:Ev->Prop,(∀a,N a->∃e,e<d s/\∃c,a=S c/\e=d c/\J c)/\b {nx:=N,rt:=D.rt,bk:=D.nx,ct:=N,ex:=λ_=>False} (S s)else D.nx (S s)
theorem qS{α:Type}{S:α->Ev}{J:α->Prop}{a:α->Nat}{b:Dn->Ev->Prop}{D:Dn}{s:α}{k:Bool}(g:k=true->b {nx:=WN S J a s,rt:=D.rt,bk:=D.nx,ct:=WN S J a s,ex:=λ_=>False} (S s))(f:k=false->D.nx (S s)):S8 S J a b D s k:=by
 unfold S8;cases k with
 |true=>exact⟨_,by rintro c ⟨d,e,j,l⟩;exact⟨_,l,d,e,rfl,j⟩,g rfl⟩
 |false=>exact f rfl
theorem CA{c:Ev->(Bool->Prop)->Prop}{b:Dn->Ev->Prop}{D:Dn}{a:Ev}{α:Type}(S:α->Ev)(J:α->Prop)(e:α->Nat)(d:α)(h:a=S d)(g:J d)(f:∀s,J s->c (S s) (S8 S J e b D s)):J5 c b D a:=by refine⟨λm a=>∃s,a=S s/\m=e s/\J s,⟨_,d,h,rfl,g⟩,?_⟩;rintro m _ ⟨s,rfl,rfl,j⟩;exact f s j
theorem tY{α:Type}{f:W->(Option W->Prop)->Prop}{h g:α->W}:∀(b:List α)(a:List W)(Q:List W->Prop),(∀x∈b,∀K:Option W->Prop,K (some (g x))->f (h x) K)->a.length+b.length<=sizeLine->Q (a++b.map g)->lA f (b.map h) a Q
 |[],a,Q,_,_,q=>by rw[Y6,lA];simpa using q
 |w::b,a,Q,c,l,q=>by
  rw[Ha,lA];refine c w (Bn ..) _ ⟨?_,tY b _ Q (λx d=>c x (B1 _ d)) ?_ ?_⟩
  .rw[AI]at l;lia
  .rw[Dx,Gp];rw[AI]at l;lia
  .rw[PH];exact q
theorem tZ{α:Type}(x:α):∀n,(A0 n [x]).flatten=A0 n x
 |0=>rfl
 |n+1=>by rw[Ej,Gq,tZ x n];rfl
theorem ao{n:Nat}(h:n<=1000):n<=sizeLine:=Gc h (by decide)
theorem CB(K:Frag):sO K:=by intro a d b c;simp only[FC,Os,X8]at d c;rcases d with rfl|rfl|rfl|rfl|rfl|rfl<;>rcases c with rfl|rfl|rfl|rfl|rfl|rfl<;>rfl
end VL
namespace qt
open L2 PySem VL
noncomputable def xC(x:List Nat):W:=.tup [.str "name",.str (tx x)]
noncomputable def Gb(n:Nat):W:=.tup [.str "number",.int n]
noncomputable def qT(n:Nat):W:=.tup [.str "power",.int n]
noncomputable def nB:W:=.tup [.str "minus",.int 0]
noncomputable def zU(o:Nat):W:=.tup [.str (tx [o]),.int 0]
noncomputable def isLet(c:Nat):Prop:=97<=c/\c<=122
noncomputable def iF(c:Nat):Prop:=48<=c/\c<=57
inductive G:Nat->Nat->List Nat->List W->Prop where
 |sum {d:Nat} {a r:List Nat} {sa sr:List W} (h:G 1 d a sa) (k:G 4 d r sr):G 0 d (a++r) (sa++sr)
 |term {d:Nat} {a r:List Nat} {sa sr:List W} (h:G 2 d a sa) (k:G 5 d r sr):G 1 d (a++r) (sa++sr)
 |n4 {d:Nat}:G 4 d [] []
 |n5 {d:Nat}:G 5 d [] []
 |c4 {d o:Nat} {a r:List Nat} {sa sr:List W} (ho:o=43\/o=45) (h:G 1 d a sa) (k:G 4 d r sr):G 4 d (32::o::32::(a++r)) (sa++(zU o::sr))
 |c5 {d o:Nat} {a r:List Nat} {sa sr:List W} (ho:o=42\/o=47) (h:G 2 d a sa) (k:G 5 d r sr):G 5 d (32::o::32::(a++r)) (sa++(zU o::sr))
 |Nk {d k:Nat} {a:List Nat} {sa:List W} (hk:k<=30) (h:G 3 d a sa):G 2 d (A0 k 45++a) (sa++A0 k nB)
 |CC {d k e:Nat} {a:List Nat} {sa:List W} (hk:k<=30) (he:e<=12) (h:G 3 d a sa):G 2 d (A0 k 45++(a++94::dg e)) (sa++qT e::A0 k nB)
 |name {d:Nat} {x:List Nat} (h1:x≠[]) (h2:x.length<=8) (h3:∀c∈x,isLet c):G 3 d x [xC x]
 |num {d n:Nat} (h:n<10^30):G 3 d (dg n) [Gb n]
 |brk {d d':Nat} {a:List Nat} {sa:List W} (h:G 0 d a sa) (hd:d<d'):G 3 d' (40::(a++[41])) sa
theorem G.head{l d:Nat}{s:List Nat}{st:List W}(h:G l d s st):(l=3->∃c r,s=c::r/\(isLet c\/iF c\/c=40)):=by
 induction h with
 |name b f a=>
  rename_i d x
  intro _;cases x with
  |nil=>exact absurd rfl b
  |cons c r=>exact⟨c,r,rfl,.inl (a c Bn)⟩
 |num h=>
  rename_i d n
  intro _;cases e:dg n with
  |nil=>exact absurd e (pK n)
  |cons c r=>exact⟨c,r,rfl,.inr (.inl (mT n c (by rw[e];exact Bn)))⟩
 |brk h hd=>exact λ_=>⟨_,_,rfl,.inr (.inr rfl)⟩
 |_=>intro z;cases z
theorem G.mono{l d:Nat}{s:List Nat}{st:List W}(h:G l d s st):∀{d':Nat},d<=d'->G l d' s st:=by
 induction h with
 |sum _ _ i j=>exact λq=>.sum (i q) (j q)
 |term _ _ i j=>exact λq=>.term (i q) (j q)
 |n4=>exact λ_=>.n4
 |n5=>exact λ_=>.n5
 |c4 a _ _ i j=>exact λq=>.c4 a (i q) (j q)
 |c5 a _ _ i j=>exact λq=>.c5 a (i q) (j q)
 |Nk b _ i=>exact λq=>.Nk b (i q)
 |CC b c _ i=>exact λq=>.CC b c (i q)
 |name g f e=>exact λ_=>.name g f e
 |num h=>exact λ_=>.num h
 |brk h hd _=>exact λq=>.brk h (Fk hd q)
theorem G.Ql{d o:Nat}{r b:List Nat}{c e:List W}(k:o=43\/o=45)(g:G 1 d b e)(h:G 4 d r c):G 4 d (r++(32::o::32::b)) (c++(e++[zU o])):=by
 generalize f:4=l at h
 induction h with
 |n4=>have:=G.c4 k g .n4;rw[Kx]at this;exact this
 |c4 a m n i j=>have:=G.c4 a m (j g f);simpa using this
 |_=>cases f
theorem G.Qm{d o:Nat}{r b:List Nat}{c e:List W}(k:o=42\/o=47)(g:G 2 d b e)(h:G 5 d r c):G 5 d (r++(32::o::32::b)) (c++(e++[zU o])):=by
 generalize f:5=l at h
 induction h with
 |n5=>have:=G.c5 k g .n5;rw[Kx]at this;exact this
 |c5 a m n i j=>have:=G.c5 a m (j g f);simpa using this
 |_=>cases f
theorem G.Qn{d:Nat}{s:List Nat}{st:List W}(h:G 3 d s st):G 2 d s st:=by simpa using G.Nk (k:=0) (by omega) h
theorem G.Gd{d:Nat}{s:List Nat}{st:List W}(h:G 2 d s st):G 1 d s st:=by simpa using G.term h .n5
theorem G.up1{d:Nat}{s:List Nat}{st:List W}(h:G 1 d s st):G 0 d s st:=by simpa using G.sum h .n4
end qt
namespace VL
open PySem PySem.Spec
open PyProof.Rows hiding St
open L2
noncomputable def Hd(K:Frag)(x:Str)(st:Stmt):Prop:=∃(f:Addr)(d i:Option Addr)(b:Array (Option Value))(e kV g c a h:Value),
 nsIn K mainGlobals x=some (some (.ref f))/\K.lookup f=some ⟨e,d,.func (fnOf x x (bF st) (aS st) (ak st) .none kV g c i a h),b⟩/\codeIn K a x=true/\keepIn K (.ref f)=true
noncomputable def Hm(K:Frag)(C:Addr)(x q:Str)(st:Stmt):Prop:=∃(f:Addr)(d i:Option Addr)(b:Array (Option Value))(e kV g c a h:Value),
 findIn K (.ref C) x=some (some (.ref f))/\isFn K (.ref f)=true/\K.lookup f=some ⟨e,d,.func (fnOf x q (bF st) (aS st) (ak st) .none kV g c i a h),b⟩/\codeIn K a q=true/\keepIn K (.ref f)=true
structure Df(K:Frag)(mg:Str->Option Value)(x:Str)(st:Stmt)(ps:List Str)(f:Addr)(fd:FuncData):Prop where
 F:AL K x x st f fd
 m:mg x=some (.ref f)
 b:Binds K fd ps []
 bt:∀(s:Shared)(us:List Value),us.length=ps.length->BindsTo s fd ⟨us,[]⟩ (ps.zip us)
structure Dm(K:Frag)(C:Addr)(x q:Str)(st:Stmt)(ps:List Str)(f:Addr)(fd:FuncData):Prop where
 F:AL K x q st f fd
 M:Meth K C x f
 b:Binds K fd ps []
abbrev fZ(x q:Str)(st:Stmt)(ps:List Str):Prop:=∀(kV doc pm:Value)(an:Option Addr)(cdv ct:Value)(us:List Value),us.length=ps.length->bindArgs (fnOf x q (bF st) (aS st) (ak st) .none kV doc pm an cdv ct) ⟨us,[]⟩=pure (ps.zip us)
theorem oJ{α:Type}{l:List α}{n:Nat}(h:l.length=n+1):∃a r,l=a::r/\r.length=n:=by
 cases l with
 |nil=>cases h
 |cons a r=>exact⟨a,r,rfl,To h⟩
theorem Qo{K:Frag}{h:Heap}{d:Str->Option Value}{x:Str}{st:Stmt}{ps:List Str}(X:K.In h)(G:h.Ns mainGlobals d)(hd:Hd K x st)(b:fZ x x st ps):∃f j,Df K d x st ps f j:=by obtain⟨f,r,p,q,t,kV,m,g,o,n,a,l,c,k⟩:=hd;have F:=AM (st:=st) l c k;exact⟨f,_,F,PQ X G a,F.binds b,λs e i=>.of_eq (b kV m g p o n e i)⟩
theorem gj{K:Frag}{C:Addr}{x q:Str}{st:Stmt}{ps:List Str}(hd:Hm K C x q st)(b:fZ x q st ps):∃f d,Dm K C x q st ps f d:=by obtain⟨f,h,p,e,j,kV,m,g,o,n,a,i,l,c,k⟩:=hd;have F:=AM (st:=st) l c k;exact⟨f,_,F,⟨a,i,k⟩,F.binds b⟩
structure Hc(K:Frag)(mg:Str->Option Value)(x:Str)(C:Addr)(fs:List Str):Prop where
 c:mg x=some (.ref C)
 ok:oB K C fs
 U3:makesIn K C=true
 kp:keepIn K (.ref C)=true
theorem vB{K:Frag}{H:Hp}{a:Addr}{b:List Int}(d:AJ H)(c:iH K H a (b.map V.int)):Rep K (λ_=>False) H (.di b) (.ref a):=by
 refine⟨a,rfl,?_⟩;rcases c with(h|⟨o,h⟩)|h
 .rcases d a with z|⟨o,e,z⟩
  .rw[z]at h;cases h
  .rw[z]at h;cases h
 .exact .inl ⟨o,h⟩
 .exact .inr (.inr h)
noncomputable def MA:aW:=λb Q _=>∃a:List Int,b=[.di a]/\a.length<=63/\Q (.bl true)
noncomputable def xD(K:Frag):Sp:=λc H Q _=>∃(a:Addr)(b:List Int),c=[.ref a]/\AJ H/\iH K H a (b.map V.int)/\b.length<=63/\∀d,Q (.bl true) d
theorem MB{P:Program}{w:World}{K:Frag}{c:Str->Option Value}{base:Heap}{k:Nat}{f:Addr}{d:FuncData}{x:Str}(F:bE P w K c base (iC P w) k f d [x] (Dd K 1 .s MA)):bE P w K c base OA k f d [x] (xD K):=by refine(bE.OC F).imp λm H Q E ⟨a,b,e,j,i,h,q⟩=>?_;subst e;refine⟨λ_=>False,[.di b],λw=>w=.bl true,λ_=>False,rfl,.cons (vB j i) .nil,λ_ z=>z.elim,⟨b,rfl,h,rfl⟩,λw v l g _ r=>?_,λ_ _ z=>z.elim⟩;subst g;have r:=r.aO;dsimp only[Rep]at r;subst r;exact q l
theorem walk{l:PySem.W.OpenLaw}{q:Program}{b:List Str}{B:(Str->Option Value)->Heap->Prop}{m:World->Heap->Prop}{d:DefRec}{K:Params->Frag}{k:Nat}(r:l.most=some 63)(g:d.params.defaults=[])(p:cC k callerA)(C:importsNone q=true)(e:l.prog.given.tree=none)
 (v:∀(w:World)(h:Heap),m w h->(K w.params).In h)
 (F:∀(w:World)(c:Str->Option Value)(j:Addr)(h:Heap),(K w.params).In h->h.Ns mainGlobals c->c d.name=some (.ref j)->
   ∃i:FuncData,(∀(s:Shared)(u:Value),BindsTo s i ⟨[u],[]⟩ [("_law_script",u)])/\∀base:Heap,(K w.params).In base->base.Ns mainGlobals c->bE l.prog w (K w.params) c base OA k j i ["_law_script"] (xD (K w.params))):
 PySem.W.WalkO q b B m l.row.toRowW d [] (λf us=>PySem.call f us):=
 L2.DW (n:=63) (k:=k) (x:="_law_script") (CX:=λ_=>OA) (sp:=λw=>xD (K w.params)) r (by decide) g p C e v F (λ_ _ a o t A y=>⟨a,o,rfl,A,y,t,λ_=>rfl⟩) λ_ _ _ _ _ z=>z
noncomputable def Qp:aW:=λ_ _ _=>False
theorem Qq{P:Program}{w:World}{K:Frag}{d:Str->Option Value}{base:Heap}{k n:Nat}{f:Addr}{e:FuncData}{ps:List Str}:bE P w K d base (iC P w) k f e ps (oF K n .s Qp):=
 ⟨by rintro c H Q E ⟨_,_,_,_,_,_,_,z,_⟩;exact z.elim,by rintro A a s H b g c Q E h j i r ⟨_,_,_,_,_,_,_,z,_⟩;exact z.elim⟩
theorem Df.iP{P:Program}{w:World}{K:Frag}{d:Str->Option Value}{base:Heap}{x:Str}{st:Stmt}{ps:List Str}{f:Addr}{h:FuncData}{k n:Nat}{m:Md}{sp:aW}(D:Df K d x st ps f h)(F:bE P w K d base (iC P w) k f h ps (oF K n m sp))(j:n=ps.length)(i:∀a P R,sp a P R->a.length=n){e:Nat}(l:k<=e):
 ∃g n c,d x=some g/\b3 P w K d base c g n (oF K n m sp)/\c<=e/\∀a P R,sp a P R->a.length=n:=by
 subst j;exact⟨_,_,k,D.m,.fn D.F.kp D.b F,l,i⟩
end VL
namespace VL
open PySem PySem.Spec
open PyProof.Rows hiding St
open L2 Num
abbrev bL(m:Md)(P:W->Prop)(R:Addr->Prop):Dn:=⟨fall m P,P,λ_=>False,λ_=>False,R⟩
noncomputable def wI(a:List Int):W:=.lst (a.map W.int)
theorem gX{b:W->Dn->Ev->Prop}{D:Dn}{d:List W}{a:Ev}(J:Nat->Ev->Prop)(m:J 0 a)(l:∀i w a N,d[i]?=some w->J i a->(∀c,J (i+1) c->N c)->b w ⟨N,D.rt,D.nx,N,λ_=>False⟩ a)(he:∀a,J d.length a->D.nx a):ig b D d a:=by
 have:∀k i a,i+k=d.length->J i a->ig b D (d.drop i) a:=by
  intro k
  induction k with
  |zero=>intro i a e j;rw[List.drop_of_length_le (by lia),ig];exact he a (by rw[<-e];exact j)
  |succ k h=>
   intro i a e j;have f:i<d.length:=by lia
   rw[Qr f,ig];exact l i _ a _ (DL f) j λc g=>h (i+1) c (by lia) g
 exact this d.length 0 a (by lia) m
theorem eL{x y:Int}{n m:Nat}(h:x.natAbs<2^n)(b:y.natAbs<2^m)(a:n+m<=134217728):IntMulOk x y:=uO (Gc (Nat.add_le_add (bits_le h) (bits_le b)) a)
theorem kC{y:Int}{n:Nat}(h:y.natAbs<2^n)(a:n<=8000):y.natAbs.log2<1000000000:=by
 rcases Y7 y.natAbs with e|e
 .rw[e];decide
 .have:=(SA (Y5 e)).mpr h;lia
theorem MC{n i:Nat}{w:W}(h:(gr 0 1 n)[i]?=some w):i<n/\w=.int i:=by unfold gr at h;rw[Fm]at h;obtain⟨j,e,rfl⟩:=Kk.mp h;obtain⟨b,a⟩:=GE.mp e;rw[List.getElem_range]at a;rw[YB]at b;refine⟨b,?_⟩;rw[<-a];simp
theorem Ge(n:Nat):(gr 0 1 n).length=n:=by unfold gr;simp
theorem fm{x:Int}{n:Int}(a:0<n):0<=x.fmod n/\x.fmod n<n:=⟨Int.fmod_nonneg_of_pos x a,Int.fmod_lt_of_pos x a⟩
theorem aY{b:Nat->aW}{G:Nat->W}{s t:CS}{d:List CS}{D:Dn}{c:Ev}(J:Ev->Prop)(f:∀N:Ev->Prop,(∀a,J a->N a)->wS b G s {D with nx:=N} c)(e:∀a,J a->wSs b G (t::d) D a):wSs b G (s::t::d) D c:=f _ e
end VL
namespace L2
open PySem
end L2
namespace VL
open PySem PySem.Spec
open PyProof.Rows hiding St
open L2 Num
end VL
namespace L2
open PySem
end L2
namespace VL
open PySem PySem.Spec
open PyProof.Rows hiding St
open L2 Num
structure U4(A B fA fB:List Int)(ld h:Int)(N E:Nat):Prop where
 l2:2<=B.length
 XU:B.length<=A.length
 XW:A.length<=15
 lf:fA.length<=40
 V4:fB.length<=40
 bA:∀x∈A,x.natAbs<2^N
 bB:∀x∈B,x.natAbs<2^N
 XX:∀x∈fA,x.natAbs<2^N
 XY:∀x∈fB,x.natAbs<2^N
 bl:ld.natAbs<2^N
 bh:h.natAbs<2^N
 hN:N<=5000
 hE:E<=12000
 k0:ld*h^(A.length -B.length)≠0
 kE:(ld*h^(A.length -B.length)).natAbs<=2^E
 h0:0<A.length -B.length->h^(A.length -B.length -1)≠0/\(h^(A.length -B.length -1)).natAbs<=2^E
noncomputable def IA(x:Addr)(H H':Hp):Prop:=∀b o,b≠x->H b=some o->H' b=some o
theorem xE{K:Frag}{A:Addr->Prop}{H:Hp}(i:Int):Rep K A H (.int i) (.int i):=by dsimp only[Rep]
end VL
namespace VL
open PySem PySem.Spec
open PyProof.Rows hiding St
open L2
noncomputable def S9(P:Program)(w:World)(K:Frag)(a:Str->Option Value)(base:Heap)(k:Nat):List Str->List Md->List aW->Prop
 |x::fn,m::e,S::Ss=>(∃d n c,a x=some d/\b3 P w K a base c d n (oF K n m S)/\c<=k/\∀b P R,S b P R->b.length=n)/\S9 P w K a base k fn e Ss
 |[],_,_=>True
 |_,_,_=>False
theorem CD{P:Program}{w:World}{K:Frag}{b:Str->Option Value}{base:Heap}{k:Nat}:∀{fn:List Str}{a:List Md}{Ss:List aW},S9 P w K b base k fn a Ss->∀(j:Nat)(x:Str),fn[j]?=some x->∃f n d,b x=some f/\b3 P w K b base d f n (oF K n (gu a j) (cE Ss j))/\d<=k/\∀c P R,cE Ss j c P R->c.length=n
 |y::fn,m::a,S::Ss,h,0,x,e=>by
  cases e;exact h.1
 |y::fn,m::a,S::Ss,h,j+1,x,e=>CD (fn:=fn) h.2 j x e
 |[],_,_,_,j,x,e=>by cases e
 |_::_,[],_,h,_,_,_=>h.elim
 |_::_,_::_,[],h,_,_,_=>h.elim
noncomputable def iQ(st:Stmt):List Str:=(bF st).args.map (·.arg)
noncomputable def Tc:NameKind->Bool
 |.local=>true
 |.cell=>true
 |_=>false
noncomputable def IB(st:Stmt):List Str:=((ak st).names.filter λy=>Tc y.2).map (·.1)
abbrev DT:=List (Str×Nat)
noncomputable def vC(DD:DT)(j:Nat):Str:=match DD[j]? with
 |some y=>y.1
 |none=>""
noncomputable def Gf(K:Frag)(a:Nat->Stmt):DT->Prop
 |[]=>True
 |(x,i)::l=>(Hd K x (a i)/\fZ x x (a i) (iQ (a i)))/\Gf K a l
noncomputable def Gg(K:Frag):List Str->Prop
 |[]=>True
 |x::l=>nsIn K mainGlobals x=some none/\Gg K l
structure TT(K:Frag)(mg:Str->Option Value)(tp:Nat->Stmt)(DD:DT)(ZZ:List Str)where
 f:Nat->Addr
 d:Nat->FuncData
 D:∀{j:Nat}{x:Str}{i:Nat},DD[j]?=some (x,i)->Df K mg x (tp i) (iQ (tp i)) (f j) (d j)
 Z:∀x∈ZZ,mg x=none
section
variable{P:Program}{w:World}{K:Frag}{mg:Str->Option Value}{base:Heap}{tp:Nat->Stmt}{DD:DT}{ZZ:List Str}
theorem xF{h:Heap}(X:K.In h)(G:h.Ns mainGlobals mg):∀{DD:DT}{j:Nat}{x:Str}{i:Nat},Gf K tp DD->DD[j]?=some (x,i)->∃f a,Df K mg x (tp i) (iQ (tp i)) f a
 |(y,n)::DD,0,x,i,h,e=>by
  cases e;exact Qo X G h.1.1 h.1.2
 |(y,n)::DD,j+1,x,i,h,e=>xF X G (DD:=DD) h.2 e
theorem xG{h:Heap}(X:K.In h)(G:h.Ns mainGlobals mg):∀{ZZ:List Str},Gg K ZZ->∀x∈ZZ,mg x=none
 |y::ZZ,h,x,a=>by
  rcases FC.mp a with e|a
  .rw[e];exact PySem.W.mg_none_of X G h.1
  .exact xG X G h.2 x a
open Classical in
theorem Qs{h:Heap}(X:K.In h)(G:h.Ns mainGlobals mg)(a:Gf K tp DD)(z:Gg K ZZ):Nonempty (TT K mg tp DD ZZ):=by
 have H:∀j:Nat,∃f b,∀x i,DD[j]?=some (x,i)->Df K mg x (tp i) (iQ (tp i)) f b:=λj=>by
  cases e:DD[j]? with
  |none=>exact⟨0,fnOf "" "" (bF (tp 0)) (aS (tp 0)) (ak (tp 0)) .none .none .none .none none .none .none,λx i q=>nn q⟩
  |some y=>obtain⟨f,b,D⟩:=xF X G a e;exact⟨f,b,λx i q=>by cases q;exact D⟩
 exact⟨⟨λj=>choose (H j),λj=>choose (choose_spec (H j)),λ{j x i} e=>choose_spec (choose_spec (H j)) x i e,xG X G z⟩⟩
noncomputable def Cl(P:Program)(w:World)(K:Frag)(mg:Str->Option Value)(base:Heap)(DD:DT)(k j:Nat)(m:Md)(S:aW):Prop:=∃c n b,mg (vC DD j)=some c/\b3 P w K mg base b c n (oF K n m S)/\b<=k/\∀a P R,S a P R->a.length=n
noncomputable def zl(P:Program)(w:World)(K:Frag)(mg:Str->Option Value)(base:Heap)(DD:DT):List (Nat×Md×Nat)->List aW->Prop
 |(j,m,k)::iP,S::Ss=>Cl P w K mg base DD k j m S/\zl P w K mg base DD iP Ss
 |[],_=>True
 |_::_,[]=>False
theorem xH{k:Nat}:∀{a:List (Nat×Md×Nat)}{Ss:List aW},zl P w K mg base DD a Ss->a.all (λy=>decide (y.2.2<=k))=true->S9 P w K mg base k (a.map λy=>vC DD y.1) (a.map (·.2.1)) Ss
 |(j,m,k')::a,S::Ss,h,hk=>by rw[BQ,AC]at hk;obtain⟨f,n,k2,e,d,c,b⟩:=h.1;exact⟨⟨f,n,k2,e,d,Gc c (Ap hk.1),b⟩,xH h.2 hk.2⟩
 |[],_,_,_=>trivial
 |_::_,[],h,_=>h.elim
noncomputable def Gn(K:Frag)(mg:Str->Option Value)(x:Str)(u:W):Prop:=(∃v z,mg x=some v/\RelV z v/\∀B H,Rep K B H u z)/\∀C,u=.cls C->RY K C
noncomputable def MD(K:Frag)(mg:Str->Option Value):List Str->List W->Prop
 |x::gn,u::Gs=>Gn K mg x u/\MD K mg gn Gs
 |[],_=>True
 |_::_,[]=>False
theorem nD:∀{gn:List Str}{Gs:List W},MD K mg gn Gs->∀(j:Nat)(x:Str),gn[j]?=some x->Gn K mg x (dh Gs j)
 |y::gn,u::Gs,h,0,x,e=>by
  cases e;exact h.1
 |y::gn,u::Gs,h,j+1,x,e=>nD (gn:=gn) h.2 j x e
 |_::_,[],h,_,_,_=>h.elim
 |[],_,_,_,_,e=>by cases e
theorem Qt{k:Nat}{a:List (Nat×Md×Nat)}{Ss:List aW}{gn:List Str}{Gs:List W}(T:TT K mg tp DD ZZ)(h:zl P w K mg base DD a Ss)(b:a.all (λy=>decide (y.2.2<=k))=true)(g:MD K mg gn Gs):Tab P w K mg base (a.map λy=>vC DD y.1) gn ZZ (a.map (·.2.1)) [] (cE Ss) (dh Gs) k:=
 ⟨λj x e _=>CD (xH h b) j x e,λ_ _ _ _ h=>(by cases h),λj x e=>(nD g j x e).1,T.Z,CB K,λj x C e q=>(nD g j x e).2 C q⟩
noncomputable def zV(ZZ:List Str)(st:Stmt)(np n:Nat)(M:Ms)(fn gn:List Str)(a:List Md)(b:List (Nat×Nat))(m:Md)(c:List CS):Bool:=
 decide (((ak st).kind=.function/\(ak st).isCoroutine=false/\(ak st).isGenerator=false/\(IB st).Nodup/\(IB st).take (iQ st).length=iQ st)/\(∀x∈iQ st,(ak st).names.lookup x=some .local\/(ak st).names.lookup x=some .cell)/\(∀y∈(ak st).names,y.2≠.free)/\(iQ st).length=np/\(IB st).length=n/\(M.map (·.1)).Nodup)&&(M.all (λi=>decide (np<=i.1))&&!dw m&&cA ⟨IB st,(ak st).names,M,fn,gn,ZZ,a,b⟩ (gu a) m c (aS st))
theorem Qu{np n j i:Nat}{x:Str}{M:Ms}{fn gn:List Str}{l:List Md}{h:List (Nat×Nat)}{m:Md}{c:List CS}{g:Nat->aW}{G:Nat->W}{k:Nat}{S:aW}(T:TT K mg tp DD ZZ)(r:DD[j]?=some (x,i))(e:zV ZZ (tp i) np n M fn gn l h m c=true)(o:Tab P w K mg base fn gn ZZ l h g G k)(q:∀a P R,S a P R->a.length=np)(p:∀a Q R,S a Q R->wSs g G c (bL m Q R) (aA n a)):
 bE P w K mg base (iC P w) (k+1) (T.f j) (T.d j) (iQ (tp i)) (oF K np m S):=by
 unfold zV at e;rw[AC,AC,AC]at e;obtain⟨v,⟨u,t⟩,s⟩:=e;obtain⟨⟨I,a2,a3,H,E⟩,C,B,z,y,A⟩:=Ap v;have b:dw m=false:=by simpa using t
 subst z y;have:=Cz (T.D r).F ⟨I,a2,a3,H,E,C,B⟩ o c M m S u A b s q p;cases m<;>first|exact this|cases b
theorem CF{np j i k:Nat}{x:Str}{m:Md}{S:aW}(T:TT K mg tp DD ZZ)(b:DD[j]?=some (x,i))(c:np=(iQ (tp i)).length)(F:bE P w K mg base (iC P w) k (T.f j) (T.d j) (iQ (tp i)) (oF K np m S))(g:∀a P R,S a P R->a.length=np):Cl P w K mg base DD k j m S:=by
 have e:vC DD j=x:=by unfold vC;rw[b]
 unfold Cl;rw[e];exact(T.D b).iP F c g (Bz k)
theorem vD{np n:Nat}{st:Stmt}{M:Ms}{fn gn:List Str}{b:List Md}{a:List (Nat×Nat)}{m:Md}{c:List CS}(h:zV ZZ st np n M fn gn b a m c=true):np=(iQ st).length:=by unfold zV at h;rw[AC]at h;exact(Ap h.1).2.2.2.1.symm
theorem Td{n j i:Nat}{x:Str}{Gs:List W}{m:Md}{c:List CS}{Ss:List aW}{k:Nat}{S:aW}(T:TT K mg tp DD ZZ)(o:DD[j]?=some (x,i))(np:Nat)(M:Ms)(b:List (Nat×Md×Nat))(gn:List Str)(p:∀a Q R,S a Q R->wSs (cE Ss) (dh Gs) c (bL m Q R) (aA n a))(h:zl P w K mg base DD b Ss)(g:MD K mg gn Gs)(e:(b.all (λy=>decide (y.2.2<=k))&&zV ZZ (tp i) np n M (b.map λy=>vC DD y.1) gn (b.map (·.2.1)) [] m c)=true)(l:∀a P R,S a P R->a.length=np):bE P w K mg base (iC P w) (k+1) (T.f j) (T.d j) (iQ (tp i)) (oF K np m S):=by rw[AC]at e;exact Qu T o e.2 (Qt T h e.1 g) l p
theorem Qv{n j i:Nat}{x:Str}{Gs:List W}{m:Md}{c:List CS}{Ss:List aW}{k:Nat}{S:aW}(T:TT K mg tp DD ZZ)(f:DD[j]?=some (x,i))(np:Nat)(M:Ms)(b:List (Nat×Md×Nat))(gn:List Str)(p:∀a Q R,S a Q R->wSs (cE Ss) (dh Gs) c (bL m Q R) (aA n a))(h:zl P w K mg base DD b Ss)(g:MD K mg gn Gs)(d:(b.all (λy=>decide (y.2.2<=k))&&zV ZZ (tp i) np n M (b.map λy=>vC DD y.1) gn (b.map (·.2.1)) [] m c)=true)(e:∀a P R,S a P R->a.length=np):Cl P w K mg base DD (k+1) j m S:=by have F:=Td T f np M b gn p h g d e;rw[AC]at d;exact CF T f (vD d.2) F e
theorem zm{n j i:Nat}{x:Str}{m:Md}{c:List CS}{Ss:List aW}{k:Nat}{S:aW}(T:TT K mg tp DD ZZ)(f:DD[j]?=some (x,i))(np:Nat)(M:Ms)(b:List (Nat×Md×Nat))(p:∀a Q R,S a Q R->wSs (cE Ss) (dh []) c (bL m Q R) (aA n a))(h:zl P w K mg base DD b Ss)(e:(b.all (λy=>decide (y.2.2<=k))&&zV ZZ (tp i) np n M (b.map λy=>vC DD y.1) [] (b.map (·.2.1)) [] m c)=true)(d:∀a P R,S a P R->a.length=np):Cl P w K mg base DD (k+1) j m S:=Qv T f np M b [] p h trivial e d
theorem vE{n j i:Nat}{x:Str}{m:Md}{c:List CS}{S:aW}(T:TT K mg tp DD ZZ)(e:DD[j]?=some (x,i))(np:Nat)(M:Ms)(p:∀a Q R,S a Q R->wSs (cE []) (dh []) c (bL m Q R) (aA n a))(d:zV ZZ (tp i) np n M [] [] [] [] m c=true)(b:∀a P R,S a P R->a.length=np):Cl P w K mg base DD 1 j m S:=Qv (k:=0) T e np M [] [] p trivial trivial d b
theorem Qw{k j i np:Nat}{x:Str}(T:TT K mg tp DD ZZ)(b:DD[j]?=some (x,i))(a:np=(iQ (tp i)).length):Cl P w K mg base DD k j .s Qp:=CF T b a Qq λ_ _ _ z=>z.elim
end
end VL
namespace VL
open PySem PySem.Spec
open PyProof.Rows hiding St
open L2 qt
abbrev FS:List Str:=["text","place","brackets","steps"]
abbrev xJ:Md:=.o FS [.s,.s,.s,.f]
abbrev U5:Md:=.o FS [.s,.s,.s,.s]
abbrev Ob(C:Addr)(t:List Nat)(p b:Nat)(w:W):W:=.obj C FS [.str (tx t),.int (p:Nat),.int (b:Nat),w]
abbrev cText:CE:=.own 0 [.fl 0 "text"]
abbrev dN:CE:=.own 0 [.fl 1 "place"]
abbrev ME:CE:=.own 0 [.fl 2 "brackets"]
abbrev nE:List gQ:=[.fl 3 "steps"]
noncomputable def bu(C:Addr):aW:=λa Q _=>∃(t y:List Nat)(p b:Nat)(w:W),a=[Ob C t p b w,.str (tx y)]/\p<=t.length/\Q (.tup [.bl (y.isPrefixOf (t.drop p)),Ob C t p b w])
noncomputable def gY:List CS:=[.HS (.M9 cText (.var 1) dN)]
theorem zo{C:Addr}{c:Nat->aW}{G:Nat->W}{m:Md}(a:List W)(Q:W->Prop)(R:Addr->Prop)(h:bu C a Q R):wSs c G gY (bL m Q R) (aA 2 a):=by obtain⟨t,y,p,b,w,rfl,e,d⟩:=h;show wSs _ _ gY _ [some _,some _];unfold gY;fin2;refine⟨rfl,by omega,by omega,?_⟩;exact d
noncomputable def bX(C:Addr):aW:=λf Q _=>∃(d e:List Nat)(a o c b:Nat)(w:W),f=[Ob C (d++a::o::c::e) d.length b w]/\(d++a::o::c::e).length<=1000/\Q (.tup [.str (tx [o]),Ob C (d++a::o::c::e) (d.length+3) b w])
noncomputable def eO:List CS:=[.set 1 (.ix cText (.bin .Add dN (.int 1))),.Bh 0 1 (.bin .Add dN (.int 3)),.HS (.var 1)]
theorem dO{α:Type}{l:List α}{n:Nat}{x:α}(h:l[n]?=some x):ie l (n:Int)=some x:=by
 have a:=(GE.mp h).1;unfold ie;have:AE l.length (n:Int)=some n:=by unfold AE;simp;omega
 rw[this];exact h
theorem t6{C:Addr}{g:Nat->aW}{G:Nat->W}{m:Md}(e:List W)(Q:W->Prop)(R:Addr->Prop)(h:bX C e Q R):wSs g G eO (bL m Q R) (aA 2 e):=by
 obtain⟨d,f,a,o,c,b,w,rfl,j,i⟩:=h;show wSs _ _ eO _ [some _,none];unfold eO;fin2;refine⟨ao j,o,?_,?_⟩
 .exact dO (n:=d.length+1) (by rw[KM (by omega)];simp)
 .fin2;refine⟨by simp,?_⟩;exact i
noncomputable def bx:aW:=λa Q _=>∃(n m:Nat),a=[.str (tx (dg n)),.int m]/\(dg n).length<=m/\m<=30/\Q (.int n)
noncomputable def dP:List CS:=[.iff (.or [.cmp .Eq (.var 0) (.str ""),.cmp .Gt (.blt .len [.var 0]) (.var 1)]) [.yK] [],.iff (.and [.cmp .Eq (.ix (.var 0) (.int 0)) (.str "0"),.cmp .NotEq (.var 0) (.str "0")]) [.yK] [],.ret (.blt .int [.var 0])]
theorem xK:("":Str)=tx []:=by decide+kernel
theorem WL:("0":Str)=tx [48]:=by decide+kernel
theorem nF(a b:List Nat):decide (tx a=tx b)=decide (a=b):=YG.mpr ⟨uT,λe=>by rw[e]⟩
theorem nG{g:Nat->aW}{G:Nat->W}{m:Md}(f:List W)(Q:W->Prop)(R:Addr->Prop)(h:bx f Q R):wSs g G dP (bL m Q R) (aA 2 f):=by
 obtain⟨n,m,rfl,j,k,i⟩:=h;show wSs _ _ dP _ [some _,some _];unfold dP;fin2;rw[xK,nF,Fn (pK n)];fin2;refine⟨ao (by omega),?_⟩;rw[Fn (by omega)];fin2;cases e:dg n with
 |nil=>exact absurd e (pK n)
 |cons c r=>
  refine⟨ao (by rw[e]at j;omega),c,dO (n:=0) rfl,?_⟩;rw[WL,nF,nF];have b:∃a,intText? (tx (c::r))=some a/\(tx (c::r)).length<=640/\Q (.int a):=by
   refine⟨n,?_,by rw[<-e,p7];omega,i⟩;have hd:NumText.AllDigits (tx (c::r)).cps.toList:=by rw[jM,<-e];exact mT n
   have:=PySem.intText_digits hd (by rw[jM];exact List.cons_ne_nil _ _) (by rw[<-e,p7];omega);rw[jM,<-e,uU]at this;rw[<-e];exact this
  by_cases d:c=48
  .have:=Ei n c r e d;subst this;subst d;rw[GM rfl];fin2;exact b
  .rw[Fn (λz=>d (by cases z;rfl))];fin2;exact b
noncomputable def bD(C:Addr):aW:=λf Q _=>∃(e d a sg:List Nat)(b:Nat)(w:W),f=[Ob C (e++(d++a)) e.length b w,.str (tx sg)]/\(∀c∈d,c∈sg)/\(∀c r,a=c::r->c∉sg)/\(e++(d++a)).length<=1000/\Q (.tup [.str (tx d),Ob C (e++(d++a)) (e.length+d.length) b w])
noncomputable def dQ:List CS:=[.set 2 dN,.Nb (.and [.cmp .Lt dN (.blt .len [cText]),.cmp .In (.ix cText dN) (.var 1)]) [.Bh 0 1 (.bin .Add dN (.int 1))],.HS (.slt cText (.var 2) dN)]
theorem Gh(a b c:List Nat):oA (a++(b++c)) (some (a.length:Int)) (some ((a.length+b.length:Nat):Int))=b:=by
 unfold oA;have e:HT.bO (a++(b++c)).length 0 (some (a.length:Int))=a.length:=by unfold HT.bO;simp;omega
 have f:(a++(b++c)).length=a.length+(b.length+c.length):=by simp
 have d:HT.bO (a++(b++c)).length (a++(b++c)).length (some ((a.length+b.length:Nat):Int))=a.length+b.length:=by unfold HT.bO;dsimp only;rw[Da (by omega),O6];omega
 rw[e,d,Y9,YK,UY]
theorem nH{C:Addr}{s:Nat->aW}{G:Nat->W}{m:Md}(n:List W)(Q:W->Prop)(R:Addr->Prop)(h:bD C n Q R):wSs s G dQ (bL m Q R) (aA 3 n):=by
 obtain⟨f,a,d,sg,b,w,rfl,t,v,i,u⟩:=h;show wSs _ _ dQ _ [some _,some _,none];unfold dQ;fin2;have o:(f++(a++d)).length=f.length+(a.length+d.length):=by simp
 refine CA (α:=Nat) (λk=>[some (Ob C (f++(a++d)) (f.length+k) b w),some (.str (tx sg)),some (.int (f.length:Nat))]) (λk=>k<=a.length) (λk=>a.length -k) 0 rfl (L9 _) λk A=>?_;fin2;refine⟨ao i,?_⟩;have g:k=a.length->(bL m Q R).rt (.tup [.str (tx (oA (f++(a++d)) (some (f.length:Int)) (some ((f.length+k:Nat):Int)))),Ob C (f++(a++d)) (f.length+k) b w]):=λe=>by rw[e,Gh];exact u
 by_cases B:f.length+k<(f++(a++d)).length
 .rw[GM (by omega)];fin2;have j:∃c,(a++d)[k]?=some c/\((k<a.length/\c∈sg)\/(k=a.length/\c∉sg)):=by
   rcases UF k a.length with z|z
   .refine⟨a[k],?_,.inl ⟨z,t _ (Mo z)⟩⟩;rw[P2 z,DL z]
   .have e:k=a.length:=by omega
    cases p:d with
    |nil=>have:=Kt IY p;rw[G2]at this;omega
    |cons c r=>refine⟨c,?_,.inr ⟨e,v c r p⟩⟩;rw[KM z,e];simp
  obtain⟨c,x,l⟩:=j;refine⟨ao i,c,dO (by rw[KM (by omega),YK];exact x),c,rfl,?_⟩;rcases l with⟨z,y⟩|⟨z,y⟩
  .refine qS (λ_=>?_) (λq=>absurd y (of_decide_eq_false q));fin2;exact⟨by simp,k+1,rfl,by omega,by show a.length -(k+1)<a.length -k;omega⟩
  .refine qS (λq=>absurd (Ap q) y) (λ_=>?_);fin2;exact⟨ao i,g z⟩
 .rw[Fn (by omega)];fin2;refine qS (λz=>by cases z) (λ_=>?_);fin2;exact⟨ao i,g (by omega)⟩
noncomputable def st3(p:List Nat):Prop:=∀c r,p=c::r->¬isLet c/\¬iF c
noncomputable def st2(p:List Nat):Prop:=st3 p/\∀r,p≠94::r
noncomputable def st1(p:List Nat):Prop:=st2 p/\∀r,p≠32::42::32::r/\p≠32::47::32::r
noncomputable def zk(p:List Nat):Prop:=st1 p/\∀r,p≠32::43::32::r/\p≠32::45::32::r
theorem Qx{a b c:Nat}:∀{p:List Nat},(∀r,p≠a::b::c::r)->CK [a,b,c] p=false:=λ{p} h=>by rw[Tj];intro z;obtain⟨t,e⟩:=Y8.mp z;exact h t e.symm
theorem Gi{a:Nat}:∀{p:List Nat},(∀r,p≠a::r)->CK [a] p=false:=λ{p} h=>by rw[Tj];intro z;obtain⟨t,e⟩:=Y8.mp z;exact h t e.symm
noncomputable def bN(i d:Nat)(f:List Nat->Prop)(C:Addr):aW:=λh Q _=>∃(c s a:List Nat)(b:Nat)(e g:List W),h=[Ob C (c++(s++a)) c.length b (.lst e)]/\qt.G i d s g/\f a/\b+d<=30/\(c++(s++a)).length<=1000/\e.length<=c.length/\Q (.tup [.aI,Ob C (c++(s++a)) (c.length+s.length) b (.lst (e++g))])
theorem _root_.qt.G.few{l d:Nat}{s:List Nat}{st:List W}(h:qt.G l d s st):st.length<=s.length:=by
 induction h with
 |sum _ _ i j=>simp;omega
 |term _ _ i j=>simp;omega
 |n4=>simp
 |n5=>simp
 |c4 a _ _ i j=>simp;omega
 |c5 a _ _ i j=>simp;omega
 |Nk b _ i=>simp;omega
 |CC b g _ i=>simp;omega
 |name f m k=>
  rename_i d x
  cases x with
  |nil=>exact absurd rfl f
  |cons c r=>simp
 |num h=>
  rename_i d n
  cases e:dg n with
  |nil=>exact absurd e (pK n)
  |cons c r=>simp
 |brk h hd i=>simp;omega
inductive TL(lv d o1 o2:Nat):List Nat->List W->Prop where
 |nil:TL lv d o1 o2 [] []
 |cons {o:Nat} {a r:List Nat} {sa sr:List W} (ho:o=o1\/o=o2) (h:qt.G lv d a sa) (k:TL lv d o1 o2 r sr):TL lv d o1 o2 (32::o::32::(a++r)) (sa++(zU o::sr))
theorem WM{d:Nat}{r:List Nat}{a:List W}(h:qt.G 4 d r a):TL 1 d 43 45 r a:=by
 generalize b:4=l at h
 induction h with
 |n4=>exact .nil
 |c4 c e _ _ j=>exact .cons c e (j b)
 |_=>cases b
theorem WO{d:Nat}{r:List Nat}{a:List W}(h:qt.G 5 d r a):TL 2 d 42 47 r a:=by
 generalize b:5=l at h
 induction h with
 |n5=>exact .nil
 |c5 c e _ _ j=>exact .cons c e (j b)
 |_=>cases b
noncomputable def gZ(a s2:Str):List CS:=[.zP (.i9 0 0 0 []),.OQ (.or [.i9 0 0 1 [.str a],.i9 0 0 1 [.str s2]]) [.qy 1 (.i9 0 0 2 []),.zP (.i9 0 0 0 []),.HR 0 nE (.tup [.var 1,.int 0])]]
theorem xM{C:Addr}{t d o1 o2:Nat}{s1 s2:Str}{I:List Nat->Prop}{m:Md}(e1:s1=tx [32,o1,32])(e2:s2=tx [32,o2,32])(ne:o1≠o2)
 {f c a r:List Nat}{b:Nat}{j y v:List W}{Q:W->Prop}{R:Addr->Prop}(ha:qt.G t d a y)(hr:TL t d o1 o2 r v)(h0:I c)(T:∀r,c≠32::o1::32::r)(S:∀r,c≠32::o2::32::r)(hs:∀o r,o=o1\/o=o2->I (32::o::32::r))
 (hb:b+d<=30)(L:(f++((a++r)++c)).length<=1000)(P:j.length<=f.length)(hq:Q (.tup [.aI,Ob C (f++((a++r)++c)) (f.length+(a++r).length) b (.lst (j++(y++v)))])):
 wSs (cE [bN t d I C,bu C,bX C]) (dh [.cls C]) (gZ s1 s2) (bL (.io m) Q R) [some (Ob C (f++((a++r)++c)) f.length b (.lst j)),none]:=by
 have sz:∀n,n<=1000->n<=sizeLine:=λn h=>ao h;have U7:∀{r v},TL t d o1 o2 r v->I (r++c):=λh=>by
  cases h with
  |nil=>exact h0
  |cons A _ _=>exact hs _ _ A
 generalize K:f++((a++r)++c)=e at L hq⊢;unfold gZ;fin2;refine⟨rfl,f,a,r++c,b,j,y,?_,ha,U7 hr,hb,?_,P,_,_,rfl,?_⟩
 .rw[<-K,PH]
 .rw[<-PH a,K];exact L
 have ew:f++(a++(r++c))=e:=by rw[<-K,PH]
 rw[ew];have few:=ha.few;refine⟨λm J=>∃(g q:List Nat)(p x:List W)(s:Option W),g++(q++c)=e/\TL t d o1 o2 q x/\p++x=j++(y++v)/\p.length<=g.length/\m=q.length/\J=[some (Ob C e g.length b (.lst p)),s],⟨r.length,f++a,r,j++y,v,none,by rw[<-ew];simp,hr,by simp,by simp;omega,rfl,by rw[Dx]⟩,?_⟩;rintro O J ⟨g,q,p,x,s,E,g2,U,g4,rfl,rfl⟩;have M:g.length<=e.length:=by rw[<-E,Dx];omega
 have Z:e.drop g.length=q++c:=by rw[<-E,Y9]
 fin2;refine⟨rfl,e,[32,o1,32],g.length,b,_,by rw[e1],M,_,_,rfl,?_⟩;rw[Z];fin2;have u:∀(o:Nat)(k l:List Nat)(i w:List W)(s:Option W)(N:Ev->Prop),o=o1\/o=o2->q=32::o::32::(k++l)->x=i++(zU o::w)->qt.G t d k i->TL t d o1 o2 l w->
  N=(λJ=>∃O,O<q.length/\∃(g q:List Nat)(p x:List W)(s:Option W),g++(q++c)=e/\TL t d o1 o2 q x/\p++x=j++(y++v)/\p.length<=g.length/\O=q.length/\J=[some (Ob C e g.length b (.lst p)),s])->
  wSs (cE [bN t d I C,bu C,bX C]) (dh [.cls C]) [.qy 1 (.i9 0 0 2 []),.zP (.i9 0 0 0 []),.HR 0 nE (.tup [.var 1,.int 0])] {nx:=N,rt:=(bL (.io m) Q R).rt,bk:=(bL (.io m) Q R).nx,ct:=N,ex:=λ_=>False} [some (Ob C e g.length b (.lst p)),s]:=λo k l i w s N A er es D B eN=>by
  subst er es eN;have H:g++(32::o::32::((k++l)++c))=e:=by rw[<-E];simp
  have F:(g++[32,o,32])++(k++(l++c))=e:=by rw[<-E];simp
  have WQ:=D.few;fin2;refine⟨rfl,g,_,32,o,32,b,_,by rw[H],by rw[H];exact L,_,_,rfl,?_⟩;rw[H];fin2;refine⟨rfl,g++[32,o,32],k,l++c,b,p,i,by rw[F];simp,D,U7 B,hb,by rw[F];exact L,by simp;omega,_,_,rfl,?_⟩;rw[F];fin2;have l2:(p++i).length<sizeLine:=by have Y:=Kt IY F;simp at Y;refine Fk (m:=1001) ?_ (by decide);rw[Dx];omega
  refine⟨ao (by show 2<=1000;decide),l2,l.length,by simp;omega,g++(32::o::32::k),l,(p++i)++[zU o],w,some (.str (tx [o])),by rw[<-F];simp,B,by rw[<-U];simp,by simp;omega,rfl,?_⟩;have e6:((g++[32,o,32]).length+k.length:Nat)=(g++(32::o::32::k)).length:=by simp;omega
  rw[e6];rfl
 cases g2 with
 |nil=>
  rw[Jl,Qx T];fin2;refine⟨rfl,e,[32,o2,32],g.length,b,_,by rw[e2],M,_,_,rfl,?_⟩;rw[Z,Jl,Qx S];fin2;have H:g.length=f.length+(a++r).length:=by have:=Kt IY (E.trans K.symm);simp at this⊢;omega
  rw[Kx]at U;rw[H,U];exact hq
 |cons A D B=>
  rename_i o k l i w
  by_cases X:o=o1
  .have:CK [32,o1,32] (32::o::32::(k++l)++c)=true:=by rw[X];simp[CK]
   rw[this];fin2;exact⟨_,λ_ z=>z,u o k l i w s _ A rfl rfl D B rfl⟩
  .have Y:o=o2:=A.resolve_left X;have:CK [32,o1,32] (32::o::32::(k++l)++c)=false:=by simp[CK,Ki X]
   rw[this];fin2;refine⟨rfl,e,[32,o2,32],g.length,b,_,by rw[e2],M,_,_,rfl,?_⟩;have:CK [32,o2,32] (32::o::32::(k++l)++c)=true:=by rw[Y];simp[CK]
   rw[Z,this];fin2;exact⟨_,λ_ z=>z,u o k l i w s _ A rfl rfl D B rfl⟩
theorem Gk(o:Nat)(s:Str)(h:s=tx [32,o,32]:=by decide+kernel):s=tx [32,o,32]:=h
theorem t7:¬isLet 32/\¬iF 32:=by unfold isLet iF;omega
theorem vF{C:Addr}{d:Nat}{m:Md}(f:List W)(Q:W->Prop)(R:Addr->Prop)(h:bN 0 d zk C f Q R):wSs (cE [bN 1 d st1 C,bu C,bX C]) (dh [.cls C]) (gZ " + " " - ") (bL (.io m) Q R) (aA 2 f):=by
 obtain⟨j,s,g,b,i,u,rfl,t,a,q,p,l,n⟩:=h;cases t with
 |sum h k=>
  refine xM (Gk 43 _) (Gk 45 _) (by decide) h (WM k) a.1 (λr=>(a.2 r).1) (λr=>(a.2 r).2) (λo r v=>⟨⟨λc r e=>by cases e;exact t7,λr e=>by cases e⟩,λr=>⟨λe=>?_,λe=>?_⟩⟩) q p l n
  .cases e;omega
  .cases e;omega
theorem t8{C:Addr}{d:Nat}{m:Md}(f:List W)(Q:W->Prop)(R:Addr->Prop)(h:bN 1 d st1 C f Q R):wSs (cE [bN 2 d st2 C,bu C,bX C]) (dh [.cls C]) (gZ " * " " / ") (bL (.io m) Q R) (aA 2 f):=by
 obtain⟨j,s,g,b,i,u,rfl,t,a,q,p,l,n⟩:=h;cases t with
 |term h k=>exact xM (Gk 42 _) (Gk 47 _) (by decide) h (WO k) a.1 (λr=>(a.2 r).1) (λr=>(a.2 r).2) (λo r v=>⟨λc r e=>by cases e;exact t7,λr e=>by cases e⟩) q p l n
theorem Te{c:Nat}{p:List Nat}(d:¬isLet c/\¬iF c)(b:c≠94)(a:c≠32):zk (c::p):=by
 refine⟨⟨⟨λc r e=>?_,λr e=>?_⟩,λr=>⟨λe=>?_,λe=>?_⟩⟩,λr=>⟨λe=>?_,λe=>?_⟩⟩
 .cases e;exact d
 .cases e;exact b rfl
 .cases e;exact a rfl
 .cases e;exact a rfl
 .cases e;exact a rfl
 .cases e;exact a rfl
theorem MH:zk []:=by refine⟨⟨⟨λc r e=>?_,λr e=>?_⟩,λr=>⟨λe=>?_,λe=>?_⟩⟩,λr=>⟨λe=>?_,λe=>?_⟩⟩<;>cases e
noncomputable def b6:List CS:=[.Bh 0 2 (.bin .Add ME (.int 1)),.iff (.cmp .Gt ME (.glob 0)) [.yK] [],.Bh 0 1 (.bin .Add dN (.int 1)),.zP (.i9 0 1 0 []),.OU (.i9 0 1 1 [.str ")"]) [.yK] [],.Bh 0 1 (.bin .Add dN (.int 1)),.Bh 0 2 (.bin .Sub ME (.int 1))]
noncomputable def MI(d:Nat)(C:Addr):aW:=λg Q _=>∃(a s c:List Nat)(b:Nat)(e f:List W),g=[Ob C (a++(40::(s++41::c))) a.length b (.lst e)]/\qt.G 0 d s f/\b+d<30/\(a++(40::(s++41::c))).length<=1000/\e.length<=a.length/\Q (.tup [.aI,Ob C (a++(40::(s++41::c))) (a.length+(s.length+2)) b (.lst (e++f))])
theorem lE{C:Addr}{d:Nat}{m:Md}(j:List W)(Q:W->Prop)(R:Addr->Prop)(h:MI d C j Q R):wSs (cE [bN 0 d zk C,bu C]) (dh [.int 30,.cls C]) b6 (bL (.io m) Q R) (aA 1 j):=by
 obtain⟨c,s,a,b,g,l,rfl,o,v,k,u,i⟩:=h;have f:(c++[40])++(s++41::a)=c++(40::(s++41::a)):=by simp
 generalize t:c++(40::(s++41::a))=e at k i f⊢;show wSs _ _ b6 _ [some _];unfold b6;fin2;refine⟨by simp,?_⟩;rw[Fn (by omega)];fin2;refine⟨by simp,rfl,c++[40],s,41::a,b+1,g,l,by rw[f,Dx];rfl,o,Te (by unfold isLet iF;omega) (by decide) (by decide),by omega,by rw[f];exact k,by simp;omega,_,_,rfl,?_⟩;rw[f];fin2;have r:e.drop ((c++[40]).length+s.length)=41::a:=by rw[<-f,<-PH,<-Dx,Y9]
 refine⟨rfl,e,[41],(c++[40]).length+s.length,b+1,_,by rw[show(")":Str)=tx [41] by decide+kernel],by rw[<-f];simp;omega,_,_,rfl,?_⟩;have n:CK [41] (41::a)=true:=by simp[CK]
 rw[r,n];fin2;rw[Da (show¬(!true)=true by decide)];refine⟨by simp,by simp,?_⟩;have q:(((c++[40]).length+s.length+1:Nat))=c.length+(s.length+2):=by simp;omega
 have p:((b+1:Nat):Int) -1=(b:Nat):=by omega
 rw[<-q]at i;rw[p];exact i
noncomputable def b7:List CS:=[.qy 1 (.call 0 [.i9 0 3 1 [.glob 0],.glob 1]),.iff (.cmp .Gt (.var 1) (.glob 2)) [.yK] [],.HR 0 nE (.tup [.str "power",.var 1])]
noncomputable def CG:List Nat:=[48,49,50,51,52,53,54,55,56,57]
noncomputable def lets:List Nat:=[97,98,99,100,101,102,103,104,105,106,107,108,109,110,111,112,113,114,115,116,117,118,119,120,121,122]
theorem jB{c:Nat}:c∈CG↔iF c:=by unfold iF CG;simp only[FC,Os,X8];omega
theorem jC{c:Nat}:c∈lets↔isLet c:=by unfold isLet lets;simp only[FC,Os,X8];omega
theorem CH:("0123456789":Str)=tx CG:=by decide+kernel
theorem kD:("abcdefghijklmnopqrstuvwxyz":Str)=tx lets:=by decide+kernel
noncomputable def Gm(C:Addr):aW:=λf Q _=>∃(c a:List Nat)(b e:Nat)(d:List W),f=[Ob C (c++(dg e++a)) c.length b (.lst d)]/\e<=12/\st3 a/\(c++(dg e++a)).length<=1000/\d.length<=c.length/\Q (.tup [.aI,Ob C (c++(dg e++a)) (c.length+(dg e).length) b (.lst (d++[qT e]))])
theorem lF{C:Addr}{m:Md}(f:List W)(Q:W->Prop)(R:Addr->Prop)(h:Gm C f Q R):wSs (cE [bx,bD C]) (dh [.str "0123456789",.int 2,.int 12,.cls C]) b7 (bL (.io m) Q R) (aA 2 f):=by
 obtain⟨a,d,b,e,i,rfl,s,k,g,p,j⟩:=h;show wSs _ _ b7 _ [some _,none];unfold b7;fin2;refine⟨rfl,a,dg e,d,CG,b,_,by rw[CH],λc l=>jB.mpr (mT e c l),λc r q=>λz=>(k c r q).2 (jB.mp z),g,_,_,rfl,?_⟩;fin2;have n:(dg e).length<=2:=qu (by decide) (by omega);refine⟨e,2,rfl,n,by decide,?_⟩;fin2;rw[Fn (by omega)];fin2;have o:a.length<=1000:=by rw[Dx]at g;omega
 exact⟨ao (by show 2<=1000;decide),Fk (m:=1001) (by omega) (by decide),j⟩
noncomputable def cY:List CS:=[.qy 1 (.blt .len [.i9 0 1 0 [.str "-"]]),.iff (.cmp .Gt (.var 1) (.glob 0)) [.yK] [],.zP (.i9 0 1 1 []),.Nc (.i9 0 1 2 [.str "^"]) [.Bh 0 1 (.bin .Add dN (.int 1)),.zP (.i9 0 1 3 [])] [],.M6 0 nE (.bin .Mult (.lst [.tup [.str "minus",.int 0]]) (.var 1))]
theorem oK{C:Addr}{d:Nat}{m:Md}(L:List W)(Q:W->Prop)(R:Addr->Prop)(h:bN 2 d st2 C L Q R):wSs (cE [bD C,bN 3 d st3 C,bu C,Gm C]) (dh [.int 30,.cls C]) cY (bL (.io m) Q R) (aA 2 L):=by
 obtain⟨g,s,f,b,j,S,rfl,U,F,T,v,hs,P⟩:=h;obtain⟨k,a,x,o,t,w,J,rfl,rfl,O⟩:∃(k:Nat)(a x:List Nat)(o t:List W),k<=30/\qt.G 3 d a o/\s=A0 k 45++(a++x)/\S=o++(t++A0 k nB)/\((x=[]/\t=[])\/∃e,e<=12/\x=94::dg e/\t=[qT e]):=by
  cases U with
  |Nk w h=>exact⟨_,_,[],_,[],w,h,by simp,by simp,.inl ⟨rfl,rfl⟩⟩
  |CC w H h=>exact⟨_,_,_,_,_,w,h,rfl,rfl,.inr ⟨_,H,rfl,rfl⟩⟩
 have few:=J.few;have z:g++(A0 k 45++((a++x)++f))=g++((A0 k 45++(a++x))++f):=by simp
 have p:(g++A0 k 45)++(a++(x++f))=g++((A0 k 45++(a++x))++f):=by simp
 generalize hw:g++((A0 k 45++(a++x))++f)=i at v P z p⊢;show wSs _ _ cY _ [some _,none];unfold cY;fin2;refine⟨rfl,g,A0 k 45,(a++x)++f,[45],b,_,by rw[z,show("-":Str)=tx [45] by decide+kernel],λc I=>by rw[(List.mem_replicate.mp I).2];exact Do.mpr rfl,λc r e=>?_,by rw[z];exact v,_,_,rfl,?_⟩
 .obtain⟨c',r',Z,I⟩:=J.head rfl;rw[Z]at e;cases e;rw[Do];unfold isLet iF at I;omega
 rw[z];fin2;rw[TB];refine⟨ao (by omega),?_⟩;rw[Fn (by omega)];fin2;have E:st3 (x++f):=by
  rcases O with⟨rfl,_⟩|⟨e,_,rfl,_⟩
  .exact F.1
  .intro c r q;cases q;unfold isLet iF;omega
 refine⟨rfl,g++A0 k 45,a,x++f,b,j,o,by rw[p];simp,J,E,T,by rw[p];exact v,by simp;omega,_,_,rfl,?_⟩;rw[p];fin2;have M:(g++A0 k 45).length+a.length=g.length+(k+a.length):=by simp;omega
 have dr:i.drop ((g++A0 k 45).length+a.length)=x++f:=by rw[<-p,<-PH,<-Dx,Y9]
 have lw:g.length+(k+(a.length+(x.length+f.length)))=i.length:=by rw[<-p];simp only[Dx,TB];omega
 refine⟨rfl,i,[94],(g++A0 k 45).length+a.length,b,_,by rw[show("^":Str)=tx [94] by decide+kernel],by omega,_,_,rfl,?_⟩;rw[dr];have B:∀l:List W,List.flatten (A0 ((k:Int)).toNat [W.tup [W.str "minus",W.int 0]])=A0 k nB:=λ_=>tZ _ k;have u:∀(D:List W)(n:Nat),D=t->n=g.length+(A0 k 45++(a++x)).length->Q (.tup [.aI,Ob C i n b (.lst (j++o++D++A0 k nB))]):=λD n Y X=>by rw[Y,X];simpa using P
 have y: -(2^63:Int)<=(k:Int)/\(k:Int)<2^63:=by omega
 have A:∀n,n<=2000->n<=sizeLine:=λn h=>Gc h (by decide);rcases O with⟨rfl,rfl⟩|⟨e,H,rfl,rfl⟩
 .have:CK [94] ([]++f)=false:=Gi F.2;rw[this];fin2;refine⟨ao (by show 2<=1000;decide),ao (by show 1<=1000;decide),y.1,y.2,A _ (by show 1*k<=2000;omega),A _ ?_,?_⟩
  .rw[B [],Dx,TB];omega
  .have:=u [] ((g++A0 k 45).length+a.length) rfl (by rw[M];simp);rw[Kx]at this;rw[B []];exact this
 .have:CK [94] (94::dg e++f)=true:=by simp[CK]
  rw[this];fin2;have K:(g++A0 k 45++a++[94])++(dg e++f)=i:=by rw[<-p];simp
  have N:(g++A0 k 45++a++[94]).length=(g++A0 k 45).length+a.length+1:=by simp;omega
  refine⟨by simp,rfl,g++A0 k 45++a++[94],f,b,e,j++o,by rw[K,N];rfl,H,F.1,by rw[K];exact v,by simp;omega,_,_,rfl,?_⟩;rw[K];fin2;refine⟨ao (by show 2<=1000;decide),ao (by show 1<=1000;decide),y.1,y.2,A _ (by show 1*k<=2000;omega),A _ ?_,?_⟩
  .rw[B [],Dx,Dx,TB];show j.length+o.length+1+k<=2000;omega
  .have:=u [qT e] ((g++A0 k 45++a++[94]).length+(dg e).length) rfl (by rw[N,M];simp;omega);rw[B []];exact this
noncomputable def eS:List CS:=[.Nc (.i9 0 4 0 [.str "("]) [.zP (.i9 0 4 1 []),.HS .aI] [],.qy 1 (.i9 0 4 2 [.glob 0]),.iff (.cmp .Eq (.var 1) (.str "")) [.OT 0 3 (.tup [.str "number",.call 3 [.i9 0 4 4 [.glob 1],.glob 2]])] [.iff (.cmp .LtE (.blt .len [.var 1]) (.glob 3)) [.HR 0 nE (.tup [.str "name",.var 1])] [.yK]]]
noncomputable def MK:Nat->Addr->aW
 |0,_=>Qp
 |d+1,C=>MI d C
theorem t9{C:Addr}{d:Nat}{m:Md}(v:List W)(Q:W->Prop)(R:Addr->Prop)(h:bN 3 d st3 C v Q R):wSs (cE [bu C,MK d C,bD C,bx,bD C]) (dh [.str "abcdefghijklmnopqrstuvwxyz",.str "0123456789",.int 30,.int 8,.cls C]) eS (bL (.io m) Q R) (aA 2 v):=by
 obtain⟨g,s,f,b,j,E,rfl,x,w,O,k,I,o⟩:=h;have few:=x.few;show wSs _ _ eS _ [some _,none];have F:g.length<=(g++(s++f)).length:=by rw[Dx];omega
 have K:(g++(s++f)).drop g.length=s++f:=Y9;unfold eS;fin2;refine⟨rfl,_,[40],g.length,b,_,by rw[show("(":Str)=tx [40] by decide+kernel],F,_,_,rfl,?_⟩;rw[K];have N:g.length<=1000:=by rw[Dx]at k;omega
 have T:∀c r,s=c::r->c≠40->CK [40] (s++f)=false:=λc r e n=>Gi λp z=>by rw[e]at z;cases z;exact n rfl
 cases x with
 |brk h hd=>
  rename_i d0 a
  have:CK [40] (40::(a++[41])++f)=true:=by simp[CK]
  rw[this];fin2;have t:g++(40::(a++[41])++f)=g++(40::(a++41::f)):=by simp
  obtain⟨D,rfl⟩:∃D,d=D+1:=⟨d -1,by omega⟩;refine⟨rfl,g,a,f,b,j,E,by rw[<-t];rfl,h.mono (by omega),by omega,by rw[<-t];exact k,I,_,_,rfl,?_⟩;rw[<-t];fin2;have J:(40::(a++[41])).length=a.length+2:=by simp
  rw[J]at o;exact o
 |name A P y=>
  have M:∀c r,s=c::r->c≠40:=λc r e z=>by have:=y c (by rw[e];exact Bn);unfold isLet at this;omega
  have H:CK [40] (s++f)=false:=Gi λp z=>by
   cases i:s with
   |nil=>exact A i
   |cons c r=>have:=M c r i;rw[i]at z;cases z;exact this rfl
  rw[H];fin2;refine⟨rfl,g,s,f,lets,b,_,by rw[kD],λc l=>jC.mpr (y c l),λc r q z=>(w c r q).1 (jC.mp z),k,_,_,rfl,?_⟩;fin2;rw[xK,nF,Fn A];fin2;refine⟨ao (by omega),?_⟩;rw[GM (by omega)];fin2;exact⟨ao (by show 2<=1000;decide),Fk (m:=1001) (by omega) (by decide),o⟩
 |num h=>
  rename_i n
  have B:∀c r,dg n++f=c::r->¬isLet c/\c≠40:=λc r e=>by
   cases u:dg n with
   |nil=>exact absurd u (pK n)
   |cons S p=>rw[u]at e;cases e;have:=mT n c (by rw[u];exact Bn);unfold isLet;omega
  have:CK [40] (dg n++f)=false:=Gi λp z=>(B _ _ z).2 rfl;rw[this];fin2;refine⟨rfl,g,[],dg n++f,lets,b,_,by rw[kD];rfl,λc l=>(by cases l),λc r q z=>(B c r q).1 (jC.mp z),k,_,_,rfl,?_⟩;fin2;rw[xK,nF,GM rfl];fin2;refine⟨j,rfl,λL=>⟨rfl,g,dg n,f,CG,b,.cls L,by rw[CH];rfl,λc l=>jB.mpr (mT n c l),λc r q z=>(w c r q).2 (jB.mp z),k,_,_,rfl,?_⟩⟩;fin2;refine⟨n,30,rfl,qu (by decide) h,by decide,?_⟩;fin2;exact⟨ao (by show 2<=1000;decide),_,rfl,rfl,Fk (m:=1001) (by omega) (by decide),o⟩
noncomputable def IC(C:Addr):Sp:=λe H Q _=>∃(x d:Addr)(c:V),e=[.ref x,c]/\H x=some (.ins C d [])/\∀(b:Addr)(a:Hp),IA x H a->H b=none->a b=some (.lst [])->a x=some (.ins C d (FS.zip [c,.int 0,.int 0,.ref b]))->Q .aI a
noncomputable def lX(C:Addr):aW:=λa Q _=>∃t,a=[.str (tx t)]/\Q (Ob C t 0 0 (.lst []))
theorem ua{P:Program}{w:World}{K:Frag}{q:Str->Option Value}{base:Heap}{k:Nat}{C f:Addr}{s:FuncData}{ps:List Str}(L:oB K C FS)(M:Mk K C f)(b:Binds K s ps [])(F:bE P w K q base (iC P w) k f s ps (IC C)):
 b3 P w K q base (k+1) (.ref C) 1 (oF K 1 xJ (lX C)):=by
 refine .mk M b F λY H Q E hz x i m U B=>?_;obtain⟨A,X,P,R,l,r,d,⟨t,e,N⟩,c,Z⟩:=hz;subst e;obtain⟨y,_,rfl,j,r⟩:=r.cons_inv;cases r;have j:y=.str (tx t):=j;subst j;refine⟨x,i,_,rfl,aq,λa v I g S ex=>⟨rfl,?_⟩⟩;have u:a≠x:=λe=>by rw[e,aq]at g;cases g
 have T:a≠i:=λe=>by rw[e,ay B,aq]at g;cases g
 have O:H a=none:=by rw[ay u,ay T]at g;exact g
 have sm:au H v:=λb o h=>by
  have n:b≠x:=λe=>by rw[e,m]at h;cases h
  have D:b≠i:=λe=>by rw[e,U]at h;cases h
  exact I b o n (by rw[ay n,ay D];exact h)
 refine c _ (.ref x) v N sm ⟨[x,a],by simp[Ki u],λp J=>?_,?_⟩
 .rcases FC.mp J with z|z
  .rw[z];exact m
  .rw[Do.mp z];exact O
 dsimp only[Fp];refine⟨C,i,_,x,[.str (tx t),.int 0,.int 0,.ref a],[a],rfl,rfl,rfl,ex,rfl,L,?_⟩;dsimp only[cR];refine⟨_,_,_,_,[],[a],rfl,rfl,rfl,?_,_,_,_,_,[],[a],rfl,rfl,rfl,?_,_,_,_,_,[],[a],rfl,rfl,rfl,?_,_,_,_,_,[a],[],rfl,rfl,rfl,?_,rfl,rfl,rfl⟩
 .dsimp only[Fp];exact⟨rfl,oE _⟩
 .dsimp only[Fp];exact⟨rfl,xE _⟩
 .dsimp only[Fp];exact⟨rfl,xE _⟩
 .dsimp only[Fp];exact⟨[],a,[],rfl,rfl,rfl,S,.nil⟩
abbrev FE:List Str:=["steps"]
abbrev Ex(C:Addr)(sts:List W):W:=.obj C FE [.tup sts]
noncomputable def ID(C:Addr):Sp:=λe H Q _=>∃(x d p:Addr)(b:List V),e=[.ref x,.ref p]/\H x=some (.ins C d [])/\H p=some (.lst b)/\b.length<=sizeLine/\∀(c:Addr)(a:Hp),IA x H a->H c=none->a c=some (.tup b)->a x=some (.ins C d (FE.zip [.ref c]))->Q .aI a
noncomputable def xN(C:Addr):aW:=λb Q _=>∃a:List W,b=[.lst a]/\a.length<=2000/\Q (Ex C a)
theorem zp{P:Program}{w:World}{K:Frag}{t:Str->Option Value}{base:Heap}{k:Nat}{C f:Addr}{v:FuncData}{ps:List Str}(S:oB K C FE)(M:Mk K C f)(b:Binds K v ps [])(F:bE P w K t base (iC P w) k f v ps (ID C)):
 b3 P w K t base (k+1) (.ref C) 1 (oF K 1 .s (xN C)):=by
 refine .mk M b F λvs H Q E hz x i m y L=>?_;obtain⟨A,ws,P,R,l,r,d,⟨I,e,n,T⟩,c,er⟩:=hz;subst e;obtain⟨v1,_,rfl,J,r⟩:=r.cons_inv;cases r;obtain⟨p,D,rfl,hp,a,u⟩:=J;have a:=a.at;have Y:p≠x:=λe=>by rw[e,m]at a;cases a
 have X:p≠i:=λe=>by rw[e,y]at a;cases a
 refine⟨x,i,p,D,rfl,aq,by rw[ay Y,ay X];exact a,by rw[u.len];exact Gc n (by decide),λj B O g U ex=>⟨rfl,?_⟩⟩;have Rf:j≠x:=λe=>by rw[e,aq]at g;cases g
 have Z:j≠i:=λe=>by rw[e,ay L,aq]at g;cases g
 have h4:H j=none:=by rw[ay Rf,ay Z]at g;exact g
 have sm:au H B:=λb o h=>by
  have q:b≠x:=λe=>by rw[e,m]at h;cases h
  have N:b≠i:=λe=>by rw[e,y]at h;cases h
  exact O b o q (by rw[ay q,ay N];exact h)
 refine c _ (.ref x) B T sm (.of ⟨x,i,[.ref j],rfl,λz=>?_,ex,rfl,S,.cons (qz U (af.same sm u)) .nil⟩);obtain⟨o,e⟩:=d x z;rw[m]at e;cases e
noncomputable def vG:List CS:=[.iff (.cmp .Gt (.blt .len [.var 0]) (.glob 0)) [.yK] [],.set 1 (.call 0 [.var 0]),.zP (.i9 1 1 1 []),.iff (.cmp .Lt (.own 1 [.fl 1 "place"]) (.blt .len [.var 0])) [.yK] [],.JZ [1] [.ret (.call 2 [.JW (.var 1) 3 "steps"])]]
noncomputable def xO(d:Nat)(CE:Addr):aW:=λb Q _=>∃(s:List Nat)(a:List W),b=[.str (tx s)]/\qt.G 0 d s a/\d<=30/\s.length<=1000/\Q (Ex CE a)
theorem ML{C CE:Addr}{d:Nat}{m:Md}(b:List W)(Q:W->Prop)(R:Addr->Prop)(h:xO d CE b Q R):wSs (cE [lX C,bN 0 d zk C,xN CE]) (dh [.int 1000,.cls C]) vG (bL m Q R) (aA 2 b):=by obtain⟨s,c,rfl,e,hd,a,f⟩:=h;have few:=e.few;show wSs _ _ vG _ [some _,none];unfold vG;fin2;refine⟨ao a,?_⟩;rw[Fn (by omega)];fin2;refine⟨s,rfl,?_⟩;fin2;refine⟨rfl,[],s,[],0,[],c,by simp,e,MH,by omega,by simpa using a,Bz _,_,_,rfl,?_⟩;fin2;refine⟨ao a,?_⟩;rw[Fn (by simp)];fin2;exact⟨rfl,_,rfl,c,rfl,by omega,f⟩
noncomputable def jD:List CS:=[.OR 1,.fr [2,3] false (.JW (.var 0) 0 "steps") [.iff (.cmp .Eq (.var 2) (.str "name")) [.OV 1 (.var 3) (.bl true)] []],.ret (.JX 1)]
noncomputable def Nl:W->Option Str
 |.tup [.str k,.str x]=>if k="name"then some x else none
 |_=>none
noncomputable def nms(st:List W):List Str:=st.filterMap Nl
noncomputable def IE(w:W):Prop:=∃k x,w=.tup [.str k,x]/\(k="name"->∃y,x=.str y)
noncomputable def jE(CE:Addr):aW:=λc Q _=>∃a:List W,c=[Ex CE a]/\(∀w∈a,IE w)/\a.length<64/\∀b:List Str,b.Nodup->(∀z,z∈b↔z∈nms a)->sortedS b=true->Q (.lst (b.map W.str))
theorem qU(j:Str):∀xs:List Str,(xs.map W.str).any (J2 j)=true↔j∈xs
 |[]=>by simp
 |x::xs=>by rw[Ha,HB,X4,qU j xs,FC];show decide (x=j)=true\/_↔_;rw[TC];exact⟨λh=>h.imp Eq.symm id,λh=>h.imp Eq.symm id⟩
theorem ia(a b:List W):nms (a++b)=nms a++nms b:=List.filterMap_append
theorem CI{C:Nat->aW}{G:Nat->W}{CE:Addr}{m:Md}(r:List W)(Q:W->Prop)(R:Addr->Prop)(h:jE CE r Q R):wSs C G jD (bL m Q R) (aA 4 r):=by
 obtain⟨d,rfl,J,O,K⟩:=h;show wSs _ _ jD _ [some _,none,none,none];unfold jD;fin2;refine⟨rfl,_,rfl,?_⟩;show ig _ _ d _;have F:∀i,(nms (d.take i)).length<=i:=λi=>Gc (List.length_filterMap_le _ _) (by rw[SL];omega);refine gX (λi n=>∃(c:List Str)(f:List W)(a b:Option W),c.Nodup/\c.length<=i/\(∀z,z∈c↔z∈nms (d.take i))/\n=[some (Ex CE d),some (.dct (c.map W.str) f),a,b]) ⟨[],[],none,none,Xt,Bz _,λz=>by rw[U9];exact OB,rfl⟩ ?_ ?_
 .rintro i w n N q ⟨c,f,a,b,g,E,j,rfl⟩ A;have M:=(GE.mp q).1;obtain⟨k,x,rfl,L⟩:=J w (KE q);have t:d.take (i+1)=d.take i++[.tup [.str k,x]]:=by rw[Po,q];rfl
  fin2;by_cases e:k="name"
  .obtain⟨y,rfl⟩:=L e;have o:nms [W.tup [.str k,.str y]]=[y]:=by rw[e];rfl
   rw[GM e];fin2;refine⟨rfl,by rw[Ee];exact Fk (m:=65) (by omega) (by decide),A _ ?_⟩;have B:∀z,z∈nms (d.take (i+1))↔z∈c\/z=y:=λz=>by rw[t,ia,o,FK,Do,j]
   unfold sH;by_cases l:y∈c
   .rw[FM ((qU y c).mpr l)];exact⟨c,_,_,_,g,by omega,λz=>by rw[B];exact⟨.inl,λh=>h.elim id λe=>by rw[e];exact l⟩,rfl⟩
   .rw[Da λz=>l ((qU y c).mp z)];refine⟨c++[y],sI y (.bl true) (c.map W.str) f,some (.str k),some (.str y),P3.mpr ⟨g,YL _ _,λu I v H e=>l (by rw[<-Do.mp H,<-e];exact I)⟩,by simp;omega,λz=>by rw[B,FK,Do],?_⟩;rw[KB];rfl
  .rw[Fn e];fin2;have o:Nl (W.tup [.str k,x])=none:=by
    unfold Nl;split
    .rename_i h
     cases h;exact Da e
    .rfl
   exact⟨rfl,A _ ⟨c,f,_,_,g,by omega,λz=>by rw[j,t,ia];show _↔z∈_++List.filterMap Nl [_];rw[JD,o];simp,rfl⟩⟩
 .rintro n ⟨c,f,a,b,g,E,j,rfl⟩;fin2;refine⟨c,rfl,by omega,λD p s=>K D (p.nodup_iff.mpr g) (λz=>?_) s⟩;rw[p.mem_iff,j,OK]
end VL
namespace qt
open L2 PySem VL
inductive Tr where
 |nm (x:List Nat)|nu (n:Nat)|op (o:Nat) (a b:Tr)|pw (a:Tr) (e:Nat)|ls (a:Tr)
noncomputable def wt:Tr->W
 |.nm x=>.tup [.str "name",.str (tx x)]
 |.nu n=>.tup [.str "number",.int n]
 |.op o a b=>.tup [.str (tx [o]),wt a,wt b]
 |.pw a e=>.tup [.str "^",wt a,.int e]
 |.ls a=>.tup [.str "less",wt a]
noncomputable def kF(x:List Nat):Prop:=x≠[]/\x.length<=8/\∀c∈x,isLet c
noncomputable def oi:Tr->Prop
 |.nm x=>kF x
 |.nu n=>n<10^30
 |.op o a b=>(o=43\/o=45\/o=42\/o=47)/\oi a/\oi b
 |.pw a e=>e<=12/\oi a
 |.ls a=>oi a
noncomputable def sz:Tr->Nat
 |.nm _=>1
 |.nu _=>1
 |.op _ a b=>sz a+sz b+1
 |.pw a _=>sz a+1
 |.ls a=>sz a+1
noncomputable def bi:Tr->Nat
 |.nm _=>4
 |.nu _=>4
 |.op o _ _=>if o=43\/o=45 then 0 else 1
 |.pw _ _=>3
 |.ls _=>2
noncomputable def br(b l:Nat)(s:List Nat):List Nat:=if b<l then 40::(s++[41])else s
noncomputable def txt:Tr->List Nat
 |.nm x=>x
 |.nu n=>dg n
 |.op o a b=>br (bi a) (bi (.op o a b)) (txt a)++(32::o::32::br (bi b) (bi (.op o a b)+1) (txt b))
 |.pw a e=>br (bi a) 4 (txt a)++94::dg e
 |.ls a=>45::br (bi a) 2 (txt a)
noncomputable def stp:Tr->List W
 |.nm x=>[xC x]
 |.nu n=>[Gb n]
 |.op o a b=>stp a++(stp b++[zU o])
 |.pw a e=>stp a++[qT e]
 |.ls a=>stp a++[nB]
noncomputable def oj:Tr->List (List Nat)
 |.nm x=>[x]
 |.nu _=>[]
 |.op _ a b=>oj a++oj b
 |.pw a _=>oj a
 |.ls a=>oj a
noncomputable def xP(d k:Nat)(s:List Nat)(st:List W):Prop:=∃(j:Nat)(a x:List Nat)(c b:List W),j<=k/\G 3 d a c/\s=A0 j 45++(a++x)/\st=c++(b++A0 j nB)/\((x=[]/\b=[])\/∃e,e<=12/\x=94::dg e/\b=[qT e])
theorem xP.g{d k:Nat}{s:List Nat}{st:List W}(h:xP d k s st)(m:k<=30):G 2 d s st:=by
 obtain⟨j,a,x,l,i,n,b,rfl,rfl,c⟩:=h;rcases c with⟨rfl,rfl⟩|⟨e,f,rfl,rfl⟩
 .simpa using G.Nk (k:=j) (by omega) b
 .simpa using G.CC (k:=j) (by omega) f b
theorem xP.of{d:Nat}{s:List Nat}{st:List W}(h:G 3 d s st)(k:Nat):xP d k s st:=⟨0,s,[],st,[],L9 _,h,by simp,by simp,.inl ⟨rfl,rfl⟩⟩
theorem xP.less{d k:Nat}{s:List Nat}{st:List W}(h:xP d k s st):xP d (k+1) (45::s) (st++[nB]):=by obtain⟨j,a,x,c,b,g,f,rfl,rfl,e⟩:=h;refine⟨j+1,a,x,c,b,by omega,f,rfl,?_,e⟩;rw[List.replicate_succ'];simp
theorem xP.mono{d d' k b:Nat}{s:List Nat}{st:List W}(h:xP d k s st)(hd:d<=d')(g:k<=b):xP d' b s st:=by obtain⟨j,a,x,e,c,i,f,r⟩:=h;exact⟨j,a,x,e,c,by omega,f.mono hd,r⟩
structure Rd(T:Tr):Prop where
 g0:G 0 (sz T) (txt T) (stp T)
 g1:1<=bi T->G 1 (sz T) (txt T) (stp T)
 f:2<=bi T->xP (sz T) (sz T) (txt T) (stp T)
 g3:bi T=4->G 3 (sz T) (txt T) (stp T)
theorem Rd.b{T:Tr}(h:Rd T):G 3 (sz T+1) (40::(txt T++[41])) (stp T):=.brk h.g0 (YJ _)
theorem Rd.i4{T:Tr}(h:Rd T)(a:bi T<=4):G 3 (sz T+1) (br (bi T) 4 (txt T)) (stp T):=by
 unfold br;split
 .exact h.b
 .exact(h.g3 (by omega)).mono (X7 _)
theorem Rd.i2{T:Tr}(h:Rd T):xP (sz T+1) (sz T) (br (bi T) 2 (txt T)) (stp T):=by
 unfold br;split
 .exact .of h.b _
 .exact(h.f (by omega)).mono (X7 _) (Bz _)
theorem Rd.i1{T:Tr}(h:Rd T):G 1 (sz T+1) (br (bi T) 1 (txt T)) (stp T):=by
 unfold br;split
 .exact h.b.Qn.Gd
 .exact(h.g1 (by omega)).mono (X7 _)
theorem Qy:∀T:Tr,bi T<=4
 |.nm _=>Bz _
 |.nu _=>Bz _
 |.op o _ _=>by show(if o=43\/o=45 then 0 else 1)<=4;split<;>omega
 |.pw _ _=>by show 3<=4;omega
 |.ls _=>by show 2<=4;omega
theorem gH:∀T:Tr,1<=sz T
 |.nm _=>Bz _
 |.nu _=>Bz _
 |.op _ a b=>by show 1<=_+_+1;omega
 |.pw a _=>by show 1<=_+1;omega
 |.ls a=>by show 1<=_+1;omega
theorem rd:∀T:Tr,oi T->sz T<=30->Rd T
 |.nm x,h,_=>by have g:G 3 1 x [xC x]:=.name h.1 h.2.1 h.2.2;exact⟨g.Qn.Gd.up1,λ_=>g.Qn.Gd,λ_=>.of g _,λ_=>g⟩
 |.nu n,h,_=>by have g:G 3 1 (dg n) [Gb n]:=.num h;exact⟨g.Qn.Gd.up1,λ_=>g.Qn.Gd,λ_=>.of g _,λ_=>g⟩
 |.pw a e,h,c=>by have c:sz a+1<=30:=c;have i:=rd a h.2 (by omega);have f:xP (sz a+1) (sz a+1) (br (bi a) 4 (txt a)++94::dg e) (stp a++[qT e]):=⟨0,_,_,_,_,L9 _,i.i4 (Qy a),rfl,by simp,.inr ⟨e,h.1,rfl,rfl⟩⟩;have g:=f.g c;exact⟨g.Gd.up1,λ_=>g.Gd,λ_=>f,λz=>by cases z⟩
 |.ls a,h,c=>by have c:sz a+1<=30:=c;have i:=rd a h (by omega);have f:xP (sz a+1) (sz a+1) (45::br (bi a) 2 (txt a)) (stp a++[nB]):=i.i2.less;have g:=f.g c;exact⟨g.Gd.up1,λ_=>g.Gd,λ_=>f,λz=>by cases z⟩
 |.op o a b,h,c=>by
  have c:sz a+sz b+1<=30:=c;have A:=gH a;have y:=gH b;have i:=rd a h.2.1 (by omega);have u:=rd b h.2.2 (by omega);have w:sz a+1<=sz a+sz b+1:=by omega
  have t:sz b+1<=sz a+sz b+1:=by omega
  have j:sz a<=sz a+sz b+1:=by omega
  by_cases l:o=43\/o=45
  .have d:bi (.op o a b)=0:=FM l;have r:txt (.op o a b)=txt a++(32::o::32::br (bi b) 1 (txt b)):=by show br (bi a) (bi (.op o a b)) (txt a)++(32::o::32::br (bi b) (bi (.op o a b)+1) (txt b))=_;rw[d];rfl
   have g:G 0 (sz a+sz b+1) (txt a++(32::o::32::br (bi b) 1 (txt b))) (stp a++(stp b++[zU o])):=by
    have g0:=i.g0.mono j;generalize txt a=s at g0⊢;generalize stp a=v at g0⊢;cases g0 with
    |sum p m=>have:=G.sum p (G.Ql l (u.i1.mono t) m);simpa using this
   rw[<-r]at g;exact⟨g,λz=>by rw[d]at z;omega,λz=>by rw[d]at z;omega,λz=>by rw[d]at z;omega⟩
  .have k:o=42\/o=47:=by have:=h.1;omega
   have d:bi (.op o a b)=1:=Da l;have r:txt (.op o a b)=br (bi a) 1 (txt a)++(32::o::32::br (bi b) 2 (txt b)):=by show br (bi a) (bi (.op o a b)) (txt a)++(32::o::32::br (bi b) (bi (.op o a b)+1) (txt b))=_;rw[d]
   have g:G 1 (sz a+sz b+1) (br (bi a) 1 (txt a)++(32::o::32::br (bi b) 2 (txt b))) (stp a++(stp b++[zU o])):=by
    have q:=i.i1.mono w;generalize br (bi a) 1 (txt a)=s at q⊢;generalize stp a=v at q⊢;cases q with
    |term p m=>have:=G.term p (G.Qm k ((u.i2.g (by omega)).mono t) m);simpa using this
   rw[<-r]at g;exact⟨g.up1,λ_=>g,λz=>by rw[d]at z;omega,λz=>by rw[d]at z;omega⟩
theorem qV(b l:Nat)(s:List Nat):(br b l s).length<=s.length+2:=by
 unfold br;split
 .simp
 .omega
theorem gb:∀T:Tr,oi T->(txt T).length+7<=37*sz T
 |.nm x,h=>by have:=h.2.1;show x.length+7<=37*1;omega
 |.nu n,h=>by have:=qu (k:=30) (by decide) h;show(dg n).length+7<=37*1;omega
 |.op o a b,h=>by have d:=gb a h.2.1;have g:=gb b h.2.2;have c:=qV (bi a) (bi (.op o a b)) (txt a);have f:=qV (bi b) (bi (.op o a b)+1) (txt b);show(br (bi a) (bi (.op o a b)) (txt a)++(32::o::32::br (bi b) (bi (.op o a b)+1) (txt b))).length+7<=37*(sz a+sz b+1);simp only[Dx,AI];omega
 |.pw a e,h=>by have d:=gb a h.2;have c:=qV (bi a) 4 (txt a);have f:=qu (m:=e) (k:=2) (by decide) (by have:=h.1;omega);show(br (bi a) 4 (txt a)++94::dg e).length+7<=37*(sz a+1);simp only[Dx,AI];omega
 |.ls a,h=>by have d:=gb a h;have c:=qV (bi a) 2 (txt a);show(45::br (bi a) 2 (txt a)).length+7<=37*(sz a+1);simp only[AI];omega
theorem jF:∀T:Tr,(stp T).length=sz T
 |.nm _=>rfl
 |.nu _=>rfl
 |.op o a b=>by show(stp a++(stp b++[zU o])).length=_;simp[jF a,jF b,sz];omega
 |.pw a e=>by show(stp a++[qT e]).length=_;simp[jF a,sz]
 |.ls a=>by show(stp a++[nB]).length=_;simp[jF a,sz]
end qt
namespace VL
open PySem PySem.Spec
open PyProof.Rows hiding St
open L2 Num qt
theorem xQ{d:Nat->aW}{G:Nat->W}{D:Dn}{c:Ev}{i:Nat}{e:CE}{b:List CS}{l:List W}(he:∀Q:W->Prop,Q (.lst l)->wE d G (λ_=>False) e c Q)(h:ig (λw f a=>wSs d G b f (a.set i (some w))) D l c):wS d G (.fr [i] true e b) D c:=he _ h
noncomputable def IF:List CS:=[.set 5 (.bin .Mod (.bin .Add (.bin .Add (.bin .Mult (.var 5) (.int 39373)) (.bin .Mult (.bin .Mult (.int 7561) (.var 7)) (.var 7))) (.int 1013904223)) (.int 2147483647)),.iff (.cmp .Gt (.var 4) (.int 0)) [.app 6 (.bin .Mod (.var 4) (.bin .Pow (.int 10) (.int 6))),.set 4 (.bin .FloorDiv (.var 4) (.bin .Pow (.int 10) (.int 6)))] [.app 6 (.bin .Mod (.bin .Mod (.bin .Mult (.var 5) (.int 65539)) (.int 998244353)) (.bin .Pow (.int 10) (.int 6)))]]
noncomputable def CJ:List CS:=[.set 3 (.int 0),.iff (.cmp .Lt (.var 1) (.blt .len [(.var 0)])) [.set 3 (.ix (.var 0) (.var 1))] [],.set 4 (.int 0),.iff (.or [(.cmp .Lt (.var 3) (.int 0)),(.cmp .GtE (.var 3) (.bin .Pow (.int 10) (.int 18)))]) [.set 4 (.blt .abs [(.var 3)])] [],.set 5 (.bin .Mod (.var 3) (.int 2147483647)),.set 6 (.lst []),.fr [7] true (.p9 [(.var 2)]) IF,.ret (.var 6)]
noncomputable def Gr:aW:=λb Q _=>∃(c:List Int)(k n:Nat),b=[.di c,.int k,.int n]/\n<=60/\∀a:List Int,a.length=n->(∀x∈a,0<=x/\x<1000000)->Q (wI a)
theorem Qz{I:Nat->aW}{G:Nat->W}{m:Md}(E:List W)(Q:W->Prop)(R:Addr->Prop)(h:Gr E Q R):wSs I G CJ (bL m Q R) (aA 8 E):=by
 obtain⟨e,k,n,rfl,T,B⟩:=h;show wSs _ _ CJ _ [some (.di e),some (.int k),some (.int n),none,none,none,none,none];unfold CJ;have F:((10:Int)^(6:Int).toNat).natAbs.log2<1000000000:=kC (n:=31) (by decide) (by decide);have v:((10:Int)^(6:Int).toNat)=1000000:=by decide
 refine aY (λa=>∃c:Int,a=[some (.di e),some (.int k),some (.int n),some (.int c),none,none,none,none]) (λN d=>?_) ?_
 .fin2;exact d _ ⟨_,rfl⟩
 rintro _ ⟨c,rfl⟩;refine aY (λa=>∃c:Int,a=[some (.di e),some (.int k),some (.int n),some (.int c),none,none,none,none]) (λN d=>?_) ?_
 .fin2;by_cases M:k<e.length
  .rw[FM (GM (by lia))];exact⟨_,L2.qi (DL M),d _ ⟨_,rfl⟩⟩
  .rw[Da (by rw[TC];lia)];exact d _ ⟨_,rfl⟩
 rintro _ ⟨c,rfl⟩;refine aY (λa=>a=[some (.di e),some (.int k),some (.int n),some (.int c),some (.int 0),none,none,none]) (λN d=>?_) ?_
 .fin2;exact d _ rfl
 rintro _ rfl;refine aY (λa=>∃r:Int,a=[some (.di e),some (.int k),some (.int n),some (.int c),some (.int r),none,none,none]) (λN d=>?_) ?_
 .fin2;split
  .exact d _ ⟨_,rfl⟩
  .refine⟨dF (by decide) (by decide) (by decide),?_⟩;split
   .exact d _ ⟨_,rfl⟩
   .exact d _ ⟨_,rfl⟩
 rintro _ ⟨r,rfl⟩;refine aY (λa=>∃x:Int,(0<=x/\x<2^31)/\a=[some (.di e),some (.int k),some (.int n),some (.int c),some (.int r),some (.int x),none,none]) (λN d=>?_) ?_
 .have f:=fm (x:=c) (n:=2147483647) (by decide);fin2;exact⟨by decide,d _ ⟨_,⟨f.1,by lia⟩,rfl⟩⟩
 rintro _ ⟨x,⟨D,C⟩,rfl⟩;refine aY (λa=>a=[some (.di e),some (.int k),some (.int n),some (.int c),some (.int r),some (.int x),some (wI []),none]) (λN d=>?_) ?_
 .fin2;exact⟨ao (by simp),d _ rfl⟩
 rintro _ rfl;refine aY (λa=>∃(r x:Int)(b:List Int)(j:Option W),(b.length=n/\∀x∈b,0<=x/\x<1000000)/\a=[some (.di e),some (.int k),some (.int n),some (.int c),some (.int r),some (.int x),some (wI b),j]) (λN d=>?_) ?_
 .refine xQ (l:=gr 0 1 n) (λQ B=>?_) ?_
  .fin2;exact⟨by lia,by lia,by rw[O6];exact B⟩
  refine gX (λi H=>∃(r x:Int)(b:List Int)(j:Option W),((0<=x/\x<2^31)/\b.length=i/\∀x∈b,0<=x/\x<1000000)/\H=[some (.di e),some (.int k),some (.int n),some (.int c),some (.int r),some (.int x),some (wI b),j]) ⟨r,x,[],none,⟨⟨D,C⟩,rfl,λx A=>by cases A⟩,rfl⟩ ?_ ?_
  .rintro i w _ P L ⟨r,x,b,j,⟨⟨D,C⟩,p,s⟩,rfl⟩ O;obtain⟨U,rfl⟩:=MC L;have u:∀(r x y:Int),(0<=x/\x<2^31)->0<=y->y<1000000->P [some (.di e),some (.int k),some (.int n),some (.int c),some (.int r),some (.int x),some (.lst (b.map W.int++[.int y])),some (.int i)]:=λr x y A K J=>by
    have o:=O [some (.di e),some (.int k),some (.int n),some (.int c),some (.int r),some (.int x),some (wI (b++[y])),some (.int i)] ⟨r,x,b++[y],some (.int i),⟨A,by rw[Dx,p];rfl,λz hz=>?_⟩,rfl⟩
    .unfold wI at o;rw[KB]at o;exact o
    .rcases FK.mp hz with hz|hz
     .exact s z hz
     .rw[Do.mp hz];exact⟨K,J⟩
   unfold IF;refine aY (λa=>∃q:Int,(0<=q/\q<2^31)/\a=[some (.di e),some (.int k),some (.int n),some (.int c),some (.int r),some (.int q),some (wI b),some (.int i)]) (λX S=>?_) ?_
   .have f:=fm (x:=x*39373+7561*(i:Int)*(i:Int)+1013904223) (n:=2147483647) (by decide);fin2;exact⟨eL (n:=31) (m:=16) (by lia) (by decide) (by decide),eL (n:=13) (m:=6) (by decide) (by lia) (by decide),eL (n:=19) (m:=6) (by lia) (by lia) (by decide),by decide,S _ ⟨_,⟨f.1,by lia⟩,rfl⟩⟩
   rintro _ ⟨q,t,rfl⟩;have g:(b.map W.int).length<sizeLine:=by rw[Ee];exact Fk (m:=100) (by lia) (by decide)
   fin2;split
   .have f:=fm (x:=r) (n:=(10:Int)^(6:Int).toNat) (by decide);rw[v]at f⊢;exact⟨dF (by decide) (by decide) (by decide),by decide,g,dF (by decide) (by decide) (by decide),⟨by decide,by rw[v]at F;exact F⟩,u _ _ _ t f.1 f.2⟩
   .have f:=fm (x:=(q*65539).fmod 998244353) (n:=(10:Int)^(6:Int).toNat) (by decide);rw[v]at f⊢;exact⟨eL (n:=31) (m:=17) (by lia) (by decide) (by decide),by decide,dF (by decide) (by decide) (by decide),by decide,g,u _ _ _ t f.1 f.2⟩
  .rintro _ ⟨r,x,b,j,⟨_,p,s⟩,rfl⟩;rw[Ge]at p;exact d _ ⟨r,x,b,j,⟨p,s⟩,rfl⟩
 rintro _ ⟨r,x,b,j,⟨p,s⟩,rfl⟩;exact B b p s
abbrev wX(x:List Nat):W:=.str (tx x)
noncomputable def CL:List CS:=[.set 4 (.bin .Add (.var 4) (.ix (.var 1) (.bin .Mod (.bin .FloorDiv (.var 3) (.var 5)) (.int 26))))]
noncomputable def CM:List CS:=[.set 4 (.str ""),.fr [5] true (.lst [(.int 8),(.int 208),(.int 5408)]) CL,.set 4 (.slt (.bin .Mult (.var 4) (.int 3)) .aI (.bin .Add (.int 1) (.bin .Mod (.var 3) (.int 8)))),.set 6 (.int 0),.Nb (.cmp .In (.var 4) (.var 2)) [.set 4 (.ix (.var 1) (.var 6)),.set 6 (.bin .Add (.var 6) (.int 1))],.app 2 (.var 4)]
noncomputable def CN:List CS:=[.set 1 (.str "abcdefghijklmnopqrstuvwxyz"),.set 2 (.lst []),.fr [3] true (.var 0) CM,.ret (.var 2)]
noncomputable def Gu:aW:=λc Q _=>∃a:List Int,c=[wI a]/\a.length<=3/\(∀x∈a,0<=x/\x<1000000)/\∀b:List (List Nat),b.length=a.length->(∀x∈b,kF x)->Q (.lst (b.map wX))
theorem Gv{r:Int}(b:0<=r)(d:r<26):∃c,ie lets r=some c/\isLet c:=by
 obtain⟨n,rfl⟩:=OF b;have a:n<lets.length:=by show n<26;omega
 exact⟨lets[n],dO (DL a),jC.mp (Mo a)⟩
theorem WX{xs:List (List Nat)}(h:xs.length<=2)(e:[97]∈xs)(c:[98]∈xs)(d:[99]∈xs):False:=by
 match xs,h with
 |[],_=>cases e
 |[x],_=>have a:=Do.mp e;have b:=Do.mp c;rw[<-a]at b;cases b
 |[x,y],_=>simp only[FC,Os,X8]at e c d;rcases e with rfl|rfl<;>rcases c with c|c<;>rcases d with d|d<;>first|(cases c;done)|(cases d;done)|(subst c;cases d;done)
 |_::_::_::_,h=>simp at h
theorem MM(w:List Nat)(xs:List (List Nat)):decide (tx w∈xs.map tx)=decide (w∈xs):=YG.mpr ⟨λh=>by obtain⟨y,a,e⟩:=Hn.mp h;rw[<-uT e];exact a,λh=>Hn.mpr ⟨w,h,rfl⟩⟩
theorem MN(l:List Nat)(k:Nat):oA l none (some (k:Int))=l.take k:=by
 unfold oA;have b:HT.bO l.length 0 none=0:=rfl;have a:HT.bO l.length l.length (some (k:Int))=min k l.length:=by unfold HT.bO;dsimp only;rw[Da (by omega),O6]
 rw[b,a,Q8,Rb,<-List.take_eq_take_min]
theorem QA{U:Nat->aW}{G:Nat->W}{m:Md}(O:List W)(Q:W->Prop)(R:Addr->Prop)(h:Gu O Q R):wSs U G CN (bL m Q R) (aA 7 O):=by
 obtain⟨g,rfl,hl,hm,L⟩:=h;show wSs _ _ CN _ [some (wI g),none,none,none,none,none,none];unfold CN;fin2;refine⟨ao (by simp),?_⟩;show ig _ _ (g.map W.int) _;refine gX (λi F=>∃(d:List (List Nat))(o3 I b o:Option W),(d.length=i/\∀x∈d,kF x)/\F=[some (wI g),some (.str "abcdefghijklmnopqrstuvwxyz"),some (.lst (d.map wX)),o3,I,b,o]) ⟨[],none,none,none,none,⟨rfl,λx hx=>by cases hx⟩,rfl⟩ ?_ ?_
 .rintro i w _ N e ⟨d,o3,I,b,o,⟨C,H⟩,rfl⟩ hN;obtain⟨n,S,rfl⟩:∃n,g[i]?=some n/\w=.int n:=by rw[Fm]at e;obtain⟨n,e1,e2⟩:=Kk.mp e;exact⟨n,e1,e2.symm⟩
  have li:=(GE.mp S).1;have⟨n0,n1⟩:=hm n (KE S);dsimp only[GN,IP,List.set];unfold CM;refine aY (λa=>a=[some (wI g),some (.str "abcdefghijklmnopqrstuvwxyz"),some (.lst (d.map wX)),some (.int n),some (wX []),b,o]) (λE p=>?_) ?_
  .fin2;rw[xK];exact p _ rfl
  rintro _ rfl;refine aY (λa=>∃(u:List Nat)(b:Option W),(u.length=3/\∀c∈u,isLet c)/\a=[some (wI g),some (.str "abcdefghijklmnopqrstuvwxyz"),some (.lst (d.map wX)),some (.int n),some (wX u),b,o]) (λE p=>?_) ?_
  .refine xQ (l:=[.int 8,.int 208,.int 5408]) (λQ L=>?_) ?_
   .fin2;exact⟨ao (by show 3<=1000;decide),L⟩
   refine gX (λi F=>∃(u:List Nat)(b:Option W),(u.length=i/\∀c∈u,isLet c)/\F=[some (wI g),some (.str "abcdefghijklmnopqrstuvwxyz"),some (.lst (d.map wX)),some (.int n),some (wX u),b,o]) ⟨[],b,⟨rfl,λc t=>by cases t⟩,rfl⟩ ?_ ?_
   .rintro j w _ N3 e ⟨u,b,⟨A,v⟩,rfl⟩ WY;have⟨s,es,s0,s1⟩:∃s:Int,w=.int s/\0<s/\s<10000:=by
     match j,e with
     |0,e=>cases e;exact⟨8,rfl,by decide,by decide⟩
     |1,e=>cases e;exact⟨208,rfl,by decide,by decide⟩
     |2,e=>cases e;exact⟨5408,rfl,by decide,by decide⟩
     |j+3,e=>cases e
    subst es;have f:=fm (x:=n.fdiv s) (n:=26) (by decide);obtain⟨c,t,Y⟩:=Gv f.1 f.2;unfold CL;fin2;have lj:j<3:=(GE.mp e).1;refine⟨⟨by omega,kC (n:=14) (by omega) (by decide)⟩,by decide,ao (by rw[kD];show 26<=1000;decide),c,by rw[kD];exact t,ao (by show u.length+1<=1000;omega),?_⟩;rw[eZ];exact WY _ ⟨u++[c],_,⟨by simp[A],λz hz=>by
     rcases FK.mp hz with hz|hz
     .exact v z hz
     .rw[Do.mp hz];exact Y⟩,rfl⟩
   .rintro _ ⟨u,b,⟨A,v⟩,rfl⟩;exact p _ ⟨u,b,⟨A,v⟩,rfl⟩
  rintro _ ⟨u,b,⟨A,v⟩,rfl⟩;refine aY (λa=>∃u:List Nat,kF u/\a=[some (wI g),some (.str "abcdefghijklmnopqrstuvwxyz"),some (.lst (d.map wX)),some (.int n),some (wX u),b,o]) (λE p=>?_) ?_
  .have f:=fm (x:=n) (n:=8) (by decide);fin2;obtain⟨q,K⟩:=OF f.1;have P:(u++u++u).length=9:=by simp[A]
   refine⟨rfl,by omega,by decide,ao (by omega),p _ ⟨(u++u++u).take (1+q),⟨λz=>?_,?_,λc t=>?_⟩,?_⟩⟩
   .have:=Kt IY z;rw[SL,P,G2]at this;omega
   .rw[SL,P];omega
   .have:=List.mem_of_mem_take t;simp only[FK,or_self]at this;exact v c this
   .rw[K,show((1:Int)+(q:Nat))=((1+q:Nat):Int) by omega,MN]
  rintro _ ⟨u,J,rfl⟩;refine aY (λa=>a=[some (wI g),some (.str "abcdefghijklmnopqrstuvwxyz"),some (.lst (d.map wX)),some (.int n),some (wX u),b,some (.int 0)]) (λE p=>?_) ?_
  .fin2;exact p _ rfl
  rintro _ rfl;refine aY (λa=>∃(u:List Nat)(o:Option W),kF u/\a=[some (wI g),some (.str "abcdefghijklmnopqrstuvwxyz"),some (.lst (d.map wX)),some (.int n),some (wX u),b,o]) (λE p=>?_) ?_
  .fin2;refine CA (α:=List Nat×Nat) (λs=>[some (wI g),some (.str "abcdefghijklmnopqrstuvwxyz"),some (.lst (d.map wX)),some (.int n),some (wX s.1),b,some (.int (s.2:Nat))]) (λs=>kF s.1/\s.2<=3/\(∀j,j+1<s.2->[97+j]∈d)/\(1<=s.2->s.1=[97+(s.2 -1)])) (λs=>3 -s.2) (u,0) rfl ⟨J,by show 0<=3;decide,λj z=>by simp at z,λz=>by simp at z⟩ ?_;rintro⟨u,k⟩ ⟨T,h2,D,M⟩;dsimp only at T h2 D M⊢;fin2;refine⟨d.map tx,by rw[NK];rfl,?_⟩;rw[MM];refine qS (λq=>?_) (λ_=>p _ ⟨u,_,T,rfl⟩);have r:=Ap q;have Z:k<=2:=by
    rcases UF k 3 with z|z
    .omega
    .have ek:k=3:=by omega
     subst ek;have:=M (by decide);rw[this]at r;exact(WX (by omega) (D 0 (by decide)) (D 1 (by decide)) r).elim
   fin2;have X:k<lets.length:=by show k<26;omega
   have WZ:lets[k]=97+k:=by
    match k,Z with
    |0,_=>rfl
    |1,_=>rfl
    |2,_=>rfl
    |k+3,z=>omega
   refine⟨ao (by rw[kD];show 26<=1000;decide),97+k,by rw[kD];exact dO (by rw[jM,DL X,WZ]),([97+k],k+1),rfl,⟨⟨by simp,by simp,λc t=>by rw[Do.mp t];unfold isLet;omega⟩,by show k+1<=3;omega,λj z=>?_,λ_=>rfl⟩,by show 3 -(k+1)<3 -k;omega⟩;have z:j+1<k+1:=z;rcases UF (j+1) k with y|y
   .exact D j y
   .have:j=k -1:=by omega
    rw[this,<-M (by omega)];exact r
  rintro _ ⟨u,o,J,rfl⟩;fin2;have B:=hN [some (wI g),some (.str "abcdefghijklmnopqrstuvwxyz"),some (.lst ((d++[u]).map wX)),some (.int n),some (wX u),b,o] ⟨d++[u],_,_,_,_,⟨by simp[C],λz hz=>?_⟩,rfl⟩
  .rw[KB]at B;exact⟨Fk (m:=100) (by rw[Ee];omega) (by decide),B⟩
  .rcases FK.mp hz with hz|hz
   .exact H z hz
   .rw[Do.mp hz];exact J
 .rintro _ ⟨d,o3,I,b,o,⟨C,H⟩,rfl⟩;rw[Ee]at C;exact L d C H
abbrev It:=Tr×Int×Int×Int
noncomputable def iW(x:It):W:=.tup [wt x.1,.int x.2.1,.int x.2.2.1,.int x.2.2.2]
noncomputable def fL(x:Int):Prop:=0<=x/\x<=150
noncomputable def Gw(x:It):Prop:=oi x.1/\fL x.2.1/\fL x.2.2.1/\fL x.2.2.2
theorem uc{x:List Nat}(h:∀c∈x,c<1114112):PyData.strOk (tx x)=true:=by unfold PyData.strOk;rw[<-Array.all_toList,Hb];intro c a;exact GM (h c a)
theorem Th{x:List Nat}(h:kF x)(n:Nat):kM n (wX x)=true:=by
 have:PyData.strOk (tx x)=true:=uc λc a=>by have:=h.2.2 c a;unfold isLet at this;omega
 cases n<;>exact this
theorem Ti{xs:List (List Nat)}(h:∀x∈xs,kF x):kM 9 (.lst (xs.map wX))=true:=Hb.mpr λw b=>by obtain⟨x,a,rfl⟩:=Hn.mp b;exact Th (h x a) 8
noncomputable def vH:List CS:=[.iff (.and [(.cmp .Lt (.bin .Mod (.var 0) (.int 5)) (.int 3)),(.cmp .NotEq (.var 1) (.lst []))]) [.ret (.tup [(.tup [(.str "name"),(.ix (.var 1) (.bin .Mod (.bin .FloorDiv (.var 0) (.int 5)) (.blt .len [(.var 1)])))]),(.int 1),(.int 0),(.int 1)])] [],.iff (.and [(.cmp .Eq (.bin .Mod (.var 0) (.int 5)) (.int 4)),(.cmp .Eq (.bin .Mod (.bin .FloorDiv (.var 0) (.int 5)) (.int 8)) (.int 0))]) [.set 2 (.bin .Add (.bin .Mult (.bin .Add (.var 0) (.int 1)) (.bin .Pow (.int 10) (.int 20))) (.bin .Mult (.var 0) (.int 7919))),.ret (.tup [(.tup [(.str "number"),(.var 2)]),(.int 0),(.int 0),(.int 30)])] [],.ret (.tup [(.tup [(.str "number"),(.bin .Mod (.bin .FloorDiv (.var 0) (.int 5)) (.ix (.lst [(.int 13),(.int 3),(.int 1000)]) (.bin .Mod (.bin .FloorDiv (.var 0) (.int 200)) (.int 3))))]),(.int 0),(.int 0),(.int 3)])]
noncomputable def CO:aW:=λb Q _=>∃(n:Int)(a:List (List Nat)),b=[.int n,.lst (a.map wX)]/\(0<=n/\n<125000)/\a.length<=3/\(∀x∈a,kF x)/\∀x:It,Gw x->sz x.1=1->Q (iW x)
theorem Sz(x:Int):∃k:Int,(1<=k/\k<=1000)/\ie [W.int 13,.int 3,.int 1000] (x.fmod 3)=some (.int k):=by
 have f:=fm (x:=x) (n:=3) (by decide);have:x.fmod 3=0\/x.fmod 3=1\/x.fmod 3=2:=by omega
 rcases this with e|e|e<;>rw[e]
 .exact⟨13,by omega,rfl⟩
 .exact⟨3,by omega,rfl⟩
 .exact⟨1000,by omega,rfl⟩
theorem s2{a b:W}:[a,b].length<=sizeLine:=ao (by show 2<=1000;decide)
theorem s3{a b c:W}:[a,b,c].length<=sizeLine:=ao (by show 3<=1000;decide)
theorem s4{a b c d:W}:[a,b,c,d].length<=sizeLine:=ao (by show 4<=1000;decide)
theorem i0:fL 0:=by unfold fL;omega
theorem i1:fL 1:=by unfold fL;omega
theorem i3:fL 3:=by unfold fL;omega
theorem W0:fL 30:=by unfold fL;omega
theorem MO{o:Nat->aW}{G:Nat->W}{m:Md}(r:List W)(Q:W->Prop)(R:Addr->Prop)(h:CO r Q R):wSs o G vH (bL m Q R) (aA 3 r):=by
 obtain⟨n,a,rfl,⟨C,I⟩,J,t,w⟩:=h;have q:sd n 5:=⟨by decide,kC (n:=14) (by decide) (by decide)⟩;have F:sd n 200:=⟨by decide,kC (n:=14) (by decide) (by decide)⟩;have P:∀s:Int,0<s->0<=n.fdiv s:=λs O=>Ui C (by omega);have d:wSs o G [.iff (.and [(.cmp .Eq (.bin .Mod (.var 0) (.int 5)) (.int 4)),(.cmp .Eq (.bin .Mod (.bin .FloorDiv (.var 0) (.int 5)) (.int 8)) (.int 0))]) [.set 2 (.bin .Add (.bin .Mult (.bin .Add (.var 0) (.int 1)) (.bin .Pow (.int 10) (.int 20))) (.bin .Mult (.var 0) (.int 7919))),.ret (.tup [(.tup [(.str "number"),(.var 2)]),(.int 0),(.int 0),(.int 30)])] [],.ret (.tup [(.tup [(.str "number"),(.bin .Mod (.bin .FloorDiv (.var 0) (.int 5)) (.ix (.lst [(.int 13),(.int 3),(.int 1000)]) (.bin .Mod (.bin .FloorDiv (.var 0) (.int 200)) (.int 3))))]),(.int 0),(.int 0),(.int 3)])] (bL m Q R) [some (.int n),some (.lst (a.map wX)),none]:=by
  have e:∀(v c:Int),0<=v->v<10^30->fL c->Q (.tup [.tup [.str "number",.int v],.int 0,.int 0,.int c]):=λv c A H D=>by obtain⟨k,rfl⟩:=OF A;exact w (.nu k,0,0,c) ⟨by show k<10^30;omega,i0,i0,D⟩ rfl
  have g:wSs o G [.ret (.tup [(.tup [(.str "number"),(.bin .Mod (.bin .FloorDiv (.var 0) (.int 5)) (.ix (.lst [(.int 13),(.int 3),(.int 1000)]) (.bin .Mod (.bin .FloorDiv (.var 0) (.int 200)) (.int 3))))]),(.int 0),(.int 0),(.int 3)])] (bL m Q R) [some (.int n),some (.lst (a.map wX)),none]:=by fin2;obtain⟨k,⟨M,L⟩,l⟩:=Sz (n.fdiv 200);have f:=fm (x:=n.fdiv 5) (n:=k) (by omega);exact⟨q,s3,F,by decide,_,l,by omega,s2,s4,e _ _ f.1 (Int.lt_of_lt_of_le f.2 (by omega)) i3⟩
  refine aY (λb=>b=[some (.int n),some (.lst (a.map wX)),none]) (λN i=>?_) (by rintro _ rfl;exact g);fin2;refine⟨by decide,?_⟩;have p:uy 10 20/\IntMulOk (n+1) (10^(20:Int).toNat)/\IntMulOk n 7919/\[W.str "number",W.int ((n+1)*10^(20:Int).toNat+n*7919)].length<=sizeLine/\[W.tup [W.str "number",W.int ((n+1)*10^(20:Int).toNat+n*7919)],W.int 0,W.int 0,W.int 30].length<=sizeLine/\Q (.tup [.tup [.str "number",.int ((n+1)*10^(20:Int).toNat+n*7919)],.int 0,.int 0,.int 30]):=by
   have E:((10:Int)^(20:Int).toNat)=100000000000000000000:=by decide
   rw[E];refine⟨dF (by decide) (by decide) (by decide),eL (n:=20) (m:=70) (by omega) (by decide) (by decide),eL (n:=20) (m:=14) (by omega) (by decide) (by decide),s2,s4,e _ _ (by omega) (by omega) W0⟩
  split
  .refine⟨q,by decide,?_⟩;split
   .exact p
   .exact i _ rfl
  .exact i _ rfl
 show wSs _ _ vH _ [some (.int n),some (.lst (a.map wX)),none];unfold vH;refine aY (λb=>b=[some (.int n),some (.lst (a.map wX)),none]) (λN i=>?_) (by rintro _ rfl;exact d);fin2;refine⟨by decide,?_⟩;split
 .refine⟨ao (by show 0<=1000;decide),.inl ⟨Ti t,rfl⟩,λk l=>?_⟩;cases k with
  |true=>exact i _ rfl
  |false=>
   have B:a≠[]:=λz=>by rw[z]at l;have:=l.mpr rfl;cases this
   have K:0<a.length:=Wp.mpr B;have f:=fm (x:=n.fdiv 5) (n:=((a.map wX).length:Nat)) (by rw[Ee];omega);obtain⟨j,y⟩:=OF f.1;have u:j<a.length:=by have:=f.2;rw[y,Ee]at this;omega
   refine⟨q,by rw[Ee];omega,wX a[j],?_,s2,s4,w (.nm a[j],1,0,1) ⟨t _ (Mo u),i1,i0,i1⟩ rfl⟩;rw[y];exact dO (by rw[Fm,DL u];rfl)
 .exact i _ rfl
noncomputable def nI:List CS:=[.iff (.or [(.cmp .Eq (.var 0) (.str "+")),(.cmp .Eq (.var 0) (.str "-"))]) [.set 3 (.blt .max2 [(.bin .Add (.ix (.var 1) (.int 1)) (.ix (.var 2) (.int 2))),(.bin .Add (.ix (.var 2) (.int 1)) (.ix (.var 1) (.int 2)))]),.ret (.tup [(.tup [(.var 0),(.ix (.var 1) (.int 0)),(.ix (.var 2) (.int 0))]),(.var 3),(.bin .Add (.ix (.var 1) (.int 2)) (.ix (.var 2) (.int 2))),(.bin .Add (.bin .Add (.ix (.var 1) (.int 3)) (.ix (.var 2) (.int 3))) (.int 1))])] [],.iff (.cmp .Eq (.var 0) (.str "*")) [.ret (.tup [(.tup [(.var 0),(.ix (.var 1) (.int 0)),(.ix (.var 2) (.int 0))]),(.bin .Add (.ix (.var 1) (.int 1)) (.ix (.var 2) (.int 1))),(.bin .Add (.ix (.var 1) (.int 2)) (.ix (.var 2) (.int 2))),(.bin .Add (.ix (.var 1) (.int 3)) (.ix (.var 2) (.int 3)))])] [],.ret (.tup [(.tup [(.var 0),(.ix (.var 1) (.int 0)),(.ix (.var 2) (.int 0))]),(.bin .Add (.ix (.var 1) (.int 1)) (.ix (.var 2) (.int 2))),(.bin .Add (.ix (.var 1) (.int 2)) (.ix (.var 2) (.int 1))),(.bin .Add (.ix (.var 1) (.int 3)) (.ix (.var 2) (.int 3)))])]
noncomputable def Gx(x:It):Prop:=0<=x.2.1/\0<=x.2.2.1/\0<=x.2.2.2
noncomputable def lZ:aW:=λd Q _=>∃(o:Nat)(x y:It),d=[.str (tx [o]),iW x,iW y]/\Gx x/\Gx y/\∀a b c:Int,Gx (.op o x.1 y.1,a,b,c)->Q (iW (.op o x.1 y.1,a,b,c))
theorem CP{f:Nat->aW}{G:Nat->W}{m:Md}(d:List W)(Q:W->Prop)(R:Addr->Prop)(h:lZ d Q R):wSs f G nI (bL m Q R) (aA 4 d):=by
 obtain⟨o,x,y,rfl,⟨n,l,k⟩,⟨j,i,g⟩,c⟩:=h;show wSs _ _ nI _ [some _,some _,some _,none];unfold nI iW;fin2;have e:∀a b:Int,0<=a->0<=(if b>a then b else a):=λa b h=>by split<;>omega
 split
 .exact⟨_,rfl,_,rfl,_,rfl,_,rfl,_,rfl,_,rfl,s3,_,rfl,_,rfl,_,rfl,_,rfl,s4,c _ _ _ ⟨e _ _ (by omega),by show 0<=_+_;omega,by show 0<=_+_+1;omega⟩⟩
 .split
  .exact⟨_,rfl,_,rfl,_,rfl,_,rfl,_,rfl,_,rfl,s3,_,rfl,_,rfl,_,rfl,_,rfl,s4,c _ _ _ ⟨e _ _ (by omega),by show 0<=_+_;omega,by show 0<=_+_+1;omega⟩⟩
  .split
   .exact⟨_,rfl,_,rfl,s3,_,rfl,_,rfl,_,rfl,_,rfl,_,rfl,_,rfl,s4,c _ _ _ ⟨by show 0<=_+_;omega,by show 0<=_+_;omega,by show 0<=_+_;omega⟩⟩
   .exact⟨_,rfl,_,rfl,s3,_,rfl,_,rfl,_,rfl,_,rfl,_,rfl,_,rfl,s4,c _ _ _ ⟨by show 0<=_+_;omega,by show 0<=_+_;omega,by show 0<=_+_;omega⟩⟩
noncomputable def vI:List CS:=[.ret (.and [(.cmp .LtE (.blt .max2 [(.ix (.var 0) (.int 1)),(.ix (.var 0) (.int 2))]) (.var 1)),(.cmp .LtE (.ix (.var 0) (.int 3)) (.int 150))])]
noncomputable def xR:aW:=λa Q _=>∃(x:It)(k:Int),a=[iW x,.int k]/\∀b:Bool,(b=true->x.2.1<=k/\x.2.2.1<=k/\x.2.2.2<=150)->Q (.bl b)
theorem MP{d:Nat->aW}{G:Nat->W}{m:Md}(b:List W)(Q:W->Prop)(R:Addr->Prop)(h:xR b Q R):wSs d G vI (bL m Q R) (aA 2 b):=by
 obtain⟨x,k,rfl,c⟩:=h;show wSs _ _ vI _ [some _,some _];unfold vI iW;fin2;refine⟨_,rfl,_,rfl,?_⟩;fin2;by_cases a:(if x.2.2.1>x.2.1 then x.2.2.1 else x.2.1)<=k
 .rw[FM (GM a)];refine⟨_,rfl,c _ λz=>?_⟩;have z:=Ap z;split at a<;>exact⟨by omega,by omega,z⟩
 .rw[Da (by rw[TC];exact a)];exact c _ λz=>by cases z
theorem qW{α:Type}(l r:List α)(x:α){i:Int}(a:i= -((r.length+1:Nat):Int)):ie (l++x::r) i=some x:=by
 unfold ie AE;rw[Da (by omega),FM (by simp;omega)];have:(i+((l++x::r).length:Nat)).toNat=l.length:=by simp;omega
 rw[this];show(l++x::r)[l.length]?=some x;rw[KM (Bz _),Vd];rfl
theorem qX(l r:List W){i:Int}(a:r≠[])(e:i= -(r.length:Nat)):jZ (l++r) none (some i)=l:=by
 have d:0<r.length:=Wp.mpr a;unfold jZ;have c:HT.bO (l++r).length 0 none=0:=rfl;have b:HT.bO (l++r).length (l++r).length (some i)=l.length:=by show(if i<0 then(i+((l++r).length:Nat)).toNat else min i.toNat (l++r).length)=_;rw[FM (by omega),Dx];omega
 rw[c,b,Q8,Rb,UY]
theorem Rg{s:Str}(n:Nat)(h:PyData.strOk s=true):kM n (.str s)=true:=by cases n<;>exact h
theorem Va(n:Nat)(i:Int):kM n (.int i)=true:=by cases n<;>rfl
theorem QB:∀(T:Tr)(n:Nat),oi T->sz T<=n->kM n (wt T)=true
 |.nm x,n+1,h,_=>by show[W.str "name",wX x].all (kM n)=true;rw[BQ,BQ,Th h n,Rg n (by decide+kernel)];rfl
 |.nu k,n+1,h,_=>by show[W.str "number",W.int k].all (kM n)=true;rw[BQ,BQ,Va,Rg n (by decide+kernel)];rfl
 |.op o a b,n+1,h,d=>by
  have d:sz a+sz b+1<=n+1:=d;show[W.str (tx [o]),wt a,wt b].all (kM n)=true;rw[BQ,BQ,BQ,QB a n h.2.1 (by omega),QB b n h.2.2 (by omega)];have:PyData.strOk (tx [o])=true:=uc λc f=>by rw[Do.mp f];have:=h.1;omega
  have:kM n (.str (tx [o]))=true:=by cases n<;>exact this
  rw[this];rfl
 |.pw a e,n+1,h,d=>by have d:sz a+1<=n+1:=d;show[W.str "^",wt a,W.int e].all (kM n)=true;rw[BQ,BQ,BQ,QB a n h.2 (by omega),Va,Rg n (by decide+kernel)];rfl
 |.ls a,n+1,h,d=>by have d:sz a+1<=n+1:=d;show[W.str "less",wt a].all (kM n)=true;rw[BQ,BQ,QB a n h (by omega),Rg n (by decide+kernel)];rfl
 |T,0,_,d=>by have:=gH T;omega
noncomputable def iz(L:List It):Nat:=(L.map λx=>sz x.1).sum
theorem ic(a b:List It):iz (a++b)=iz a+iz b:=by unfold iz;rw[KB,List.sum_append]
theorem Gy{L:List It}{x:It}(h:x∈L):sz x.1<=iz L:=by obtain⟨a,b,rfl⟩:=List.append_of_mem h;rw[ic];show _<=_+((x::b).map λx=>sz x.1).sum;rw[Ha,Ul];omega
theorem W3{L:List It}(h:∀x∈L,Gw x)(c:iz L<=50):kM 60 (.lst (L.map iW))=true:=Hb.mpr λw b=>by obtain⟨x,a,rfl⟩:=Hn.mp b;have:=Gy a;show[wt x.1,W.int x.2.1,.int x.2.2.1,.int x.2.2.2].all (kM 58)=true;rw[BQ,QB x.1 58 (h x a).1 (by omega)];rfl
noncomputable def IG:CS:=.iff (.and [(.cmp .Gt (.var 4) (.int 2)),(.cmp .Lt (.var 4) (.int 6)),(.cmp .Gt (.blt .len [(.var 0)]) (.int 1))]) [.set 6 (.call 0 [(.ix (.str "+-*/") (.bin .Mod (.var 5) (.int 4))),(.ix (.var 0) (.neg (.int 2))),(.ix (.var 0) (.neg (.int 1)))]),.iff (.call 1 [(.var 6),(.var 3)]) [.ret (.bin .Add (.sl (.var 0) .aI (.neg (.int 2))) (.lst [(.var 6)]))] []] []
noncomputable def II:CS:=.iff (.and [(.cmp .Eq (.var 4) (.int 6)),(.cmp .NotEq (.var 0) (.lst []))]) [.OP [7,8,9,10] (.ix (.var 0) (.neg (.int 1))),.set 11 (.ix (.lst [(.int 2),(.int 3),(.int 0),(.int 1),(.bin .Mod (.bin .FloorDiv (.var 5) (.int 5)) (.int 13))]) (.bin .Mod (.var 5) (.int 5))),.set 6 (.tup [(.tup [(.str "^"),(.var 7),(.var 11)]),(.bin .Mult (.var 8) (.var 11)),(.bin .Mult (.var 9) (.var 11)),(.bin .Mult (.var 10) (.blt .max2 [(.int 1),(.var 11)]))]),.iff (.call 1 [(.var 6),(.var 3)]) [.ret (.bin .Add (.sl (.var 0) .aI (.neg (.int 1))) (.lst [(.var 6)]))] []] []
noncomputable def IJ:CS:=.iff (.and [(.cmp .Eq (.var 4) (.int 7)),(.cmp .NotEq (.var 0) (.lst []))]) [.ret (.bin .Add (.sl (.var 0) .aI (.neg (.int 1))) (.lst [(.bin .Add (.tup [(.tup [(.str "less"),(.ix (.ix (.var 0) (.neg (.int 1))) (.int 0))])]) (.slt (.ix (.var 0) (.neg (.int 1))) (.int 1) .aI))]))] []
noncomputable def nJ:List CS:=[.set 4 (.bin .Mod (.var 1) (.int 8)),.set 5 (.bin .FloorDiv (.var 1) (.int 8)),IG,II,IJ,.ret (.bin .Add (.var 0) (.lst [(.call 2 [(.var 5),(.var 2)])]))]
noncomputable def qY:aW:=λc Q _=>∃(L:List It)(n k:Int)(b:List (List Nat)),c=[.lst (L.map iW),.int n,.lst (b.map wX),.int k]/\(∀x∈L,Gw x)/\iz L<=20/\(0<=n/\n<1000000)/\b.length<=3/\(∀x∈b,kF x)/\(0<=k/\k<=12)/\∀a:List It,(∀x∈a,Gw x)->a≠[]->iz a<=iz L+1->Q (.lst (a.map iW))
theorem l5:∀L:List It,L.length<=iz L
 |[]=>Bz _
 |x::L=>by have:=l5 L;have:=gH x.1;show L.length+1<=((x::L).map λx=>sz x.1).sum;rw[Ha,Ul];show L.length+1<=sz x.1+iz L;omega
theorem CQ(r:Int):∃o,(o=43\/o=45\/o=42\/o=47)/\ie ("+-*/":Str).cps.toList (r.fmod 4)=some o:=by
 have f:=fm (x:=r) (n:=4) (by decide);have e:("+-*/":Str).cps.toList=[43,45,42,47]:=by decide+kernel
 rw[e];have:r.fmod 4=0\/r.fmod 4=1\/r.fmod 4=2\/r.fmod 4=3:=by omega
 rcases this with h|h|h|h<;>rw[h]
 .exact⟨43,by omega,rfl⟩
 .exact⟨45,by omega,rfl⟩
 .exact⟨42,by omega,rfl⟩
 .exact⟨47,by omega,rfl⟩
theorem W4(r x:Int)(a:0<=x)(b:x<13):∃e:Nat,e<=12/\ie [W.int 2,.int 3,.int 0,.int 1,.int x] (r.fmod 5)=some (.int e):=by
 have f:=fm (x:=r) (n:=5) (by decide);have:r.fmod 5=0\/r.fmod 5=1\/r.fmod 5=2\/r.fmod 5=3\/r.fmod 5=4:=by omega
 obtain⟨j,rfl⟩:=OF a;rcases this with h|h|h|h|h<;>rw[h]
 .exact⟨2,by omega,rfl⟩
 .exact⟨3,by omega,rfl⟩
 .exact⟨0,by omega,rfl⟩
 .exact⟨1,by omega,rfl⟩
 .exact⟨j,by omega,rfl⟩
theorem CT{G:Nat->W}{m:Md}(Z:List W)(Q:W->Prop)(R:Addr->Prop)(h:qY Z Q R):wSs (cE [lZ,xR,CO]) G nJ (bL m Q R) (aA 12 Z):=by
 obtain⟨L,n,k,s,rfl,u,hz,⟨n0,n1⟩,lx,px,⟨k0,k1⟩,hq⟩:=h;have ln:=l5 L;show wSs _ _ nJ _ [some (.lst (L.map iW)),some (.int n),some (.lst (s.map wX)),some (.int k),none,none,none,none,none,none,none,none];unfold nJ;refine aY (λj=>∃w:Int,j=[some (.lst (L.map iW)),some (.int n),some (.lst (s.map wX)),some (.int k),some (.int w),none,none,none,none,none,none,none]) (λN p=>?_) ?_
 .fin2;exact⟨by decide,p _ ⟨_,rfl⟩⟩
 rintro _ ⟨w,rfl⟩;refine aY (λj=>∃r:Int,(0<=r/\r<125000)/\j=[some (.lst (L.map iW)),some (.int n),some (.lst (s.map wX)),some (.int k),some (.int w),some (.int r),none,none,none,none,none,none]) (λN p=>?_) ?_
 .fin2;refine⟨⟨by decide,kC (n:=14) (by decide) (by decide)⟩,p _ ⟨_,⟨Ui n0 (by decide),?_⟩,rfl⟩⟩;rw[YA _ (by decide)];omega
 rintro _ ⟨r,⟨r0,r1⟩,rfl⟩;have Vb:∀{Q:W->Prop},(∀b:Bool,(b=true->∃g y,L=g++[y])->Q (.bl b))->dz .NotEq (.lst (L.map iW)) (.lst []) Q:=λ{Q} hQ=>by
  refine⟨.inr (.inr ⟨W3 u (by omega),rfl⟩),λb hb=>hQ (!b) λz=>?_⟩;have bf:b=false:=by cases b;rfl;cases z
  rcases YU L with e|⟨g,y,e⟩
  .rw[e]at hb;rw[hb.mpr rfl]at bf;cases bf
  .exact⟨g,y,by rw[e,List.concat_eq_append]⟩
 have q:∀(g:List It)(x:It),iz g+sz x.1<=iz L+1->(∀y∈g,Gw y)->Gw x->(g.map iW).length+[iW x].length<=sizeLine/\Q (.lst (g.map iW++[iW x])):=λg x hs h0 T=>by
  have l0:=l5 g;refine⟨ao (by rw[Ee];show g.length+1<=1000;omega),?_⟩;have:=hq (g++[x]) (λy D=>by
   rcases FK.mp D with D|D
   .exact h0 y D
   .rw[Do.mp D];exact T) (by simp) (by rw[ic];unfold iz at hs⊢;simpa using hs)
  rw[KB]at this;exact this
 refine aY (λj=>∃C,j=[some (.lst (L.map iW)),some (.int n),some (.lst (s.map wX)),some (.int k),some (.int w),some (.int r),C,none,none,none,none,none]) (λN p=>?_) ?_
 .unfold IG;fin2;split;rotate_left
  .exact p _ ⟨_,rfl⟩
  split;rotate_left
  .exact p _ ⟨_,rfl⟩
  split;rotate_left
  .exact p _ ⟨_,rfl⟩
  rename_i v
  have v:=Ap v;obtain⟨g,x,y,rfl⟩:∃g x y,L=g++[x,y]:=by
   rw[Ee]at v;rcases YU L with e|⟨L1,y,e⟩
   .rw[e]at v;simp at v
   .rcases YU L1 with Y|⟨g,x,Y⟩
    .rw[e,Y]at v;simp at v
    .exact⟨g,x,y,by rw[e,Y];simp⟩
  obtain⟨o,ho,t⟩:=CQ r;have J:∀z∈g++[x,y],Gw z:=u;have H:=J x (by simp);have l:=J y (by simp);have W5:iz (g++[x,y])=iz g+(sz x.1+sz y.1):=by rw[ic];unfold iz;simp
  refine⟨by decide,ao (by decide+kernel),o,t,iW x,by rw[KB];exact qW (g.map iW) [iW y] _ rfl,iW y,by rw[KB];have:=qW (g.map iW++[iW x]) [] (iW y) (i:= -1) rfl;simpa using this,o,x,y,rfl,⟨H.2.1.1,H.2.2.1.1,H.2.2.2.1⟩,⟨l.2.1.1,l.2.2.1.1,l.2.2.2.1⟩,λa b c U=>⟨(.op o x.1 y.1,a,b,c),k,rfl,λA B=>?_⟩⟩;cases A with
  |false=>exact p _ ⟨_,rfl⟩
  |true=>obtain⟨F,E,X⟩:=B rfl;have F:a<=k:=F;have E:b<=k:=E;have d:=q g (.op o x.1 y.1,a,b,c) (by rw[W5];show iz g+(sz x.1+sz y.1+1)<=_;omega) (λz hz=>J z (by simp[hz])) ⟨⟨ho,H.1,l.1⟩,⟨U.1,by show a<=150;omega⟩,⟨U.2.1,by show b<=150;omega⟩,⟨U.2.2,X⟩⟩;show[iW _].length<=sizeLine/\_;refine⟨ao (by show 1<=1000;decide),?_⟩;rw[KB,show jZ (g.map iW++[x,y].map iW) none (some (-2))=g.map iW from qX _ _ (by simp) rfl];exact d
 rintro _ ⟨C,rfl⟩;refine aY (λj=>∃C S P O M K,j=[some (.lst (L.map iW)),some (.int n),some (.lst (s.map wX)),some (.int k),some (.int w),some (.int r),C,S,P,O,M,K]) (λN p=>?_) ?_
 .unfold II;fin2;split;rotate_left
  .exact p _ ⟨_,_,_,_,_,_,rfl⟩
  refine⟨ao (by show 0<=1000;decide),Vb λA B=>?_⟩;cases A with
  |false=>exact p _ ⟨_,_,_,_,_,_,rfl⟩
  |true=>
   obtain⟨g,y,rfl⟩:=B rfl;have l:=u y (by simp);have I:iz (g++[y])=iz g+sz y.1:=by rw[ic];unfold iz;simp
   refine⟨iW y,by rw[KB];exact qW (g.map iW) [] _ rfl,rfl,?_⟩;fin2;have f:=fm (x:=r.fdiv 5) (n:=13) (by decide);obtain⟨e,he,t⟩:=W4 r _ f.1 f.2;have mk:∀z:Int,fL z->IntMulOk z e:=λz hz=>eL (n:=8) (m:=4) (by have:=hz.1;have:=hz.2;omega) (by omega) (by decide);refine⟨⟨by decide,kC (n:=14) (by decide) (by decide)⟩,by decide,ao (by show 5<=1000;decide),by decide,_,t,?_⟩;fin2;have mx:(if(e:Int)>1 then(e:Int)else 1)=((max 1 e:Nat):Int):=by split<;>omega
   refine⟨s3,mk _ l.2.1,mk _ l.2.2.1,?_⟩;rw[mx];refine⟨eL (n:=8) (m:=4) (by have:=l.2.2.2.1;have:=l.2.2.2.2;omega) (by omega) (by decide),s4,(.pw y.1 e,y.2.1*e,y.2.2.1*e,y.2.2.2*(max 1 e:Nat)),k,rfl,λA B=>?_⟩;cases A with
   |false=>exact p _ ⟨_,_,_,_,_,_,rfl⟩
   |true=>obtain⟨F,E,X⟩:=B rfl;have F:y.2.1*e<=k:=F;have E:y.2.2.1*e<=k:=E;have d:=q g (.pw y.1 e,y.2.1*e,y.2.2.1*e,y.2.2.2*(max 1 e:Nat)) (by rw[I];show iz g+(sz y.1+1)<=_;omega) (λz hz=>u z (by simp[hz])) ⟨⟨he,l.1⟩,⟨QM l.2.1.1 (by omega),by show y.2.1*e<=150;omega⟩,⟨QM l.2.2.1.1 (by omega),by show y.2.2.1*e<=150;omega⟩,⟨QM l.2.2.2.1 (by omega),X⟩⟩;refine⟨ao (by show 1<=1000;decide),?_⟩;rw[KB,show jZ (g.map iW++[y].map iW) none (some (-1))=g.map iW from qX _ _ (by simp) rfl];exact d
 rintro _ ⟨C,S,P,O,M,K,rfl⟩;refine aY (λj=>j=[some (.lst (L.map iW)),some (.int n),some (.lst (s.map wX)),some (.int k),some (.int w),some (.int r),C,S,P,O,M,K]) (λN p=>?_) ?_
 .unfold IJ;fin2;split;rotate_left
  .exact p _ rfl
  refine⟨ao (by show 0<=1000;decide),Vb λA B=>?_⟩;cases A with
  |false=>exact p _ rfl
  |true=>
   obtain⟨g,y,rfl⟩:=B rfl;have l:=u y (by simp);have I:iz (g++[y])=iz g+sz y.1:=by rw[ic];unfold iz;simp
   have a1:ie ((g++[y]).map iW) (-1)=some (iW y):=by rw[KB];exact qW (g.map iW) [] _ rfl
   have d:=q g (.ls y.1,y.2.1,y.2.2.1,y.2.2.2) (by rw[I];show iz g+(sz y.1+1)<=_;omega) (λz hz=>u z (by simp[hz])) ⟨l.1,l.2⟩;refine⟨iW y,a1,_,rfl,s2,ao (by show 1<=1000;decide),iW y,a1,(by show¬(1=0/\_);omega),(by simp),(by show 1+3<=sizeLine;exact ao (by decide)),ao (by show 1<=1000;decide),?_⟩;rw[KB,show jZ (g.map iW++[y].map iW) none (some (-1))=g.map iW from qX _ _ (by simp) rfl];exact d
 rintro _ rfl;fin2;refine⟨r,s,rfl,⟨r0,r1⟩,lx,px,λx T sx=>?_⟩;exact⟨ao (by show 1<=1000;decide),q L x (by omega) u T⟩
noncomputable def IK:List CS:=[.set 3 (.call 0 [(.var 3),(.var 4),(.var 1),(.var 2)])]
noncomputable def IL:List CS:=[.set 7 (.call 1 [(.ix (.str "+-*/") (.bin .Mod (.bin .Add (.blt .len [(.var 0)]) (.var 6)) (.int 4))),(.var 5),(.ix (.var 3) (.var 6))]),.iff (.call 2 [(.var 7),(.var 2)]) [.set 5 (.var 7)] []]
noncomputable def qZ:List CS:=[.set 3 (.lst []),.fr [4] true (.var 0) IK,.set 5 (.ix (.var 3) (.int 0)),.fr [6] true (.p9 [(.int 1),(.blt .len [(.var 3)])]) IL,.ret (.ix (.var 5) (.int 0))]
noncomputable def ri:aW:=λc Q _=>∃(a:List Int)(b:List (List Nat))(k:Int),c=[wI a,.lst (b.map wX),.int k]/\(1<=a.length/\a.length<=14)/\(∀x∈a,0<=x/\x<1000000)/\b.length<=3/\(∀x∈b,kF x)/\(0<=k/\k<=12)/\∀T:Tr,oi T->sz T<=27->Q (wt T)
theorem ud(L:List It)(i:Nat)(h:i<L.length):iz (L.take (i+1))=iz (L.take i)+sz L[i].1:=by rw[Po,DL h,ic];unfold iz;simp
theorem ue(n:Nat){a b:Int}:(gr a b n).length=n:=by unfold gr;simp
theorem Gz{G:Nat->W}{m:Md}(I:List W)(Q:W->Prop)(R:Addr->Prop)(h:ri I Q R):wSs (cE [qY,lZ,xR]) G qZ (bL m Q R) (aA 8 I):=by
 obtain⟨f,q,k,rfl,⟨m1,XZ⟩,Z,P,M,⟨T,S⟩,y⟩:=h;show wSs _ _ qZ _ [some (wI f),some (.lst (q.map wX)),some (.int k),none,none,none,none,none];unfold qZ;refine aY (λd=>d=[some (wI f),some (.lst (q.map wX)),some (.int k),some (.lst []),none,none,none,none]) (λN t=>?_) ?_
 .fin2;exact⟨ao (by show 0<=1000;decide),t _ rfl⟩
 rintro _ rfl;refine aY (λd=>∃(L:List It)(e:Option W),((∀x∈L,Gw x)/\L≠[]/\iz L<=14)/\d=[some (wI f),some (.lst (q.map wX)),some (.int k),some (.lst (L.map iW)),e,none,none,none]) (λN t=>?_) ?_
 .refine xQ (l:=f.map W.int) (λQ y=>?_) ?_
  .fin2;exact y
  refine gX (λi D=>∃(L:List It)(e:Option W),((∀x∈L,Gw x)/\(0<i->L≠[])/\iz L<=i)/\D=[some (wI f),some (.lst (q.map wX)),some (.int k),some (.lst (L.map iW)),e,none,none,none]) ⟨[],none,⟨(λx U=>by cases U),(λz=>by omega),Bz _⟩,rfl⟩ ?_ ?_
  .rintro i w _ N1 j ⟨L,e,⟨g,p,v⟩,rfl⟩ C;obtain⟨n,K,rfl⟩:∃n,f[i]?=some n/\w=.int n:=by rw[Fm]at j;obtain⟨n,e1,e2⟩:=Kk.mp j;exact⟨n,e1,e2.symm⟩
   have E:=(GE.mp K).1;unfold IK;fin2;exact⟨L,n,k,q,rfl,g,by omega,Z n (KE K),P,M,⟨T,S⟩,λL' a b c=>C _ ⟨L',_,⟨a,λ_=>b,by omega⟩,rfl⟩⟩
  .rintro _ ⟨L,e,⟨g,p,v⟩,rfl⟩;rw[Ee]at p v;exact t _ ⟨L,e,⟨g,p (by omega),by omega⟩,rfl⟩
 rintro _ ⟨L,e,⟨A,O,hz⟩,rfl⟩;have u:0<L.length:=Wp.mpr O;have ll:=l5 L;refine aY (λd=>d=[some (wI f),some (.lst (q.map wX)),some (.int k),some (.lst (L.map iW)),e,some (iW L[0]),none,none]) (λN t=>?_) ?_
 .fin2;exact⟨_,dO (n:=0) (by rw[Fm,DL u];rfl),t _ rfl⟩
 rintro _ rfl;refine aY (λd=>∃(x:It)(s r:Option W),(oi x.1/\sz x.1<=27)/\d=[some (wI f),some (.lst (q.map wX)),some (.int k),some (.lst (L.map iW)),e,some (iW x),s,r]) (λN t=>?_) ?_
 .refine xQ (l:=gr 1 1 (L.length -1)) (λQ y=>?_) ?_
  .fin2;refine⟨⟨by decide,by decide,by omega,by rw[Ee];omega⟩,?_⟩;rw[show(((L.map iW).length:Nat) -1:Int).toNat=L.length -1 by rw[Ee];omega];exact y
  refine gX (λi D=>∃(x:It)(s r:Option W),((oi x.1/\Gx x)/\sz x.1<=iz (L.take (i+1))+i)/\D=[some (wI f),some (.lst (q.map wX)),some (.int k),some (.lst (L.map iW)),e,some (iW x),s,r]) ⟨L[0],none,none,⟨⟨(A _ (Mo u)).1,(A _ (Mo u)).2.1.1,(A _ (Mo u)).2.2.1.1,(A _ (Mo u)).2.2.2.1⟩,by rw[ud L 0 u];show _<=iz []+_+0;omega⟩,rfl⟩ ?_ ?_
  .rintro i w _ N1 j ⟨x,s,r,⟨⟨g,p⟩,v⟩,rfl⟩ C;have E:=(GE.mp j).1;rw[ue]at E;obtain rfl:w=.int ((i+1:Nat):Int):=by unfold gr at j;rw[Fm,MF E]at j;have j:some (W.int (1+(i:Int)*1))=some w:=j;rw[<-IR j,show(1+(i:Int)*1)=((i+1:Nat):Int) by omega]
   have F:i+1<L.length:=by omega
   have B:=A _ (Mo F);obtain⟨o,Y,H⟩:=CQ (((f.map W.int).length:Int)+((i+1:Nat):Int));unfold IL;fin2;refine⟨(by show(4:Int)≠0;decide),ao (by decide+kernel),o,H,iW L[i+1],dO (by rw[Fm,DL F];rfl),o,x,L[i+1],rfl,p,⟨B.2.1.1,B.2.2.1.1,B.2.2.2.1⟩,λa b c X=>⟨(.op o x.1 L[i+1].1,a,b,c),k,rfl,λbb C9=>?_⟩⟩;have J:=ud L (i+1) F;cases bb with
   |false=>exact C _ ⟨x,_,_,⟨⟨g,p⟩,by rw[J];omega⟩,rfl⟩
   |true=>exact C _ ⟨(.op o x.1 L[i+1].1,a,b,c),_,_,⟨⟨⟨Y,g,B.1⟩,X⟩,by rw[J];show sz x.1+sz L[i+1].1+1<=_;omega⟩,rfl⟩
  .rintro _ ⟨x,s,r,⟨⟨g,p⟩,v⟩,rfl⟩;rw[ue]at v;refine t _ ⟨x,s,r,⟨g,?_⟩,rfl⟩;rw[show L.length -1+1=L.length by omega,OK]at v;omega
 rintro _ ⟨x,s,r,⟨g,p⟩,rfl⟩;unfold iW;fin2;exact⟨_,rfl,y _ g p⟩
theorem CU:∀(l:List Str)(p:Str),risingS p l=true->(p::l).Pairwise λa b=>a.cps.toList<=b.cps.toList
 |[],p,_=>YL _ _
 |x::l,p,h=>by
  have h:(!ltCps x.cps.toList p.cps.toList&&risingS x l)=true:=h;rw[AC,ltCps_eq]at h;have d:p.cps.toList<=x.cps.toList:=List.not_lt.mp (by simpa using h.1);have f:=CU l x h.2;refine Sa.mpr ⟨λy c=>?_,f⟩;rcases FC.mp c with e|c
  .rw[e];exact d
  .exact List.le_trans d ((Sa.mp f).1 y c)
theorem CV{l:List Str}(h:sortedS l=true):l.Pairwise λa b=>a.cps.toList<=b.cps.toList:=by
 cases l with
 |nil=>exact M4
 |cons x l=>exact CU l x h
theorem GA{a b:List Str}(f:a.Nodup)(e:b.Nodup)(h:∀z,z∈a↔z∈b)(d:sortedS a=true)(c:sortedS b=true):a=b:=by refine W9 (λx y _ _ i g=>?_) (CV d) (CV c) ((List.perm_ext_iff_of_nodup f e).mpr h);have:=List.le_antisymm i g;rw[<-jV x,<-jV y,this]
noncomputable def rj:List CS:=[.iff (.or [(.cmp .Eq (.ix (.var 0) (.int 0)) (.str "+")),(.cmp .Eq (.ix (.var 0) (.int 0)) (.str "-"))]) [.ret (.int 0)] [],.iff (.or [(.cmp .Eq (.ix (.var 0) (.int 0)) (.str "*")),(.cmp .Eq (.ix (.var 0) (.int 0)) (.str "/"))]) [.ret (.int 1)] [],.ret (.Na ["less","^","name","number"] [2,3,4,4] (.ix (.var 0) (.int 0)))]
noncomputable def iR:aW:=λa Q _=>∃T:Tr,a=[wt T]/\oi T/\Q (.int (bi T))
noncomputable def hd:Tr->Str
 |.nm _=>"name"
 |.nu _=>"number"
 |.op o _ _=>tx [o]
 |.pw _ _=>"^"
 |.ls _=>"less"
noncomputable def tl:Tr->List W
 |.nm x=>[wX x]
 |.nu n=>[.int n]
 |.op _ a b=>[wt a,wt b]
 |.pw a e=>[wt a,.int e]
 |.ls a=>[wt a]
theorem iG(T:Tr):wt T=.tup (.str (hd T)::tl T):=by cases T<;>rfl
theorem gc{w:W}{l:List W}:ie (w::l) 0=some w:=dO (n:=0) rfl
theorem MQ:("+":Str)=tx [43]:=by decide+kernel
theorem xS:("-":Str)=tx [45]:=by decide+kernel
theorem GB:("*":Str)=tx [42]:=by decide+kernel
theorem MR:("/":Str)=tx [47]:=by decide+kernel
noncomputable def nK(T:Tr)(o:Nat):Bool:=match T with
 |.op p _ _=>decide (p=o)
 |_=>false
theorem xT(T:Tr)(o:Nat)(d:o≠94:=by decide):decide (hd T=tx [o])=nK T o:=by
 have c:∀l:List Nat,l.length≠1->decide (tx l=tx [o])=false:=λl h=>Fn λe=>h (by rw[uT e];rfl);cases T with
 |op p a b=>show decide (tx [p]=tx [o])=decide (p=o);rw[nF];exact YG.mpr ⟨λh=>(YF h).1,λh=>by rw[h]⟩
 |nm x=>rw[show hd (.nm x)=tx [110,97,109,101] by show("name":Str)=_;decide+kernel];exact c _ (by decide)
 |nu x=>rw[show hd (.nu x)=tx [110,117,109,98,101,114] by show("number":Str)=_;decide+kernel];exact c _ (by decide)
 |ls x=>rw[show hd (.ls x)=tx [108,101,115,115] by show("less":Str)=_;decide+kernel];exact c _ (by decide)
 |pw x e=>rw[show hd (.pw x e)=tx [94] by show("^":Str)=_;decide+kernel,nF];exact Fn λh=>d (YF h).1.symm
theorem GC{p:Nat->aW}{G:Nat->W}{m:Md}(k:List W)(Q:W->Prop)(R:Addr->Prop)(h:iR k Q R):wSs p G rj (bL m Q R) (aA 1 k):=by
 obtain⟨T,rfl,q,c⟩:=h;have l:(nK T 43=true\/nK T 45=true)->bi T=0:=λh=>by
  cases T with
  |op o a b=>exact FM (h.imp Ap Ap)
  |_=>rcases h with h|h<;>cases h
 have d:¬(nK T 43=true\/nK T 45=true)->(nK T 42=true\/nK T 47=true)->bi T=1:=λn h=>by
  cases T with
  |op o a b=>exact Da λz=>n (z.imp GM GM)
  |_=>rcases h with h|h<;>cases h
 show wSs _ _ rj _ [some (wt T)];rw[iG];unfold rj;fin2;refine⟨_,gc,?_⟩;fin2;rw[MQ,xT T 43];by_cases j:nK T 43=true
 .rw[FM j];rw[l (.inl j)]at c;exact c
 rw[Da j];refine⟨_,gc,?_⟩;fin2;rw[xS,xT T 45];by_cases i:nK T 45=true
 .rw[FM i];rw[l (.inr i)]at c;exact c
 rw[Da i];refine⟨_,gc,?_⟩;fin2;rw[GB,xT T 42];by_cases g:nK T 42=true
 .rw[FM g];rw[d (by rintro(z|z)<;>contradiction) (.inl g)]at c;exact c
 rw[Da g];refine⟨_,gc,?_⟩;fin2;rw[MR,xT T 47];by_cases f:nK T 47=true
 .rw[FM f];rw[d (by rintro(z|z)<;>contradiction) (.inr f)]at c;exact c
 rw[Da f];refine⟨_,gc,?_⟩;fin2;cases T with
 |nm x=>exact⟨4,by show jo "name" _ _=_;decide+kernel,c⟩
 |nu x=>exact⟨4,by show jo "number" _ _=_;decide+kernel,c⟩
 |ls x=>exact⟨2,by show jo "less" _ _=_;decide+kernel,c⟩
 |pw x e=>exact⟨3,by show jo "^" _ _=_;decide+kernel,c⟩
 |op o a b=>
  rcases q.1 with e|e|e|e
  .exact absurd (GM e) j
  .exact absurd (GM e) i
  .exact absurd (GM e) g
  .exact absurd (GM e) f
noncomputable def l6:List CS:=[.iff (.cmp .Lt (.call 0 [(.var 0)]) (.var 1)) [.ret (.bin .Add (.bin .Add (.str "(") (.call 1 [(.var 0)])) (.str ")"))] [],.ret (.call 1 [(.var 0)])]
noncomputable def rm:List CS:=[.iff (.or [(.cmp .Eq (.ix (.var 0) (.int 0)) (.str "name")),(.cmp .Eq (.ix (.var 0) (.int 0)) (.str "number"))]) [.ret (.blt .str [(.ix (.var 0) (.int 1))])] [],.iff (.cmp .Eq (.ix (.var 0) (.int 0)) (.str "less")) [.ret (.bin .Add (.str "-") (.call 0 [(.ix (.var 0) (.int 1)),(.int 2)]))] [],.iff (.cmp .Eq (.ix (.var 0) (.int 0)) (.str "^")) [.ret (.bin .Add (.bin .Add (.call 0 [(.ix (.var 0) (.int 1)),(.int 4)]) (.str "^")) (.blt .str [(.ix (.var 0) (.int 2))]))] [],.set 1 (.call 1 [(.var 0)]),.ret (.bin .Add (.bin .Add (.bin .Add (.bin .Add (.call 0 [(.ix (.var 0) (.int 1)),(.var 1)]) (.str " ")) (.ix (.var 0) (.int 0))) (.str " ")) (.call 0 [(.ix (.var 0) (.int 2)),(.bin .Add (.var 1) (.int 1))]))]
noncomputable def vJ(n:Nat):aW:=λa Q _=>∃T:Tr,a=[wt T]/\oi T/\sz T<=n/\sz T<=27/\Q (wX (txt T))
noncomputable def GD(n:Nat):aW:=λa Q _=>∃(T:Tr)(l:Nat),a=[wt T,.int l]/\oi T/\sz T<=n/\sz T<=27/\Q (wX (br (bi T) l (txt T)))
theorem QC:("(":Str)=tx [40]:=by decide+kernel
theorem QD:(")":Str)=tx [41]:=by decide+kernel
theorem GF{n:Nat}{G:Nat->W}{m:Md}(c:List W)(Q:W->Prop)(R:Addr->Prop)(h:GD n c Q R):wSs (cE [iR,vJ n]) G l6 (bL m Q R) (aA 2 c):=by
 obtain⟨T,l,rfl,b,e,d,a⟩:=h;have tl:=gb T b;show wSs _ _ l6 _ [some (wt T),some (.int l)];unfold l6;fin2;refine⟨T,rfl,b,?_⟩;fin2;unfold br at a;by_cases h:bi T<l
 .rw[FM (GM (by omega))];rw[FM h]at a;refine⟨T,rfl,b,e,d,?_⟩;rw[QC,QD];refine⟨ao (by show 1+(txt T).length<=1000;omega),?_⟩;rw[eZ];refine⟨ao (by show(40::txt T).length+1<=1000;simp;omega),?_⟩;rw[eZ];exact a
 .rw[Da (by rw[TC];omega)];rw[Da h]at a;exact⟨T,rfl,b,e,d,a⟩
theorem rq{w x:W}{l:List W}:ie (w::x::l) 1=some x:=dO (n:=1) rfl
theorem MS{w x y:W}{l:List W}:ie (w::x::y::l) 2=some y:=dO (n:=2) rfl
noncomputable def kd:Tr->Nat
 |.nm _=>0
 |.nu _=>1
 |.op _ _ _=>4
 |.pw _ _=>3
 |.ls _=>2
theorem QE(T:Tr)(c:oi T):decide (hd T="name")=(kd T==0)/\decide (hd T="number")=(kd T==1)/\decide (hd T="less")=(kd T==2)/\decide (hd T="^")=(kd T==3):=by
 cases T with
 |nm x=>show decide (("name":Str)="name")=true/\decide (("name":Str)="number")=false/\decide (("name":Str)="less")=false/\decide (("name":Str)="^")=false;decide+kernel
 |nu x=>show decide (("number":Str)="name")=false/\decide (("number":Str)="number")=true/\decide (("number":Str)="less")=false/\decide (("number":Str)="^")=false;decide+kernel
 |ls x=>show decide (("less":Str)="name")=false/\decide (("less":Str)="number")=false/\decide (("less":Str)="less")=true/\decide (("less":Str)="^")=false;decide+kernel
 |pw x e=>show decide (("^":Str)="name")=false/\decide (("^":Str)="number")=false/\decide (("^":Str)="less")=false/\decide (("^":Str)="^")=true;decide+kernel
 |op o a b=>show decide (tx [o]="name")=false/\decide (tx [o]="number")=false/\decide (tx [o]="less")=false/\decide (tx [o]="^")=false;rcases c.1 with rfl|rfl|rfl|rfl<;>decide+kernel
theorem xU{n:Nat}(h:n<10^30):((n:Int)).natAbs.log2<1920:=by
 rcases Y7 n with e|e
 .rw[e];decide
 .rw[Int.natAbs_natCast];exact Fk ((SA (k:=100) (by omega)).mpr (Fk h (by decide))) (by decide)
theorem MT{n:Nat}{G:Nat->W}{m:Md}(s:List W)(Q:W->Prop)(R:Addr->Prop)(h:vJ (n+1) s Q R):wSs (cE [GD n,iR]) G rm (bL m Q R) (aA 2 s):=by
 obtain⟨T,rfl,f,j,i,g⟩:=h;obtain⟨z,t,y,w⟩:=QE T f;have d:=gb T f;show wSs _ _ rm _ [some (wt T),none];unfold rm;refine aY (λc=>c=[some (wt T),none]/\2<=kd T) (λN p=>?_) ?_
 .rw[iG];fin2;refine⟨_,gc,?_⟩;fin2;rw[z];cases T with
  |nm x=>exact⟨_,rq,g⟩
  |nu k=>refine⟨_,gc,?_⟩;fin2;rw[t];refine⟨_,rq,?_⟩;refine⟨xU f,?_⟩;rw[A9];exact g
  |_=>refine⟨_,gc,?_⟩;fin2;rw[t];exact p _ ⟨by rw[iG],by show 2<=_;first|exact(by decide:2<=4)|exact(by decide:2<=3)|exact(by decide:2<=2)⟩
 rintro _ ⟨rfl,u⟩;refine aY (λc=>c=[some (wt T),none]/\3<=kd T) (λN p=>?_) ?_
 .rw[iG];fin2;refine⟨_,gc,?_⟩;fin2;rw[y];cases T with
  |nm x=>cases u
  |nu k=>exact absurd u (by show¬2<=1;decide)
  |ls a=>have j:sz a+1<=n+1:=j;have i:sz a+1<=27:=i;have d:(45::br (bi a) 2 (txt a)).length+7<=37*(sz a+1):=d;rw[AI]at d;refine⟨_,rq,a,2,rfl,f,by omega,by omega,?_⟩;rw[xS];refine⟨ao (by show 1+(br (bi a) 2 (txt a)).length<=1000;omega),?_⟩;rw[eZ];exact g
  |pw a e=>exact p _ ⟨by rw[iG],by show 3<=3;decide⟩
  |op o a b=>exact p _ ⟨by rw[iG],by show 3<=4;decide⟩
 rintro _ ⟨rfl,r⟩;refine aY (λc=>c=[some (wt T),none]/\4<=kd T) (λN p=>?_) ?_
 .rw[iG];fin2;refine⟨_,gc,?_⟩;fin2;rw[w];cases T with
  |nm x=>cases r
  |nu k=>exact absurd r (by show¬3<=1;decide)
  |ls a=>exact absurd r (by show¬3<=2;decide)
  |pw a e=>
   have j:sz a+1<=n+1:=j;have i:sz a+1<=27:=i;have d:(br (bi a) 4 (txt a)++94::dg e).length+7<=37*(sz a+1):=d;rw[Dx,AI]at d;refine⟨_,rq,a,4,rfl,f.2,by omega,by omega,?_⟩;rw[show("^":Str)=tx [94] by decide+kernel];refine⟨ao (by show(br (bi a) 4 (txt a)).length+1<=1000;omega),?_⟩;rw[eZ];refine⟨_,MS,xU (Nat.lt_of_le_of_lt f.1 (by decide)),?_⟩;rw[A9];refine⟨ao (by show(br (bi a) 4 (txt a)++[94]).length+(dg e).length<=1000;rw[Dx];show _+1+_<=1000;omega),?_⟩;rw[eZ];have:txt (.pw a e)=br (bi a) 4 (txt a)++[94]++dg e:=by show br (bi a) 4 (txt a)++94::dg e=_;simp
   rw[this]at g;exact g
  |op o a b=>exact p _ ⟨by rw[iG],by show 4<=4;decide⟩
 rintro _ ⟨rfl,q⟩;cases T with
 |op o a b=>
  have j:sz a+sz b+1<=n+1:=j;have i:sz a+sz b+1<=27:=i;have C:=gH a;have B:=gH b;generalize v:bi (.op o a b)=l;have A:txt (.op o a b)=br (bi a) l (txt a)++[32]++[o]++[32]++br (bi b) (l+1) (txt b):=by show br (bi a) (bi (.op o a b)) (txt a)++(32::o::32::br (bi b) (bi (.op o a b)+1) (txt b))=_;rw[v];simp
  rw[A]at d g;simp only[Dx,Gp]at d;have d:(br (bi a) l (txt a)).length+1+1+1+(br (bi b) (l+1) (txt b)).length+7<=37*(sz a+sz b+1):=d;fin2;refine⟨.op o a b,rfl,f,?_⟩;rw[v,iG];fin2;refine⟨_,rq,a,l,rfl,f.2.1,by omega,by omega,?_⟩;rw[show(" ":Str)=tx [32] by decide+kernel];refine⟨ao (by show(br (bi a) l (txt a)).length+1<=1000;omega),_,gc,?_⟩;rw[eZ];refine⟨ao (by show(br (bi a) l (txt a)++[32]).length+1<=1000;simp only[Dx,Gp];omega),?_⟩;rw[show hd (.op o a b)=tx [o]from rfl,eZ];refine⟨ao (by show(br (bi a) l (txt a)++[32]++[o]).length+1<=1000;simp only[Dx,Gp];omega),_,MS,?_⟩;rw[eZ];refine⟨b,l+1,rfl,f.2.2,by omega,by omega,?_⟩;refine⟨ao (by show(br (bi a) l (txt a)++[32]++[o]++[32]).length+(br (bi b) (l+1) (txt b)).length<=1000;simp only[Dx,Gp];omega),?_⟩;rw[eZ];exact g
 |nm x=>cases q
 |nu k=>exact absurd q (by show¬4<=1;decide)
 |ls a=>exact absurd q (by show¬4<=2;decide)
 |pw a e=>exact absurd q (by show¬4<=3;decide)
noncomputable def rA:List CS:=[.iff (.cmp .Eq (.ix (.var 0) (.int 0)) (.str "name")) [.ret (.lst [(.ix (.var 0) (.int 1))])] [],.iff (.cmp .Eq (.ix (.var 0) (.int 0)) (.str "number")) [.ret (.lst [])] [],.set 1 (.call 0 [(.ix (.var 0) (.int 1))]),.iff (.cmp .In (.ix (.var 0) (.int 0)) (.lst [(.str "+"),(.str "-"),(.str "*"),(.str "/")])) [.set 1 (.bin .Add (.var 1) (.call 0 [(.ix (.var 0) (.int 2))]))] [],.ret (.var 1)]
noncomputable def p5(n:Nat):aW:=λa Q _=>∃T:Tr,a=[wt T]/\oi T/\sz T<=n/\sz T<=27/\Q (.lst ((oj T).map wX))
theorem fz:∀T:Tr,(oj T).length<=sz T
 |.nm _=>Bz _
 |.nu _=>L9 _
 |.op _ a b=>by have:=fz a;have:=fz b;show(oj a++oj b).length<=sz a+sz b+1;rw[Dx];omega
 |.pw a _=>Tp (fz a)
 |.ls a=>Tp (fz a)
theorem MU(T:Tr)(c:oi T):decide (hd T∈(["+","-","*","/"]:List Str))=(kd T==4):=by
 cases T with
 |nm x=>show decide (("name":Str)∈(["+","-","*","/"]:List Str))=false;decide+kernel
 |nu x=>show decide (("number":Str)∈(["+","-","*","/"]:List Str))=false;decide+kernel
 |ls x=>show decide (("less":Str)∈(["+","-","*","/"]:List Str))=false;decide+kernel
 |pw x e=>show decide (("^":Str)∈(["+","-","*","/"]:List Str))=false;decide+kernel
 |op o a b=>show decide (tx [o]∈(["+","-","*","/"]:List Str))=true;rcases c.1 with rfl|rfl|rfl|rfl<;>decide+kernel
theorem MV{n:Nat}{G:Nat->W}{m:Md}(l:List W)(Q:W->Prop)(R:Addr->Prop)(h:p5 (n+1) l Q R):wSs (cE [p5 n]) G rA (bL m Q R) (aA 2 l):=by
 obtain⟨T,rfl,g,f,c,d⟩:=h;obtain⟨p,i,r,q⟩:=QE T g;have j:=MU T g;have s:=fz T;show wSs _ _ rA _ [some (wt T),none];rw[iG];unfold rA;fin2;refine⟨_,gc,?_⟩;fin2;rw[p];cases T with
 |nm x=>exact⟨_,rq,ao (by show 1<=1000;decide),d⟩
 |nu k=>refine⟨_,gc,?_⟩;fin2;rw[i];exact⟨ao (by show 0<=1000;decide),d⟩
 |ls a=>have f:sz a+1<=n+1:=f;have c:sz a+1<=27:=c;refine⟨_,gc,?_⟩;fin2;rw[i];refine⟨_,rq,a,rfl,g,by omega,by omega,?_⟩;fin2;refine⟨_,gc,ao (by show 4<=1000;decide),["+","-","*","/"],rfl,?_⟩;rw[j];exact d
 |pw a e=>have f:sz a+1<=n+1:=f;have c:sz a+1<=27:=c;refine⟨_,gc,?_⟩;fin2;rw[i];refine⟨_,rq,a,rfl,g.2,by omega,by omega,?_⟩;fin2;refine⟨_,gc,ao (by show 4<=1000;decide),["+","-","*","/"],rfl,?_⟩;rw[j];exact d
 |op o a b=>
  have f:sz a+sz b+1<=n+1:=f;have c:sz a+sz b+1<=27:=c;have u:=fz a;have t:=fz b;refine⟨_,gc,?_⟩;fin2;rw[i];refine⟨_,rq,a,rfl,g.2.1,by omega,by omega,?_⟩;fin2;refine⟨_,gc,ao (by show 4<=1000;decide),["+","-","*","/"],rfl,?_⟩;rw[j];refine⟨_,MS,b,rfl,g.2.2,by omega,by omega,ao (by rw[Ee,Ee];omega),?_⟩;have e:(oj (.op o a b)).map wX=(oj a).map wX++(oj b).map wX:=by show(oj a++oj b).map wX=_;rw[KB]
  rw[e]at d;exact d
theorem jG:∀T:Tr,oi T->nms (stp T)=(oj T).map tx
 |.nm x,_=>by show[xC x].filterMap Nl=[tx x];rfl
 |.nu n,_=>by show[Gb n].filterMap Nl=[];rfl
 |.op o a b,h=>by show nms (stp a++(stp b++[zU o]))=(oj a++oj b).map tx;rw[ia,ia,jG a h.2.1,jG b h.2.2,KB];show _++(_++[])=_;rw[Kx]
 |.pw a e,h=>by show nms (stp a++[qT e])=(oj a).map tx;rw[ia,jG a h.2];exact Kx _
 |.ls a,h=>by show nms (stp a++[nB])=(oj a).map tx;rw[ia,jG a h];exact Kx _
theorem nN:∀T:Tr,oi T->∀w∈stp T,IE w
 |.nm x,_,w,c=>by rw[Do.mp c];exact⟨_,_,rfl,λ_=>⟨_,rfl⟩⟩
 |.nu n,_,w,c=>by rw[Do.mp c];exact⟨_,_,rfl,λe=>absurd e (by decide+kernel)⟩
 |.op o a b,h,w,c=>by
  rcases FK.mp c with c|c
  .exact nN a h.2.1 w c
  .rcases FK.mp c with c|c
   .exact nN b h.2.2 w c
   .rw[Do.mp c];refine⟨_,_,rfl,λe=>absurd e ?_⟩;rcases h.1 with rfl|rfl|rfl|rfl<;>decide+kernel
 |.pw a e,h,w,c=>by
  rcases FK.mp c with c|c
  .exact nN a h.2 w c
  .rw[Do.mp c];exact⟨_,_,rfl,λe=>absurd e (by decide+kernel)⟩
 |.ls a,h,w,c=>by
  rcases FK.mp c with c|c
  .exact nN a h w c
  .rw[Do.mp c];exact⟨_,_,rfl,λe=>absurd e (by decide+kernel)⟩
theorem uf:∀T:Tr,oi T->∀x∈oj T,kF x
 |.nm x,h,y,c=>by rw[Do.mp c];exact h
 |.nu n,_,y,c=>by cases c
 |.op o a b,h,y,c=>by
  rcases FK.mp c with c|c
  .exact uf a h.2.1 y c
  .exact uf b h.2.2 y c
 |.pw a e,h,y,c=>uf a h.2 y c
 |.ls a,h,y,c=>uf a h y c
noncomputable def kG:List CS:=[.iff (.or [(.not (.blt .zO [(.var 0),(.Bg "list")])),(.not (.blt .all [(.comp [0] true 1 (.var 0) (.bl true) (.blt .zO [(.var 0),(.Bg "str")]))]))]) [.ret (.bl false)] [],.ret (.cmp .Eq (.var 0) (.JY (.call 0 [(.var 1)])))]
noncomputable def jH:aW:=λb Q _=>∃(a:List Str)(T:Tr),b=[.lst (a.map W.str),wt T]/\oi T/\sz T<=27/\a.Nodup/\(∀z,z∈a↔z∈(oj T).map tx)/\sortedS a=true/\Q (.bl true)
theorem vK{α:Type}[DecidableEq α]:∀{l m:List α},l.Nodup->(∀x∈l,x∈m)->l.length<=m.length
 |[],_,_,_=>L9 _
 |x::l,m,h,c=>by obtain⟨f,d⟩:=Hk.mp h;have b:=c x Bn;have:=vK (l:=l) (m:=m.erase x) d λy a=>(List.mem_erase_of_ne (λe=>f (by rw[<-e];exact a))).mpr (c y (B1 _ a));rw[List.length_erase_of_mem b]at this;have:=List.length_pos_of_mem b;rw[AI];omega
theorem zu{G:Nat->W}{m:Md}(e:List W)(Q:W->Prop)(R:Addr->Prop)(h:jH e Q R):wSs (cE [p5 27]) G kG (bL m Q R) (aA 2 e):=by
 obtain⟨a,T,rfl,k,j,i,d,r,s⟩:=h;show wSs _ _ kG _ [some _,some _];unfold kG;fin2;refine⟨"list",rfl,?_⟩;have E:uY "list" "list"=true:=by decide
 rw[E];fin2;rw[Da (show¬(!true)=true by decide)];have F:a.length<=27:=by have A:=vK i λz hz=>(d z).mp hz;have v:=fz T;rw[Ee]at A;omega
 refine tY (h:=W.str) (g:=λ_=>W.bl true) a [] _ (λx _ K t=>⟨"str",rfl,?_⟩) (ao (by simp;omega)) ?_
 .have D:uY "str" "str"=true:=by decide
  rw[D];exact t
 rw[Jl];refine⟨A0 a.length true,by rw[List.map_const',List.map_replicate],?_⟩;have C:(A0 a.length true).all id=true:=by rw[List.all_replicate];simp
 rw[C];fin2;rw[Da (show¬(!true)=true by decide)];refine⟨T,rfl,k,j,j,(oj T).map tx,by rw[NK];rfl,?_,λl n hz c=>?_⟩
 .have v:=fz T;rw[Ee];omega
 have B:a=l:=GA i n (λz=>(d z).trans (hz z).symm) r c;subst B;have f:kM 9 (.lst (a.map W.str))=true:=Hb.mpr λw q=>by obtain⟨y,o,rfl⟩:=Hn.mp q;obtain⟨x,p,rfl⟩:=Hn.mp ((d y).mp o);exact Th (uf T k x p) 8
 refine⟨.inl ⟨f,f⟩,λb u=>?_⟩;rw[u.mpr rfl];exact s
noncomputable def rB:List CS:=[.set 1 (.call 0 [(.var 0),(.int 0),(.int 3)]),.set 2 (.call 1 [(.call 0 [(.var 0),(.int 1),(.bin .Mod (.ix (.var 1) (.int 0)) (.int 4))])]),.set 3 (.ix (.lst [(.int 12),(.int 5)]) (.blt .int [(.cmp .Gt (.blt .len [(.var 2)]) (.int 1))])),.set 4 (.call 2 [(.call 0 [(.var 0),(.int 2),(.bin .Add (.int 2) (.bin .Mod (.ix (.var 1) (.int 1)) (.int 13)))]),(.var 2),(.var 3)]),.set 5 (.call 3 [(.call 4 [(.var 4)])]),.set 6 (.pM 0 5 (.var 5)),.iff (.not (.wk [6] (.call 6 [(.var 6),(.var 4)]))) [.ret (.bl false)] [],.app 6 (.str "zq"),.OS 6,.ret (.call 6 [(.pM 0 5 (.var 5)),(.var 4)])]
theorem GG{CE:Addr}{m:Md}(B:List W)(Q:W->Prop)(R:Addr->Prop)(h:MA B Q R):wSs (cE [Gr,Gu,ri,xO 27 CE,vJ 27,jE CE,jH]) (dh [.cls CE]) rB (bL m Q R) (aA 7 B):=by
 obtain⟨p,rfl,S,I⟩:=h;show wSs _ _ rB _ [some (.di p),none,none,none,none,none,none];unfold rB;refine aY (λe=>∃sh:List Int,(sh.length=3/\∀x∈sh,0<=x/\x<1000000)/\e=[some (.di p),some (wI sh),none,none,none,none,none]) (λN l=>?_) ?_
 .fin2;exact⟨p,0,3,rfl,by decide,λi a b=>l _ ⟨i,⟨a,b⟩,rfl⟩⟩
 rintro _ ⟨sh,⟨H,M⟩,rfl⟩;obtain⟨s,r,o,rfl⟩:∃a b c,sh=[a,b,c]:=by
  match sh,H with
  |[a,b,c],_=>exact⟨a,b,c,rfl⟩
 refine aY (λe=>∃i:List (List Nat),(i.length<=3/\∀x∈i,kF x)/\e=[some (.di p),some (wI [s,r,o]),some (.lst (i.map wX)),none,none,none,none]) (λN l=>?_) ?_
 .have f:=fm (x:=s) (n:=4) (by decide);obtain⟨j,y⟩:=OF f.1;unfold wI;fin2;refine⟨_,rfl,?_⟩;fin2;refine⟨by decide,?_⟩;rw[y];exact⟨p,1,j,rfl,by omega,λi a b=>⟨i,rfl,by omega,b,λg c d=>l _ ⟨g,⟨by omega,d⟩,rfl⟩⟩⟩
 rintro _ ⟨i,⟨F,D⟩,rfl⟩;refine aY (λe=>∃k:Int,(0<=k/\k<=12)/\e=[some (.di p),some (wI [s,r,o]),some (.lst (i.map wX)),some (.int k),none,none,none]) (λN l=>?_) ?_
 .fin2;refine⟨VL.s2,?_⟩;split
  .exact⟨.int 5,rfl,l _ ⟨5,by omega,rfl⟩⟩
  .exact⟨.int 12,rfl,l _ ⟨12,by omega,rfl⟩⟩
 rintro _ ⟨k,J,rfl⟩;refine aY (λe=>∃T:Tr,(oi T/\sz T<=27)/\e=[some (.di p),some (wI [s,r,o]),some (.lst (i.map wX)),some (.int k),some (wt T),none,none]) (λN l=>?_) ?_
 .have f:=fm (x:=r) (n:=13) (by decide);obtain⟨j,y⟩:=OF f.1;unfold wI;fin2;refine⟨_,rfl,?_⟩;fin2;refine⟨by decide,?_⟩;rw[y];refine⟨p,2,2+j,rfl,by omega,λE a b=>⟨E,i,k,rfl,⟨by omega,by omega⟩,b,F,D,J,λT c d=>l _ ⟨T,⟨c,d⟩,rfl⟩⟩⟩
 rintro _ ⟨T,⟨q,t⟩,rfl⟩;have L:=rd T q (by omega);have O:=gb T q;refine aY (λe=>e=[some (.di p),some (wI [s,r,o]),some (.lst (i.map wX)),some (.int k),some (wt T),some (Ex CE (stp T)),none]) (λN l=>?_) ?_
 .fin2;exact⟨T,rfl,q,t,t,txt T,stp T,rfl,L.g0.mono t,by decide,by omega,l _ rfl⟩
 rintro _ rfl;have C:∀A:W->Prop,(∀g:List Str,g.Nodup->(∀z,z∈g↔z∈(oj T).map tx)->sortedS g=true->A (.lst (g.map W.str)))->jE CE [Ex CE (stp T)] A R:=λA h=>⟨stp T,rfl,nN T q,by rw[jF];omega,λg a b c=>h g a (λz=>by rw[b,jG T q]) c⟩;fin2;refine⟨rfl,C _ λg u v w=>?_⟩;fin2;refine⟨g,T,rfl,q,t,u,v,w,?_⟩;fin2;rw[Da (show¬(!true)=true by decide)];have P:g.length<=27:=by have K:=vK u λz hz=>(v z).mp hz;have U:=fz T;rw[Ee]at K;omega
 exact⟨rfl,Fk (m:=100) (by rw[Ee];omega) (by decide),rfl,C _ λg u v w=>⟨g,T,rfl,q,t,u,v,w,I⟩⟩
end VL
namespace VL
open PySem PySem.Spec
open PyProof.Rows hiding St
open L2
section
variable{P:Program}{w:World}{K:Frag}{mg:Str->Option Value}{base:Heap}{tp:Nat->Stmt}{DD:DT}{ZZ:List Str}
noncomputable def Cn(P:Program)(w:World)(K:Frag)(mg:Str->Option Value)(base:Heap)(k:Nat)(x:Str)(m:Md)(S:aW):Prop:=∃c n b,mg x=some c/\b3 P w K mg base b c n (oF K n m S)/\b<=k/\∀a P R,S a P R->a.length=n
noncomputable def Mt(P:Program)(w:World)(K:Frag)(mg:Str->Option Value)(base:Heap)(C:Addr)(k:Nat)(x:Str)(m:Md)(S:aW):Prop:=∃f d b n c,Meth K C x f/\Binds K d b []/\bE P w K mg base (iC P w) c f d b (oF K n m S)/\c<=k/\∀a P R,S a P R->a.length=n
theorem Cn.up{k a:Nat}{x:Str}{m:Md}{S:aW}(h:Cn P w K mg base k x m S)(c:k<=a):Cn P w K mg base a x m S:=by obtain⟨i,n,b,g,f,e,d⟩:=h;exact⟨i,n,b,g,f,Gc e c,d⟩
theorem Mt.up{C:Addr}{k a:Nat}{x:Str}{m:Md}{S:aW}(h:Mt P w K mg base C k x m S)(d:k<=a):Mt P w K mg base C a x m S:=by obtain⟨f,o,b,n,c,l,j,i,g,e⟩:=h;exact⟨f,o,b,n,c,l,j,i,Gc g d,e⟩
noncomputable def Ri(P:Program)(w:World)(K:Frag)(mg:Str->Option Value)(base:Heap)(C:Addr)(k:Nat):List (Str×Md×Bool)->List aW->Prop
 |(x,m,b)::es,S::Ss=>(if b=true then Mt P w K mg base C k x m S else Cn P w K mg base k x m S)/\Ri P w K mg base C k es Ss
 |[],_=>True
 |_::_,[]=>False
theorem vL{C:Addr}{k:Nat}:∀{es:List (Str×Md×Bool)}{Ss:List aW},Ri P w K mg base C k es Ss->∀(j:Nat)(x:Str)(m:Md)(b:Bool),es[j]?=some (x,m,b)->if b=true then Mt P w K mg base C k x m (cE Ss j)else Cn P w K mg base k x m (cE Ss j)
 |(y,m',b')::es,S::Ss,h,0,x,m,b,e=>by
  cases e;exact h.1
 |(y,m',b')::es,S::Ss,h,j+1,x,m,b,e=>vL (es:=es) h.2 j x m b e
 |_::_,[],h,_,_,_,_,_=>h.elim
 |[],_,_,_,_,_,_,e=>by cases e
noncomputable def Di(g:Nat):Nat->List (Str×Md×Bool)->List (Nat×Nat)
 |_,[]=>[]
 |j,(_,_,b)::es=>if b=true then(j,g)::Di g (j+1) es else Di g (j+1) es
theorem CW{g:Nat}:∀{es:List (Str×Md×Bool)}{s j h:Nat},(j,h)∈Di g s es->h=g/\s<=j/\∃x m,es[j -s]?=some (x,m,true)
 |[],s,j,h,z=>by cases z
 |(x,m,b)::es,s,j,h,z=>by
  have tl:(j,h)∈Di g (s+1) es->h=g/\s<=j/\∃a c,((x,m,b)::es)[j -s]?=some (a,c,true):=λz=>by obtain⟨f,i,a,c,d⟩:=CW z;refine⟨f,by omega,a,c,?_⟩;rw[show j -s=(j -(s+1))+1 by omega];exact d
  cases b with
  |true=>
   rcases FC.mp z with e|z
   .cases e;exact⟨rfl,Bz _,x,m,by rw[Vd];rfl⟩
   .exact tl z
  |false=>exact tl z
theorem CY{g:Nat}:∀{es:List (Str×Md×Bool)}{s j:Nat}{x:Str}{m:Md}{b:Bool},es[j]?=some (x,m,b)->(Di g s es).any (·.1==s+j)=false->b=false
 |(y,m',b')::es,s,0,x,m,b,e,h=>by
  have e:=IR e;cases e;cases b' with
  |false=>rfl
  |true=>have h:((s==s+0)||(Di g (s+1) es).any (·.1==s+0))=false:=h;rw[Nat.add_zero,Pm,VD]at h;cases h
 |(y,m',b')::es,s,j+1,x,m,b,e,h=>by
  have a:(Di g (s+1) es).any (·.1==s+1+j)=false:=by
   rw[show s+1+j=s+(j+1) by omega];cases b' with
   |false=>exact h
   |true=>have h:((s==s+(j+1))||(Di g (s+1) es).any (·.1==s+(j+1)))=false:=h;rw[YW]at h;exact h.2
  exact CY (es:=es) (s:=s+1) (j:=j) e a
theorem ug:∀(Gs:List W)(C:W)(j:Nat),j<Gs.length->dh (Gs++[C]) j=dh Gs j
 |g::Gs,C,0,_=>rfl
 |g::Gs,C,j+1,h=>ug Gs C j (by simpa using h)
theorem uh:∀(Gs:List W)(C:W),dh (Gs++[C]) Gs.length=C
 |[],C=>rfl
 |g::Gs,C=>uh Gs C
theorem gk{C:Addr}{k:Nat}{es:List (Str×Md×Bool)}{Ss:List aW}{gn:List Str}{Gs:List W}(Z:∀x∈ZZ,mg x=none)(h:Ri P w K mg base C k es Ss)(g:MD K mg gn Gs)(p:gn.length=Gs.length):
 Tab P w K mg base (es.map (·.1)) gn ZZ (es.map (·.2.1)) (Di gn.length 0 es) (cE Ss) (dh (Gs++[.cls C])) k:=by
 have u:∀(j:Nat)(x:Str),(es.map (·.1))[j]?=some x->∃m b,es[j]?=some (x,m,b)/\gu (es.map (·.2.1)) j=m:=λj x e=>by
  rw[Fm]at e;obtain⟨⟨y,m,b⟩,c,d⟩:=Kk.mp e;cases d;refine⟨m,b,c,?_⟩;have:∀(l:List (Str×Md×Bool))(j:Nat),l[j]?=some (y,m,b)->gu (l.map (·.2.1)) j=m:=λl=>by
   induction l with
   |nil=>intro j e;cases e
   |cons a l D=>
    intro j e;cases j with
    |zero=>cases e;rfl
    |succ j=>exact D j e
  exact this es j c
 have r:∀(j:Nat)(x:Str),gn[j]?=some x->dh (Gs++[.cls C]) j=dh Gs j:=λj x e=>ug _ _ _ (by rw[<-p];exact(GE.mp e).1);refine⟨λj x e i=>?_,λj O x e i=>?_,λj x e=>?_,Z,CB K,λj x v e q=>?_⟩
 .obtain⟨m,b,c,d⟩:=u j x e;have o:b=false:=CY (g:=gn.length) (s:=0) c (by rw[VI];exact i);subst o;have:=vL h j x m false c;rw[Da Fh]at this;rw[d];exact this
 .obtain⟨E,_,y,N,t⟩:=CW i;obtain⟨m,b,c,d⟩:=u j x e;rw[Rb,c]at t;have o:b=true:=by cases t;rfl
  subst o;have:=vL h j x m true c;rw[FM rfl]at this;obtain⟨f,M,A,n,B,L,J,I,H,F⟩:=this;rw[d,E];refine⟨f,M,A,n,B,λv z=>?_,J,I,H,F⟩;rw[p,uh]at z;cases z;exact L
 .rw[r j x e];exact(nD g j x e).1
 .rw[r j x e]at q;exact(nD g j x e).2 v q
noncomputable def zv(ZZ:List Str)(st:Stmt)(np n:Nat)(M:Ms)(fn gn:List Str)(a:List Md)(b:List (Nat×Nat))(m:Md)(c:List CS):Bool:=
 decide (((ak st).kind=.function/\(ak st).isCoroutine=false/\(ak st).isGenerator=false/\(IB st).Nodup/\(IB st).take (iQ st).length=iQ st)/\(∀x∈iQ st,(ak st).names.lookup x=some .local\/(ak st).names.lookup x=some .cell)/\(∀y∈(ak st).names,y.2≠.free)/\(iQ st).length=np/\(IB st).length=n/\(M.map (·.1)).Nodup)&&((match m with
  |.io d=>M.all (λi=>i.1==0||decide (np<=i.1))&&hasB M 0 d&&decide (0<n)
  |_=>M.all (λi=>decide (np<=i.1)))&&cA ⟨IB st,(ak st).names,M,fn,gn,ZZ,a,b⟩ (gu a) m c (aS st))
theorem nO{np n:Nat}{C:Addr}{x q:Str}{st:Stmt}{ps:List Str}{f:Addr}{s:FuncData}{M:Ms}{fn gn:List Str}{o:List Md}{l:List (Nat×Nat)}{m:Md}{c:List CS}{i:Nat->aW}{G:Nat->W}{k:Nat}{S:aW}(D:Dm K C x q st ps f s)(e:ps=iQ st)(h:zv ZZ st np n M fn gn o l m c=true)(j:Tab P w K mg base fn gn ZZ o l i G k)(g:∀a P R,S a P R->a.length=np)(p:∀a Q R,S a Q R->wSs i G c (bL m Q R) (aA n a)):
 Mt P w K mg base C (k+1) x m S:=by
 unfold zv at h;rw[AC,AC]at h;obtain⟨E,d,r⟩:=h;obtain⟨⟨A,a2,a3,z,y⟩,v,u,I,H,t⟩:=Ap E;subst e;subst I H;refine⟨f,s,_,(iQ st).length,k+1,D.M,D.b,?_,Bz _,g⟩;cases m with
 |io B=>rw[AC,AC]at d;exact Ga D.F ⟨A,a2,a3,z,y,v,u⟩ j c M B S d.1.1 t d.1.2 (Ap d.2) r g p
 |_=>exact Cz D.F ⟨A,a2,a3,z,y,v,u⟩ j c M _ S d t rfl r g p
theorem nQ{j i k:Nat}{x:Str}{m:Md}{S:aW}(h:Cl P w K mg base DD k j m S)(a:DD[j]?=some (x,i)):Cn P w K mg base k x m S:=by
 have e:vC DD j=x:=by unfold vC;rw[a]
 unfold Cl at h;rw[e]at h;exact h
theorem QF{C:Addr}{x q:Str}{st:Stmt}{ps:List Str}{f:Addr}{c:FuncData}{g:Md}{k:Nat}(D:Dm K C x q st ps f c):Mt P w K mg base C k x (.io g) Qp:=
 ⟨f,c,ps,ps.length,k,D.M,D.b,⟨by rintro e H Q E ⟨_,_,_,_,_,_,_,_,_,_,_,_,_,_,_,z,_⟩;exact z.elim,by rintro A a s H d h e Q E i l j r ⟨_,_,_,_,_,_,_,_,_,_,_,_,_,_,_,z,_⟩;exact z.elim⟩,Bz _,λ_ _ _ z=>z.elim⟩
theorem QG{np n j i:Nat}{x:Str}{C:Addr}{es:List (Str×Md×Bool)}{Ss:List aW}{gn:List Str}{Gs:List W}{M:Ms}{m:Md}{c:List CS}{k:Nat}{S:aW}(T:TT K mg tp DD ZZ)(l:DD[j]?=some (x,i))(h:Ri P w K mg base C k es Ss)(g:MD K mg gn Gs)(o:gn.length=Gs.length)(e:zV ZZ (tp i) np n M (es.map (·.1)) gn (es.map (·.2.1)) (Di gn.length 0 es) m c=true)(b:∀a P R,S a P R->a.length=np)(p:∀a Q R,S a Q R->wSs (cE Ss) (dh (Gs++[.cls C])) c (bL m Q R) (aA n a)):
 bE P w K mg base (iC P w) (k+1) (T.f j) (T.d j) (iQ (tp i)) (oF K np m S):=Qu T l e (gk T.Z h g o) b p
end
end VL
namespace VL
open PySem PySem.Spec
open PyProof.Rows hiding St
open L2 Num qt
section
variable{P:Program}{w:World}{K:Frag}{mg:Str->Option Value}{base:Heap}{tp:Nat->Stmt}{DD:DT}{ZZ:List Str}
abbrev aR:Md:=.io xJ
abbrev GH:Md:=.io U5
structure Vf(K:Frag)(mg:Str->Option Value):Prop where
 fg:Gn K mg "FIGURES" (.str "0123456789")
 lt:Gn K mg "LETTERS" (.str "abcdefghijklmnopqrstuvwxyz")
 sg:Gn K mg "MOST_SIGNS" (.int 1000)
 bk:Gn K mg "MOST_BRACKETS" (.int 30)
 mi:Gn K mg "MOST_MINUSES" (.int 30)
 fi:Gn K mg "MOST_FIGURES" (.int 30)
 le:Gn K mg "MOST_LETTERS" (.int 8)
 ef:Gn K mg "MOST_EXPONENT_FIGURES" (.int 2)
 ex:Gn K mg "MOST_EXPONENT" (.int 12)
theorem rC{x:Str}{v:V}{u:W}(h:∃z,mg x=some z/\RelV v z)(a:∀B H,Rep K B H u v)(b:∀C,u≠.cls C):Gn K mg x u:=by obtain⟨z,d,c⟩:=h;exact⟨⟨z,v,d,c,a⟩,λC e=>(b C e).elim⟩
structure Nn(K:Frag)(C:Addr)(ZZ:List Str)where
 s:Nat->Stmt
 f:Nat->Addr
 d:Nat->FuncData
 D0:Dm K C "follows" "Reader.follows" (s 0) (iQ (s 0)) (f 0) (d 0)
 D1:Dm K C "take_sum" "Reader.take_sum" (s 1) (iQ (s 1)) (f 1) (d 1)
 D2:Dm K C "take_term" "Reader.take_term" (s 2) (iQ (s 2)) (f 2) (d 2)
 D3:Dm K C "take_sign" "Reader.take_sign" (s 3) (iQ (s 3)) (f 3) (d 3)
 D4:Dm K C "take_factor" "Reader.take_factor" (s 4) (iQ (s 4)) (f 4) (d 4)
 D5:Dm K C "take_exponent" "Reader.take_exponent" (s 5) (iQ (s 5)) (f 5) (d 5)
 D6:Dm K C "take_atom" "Reader.take_atom" (s 6) (iQ (s 6)) (f 6) (d 6)
 D7:Dm K C "take_brackets" "Reader.take_brackets" (s 7) (iQ (s 7)) (f 7) (d 7)
 D8:Dm K C "take_run" "Reader.take_run" (s 8) (iQ (s 8)) (f 8) (d 8)
 k0:zv ZZ (s 0) 2 2 [(0,xJ)] [] [] [] [] aR gY=true
 k1:zv ZZ (s 1) 1 2 [(0,xJ)] ["take_term","follows","take_sign"] [] [aR,aR,aR] [(0,0),(1,0),(2,0)] aR (gZ " + " " - ")=true
 k2:zv ZZ (s 2) 1 2 [(0,xJ)] ["take_factor","follows","take_sign"] [] [aR,aR,aR] [(0,0),(1,0),(2,0)] aR (gZ " * " " / ")=true
 k3:zv ZZ (s 3) 1 2 [(0,xJ)] [] [] [] [] aR eO=true
 k4:zv ZZ (s 4) 1 2 [(0,xJ)] ["take_run","take_atom","follows","take_exponent"] ["MOST_MINUSES"] [aR,aR,aR,aR] [(0,1),(1,1),(2,1),(3,1)] aR cY=true
 k5:zv ZZ (s 5) 1 2 [(0,xJ)] ["whole_number","take_run"] ["FIGURES","MOST_EXPONENT_FIGURES","MOST_EXPONENT"] [.s,aR] [(1,3)] aR b7=true
 k6:zv ZZ (s 6) 1 2 [(0,xJ)] ["follows","take_brackets","take_run","whole_number","take_run"] ["LETTERS","FIGURES","MOST_FIGURES","MOST_LETTERS"] [aR,aR,aR,.s,GH] [(0,4),(1,4),(2,4),(4,4)] aR eS=true
 k7:zv ZZ (s 7) 1 1 [(0,xJ)] ["take_sum","follows"] ["MOST_BRACKETS"] [aR,aR] [(0,1),(1,1)] aR b6=true
 k8:zv ZZ (s 8) 2 3 [(0,xJ)] [] [] [] [] aR dQ=true
 k9:zv ZZ (s 8) 2 3 [(0,U5)] [] [] [] [] GH dQ=true
section
variable{C:Addr}(Z:∀x∈ZZ,mg x=none)(g:Vf K mg)(M:Nn K C ZZ)(hw:Cn P w K mg base 1 "whole_number" .s bx)
include Z in
theorem fM(M:Nn K C ZZ):Mt P w K mg base C 1 "follows" aR (bu C):=
 nO (k:=0) M.D0 rfl M.k0 (gk (C:=C) (es:=[]) (Ss:=[]) (gn:=[]) (Gs:=[]) Z trivial trivial rfl) (λa P R h=>by obtain⟨_,_,_,_,_,rfl,_⟩:=h;rfl) zo
include Z in
theorem CZ(M:Nn K C ZZ):Mt P w K mg base C 1 "take_sign" aR (bX C):=
 nO (k:=0) M.D3 rfl M.k3 (gk (C:=C) (es:=[]) (Ss:=[]) (gn:=[]) (Gs:=[]) Z trivial trivial rfl) (λa P R h=>by obtain⟨_,_,_,_,_,_,_,rfl,_⟩:=h;rfl) t6
include Z in
theorem C0(M:Nn K C ZZ):Mt P w K mg base C 1 "take_run" aR (bD C):=
 nO (k:=0) M.D8 rfl M.k8 (gk (C:=C) (es:=[]) (Ss:=[]) (gn:=[]) (Gs:=[]) Z trivial trivial rfl) (λa P R h=>by obtain⟨_,_,_,_,_,_,rfl,_⟩:=h;rfl) nH
include Z in
theorem MW(M:Nn K C ZZ):Mt P w K mg base C 1 "take_run" GH (bD C):=
 nO (k:=0) M.D8 rfl M.k9 (gk (C:=C) (es:=[]) (Ss:=[]) (gn:=[]) (Gs:=[]) Z trivial trivial rfl) (λa P R h=>by obtain⟨_,_,_,_,_,_,rfl,_⟩:=h;rfl) nH
include Z g M hw in
theorem QH:Mt P w K mg base C 2 "take_exponent" aR (Gm C):=
 nO (k:=1) M.D5 rfl M.k5 (gk (C:=C) (es:=[("whole_number",.s,false),("take_run",aR,true)]) (Ss:=[bx,bD C]) (gn:=["FIGURES","MOST_EXPONENT_FIGURES","MOST_EXPONENT"]) (Gs:=[.str "0123456789",.int 2,.int 12]) Z ⟨hw,C0 Z M,trivial⟩ ⟨g.fg,g.ef,g.ex,trivial⟩ rfl) (λa P R h=>by obtain⟨_,_,_,_,_,rfl,_⟩:=h;rfl) lF
theorem jI{c d:Nat}{a:List Nat->Prop}(b:List W)(P:W->Prop)(R:Addr->Prop)(h:bN c d a C b P R):b.length=1:=by obtain⟨_,_,_,_,_,_,rfl,_⟩:=h;rfl
include Z g M hw in
theorem C1{d k:Nat}(a:1<=k)(b:Mt P w K mg base C k "take_brackets" aR (MK d C)):Mt P w K mg base C (k+1) "take_atom" aR (bN 3 d st3 C):=
 nO (k:=k) M.D6 rfl M.k6 (gk (C:=C) (es:=[("follows",aR,true),("take_brackets",aR,true),("take_run",aR,true),("whole_number",.s,false),("take_run",GH,true)]) (Ss:=[bu C,MK d C,bD C,bx,bD C]) (gn:=["LETTERS","FIGURES","MOST_FIGURES","MOST_LETTERS"]) (Gs:=[.str "abcdefghijklmnopqrstuvwxyz",.str "0123456789",.int 30,.int 8]) Z ⟨(fM Z M).up a,b,(C0 Z M).up a,hw.up a,(MW Z M).up a,trivial⟩ ⟨g.lt,g.fg,g.fi,g.le,trivial⟩ rfl) jI t9
include Z g M hw in
theorem C2:∀d:Nat,Mt P w K mg base C (3+5*d) "take_atom" aR (bN 3 d st3 C)->Mt P w K mg base C (6+5*d) "take_sum" aR (bN 0 d zk C):=λd c=>by
 have b:Mt P w K mg base C (4+5*d) "take_factor" aR (bN 2 d st2 C):=by rw[show 4+5*d=(3+5*d)+1 by omega];exact nO (k:=3+5*d) M.D4 rfl M.k4 (gk (C:=C) (es:=[("take_run",aR,true),("take_atom",aR,true),("follows",aR,true),("take_exponent",aR,true)]) (Ss:=[bD C,bN 3 d st3 C,bu C,Gm C]) (gn:=["MOST_MINUSES"]) (Gs:=[.int 30]) Z ⟨(C0 Z M).up (by omega),c,(fM Z M).up (by omega),(QH Z g M hw).up (by omega),trivial⟩ ⟨g.mi,trivial⟩ rfl) jI oK
 have a:Mt P w K mg base C (5+5*d) "take_term" aR (bN 1 d st1 C):=by rw[show 5+5*d=(4+5*d)+1 by omega];exact nO (k:=4+5*d) M.D2 rfl M.k2 (gk (C:=C) (es:=[("take_factor",aR,true),("follows",aR,true),("take_sign",aR,true)]) (Ss:=[bN 2 d st2 C,bu C,bX C]) (gn:=[]) (Gs:=[]) Z ⟨b,(fM Z M).up (by omega),(CZ Z M).up (by omega),trivial⟩ trivial rfl) jI t8
 rw[show 6+5*d=(5+5*d)+1 by omega];exact nO (k:=5+5*d) M.D1 rfl M.k1 (gk (C:=C) (es:=[("take_term",aR,true),("follows",aR,true),("take_sign",aR,true)]) (Ss:=[bN 1 d st1 C,bu C,bX C]) (gn:=[]) (Gs:=[]) Z ⟨a,(fM Z M).up (by omega),(CZ Z M).up (by omega),trivial⟩ trivial rfl) jI vF
include Z g M hw in
theorem xV:∀d:Nat,Mt P w K mg base C (3+5*d) "take_atom" aR (bN 3 d st3 C)
 |0=>C1 Z g M hw (d:=0) (k:=2) (by omega) (QF M.D7)
 |d+1=>by
  have hs:=C2 Z g M hw d (xV d);have a:Mt P w K mg base C (7+5*d) "take_brackets" aR (MI d C):=by rw[show 7+5*d=(6+5*d)+1 by omega];exact nO (k:=6+5*d) M.D7 rfl M.k7 (gk (C:=C) (es:=[("take_sum",aR,true),("follows",aR,true)]) (Ss:=[bN 0 d zk C,bu C]) (gn:=["MOST_BRACKETS"]) (Gs:=[.int 30]) Z ⟨hs,(fM Z M).up (by omega),trivial⟩ ⟨g.bk,trivial⟩ rfl) (λb P R h=>by obtain⟨_,_,_,_,_,_,rfl,_⟩:=h;rfl) lE
  rw[show 3+5*(d+1)=(7+5*d)+1 by omega];exact C1 Z g M hw (by omega) a
include Z g M hw in
theorem QI(d:Nat):Mt P w K mg base C (6+5*d) "take_sum" aR (bN 0 d zk C):=C2 Z g M hw d (xV Z g M hw d)
end
theorem C3{k j i np:Nat}{x:Str}{S:aW}(T:TT K mg tp DD ZZ)(c:DD[j]?=some (x,i))(b:np=(iQ (tp i)).length)(d:∀a Q R,¬S a Q R):Cl P w K mg base DD k j .s S:=by have:S=Qp:=funext λa=>funext λQ=>funext λR=>propext ⟨λz=>(d _ _ _ z).elim,λz=>z.elim⟩;rw[this];exact Qw T c b
theorem Vg{a b k:Nat}{c:Bool}(e:a<=k)(d:b<=k)(h:c=true):((decide (a<=k)&&(decide (b<=k)&&true))&&c)=true:=by rw[GM e,GM d,h];rfl
theorem W7{a k:Nat}{c:Bool}(b:a<=k)(h:c=true):((decide (a<=k)&&true)&&c)=true:=by rw[GM b,h];rfl
theorem C4{jt ji jb f g:Nat}{j l:Str}(T:TT K mg tp DD ZZ)(d:DD[jt]?=some (j,f))(a:DD[ji]?=some (l,g))(b:Cl P w K mg base DD 1 jb .s iR)(c:zV ZZ (tp f) 1 2 [] [vC DD ji,vC DD jb] [] [.s,.s] [] .s rm=true)(i:zV ZZ (tp g) 2 2 [] [vC DD jb,vC DD jt] [] [.s,.s] [] .s l6=true):∀n,Cl P w K mg base DD (1+2*n) jt .s (vJ n)
 |0=>C3 T d (vD c) λe Q R h=>by obtain⟨X,_,_,p,_⟩:=h;have:=gH X;omega
 |n+1=>by have m:=C4 T d a b c i n;have o:Cl P w K mg base DD (1+2*n+1) ji .s (GD n):=zm (k:=1+2*n) (Ss:=[iR,vJ n]) T a 2 [] [(jb,.s,1),(jt,.s,1+2*n)] GF ⟨b,m,trivial⟩ (Vg (by show 1<=_;omega) (Bz _) i) (λe P R h=>by obtain⟨_,_,rfl,_⟩:=h;rfl);exact zm (k:=1+2*n+1) (Ss:=[GD n,iR]) T d 1 [] [(ji,.s,1+2*n+1),(jb,.s,1)] MT ⟨o,b,trivial⟩ (Vg (Bz _) (by show 1<=_;omega) c) (λe P R h=>by obtain⟨_,rfl,_⟩:=h;rfl)
theorem xW{j i:Nat}{x:Str}(T:TT K mg tp DD ZZ)(a:DD[j]?=some (x,i))(e:zV ZZ (tp i) 1 2 [] [vC DD j] [] [.s] [] .s rA=true):∀n,Cl P w K mg base DD (1+n) j .s (p5 n)
 |0=>C3 T a (vD e) λb Q R h=>by obtain⟨X,_,_,c,_⟩:=h;have:=gH X;omega
 |n+1=>zm (k:=1+n) (Ss:=[p5 n]) T a 1 [] [(j,.s,1+n)] MV ⟨xW T a e n,trivial⟩ (W7 (Bz _) e) (λb P R h=>by obtain⟨_,rfl,_⟩:=h;rfl)
end
end VL
namespace Hz
open PySem PySem.Spec
open PyProof.Rows hiding St
open L2 VL Num
set_option genInjectivity false
set_option genSizeOf false
noncomputable def top(i:Nat):Stmt:=PySem.Challenge.pw_paperwright_k21_names_of_expressions.main.body.getD i (.Pass ⟨0,0,0,0⟩)
abbrev en(x:Str)(i:Nat):Str×Nat:=(x,i)
abbrev DD:DT:=[en "read" 16,en "whole_number" 18,en "_law_numbers" 20,en "_law_names" 21,en "_law_leaf" 22,en "_law_joined" 23,en "_law_fits" 24,en "_law_step" 25,en "_law_grown" 26,en "_law_binds" 27,en "_law_inner" 28,en "_law_text" 29,en "_law_all_names" 30,en "_law_right" 31,en "law" 32]
abbrev ZZ:List Str:=["abs","all","int","isinstance","len","list","max","range","set","sorted","str","tuple"]
abbrev b9:Stmt:=inClass (top 5) 0
abbrev cg:Stmt:=inClass (top 5) 4
abbrev dR:Stmt:=inClass (top 17) 0
abbrev cW:Stmt:=inClass (top 17) 1
abbrev cJ:Stmt:=inClass (top 17) 2
abbrev cj:Stmt:=inClass (top 17) 3
abbrev ck:Stmt:=inClass (top 17) 4
abbrev bY:Stmt:=inClass (top 17) 5
abbrev bG:Stmt:=inClass (top 17) 6
abbrev cu:Stmt:=inClass (top 17) 7
abbrev bH:Stmt:=inClass (top 17) 8
abbrev cK:Stmt:=inClass (top 17) 9
theorem iA:eE ["self","steps"] ["self","steps"] (ak b9):=⟨rfl,rfl,rfl,by decide+kernel,rfl,by decide+kernel,by decide+kernel⟩
theorem lH:eE ["self","text"] ["self","text"] (ak dR):=⟨rfl,rfl,rfl,by decide+kernel,rfl,by decide+kernel,by decide+kernel⟩
structure Tx(K:Frag)(mg:Str->Option Value) extends TT K mg top DD ZZ where
 ai:Addr
 fN:Hc K mg "Reader" ai ["text","place","brackets","steps"]
 aj:Addr
 bZ:Hc K mg "Expression" aj ["steps"]
 dS:Addr
 dU:FuncData
 bI:Dm K aj "__init__" "Expression.__init__" b9 ["self","steps"] dS dU
 iS:Addr
 iT:FuncData
 iU:Dm K aj "names" "Expression.names" cg ["self"] iS iT
 gI:Addr
 gJ:FuncData
 cL:Dm K ai "__init__" "Reader.__init__" dR ["self","text"] gI gJ
 fO:Addr
 fR:FuncData
 kH:Dm K ai "follows" "Reader.follows" cW ["self","signs"] fO fR
 eT:Addr
 eU:FuncData
 jJ:Dm K ai "take_sum" "Reader.take_sum" cJ ["self"] eT eU
 dW:Addr
 dX:FuncData
 iV:Dm K ai "take_term" "Reader.take_term" cj ["self"] dW dX
 dY:Addr
 dZ:FuncData
 iX:Dm K ai "take_sign" "Reader.take_sign" ck ["self"] dY dZ
 c7:Addr
 c8:FuncData
 gK:Dm K ai "take_factor" "Reader.take_factor" bY ["self"] c7 c8
 cM:Addr
 cN:FuncData
 gf:Dm K ai "take_exponent" "Reader.take_exponent" bG ["self"] cM cN
 ee:Addr
 eg:FuncData
 iY:Dm K ai "take_atom" "Reader.take_atom" cu ["self"] ee eg
 cP:Addr
 cQ:FuncData
 gh:Dm K ai "take_brackets" "Reader.take_brackets" bH ["self"] cP cQ
 eV:Addr
 eW:FuncData
 jK:Dm K ai "take_run" "Reader.take_run" cK ["self","signs"] eV eW
 zw:∃u,mg "FIGURES"=some u/\RelV (.str "0123456789") u
 zx:∃u,mg "LETTERS"=some u/\RelV (.str "abcdefghijklmnopqrstuvwxyz") u
 rD:∃u,mg "MOST_SIGNS"=some u/\RelV (.int 1000) u
 lI:∃u,mg "MOST_BRACKETS"=some u/\RelV (.int 30) u
 nR:∃u,mg "MOST_MINUSES"=some u/\RelV (.int 30) u
 nS:∃u,mg "MOST_FIGURES"=some u/\RelV (.int 30) u
 nT:∃u,mg "MOST_LETTERS"=some u/\RelV (.int 8) u
 fS:∃u,mg "MOST_EXPONENT_FIGURES"=some u/\RelV (.int 2) u
 lJ:∃u,mg "MOST_EXPONENT"=some u/\RelV (.int 12) u
section
variable{P:Program}{w:World}{K:Frag}{mg:Str->Option Value}{base:Heap}
theorem nU(T:Tx K mg):Cl P w K mg base DD 1 1 .s bx:=
 vE T.toTT rfl 2 [] nG (by decide+kernel) (by walk_at "l")
theorem nV(T:Tx K mg):bE P w K mg base (iC P w) 1 T.gI T.gJ ["self","text"] (IC T.ai):=by
 have i:=T.fN.ok.1;have f:=T.fN.ok.2.2.2;refine T.cL.F.QV lH (λm H Q E h=>?_) (λr A k s H m Q E u h=>?_)
 .obtain⟨x,c,n,rfl,_⟩:=h;rfl
 obtain⟨x,c,n,rfl,p,q⟩:=h;refine⟨_,(@jd _ _ _ _ _ (jR (pv 0) (pv 1) rfl) (@jd _ _ _ _ _ (jR (pv 0) l8 rfl) (@jd _ _ _ _ _ (jR (pv 0) l8 rfl) (qc (jR (pv 0) (uH bS) rfl))))),?_⟩;refine⟨_,rfl,_,rfl,x,T.ai,c,_,rfl,p,i,f "text" (by decide),by show 0<1000;decide,?_⟩;refine⟨_,rfl,x,T.ai,c,_,rfl,aq,i,f "place" (by decide),by show 1<1000;decide,?_⟩;refine⟨_,rfl,x,T.ai,c,_,rfl,aq,i,f "brackets" (by decide),by show 2<1000;decide,?_⟩;refine⟨yr (by simp),λj a=>?_⟩;have d:j≠x:=λe=>by rw[e,aq]at a;cases a
 refine⟨_,rfl,x,T.ai,c,_,rfl,se aq a,i,f "steps" (by decide),by show 3<1000;decide,?_⟩;rw[ay d,ay d,ay d]at a;refine q j _ (λb o g l=>?_) a ?_ aq
 .have t:b≠j:=bw l a;rw[ay g,ay t,ay g,ay g,ay g];exact l
 .rw[ay d,aq]
theorem C5(T:Tx K mg):b3 P w K mg base 2 (.ref T.ai) 1 (oF K 1 xJ (lX T.ai)):=
 ua T.fN.ok ⟨T.fN.U3,T.cL.M.1,T.cL.M.fn,T.fN.kp⟩ T.cL.b (nV T)
theorem iZ(T:Tx K mg):bE P w K mg base (iC P w) 1 T.dS T.dU ["self","steps"] (ID T.aj):=by
 have t:=T.bZ.ok.1;have m:=T.bZ.ok.2.2.2;refine T.bI.F.QV iA (λk H Q E h=>?_) (λu A d s H k Q E y h=>?_)
 .obtain⟨x,j,p,f,rfl,_⟩:=h;rfl
 obtain⟨x,j,p,f,rfl,g,n,z,q⟩:=h;refine⟨_,qc (jR (pv 0) (gO eX (by rfl) (T.Z "tuple" (by decide)) (by rfl) (aP (pv 1) bS rfl)) rfl),?_⟩;refine⟨_,rfl,p,f,rfl,.inl ⟨.inl (.inl n),λc a=>?_⟩⟩;have l:c≠x:=λe=>by rw[e,g]at a;cases a
 refine⟨_,rfl,x,T.aj,j,_,rfl,se g a,t,m "steps" (by decide),by show 0<1000;decide,?_⟩;refine q c _ (λb o r i=>?_) a ?_ aq
 .have v:b≠c:=bw i a;rw[ay r,ay v];exact i
 .rw[ay l,aq]
theorem rE(T:Tx K mg):b3 P w K mg base 2 (.ref T.aj) 1 (oF K 1 .s (xN T.aj)):=
 zp T.bZ.ok ⟨T.bZ.U3,T.bI.M.1,T.bI.M.fn,T.bZ.kp⟩ T.bI.b (iZ T)
theorem Vh(T:Tx K mg):Vf K mg:=⟨rC T.zw (λ_ _=>by dsimp only[Rep]) (λ_ e=>by cases e),rC T.zx (λ_ _=>by dsimp only[Rep]) (λ_ e=>by cases e),rC T.rD (λ_ _=>by dsimp only[Rep]) (λ_ e=>by cases e),rC T.lI (λ_ _=>by dsimp only[Rep]) (λ_ e=>by cases e),rC T.nR (λ_ _=>by dsimp only[Rep]) (λ_ e=>by cases e),rC T.nS (λ_ _=>by dsimp only[Rep]) (λ_ e=>by cases e),rC T.nT (λ_ _=>by dsimp only[Rep]) (λ_ e=>by cases e),rC T.fS (λ_ _=>by dsimp only[Rep]) (λ_ e=>by cases e),rC T.lJ (λ_ _=>by dsimp only[Rep]) (λ_ e=>by cases e)⟩
noncomputable def W8(T:Tx K mg):Nn K T.ai ZZ where
 s:=λi=>match i with|0=>cW|1=>cJ|2=>cj|3=>ck|4=>bY|5=>bG|6=>cu|7=>bH|_=>cK
 f:=λi=>match i with|0=>T.fO|1=>T.eT|2=>T.dW|3=>T.dY|4=>T.c7|5=>T.cM|6=>T.ee|7=>T.cP|_=>T.eV
 d:=λi=>match i with|0=>T.fR|1=>T.eU|2=>T.dX|3=>T.dZ|4=>T.c8|5=>T.cN|6=>T.eg|7=>T.cQ|_=>T.eW
 D0:=T.kH
 D1:=T.jJ
 D2:=T.iV
 D3:=T.iX
 D4:=T.gK
 D5:=T.gf
 D6:=T.iY
 D7:=T.gh
 D8:=T.jK
 k0:=by decide+kernel
 k1:=by decide+kernel
 k2:=by decide+kernel
 k3:=by decide+kernel
 k4:=by decide+kernel
 k5:=by decide+kernel
 k6:=by decide+kernel
 k7:=by decide+kernel
 k8:=by decide+kernel
 k9:=by decide+kernel
theorem vM(T:Tx K mg):Mt P w K mg base T.ai 141 "take_sum" aR (bN 0 27 zk T.ai):=QI T.Z (Vh T) (W8 T) (nQ (nU T) (j:=1) rfl) 27
theorem MX(T:Tx K mg):Cl P w K mg base DD 142 0 .s (xO 27 T.aj):=
 CF T.toTT rfl rfl (QG (j:=0) (np:=1) (n:=2) (k:=141) (M:=[(1,xJ)]) (es:=[("Reader",xJ,false),("take_sum",aR,true),("Expression",.s,false)]) (Ss:=[lX T.ai,bN 0 27 zk T.ai,xN T.aj]) (gn:=["MOST_SIGNS"]) (Gs:=[.int 1000]) T.toTT rfl ⟨⟨_,_,2,T.fN.c,C5 T,by decide,by walk_at "l"⟩,vM T,⟨_,_,2,T.bZ.c,rE T,by decide,by walk_at "l"⟩,trivial⟩ ⟨(Vh T).sg,trivial⟩ rfl (by decide+kernel) (by walk_at "l") ML) (by walk_at "l")
theorem C6(T:Tx K mg):Mt P w K mg base T.aj 1 "names" .f (jE T.aj):=
 nO (k:=0) T.iU rfl (by decide+kernel:zv ZZ cg 1 4 [(1,.d)] [] [] [] [] .f jD=true) (gk (C:=T.aj) (es:=[]) (Ss:=[]) (gn:=[]) (Gs:=[]) T.Z trivial trivial rfl) (by walk_at "l") CI
theorem zy(T:Tx K mg):Cl P w K mg base DD 1 2 .f Gr:=
 vE T.toTT rfl 3 [(6,.f)] Qz (by decide+kernel) (by walk_at "l")
theorem GI(T:Tx K mg):Cl P w K mg base DD 1 3 .s Gu:=
 vE T.toTT rfl 1 [(2,.f)] QA (by decide+kernel) (by walk_at "l")
theorem MY(T:Tx K mg):Cl P w K mg base DD 1 4 .s CO:=
 vE T.toTT rfl 2 [] MO (by decide+kernel) (by walk_at "l")
theorem um(T:Tx K mg):Cl P w K mg base DD 1 5 .s lZ:=
 vE T.toTT rfl 3 [] CP (by decide+kernel) (by walk_at "l")
theorem C7(T:Tx K mg):Cl P w K mg base DD 1 6 .s xR:=
 vE T.toTT rfl 2 [] MP (by decide+kernel) (by walk_at "l")
theorem MZ(T:Tx K mg):Cl P w K mg base DD 2 7 .s qY:=
 zm T.toTT rfl 4 [] [(5,.s,1),(6,.s,1),(4,.s,1)] CT ⟨um T,C7 T,MY T,trivial⟩ (by decide+kernel) (by walk_at "l")
theorem GJ(T:Tx K mg):Cl P w K mg base DD 3 8 .s ri:=
 zm T.toTT rfl 3 [] [(7,.s,2),(5,.s,1),(6,.s,1)] Gz ⟨MZ T,um T,C7 T,trivial⟩ (by decide+kernel) (by walk_at "l")
theorem GK(T:Tx K mg):Cl P w K mg base DD 1 9 .s iR:=
 vE T.toTT rfl 1 [] GC (by decide+kernel) (by walk_at "l")
theorem v_text(T:Tx K mg):Cl P w K mg base DD 55 11 .s (vJ 27):=C4 (jt:=11) (ji:=10) (jb:=9) T.toTT rfl rfl (GK T) (by decide+kernel) (by decide+kernel) 27
theorem M0(T:Tx K mg):Cl P w K mg base DD 28 12 .s (p5 27):=xW (j:=12) T.toTT rfl (by decide+kernel) 27
theorem GL(T:Tx K mg):Cl P w K mg base DD 29 13 .s jH:=
 zm T.toTT rfl 2 [] [(12,.s,28)] zu ⟨M0 T,trivial⟩ (by decide+kernel) (by walk_at "l")
theorem QJ(T:Tx K mg):bE P w K mg base (iC P w) 143 (T.f 14) (T.d 14) ["_law_script"] (oF K 1 .s MA):=
 QG (j:=14) (np:=1) (n:=7) (k:=142) (M:=[(6,.f)]) (es:=[("_law_numbers",.f,false),("_law_names",.s,false),("_law_grown",.s,false),("read",.s,false),("_law_text",.s,false),("names",.f,true),("_law_right",.s,false)]) (Ss:=[Gr,Gu,ri,(xO 27 T.aj),(vJ 27),jE T.aj,jH]) (gn:=[]) (Gs:=[]) T.toTT rfl ⟨(nQ (zy T) (j:=2) rfl).up (by decide),(nQ (GI T) (j:=3) rfl).up (by decide),(nQ (GJ T) (j:=8) rfl).up (by decide),(nQ (MX T) (j:=0) rfl).up (by decide),(nQ (v_text T) (j:=11) rfl).up (by decide),(C6 T).up (by decide),(nQ (GL T) (j:=13) rfl).up (by decide),trivial⟩ trivial rfl (by decide+kernel) (by walk_at "l") GG
end
theorem NB{K:Frag}{x:Str}{st:Stmt}{f:Addr}{g m:Option Addr}{d:Array (Option Value)}{h kV i e b j:Value}(a:nsIn K mainGlobals x=some (some (.ref f)))(l:K.lookup f=some ⟨h,g,.func (fnOf x x (bF st) (aS st) (ak st) .none kV i e m b j),d⟩)(c:codeIn K b x=true)(k:keepIn K (.ref f)=true):Hd K x st:=⟨f,g,m,d,h,kV,i,e,b,j,a,l,c,k⟩
theorem NC{K:Frag}{C:Addr}{x q:Str}{st:Stmt}{f:Addr}{g n:Option Addr}{d:Array (Option Value)}{h kV j e b m:Value}(a:findIn K (.ref C) x=some (some (.ref f)))(i:isFn K (.ref f)=true)(l:K.lookup f=some ⟨h,g,.func (fnOf x q (bF st) (aS st) (ak st) .none kV j e n b m),d⟩)(c:codeIn K b q=true)(k:keepIn K (.ref f)=true):Hm K C x q st:=⟨f,g,n,d,h,kV,j,e,b,m,a,i,l,c,k⟩
theorem p8{x q:Str}{st:Stmt}{i:Str}(h:∀(kV a d:Value)(g:Option Addr)(b f c:Value),bindArgs (fnOf x q (bF st) (aS st) (ak st) .none kV a d g b f) ⟨[c],[]⟩=pure ([i].zip [c])):fZ x q st [i]:=λkV a d g b f k j=>by obtain⟨c,l,rfl,e⟩:=oJ j;cases Jn.mp e;exact h kV a d g b f c
theorem Ab{x q:Str}{st:Stmt}{l k:Str}(h:∀(kV a e:Value)(j:Option Addr)(b i d c:Value),bindArgs (fnOf x q (bF st) (aS st) (ak st) .none kV a e j b i) ⟨[d,c],[]⟩=pure ([l,k].zip [d,c])):fZ x q st [l,k]:=λkV a e j b i n m=>by obtain⟨d,p,rfl,g⟩:=oJ m;obtain⟨c,o,rfl,f⟩:=oJ g;cases Jn.mp f;exact h kV a e j b i d c
theorem Rj{x q:Str}{st:Stmt}{m l p2:Str}(h:∀(kV a e:Value)(k:Option Addr)(b j d c a2:Value),bindArgs (fnOf x q (bF st) (aS st) (ak st) .none kV a e k b j) ⟨[d,c,a2],[]⟩=pure ([m,l,p2].zip [d,c,a2])):fZ x q st [m,l,p2]:=λkV a e k b j o n=>by obtain⟨d,s,rfl,i⟩:=oJ n;obtain⟨c,r,rfl,g⟩:=oJ i;obtain⟨a2,p,rfl,f⟩:=oJ g;cases Jn.mp f;exact h kV a e k b j d c a2
theorem Rk{x q:Str}{st:Stmt}{n m p2 l:Str}(h:∀(kV a e:Value)(k:Option Addr)(b j d c a2 a3:Value),bindArgs (fnOf x q (bF st) (aS st) (ak st) .none kV a e k b j) ⟨[d,c,a2,a3],[]⟩=pure ([n,m,p2,l].zip [d,c,a2,a3])):fZ x q st [n,m,p2,l]:=λkV a e k b j r o=>by obtain⟨d,v,rfl,i⟩:=oJ o;obtain⟨c,u,rfl,g⟩:=oJ i;obtain⟨a2,t,rfl,f⟩:=oJ g;obtain⟨a3,s,rfl,p⟩:=oJ f;cases Jn.mp p;exact h kV a e k b j d c a2 a3
theorem all_mk{l:PySem.W.OpenLaw}{w:World}{K:Frag}{h:Heap}{c:Str->Option Value}{k:Addr}(X:K.In h)(G:h.Ns mainGlobals c)(Xb:c "law"=some (.ref k))
 {a:Addr}(C:nsIn K mainGlobals "Reader"=some (some (.ref a)))(B:plainGet K a Str.empty=true)(A:hasDictIn K a=true)(z:plainOver K a=true)(y:findIn K (.ref a) "__setattr__"=some (some (.builtin "object.__setattr__")))(u:makesIn K a=true)(t:keepIn K (.ref a)=true)
 (R:findIn K (.ref a) "text"=some none)
 (Z:findIn K (.ref a) "place"=some none)
 (jL:findIn K (.ref a) "brackets"=some none)
 (Y:findIn K (.ref a) "steps"=some none)
 {b:Addr}(Q:nsIn K mainGlobals "Expression"=some (some (.ref b)))(P:plainGet K b Str.empty=true)(O:hasDictIn K b=true)(N:plainOver K b=true)(M:findIn K (.ref b) "__setattr__"=some (some (.builtin "object.__setattr__")))(L:makesIn K b=true)(J:keepIn K (.ref b)=true)
 (i6:findIn K (.ref b) "steps"=some none)
 (a0:Hm K b "__init__" "Expression.__init__" b9)
 (a1:Hm K b "names" "Expression.names" cg)
 (a3:Hm K a "__init__" "Reader.__init__" dR)
 (a4:Hm K a "follows" "Reader.follows" cW)
 (a5:Hm K a "take_sum" "Reader.take_sum" cJ)
 (a6:Hm K a "take_term" "Reader.take_term" cj)
 (a7:Hm K a "take_sign" "Reader.take_sign" ck)
 (a8:Hm K a "take_factor" "Reader.take_factor" bY)
 (a9:Hm K a "take_exponent" "Reader.take_exponent" bG)
 (Xc:Hm K a "take_atom" "Reader.take_atom" cu)
 (Xd:Hm K a "take_brackets" "Reader.take_brackets" bH)
 (Xe:Hm K a "take_run" "Reader.take_run" cK)
 (aa:Gf K top DD)(n:Gg K ZZ)
 {r:Tok}(q:nsIn K mainGlobals "FIGURES"=some (some (.str "0123456789" r)))
 {p:Tok}(o:nsIn K mainGlobals "LETTERS"=some (some (.str "abcdefghijklmnopqrstuvwxyz" p)))
 {H:Tok}(F:nsIn K mainGlobals "MOST_SIGNS"=some (some (.int 1000 H)))
 {lK:Tok}(lM:nsIn K mainGlobals "MOST_BRACKETS"=some (some (.int 30 lK)))
 {U:Tok}(S:nsIn K mainGlobals "MOST_MINUSES"=some (some (.int 30 U)))
 {n6:Tok}(n8:nsIn K mainGlobals "MOST_FIGURES"=some (some (.int 30 n6)))
 {n9:Tok}(I:nsIn K mainGlobals "MOST_LETTERS"=some (some (.int 8 n9)))
 {fT:Tok}(fU:nsIn K mainGlobals "MOST_EXPONENT_FIGURES"=some (some (.int 2 fT)))
 {lN:Tok}(lO:nsIn K mainGlobals "MOST_EXPONENT"=some (some (.int 12 lN)))
 :∃i:FuncData,(∀(s:Shared)(v:Value),BindsTo s i ⟨[v],[]⟩ [("_law_script",v)])/\∀base:Heap,K.In base->base.Ns mainGlobals c->bE l.prog w K c base OA 143 k i ["_law_script"] (xD K):=by
 obtain⟨g⟩:=Qs X G aa n;have C8:oB K a ["text","place","brackets","steps"]:=⟨⟨B,A,z,y⟩,by decide,by decide+kernel,λx f=>by
  simp only[FC,Os,X8]at f;rcases f with rfl|rfl|rfl|rfl
  .exact R
  .exact Z
  .exact jL
  .exact Y⟩
 have E:oB K b ["steps"]:=⟨⟨P,O,N,M⟩,by decide,by decide+kernel,λx f=>by
  simp only[FC,Os,X8]at f;rcases f with rfl
  .exact i6⟩
 obtain⟨f0,d0,D0⟩:=gj (ps:=["self","steps"]) a0 (Ab λ_ _ _ _ _ _ _ _=>rfl);obtain⟨f1,d1,D1⟩:=gj (ps:=["self"]) a1 (p8 λ_ _ _ _ _ _ _=>rfl);obtain⟨f3,d3,D3⟩:=gj (ps:=["self","text"]) a3 (Ab λ_ _ _ _ _ _ _ _=>rfl);obtain⟨f4,d4,D4⟩:=gj (ps:=["self","signs"]) a4 (Ab λ_ _ _ _ _ _ _ _=>rfl);obtain⟨f5,d5,D5⟩:=gj (ps:=["self"]) a5 (p8 λ_ _ _ _ _ _ _=>rfl);obtain⟨f6,d6,D6⟩:=gj (ps:=["self"]) a6 (p8 λ_ _ _ _ _ _ _=>rfl);obtain⟨f7,d7,D7⟩:=gj (ps:=["self"]) a7 (p8 λ_ _ _ _ _ _ _=>rfl);obtain⟨f8,d8,D8⟩:=gj (ps:=["self"]) a8 (p8 λ_ _ _ _ _ _ _=>rfl);obtain⟨f9,d9,D9⟩:=gj (ps:=["self"]) a9 (p8 λ_ _ _ _ _ _ _=>rfl);obtain⟨Xf,Xg,Xh⟩:=gj (ps:=["self"]) Xc (p8 λ_ _ _ _ _ _ _=>rfl);obtain⟨Xi,Xj,Xk⟩:=gj (ps:=["self"]) Xd (p8 λ_ _ _ _ _ _ _=>rfl);obtain⟨Xl,Xm,Xn⟩:=gj (ps:=["self","signs"]) Xe (Ab λ_ _ _ _ _ _ _ _=>rfl);have D:=g.D (j:=14) rfl;have e:=Xb.symm.trans D.m;cases e
 let T:Tx K c:=⟨g,a,⟨PQ X G C,C8,u,t⟩,b,⟨PQ X G Q,E,L,J⟩,f0,d0,D0,f1,d1,D1,f3,d3,D3,f4,d4,D4,f5,d5,D5,f6,d6,D6,f7,d7,D7,f8,d8,D8,f9,d9,D9,Xf,Xg,Xh,Xi,Xj,Xk,Xl,Xm,Xn,⟨_,PQ X G q,_,rfl⟩,⟨_,PQ X G o,_,rfl⟩,⟨_,PQ X G F,_,rfl⟩,⟨_,PQ X G lM,_,rfl⟩,⟨_,PQ X G S,_,rfl⟩,⟨_,PQ X G n8,_,rfl⟩,⟨_,PQ X G I,_,rfl⟩,⟨_,PQ X G fU,_,rfl⟩,⟨_,PQ X G lO,_,rfl⟩⟩
 exact⟨g.d 14,λs v=>D.bt s [v] rfl,λbase _ _=>MB (QJ T)⟩
end Hz
namespace PySem.W.Fast
noncomputable def tw8683554046251162968:=0
noncomputable def tw13610702824303444454:=0
noncomputable def tw17273650870324317644:=0
noncomputable def tw4954423297082961382:=0
noncomputable def tw14755046660692907444:=0
noncomputable def tw10454402365121004139:=0
noncomputable def tw13277796953707335605:=0
noncomputable def tw4378590047444849191:=0
noncomputable def tw15096236919022968922:=0
noncomputable def tw10207995961665214523:=0
noncomputable def tw6382631877091288287:=0
noncomputable def tw9370219683962634054:=0
noncomputable def tw9524048811748919816:=0
noncomputable def tw6568006732881109346:=0
noncomputable def tw4088320687934527591:=0
noncomputable def tw11929610066944946026:=0
noncomputable def tw15940145088729209298:=0
noncomputable def tw5339592749774525159:=0
noncomputable def tw9723635488804616935:=0
noncomputable def tw5699186607800487987:=0
noncomputable def tw14921424529862478814:=0
noncomputable def tw5680993651656082626:=0
noncomputable def tw14991967970171840309:=0
noncomputable def tw3983322631571822480:=0
noncomputable def tw8750472495058155304:=0
noncomputable def tw14114024234129520838:=0
noncomputable def tw14043298584825602717:=0
noncomputable def tw13695030476459469860:=0
noncomputable def tw5486913622145345063:=0
noncomputable def tw1816832934921112454:=0
noncomputable def tw8809773882120293275:=0
noncomputable def tw7737728283063469636:=0
noncomputable def tw7404265368065939821:=0
noncomputable def tw1218592498038311418:=0
noncomputable def tw13443652913535187323:=0
noncomputable def tw16320489662501128909:=0
noncomputable def tw6869152592350492685:=0
noncomputable def tw5130141024660365459:=0
noncomputable def tw3191667725523627697:=0
noncomputable def tw16767887004194635606:=0
noncomputable def tw10482781816807778188:=0
noncomputable def tw7468913097388832597:=0
noncomputable def tw16799282781531988446:=0
noncomputable def tw12130359142478414720:=0
noncomputable def tw8921597386482292530:=0
noncomputable def tw10671508766970309761:=0
noncomputable def tw12716882235016916003:=0
noncomputable def tw417369823514934544:=0
noncomputable def tw15870706373425022948:=0
noncomputable def tw8925782407164494567:=0
noncomputable def tw11425367434118317357:=0
noncomputable def tw2153797525386922756:=0
noncomputable def tw8795272607259679812:=0
noncomputable def tw10314047367831683749:=0
noncomputable def tw3172654036398251739:=0
noncomputable def tw5537135610811453554:=0
noncomputable def tw4646646852439151142:=0
noncomputable def tw773916489415498693:=0
noncomputable def tw1769526572923139323:=0
noncomputable def tw11777383217418906747:=0
noncomputable def tw11550471093021778099:=0
noncomputable def tw17582339972405016015:=0
noncomputable def tw9327024772554450651:=0
noncomputable def tw17968493114710810792:=0
noncomputable def tw1269040467986265588:=0
noncomputable def tw14180646914942114658:=0
noncomputable def tw3430104897957388947:=0
noncomputable def tw7693750331867774951:=0
noncomputable def tw2408378621496868873:=0
noncomputable def tw675668727194081969:=0
noncomputable def tw15872499862251676417:=0
noncomputable def tw2624431205834758186:=0
noncomputable def tw11299475143735240143:=0
noncomputable def tw4629519029504309866:=0
noncomputable def tw9581100631921402883:=0
noncomputable def tw6230475891486109213:=0
noncomputable def tw17021568255286210475:=0
noncomputable def tw5149401144469354215:=0
noncomputable def tw13903539973062766720:=0
noncomputable def tw1100027862134249482:=0
noncomputable def tw17887969802952318363:=0
noncomputable def tw15647494401852995113:=0
noncomputable def tw9821773346996908717:=0
noncomputable def tw11531449344264712650:=0
noncomputable def tw15396371088081417622:=0
noncomputable def tw16132043984133392852:=0
noncomputable def tw16397890722434700464:=0
noncomputable def tw12782775376608490756:=0
noncomputable def tw17854845114652717494:=0
noncomputable def tw3340913280846980099:=0
noncomputable def tw1912955683381941144:=0
noncomputable def tw3573984816898595191:=0
noncomputable def tw1276202037754023766:=0
noncomputable def tw12900762419603759323:=0
noncomputable def tw5082378561725396171:=0
noncomputable def tw14816711375483254717:=0
noncomputable def tw17671757273709037255:=0
noncomputable def tw10320235282018577660:=0
noncomputable def tw14685080572116790058:=0
noncomputable def tw8843267145476562471:=0
noncomputable def tw15034297788537149262:=0
noncomputable def tw9934702599087309682:=0
noncomputable def tw8769976540634382101:=0
noncomputable def tw15756590542191922077:=0
noncomputable def tw10110199409923115410:=0
noncomputable def tw12860929645249483033:=0
noncomputable def tw43178188317896199:=0
noncomputable def tw6277650899250342646:=0
noncomputable def tw12091469869039356846:=0
noncomputable def tw14523925784891070668:=0
noncomputable def tw11779495134758113379:=0
noncomputable def tw14836636951625259740:=0
noncomputable def tw13701986391775027766:=0
noncomputable def tw1275824519822698721:=0
noncomputable def tw4352696658247782863:=0
noncomputable def tw9472827074158953858:=0
noncomputable def tw8076786459856637633:=0
noncomputable def tw7751980954542098459:=0
noncomputable def tw6189028292456952704:=0
noncomputable def tw6180823972313688666:=0
noncomputable def tw3003526118634464094:=0
noncomputable def tw2621201717117469794:=0
noncomputable def tw17440528574835953780:=0
noncomputable def tw16928347864311784199:=0
noncomputable def tw16082815698142752268:=0
noncomputable def tw14962499926375586529:=0
noncomputable def tw13983051230709157770:=0
noncomputable def tw40027490033183474:=0
noncomputable def tw15280030027462213817:=0
noncomputable def tw5181582938213789376:=0
noncomputable def tw12039695574090587390:=0
noncomputable def tw7653424523832185017:=0
noncomputable def tw3954098656684499475:=0
noncomputable def tw13812743225061947282:=0
noncomputable def tw11260730185404783306:=0
noncomputable def tw10695241033548705026:=0
noncomputable def tw5699136722755583656:=0
noncomputable def tw3803662111614897942:=0
noncomputable def tw3237860876996399705:=0
noncomputable def tw14764700933603253430:=0
noncomputable def tw12467817514801538137:=0
noncomputable def tw8398363626187595340:=0
noncomputable def tw7193914959190644347:=0
noncomputable def tw16767606624236424473:=0
noncomputable def tw13651793347281259217:=0
noncomputable def tw12670314218723788857:=0
noncomputable def tw12421884524821372200:=0
noncomputable def tw11794384930400577549:=0
noncomputable def tw10014542709654514613:=0
noncomputable def tw4361933201404837056:=0
noncomputable def tw7883508537279470797:=0
noncomputable def tw5163398065373556124:=0
noncomputable def tw7733714267731998376:=0
noncomputable def tw3530636280203449893:=0
noncomputable def tw2950415753829352438:=0
noncomputable def tw12454239625930286850:=0
noncomputable def tw9491801332538354557:=0
noncomputable def tw6570923872742758144:=0
noncomputable def tw4811188496198178175:=0
noncomputable def tw3430651396586403013:=0
noncomputable def tw2525444667987912094:=0
noncomputable def tw1859296326578130147:=0
noncomputable def tw17748132160923670788:=0
noncomputable def tw11491739006724973062:=0
noncomputable def tw10938552567980676110:=0
noncomputable def tw10840648232091188442:=0
noncomputable def tw10190009213627116136:=0
noncomputable def tw10067917794511015073:=0
noncomputable def tw10030875179080013503:=0
noncomputable def tw17338627760382430560:=0
noncomputable def tw8187331075986233683:=0
noncomputable def tw18288361307103597242:=0
noncomputable def tw10105155753589171520:=0
noncomputable def tw7733735139412520275:=0
end PySem.W.Fast
open PySem PySem.W PyProof.Rows
set_option maxRecDepth 100000 in
set_option maxHeartbeats 0 in
theorem PySem.Challenge.cw_paperwright_k21_names_of_expressions_holds : PySem.Challenge.rw_paperwright_k21_names_of_expressions.Holds := by
 w_on;o_law;k_head;(case hw=>w_witness2)
 k_fill
 refine VL.walk (l:=PySem.Challenge.rw_paperwright_k21_names_of_expressions) (k:=143) rfl rfl ⟨rfl,by decide,by decide⟩ (by decide+kernel) rfl (fun w h Y=>PySem.W.kIn_of Y) ?F
 case F=>
  intro w mg fa h KX G hmg
  refine' Hz.all_mk KX G hmg ?Xo ?Xp ?Xq ?Xr ?Xs ?Xu ?Xv ?Xw ?Xx ?Xy ?Tq ?Tt ?Tu ?Tv ?Tw ?Tz ?TF ?TH ?TJ ?TM ?TN ?TQ ?TR ?TU ?TV ?TX ?TY ?TZ ?T3 ?T4 ?T5 ?T6 ?T7 ?T8 ?T9 ?Ua ?Ub ?Uc ?Ud ?Ue ?Ug ?Uh
  (case Xo|Xp|Xq|Xr|Xs|Xu|Xv|Xw|Xx|Xy|Tq|Tt|Tu|Tv|Tw|Tz|TF|TH|TJ=>k_is)
  (case TM|TN|TQ|TR|TU|TV|TX|TY|TZ|T3|T4|T5=>walk_at "hm")
  (case T6=>(iterate 15 walk_at "ah");exact trivial)
  (case T7=>(iterate 12 walk_at "az");exact trivial)
  (case T8|T9|Ua|Ub|Uc|Ud|Ue|Ug|Uh=>k_is)
