import PyProof.Rows.All
import Wide.All
import OpenK.AllK
import Wide.FinOn
import Lean
import PyProof.EqAt
import PyProof.EqKinds
import PyProof.TupleCall
import PySem.Challenge.RW_paperwright_k19_values_of_expressions
set_option Elab.async false
set_option linter.all false
set_option compiler.extract_closed false
set_option bootstrap.genMatcherCode false
set_option maxRecDepth 100000
set_option maxHeartbeats 4000000
set_option hygiene false in
local macro_rules | `(tactic| walk_at "lo") => `(tactic| first | exact False.elim h | (obtain ⟨rfl, _⟩ := h; rfl) | (obtain ⟨_, h⟩ := h; walk_at "lo"))
set_option hygiene false in
local macro_rules | `(tactic| walk_at "l") => `(tactic| (intro _ _ _ h; walk_at "lo"))
set_option hygiene false in
local macro_rules | `(tactic| fin2) => `(tactic| first | dsimp only [↓Uz, ↓Mr, wSs, wS, wE, wA, UA, BE, T7, wP, BF, z7, Im, cD, setAt, List.getElem?_cons_zero, List.getElem?_cons_succ, look, List.set, bg, bI, cF, au, List.map_cons, List.map_nil, List.nil_append, List.cons_append, x_len, NT, NU, UB, UC, NV, Io, UD, UE, UG, UH, UI, UJ, NW, UK, UL, YM, YN, x_lt, YO, YQ, YR, UM, UN, Ip, YS, UO, UP, UQ, YT, UR, US, UT, UU, Iq, DP, UW, UX, UY, YU, NX, NY, NZ, N4, N5, N6, UZ, U0, U1, U3, U4, U5, U6, U7, U8, U9, Va, Vb, pR, yk, N7, Ir, fall, List.replicate, if_true, Bool.not_true, Bool.not_false] | skip)
open Bool renaming and_eq_true->AC,false_ne_true->Fn,and_eq_true_iff->Jn,or_false->QR,and_false->RF,not_eq_true->Sr,or_eq_true->UV,eq_iff_iff->W1,not_eq_true'->X2,eq_false_iff->S7,true_and->Yp,false_or->Yq,or_eq_false_iff->ck,false_eq_true->eH,and_true->h9,true_or->hJ
open List renaming mem_cons_of_mem->AS,mem_cons_self->Ap,length_append->DL,getElem?_eq_getElem->Da,mem_cons->Do,mem_singleton->Dx,length_map->FK,size_toArray->FM,mem_append_right->FR,map_cons->Fh,getElem?_eq_some_iff->Fk,isEmpty_iff->Fm,mem_append->Fu,getElem?_map->GM,all_eq_true->HI,nodup_cons->Ha,getElem?_append_right->Hn,mem_map->IH,mem_append_left->IT,getElem?_set_ne->Iy,mem_of_getElem?->KM,length_eq_zero_iff->Kb,map_append->Kk,length_set->Kt,append_nil->Kx,getElem?_append_left->L9,getElem_mem->Mo,getElem?_set_self->N0,append_assoc->NO,mem_filter->P2,nodup_append->SL,filter_cons->SZ,length_replicate->T1,not_mem_nil->TC,length_take->TK,length_pos_iff->Tb,contains_iff_mem->Y1,getElem?_range->ar,nodup_nil->bp,isPrefixOf_iff_prefix->c0,drop_left->cb,drop_eq_getElem_cons->cc,getElem?_replicate->d6,map_nil->de,of_mem_zip->dq,eq_nil_or_concat->eA,mem_range->eD,replicate->A0,all_cons->Ai,length_cons->Ar,lookup_cons->DK,isPrefixOf->Dy,replicate_succ->Et,zip_cons_cons->G1,range->G2,find?_cons->I0,length->J9,flatten_cons->JD,any_cons->Jq,length_singleton->L0,lookup->Lx,nil_append->MF,filterMap_cons->Mu,zipWith->N2,length_nil->Nk,map_congr_left->Nt,mem_filterMap->O4,find?_eq_none->OK,map_map->Oz,getElem?_set->S6,length_drop->WV,any_eq_true->Wf,range'->Xg,getD_eq_getElem?_getD->YL,drop_zero->YP,mem_of_find?_eq_some->YZ,getElem?_zip_eq_some->Ye,range_succ_eq_map->Z4,length_filter_le->ae,getElem?_eq_none->ax,dropLast_eq_take->b0,replicate_succ'->cg,getElem_of_mem->dn,set_cons_succ->eB,foldl->eF,mem_range'_1->eM,length_range->eP,any_eq_false->eQ,take_length->et,range'_succ->f6,drop_length->f7,cons_ne_nil->fI,foldl_cons->fe,take_succ->gN,take_left->gb,sum_cons->gp,set_comm->h7
open Nat renaming le_refl->BY,lt_of_lt_of_le->Bn,le_trans->FV,ne_of_lt->Hk,lt_of_le_of_lt->Kj,zero_le->OF,eq_zero_or_pos->P3,lt_irrefl->PH,mul_le_mul_left->QP,le_of_lt->SF,le_mul_of_pos_right->Wp,ne_of_gt->aw,le_succ->cq,add_sub_cancel_left->d4,log2_lt->eC,toDigits->NJ,add_sub_cancel->Of,mul_comm->T8,lt_succ_of_lt->Tc,lt_or_ge->V0,le_of_eq->Vf,succ_le_succ->XM,lt_succ_self->Xc,mul_le_mul->YX,sub_zero->ZY,pow_succ->Zb,pow_pos->d5,pow_le_pow_right->dV,add_le_add_left->e7,one_lt_two_pow->eJ,le_of_not_lt->fb,mul_ne_zero->fx,le_add_left->fy,div_add_mod->gL,le_of_dvd->hH,zero_add->hU,sub_self->hV,lt_trans->hW,add_zero->hY,two_mul->kb,pow_mul->kf,mul_pos->km,mul_add->kn,not_lt->l9,succ->lb,log2->lg
open PySem.Heap renaming get?_push_of_some->Bi,lt_size->FC,get?_push_size->Hb
open PySem renaming wpAny_bind->DO,wpAny_pure->GE,mem_of_lookup->KB,wpAny_mono->Nw,wpAny_Call_Name_kw->Pm,wpAny_truthy_bool->SO,wpAny_newObj_type->SU,codeAny_mono->T2,wpAny_passesOwn->TB,wpAny_execs_nil->X9,tupleKind_room_in1->cx,wpAny_holding->du
open Option.some renaming inj->Fs
open Option renaming map_eq_some_iff->He,isSome_iff_exists->Os,map_some->Ls,getD_some->Mv,bind_eq_some_iff->YW,map->bx,isSome_map->d3,getD_none->dy,none->gm
open Rat renaming num_divInt_den->IS,divInt_eq_divInt_iff->On,num_eq_zero->dk,divInt_mul_divInt->dt,divInt->As,sub_eq_add_neg->OV,num_pow->Xw,neg_num->YA,neg_den->YB,den_pow->YC,divInt_add_divInt->ba,inv_def->cv,divInt_eq_div->el,pow_zero->hL
open PySem.W renaming mg_of->KE,kia_one->NA,callWith_K->Pi,methodCall_KW->Xt,looks_findIn->Ya,looks_mroIn->ag
open Int renaming eq_ofNat_of_zero_le->Ki,gcd_dvd_right->PP,fdiv_eq_ediv_of_nonneg->PQ,natAbs_mul->Pl,natAbs_ediv_le_natAbs->Re,mul_ne_zero->SC,le_of_lt->Ta,mul_fdiv_cancel_left->UF,gcd_comm->X1,mul_le_mul_of_nonneg_right->Y2,eq_of_mul_eq_mul_left->cm,le_of_dvd->cw,gcd_dvd_left->dE,lt_or_le->df,mul_nonneg->eI,gcd->A9,natAbs_natCast->Cg,toNat_natCast->LA,zero_sub->W0,pow_add->YD,mul_pos->YE,natCast_mul->YG,dvd_mul_of_dvd_right->Yz,natCast_nonneg->eR,lt_of_lt_of_le->ed,gcd_zero_right->eg,emod_lt_of_pos->ei,natCast_pow->gd,fdiv_nonneg->gg,natAbs_pow->h8,sub_zero->i5,pow_succ->ib,mul_comm->ij,add_comm->ik,one_mul->kv,neg_gcd->kx,mul_one->ky,gcd_neg->kz,dvd_gcd->l4
open List.cons renaming inj->OR,injEq->lh
open Ne renaming symm->Oy
open PySem.F renaming plainAttrs_list->Pv,type_list_append->Ts,slot_list_append->U2,slot_dict_get->dv
open PyProof.Rows renaming callWith_type1->QQ,slot_tuple_getitem->XB,tDigits_len_ge->ip,sortedS->iq,digits10_le->js,digit_range->kA,callWith_builtin1->kS
open PySem.Calls renaming callWith_builtin->Yf,evalArgs_plain->bc
open PySem.Around renaming frames_deeper->bj
open False renaming elim->DN
open Sum renaming inr->Ec,inl->SK
open True renaming intro->FF
open Array renaming length_toList->Ju,toList->Z3,getElem?_toList->ZX,toList_inj->ej
open ForInStep renaming yield->LB
open Iff renaming rfl->bM
open And renaming intro->ft
open List.Pairwise renaming nil->hZ
open Nat.Coprime renaming mul_left->lA,coprime_dvd_right->lB
open Or renaming inr->lL,inl->la
open Decidable renaming not_not->lr
def AN:=@of_decide_eq_true
def B1:=@if_neg
def BM:=@if_pos
def Bz:=@decide_eq_true
def Ee:=@decide_eq_false
def GT:=@beq_iff_eq
def Gc:=@decide_eq_true_eq
def IR:=@congrArg
def NM:=@beq_eq_false_iff_ne
def Qb:=@decide_eq_decide
def Qr:=@beq_self_eq_true
def da:=@if_true
noncomputable section
set_option bootstrap.genMatcherCode false
open PySem.W(instObj methodObj hideAll_get Frag codeHdIn lookIn plainGet hasDictIn findIn plainGet_of isFn plainOver takerIn makesIn emptyDict keepIn mroIn kitOne fnOf codeIn tabObj excIn fnX fnMade envX FnAt nsIn)
namespace L2
open PySem PySem.Spec PyProof.Rows
abbrev Key:=Sum Int Str
noncomputable def pS:Key->Value->Bool
 |.inl k,v=>Value.isInt k v
 |.inr x,v=>Value.isStrOf x v
noncomputable def YV(w:World):Key->Int
 |.inl k=>hashInt k
 |.inr x=>hashStr w x
private theorem bG:∀{k:Key}{v:Value},pS k v=true->(∃i t,k=SK i/\v=Value.int i t)\/(∃x t,k=Ec x/\v=Value.str x t)
 |.inl i,v,h=>by obtain⟨t,e⟩:=Value.isInt_shape (k:=i) (v:=v) h;exact .inl ⟨i,t,rfl,e⟩
 |.inr x,v,h=>by obtain⟨t,e⟩:=Value.isStrOf_shape (x:=x) (v:=v) h;exact .inr ⟨x,t,rfl,e⟩
private theorem BG(i:Int)(t:Tok):pS (.inl i) (.int i t)=true:=by simp[pS,Value.isInt]
private theorem BH(x:Str)(t:Tok):pS (.inr x) (.str x t)=true:=by simp[pS,Value.isStrOf]
private theorem N8(a b:Int):decide ((SK a:Key)=SK b)=(a==b):=by
 by_cases e:a=b
 .subst e;simp
 .have h:¬(SK a:Key)=SK b:=λq=>e (Sum.inl.inj q);rw[Ee h];exact(NM.mpr e).symm
private theorem N9(a b:Str):decide ((Ec a:Key)=Ec b)=decide (a=b):=by
 by_cases e:a=b
 .subst e;simp
 .have h:¬(Ec a:Key)=Ec b:=λq=>e (Sum.inr.inj q);rw[Ee h,Ee e]
private theorem Oa(a:Int)(b:Str):decide ((SK a:Key)=Ec b)=false:=Ee (λq=>nomatch q)
private theorem Oc(a:Str)(b:Int):decide ((Ec a:Key)=SK b)=false:=Ee (λq=>nomatch q)
noncomputable def bD(prog:Program)(w:World):PySem.KeyKind prog w Key where
 is:=pS
 hash:=YV w
 inj:=λv a b g d=>by
  rcases bG g with⟨i,t,rfl,rfl⟩|⟨x,t,rfl,rfl⟩
  .rcases bG d with⟨j,u,rfl,e⟩|⟨y,u,rfl,e⟩
   .injection e with e1 _;rw[e1]
   .exact nomatch e
  .rcases bG d with⟨j,u,rfl,e⟩|⟨y,u,rfl,e⟩
   .exact nomatch e
   .injection e with e1 _;rw[e1]
 byValue:=λk v h=>by rcases bG h with⟨i,t,rfl,rfl⟩|⟨x,t,rfl,rfl⟩<;>rfl
 pyHash:=λc h=>by
  rcases bG c with⟨i,t,rfl,rfl⟩|⟨x,t,rfl,rfl⟩
  .exact wpAny_pyHash_int h
  .exact wpAny_pyHash_str h
 eqBool:=λf c h=>by
  rcases bG f with⟨i,t,rfl,rfl⟩|⟨x,t,rfl,rfl⟩
  .rcases bG c with⟨j,u,rfl,rfl⟩|⟨y,u,rfl,rfl⟩
   .rw[N8]at h;exact wpAny_eqBool_int h
   .rw[Oa]at h;exact SeqAt.EqAt.int_str i t y u _ _ _ _ h
  .rcases bG c with⟨j,u,rfl,rfl⟩|⟨y,u,rfl,rfl⟩
   .rw[Oc]at h;exact SeqAt.EqAt.str_int x t j u _ _ _ _ h
   .rw[N9]at h;exact wpAny_eqBool_str h
 «strs»:=λk x t v h=>by
  rcases bG h with⟨i,u,rfl,e⟩|⟨y,u,rfl,e⟩
  .exact nomatch e
  .injection e with e1 _;subst e1;cases v<;>rfl
private theorem v9(prog:Program)(w:World)(i:Int)(t:Tok):(bD prog w).is (.inl i) (.int i t)=true:=BG i t
private theorem wc(prog:Program)(w:World)(x:Str)(t:Tok):(bD prog w).is (.inr x) (.str x t)=true:=BH x t
inductive V where
 |aN|bl (b:Bool)|int (i:Int)|str (x:Str)|Du (b:Array UInt8)|Od (b:UInt64)|ref (a:Addr)|ty (n:String)
 deriving DecidableEq
def RelV:V->Value->Prop
 |.aN,u=>u=Value.none
 |.bl b,u=>u=Value.bool b
 |.int i,u=>∃t,u=Value.int i t
 |.str x,u=>∃t,u=Value.str x t
 |.Du b,u=>∃t,u=Value.bytes b t
 |.Od b,u=>∃t,u=Value.float b t
 |.ref a,u=>u=Value.ref a
 |.ty n,u=>u=Value.type n
abbrev Vals:List V->List Value->Prop:=Paired RelV
private theorem Vals.length(r:Vals a us):a.length=us.length:=Paired.length r
private theorem Vals.get:∀{a:List V}{us:List Value}{i:Nat}{x:V},Vals a us->a[i]?=some x->∃u,us[i]?=some u/\RelV x u
 |_,_,_,_,.nil,e=>by simp at e
 |_,_,0,_,.cons r _,e=>by simp at e;subst e;exact⟨_,rfl,r⟩
 |_,_,i+1,x,.cons _ t,e=>by obtain⟨u,c,b⟩:=Vals.get (i:=i) (x:=x) t (by simpa using e);exact⟨u,by simpa using c,b⟩
private theorem Vals.set(r:RelV x u):∀{a:List V}{us:List Value}(i:Nat),Vals a us->Vals (a.set i x) (us.set i u)
 |_,_,_,.nil=>.nil
 |_,_,0,.cons _ t=>.cons r t
 |_,_,i+1,.cons q t=>.cons q (Vals.set r i t)
private theorem Vals.append:∀{b a:List V}{us ws:List Value},Vals b us->Vals a ws->Vals (b++a) (us++ws)
 |_,_,_,_,.nil,s=>s
 |_,_,_,_,.cons r t,s=>.cons r (Vals.append t s)
private theorem Vals.take:∀{a:List V}{us:List Value}(n:Nat),Vals a us->Vals (a.take n) (us.take n)
 |_,_,0,_=>.nil
 |_,_,_+1,.nil=>.nil
 |_,_,n+1,.cons r t=>.cons r (Vals.take n t)
private theorem Vals.drop:∀{a:List V}{us:List Value}(n:Nat),Vals a us->Vals (a.drop n) (us.drop n)
 |_,_,0,r=>r
 |_,_,_+1,.nil=>.nil
 |_,_,n+1,.cons _ t=>Vals.drop n t
def iF:Option V->Option Value->Prop
 |some v,some u=>RelV v u
 |none,none=>True
 |_,_=>False
def KV{a:Type}:List (a×V)->List (a×Value)->Prop:=Paired λ(p:a×V)(q:a×Value)=>p.1=q.1/\RelV p.2 q.2
noncomputable def kV:Key->V
 |.inl i=>.int i
 |.inr x=>.str x
inductive HO where
 |lst (xs:List V)
 |tup (xs:List V)
 |dK (kvs:List (Key×V))|dT (kvs:List (List Key×V))
 |set (S:Int->Bool) (n:Nat)
 |ins (C dx:Addr) (fs:List (Str×V))
 |own (x:Addr)
 |xd (fs:List (Str×V))
 |met (f x:Addr)
 |pT (lo hi:Int)
 |i6 (o:Obj) (u:HO)
 |BJ (l c:Nat) (q:Str)
 |ext (φ:Heap->Prop)
abbrev Hp:=Addr->Option HO
noncomputable def upd(H:Hp)(a:Addr)(o:HO):Hp:=λb=>if b=a then some o else H b
private theorem az:upd H a o a=some o:=by unfold upd;rw[BM rfl]
private theorem ak(h:b≠a):upd H a o b=H b:=by unfold upd;rw[B1 h]
private theorem Iu:upd (upd H a o) a u=upd H a u:=by funext b;unfold upd;split<;>rfl
private theorem Vd{H:Hp}(h:H a=some o)(h':H b=some u)(d:o≠u):a≠b:=by intro e;subst e;rw[h]at h';exact d (Fs h')
private theorem aD{H:Hp}(h:H a=some o)(h':H b=none):a≠b:=by intro e;subst e;rw[h]at h';cases h'
section
variable(P:Program)(w:World)
def bH(H:Hp)(h:Heap)(a:Addr):HO->Prop
 |.lst d=>d.length<=sizeLine/\∃(b:List Value)(n:Nat),Vals d b/\h.get? a=some {cls:=.type "list",data:=.seq b.toArray n}
 |.tup d=>d.length<=sizeLine/\∃b:List Value,Vals d b/\IsTup h a b.toArray
 |.dK kvs=>kvs.length<=sizeLine/\(a==sysModules)=false/\∃vs,KV kvs vs/\h.DictOf (bD P w) a vs
 |.dT kvs=>kvs.length<=sizeLine/\(a==sysModules)=false/\∃d:List (List Key×Addr×Value),
   Paired (λ(p:List Key×V)(q:List Key×Addr×Value)=>p.1=q.1/\H q.2.1=some (.tup (p.1.map kV))/\RelV p.2 q.2.2) kvs d/\
   ∃o es ep,h.get? a=some o/\o.ExactDict/\o.data=.dict es ep/\es.toList=d.map (entryOfKey (tupleKind (bD P w)))/\(d.map (·.1)).Nodup
 |.set S n=>h.SetOf (intKind P w) a S n
 |.ins C i g=>H i=some (.own a)/\g.length<=1000/\i≠a/\h.get? a=some (instObj C i)/\
   ∃e,h.Ns1 i e/\(∀f,iF (g.lookup f) (e f))/\PySem.Within e (g.map (·.1))
 |.own _=>∃o,h.get? a=some o
 |.xd g=>∃e,h.Ns1 a e/\∀f,iF (g.lookup f) (e f)
 |.pT y z=>∃t u v,h.get? a=some {cls:=.type "range",data:=.fields #[.int y t,.int z u,.int 1 v]}
 |.i6 o u=>h.get? a=some o/\bH H h a u
 |.BJ l c q=>h.get? a=some {cls:=.none,data:=.fields #[]}\/∃k m vs t,H k=some (.i6 m (.own 0))/\m.data=.fields vs/\vs[1]?=some (.str q t)/\h.get? a=some {cls:=.none,data:=.fields #[rawInt l,rawInt c,.ref k]}
 |.met f x=>h.get? a=some (methodObj (.ref f) (.ref x))
 |.ext j=>j h/\(∃o,h.get? a=some o)/\∀s r:Heap,j s->(∀o,s.get? a=some o->r.get? a=some o)->j r
def gH(H:Hp)(h:Heap):Prop:=∀a o,H a=some o->bH P w H h a o
end
section
variable{P:Program}{w:World}{H H':Hp}{h h':Heap}{a:Addr}{o:HO}
private theorem bH.lt(x:bH P w H h a o):a<h.objs.size:=by
 cases o with
 |lst d=>obtain⟨_,_,_,_,e⟩:=x;exact FC e
 |tup d=>obtain⟨_,_,_,p⟩:=x;exact p.lt
 |dK b=>obtain⟨_,_,_,_,o,_,_,e,_⟩:=x;exact FC e
 |dT b=>obtain⟨_,_,_,_,o,_,_,e,_⟩:=x;exact FC e
 |set S n=>obtain⟨o,_,_,_,e,_⟩:=x;exact FC e
 |ins C m g=>obtain⟨_,_,_,e,_⟩:=x;exact FC e
 |own y=>obtain⟨_,e⟩:=x;exact FC e
 |xd g=>obtain⟨_,⟨_,_,_,e,_⟩,_⟩:=x;exact FC e
 |pT j k=>obtain⟨_,_,_,e⟩:=x;exact FC e
 |i6 i u=>obtain⟨e,_⟩:=x;exact FC e
 |BJ l c q=>
  rcases(show _\/_ from x)with e|⟨_,_,_,_,_,_,_,e⟩
  .exact FC e
  .exact FC e
 |met f y=>exact FC (show h.get? a=some _ from x)
 |ext φ=>obtain⟨_,⟨_,e⟩,_⟩:=x;exact FC e
private theorem Paired.Oe:∀{d:List α}{c:List e},Paired F d c->(∀a b,F a b->G a b)->Paired G d c
 |_,_,.nil,_=>.nil
 |_,_,.cons r t,f=>.cons (f _ _ r) (Paired.Oe t f)
private theorem bH.stay(x:bH P w H h a o)(k:∀b u,(b=a\/H b=some (.own a))->h.get? b=some u->h'.get? b=some u)
 (O:∀b,H b=some (.own a)->H' b=some (.own a))(N:∀b s,H b=some (.tup s)->H' b=some (.tup s))(Q:∀b g vs,g.data=.fields vs->H b=some (.i6 g (.own 0))->H' b=some (.i6 g (.own 0))):bH P w H' h' a o:=by
 induction o with
 |lst s=>obtain⟨z,m,n,r,e⟩:=x;exact⟨z,m,n,r,k _ _ (.inl rfl) e⟩
 |tup s=>obtain⟨z,m,r,g,e,c⟩:=x;exact⟨z,m,r,g,k _ _ (.inl rfl) e,c⟩
 |dK D=>obtain⟨z,y,vs,r,g,i,j,e,c⟩:=x;exact⟨z,y,vs,r,g,i,j,k _ _ (.inl rfl) e,c⟩
 |dT D=>obtain⟨z,y,s,r,g,i,j,e,c⟩:=x;exact⟨z,y,s,Paired.Oe r λp q z=>⟨z.1,N _ _ z.2.1,z.2.2⟩,g,i,j,k _ _ (.inl rfl) e,c⟩
 |set S n=>obtain⟨g,i,j,t,e,c⟩:=x;exact⟨g,i,j,t,k _ _ (.inl rfl) e,c⟩
 |ins C dx U=>obtain⟨d,z,K,e,B,⟨A,i,j,X,c⟩,r⟩:=x;exact⟨O _ d,z,K,k _ _ (.inl rfl) e,B,⟨A,i,j,k _ _ (.inr d) X,c⟩,r⟩
 |own y=>obtain⟨g,e⟩:=x;exact⟨g,k _ _ (.inl rfl) e⟩
 |xd U=>obtain⟨B,⟨A,i,j,e,c⟩,r⟩:=x;exact⟨B,⟨A,i,j,k _ _ (.inl rfl) e,c⟩,r⟩
 |pT Y Z=>obtain⟨t,u,v,e⟩:=x;exact⟨t,u,v,k _ _ (.inl rfl) e⟩
 |i6 g u M=>obtain⟨e,q⟩:=x;exact⟨k _ _ (.inl rfl) e,M q⟩
 |BJ l c q=>refine Or.imp (λe=>k a _ (.inl rfl) e) ?_ (show _\/_ from x);rintro⟨L,J,vs,I,T,F,R,e⟩;exact⟨L,J,vs,I,Q _ _ _ F T,F,R,k a _ (.inl rfl) e⟩
 |met f y=>have e:h.get? a=some (methodObj (.ref f) (.ref y)):=x;show h'.get? a=some (methodObj (.ref f) (.ref y));exact k a _ (.inl rfl) e
 |ext φ=>obtain⟨p,⟨o,e⟩,E⟩:=x;exact⟨E _ _ p λo q=>k _ _ (.inl rfl) q,⟨o,k _ _ (.inl rfl) e⟩,E⟩
private theorem gH.lt(x:gH P w H h)(e:H a=some o):a<h.objs.size:=(x a o e).lt
private theorem gH.fresh(x:gH P w H h)(e:h.objs.size<=a):H a=none:=by
 cases q:H a with
 |none=>rfl
 |some u=>exact absurd (Bn (x.lt q) e) (PH _)
private theorem gH.kept(x:gH P w H h)(k:∀b u,h.get? b=some u->h'.get? b=some u):gH P w H h':=λa o e=>(x a o e).stay (λb u _ q=>k b u q) (λ_ q=>q) (λ_ _ q=>q) λ_ _ _ _ q=>q
private theorem gH.laid(x:gH P w H h)(k:∀b u,h.get? b=some u->h'.get? b=some u)(i:h.objs.size<=a)(d:bH P w (upd H a o) h' a o):gH P w (upd H a o) h':=λb u e=>by
 have f:=x.fresh i;by_cases g:b=a
 .subst g;rw[az]at e;cases e;exact d
 .rw[ak g]at e;exact(x b u e).stay (λc v _ q=>k c v q) (λc q=>by rw[ak (aD q f)];exact q) (λc j q=>by rw[ak (aD q f)];exact q) λc m l _ q=>by rw[ak (aD q f)];exact q
end
def Rd(H:Hp)(a:Addr)(u:HO):Prop:=H a=some u\/∃o,H a=some (.i6 o u)
private theorem Rd.ok(r:Rd H a u)(x:gH P w H h):bH P w H h a u:=by
 rcases r with r|⟨o,r⟩
 .exact x a u r
 .obtain⟨_,q⟩:=x a _ r;exact q
def Ve:Option HO->Prop
 |some (.lst _)=>True
 |some (.dK _)=>True
 |some (.dT _)=>True
 |some (.set _ _)=>True
 |some (.ins _ _ _)=>True
 |some (.ext _)=>True
 |_=>False
section
variable{P:Program}{w:World}{H:Hp}{h h':Heap}{x e:Addr}{o':HO}
private theorem gH.write(o:gH P w H h)(a:Ve (H x))(he:e=x\/H e=some (.own x))(k:∀b u,b≠e->h.get? b=some u->h'.get? b=some u)(A:∃u,h'.get? e=some u)
 (l:bH P w (upd H x o') h' x o'):gH P w (upd H x o') h':=λb u q=>by
 have n:∀c y,H c=some (.own y)->c≠x:=λc y r z=>by subst z;rw[r]at a;exact a
 have t:∀c d,H c=some (.tup d)->c≠x:=λc d r z=>by subst z;rw[r]at a;exact a
 have s:∀c f,H c=some (.i6 f (.own 0))->c≠x:=λc f r z=>by subst z;rw[r]at a;exact a
 by_cases i:b=x
 .subst i;rw[az]at q;cases q;exact l
 .rw[ak i]at q;by_cases j:b=e
  .have m:H b=some (.own x):=by
    rcases he with z|z
    .exact absurd (j.trans z) i
    .rw[j];exact z
   rw[q]at m;cases m;obtain⟨v,p⟩:=A;exact⟨v,by rw[j];exact p⟩
  .refine(o b u q).stay (λc v g r=>k c v ?_ r) (λc r=>by rw[ak (n c b r)];exact r) (λc d r=>by rw[ak (t c d r)];exact r) λc f B _ r=>by rw[ak (s c f r)];exact r
   rcases g with rfl|g
   .exact j
   .rintro rfl;rcases he with z|z
    .exact n c b g z
    .rw[g]at z;cases z;exact i rfl
end
structure Un(fs ex:List Addr)(H H':Hp)(h h':Heap):Prop where
 keep:∀b o,h.get? b=some o->H b=none->b∉fs->b∉ex->h'.get? b=some o
 slot:∀b o,h.get? b=some o->H b=none->b∈fs->b∉ex->∃sl,h'.get? b=some {o with slots:=sl}
 free:∀b o,h.get? b=some o->H b=none->b∉ex->H' b=none
 there:∀b o,h.get? b=some o->b∉ex->∃o',h'.get? b=some o'
 tups:∀b xs,H b=some (.tup xs)->H' b=some (.tup xs)
 gk:∀b o u,H b=some (.i6 o u)->H' b=some (.i6 o u)
 gQ:∀b l c q,H b=some (.BJ l c q)->H' b=some (.BJ l c q)
section
variable{fs fs' ex ex':List Addr}{H H1 H2:Hp}{h h1 h2 h':Heap}{a x e:Addr}{o:HO}
private theorem Un.any(u:Un fs ex H H1 h h1)(q:h.get? b=some c)(n:H b=none)(d:b∉ex):∃g,h1.get? b=some {c with slots:=g}:=by
 by_cases f:b∈fs
 .exact u.slot b c q n f d
 .exact⟨c.slots,u.keep b c q n f d⟩
private theorem Un.kept(k:∀b u,h.get? b=some u->h'.get? b=some u):Un fs ex H H h h':=
 ⟨λb c q _ _ _=>k b c q,λb c q _ _ _=>⟨c.slots,k b c q⟩,λ_ _ _ n _=>n,λb c q _=>⟨c,k b c q⟩,λ_ _ q=>q,λ_ _ _ q=>q,λ_ _ _ _ q=>q⟩
private theorem Un.refl:Un fs ex H H h h:=Un.kept λ_ _ q=>q
private theorem Un.laid(k:∀b u,h.get? b=some u->h'.get? b=some u)(g:h.objs.size<=a)(d:H a=none):Un fs ex H (upd H a o) h h' where
 keep:=λb u q _ _ _=>k b u q
 slot:=λb u q _ _ _=>⟨u.slots,k b u q⟩
 free:=λb u q n _=>by rw[ak (Hk (Bn (FC q) g))];exact n
 there:=λb u q _=>⟨u,k b u q⟩
 tups:=λb f q=>by rw[ak (aD q d)];exact q
 gk:=λb u f q=>by rw[ak (aD q d)];exact q
 gQ:=λb l c q z=>by rw[ak (aD z d)];exact z
private theorem Un.write(d:Ve (H x))(he:e=x\/H e=some (.own x))(k:∀b u,b≠e->h.get? b=some u->h'.get? b=some u)(s:∃u,h'.get? e=some u):Un fs ex H (upd H x o) h h':=by
 have g:∀b,H b=none->b≠x:=λb n z=>by subst z;rw[n]at d;exact d
 have i:∀b,H b=none->b≠e:=λb n z=>by
  subst z;rcases he with r|r
  .exact g b n r
  .rw[n]at r;cases r
 have f:∀b u,H b=some u->¬Ve (some u)->b≠x:=λb u q p z=>by subst z;rw[q]at d;exact p d
 refine⟨λb u q n _ _=>k b u (i b n) q,λb u q n _ _=>⟨u.slots,k b u (i b n) q⟩,λb u q n _=>by rw[ak (g b n)];exact n,λb u q _=>?_,
  λb m q=>by rw[ak (f b _ q λz=>z)];exact q,λb u m q=>by rw[ak (f b _ q λz=>z)];exact q,λb l c q z=>by rw[ak (f b _ z λy=>y)];exact z⟩
 by_cases j:b=e
 .subst j;exact s
 .exact⟨u,k b u j q⟩
end
noncomputable def Yc(h:Heap)(H:Hp):List Addr:=(G2 h.objs.size).filter λa=>(H a).isSome
noncomputable def uH(h:Heap)(H:Hp):Heap:=PySem.W.hideAll h (Yc h H)
private theorem BK(h:Heap)(H:Hp):(uH h H).objs.size=h.objs.size:=PySem.W.hideAll_size _ _
private theorem DQ(e:h.get? b=some o)(n:H b=none):(uH h H).get? b=some o:=
 hideAll_get _ e λa=>by have q:(H b).isSome=true:=(P2.mp a).2;rw[n]at q;simp at q
private theorem Iv(e:(uH h H).get? b=some o):h.get? b=some o/\H b=none:=by
 have a:h.get? b=some o:=PySem.W.of_hideAll (Yc h H) e;refine⟨a,?_⟩;cases q:H b with
 |none=>rfl
 |some x=>have c:b∈Yc h H:=P2.mpr ⟨eD.mpr (FC a),by simp[q]⟩;have z:(uH h H).get? b=none:=PySem.W.hideAll_none (Yc h H) c;rw[z]at e;cases e
noncomputable def Iw(g h:Heap)(L:Addr):List (Addr×Obj):=(G2 h.objs.size).filterMap λa=>if a=L\/(g.get? a).isSome=true then none else(h.get? a).map λo=>(a,o)
noncomputable def rest(g h:Heap)(L d:Addr):List (Addr×Obj):=(Iw g h L).filter λp=>decide (p.1≠d)
noncomputable def uI(c P:Addr)(q:Str):List Stmt->List (Addr×Addr×Nat×Nat×Str)
 |.FunctionDef n _ _ _ _ _ _ _ _ pos::r=>(c,P,pos.line,pos.col,q++".<locals>."++n)::uI c P q r
 |_::r=>uI c P q r
 |[]=>[]
noncomputable def tabAt(K:Frag)(c:Addr):Option Addr:=match K.lookup c with
 |some ⟨_,_,.fields a,_⟩=>(match(a[11]?:Option Value)with
  |some (.ref P)=>some P
  |_=>none)
 |_=>none
noncomputable def tabOf(K:Frag)(o:Obj):List (Addr×Addr×Nat×Nat×Str):=match o.data with
 |.func ⟨_,q,_,.stmts b,_,_,_,_,_,_,_,_,.ref c,_,_⟩=>(match tabAt K c with
  |some P=>uI c P q b
  |none=>[])
 |_=>[]
noncomputable def tabs(K:Frag):List (Addr×Addr×Nat×Nat×Str):=K.flatMap λp=>tabOf K p.2
def z8(K:Frag)(H:Hp):Prop:=∀x∈tabs K,codeHdIn K x.1 x.2.1=true/\H x.2.1=some (.BJ x.2.2.1 x.2.2.2.1 x.2.2.2.2)
structure Mod(K:Frag)(mg:Str->Option Value)(base:Heap):Prop where
 DR:K.In base
 glob:base.Ns mainGlobals mg
 blt:∃mb,base.Ns builtinsNs mb/\∀x:Str,x≠"__name__"->mb x=bootBuiltins x
 nolimit:base.NoLimit
 seer:base.NoSeer
 bmod:∃bm ob,mg "__builtins__"=some (.ref bm)/\bm≠builtinsNs/\base.get? bm=some ob/\ob.cls=.type "module"/\ob.dict=some builtinsNs/\ob.data=.plain
set_option genInjectivity false in
set_option genSizeOf false in
structure Cx where
 prog:Program
 w:World
 K:Frag
 mg:Str->Option Value
 base:Heap
 A:Around
 N:List Str
 s₀:Shared
 H₀:Hp
 env:Env
 outer:List Env
 stack:List Env
 ex:List Addr
 fn:Str->Bool
 calm:Bool
 pn:List (Addr×Obj)
 xe:Value->Shared->Prop
noncomputable def frs(l:List Env):List Addr:=l.filterMap (·.frame)
abbrev Cx.fs(X:Cx):List Addr:=frs X.outer
def Vg(sc:Scope)(x:Str):Prop:=sc.names.lookup x=some .local\/sc.names.lookup x=some .cell\/sc.names.lookup x=some .free
def Loc(sc:Scope)(x:Str):Prop:=sc.names.lookup x=some .local\/sc.names.lookup x=some .cell
def Look(env:Env)(h:Heap)(m:Str->Option Value)(x:Str)(u:Value):Prop:=
 (env.kindOf x=some .local/\m x=some u)\/((env.kindOf x=some .cell\/env.kindOf x=some .free)/\∃c,env.cells.lookup x=some c/\h.IsCell c (some u))
structure Cx.Ok(X:Cx):Prop where
 mod:Mod X.K X.mg X.base
 kind:X.env.scope.kind=.function
 glob:X.env.globals=mainGlobals
 blt:X.env.builtins=builtinsNs
 above:X.s₀.heap.objs.size<=X.env.locals
 inj:∀x y c,X.env.cells.lookup x=some c->X.env.cells.lookup y=some c->x=y
 has:∀x,(X.env.kindOf x=some .cell\/X.env.kindOf x=some .free)->∃c,X.env.cells.lookup x=some c
 Og:∀x c,X.fn x=true->X.env.cells.lookup x=some c->X.s₀.heap.objs.size<=c
 hd:X.calm=true->X.A.handled=none
 frames:X.A.frames=some X.stack
 stk:X.stack=X.outer\/(X.stack=X.env::X.outer/\X.env.frame=some X.env.locals)
 Yd:∀b∈X.ex,b≠X.env.locals/\∀x c,X.env.cells.lookup x=some c->c≠b
 bs:∀b o,X.base.get? b=some o->X.s₀.heap.get? b=some o/\X.H₀ b=none
 BL:X.base.objs.size<=X.s₀.heap.objs.size
 BN:∀b o,X.base.get? b=some o->b∉X.ex
 BO:∀b∈X.ex,b∉X.fs
 j3:X.s₀.heap.FunFrames X.base X.outer
 Dv:∀b∈X.fs,X.H₀ b=none
 tree:X.prog.given.tree=none
 Vh:∀(A:Around)(s:Shared),A.frames=X.A.frames->A.depth=X.A.depth->(∀b o,X.base.get? b=some o->s.heap.get? b=some o)->PylongRoom (model X.prog X.w) A s
 tab:z8 X.K X.H₀
structure Inv(X:Cx)(pins:List (Addr×Obj))(σ:List (Option V))(H:Hp)(s:Shared):Prop where
 ok:X.Ok
 os:s.os=X.s₀.os
 bare:AllBare s.gens
 base:Un X.fs X.ex X.H₀ H X.s₀.heap s.heap
 loc:∃m,s.heap.Ns X.env.locals m/\∀(i:Nat)(x:Str)(v:V),X.N[i]?=some x->σ[i]?=some (some v)->Vg X.env.scope x->∃u,RelV v u/\Look X.env s.heap m x u
 cell:∀x c,X.env.cells.lookup x=some c->∃v,s.heap.IsCell c v
 free:H X.env.locals=none
 dW:∀x c,X.env.cells.lookup x=some c->H c=none
 pin:∀p∈X.pn++pins,s.heap.get? p.1=some p.2/\H p.1=none/\p.1≠X.env.locals/\p.1∉X.fs/\∀v,p.2.data≠.cell v
 hok:gH X.prog X.w H s.heap
 len:σ.length=X.N.length
section
variable{X:Cx}{pins:List (Addr×Obj)}{σ:List (Option V)}{H H':Hp}{s:Shared}{h':Heap}
private theorem Cx.Ok.BP(a:X.Ok)(e:X.base.get? b=some o):b∉X.fs:=λc=>by have:=(a.j3.mem c).1;rw[e]at this;cases this
private theorem Inv.bs(I:Inv X pins σ H s):∀b o,X.base.get? b=some o->s.heap.get? b=some o/\H b=none:=λb o e=>⟨I.base.keep b o (I.ok.bs b o e).1 (I.ok.bs b o e).2 (I.ok.BP e) (I.ok.BN b o e),I.base.free b o (I.ok.bs b o e).1 (I.ok.bs b o e).2 (I.ok.BN b o e)⟩
private theorem Inv.tab(I:Inv X pins σ H s):z8 X.K H:=λx a=>⟨(I.ok.tab x a).1,I.base.gQ _ _ _ _ (I.ok.tab x a).2⟩
private theorem Inv.bk(I:Inv X pins σ H s):∀b o,X.base.get? b=some o->s.heap.get? b=some o:=λb o e=>(I.bs b o e).1
private theorem Inv.mod(I:Inv X pins σ H s):Mod X.K X.mg X.base:=I.ok.mod
private theorem Inv.jh(I:Inv X pins σ H s):X.K.In s.heap:=I.ok.mod.DR.keeps I.bk
private theorem Inv.lt(I:Inv X pins σ H s):X.env.locals<s.heap.objs.size:=let⟨_,hn,_⟩:=I.loc;hn.lt
private theorem Inv.sz(I:Inv X pins σ H s):X.s₀.heap.objs.size<=s.heap.objs.size:=FV I.ok.above (SF I.lt)
private theorem Inv.YY(I:Inv X pins σ H s){a:Addr}(h:s.heap.objs.size<=a):a∉X.fs:=λc=>by obtain⟨_,o,b,_⟩:=I.ok.j3.mem c;exact absurd (Bn (FC b) (FV I.sz h)) (PH _)
private theorem Inv.Dw(I:Inv X pins σ H s):∀x c,X.env.cells.lookup x=some c->c≠X.env.locals:=λx c e z=>by obtain⟨v,o,d,hd⟩:=I.cell x c e;obtain⟨m,⟨f,g,h,a,b,_⟩,_⟩:=I.loc;rw[z,a]at d;cases d;rw[b]at hd;cases hd
private theorem Inv.j3(I:Inv X pins σ H s):s.heap.FunFrames X.base X.outer:=by
 have f:∀(l:List Env),(∀b∈frs l,b∈X.fs)->X.s₀.heap.FunFrames X.base l->s.heap.FunFrames X.base l:=by
  intro l
  induction l with
  |nil=>intro _ _;trivial
  |cons env r h=>intro g m;obtain⟨n,⟨L,o,a,k,j,hd⟩,i⟩:=m;have d:L∈X.fs:=g L (by unfold frs;rw[Mu,a];exact Ap);obtain⟨p,e⟩:=I.base.slot L o j (I.ok.Dv L d) d λz=>I.ok.BO L z d;exact⟨n,⟨L,_,a,k,e,hd⟩,h (λb c=>g b (by unfold frs;rw[Mu,a];exact AS _ c)) i⟩
 exact f X.outer (λ_ c=>c) I.ok.j3
private theorem Inv.stack(I:Inv X pins σ H s):s.heap.FunFrames X.base X.stack:=by
 rcases I.ok.stk with e|⟨e,b⟩
 .rw[e];exact I.j3
 .rw[e];obtain⟨m,a,_⟩:=I.loc;refine .cons (by rw[I.ok.kind];decide) b a ?_ I.j3;exact Heap.get?_none_of_le (FV I.ok.BL I.ok.above)
private theorem Inv.uJ(I:Inv X pins σ H s):∀b∈frs X.stack,b∈X.env.locals::X.fs:=λb a=>by
 rcases I.ok.stk with e|⟨e,c⟩
 .rw[e]at a;exact AS _ a
 .rw[e]at a;unfold frs at a;rw[Mu,c]at a;exact a
private theorem Inv.jO(I:Inv X pins σ H s):∀b∈frs X.stack,H b=none:=λb a=>by
 rcases Do.mp (I.uJ b a)with e|a
 .rw[e];exact I.free
 .obtain⟨_,o,c,_⟩:=I.ok.j3.mem a;exact I.base.free b o c (I.ok.Dv b a) λz=>I.ok.BO b z a
private theorem Inv.step{ch:List Addr}(I:Inv X pins σ H s)
 (f:∀b∈ch,(b∈X.ex\/X.s₀.heap.objs.size<=b)/\b≠X.env.locals/\(∀x c,X.env.cells.lookup x=some c->c≠b)/\∀p∈X.pn++pins,p.1≠b)
 (keep:∀b o,b≠X.env.locals->b∉X.fs->b∉ch->s.heap.get? b=some o->H b=none->h'.get? b=some o)
 (slot:∀b o,b≠X.env.locals->b∈X.fs->b∉ch->s.heap.get? b=some o->H b=none->∃F,h'.get? b=some {o with slots:=F})(free:∀b o,b∉ch->s.heap.get? b=some o->H b=none->H' b=none)
 (there:∀b o,b∉ch->s.heap.get? b=some o->∃A,h'.get? b=some A)
 (tups:∀b h,H b=some (.tup h)->H' b=some (.tup h))(gk:∀b o u,H b=some (.i6 o u)->H' b=some (.i6 o u))(gQ:∀b l c q,H b=some (.BJ l c q)->H' b=some (.BJ l c q))
 (P:∀m,s.heap.Ns X.env.locals m->h'.Ns X.env.locals m)(J:gH X.prog X.w H' h')(S:AllBare g'):
 Inv X pins σ H' {s with heap:=h',gens:=g',drawn:=d',toks:=t'}:=by
 have B:∀b o,X.s₀.heap.get? b=some o->b≠X.env.locals:=λb o e=>Hk (Bn (FC e) I.ok.above);have D:∀b o,X.s₀.heap.get? b=some o->b∉X.ex->b∉ch:=λb o e a j=>by
  rcases(f b j).1 with z|z
  .exact a z
  .exact absurd (Bn (FC e) z) (PH _)
 have g:∀x c,X.env.cells.lookup x=some c->∀v,s.heap.IsCell c v->h'.IsCell c v:=λx c e v ⟨o,y,hd⟩=>by
  have C:c∉ch:=λz=>(f c z).2.2.1 x c e rfl;by_cases O:c∈X.fs
  .obtain⟨F,q⟩:=slot c o (I.Dw x c e) O C y (I.dW x c e);exact⟨_,q,hd⟩
  .exact⟨o,keep c o (I.Dw x c e) O C y (I.dW x c e),hd⟩
 refine⟨I.ok,I.os,S,⟨λb o e n j a=>?_,λb o e n j a=>?_,λb o e n a=>?_,λb o e a=>?_,λb h e=>tups b h (I.base.tups b h e),λb o h e=>gk b o h (I.base.gk b o h e),λb l c q e=>gQ b l c q (I.base.gQ b l c q e)⟩,?_,λx c e=>?_,?_,λx c e=>?_,λp N=>?_,J,I.len⟩
 .exact keep b o (B b o e) j (D b o e a) (I.base.keep b o e n j a) (I.base.free b o e n a)
 .obtain⟨F,t⟩:=I.base.slot b o e n j a;obtain⟨E,K⟩:=slot b _ (B b o e) j (D b o e a) t (I.base.free b o e n a);exact⟨E,K⟩
 .obtain⟨A,t⟩:=I.base.there b o e a;exact free b A (D b o e a) t (I.base.free b o e n a)
 .obtain⟨A,t⟩:=I.base.there b o e a;exact there b A (D b o e a) t
 .obtain⟨m,Q,R⟩:=I.loc;refine⟨m,P m Q,λi x v t K T=>?_⟩;obtain⟨u,r,l⟩:=R i x v t K T;refine⟨u,r,?_⟩;rcases l with l|⟨k,c,e,z⟩
  .exact .inl l
  .exact .inr ⟨k,c,e,g x c e _ z⟩
 .obtain⟨v,z⟩:=I.cell x c e;exact⟨v,g x c e v z⟩
 .obtain⟨m,⟨o,_,_,y,_⟩,_⟩:=I.loc;exact free _ o (λz=>(f _ z).2.1 rfl) y I.free
 .obtain⟨v,o,y,hd⟩:=I.cell x c e;exact free c o (λz=>(f c z).2.2.1 x c e rfl) y (I.dW x c e)
 .obtain⟨e,n,M,L,d⟩:=I.pin p N;have C:p.1∉ch:=λz=>(f p.1 z).2.2.2 p N rfl;exact⟨keep p.1 p.2 M L C e n,free p.1 p.2 C e n,M,L,d⟩
private theorem Inv.un(I:Inv X pins σ H s)(u:Un X.fs [] H H' s.heap h')(c:gH X.prog X.w H' h'):Inv X pins σ H' {s with heap:=h',toks:=t'}:=by obtain⟨m,⟨o,t,v,g,r⟩,_⟩:=id I.loc;obtain⟨l,j⟩:=u.any g I.free (by simp);exact I.step (g':=s.gens) (d':=s.drawn) (ch:=[]) (λ_ z=>nomatch z) (λb o _ d _ e n=>u.keep b o e n d (by simp)) (λb o _ d _ e n=>u.slot b o e n d (by simp)) (λb o _ e n=>u.free b o e n (by simp)) (λb o _ e=>u.there b o e (by simp)) u.tups u.gk u.gQ (λq i=>by obtain⟨p,f,k,a,h⟩:=i;rw[g]at a;cases a;exact⟨_,f,k,j,h⟩) c I.bare
private theorem Inv.call(I:Inv X pins σ H s)(u:Un (frs X.stack) ch H H' s.heap h')(g:gH X.prog X.w H' h')(q:AllBare g')
 (f:∀b∈ch,(b∈X.ex\/X.s₀.heap.objs.size<=b)/\b≠X.env.locals/\(∀x c,X.env.cells.lookup x=some c->c≠b)/\∀p∈X.pn++pins,p.1≠b):
 Inv X pins σ H' {s with heap:=h',gens:=g',drawn:=d',toks:=t'}:=by
 obtain⟨m,⟨o,C,D,j,r⟩,_⟩:=id I.loc;obtain⟨y,h⟩:=u.any j I.free λz=>(f _ z).2.1 rfl;exact I.step (ch:=ch) f (λb o h t a e n=>u.keep b o e n (λz=>(Do.mp (I.uJ b z)).elim h t) a) (λb o _ _ a e n=>u.any e n a) (λb o a e n=>u.free b o e n a) (λb o a e=>u.there b o e a) u.tups u.gk u.gQ (λB l=>by obtain⟨A,i,v,d,k⟩:=l;rw[j]at d;cases d;exact⟨_,i,v,h,k⟩) g q
private theorem Inv.turned(I:Inv X pins σ H s)(k:∀b o,b≠a->s.heap.get? b=some o->h'.get? b=some o)(i:H a=none)(g:a≠X.env.locals)
 (y:a∈X.ex\/X.s₀.heap.objs.size<=a)(w:∀x c,X.env.cells.lookup x=some c->c≠a)(t:∀p∈X.pn++pins,p.1≠a):Inv X pins σ H {s with heap:=h',toks:=t'}:=by
 have f:∀b u,H b=some u->b≠a:=λb u e z=>by rw[z,i]at e;cases e
 refine I.step (g':=s.gens) (d':=s.drawn) (ch:=[a]) (λb l=>?_) (λb o _ _ d e _=>k b o (λz=>d (by simp[z])) e) (λb o _ _ d e _=>⟨o.slots,k b o (λz=>d (by simp[z])) e⟩) (λ_ _ _ _ n=>n)
  (λb o d e=>⟨o,k b o (λz=>d (by simp[z])) e⟩) (λ_ _ e=>e) (λ_ _ _ e=>e) (λ_ _ _ _ e=>e) (λm j=>?_) (λb u e=>?_) I.bare
 .have e:b=a:=by simpa using l
  subst e;exact⟨y,g,w,t⟩
 .obtain⟨o,A,B,h,r⟩:=j;exact⟨o,A,B,k _ o (Oy g) h,r⟩
 .refine(I.hok b u e).stay (λc v d q=>k c v ?_ q) (λ_ q=>q) (λ_ _ q=>q) λ_ _ _ _ q=>q;rcases d with z|z
  .rw[z];exact f b u e
  .exact f c _ z
private theorem Inv.tok(I:Inv X pins σ H s)(t:Nat):Inv X pins σ H {s with toks:=t}:=I.un (h':=s.heap) (t':=t) Un.refl I.hok
private theorem Inv.kept(I:Inv X pins σ H s)(k:∀b u,s.heap.get? b=some u->h'.get? b=some u):Inv X pins σ H {s with heap:=h',toks:=t'}:=I.un (Un.kept k) (I.hok.kept k)
private theorem Inv.laid{a:Addr}(I:Inv X pins σ H s)(k:∀b u,s.heap.get? b=some u->h'.get? b=some u)(d:s.heap.objs.size<=a)(c:bH X.prog X.w (upd H a o) h' a o):
 Inv X pins σ (upd H a o) {s with heap:=h',toks:=t'}:=I.un (Un.laid k d (I.hok.fresh d)) (I.hok.laid k d c)
private theorem Inv.write(I:Inv X pins σ H s)(c:Ve (H x))(he:e=x\/H e=some (.own x))(k:∀b u,b≠e->s.heap.get? b=some u->h'.get? b=some u)(d:∃u,h'.get? e=some u)
 (a:bH X.prog X.w (upd H x o) h' x o):Inv X pins σ (upd H x o) {s with heap:=h',toks:=t'}:=I.un (Un.write c he k d) (I.hok.write c he k d a)
private theorem Inv.z9(I:Inv X pins σ H s)(h:∀p∈a,s.heap.get? p.1=some p.2/\H p.1=none/\p.1≠X.env.locals/\p.1∉X.fs/\∀v,p.2.data≠.cell v):Inv X a σ H s:=
 ⟨I.ok,I.os,I.bare,I.base,I.loc,I.cell,I.free,I.dW,λp b=>(Fu.mp b).elim (λz=>I.pin p (IT _ z)) (h p),I.hok,I.len⟩
private theorem pU{N:List Str}(c:N.Nodup){i j:Nat}(a:N[i]?=some x)(b:N[j]?=some x):i=j:=by obtain⟨g,e⟩:=Fk.mp a;obtain⟨f,d⟩:=Fk.mp b;exact(List.getElem_inj c).mp (e.trans d.symm)
private theorem dA(h:True:=by rfl):True:=h
private theorem dB(h:True:=by decide):True:=h
private theorem dC(h:True:=by intro _;rfl):True:=h
private theorem dD(h:True:=by first|exact .inl rfl|exact .inr rfl|assumption):True:=h
private theorem tO(I:Inv X pins σ H s)(hN:X.N.Nodup)(P:X.N[i]?=some x)(B:Loc X.env.scope x)(r:RelV v u)
 (h:∀s',Inv X pins (σ.set i (some v)) H s'->(∃a,Heap.SameBut a s.heap s'.heap/\(a=X.env.locals\/X.env.cells.lookup x=some a))->Q () s')(hf:autoParam (X.fn x=true\/X.env.scope.names.lookup x=some .local) dD._auto_1):wpAny M A (storeName X.env x u) Q E s:=by
 obtain⟨m,hn,hl⟩:=id I.loc;have R:(X.env.scope.kind==.class||(X.env.scope.kind==.module&&X.env.locals !=X.env.globals))=false:=by rw[I.ok.kind];rfl
 have Iz:i<σ.length:=by rw[I.len];exact(Fk.mp P).1
 have Dw:=I.Dw;have g:∀{a:Addr}{h':Heap},(∃o,s.heap.get? a=some o/\H a=none)->Heap.SameBut a s.heap h'->gH X.prog X.w H h':=λ{a h'} ha f b ob e=>by
  obtain⟨_,_,C⟩:=ha;refine(I.hok b ob e).stay (λc U t q=>(f.2 c ?_).trans q) (λ_ q=>q) (λ_ _ q=>q) λ_ _ _ _ q=>q;rintro rfl;rcases t with rfl|t
  .rw[C]at e;cases e
  .rw[C]at t;cases t
 rcases B with F|F
 .refine wpAny_storeName_local F hn (λh' hn' f=>?_) R;obtain⟨oL,_,_,hoL,_⟩:=id hn;refine h _ ⟨I.ok,I.os,I.bare,⟨λb o e n L B=>?_,λb o e n L B=>?_,I.base.free,λb o e B=>?_,I.base.tups,I.base.gk,I.base.gQ⟩,⟨_,hn',λj y v' l D e3=>?_⟩,λy c e=>?_,I.free,I.dW,λp hp=>?_,g ⟨oL,hoL,I.free⟩ f,by simpa using I.len⟩ ⟨_,f,.inl rfl⟩
  .exact(f.2 b (Hk (Bn (FC e) I.ok.above))).trans (I.base.keep b o e n L B)
  .obtain⟨sl,l⟩:=I.base.slot b o e n L B;exact⟨sl,(f.2 b (Hk (Bn (FC e) I.ok.above))).trans l⟩
  .obtain⟨o',l⟩:=I.base.there b o e B;exact⟨o',(f.2 b (Hk (Bn (FC e) I.ok.above))).trans l⟩
  .by_cases J:j=i
   .subst J;rw[P]at l;cases l;rw[N0 Iz]at D;cases D;exact⟨u,r,.inl ⟨F,by simp⟩⟩
   .rw[Iy (Oy J)]at D;obtain⟨u',r',q⟩:=hl j y v' l D e3;refine⟨u',r',?_⟩;rcases q with⟨k,e⟩|⟨k,c,e,z⟩
    .refine .inl ⟨k,?_⟩;have:y≠x:=λe=>J (pU hN l (e▸P));simp[this,e]
    .exact .inr ⟨k,c,e,z.sameBut f (Dw y c e)⟩
  .obtain⟨U,z⟩:=I.cell y c e;exact⟨U,z.sameBut f (Dw y c e)⟩
  .obtain⟨e,n,Y,nf,d⟩:=I.pin p hp;exact⟨(f.2 p.1 Y).trans e,n,Y,nf,d⟩
 .have K:X.fn x=true:=by
   rcases hf with z|z
   .exact z
   .rw[z]at F;cases F
  obtain⟨c,t⟩:=I.ok.has x (.inl F);obtain⟨U,z⟩:=I.cell x c t;refine wpAny_storeName_cell I.ok.kind F t z (λh' T f=>?_);obtain⟨oc,O,Y0⟩:=id z;refine h {s with heap:=h'} ⟨I.ok,I.os,I.bare,⟨λb o e n L B=>?_,λb o e n L B=>?_,I.base.free,λb o e B=>?_,I.base.tups,I.base.gk,I.base.gQ⟩,⟨m,hn.sameBut f (Oy (Dw x c t)),λj y v' l D e3=>?_⟩,λy Z e=>?_,I.free,I.dW,λp hp=>?_,g ⟨oc,O,I.dW x c t⟩ f,by simpa using I.len⟩ ⟨c,f,.inr t⟩
  .exact(f.2 b (Hk (Bn (FC e) (I.ok.Og x c K t)))).trans (I.base.keep b o e n L B)
  .obtain⟨sl,l⟩:=I.base.slot b o e n L B;exact⟨sl,(f.2 b (Hk (Bn (FC e) (I.ok.Og x c K t)))).trans l⟩
  .obtain⟨o',l⟩:=I.base.there b o e B;exact⟨o',(f.2 b (Hk (Bn (FC e) (I.ok.Og x c K t)))).trans l⟩
  .by_cases J:j=i
   .subst J;rw[P]at l;cases l;rw[N0 Iz]at D;cases D;exact⟨u,r,.inr ⟨.inl F,c,t,T⟩⟩
   .rw[Iy (Oy J)]at D;obtain⟨u',r',q⟩:=hl j y v' l D e3;refine⟨u',r',?_⟩;rcases q with q|⟨k,Z,e,z'⟩
    .exact .inl q
    .refine .inr ⟨k,Z,e,z'.sameBut f ?_⟩;rintro rfl;exact J (pU hN l (I.ok.inj _ _ _ e t▸P))
  .by_cases S:Z=c
   .subst S;exact⟨_,T⟩
   .obtain⟨w2,z2⟩:=I.cell y Z e;exact⟨w2,z2.sameBut f S⟩
  .obtain⟨e,n,Y,nf,d⟩:=I.pin p hp;refine⟨(f.2 p.1 ?_).trans e,n,Y,nf,d⟩;intro q;rw[q,O]at e;have q':oc=p.2:=Fs e;exact d U (by rw[<-q'];exact Y0)
private theorem eL(I:Inv X pins σ H s)(d:X.N.Nodup)(b:X.N[i]?=some x)(a:Loc X.env.scope x)(r:RelV v u)
 (h:∀s',Inv X pins (σ.set i (some v)) H s'->Q () s')(c:autoParam (X.fn x=true\/X.env.scope.names.lookup x=some .local) dD._auto_1):wpAny M A (storeName X.env x u) Q E s:=
 tO I d b a r (λs' e _=>h s' e) c
private theorem Inv.DS(I:Inv X pins σ H s)(g:s'.os=s.os)(u:Un (frs X.stack) ch H H' s.heap s'.heap)(a:gH X.prog X.w H' s'.heap)(h:AllBare s'.gens)
 (d:∀b∈ch,(b∈X.ex\/X.s₀.heap.objs.size<=b)/\b≠X.env.locals/\(∀x c,X.env.cells.lookup x=some c->c≠b)/\∀p∈X.pn++pins,p.1≠b):Inv X pins σ H' s':=by
 obtain⟨h',g',d',t',f⟩:=s';have e:f=s.os:=g;subst e;exact I.call (g':=g') (t':=t') (d':=d') u a h d
end
abbrev XK:=Value->Option Addr->Hp->Prop
abbrev St:=List (Option V)
abbrev VK:=V->Hp->Prop
abbrev TE:=St->Hp->VK->Prop
abbrev TT:=St->Hp->(Bool->Hp->Prop)->Prop
abbrev TA:=St->Hp->(List V->Hp->Prop)->Prop
set_option genInjectivity false in
set_option genSizeOf false in
structure Ends where
 nx:St->Hp->Prop
 rt:VK
 bk:St->Hp->Prop:=λ_ _=>False
 ct:St->Hp->Prop:=λ_ _=>False
abbrev TS:=Ends->St->Hp->Prop
def EP(X:Cx)(a:List (Addr×Obj))(c:St)(Q:VK)(u:Value)(s':Shared):Prop:=∃v b,Inv X a c b s'/\RelV v u/\Q v b
def TP(X:Cx)(a:List (Addr×Obj))(d:St)(Q:Bool->Hp->Prop)(b:Bool)(s':Shared):Prop:=∃c,Inv X a d c s'/\Q b c
def AP(X:Cx)(a:List (Addr×Obj))(d:St)(Q:List V->Hp->Prop)(us:List Value)(s':Shared):Prop:=∃b c,Inv X a d c s'/\Vals b us/\Q b c
def SP(X:Cx)(b:List (Addr×Obj))(D:Ends)(f:Flow)(s':Shared):Prop:=
 match f with
 |.next=>∃a c,Inv X b a c s'/\D.nx a c
 |.brk=>∃a c,Inv X b a c s'/\D.bk a c
 |.cont=>∃a c,Inv X b a c s'/\D.ct a c
 |.ret u=>∃v a c,Inv X b a c s'/\RelV v u/\D.rt v c
def PE(X:Cx)(e:Expr)(t:TE):Prop:=
 ∀(a:List (Addr×Obj))(s:Shared)(b:St)(H:Hp)(Q:VK),Inv X a b H s->t b H Q->wpAny (model X.prog X.w) X.A (eval e X.env) (EP X a b Q) X.xe s
def PT(X:Cx)(e:Expr)(t:TT):Prop:=
 ∀(a:List (Addr×Obj))(s:Shared)(b:St)(H:Hp)(Q:Bool->Hp->Prop),Inv X a b H s->t b H Q->wpAny (model X.prog X.w) X.A (isTrue e X.env (eval e X.env)) (TP X a b Q) X.xe s
def PW(X:Cx)(e:Expr)(t:TT):Prop:=
 ∀(b:Sem Value)(a:List (Addr×Obj))(s:Shared)(c:St)(H:Hp)(Q:Bool->Hp->Prop),Inv X a c H s->t c H Q->wpAny (model X.prog X.w) X.A (isTrue e X.env b) (TP X a c Q) X.xe s
private theorem PW.pt(h:PW X e t):PT X e t:=h _
def PA(X:Cx)(es:List Expr)(t:TA):Prop:=
 ∀(c:Pos)(a:List (Addr×Obj))(s:Shared)(b:St)(H:Hp)(Q:List V->Hp->Prop),Inv X a b H s->t b H Q->wpAny (model X.prog X.w) X.A (spliced (backTo c (starEach es X.env))) (AP X a b Q) X.xe s
def PS(X:Cx)(st:Stmt)(t:TS):Prop:=
 ∀(a:List (Addr×Obj))(s:Shared)(b:St)(H:Hp)(D:Ends),Inv X a b H s->t D b H->wpAny (model X.prog X.w) X.A (exec st X.env) (SP X a D) X.xe s
def tQ(X:Cx)(st:List Stmt)(t:TS):Prop:=
 ∀(a:List (Addr×Obj))(s:Shared)(b:St)(H:Hp)(D:Ends),Inv X a b H s->t D b H->wpAny (model X.prog X.w) X.A (execs st X.env) (SP X a D) X.xe s
private theorem bF(h:wpAny M A t Q E s)(c:∀a s,Q a s->b a s):wpAny M A t b E s:=Nw h c λ_ _ x=>x
section
variable{X:Cx}
private theorem bin(r:PE X a ta)(q:PE X b j){d:St}{R:V->V->Hp->Prop}(I:Inv X c d H s)(h:ta d H λx H1=>j d H1 λy e=>R x y e)
 {α:Type}{Q:α->Shared->Prop}{f:Value->Value->Sem α}
 (p:∀v u s2 x y e,Inv X c d e s2->RelV x v->RelV y u->R x y e->wpAny (model X.prog X.w) X.A (f v u) Q X.xe s2):
 wpAny (model X.prog X.w) X.A (eval a X.env) (λv i=>wpAny (model X.prog X.w) X.A (eval b X.env) (λu g=>wpAny (model X.prog X.w) X.A (f v u) Q X.xe g) X.xe i) X.xe s:=by
 refine bF (r c s d H _ I h) λv k ⟨x,H1,z,m,o⟩=>?_;refine bF (q c k d H1 _ z o) λu s2 ⟨y,e,t,l,n⟩=>?_;exact p v u s2 x y e t m l n
def gI(i:Nat):TE:=λa H Q=>∃v,a[i]?=some (some v)/\Q v H
def tC(v:V):TE:=λ_ H Q=>Q v H
private theorem ym(t:X.N[i]?=some x)(n:Vg X.env.scope x)(hd:autoParam ((x==("__debug__":Str))=false) dB._auto_1)(g:autoParam ((x==("__classdict__":Str))=false) dB._auto_1):PE X (.Name x pos) (gI i):=by
 intro f s k H Q I h;obtain⟨v,e,h⟩:=h;obtain⟨m,o,q⟩:=I.loc;obtain⟨u,r,l⟩:=q i x v t e n;have d:EP X f k Q u s:=⟨v,H,I,r,h⟩;rcases l with⟨b,p⟩|⟨b,c,j,a⟩
 .exact wpAny_Name (wpAny_loadName_local I.ok.kind b o p d) hd
 .rcases b with b|b
  .exact wpAny_Name (wpAny_loadName_cell I.ok.kind b j a d) hd
  .exact wpAny_Name (wpAny_loadName_free I.ok.kind b j a d g) hd
private theorem uK:PE X (.Constant (.int i) j pos) (tC (.int i)):=λ_ _ _ H _ I h=>wpAny_Constant_int ⟨.int i,H,I.tok _,⟨_,rfl⟩,h⟩
private theorem Vi:PE X (.Constant (.bool b) j pos) (tC (.bl b)):=λ_ _ _ H _ I h=>Constant_bool ⟨.bl b,H,I,rfl,h⟩
private theorem Oh:PE X (.Constant .none j pos) (tC .aN):=λ_ _ _ H _ I h=>Constant_none ⟨.aN,H,I,rfl,h⟩
private theorem yo:PE X (.Constant (.str x) j pos) (tC (.str x)):=λ_ _ _ H _ I h=>Calls.Constant_str ⟨.str x,H,I.tok _,⟨_,rfl⟩,h⟩
def Gl(X:Cx)(x:Str):Prop:=X.env.kindOf x=some .globalImplicit
private theorem iG{b:St}{u:Value}{pos:Pos}{Q:Value->Shared->Prop}(I:Inv X a b H s)(d:Gl X x)(c:X.mg x=some u)(h:Q u s)
 (hd:autoParam ((x==("__debug__":Str))=false) dB._auto_1):wpAny (model X.prog X.w) X.A (eval (.Name x pos) X.env) Q E s:=
 Calls.Name_function_global I.ok.kind d (Calls.loadGlobal_global (by rw[I.ok.glob];exact I.mod.glob.keeps I.bk) c h) hd
private theorem ku{b:St}{u:Value}{pos:Pos}{Q:Value->Shared->Prop}(I:Inv X a b H s)(f:Gl X x)(e:X.mg x=none)(c:bootBuiltins x=some u)(h:Q u s)
 (d:autoParam (x≠"__name__") dB._auto_1)(hd:autoParam ((x==("__debug__":Str))=false) dB._auto_1):wpAny (model X.prog X.w) X.A (eval (.Name x pos) X.env) Q E s:=by
 obtain⟨j,i,g⟩:=I.mod.blt;exact Calls.Name_function_global I.ok.kind f (Calls.loadGlobal_builtin (by rw[I.ok.glob];exact I.mod.glob.keeps I.bk) e (by rw[I.ok.blt];exact i.keeps I.bk) ((g x d).trans c) h) hd
private theorem IA(b:Gl X x)(a:X.mg x=some u)(r:RelV v u)(hd:autoParam ((x==("__debug__":Str))=false) dB._auto_1):PE X (.Name x pos) (tC v):=
 λ_ _ _ H _ I h=>iG I b a ⟨v,H,I,r,h⟩ hd
private theorem Aa(d:Gl X x)(c:X.mg x=none)(a:bootBuiltins x=some u)(r:RelV v u)(b:autoParam (x≠"__name__") dB._auto_1)(hd:autoParam ((x==("__debug__":Str))=false) dB._auto_1):PE X (.Name x pos) (tC v):=
 λ_ _ _ H _ I h=>ku I d c a ⟨v,H,I,r,h⟩ b hd
variable{a b:Expr}{ta tb:TE}{pos:Pos}
def tB(t:TE):TT:=λd H Q=>t d H λx e=>∃c,x=.bl c/\Q c e
private theorem DU(h:PE X e t)(he:autoParam (∀c,isTrue e X.env c=(do let v<-c;standAt e.pos;holding [v] (truthy v))) dC._auto_1):PT X e (tB t):=by intro f s g H Q I k;refine isTrue_plain (bF (h f s g H _ I k) λv n ⟨x,m,l,i,j⟩=>?_) (he _);obtain⟨d,rfl,q⟩:=j;cases i;exact SO ⟨m,l,q⟩
variable{tA Yg:TT}{rest:List Expr}
def Y3(t u:TT):TT:=λd H Q=>t d H λc e=>if c=true then u d e Q else Q false e
def tOr(t u:TT):TT:=λd H Q=>t d H λc e=>if c=true then Q true e else u d e Q
def Y4(t:TT):TT:=λd H Q=>t d H λc e=>Q (!c) e
private theorem Ab(g:PT X a tA):PW X (.BoolOp .And [a] pos) tA:=by
 intro i d s f H Q I h;refine isTrue_and (bF (g d s f H Q I h) λc j e=>?_);cases c with
 |true=>exact isTrue_and_nil e
 |false=>exact e
private theorem DV(g:PT X a tA):PW X (.BoolOp .Or [a] pos) tA:=by
 intro i d s f H Q I h;refine isTrue_or (bF (g d s f H Q I h) λc j e=>?_);cases c with
 |false=>exact isTrue_or_nil e
 |true=>exact e
private theorem DW(m:PT X a tA)(l:PW X (.BoolOp .And (b::rest) pos) Yg):PW X (.BoolOp .And (a::b::rest) pos) (Y3 tA Yg):=by
 intro j d s e H Q I h;refine isTrue_and (bF (m d s e H _ I h) λc k ⟨i,g,f⟩=>?_);cases c with
 |true=>exact l j d k e i Q g f
 |false=>exact⟨i,g,f⟩
private theorem Mw(m:PT X a tA)(l:PW X (.BoolOp .Or (b::rest) pos) Yg):PW X (.BoolOp .Or (a::b::rest) pos) (tOr tA Yg):=by
 intro j d s e H Q I h;refine isTrue_or (bF (m d s e H _ I h) λc k ⟨i,g,f⟩=>?_);cases c with
 |true=>exact⟨i,g,f⟩
 |false=>exact l j d k e i Q g f
private theorem DX(f:PT X a tA):PT X (.UnaryOp .Not a pos) (Y4 tA):=by intro d s e H Q I h;exact isTrue_not (f d s e H (λc g=>Q (!c) g) I h)
def Vj(ta tb:TE):TE:=λd H Q=>ta d H λx e=>∃c,x=.bl c/\if c=true then tb d e Q else Q (.bl false) e
def Y5(ta tb:TE):TE:=λd H Q=>ta d H λx e=>∃c,x=.bl c/\if c=true then Q (.bl true) e else tb d e Q
def Vk(ta:TE):TE:=λd H Q=>ta d H λx e=>∃c,x=.bl c/\Q (.bl (!c)) e
private theorem DY(h:PE X a t):PE X (.BoolOp op [a] pos) t:=λc s d H Q I e=>BoolOp_one (h c s d H Q I e)
private theorem Oi(m:PE X a ta)(l:PE X (.BoolOp .And (b::rest) pos) tb):PE X (.BoolOp .And (a::b::rest) pos) (Vj ta tb):=by
 intro d s f H Q I h;refine BoolOp_and (bF (m d s f H _ I h) λv j ⟨x,i,g,k,e⟩=>?_);obtain⟨c,rfl,e⟩:=e;cases k;refine SO ?_;cases c with
 |true=>exact l d j f i Q g e
 |false=>exact⟨.bl false,i,g,rfl,e⟩
private theorem Vl(m:PE X a ta)(l:PE X (.BoolOp .Or (b::rest) pos) tb):PE X (.BoolOp .Or (a::b::rest) pos) (Y5 ta tb):=by
 intro d s f H Q I h;refine BoolOp_or (bF (m d s f H _ I h) λv j ⟨x,i,g,k,e⟩=>?_);obtain⟨c,rfl,e⟩:=e;cases k;refine SO ?_;cases c with
 |false=>exact l d j f i Q g e
 |true=>exact⟨.bl true,i,g,rfl,e⟩
private theorem Oj(i:PE X a ta):PE X (.UnaryOp .Not a pos) (Vk ta):=by intro d s f H Q I h;refine UnaryOp_ (bF (i d s f H _ I h) λv l ⟨x,k,j,g,e⟩=>?_);obtain⟨c,rfl,e⟩:=e;cases g;exact not_of (SO ⟨.bl (!c),k,j,rfl,e⟩)
def tIf(t:TT)(ta tb:TE):TE:=λd H Q=>t d H λc e=>if c=true then ta d e Q else tb d e Q
private theorem DZ(l:PT X c tA)(n:PE X a ta)(m:PE X b tb):PE X (.IfExp c a b pos) (tIf tA ta tb):=by
 intro e s f H Q I h;refine wpAny_IfExp (bF (l e s f H _ I h) λd g ⟨k,j,i⟩=>?_);cases d with
 |true=>exact n e g f k Q j i
 |false=>exact m e g f k Q j i
end
def kC(K:Frag)(H:Hp)(a:Addr)(c:List V):Prop:=
 Rd H a (.lst c)\/
  ∃(o:Obj)(b:Array Value)(n:Nat),K.lookup a=some o/\o.cls=.type "list"/\o.dict=none/\o.data=.seq b n/\b.size<=sizeLine/\Vals c b.toList
def lF(K:Frag)(H:Hp)(a:Addr)(c:List V):Prop:=
 Rd H a (.tup c)\/
  ∃(o:Obj)(b:Array Value)(n:Nat),K.lookup a=some o/\o.cls=.type "tuple"/\o.data=.seq b n/\b.size<=sizeLine/\Vals c b.toList
noncomputable def Y6:Value->Option V
 |.none=>some .aN
 |.bool b=>some (.bl b)
 |.int i _=>some (.int i)
 |.str x _=>some (.str x)
 |.bytes b _=>some (.Du b)
 |.float b _=>some (.Od b)
 |.ref a=>some (.ref a)
 |.type n=>some (.ty n)
 |_=>none
private theorem RelV.abs(r:RelV x u):Y6 u=some x:=by
 cases x with
 |aN=>cases r;rfl
 |bl _=>cases r;rfl
 |int _=>obtain⟨t,rfl⟩:=r;rfl
 |str _=>obtain⟨t,rfl⟩:=r;rfl
 |Du _=>obtain⟨t,rfl⟩:=r;rfl
 |Od _=>obtain⟨t,rfl⟩:=r;rfl
 |ref _=>cases r;rfl
 |ty _=>cases r;rfl
private theorem RelV.inj(r:RelV x u)(q:RelV y u):x=y:=Fs (r.abs.symm.trans q.abs)
private theorem Vals.inj:∀{b a:List V}{us:List Value},Vals b us->Vals a us->b=a
 |_,_,_,.nil,.nil=>rfl
 |_,_,_,.cons r t,.cons c t'=>by rw[r.inj c,Vals.inj t t']
section
variable{X:Cx}{pins:List (Addr×Obj)}{σ:St}{H:Hp}{s:Shared}{a:Addr}{xs ys:List V}
private theorem lF.of{K:Frag}(h:H a=some (.tup xs)):lF K H a xs:=.inl (.inl h)
private theorem Inv.list(I:Inv X pins σ H s)(h:kC X.K H a xs):∃b:List Value,Vals xs b/\PlainL s.heap a b.toArray/\xs.length<=sizeLine:=by
 rcases h with h|⟨o,b,n,d,f,hd,c,hz,r⟩
 .obtain⟨z,b,n,r,e⟩:=h.ok I.hok;exact⟨b,r,⟨_,n,e,rfl,rfl,rfl⟩,z⟩
 .refine⟨b.toList,r,⟨o,n,I.jh a o d,f,hd,by simpa using c⟩,?_⟩;have e:=r.length;simp only[Ju]at e;lia
private theorem Inv.tuple(I:Inv X pins σ H s)(h:lF X.K H a xs):∃b:List Value,Vals xs b/\IsTup s.heap a b.toArray/\xs.length<=sizeLine:=by
 rcases h with h|⟨o,b,n,d,f,c,hz,r⟩
 .obtain⟨z,b,r,p⟩:=h.ok I.hok;exact⟨b,r,p,z⟩
 .refine⟨b.toList,r,⟨o,I.jh a o d,f,n,by simpa using c⟩,?_⟩;have e:=r.length;simp only[Ju]at e;lia
private theorem Inv.we(I:Inv X pins σ H s)(h:kC X.K H a xs)(h':kC X.K H a ys):xs=ys:=by
 obtain⟨c,r,⟨o,n,e,_,_,d⟩,_⟩:=I.list h;obtain⟨b,i,⟨j,k,f,_,_,g⟩,_⟩:=I.list h';rw[e]at f;cases f;rw[d]at g;injection g with d1 _;have:c=b:=by simpa using IR Z3 d1
 subst this;exact r.inj i
private theorem Inv.BQ(I:Inv X pins σ H s)(h:lF X.K H a xs)(h':lF X.K H a ys):xs=ys:=by
 obtain⟨c,r,⟨o,e,_,n,d⟩,_⟩:=I.tuple h;obtain⟨b,i,⟨j,f,_,k,g⟩,_⟩:=I.tuple h';rw[e]at f;cases f;rw[d]at g;injection g with d1 _;have:c=b:=by simpa using IR Z3 d1
 subst this;exact r.inj i
end
abbrev Cx.jc(X:Cx)(E:Value->Shared->Prop):Cx:={X with xe:=E}
abbrev Cx.Mx(X:Cx):Cx:=X.jc λ_ _=>False
private theorem Cx.Ok.jc{X:Cx}(a:X.Ok)(E:Value->Shared->Prop):(X.jc E).Ok:=
 ⟨a.mod,a.kind,a.glob,a.blt,a.above,a.inj,a.has,a.Og,a.hd,a.frames,a.stk,a.Yd,a.bs,a.BL,a.BN,a.BO,a.j3,a.Dv,a.tree,a.Vh,a.tab⟩
private theorem Cx.Ok.kD{X:Cx}(a:(X.jc E).Ok):X.Ok:=
 ⟨a.mod,a.kind,a.glob,a.blt,a.above,a.inj,a.has,a.Og,a.hd,a.frames,a.stk,a.Yd,a.bs,a.BL,a.BN,a.BO,a.j3,a.Dv,a.tree,a.Vh,a.tab⟩
section
variable{X:Cx}{pins:List (Addr×Obj)}{σ:St}{H:Hp}{s:Shared}{E:Value->Shared->Prop}
private theorem Inv.jc(I:Inv X pins σ H s)(E:Value->Shared->Prop):Inv (X.jc E) pins σ H s:=⟨I.ok.jc E,I.os,I.bare,I.base,I.loc,I.cell,I.free,I.dW,I.pin,I.hok,I.len⟩
private theorem Inv.kD(I:Inv (X.jc E) pins σ H s):Inv X pins σ H s:=⟨I.ok.kD,I.os,I.bare,I.base,I.loc,I.cell,I.free,I.dW,I.pin,I.hok,I.len⟩
end
section
variable{X:Cx}{st:Stmt}{rest:List Stmt}{t u:TS}{e:Expr}{te:TE}{pos:Pos}
def Vm:TS:=λD a H=>D.nx a H
def Y7(t u:TS):TS:=λD a H=>t {D with nx:=u D} a H
private theorem IB:tQ X [] Vm:=λ_ _ a H _ I h=>X9 ⟨a,H,I,h⟩
private theorem jj(i:PS X st t)(g:tQ X rest u):tQ X (st::rest) (Y7 t u):=by
 intro a s c H D I h;refine wpAny_execs_cons (bF (i a s c H {D with nx:=u D} I h) λf d q=>?_);cases f with
 |next=>obtain⟨b,k,j,q⟩:=q;exact g a d b k D j q
 |ret v=>exact q
 |brk=>exact q
 |cont=>exact q
private theorem jP(c:PS X st t):tQ X [st] t:=by
 intro a s b H D I h;refine wpAny_execs_cons (bF (c a s b H D I h) λf d q=>?_);cases f with
 |next=>exact X9 q
 |ret v=>exact q
 |brk=>exact q
 |cont=>exact q
def Ol:TS:=λD a H=>D.bk a H
private theorem D9:PS X (.Break pos) Ol:=λ_ _ a H _ I h=>wpAny_Break ⟨a,H,I,h⟩
private theorem Inv.quiet{b:St}(I:Inv X a b H s):interactive X.env=false:=by simp[interactive,I.ok.kind]
def pV(te:TE):TS:=λD a H=>te a H λ_ b=>D.nx a b
private theorem iH(he:PE X e te)(d:autoParam (swapsWith e none pos.line X.env=pure false) dA._auto_1):PS X (.Expr e pos) (pV te):=by intro a s b H D I h;exact wpAny_Expr_any (bF (he a s b H _ I h) λv i ⟨x,g,f,j,c⟩=>⟨b,g,f,c⟩) I.quiet d
def Y8(te:TE):TS:=λD a H=>te a H D.rt
private theorem kF(he:PE X e te):PS X (.Return (some e) pos) (Y8 te):=by intro a s b H D I h;exact wpAny_Return_some (bF (he a s b H _ I h) λv i ⟨x,g,f,c,d⟩=>⟨x,b,g,f,c,d⟩)
def Vn:TS:=λD _ H=>D.rt .aN H
private theorem Ac:PS X (.Return none pos) Vn:=λ_ _ a H _ I h=>wpAny_Return_none ⟨.aN,a,H,I,rfl,h⟩
def Y9(c:TT)(t u:TS):TS:=λD a H=>c a H λb d=>if b=true then t D a d else u D a d
private theorem My(m:PT X c tc)(o:tQ X a t)(n:tQ X b u):PS X (.If c a b pos) (Y9 tc t u):=by
 intro f s g H D I h;refine wpAny_If (bF (m f s g H _ I h) λd i ⟨l,k,j⟩=>?_);cases d with
 |true=>exact o f i g l D k j
 |false=>exact n f i g l D k j
end
abbrev TG:=V->St->Hp->(St->Hp->Prop)->Prop
abbrev Mz:=List V->St->Hp->(St->Hp->Prop)->Prop
def PG(X:Cx)(a:Expr)(t:TG):Prop:=
 ∀(b:List (Addr×Obj))(s:Shared)(d:St)(H:Hp)(v:V)(u:Value)(Q:St->Hp->Prop),Inv X b d H s->RelV v u->t v d H Q->
  wpAny (model X.prog X.w) X.A (assign a X.env u) (λ_ f=>∃c e,Inv X b c e f/\Q c e) X.xe s
def Vo(X:Cx)(g:List Expr)(t:Mz):Prop:=
 ∀(a:List (Addr×Obj))(s:Shared)(c:St)(H:Hp)(d:List V)(e:List Value)(Q:St->Hp->Prop),Inv X a c H s->Vals d e->t d c H Q->
  wpAny (model X.prog X.w) X.A (assignInOrder ((assignEach g X.env).map (·.2)) e) (λ_ h=>∃b f,Inv X a b f h/\Q b f) X.xe s
abbrev Om:=V->V->V->Hp->(Hp->Prop)->Prop
def Oo(X:Cx)(t:Om):Prop:=
 ∀(a:List (Addr×Obj))(s:Shared)(b:St)(H:Hp)(o i v:V)(c d u:Value)(Q:Hp->Prop),Inv X a b H s->RelV o c->RelV i d->RelV v u->t o i v H Q->
  wpAny (model X.prog X.w) X.A (setItem c d u) (λ_ f=>∃e,Inv X a b e f/\Q e) X.xe s
section
variable{X:Cx}{pos:Pos}
def gR(i:Nat):TG:=λv a H Q=>Q (a.set i (some v)) H
private theorem IC(e:X.N.Nodup)(c:X.N[i]?=some x)(b:Loc X.env.scope x)(d:autoParam (X.fn x=true\/X.env.scope.names.lookup x=some .local) dD._auto_1):PG X (.Name x pos) (gR i):=by intro a s g H v u Q I r h;exact wpAny_assign_Name (eL I e c b r (λj f=>⟨_,H,f,h⟩) d)
def Vp:Mz:=λb a H Q=>b=[]/\Q a H
def MA(t:TG)(u:Mz):Mz:=λc b H Q=>∃v r,c=v::r/\t v b H λa d=>u r a d Q
private theorem ID:Vo X [] Vp:=by intro a s b H c d Q I r h;obtain⟨e,h⟩:=h;subst e;cases r;exact assignInOrder_nil ⟨b,H,I,h⟩
private theorem Ea(k:PG X e t)(j:Vo X es u)
 (i:autoParam ((assignEach (e::es) X.env).map (·.2)=assign e X.env::(assignEach es X.env).map (·.2)) dA._auto_1):Vo X (e::es) (MA t u):=by
 intro a s c H o q Q I r h;obtain⟨v,p,l,h⟩:=h;subst l;cases r with
 |cons r f=>rw[i];refine assignInOrder_cons (bF (k a s c H _ _ _ I r h) λ_ d ⟨b,n,m,g⟩=>?_);exact j a d b n _ _ Q m f g
def Oq(K:Frag)(n:Nat)(t:Mz):TG:=λv c H Q=>∃a b,v=.ref a/\lF K H a b/\b.length=n/\t b c H Q
private theorem Ot(x:X.calm=true)(h:Vo X es t)
 (q:autoParam ((assignEach es X.env).length=n) dA._auto_1)(f:autoParam ((assignEach es X.env).findIdx? (·.1)=none) dA._auto_1):PG X (.Tuple es k pos) (Oq X.K n t):=by
 intro c s g H v u Q I r d;obtain⟨a,i,z,p,w,d⟩:=d;subst z;cases r;obtain⟨j,rv,m,hz⟩:=I.tuple p;refine assign_Tuple_tuple (I.ok.hd x) m (by simp[q,<-w,rv.length]) f λy l=>?_;have A:Inv X c g H {s with heap:=y}:=I.kept (t':=s.toks) λb o e=>l b o (Hk (FC e)) e;exact h c _ g H i _ Q A (by simpa using rv) d
def Ou(b ti:TE)(t:Om):TG:=λv a H Q=>b a H λo e=>ti a e λi d=>t o i v d λc=>Q a c
private theorem Eb(p:PE X o e)(q:PE X i ti)(n:Oo X t)
 (w:autoParam (∀v,assign (.Subscript o i pos) X.env v=(do
   let b<-holding [v] (eval o X.env)
   let c<-holding [v,b] (eval i X.env)
   standAt pos
   holding [v,b,c] (setItem b c v)
   release [v,b,c] [])) dC._auto_1):PG X (.Subscript o i pos) (Ou e ti t):=by
 intro a s d H v u Q I r h;rw[w];refine DO (du (bF (p a s d H _ I h) λb f ⟨x,E,B,j,m⟩=>?_));refine DO (du (bF (q a f d E _ B m) λc s2 ⟨y,D,A,g,l⟩=>?_));refine DO (wpAny_standAt (DO (du (bF (n a s2 d D x y v b c u _ A j g r l) λ_ s3 ⟨C,z,k⟩=>?_))));exact wpAny_release ⟨d,C,z,k⟩
def om(te:TE)(g:TG):TS:=λD a H=>te a H λx b=>g x a b D.nx
private theorem yp(he:PE X e te)(k:PG X tg g)(j:autoParam (swapsWithSole [tg] e pos.line X.env=pure false) dA._auto_1)(i:autoParam (swappedStores [tg] e X.env=pure none) dA._auto_1)
 (l:autoParam ((assignEach [tg] X.env).map (·.2)=[assign tg X.env]) dA._auto_1):PS X (.Assign [tg] e pos) (om te g):=by
 intro a s b H D I h;refine wpAny_Assign_stores (bF (he a s b H _ I h) λv c ⟨x,n,m,d,f⟩=>?_) j i;rw[l];exact bF (k a c b n x v _ m d f) λ_ s2 q=>q
private theorem pX(m:X.N.Nodup)(k:X.N[i]?=some x)(g:Loc X.env.scope x)(he:PE X e te)(j:autoParam (swapsWith e (some (.Name x a)) pos.line X.env=pure false) dA._auto_1)(l:autoParam (X.fn x=true\/X.env.scope.names.lookup x=some .local) dD._auto_1):
 PS X (.Assign [.Name x a] e pos) (om te (gR i)):=by
 intro b s c H D I h;refine wpAny_Assign_Name (bF (he b s c H _ I h) λv q ⟨y,p,o,d,f⟩=>?_) j;exact eL o m k g d (λs2 n=>⟨_,p,n,f⟩) l
def Za(i j:Nat)(ta:TA):TS:=λD a H=>ta a H λb c=>∃v w,b=[v,w]/\D.nx ((a.set i (some v)).set j (some w)) c
private theorem Ov(Y:X.calm=true)(J:X.N.Nodup)(U:X.N[i]?=some x)(T:X.N[j]?=some y)(z:i≠j)
 (F:X.env.scope.names.lookup x=some .local)(E:X.env.scope.names.lookup y=some .local)(Z:PA X [a,b] ta)
 (R:swappedStores [.Tuple [.Name x n,.Name y m] t r] (.Tuple [a,b] k2 B) X.env=pure (some [x,y]))
 (S:autoParam (swapsWithSole [.Tuple [.Name x n,.Name y m] t r] (.Tuple [a,b] k2 B) pos.line X.env=pure false) dA._auto_1):
 PS X (.Assign [.Tuple [.Name x n,.Name y m] t r] (.Tuple [a,b] k2 B) pos) (Za i j ta):=by
 intro c s C H D I h;rw[exec_Assign_arm];refine DO (wpAny_standAt ?_);rw[S];refine DO (GE ?_);rw[B1 (by decide)];refine DO (Tuple_ (bF (Z _ c s C H _ I h) λM g ⟨vs,L,I1,O,l⟩=>?_));obtain⟨v,w,e1,l⟩:=l;subst e1;obtain⟨f,d,rfl,rv,k⟩:∃f d,M=[f,d]/\RelV v f/\RelV w d:=by
  cases O with
  |cons p q=>
   cases q with
   |cons Q P=>
    cases P;exact⟨_,_,rfl,p,Q⟩
 refine SU ?_ (by show 2<=sizeLine;decide);have I2:Inv X c C L {g with heap:=g.heap.push {cls:=.type "tuple",data:=.seq [f,d].toArray}}:=I1.kept (t':=g.toks) λb o e=>Bi _ e;rw[R];refine DO (GE ?_);show wpAny (model X.prog X.w) X.A (do rule "assign.swapped-stores";let items<-unpackItems (.ref g.heap.objs.size) 2 none;assignInOrder [λv=>bindName X.env y v,λv=>bindName X.env x v] items.reverse;pure Flow.next) _ _ _;refine DO (wpAny_rule (DO (unpackItems_tuple (items:= #[f,d]) (I.ok.hd Y) (IsTup.new g.heap _) λh' u=>?_)));have I3:=I2.kept (h':=h') (t':=g.toks) λb o e=>u b o (Hk (FC e)) e;show wpAny _ _ (assignInOrder [λv=>bindName X.env y v,λv=>bindName X.env x v] [d,f]>>=λ_=>pure Flow.next) _ _ _;refine DO (assignInOrder_cons (wpAny_bindName (eL I3 J T (.inl E) k (λs2 I4=>?_) (.inr E))));refine assignInOrder_cons (wpAny_bindName (eL I4 J U (.inl F) rv (λs3 K=>assignInOrder_nil (GE ?_)) (.inr F)));rw[h7 _ _ (Oy z)]at K;exact⟨_,L,K,l⟩
def Ow(c:TT)(h:TS):TS:=λD a H=>∃W:Nat->St->Hp->Prop,(∃m,W m a H)/\∀m a H,W m a H->
 c a H λb f=>if b=true then∃N:St->Hp->Prop,(∀d g,N d g->∃e,e<m/\W e d g)/\h {D with nx:=N,ct:=N,bk:=D.nx} a f else D.nx a f
private theorem wg(x:PassesOwn (model X.prog X.w) X.A X.env X.xe)(P:PT X c tc)(Q:tQ X g u):PS X (.While c g [] pos) (Ow tc u):=by
 intro d s F H D I h;obtain⟨W,⟨O,K⟩,j⟩:=h;refine wpAny_While (codeAny_whileLoop (λn M=>∃i E,Inv X d i E M/\W n i E) ?_ O ⟨F,H,I,K⟩);rintro n L ⟨e,C,R,J⟩;refine TB x (bF (P d L e C _ R (j n e C J)) λb s2 ⟨B,z,m⟩=>?_);cases b with
 |true=>
  obtain⟨N,y,m⟩:=m;rw[BM rfl];refine TB x (bF (Q d s2 e B _ z m) λf s3 l=>?_);cases f with
  |next=>obtain⟨a,k,t,p⟩:=l;obtain⟨q,r,o⟩:=y a k p;exact⟨q,r,a,k,t,o⟩
  |cont=>obtain⟨a,k,t,p⟩:=l;obtain⟨q,r,o⟩:=y a k p;exact⟨q,r,a,k,t,o⟩
  |brk=>exact l
  |ret v=>exact l
 |false=>rw[B1 Fn];exact X9 ⟨e,B,z,m⟩
end
set_option genInjectivity false in
set_option genSizeOf false in
structure It where
 go:Nat->Hp->Prop
 Vq:Nat->Hp->V->Hp->Prop
 stop:Nat->Hp->Prop
def pY(X:Cx)(a:List (Addr×Obj))(H:Hp)(b:Addr):Prop:=
 H b=none/\b≠X.env.locals/\b∉X.fs/\(b∈X.ex\/X.s₀.heap.objs.size<=b)/\(∀x c,X.env.cells.lookup x=some c->c≠b)/\∀p∈X.pn++a,p.1≠b
private theorem Inv.BR{f:St}{b:Addr}(I:Inv X a f H s)(d:s.heap.objs.size<=b)(h:H' b=none):pY X a H' b:=by
 refine⟨h,aw (Bn I.lt d),I.YY d,.inr (FV I.sz d),λx c e z=>?_,λp g z=>?_⟩
 .obtain⟨v,q⟩:=I.cell x c e;exact absurd (Bn q.lt (by rw[z];exact d)) (PH _)
 .exact absurd (Bn (FC (I.pin p g).1) (by rw[z];exact d)) (PH _)
structure Turn(P:Program)(w:World)(K:Frag)(tg:Expr)(J:It)(fp:List Addr)(it:Addr)(tn:Nat->Heap->Prop):Prop where
 mem:it∈fp
 obj:∀i h,tn i h->∀b∈fp,∃o,h.get? b=some o/\∀v,o.data≠.cell v
 keep:∀i h h',tn i h->(∀b∈fp,∀o,h.get? b=some o->h'.get? b=some o)->tn i h'
 item:∀(X:Cx),X.prog=P->X.w=w->X.K=K->X.calm=true->∀(i:Nat)(pins:List (Addr×Obj))(s:Shared)(σ:St)(H:Hp)(E:Value->Shared->Prop),Inv X pins σ H s->(∀b∈fp,pY X pins H b)->tn i s.heap->J.go i H->
  wpAny (model P w) X.A (pyNext (.ref it)) (λr s1=>∃u,r=some u/\
   wpAny (model P w) X.A (letOwnedTupleGo tg (.ref it) u) (λ_ s2=>∃x H',Inv X pins σ H' s2/\RelV x u/\J.Vq i H x H'/\tn (i+1) s2.heap/\∀b∈fp,H' b=none) E s1) E s
 done:∀(X:Cx),X.prog=P->X.w=w->X.K=K->X.calm=true->∀(i:Nat)(pins:List (Addr×Obj))(s:Shared)(σ:St)(H:Hp)(E:Value->Shared->Prop),Inv X pins σ H s->(∀b∈fp,pY X pins H b)->tn i s.heap->J.stop i H->
  wpAny (model P w) X.A (pyNext (.ref it)) (λr s1=>r=none/\Inv X pins σ H s1) E s
 self:∀(A:Around)(i:Nat)(s:Shared)(Q:Value->Shared->Prop)(E:Value->Shared->Prop),tn i s.heap->Q (.ref it) s->wpAny (model P w) A (pyIter (.ref it)) Q E s
abbrev TI:=St->Hp->(It->Hp->Prop)->Prop
def Zc(X:Cx)(a:List (Addr×Obj))(h:St)(tg:Expr)(R:It->Hp->Prop)(c:Value)(s2:Shared):Prop:=
 ∃(f:Addr)(g:List Addr)(e:Nat->Heap->Prop)(J:It)(d:Hp),c=.ref f/\Inv X a h d s2/\Turn X.prog X.w X.K tg J g f e/\e 0 s2.heap/\(∀b∈g,pY X a d b)/\R J d
def PI(X:Cx)(tg b:Expr)(d:TI):Prop:=
 ∀(a:List (Addr×Obj))(s:Shared)(c:St)(H:Hp)(R:It->Hp->Prop),Inv X a c H s->d c H R->
  wpAny (model X.prog X.w) X.A (eval b X.env) (λv e=>wpAny (model X.prog X.w) X.A (pyIter v) (Zc X a c tg R) X.xe e) X.xe s
private theorem Ad(c:s.heap.get? b=some o)(e:o.cls=.type n)(hd:o.data=.fields vs)
 (d:["enumerate","zip","dict_itemiterator","dict_reverseitemiterator","odict_iterator","itertools.zip_longest","itertools.pairwise"].contains n=false)(a:Q () s):wpAny M A (letOwnedTupleGo tg (.ref b) u) Q E s:=by
 unfold letOwnedTupleGo;cases tg<;>first
  |exact GE a
  |(cases u<;>first
     |exact GE a
     |(refine DO (wpAny_load c ?_)
       rw[e,hd];show wpAny M A (if(["enumerate","zip","dict_itemiterator","dict_reverseitemiterator","odict_iterator","itertools.zip_longest","itertools.pairwise"].contains n&&vs[0]?==some (rawInt _))=true then _ else _) Q E s;rw[B1 (by intro h;rw[d,Bool.false_and]at h;cases h)];exact GE a))
noncomputable def Zd(K:Frag)(a:Addr):It:=
 ⟨λi H=>∃b x,kC K H a b/\b[i]?=some x,λi H x c=>c=H/\∀b,kC K H a b->b[i]?=some x,λi H=>∃b,kC K H a b/\b.length<=i⟩
noncomputable def Ze(K:Frag)(a:Addr):It:=
 ⟨λi H=>∃b x,lF K H a b/\b[i]?=some x,λi H x c=>c=H/\∀b,lF K H a b->b[i]?=some x,λi H=>∃b,lF K H a b/\b.length<=i⟩
noncomputable def Vr(a:Int)(n:Nat):It:=⟨λi _=>i<n,λi H x b=>b=H/\x=.int (a+i),λi _=>n<=i⟩
private theorem BS{K:Frag}(a j:Addr):Turn P w K tg (Zd K a) [j] j (λi h=>h.IsListIter j a i)where
 mem:=by simp
 obj:=λi h f b l=>by
  have e:b=j:=by simpa using l
  subst e;obtain⟨o,e,c,d⟩:=f;exact⟨o,e,λv z=>by rw[d]at z;cases z⟩
 keep:=λi h r f k=>f.at λo e=>k j (by simp) o e
 item:=by intro X C A D Q i g s O H E I q f B;subst C A D;obtain⟨R,x,n,y⟩:=B;obtain⟨t,rv,p,hz⟩:=I.list n;obtain⟨u,Y,T⟩:=rv.get y;obtain⟨N,M,Z,L,J,F⟩:=q j (by simp);refine wpAny_pyNext_list_item f p.isList (x:=u) (by simpa using Y) λr m S=>?_;have I1:Inv X g O H {s with heap:=r}:=I.turned (t':=s.toks) (λb o l e=>(S.2 b l).trans e) N M L J F;obtain⟨o,e,c,d⟩:=id m;exact⟨u,rfl,Ad (s:={s with heap:=r}) e c d (by decide) ⟨x,H,I1,T,⟨rfl,λys U=>by rw[I.we U n];exact y⟩,m,λb l=>(q b l).1⟩⟩
 done:=by intro X C A D Q i g s O H E I q f B;subst C A D;obtain⟨R,n,y⟩:=B;obtain⟨t,rv,p,hz⟩:=I.list n;obtain⟨N,M,Z,L,J,F⟩:=q j (by simp);have hl:=rv.length;exact wpAny_pyNext_list_end (I.ok.hd Q) f p.isList (by simp;lia) λr eb=>⟨rfl,I.turned (t':=s.toks) (λb o l e=>eb b o l e) N M L J F⟩
 self:=λ_ _ _ _ _ f h=>wpAny_pyIter_listiter f h
private theorem yq{K:Frag}(a l:Addr):Turn P w K tg (Ze K a) [l] l (λi h=>h.IsTupleIter l a i)where
 mem:=by simp
 obj:=λi h f b m=>by
  have e:b=l:=by simpa using m
  subst e;obtain⟨o,e,c,d⟩:=f;exact⟨o,e,λv z=>by rw[d]at z;cases z⟩
 keep:=λi h t f k=>f.at λo e=>k l (by simp) o e
 item:=by intro X C A D Q i g s O H E I r f B;subst C A D;obtain⟨R,x,q,y⟩:=B;obtain⟨j,rv,p,hz⟩:=I.tuple q;obtain⟨u,Y,T⟩:=rv.get y;obtain⟨N,M,Z,L,J,F⟩:=r l (by simp);refine wpAny_pyNext_tuple_item f (show s.heap.IsTuple a j.toArray from p) (x:=u) (by simpa using Y) λt n S=>?_;have I1:Inv X g O H {s with heap:=t}:=I.turned (t':=s.toks) (λb o m e=>(S.2 b m).trans e) N M L J F;obtain⟨o,e,c,d⟩:=id n;exact⟨u,rfl,Ad (s:={s with heap:=t}) e c d (by decide) ⟨x,H,I1,T,⟨rfl,λys U=>by rw[I.BQ U q];exact y⟩,n,λb m=>(r b m).1⟩⟩
 done:=by intro X C A D Q i g s O H E I r f B;subst C A D;obtain⟨R,q,y⟩:=B;obtain⟨j,rv,p,hz⟩:=I.tuple q;obtain⟨N,M,Z,L,J,F⟩:=r l (by simp);have hl:=rv.length;exact wpAny_pyNext_tuple_end (I.ok.hd Q) f (show s.heap.IsTuple a j.toArray from p) (by simp;lia) λt eb=>⟨rfl,I.turned (t':=s.toks) (λb o m e=>eb b o m e) N M L J F⟩
 self:=λ_ _ _ _ _ f h=>wpAny_pyIter_tupleiter f h
private theorem yr{K:Frag}(d:Addr)(j:Int)(n:Nat):Turn P w K tg (Vr j n) [d] d (λi h=>IsRangeIter h d (j+(i:Nat)*1) ((n:Int) -(i:Nat)) 1)where
 mem:=by simp
 obj:=λi h a b f=>by
  have e:b=d:=by simpa using f
  subst e;exact⟨_,a,λv z=>by have L:Data.fields _=Data.cell v:=z;cases L⟩
 keep:=λi h m a k=>k d (by simp) _ a
 item:=by intro X u p x r i c s F H E I l a q;subst u p x;obtain⟨D,C,O,B,A,y⟩:=l d (by simp);have W:=Walks.range (prog:=X.prog) (w:=X.w) (I.ok.hd r) d j 1 n;refine W.item i s _ _ q a λv m J N g M=>?_;obtain⟨t,rfl⟩:=N;have R:Inv X c F H {s with heap:=m,toks:=J}:=I.turned (λb o f e=>M b o (by simpa using f) e) D C B A y;refine⟨_,rfl,Ad (s:={s with heap:=m,toks:=J}) (n:="range_iterator") g rfl rfl (by decide) ⟨.int (j+i),H,R,⟨t,?_⟩,⟨rfl,rfl⟩,g,λb f=>(l b f).1⟩⟩;rw[ky]
 done:=by intro X u p x r i c s F H E I l a q;subst u p x;obtain⟨D,C,O,B,A,y⟩:=l d (by simp);exact wpAny_pyNext_range_end (I.ok.hd r) a (by have:n<=i:=q;lia) λm Q=>⟨rfl,I.turned (t':=s.toks) (λb o f e=>Q b o f e) D C B A y⟩
 self:=λ_ _ _ _ _ a h=>wpAny_pyIter_rangeiter a h
section
variable{X:Cx}{tg:Expr}
private theorem wj{f:St}{a c:Int}{t u v:Tok}{g:Nat}(I:Inv X d f H s)(m: -(2^62)<=a)(l:a<2^62)(k: -(2^62)<=c)(j:c<2^62)
 (q:R (Vr a (c -a).toNat) H):wpAny (model X.prog X.w) X.A (pyIter (.ref s.heap.objs.size)) (Zc X d f tg R) E {s with heap:=s.heap.push {cls:=.type "range",data:=.fields #[.int a t,.int c u,.int 1 v]},toks:=g}:=by
 refine wpAny_pyIter_range (IsRange.new ..) (small_one m l k j) ?_;have h:Inv X d f H {s with heap:=s.heap.push {cls:=.type "range",data:=.fields #[.int a t,.int c u,.int 1 v]},toks:=g}:=I.kept λb o e=>Bi _ e;refine⟨(s.heap.push {cls:=.type "range",data:=.fields #[.int a t,.int c u,.int 1 v]}).objs.size,[(s.heap.push {cls:=.type "range",data:=.fields #[.int a t,.int c u,.int 1 v]}).objs.size],_,_,H,rfl,
  h.kept (t':=g) λb o e=>Bi _ e,yr _ a (c -a).toNat,?_,λb i=>?_,q⟩
 .have p:a+((0:Nat):Int)*1=a:=by simp
  have n:(((c -a).toNat:Nat):Int) -((0:Nat):Int)=Builtin.Range.rangeSize a c 1:=by rw[rangeSize_one];split<;>lia
  show IsRangeIter _ _ (a+((0:Nat):Int)*1) ((((c -a).toNat:Nat):Int) -((0:Nat):Int)) 1;rw[p,n];exact Hb _ rfl
 .have e:b=(s.heap.push {cls:=.type "range",data:=.fields #[.int a t,.int c u,.int 1 v]}).objs.size:=by simpa using i
  subst e;exact h.BR (BY _) (h.hok.fresh (BY _))
def Vs(ta:TA):TI:=λa H R=>ta a H λb c=>∃j:Int,b=[.int j]/\-(2^62)<=j/\j<2^62/\R (Vr 0 j.toNat) c
def Vt(ta:TA):TI:=λa H R=>ta a H λb c=>∃i j:Int,b=[.int i,.int j]/\(-(2^62)<=i/\i<2^62/\-(2^62)<=j/\j<2^62)/\R (Vr i (j -i).toNat) c
private theorem BU(m:Gl X "range")(l:X.mg "range"=none)(n:PA X [a] ta)(k:autoParam (starEach [a] X.env=[(false,eval a X.env)]) dA._auto_1):PI X tg (.Call (.Name "range" p) [a] [] pos) (Vs ta):=by
 intro b s d H R I h;refine Call_ (ku I m l boot_range (QQ (bF (n pos b s d H _ I h) λv w ⟨u,x,o,g,c⟩=>?_) k rfl));obtain⟨j,e,c,i,q⟩:=c;subst e;cases g with
 |cons r f=>
  cases f;obtain⟨t,rfl⟩:=r;exact call_range_1 (wj o (by lia) (by lia) c i (by simpa using q))
private theorem BV(x:Gl X "range")(w:X.mg "range"=none)(y:PA X [a,b] ta)(v:autoParam (starEach [a,b] X.env=[(false,eval a X.env),(false,eval b X.env)]) dA._auto_1)(d:autoParam (starEach [b] X.env=[(false,eval b X.env)]) dA._auto_1):
 PI X tg (.Call (.Name "range" p) [a,b] [] pos) (Vt ta):=by
 intro c s k H R I h;refine Call_ (ku I x w boot_range (QQ (bF (y pos c s k H _ I h) λB D ⟨A,E,z,l,g⟩=>?_) (by rw[v,d]) (by rw[d];rfl)));obtain⟨i,j,e,⟨g,u,o,n⟩,q⟩:=g;subst e;cases l with
 |cons r f=>
  cases f with
  |cons m f=>
   cases f;obtain⟨t,rfl⟩:=r;obtain⟨C,rfl⟩:=m;exact call_range_2 (wj z g u o n q)
def Zf(f:TI)(g:TG)(h:TS):TS:=λD a H=>f a H λJ k=>∃W:Nat->Nat->St->Hp->Prop,(∃m,W 0 m a k)/\∀i m a H,W i m a H->
 (J.stop i H/\D.nx a H)\/(J.go i H/\∃N:St->Hp->Prop,(∀b c,N b c->∃e,e<m/\W (i+1) e b c)/\∀x c,J.Vq i H x c->g x a c λd j=>h {D with nx:=N,ct:=N,bk:=D.nx} d j)
noncomputable def pZ(a:List Addr)(h:Heap):List (Addr×Obj):=a.filterMap λb=>(h.get? b).map λo=>(b,o)
private theorem iI(c:b∈a)(e:h.get? b=some o):(b,o)∈pZ a h:=O4.mpr ⟨b,c,by rw[e];rfl⟩
private theorem BW(c:p∈pZ a h):p.1∈a/\h.get? p.1=some p.2:=by
 obtain⟨b,d,e⟩:=O4.mp c;cases q:h.get? b with
 |none=>rw[q]at e;cases e
 |some o=>rw[q]at e;have f:(b,o)=p:=Fs e;subst f;exact⟨d,q⟩
private theorem Inv.pinned{f:St}(I:Inv X a f H s)(k:∀b∈c,pY X a H b)(j:∀b∈c,∃o,s.heap.get? b=some o/\∀v,o.data≠.cell v):Inv X (a++pZ c s.heap) f H s:=
 I.z9 λp i=>(Fu.mp i).elim (λz=>I.pin p (FR _ z)) λz=>by obtain⟨g,e⟩:=BW z;obtain⟨n,m,l,_⟩:=k p.1 g;obtain⟨o,h,d⟩:=j p.1 g;rw[e]at h;cases h;exact⟨e,n,m,l,d⟩
private theorem Inv.lG{b:St}(I:Inv X (a++pl) b H s):Inv X a b H s:=I.z9 λp c=>I.pin p (FR _ (IT _ c))
private theorem Ox(M:PassesOwn (model X.prog X.w) X.A X.env X.xe)(hc:X.calm=true)(hi:PI X tg k wi)(hg:PG X tg g)(l:tQ X C tb)
 (hs:autoParam (∀x,foldedSetIterable k X.env x=pure x) dC._auto_1):PS X (.For tg k C [] pos) (Zf wi g tb):=by
 intro a s σ H D I h;refine wpAny_For (bF (hi a s σ H _ I h) λv s1 h1=>bF h1 λitv s2 h2=>?_) hs;obtain⟨it,P,tn,J,H2,e,I2,T,st2,f2,W,⟨m0,w0⟩,E⟩:=h2;subst e;have Z:∀{z:Hp},(∀b∈P,z b=none)->∀b∈P,pY X a z b:=λhn b l=>⟨hn b l,(f2 b l).2⟩;refine codeAny_forLoop_any (λn s'=>∃i j z,Inv X a j z s'/\tn i s'.heap/\(∀b∈P,z b=none)/\W i n j z) ?_ m0 ⟨0,σ,H2,I2,st2,λb l=>(f2 b l).1,w0⟩;rintro n s3 ⟨i,c,Q,I3,st3,O,w3⟩;rcases E i n c Q w3 with⟨F,qn⟩|⟨go,N,hN,K⟩
 .refine TB M (bF (T.done X rfl rfl rfl hc i a s3 c Q X.xe I3 (Z O) st3 F) λr s4 ⟨U,I4⟩=>?_);subst U;exact X9 ⟨c,Q,I4,qn⟩
 .refine TB M (bF (T.item X rfl rfl rfl hc i a s3 c Q X.xe I3 (Z O) st3 go) λr s4 ⟨u,U,h4⟩=>?_);subst U;refine TB M (bF h4 λ_ s5 ⟨x,H5,I5,r5,y5,Y,Yh⟩=>?_);have I5':=I5.pinned (Z Yh) (T.obj _ _ Y);refine TB M (bF (hg _ s5 c H5 x u _ I5' r5 (K x H5 y5)) λ_ s6 ⟨R,H6,I6,q6⟩=>?_);refine TB M (bF (l _ s6 R H6 _ I6 q6) λf S B=>?_);have p:∀{y:St}{t:Hp},Inv X (a++pZ P s5.heap) y t S->N y t->∃m,m<n/\∃i j z,Inv X a j z S/\tn i S.heap/\(∀b∈P,z b=none)/\W i m j z:=λ{y t} q L=>by obtain⟨m',hm,w7⟩:=hN y t L;refine⟨m',hm,i+1,y,t,q.lG,T.keep _ _ _ Y λb l o e=>(q.pin (b,o) (FR _ (FR _ (iI l e)))).1,λb l=>?_,w7⟩;obtain⟨o,e,d⟩:=T.obj _ _ Y b l;exact(q.pin (b,o) (FR _ (FR _ (iI l e)))).2.1
  cases f with
  |next=>obtain⟨y,t,q,L⟩:=B;exact p q L
  |cont=>obtain⟨y,t,q,L⟩:=B;exact p q L
  |brk=>obtain⟨y,t,q,B⟩:=B;exact⟨y,t,q.lG,B⟩
  |ret v=>obtain⟨x7,y,t,q,r7,B⟩:=B;exact⟨x7,y,t,q.lG,r7,B⟩
end
abbrev R2:=V->V->Hp->VK->Prop
def lH(X:Cx)(f:Value->Value->Sem Value)(r:R2):Prop:=
 ∀(a:List (Addr×Obj))(s:Shared)(b:St)(H:Hp)(x y:V)(v u:Value)(Q:VK),Inv X a b H s->RelV x v->RelV y u->r x y H Q->
  wpAny (model X.prog X.w) X.A (f v u) (EP X a b Q) X.xe s
def Zg(X:Cx)(f:Value->Sem Value)(r:V->Hp->VK->Prop):Prop:=
 ∀(a:List (Addr×Obj))(s:Shared)(b:St)(H:Hp)(x:V)(v:Value)(Q:VK),Inv X a b H s->RelV x v->r x H Q->
  wpAny (model X.prog X.w) X.A (f v) (EP X a b Q) X.xe s
def cj(X:Cx)(f:Value)(r:List V->Hp->VK->Prop):Prop:=
 ∀(a:List (Addr×Obj))(s:Shared)(b:St)(H:Hp)(c:List V)(d:List Value)(Q:VK),Inv X a b H s->Vals c d->r c H Q->
  wpAny (model X.prog X.w) X.A (call f d) (EP X a b Q) X.xe s
def tOp(r:R2)(ta b:TE):TE:=λa H Q=>ta a H λx d=>b a d λy c=>r x y c Q
def tUn(r:V->Hp->VK->Prop)(ta:TE):TE:=λa H Q=>ta a H λx b=>r x b Q
def rI(C:Int->Int->Prop)(g:Int->Int->V):R2:=λx y H Q=>∃i j,x=.int i/\y=.int j/\C i j/\Q (g i j) H
def IE(g:Int->Int->V):R2:=λx y H Q=>∃i j,x=.int i/\y=.int j/\Q (g i j) H
def rU(g:Int->V):V->Hp->VK->Prop:=λx H Q=>∃i,x=.int i/\Q (g i) H
section
variable{X:Cx}{a b c:Expr}{ta tb tc:TE}{pos:Pos}
private theorem Zh(r:PE X a ta)(q:PE X b tb){e:St}{R:V->V->Hp->Prop}(I:Inv X d e H s)
 (h:ta e H λx H1=>tb e H1 λy g=>R x y g){f:Value->Value->Sem Value}
 (p:∀v u s2 x y g,Inv X d e g s2->RelV x v->RelV y u->R x y g->wpAny (model X.prog X.w) X.A (f v u) Q X.xe s2):
 wpAny (model X.prog X.w) X.A (eval a X.env) (λv j=>wpAny (model X.prog X.w) X.A (eval b X.env) (λu i=>wpAny (model X.prog X.w) X.A (f v u) Q X.xe i) X.xe j) X.xe s:=by
 refine bF (r d s e H _ I h) λv k ⟨x,H1,z,m,o⟩=>?_;refine bF (q d k e H1 _ z o) λu s2 ⟨y,g,t,l,n⟩=>?_;exact p v u s2 x y g t m l n
private theorem Vu(j:Zg X (unaryOp op) r)(k:PE X a ta):PE X (.UnaryOp op a pos) (tUn r ta):=by intro d s e H Q I h;exact UnaryOp_ (bF (k d s e H _ I h) λv f ⟨x,m,l,g,i⟩=>j d f e m x v Q l g i)
private theorem Zi{g:Int->Int->Int}
 (d:∀(i j:Int)(t u:Tok)(s:Shared)(Q:Value->Shared->Prop)(E:Value->Shared->Prop),C i j->Q (.int (g i j) s.toks) {s with toks:=s.toks+1}->wpAny (model X.prog X.w) X.A (f (.int i t) (.int j u)) Q E s):
 lH X f (rI C λi j=>.int (g i j)):=by
 intro e s o H x y v u Q I m l h;obtain⟨i,j,rfl,rfl,n,q⟩:=h;obtain⟨t,rfl⟩:=m;obtain⟨k,rfl⟩:=l;exact d i j t k s _ _ n ⟨.int (g i j),H,I.tok _,⟨_,rfl⟩,q⟩
private theorem Vv{g:Int->Int->Int}
 (d:∀(i j:Int)(t u:Tok)(s:Shared)(Q:Value->Shared->Prop)(E:Value->Shared->Prop),Q (.int (g i j) s.toks) {s with toks:=s.toks+1}->wpAny (model X.prog X.w) X.A (f (.int i t) (.int j u)) Q E s):
 lH X f (IE λi j=>.int (g i j)):=by
 intro e s n H x y v u Q I m l h;obtain⟨i,j,rfl,rfl,q⟩:=h;obtain⟨t,rfl⟩:=m;obtain⟨k,rfl⟩:=l;exact d i j t k s _ _ ⟨.int (g i j),H,I.tok _,⟨_,rfl⟩,q⟩
private theorem IF{g:Int->Int->Bool}
 (d:∀(i j:Int)(t u:Tok)(s:Shared)(Q:Value->Shared->Prop)(E:Value->Shared->Prop),Q (.bool (g i j)) s->wpAny (model X.prog X.w) X.A (f (.int i t) (.int j u)) Q E s):
 lH X f (IE λi j=>.bl (g i j)):=by
 intro e s n H x y v u Q I m l h;obtain⟨i,j,rfl,rfl,q⟩:=h;obtain⟨t,rfl⟩:=m;obtain⟨k,rfl⟩:=l;exact d i j t k s _ _ ⟨.bl (g i j),H,I,rfl,q⟩
def Ed(i j:Int):Prop:=0<=j/\j<=1000000/\i.natAbs<2^64
private theorem OA:lH X (binaryOp .Add) (IE λi j=>.int (i+j)):=Vv λ_ _ _ _ _ _ _ q=>add_int q
private theorem OB:lH X (binaryOp .Sub) (IE λi j=>.int (i -j)):=Vv λ_ _ _ _ _ _ _ q=>sub_int q
private theorem IG:lH X (binaryOp .Mod) (rI (λ_ j=>j≠0) λi j=>.int (i.fmod j)):=Zi λ_ _ _ _ _ _ _ d q=>mod_int' d q
private theorem OC:lH X (binaryOp .Pow) (rI Ed λi j=>.int (i^j.toNat)):=Zi λ_ _ _ _ _ _ _ d q=>pow_int_small d.1 d.2.1 d.2.2 q
private theorem unI{g:Int->Int}
 (d:∀(i:Int)(t:Tok)(s:Shared)(Q:Value->Shared->Prop)(E:Value->Shared->Prop),Q (.int (g i) s.toks) {s with toks:=s.toks+1}->wpAny (model X.prog X.w) X.A (f (.int i t)) Q E s):
 Zg X f (rU λi=>.int (g i)):=by
 intro e s k H x v Q I j h;obtain⟨i,rfl,q⟩:=h;obtain⟨t,rfl⟩:=j;exact d i t s _ _ ⟨.int (g i),H,I.tok _,⟨_,rfl⟩,q⟩
private theorem OD:Zg X (unaryOp .USub) (rU λi=>.int (-i)):=unI λ_ _ _ _ _ q=>neg_int q
end
noncomputable def OE:V->V->Bool
 |.aN,.aN=>true|.aN,.int _=>true|.int _,.aN=>true|.aN,.bl _=>true|.bl _,.aN=>true|.aN,.str _=>true|.str _,.aN=>true
 |.int _,.int _=>true|.bl _,.bl _=>true|.str _,.str _=>true|.Du _,.Du _=>true
 |.int _,.str _=>true|.str _,.int _=>true|.bl _,.str _=>true|.str _,.bl _=>true
 |_,_=>false
def rEq:R2:=λx y H Q=>OE x y=true/\Q (.bl (decide (x=y))) H
def rNe:R2:=λx y H Q=>OE x y=true/\Q (.bl (!decide (x=y))) H
private theorem Ae:decide (V.int i=V.int j)=(i==j):=by rw[W1];simp
private theorem Ef:decide (V.bl i=V.bl j)=(i==j):=by rw[W1];simp
private theorem Af:decide (V.str i=V.str j)=(i==j):=by rw[W1];simp
private theorem Ag:decide (V.Du i=V.Du j)=(i.toList==j.toList):=by rw[W1];cases i;cases j;simp
section
variable{X:Cx}{a b c:Expr}{ta tb tc:TE}{pos:Pos}
private theorem aQ{f:St}(I:Inv X d f H s)(q:Q (.bl k) H)(e:k=g):EP X d f Q (.bool g) s:=by subst e;exact⟨.bl k,H,I,rfl,q⟩
private theorem Vw:lH X (compareOp .Eq) rEq:=by
 intro k s l H x y v u Q I g d h;obtain⟨f,q⟩:=h;cases x with
 |aN=>
  cases g;cases y with
  |aN=>cases d;exact PySem.EqNone.eq_none_none (aQ I q (by simp))
  |bl j=>cases d;exact PySem.EqNone.eq_none_bool (aQ I q (by simp))
  |int j=>obtain⟨e,rfl⟩:=d;exact PySem.EqNone.eq_none_int (aQ I q (by simp))
  |str j=>obtain⟨e,rfl⟩:=d;exact PySem.EqNone.eq_none_str (aQ I q (by simp))
  |_=>exact absurd (show false=true from f) Fn
 |bl i=>
  cases g;cases y with
  |aN=>cases d;exact PySem.EqNone.eq_bool_none (aQ I q (by simp))
  |bl j=>cases d;exact eq_bool (aQ I q Ef)
  |str j=>obtain⟨e,rfl⟩:=d;exact PySem.EqMixed.eq_bool_str (aQ I q (by simp))
  |_=>exact absurd (show false=true from f) Fn
 |int i=>
  obtain⟨t,rfl⟩:=g;cases y with
  |aN=>cases d;exact PySem.EqNone.eq_int_none (aQ I q (by simp))
  |int j=>obtain⟨e,rfl⟩:=d;exact eq_int (aQ I q Ae)
  |str j=>obtain⟨e,rfl⟩:=d;exact PySem.EqMixed.eq_int_str (aQ I q (by simp))
  |_=>exact absurd (show false=true from f) Fn
 |str i=>
  obtain⟨t,rfl⟩:=g;cases y with
  |aN=>cases d;exact PySem.EqNone.eq_str_none (aQ I q (by simp))
  |bl j=>cases d;exact PySem.EqMixed.eq_str_bool (aQ I q (by simp))
  |int j=>obtain⟨e,rfl⟩:=d;exact PySem.EqMixed.eq_str_int (aQ I q (by simp))
  |str j=>obtain⟨e,rfl⟩:=d;exact eq_str (aQ I q Af)
  |_=>exact absurd (show false=true from f) Fn
 |Du i=>
  obtain⟨t,rfl⟩:=g;cases y with
  |Du j=>obtain⟨e,rfl⟩:=d;exact PySem.W.eq_bytes (aQ I q Ag)
  |_=>exact absurd (show false=true from f) Fn
 |_=>cases y<;>exact absurd (show false=true from f) Fn
private theorem Vx:lH X (compareOp .NotEq) rNe:=by
 intro k s l H x y v u Q I g d h;obtain⟨f,q⟩:=h;cases x with
 |aN=>
  cases g;cases y with
  |aN=>cases d;exact PySem.EqNone.ne_none_none (aQ I q (by simp))
  |bl j=>cases d;exact PySem.EqNone.ne_none_bool (aQ I q (by simp))
  |int j=>obtain⟨e,rfl⟩:=d;exact PySem.EqNone.ne_none_int (aQ I q (by simp))
  |str j=>obtain⟨e,rfl⟩:=d;exact PySem.EqNone.ne_none_str (aQ I q (by simp))
  |_=>exact absurd (show false=true from f) Fn
 |bl i=>
  cases g;cases y with
  |aN=>cases d;exact PySem.EqNone.ne_bool_none (aQ I q (by simp))
  |bl j=>cases d;exact ne_bool (aQ I q (IR not Ef))
  |str j=>obtain⟨e,rfl⟩:=d;exact PySem.EqMixed.ne_bool_str (aQ I q (by simp))
  |_=>exact absurd (show false=true from f) Fn
 |int i=>
  obtain⟨t,rfl⟩:=g;cases y with
  |aN=>cases d;exact PySem.EqNone.ne_int_none (aQ I q (by simp))
  |int j=>obtain⟨e,rfl⟩:=d;exact ne_int (aQ I q (IR not Ae))
  |str j=>obtain⟨e,rfl⟩:=d;exact PySem.EqMixed.ne_int_str (aQ I q (by simp))
  |_=>exact absurd (show false=true from f) Fn
 |str i=>
  obtain⟨t,rfl⟩:=g;cases y with
  |aN=>cases d;exact PySem.EqNone.ne_str_none (aQ I q (by simp))
  |bl j=>cases d;exact PySem.EqMixed.ne_str_bool (aQ I q (by simp))
  |int j=>obtain⟨e,rfl⟩:=d;exact PySem.EqMixed.ne_str_int (aQ I q (by simp))
  |str j=>obtain⟨e,rfl⟩:=d;exact ne_str (aQ I q (IR not Af))
  |_=>exact absurd (show false=true from f) Fn
 |Du i=>
  obtain⟨t,rfl⟩:=g;cases y with
  |Du j=>obtain⟨e,rfl⟩:=d;exact PySem.W.ne_bytes (aQ I q (IR not Ag))
  |_=>exact absurd (show false=true from f) Fn
 |_=>cases y<;>exact absurd (show false=true from f) Fn
private theorem Vy:lH X (compareOp .Lt) (IE λi j=>.bl (decide (i<j))):=IF λ_ _ _ _ _ _ _ q=>lt_int q
private theorem Vz:lH X (compareOp .LtE) (IE λi j=>.bl (decide (i<=j))):=IF λ_ _ _ _ _ _ _ q=>le_int q
private theorem VC:lH X (compareOp .Gt) (IE λi j=>.bl (decide (j<i))):=IF λ_ _ _ _ _ _ _ q=>gt_int q
private theorem VD:lH X (compareOp .GtE) (IE λi j=>.bl (decide (j<=i))):=IF λ_ _ _ _ _ _ _ q=>ge_int q
private theorem BX:lH X (compareOp .In) (λx y H Q=>∃i j,x=.str i/\y=.str j/\Q (.bl (!(Builtin.Str.occurrences j i 0 j.length 1).isEmpty)) H):=by intro d s g H x y v u Q I f e h;obtain⟨i,j,rfl,rfl,q⟩:=h;obtain⟨t,rfl⟩:=f;obtain⟨k,rfl⟩:=e;exact in_str (aQ I q rfl)
private theorem OG:lH X (compareOp .Is) (λx y H Q=>y=.aN/\Q (.bl (decide (x=.aN))) H):=by
 intro e s g H x y v u Q I d f h;obtain⟨rfl,q⟩:=h;cases f;refine is_none_gen (aQ I q ?_);cases x<;>first
  |(cases d;rfl)
  |(obtain⟨t,rfl⟩:=d;rfl)
private theorem II:lH X (compareOp .IsNot) (λx y H Q=>y=.aN/\Q (.bl (!decide (x=.aN))) H):=by
 intro e s g H x y v u Q I d f h;obtain⟨rfl,q⟩:=h;cases f;refine isnot_none_gen (aQ I q ?_);cases x<;>first
  |(cases d;rfl)
  |(obtain⟨t,rfl⟩:=d;rfl)
private theorem Eg(b:Expr)(h:autoParam (op≠.In) dB._auto_1)(d:autoParam (op≠.NotIn) dB._auto_1):behindInMarks op b=false:=by
 have f:(op==CmpOp.In)=false:=by cases op<;>first|rfl|exact absurd rfl h
 have e:(op==CmpOp.NotIn)=false:=by cases op<;>first|rfl|exact absurd rfl d
 cases b<;>simp[behindInMarks,f,e]
private theorem mQ:(sizeLine:Nat)<2^63:=by rw[sizeLine_eq];decide
private theorem yt:lH X (binaryOp .Add) (λx y H Q=>∃i j,x=.str i/\y=.str j/\i.length+j.length<=sizeLine/\Q (.str (i++j)) H):=by intro d s k H x y v u Q I g f h;obtain⟨i,j,rfl,rfl,hz,q⟩:=h;obtain⟨t,rfl⟩:=g;obtain⟨e,rfl⟩:=f;exact add_str (λe l=>⟨.str (i++j),H,I.tok _,⟨_,rfl⟩,q⟩) hz
private theorem vals1(r:Vals [x] us):∃u,us=[u]/\RelV x u:=by
 cases r with
 |cons e d=>cases d;exact⟨_,rfl,e⟩
private theorem vals2(r:Vals [x,y] us):∃u w',us=[u,w']/\RelV x u/\RelV y w':=by
 cases r with
 |cons g f=>
  cases f with
  |cons e d=>cases d;exact⟨_,_,rfl,g,e⟩
private theorem Eh:cj X (.builtin "abs") (λd H Q=>∃i,d=[.int i]/\Q (.int (if i<0 then-i else i)) H):=by intro e s f H d g Q I r h;obtain⟨i,rfl,q⟩:=h;obtain⟨u,rfl,t,rfl⟩:=vals1 r;exact call_abs_int λu j=>⟨.int (if i<0 then-i else i),H,I.tok _,⟨_,rfl⟩,q⟩
private theorem BZ(g:X.calm=true):cj X (.builtin "max") (λe H Q=>∃i j,e=[.int i,.int j]/\Q (.int (if j>i then j else i)) H):=by
 intro f s l H e n Q I r h;obtain⟨i,j,rfl,q⟩:=h;obtain⟨u,m,rfl,⟨t,rfl⟩,⟨p,rfl⟩⟩:=vals2 r;refine max_two_ints (I.ok.hd g) λv o k=>⟨_,H,I.kept k,?_,q⟩;by_cases d:j>i
 .rw[BM d,BM d];exact⟨_,rfl⟩
 .rw[B1 d,B1 d];exact⟨_,rfl⟩
private theorem B0:cj X (.type "int") (λd H Q=>(∃i,d=[.int i]/\Q (.int i) H)\/∃k,d=[.bl k]/\Q (.int (if k then 1 else 0)) H):=by
 intro e s g H d j Q I r h;rcases h with⟨i,rfl,q⟩|⟨k,rfl,q⟩
 .obtain⟨u,rfl,t,rfl⟩:=vals1 r;exact call_int_int ⟨.int i,H,I,⟨_,rfl⟩,q⟩
 .obtain⟨u,rfl,f⟩:=vals1 r;cases f;exact call_int_bool ⟨.int (if k then 1 else 0),H,I.tok _,⟨_,rfl⟩,q⟩
private theorem uL:cj X (.type "str") (λd H Q=>∃i,d=[.int i]/\i.natAbs.log2<1920/\Q (.str (toString i)) H):=by intro e s f H d g Q I r h;obtain⟨i,rfl,hz,q⟩:=h;obtain⟨u,rfl,t,rfl⟩:=vals1 r;exact PySem.P.str_of_int hz ⟨.str _,H,I.tok _,⟨_,rfl⟩,q⟩
end
structure yu(h:Heap)(x dx C:Addr)(mA:Str->Option Value):Prop where
 obj:h.get? x=some (instObj C dx)
 ns:h.Ns1 dx mA
 ne:dx≠x
private theorem B3{h:Heap}(n:h.Ns1 g d):∃c,h.get? g=some c/\∀name,lookIn name c=some (d name):=by
 obtain⟨o,f,p,j,hd,l,_,k⟩:=n;refine⟨o,j,λname=>?_⟩;have e:=k name;unfold nsFind findBy at e;rw[<-Array.find?_toList]at e;unfold lookIn;rw[hd];dsimp only;split
 .rename_i y q
  rw[q]at e;exact IR some e
 .rename_i q
  rw[q]at e;have a:f.toList.any (·.refKey)=false:=by rw[eQ];intro y i;obtain⟨z,t,b⟩:=l y (Array.mem_toList_iff.mp i);simp[DictEntry.refKey,b]
  have m:¬f.toList.any (·.refKey)=true:=by rw[a];exact Fn
  rw[B1 m];exact IR some e
private theorem yu.look(I:yu h x c C b):∃a,PySem.W.InstAt h x (instObj C c) C (some a)/\∀name,lookIn name a=some (b name):=
 let⟨a,ho,hl⟩:=B3 I.ns
 ⟨a,⟨I.obj,rfl,rfl,ho⟩,hl⟩
section
variable{prog:Program}{w:World}{A:Around}{E:Value->Shared->Prop}{s:Shared}{K:Frag}{x dx C f:Addr}{mA:Str->Option Value}{name:Str}{v:Value}
private theorem get_map(X:K.In s.heap)(I:yu s.heap x dx C mA)(g:plainGet K C name=true)(e:hasDictIn K C=true)
 (i:findIn K (.ref C) name=some none)(c:mA name=some v)(b:PySem.W.handedIn v=true)(h:Q v {s with toks:=s.toks+1}):
 wpAny (model prog w) A (getAttr (.ref x) name a) Q E s:=by
 obtain⟨j,J,d⟩:=I.look;exact PySem.W.get_value X J (plainGet_of g).1 (PySem.W.findObj_own e i rfl (by rw[d,c])) b h
private theorem Ei(X:K.In s.heap)(I:yu s.heap x dx C mA)(a:plainGet K C name=true)
 (g:findIn K (.ref C) name=some (some (.ref f)))(d:isFn K (.ref f)=true)(c:mA name=none)(h:Q (.ref f,[.ref x]) s):
 wpAny (model prog w) A (getMethod (.ref x) name pl) Q E s:=by
 obtain⟨b,J,e⟩:=I.look;exact PySem.W.method_fn X J (plainGet_of a).1 (plainGet_of a).2 g (GT.mp d) (by show(lookIn name b).map (·.isSome)=some false;rw[e,c];rfl) h
private theorem IJ(X:K.In s.heap)(I:yu s.heap x dx C mA)
 (n:findIn K (.ref C) "__setattr__"=some (some (.builtin "object.__setattr__")))(o:plainOver K C=true)(m:takerIn K C name=some none)(p:hasDictIn K C=true)
 (l:PySem.Within mA ns)(hsz:ns.length<=sizeLine)
 (h:∀h',yu h' x dx C (λy=>if y=name then some v else mA y)->Heap.SameBut dx s.heap h'->Q () {s with heap:=h',toks:=s.toks+2}):
 wpAny (model prog w) A (setAttr (.ref x) name v) Q E s:=by
 obtain⟨z,J,D⟩:=I.look;refine PySem.W.set_plain X J n (PySem.W.osa_open (s:={s with toks:=s.toks+1}) (r:=none) X J o m λb=>?_);obtain⟨F,q,i⟩:=PySem.W.any_some p;have k:s.heap.get? x=some ⟨.ref C,some dx,.plain,#[]⟩:=I.obj;refine DO (GE (DO (DO (wpAny_loadPart k (DO (PySem.W.Looks.here (s:={s with toks:=s.toks+1}) (PySem.W.looks_clsIn X q) ?_))))));rw[i];refine GE (a:=some dx) (DO (GE (DO ?_)));refine wpAny_nsSet1 (s:={s with toks:=s.toks+1}) I.ns λh' d c=>?_;obtain⟨B,t,u,e,g,j⟩:=d.count (PySem.Within.cons name v l);refine DO (wpAny_lookBehind e (by rw[g];exact pastItsLine_dict (FV j (by rw[Ar];lia))) ?_);exact GE (h _ ⟨(c.2 _ (Oy I.ne)).trans I.obj,d,I.ne⟩ c)
private theorem Ej(X:K.In s.heap)(c:makesIn K C=true)
 (e:findIn K (.ref C) "__init__"=some (some (.ref f)))(i:PySem.W.typeIn K (.ref f)=some (.type "function"))
 (h:codeAny (model prog w) (A.under (.builtin "type.__call__" ⟨.ref C::vs,b⟩)) (.call (.ref f) ⟨.ref (s.heap.objs.size+1)::vs,b⟩) (PySem.W.InitBack (s.heap.objs.size+1) R)
   {s with heap:=(s.heap.push emptyDict).push (instObj C s.heap.objs.size)}):
 codeAny (model prog w) A (.call (.ref C) ⟨vs,b⟩) R s:=by
 obtain⟨k,g,d,t,j⟩:=s;exact PySem.W.make_core (PySem.W.makes_of X c) (Ya X e) (λa=>PySem.W.bind_fn X a i) (.inl rfl) h
end
noncomputable def iJ(f:Str)(v:V):List (Str×V)->List (Str×V)
 |[]=>[(f,v)]
 |(g,x)::r=>if g=f then(g,v)::r else(g,x)::iJ f v r
private theorem nQ(f g:Str)(v:V):∀c:List (Str×V),(iJ f v c).lookup g=if g=f then some v else c.lookup g
 |[]=>by
  show Lx g [(f,v)]=_;by_cases h:g=f
  .have a:(g==f)=true:=GT.mpr h;simp only[Lx,a,BM h]
  .have a:(g==f)=false:=NM.mpr h;simp only[Lx,a,B1 h]
 |(k,x)::r=>by
  have d:=nQ f g v r;rw[show iJ f v ((k,x)::r)=(if k=f then(k,v)::r else(k,x)::iJ f v r)from rfl];by_cases b:k=f
  .rw[BM b];by_cases h:g=k
   .have a:(g==k)=true:=GT.mpr h;simp only[Lx,a,BM (h.trans b)]
   .have a:(g==k)=false:=NM.mpr h;simp only[Lx,a,B1 (λe:g=f=>h (e.trans b.symm))]
  .rw[B1 b];by_cases h:g=k
   .have a:(g==k)=true:=GT.mpr h;simp only[Lx,a,B1 (λe:g=f=>b (h.symm.trans e))]
   .have a:(g==k)=false:=NM.mpr h;simp only[Lx,a];exact d
private theorem mR(f:Str)(v:V):∀b:List (Str×V),f∈(iJ f v b).map (·.1)/\∀g,g∈b.map (·.1)->g∈(iJ f v b).map (·.1)
 |[]=>⟨by simp[iJ],λg h=>by simp at h⟩
 |(k,x)::r=>by
  obtain⟨i1,c⟩:=mR f v r;rw[show iJ f v ((k,x)::r)=(if k=f then(k,v)::r else(k,x)::iJ f v r)from rfl];by_cases a:k=f
  .rw[BM a];subst a;exact⟨by simp,λg h=>by simpa using h⟩
  .rw[B1 a];refine⟨?_,λg h=>?_⟩
   .rw[Fh];exact AS _ i1
   .rw[Fh]at h⊢;rcases Do.mp h with e|e
    .exact Do.mpr (.inl e)
    .exact AS _ (c g e)
private theorem nR(f:Str)(v:V):∀b:List (Str×V),(iJ f v b).length<=b.length+1
 |[]=>by simp[iJ]
 |(k,x)::r=>by
  have ih:=nR f v r;rw[show iJ f v ((k,x)::r)=(if k=f then(k,v)::r else(k,x)::iJ f v r)from rfl];by_cases a:k=f
  .rw[BM a,Ar,Ar];lia
  .rw[B1 a,Ar,Ar];lia
private theorem iF.some_of(r:iF (some v) o):∃u,o=some u/\RelV v u:=by
 cases o with
 |none=>exact(show False from r).elim
 |some u=>exact⟨u,rfl,r⟩
private theorem iF.none_of(r:iF none o):o=none:=by
 cases o with
 |none=>rfl
 |some u=>exact(show False from r).elim
private theorem B4(r:RelV v u):PySem.W.handedIn u=true:=by
 cases v with
 |aN=>cases(show u=Value.none from r);rfl
 |bl b=>cases(show u=Value.bool b from r);rfl
 |int i=>obtain⟨t,e⟩:=(show∃t,u=Value.int i t from r);cases e;rfl
 |str x=>obtain⟨t,e⟩:=(show∃t,u=Value.str x t from r);cases e;rfl
 |Du b=>obtain⟨t,e⟩:=(show∃t,u=Value.bytes b t from r);cases e;rfl
 |Od b=>obtain⟨t,e⟩:=(show∃t,u=Value.float b t from r);cases e;rfl
 |ref a=>cases(show u=Value.ref a from r);rfl
 |ty n=>cases(show u=Value.type n from r);rfl
section
variable{P:Program}{w:World}{H H':Hp}{h h':Heap}{a C dx:Addr}{fs fs':List (Str×V)}
private theorem oV(c:gH P w H h)(e:H a=some (.ins C dx fs)):∃b,yu h a dx C b/\(∀f,iF (fs.lookup f) (b f))/\PySem.Within b (fs.map (·.1))/\fs.length<=1000/\H dx=some (.own a):=by obtain⟨d,z,i,g,b,n,r,q⟩:=(show bH P w H h a (.ins C dx fs)from c a _ e);exact⟨b,⟨g,n,i⟩,r,q,z,d⟩
end
structure IK(K:Frag)(C:Addr):Prop where
 pg:plainGet K C Str.empty=true
 hd:hasDictIn K C=true
 po:plainOver K C=true
 sa:findIn K (.ref C) "__setattr__"=some (some (.builtin "object.__setattr__"))
private theorem IK.get{K:Frag}(c:IK K C)(f:Str):plainGet K C f=true:=c.pg
def jk(K:Frag)(C:Addr)(f:Str):Prop:=findIn K (.ref C) f=some none
private theorem jk.VF{K:Frag}(n:jk K C f):takerIn K C f=some none:=by unfold takerIn;rw[show findIn K (.ref C) f=some none from n];rfl
structure Meth(K:Frag)(C:Addr)(m:Str)(f:Addr):Prop where
 at_:findIn K (.ref C) m=some (some (.ref f))
 fn:isFn K (.ref f)=true
 kp:keepIn K (.ref f)=true
section
variable{X:Cx}{pins:List (Addr×Obj)}{σ:St}{H:Hp}{s:Shared}{a C dx:Addr}{fs:List (Str×V)}{f:Str}{v:V}{A:Around}{E:Value->Shared->Prop}
private theorem yv(I:Inv X pins σ H s)(e:H a=some (.ins C dx fs))(c:IK X.K C)(n:jk X.K C f)(l:fs.lookup f=some v)
 (h:∀u s',Inv X pins σ H s'->RelV v u->Q u s'):wpAny (model X.prog X.w) A (getAttr (.ref a) f b) Q E s:=by
 obtain⟨g,O,r,_,_,_⟩:=oV I.hok e;obtain⟨u,i,d⟩:=iF.some_of (v:=v) (o:=g f) (by rw[<-l];exact r f);exact get_map I.jh O (c.get f) c.hd n i (B4 d) (h u _ (I.tok _) d)
private theorem iK(I:Inv X pins σ H s)(e:H a=some (.ins C dx fs))(c:IK X.K C)(k:Meth X.K C m g)(l:fs.lookup m=none)
 (h:Q (.ref g,[.ref a]) s):wpAny (model X.prog X.w) A (getMethod (.ref a) m pl) Q E s:=by
 obtain⟨b,O,r,_,_,_⟩:=oV I.hok e;have d:b m=none:=iF.none_of (by rw[<-l];exact r m);exact Ei I.jh O (c.get m) k.at_ k.fn d h
private theorem yw(I:Inv X pins σ H s)(e:H a=some (.ins C dx fs))(c:IK X.K C)(n:jk X.K C f)(D:fs.length<1000)(m:RelV y u)
 (h:∀s',Inv X pins σ (upd H a (.ins C dx (iJ f y fs))) s'->Q () s'):wpAny (model X.prog X.w) A (setAttr (.ref a) f u) Q E s:=by
 obtain⟨j,O,r,i,_,k⟩:=oV I.hok e;have hz:(fs.map (·.1)).length<=sizeLine:=by rw[FK,sizeLine_eq];lia
 refine IJ I.jh O c.sa c.po n.VF c.hd i hz λB d l=>h _ ?_;have hd:∃o,B.get? dx=some o:=let⟨o,_,_,e',_⟩:=d.ns;⟨o,e'⟩
 refine I.write (x:=a) (e:=dx) (by rw[e];exact FF) (.inr k) (λb q t z=>(l.2 b t).trans z) hd ?_;refine⟨by rw[ak O.ne];exact k,?_,O.ne,d.obj,_,d.ns,λg=>?_,λg p=>?_⟩
 .have:=nR f y fs;lia
 .show iF ((iJ f y fs).lookup g) (if g=f then some u else j g);rw[nQ];by_cases q:g=f
  .rw[BM q,BM q];exact m
  .rw[B1 q,B1 q];exact r g
 .by_cases q:g=f
  .rw[q];exact(mR f y fs).1
  .refine(mR f y fs).2 g (i g λz=>p ?_);show(if g=f then some u else j g)=none;rw[B1 q];exact z
private theorem Inv.made(I:Inv X pins σ H s):Inv X pins σ (upd (upd H s.heap.objs.size (.own (s.heap.objs.size+1))) (s.heap.objs.size+1) (.ins C s.heap.objs.size []))
 {s with heap:=(s.heap.push emptyDict).push (instObj C s.heap.objs.size)}:=by
 have d:(s.heap.push emptyDict).get? s.heap.objs.size=some emptyDict:=Hb s.heap rfl;have j:((s.heap.push emptyDict).push (instObj C s.heap.objs.size)).get? (s.heap.objs.size+1)=some (instObj C s.heap.objs.size):=by have:=Hb (s.heap.push emptyDict) (o:=instObj C s.heap.objs.size) rfl;rwa [Heap.size_push]at this
 have i:(s.heap.push emptyDict).Ns s.heap.objs.size (λ_=>none):=⟨emptyDict,#[],_,d,rfl,(λe h=>absurd h (by simp)),λ_=>rfl⟩;have k:=I.laid (a:=s.heap.objs.size) (o:=.own (s.heap.objs.size+1)) (h':=s.heap.push emptyDict) (t':=s.toks) (λb u q=>Bi _ q) (BY _) ⟨_,d⟩;refine k.laid (a:=s.heap.objs.size+1) (o:=.ins C s.heap.objs.size []) (t':=s.toks) (λb u q=>Bi _ q) (Vf (Heap.size_push _ _)) ?_;have c:s.heap.objs.size≠s.heap.objs.size+1:=Hk (Xc _);refine⟨by rw[ak c,az],OF _,c,j,λ_=>none,(Heap.Ns1.of_empty i).at λo q=>Bi _ q,λ_=>FF,λy g=>absurd rfl g⟩
private theorem IL(c:attributeBase e f env (eval e env)=eval e env)
 (h:wpAny (model prog w) A (eval e env) (λo b=>wpAny (model prog w) A (getAttr o f true) Q E b) E s):wpAny (model prog w) A (eval (.Attribute e f pos) env) Q E s:=
 Attribute_any_ h (by rw[arm_eval_Attribute,c])
end
def Zj(K:Frag)(ta:TE)(f:Str):TE:=λd H Q=>ta d H λx c=>∃a C e b v,x=.ref a/\c a=some (.ins C e b)/\IK K C/\jk K C f/\b.lookup f=some v/\Q v c
def VG(K:Frag)(ta g:TE)(f:Str):TS:=λD b H=>g b H λy h=>ta b h λx e=>∃a C d c,x=.ref a/\e a=some (.ins C d c)/\IK K C/\jk K C f/\c.length<1000/\
 D.nx b (upd e a (.ins C d (iJ f y c)))
section
variable{X:Cx}{o e value:Expr}{f:Str}{pos pos' tpos:Pos}{ta tv:TE}
private theorem El(he:PE X e ta)(j:attributeBase e f X.env (eval e X.env)=eval e X.env):PE X (.Attribute e f pos) (Zj X.K ta f):=by intro b s d H Q I h;refine IL j (bF (he b s d H _ I h) λu w hz=>?_);obtain⟨x,r,p,g,a,C,z,y,v,ex,k,c,n,l,q⟩:=hz;subst ex;obtain rfl:u=Value.ref a:=g;exact yv p k c n l λt s2 m i=>⟨v,r,m,i,q⟩
private theorem mT(t:PE X o ta)(p:PE X value tv)(r:swapsWith value (some (.Attribute o f pos')) pos.line X.env=pure false):PS X (.Assign [.Attribute o f pos'] value pos) (VG X.K ta tv f):=by intro b s d H D I h;refine plainObj_wpAny_Assign_Attribute (bF (p b s d H _ I h) λu g ⟨y,B,A,i,q⟩=>bF (t b g d B _ A q) λm s2 hz=>?_) r;obtain⟨x,J,z,j,a,C,F,E,ex,v,c,n,l,k⟩:=hz;subst ex;obtain rfl:m=Value.ref a:=j;exact yw z v c n l i λs3 w=>⟨d,_,w,k⟩
end
section
variable{X:Cx}{pins:List (Addr×Obj)}{σ:St}{H:Hp}{s:Shared}{A:Around}{E:Value->Shared->Prop}{Q:Value->Shared->Prop}{c:Value}{b:Bool}
inductive ou(K:Frag)(H:Hp):V->Value->Prop where
 |aN:ou K H .aN (.type "NoneType")
 |bl (x:Bool):ou K H (.bl x) (.type "bool")
 |int (i:Int):ou K H (.int i) (.type "int")
 |str (x:Str):ou K H (.str x) (.type "str")
 |Od (x:UInt64):ou K H (.Od x) (.type "float")
 |lst {a:Addr} {xs:List V} (e:H a=some (.lst xs)):ou K H (.ref a) (.type "list")
 |i6 {a:Addr} {o:Obj} {xs:List V} (e:H a=some (.i6 o (.lst xs))):ou K H (.ref a) (.type "list")
 |tup {a:Addr} {xs:List V} (e:H a=some (.tup xs)):ou K H (.ref a) (.type "tuple")
 |dK {a:Addr} {kvs:List (Key×V)} (e:H a=some (.dK kvs)):ou K H (.ref a) (.type "dict")
 |dT {a:Addr} {kvs:List (List Key×V)} (e:H a=some (.dT kvs)):ou K H (.ref a) (.type "dict")
 |ins {a C dx:Addr} {fs:List (Str×V)} (e:H a=some (.ins C dx fs)) (cl:IK K C) (ha:findIn K (.ref C) "__class__"=some (some (.builtin "object.__class__")))
   (hn:PySem.W.specialIn K (.builtin "object.__class__") "__get__"=some (some (.builtin "getset_descriptor.__get__"))) (htk:PySem.W.takesIn K (.builtin "object.__class__")=some true)
   (hm:mroIn K C (.type "object")=some true):ou K H (.ref a) (.ref C)
private theorem B5(I:Inv X pins σ H s)(d:RelV x u)(v:ou X.K H x t)(e:kitOne X.K t c=some b)(h:∀B,Q (.bool b) {s with toks:=B}):
 wpAny (model X.prog X.w) A (call (.builtin "isinstance") [u,c]) Q E s:=by
 cases v with
 |aN=>cases(show u=Value.none from d);exact NA PySem.W.kitx_none I.jh FF e (λz=>nomatch z) h
 |bl y=>cases(show u=Value.bool y from d);exact NA PySem.W.kitx_bool I.jh FF e (λz=>nomatch z) h
 |int i=>obtain⟨t,q⟩:=(show∃t,u=Value.int i t from d);cases q;exact NA PySem.W.kitx_int I.jh FF e (λz=>nomatch z) h
 |str y=>obtain⟨t,q⟩:=(show∃t,u=Value.str y t from d);cases q;exact NA PySem.W.kitx_str I.jh FF e (λz=>nomatch z) h
 |Od y=>obtain⟨t,q⟩:=(show∃t,u=Value.float y t from d);cases q;exact NA PySem.W.kitx_float I.jh FF e (λz=>nomatch z) h
 |@lst a k f=>
  cases(show u=Value.ref a from d);obtain⟨_,_,n,_,g⟩:=(show bH X.prog X.w H s.heap a (.lst k)from I.hok a _ f);exact NA PySem.W.kitx_list I.jh ⟨_,g,rfl⟩ e (λz=>nomatch z) h
 |@i6 a D k f=>
  cases(show u=Value.ref a from d);obtain⟨_,_,_,n,_,g⟩:=(show bH X.prog X.w H s.heap a (.i6 D (.lst k))from I.hok a _ f);exact NA PySem.W.kitx_list I.jh ⟨_,g,rfl⟩ e (λz=>nomatch z) h
 |@tup a k f=>
  cases(show u=Value.ref a from d);obtain⟨_,_,_,p⟩:=(show bH X.prog X.w H s.heap a (.tup k)from I.hok a _ f);obtain⟨o,g,l,_⟩:=p;exact NA PySem.W.kitx_tuple I.jh ⟨o,g,l⟩ e (λz=>nomatch z) h
 |@dK a j f=>
  cases(show u=Value.ref a from d);obtain⟨_,_,R,_,p⟩:=(show bH X.prog X.w H s.heap a (.dK j)from I.hok a _ f);obtain⟨o,N,P,g,l,_⟩:=p;exact NA PySem.W.kitx_dict I.jh ⟨o,g,l.1⟩ e (λz=>nomatch z) h
 |@dT a j f=>
  cases(show u=Value.ref a from d);obtain⟨_,_,k,_,o,N,P,g,l,_⟩:=(show bH X.prog X.w H s.heap a (.dT j)from I.hok a _ f);exact NA PySem.W.kitx_dict I.jh ⟨o,g,l.1⟩ e (λz=>nomatch z) h
 |@ins a C Y U f r M F m L=>
  cases(show u=Value.ref a from d);obtain⟨T,O,_⟩:=oV I.hok f;obtain⟨S,J,_⟩:=O.look;exact NA (PySem.W.kitx_own (r.get _) r.hd M F m L) I.jh J e (λz=>nomatch z) h
end
structure bZ(k:Nat)(A:Around):Prop where
 hd:A.handled=none
 dp:A.depth+k+120<recursionLimit
 un:A.units+8*k+200<cLine
private theorem bZ.mono(r:bZ k A)(h:j<=k):bZ j A:=⟨r.hd,by have:=r.dp;lia,by have:=r.un;lia⟩
private theorem bZ.deeper(r:bZ (k+1) A)(env:Env):bZ k (A.deeper env):=
 ⟨r.hd,by have:=r.dp;show A.depth+1+k+120<_;lia,by have:=r.un;show A.units+3+8*k+200<_;lia⟩
private theorem yx{A:Around}:(A.under (.builtin "type.__call__" ⟨.ref C::us,a⟩)).depth=A.depth+1:=by first|rfl|simp[Around.under,Code.weight,Code.isCreation,Code.isGuard,Code.isCaller,Code.frames,Code.isFrame,guardIds]
private theorem yy{A:Around}:(A.under (.builtin "type.__call__" ⟨.ref C::us,a⟩)).units=A.units+1:=by first|rfl|simp[Around.under,Code.cUnits,Code.frames,Code.isFrame]
private theorem bZ.make(r:bZ (k+1) A)(C:Addr)(us:List Value)(a:List (Str×Value)):bZ k (A.under (.builtin "type.__call__" ⟨.ref C::us,a⟩)):=
 ⟨r.hd,by have:=r.dp;rw[yx];lia,by have:=r.un;rw[yy];lia⟩
private theorem bZ.depth(r:bZ k A):A.depth<recursionLimit:=by have:=r.dp;lia
private theorem bZ.units(r:bZ k A):A.units+64<cLine:=by have:=r.un;lia
def B6:TA:=λ_ H Q=>Q [] H
def tR(ta:TE)(c:TA):TA:=λa H Q=>ta a H λx e=>c a e λb d=>Q (x::b) d
section
variable{X:Cx}{e:Expr}{es:List Expr}{te:TE}{t:TA}{pos:Pos}
private theorem bV:PA X [] B6:=λ_ _ _ _ H Q I h=>Calls.spliced_nil ⟨[],H,I,.nil,h⟩
private theorem aS(m:PE X e te)(l:PA X es t)(k:autoParam (starEach (e::es) X.env=(false,eval e X.env)::starEach es X.env) dA._auto_1):PA X (e::es) (tR te t):=by intro pos a s b H Q I h;rw[k];show wpAny _ _ (spliced ((false,eval e X.env)::backTo pos (starEach es X.env))) _ _ s;refine Calls.spliced_cons (bF (m a s b H _ I h) λu d ⟨x,q,o,g,j⟩=>?_);exact bF (l pos a d b q _ o j) λr s2 ⟨c,p,n,f,i⟩=>⟨x::c,p,n,.cons g f,i⟩
def Zk(t:TA):TE:=λc H Q=>t c H λa b=>a.length<=sizeLine/\∀p,b p=none->Q (.ref p) (upd b p (.tup a))
def Zl(t:TA):TE:=λc H Q=>t c H λa b=>a.length<=sizeLine/\∀p,b p=none->Q (.ref p) (upd b p (.lst a))
private theorem Em(h:PA X es t):PE X (.Tuple es j pos) (Zk t):=by intro a s g H Q I l;refine wpAny_Tuple_spliced (bF (h pos a s g H _ I l) λk c ⟨i,f,d,r,z,q⟩=>⟨by rw[<-r.length];exact z,?_⟩);have m:f c.heap.objs.size=none:=d.hok.fresh (BY _);refine⟨.ref c.heap.objs.size,upd f c.heap.objs.size (.tup i),d.laid (t':=c.toks) (λb u e=>Bi _ e) (BY _) ?_,rfl,q _ m⟩;exact⟨z,k,r,⟨_,Hb _ rfl,rfl,_,rfl⟩⟩
private theorem yz(h:PA X es t):PE X (.List es pos) (Zl t):=by intro a s g H Q I k;refine wpAny_List_spliced (bF (h pos a s g H _ I k) λj c ⟨i,f,d,r,z,q⟩=>⟨by rw[<-r.length];exact z,?_⟩);have l:f c.heap.objs.size=none:=d.hok.fresh (BY _);refine⟨.ref c.heap.objs.size,upd f c.heap.objs.size (.lst i),d.laid (t':=c.toks) (λb u e=>Bi _ e) (BY _) ?_,rfl,q _ l⟩;exact⟨z,j,0,r,Hb _ rfl⟩
end
abbrev Sp:=List V->Hp->VK->XK->Prop
abbrev B7:=List Env->Hp->Shared->XK->Value->Shared->Prop
structure p8(P:Program)(w:World)(K:Frag)(mg:Str->Option Value)(base:Heap)(A:Around)(outer:List Env)(s:Shared)(H:Hp):Prop where
 frames:A.frames=some outer
 mod:Mod K mg base
 bs:∀b o,base.get? b=some o->s.heap.get? b=some o/\H b=none
 BL:base.objs.size<=s.heap.objs.size
 j3:s.heap.FunFrames base outer
 Dv:∀b∈frs outer,H b=none
 hok:gH P w H s.heap
 bare:AllBare s.gens
 tree:P.given.tree=none
 tab:z8 K H
def CE(a:List Env)(P:Program)(w:World)(H:Hp)(s:Shared)(Q:VK)(u:Value)(s':Shared):Prop:=
 ∃v b,s'.os=s.os/\AllBare s'.gens/\Un (frs a) [] H b s.heap s'.heap/\gH P w b s'.heap/\RelV v u/\Q v b
def CR(CX:B7)(a:List Env)(P:Program)(w:World)(H:Hp)(s:Shared)(Q:VK)(E:XK)(r:Result)(s':Shared):Prop:=
 match r with
 |.ok (.ret u)=>CE a P w H s Q u s'
 |.ok _=>False
 |.error e=>CX a H s E e s'
structure bL(P:Program)(w:World)(K:Frag)(mg:Str->Option Value)(base:Heap)(CX:B7)(k:Nat)(f:Addr)(fd:FuncData)(ps:List Str)(sp:Sp):Prop where
 len:∀vs H Q E,sp vs H Q E->vs.length=ps.length
 run:∀(A:Around)(outer:List Env)(s:Shared)(H:Hp)(args:Args)(us:List Value)(vs:List V)(Q:VK)(E:XK),bZ k A->p8 P w K mg base A outer s H->BindsTo s fd args (ps.zip us)->Vals vs us->sp vs H Q E->
  codeAny (model P w) A (.call (.ref f) args) (CR CX outer P w H s Q E) s
private theorem bL.imp{K:Frag}{k:Nat}{f:Addr}{e:FuncData}{ps:List Str}{sp c:Sp}(F:bL P w K mg a CX k f e ps sp)
 (h:∀vs H Q E,c vs H Q E->sp vs H Q E):bL P w K mg a CX k f e ps c:=
 ⟨λvs H Q E q=>F.len vs H Q E (h _ _ _ _ q),λA b s H d g vs Q E l m n i j=>F.run A b s H d g vs Q E l m n i (h _ _ _ _ j)⟩
private theorem p8.make{K:Frag}{a:List Env}{s:Shared}{H:Hp}(e:p8 P w K mg b A a s H)(C:Addr)(us:List Value)(c:List (Str×Value)):
 p8 P w K mg b (A.under (.builtin "type.__call__" ⟨.ref C::us,c⟩)) a s H:=⟨by first|exact e.frames|(simpa[Around.under,Code.envs,Code.isFrame,pushEnvs]using e.frames),e.mod,e.bs,e.BL,e.j3,e.Dv,e.hok,e.bare,e.tree,e.tab⟩
section
variable{X:Cx}{pins:List (Addr×Obj)}{σ:St}{H:Hp}{s s':Shared}
private theorem Inv.IM(I:Inv X pins σ H s):p8 X.prog X.w X.K X.mg X.base X.A X.stack s H:=
 ⟨I.ok.frames,I.ok.mod,I.bs,FV I.ok.BL I.sz,I.stack,I.jO,I.hok,I.bare,I.ok.tree,I.tab⟩
private theorem Inv.after(I:Inv X pins σ H s)(h:CE X.stack X.prog X.w H s Q u s'):EP X pins σ Q u s':=by obtain⟨v,j,os,a,f,e,r,q⟩:=h;obtain⟨i,g,d,t,c⟩:=s';obtain rfl:c=s.os:=os;exact⟨v,j,I.call (h':=i) (g':=g) (d':=d) (t':=t) (ch:=[]) f e a (λb z=>absurd z (by simp)),r,q⟩
end
def Binds(K:Frag)(b:FuncData)(ps:List Str)(ds:List Value):Prop:=
 ∀(s:Shared)(a:List Value),K.In s.heap->(a++ds).length=ps.length->BindsTo s b ⟨a,[]⟩ (ps.zip (a++ds))
private theorem Binds.all{K:Frag}(h:∀us:List Value,us.length=ps.length->bindArgs b ⟨us,[]⟩=pure (ps.zip us)):Binds K b ps []:=λs us _ a=>by rw[Kx]at a⊢;exact .of_eq (h us a)
def Passes(CX:B7)(X:Cx)(E:XK):Prop:=∀(a:List (Addr×Obj))(c:St)(H:Hp)(s:Shared)(e:Value)(b:Shared),Inv X a c H s->CX X.stack H s E e b->X.xe e b
section
variable{X:Cx}{CX:B7}{k:Nat}{f C:Addr}{fd:FuncData}{ps:List Str}{sp:Sp}{B8:List V}{ds:List Value}{E:XK}{x m:Str}{p pos apos:Pos}{e o:Expr}{es:List Expr}{ta:TE}{t:TA}
private theorem p9{c:St}{vs:List V}(F:bL X.prog X.w X.K X.mg X.base CX k f fd ps sp)(i:bZ k X.A)(l:Binds X.K fd ps ds)(hd:Vals B8 ds)(g:∀H s e s',Inv X a c H s->CX X.stack H s E e s'->X.xe e s')
 (I:Inv X a c H s)(r:Vals vs us)(h:sp (vs++B8) H Q E):wpAny (model X.prog X.w) X.A (call (.ref f) us) (EP X a c Q) X.xe s:=by
 have d:Vals (vs++B8) (us++ds):=r.append hd;have j:(us++ds).length=ps.length:=by rw[<-d.length];exact F.len _ _ _ _ h
 refine wpAny_call (T2 (F.run X.A X.stack s H ⟨us,[]⟩ (us++ds) (vs++B8) Q E i I.IM (l s us I.jh j) d h) λr s' b=>?_);cases r with
 |error e=>exact g H s e s' I b
 |ok fl=>
  cases fl with
  |ret u=>exact I.after b
  |next=>exact DN b
  |brk=>exact DN b
  |cont=>exact DN b
structure Mk(K:Frag)(C f:Addr):Prop where
 makes:makesIn K C=true
 init:findIn K (.ref C) "__init__"=some (some (.ref f))
 fn:isFn K (.ref f)=true
 kp:keepIn K (.ref C)=true
private theorem En{g:St}{vs:List V}(M:Mk X.K C f)(F:bL X.prog X.w X.K X.mg X.base CX k f fd ps sp)(q:bZ (k+1) X.A)(z:Binds X.K fd ps ds)(hd:Vals B8 ds)
 (n:∀H s e s',Inv X a g H s->CX X.stack H s E e s'->X.xe e s')(I:Inv X a g H s)(r:Vals vs us)
 (h:∀x c,H x=none->H c=none->c≠x->sp (.ref x::(vs++B8)) (upd (upd H c (.own x)) x (.ins C c [])) (λv D=>v=.aN/\Q (.ref x) D) E):
 wpAny (model X.prog X.w) X.A (call (.ref C) us) (EP X a g Q) X.xe s:=by
 have j:=h (s.heap.objs.size+1) s.heap.objs.size (I.hok.fresh (cq _)) (I.hok.fresh (BY _)) (Hk (Xc _));have d:=Inv.made (C:=C) I;have i:Vals (V.ref (s.heap.objs.size+1)::(vs++B8)) (Value.ref (s.heap.objs.size+1)::(us++ds)):=.cons rfl (r.append hd);have y:(Value.ref (s.heap.objs.size+1)::us++ds).length=ps.length:=by have e:=i.length;rw[F.len _ _ _ _ j]at e;exact e.symm
 refine wpAny_call (Ej (f:=f) I.jh M.makes M.init (GT.mp M.fn) (T2 (F.run _ X.stack _ _ ⟨Value.ref (s.heap.objs.size+1)::us,[]⟩ (Value.ref (s.heap.objs.size+1)::(us++ds)) _ _ E (q.make C us [])
  (d.IM.make C us []) (z _ (Value.ref (s.heap.objs.size+1)::us) d.jh y) i j) λr s' b=>?_))
 cases r with
 |error e=>exact n _ _ e s' d b
 |ok fl=>
  cases fl with
  |ret u=>obtain⟨v,J,B,rv,ev,l⟩:=d.after b;subst ev;exact⟨rv,⟨V.ref (s.heap.objs.size+1),J,B,rfl,l⟩⟩
  |next=>exact DN b
  |brk=>exact DN b
  |cont=>exact DN b
end
section
variable{X:Cx}{CX:B7}{k:Nat}{f C:Addr}{fd:FuncData}{ps ks:List Str}{sp:Sp}{E:XK}{x m:Str}{p pos apos kpos:Pos}{e o:Expr}{es:List Expr}{kws:List Keyword}{te ta:TE}{t tk:TA}{nm:Option Str}
variable{g:List Value->List Value->List Value}{gV:List V->List V->List V}
end
structure ee(N P:List Str)(sc:Scope):Prop where
 kind:sc.kind=.function
 co:sc.isCoroutine=false
 gen:sc.isGenerator=false
 nd:N.Nodup
 pre:N.take P.length=P
 par:∀x∈P,sc.names.lookup x=some .local\/sc.names.lookup x=some .cell
 OH:∀y∈sc.names,y.2≠.free
private theorem tS:∀{a:List (Str×Value)}{m:Str->Option Value},(∀v,(x,v)∉a)->bindL b a m x=m x
 |[],_,_=>rfl
 |(n,v)::r,m,h=>by
  unfold bindL;rw[tS λw c=>h w (AS _ c)];split
  .have:x≠n:=by rintro rfl;exact h v Ap
   simp[this]
  .rfl
private theorem tU:∀{a:List (Str×Value)}{m:Str->Option Value},(∀v,(x,v)∉a)->bindC b a m x=m x
 |[],_,_=>rfl
 |(n,v)::r,m,h=>by
  unfold bindC;rw[tU λw c=>h w (AS _ c)];split
  .rfl
  .have:x≠n:=by rintro rfl;exact h v Ap
   simp[this]
private theorem tW:∀{P:List Str}{vs:List Value}{i:Nat}{m:Str->Option Value},P.Nodup->P[i]?=some x->vs[i]?=some v->a x=some .local->
 bindL a (P.zip vs) m x=some v
 |[],_,_,_,_,h,_,_=>by simp at h
 |_::_,[],_,_,_,_,h,_=>by simp at h
 |p::P,w::vs,0,m,d,c,b,e=>by simp at c b;subst c;subst b;show bindL a ((p,w)::P.zip vs) m p=_;unfold bindL;rw[tS λv f=>(Ha.mp d).1 (dq f).1,BM e];simp
 |p::P,w::vs,i+1,m,d,c,b,e=>by show bindL a ((p,w)::P.zip vs) m x=_;unfold bindL;exact tW (i:=i) (Ha.mp d).2 (by simpa using c) (by simpa using b) e
private theorem tY:∀{P:List Str}{vs:List Value}{i:Nat}{m:Str->Option Value},P.Nodup->P[i]?=some x->vs[i]?=some v->a x≠some .local->
 bindC a (P.zip vs) m x=some v
 |[],_,_,_,_,h,_,_=>by simp at h
 |_::_,[],_,_,_,_,h,_=>by simp at h
 |p::P,w::vs,0,m,d,c,b,e=>by simp at c b;subst c;subst b;show bindC a ((p,w)::P.zip vs) m p=_;unfold bindC;rw[tU λv f=>(Ha.mp d).1 (dq f).1,B1 e];simp
 |p::P,w::vs,i+1,m,d,c,b,e=>by show bindC a ((p,w)::P.zip vs) m x=_;unfold bindC;exact tY (i:=i) (Ha.mp d).2 (by simpa using c) (by simpa using b) e
noncomputable def start(N:List Str)(vs:List V):St:=vs.map some++A0 (N.length -vs.length) none
noncomputable def yC(CX:B7)(P:Program)(w:World)(K:Frag)(mg:Str->Option Value)(base:Heap)(N:List Str)(b:Str)(a:Scope)(f:Addr)(d:Value)(A:Around)(outer:List Env)(s:Shared)(H:Hp)(E:XK):Cx where
 prog:=P
 w:=w
 K:=K
 mg:=mg
 base:=base
 A:=A.deeper (envOfC b a s.heap.objs.size f d)
 N:=N
 s₀:=s
 H₀:=H
 env:=envOfC b a s.heap.objs.size f d
 outer:=outer
 stack:=envOfC b a s.heap.objs.size f d::outer
 ex:=[]
 calm:=true
 fn:=λ_=>true
 pn:=[]
 xe:=λe g=>wpAny (model P w) (A.deeper (envOfC b a s.heap.objs.size f d)) (leaving (envOfC b a s.heap.objs.size f d) e) (λ_ c=>CX outer H s E e c) (λh c=>CX outer H s E h c) g
private theorem qa{sc:Scope}(h:sc.names.lookup x=some .cell):∃c,(cellsFrom n sc.names []).lookup x=some c:=by have q:=PySem.W.cellsFrom_some sc.names n [] (.inl h);exact Os.mp q
private theorem B9{K:Frag}{N ps:List Str}{l:Str}{d:Scope}{f:Addr}{J:Value}{A:Around}{j:List Env}{s M:Shared}{H:Hp}{E:XK}{us:List Value}{vs:List V}
 (S:ee N ps d)(hd:A.handled=none)(T:A.depth+110<recursionLimit)(g:p8 P w K mg o A j s H)(hl:vs.length=ps.length)(r:Vals vs us)
 (x:InCallC s s.heap.objs.size (bindL (envOfC l d s.heap.objs.size f J).kindOf (ps.zip us) λ_=>none) (cellsFrom (s.heap.objs.size+1) d.names []) (bindC (envOfC l d s.heap.objs.size f J).kindOf (ps.zip us) λ_=>none) M):
 Inv (yC CX P w K mg o N l d f J A j s H E) [] (start N vs) H M:=by
 have Q:ps.length<=N.length:=by have:=IR J9 S.pre;rw[TK]at this;lia
 obtain⟨I,Y,rfl,D⟩:=x.done;have L:∀b:Addr,b∉(yC CX P w K mg o N l d f J A j s H E).ex:=λb z=>absurd (show b∈([]:List Addr)from z) (by simp);refine⟨⟨g.mod,S.kind,rfl,rfl,BY _,λy z c I m=>?_,λy t=>?_,λy c _ h=>?_,λ_=>hd,bj g.frames,.inr ⟨rfl,rfl⟩,λb z=>absurd z (L b),g.bs,g.BL,λb _ _=>L b,λb z=>absurd z (L b),g.j3,g.Dv,g.tree,λA' Z R X D=>PylongRoom.of (g.mod.nolimit.keeps D) (by rw[X];show A.depth+1+100<_;lia) (SeerAt.of (g.mod.seer.keeps D) g.tree (R.trans (bj g.frames)) S.gen S.co rfl rfl),g.tab⟩,
  rfl,g.bare,Un.kept D,⟨_,x.toInCall.ns,λi y v I m h3=>?_⟩,λy c h=>⟨_,x.cell y c h⟩,g.hok.fresh (BY _),λy c h=>?_,λp C=>absurd (show p∈([]:List (Addr×Obj))from C) (by simp),g.hok.kept D,?_⟩
 .exact name_of_addr x.apart (KB I) (KB m)
 .have t:d.names.lookup y=some .cell\/d.names.lookup y=some .free:=t;rcases t with t|t
  .exact qa t
  .exact absurd rfl (S.OH _ (KB t))
 .exact SF (x.above y c (KB h))
 .have F:i<vs.length:=by
   unfold start at m;by_cases F:i<vs.length
   .exact F
   .rw[Hn (by simpa using F)]at m;rw[d6]at m;split at m<;>cases m
  have U:vs[i]?=some v:=by
   unfold start at m;rw[L9 (by simpa using F),GM]at m;cases e:vs[i]? with
   |none=>rw[e]at m;cases m
   |some a=>rw[e]at m;cases m;rfl
  obtain⟨u,O,rv⟩:=r.get U;have C:ps[i]?=some y:=by rw[<-S.pre,List.getElem?_take_of_lt (by lia)];exact I
  have B:ps.Nodup:=by rw[<-S.pre];exact S.nd.sublist (List.take_sublist _ _)
  refine⟨u,rv,?_⟩;rcases S.par y (KM C)with k|k
  .exact .inl ⟨k,tW B C O k⟩
  .obtain⟨c,e⟩:=qa (n:=s.heap.objs.size+1) k;refine .inr ⟨.inl k,c,e,?_⟩;have q:=x.cell y c e;rw[tY B C O (by show d.names.lookup y≠_;rw[k];decide)]at q;exact q
 .exact g.hok.fresh (SF (x.above y c (KB h)))
 .unfold start;show _=N.length;rw[DL,FK,T1];lia
private theorem MB{K:Frag}{k:Nat}{f:Addr}{name d:Str}{h:Arguments}{i:List Stmt}{a:Scope}{Y kV D U g Z oc:Value}{an od:Option Addr}
 {M:Array (Option Value)}{N ps:List Str}{sp:Sp}(lk:K.lookup f=some ⟨oc,od,.func (fnOf name d h i a Y kV D U an g Z),M⟩)(R:codeIn K g d=true)(S:ee N ps a)
 (z:∀vs H Q E,sp vs H Q E->vs.length=ps.length)
 (m:∀(A:Around)(c:List Env)(s:Shared)(H:Hp)(vs:List V)(Q:VK)(E:XK),bZ k (A.deeper (envOfC d a s.heap.objs.size f g))->sp vs H Q E->
   ∃t,tQ (yC CX P w K mg base N d a f g A c s H E) i t/\t {nx:=λ_ H'=>Q .aN H',rt:=Q} (start N vs) H):
 bL P w K mg base CX (k+1) f (fnOf name d h i a Y kV D U an g Z) ps sp:=by
 refine⟨z,λA c s H args us vs Q E F C hb r X=>?_⟩;have hl:=z _ _ _ _ X;have KX:K.In s.heap:=C.mod.DR.keeps λb o e=>(C.bs b o e).1;have O:s.heap.NoLimit:=C.mod.nolimit.keeps λb o e=>(C.bs b o e).1;have l:∀y∈ps.zip us,a.names.lookup y.1=some .local\/(a.names.lookup y.1=some .cell/\((cellsFrom (s.heap.objs.size+1) a.names []).lookup y.1).isSome=true):=λ⟨n,v⟩ hy=>by
  rcases S.par n (dq hy).1 with q|q
  .exact .inl q
  .exact .inr ⟨q,PySem.W.cellsFrom_some _ _ _ (.inl q)⟩
 refine codeAny_call_function F.depth (KX _ _ lk) rfl S.co S.gen rfl (PySem.W.codeRec_of KX R) (hb _ _ _ _ ?_);refine wpAny_newFunctionEnv_cells S.kind l λenv he T x=>?_;subst he;refine⟨O.keeps x.toInCall.keep,codeAny_func ?_⟩;obtain⟨t,ht,hq⟩:=m A c s H vs Q E (F.deeper _) X;have I:Inv (yC CX P w K mg base N d a f g A c s H E) [] (start N vs) H T:=B9 S F.hd (by have:=F.dp;lia) C hl r x;refine Nw (ht [] T (start N vs) H _ I hq) (λfl L p=>?_) λe L p=>p;have B:∀{j:St}{H':Hp}{v:V}{u:Value},Inv (yC CX P w K mg base N d a f g A c s H E) [] j H' L->RelV v u->Q v H'->CE c P w H s Q u L:=
  λ{j H' v u} J rv q=>⟨v,H',J.os,J.bare,J.base,J.hok,rv,q⟩
 cases fl with
 |ret u=>obtain⟨v,j,H',J,rv,q⟩:=p;exact B J rv q
 |next=>obtain⟨j,H',J,q⟩:=p;exact B (v:=V.aN) (u:=Value.none) J rfl q
 |brk=>obtain⟨_,_,_,q⟩:=p;exact DN q
 |cont=>obtain⟨_,_,_,q⟩:=p;exact DN q
section
variable{X:Cx}{x:Str}{p pos:Pos}{e:Expr}{es:List Expr}{t:TA}{id T:String}{r:List V->Hp->VK->Prop}
def tCB(r:List V->Hp->VK->Prop)(t:TA):TE:=λa H Q=>t a H λb c=>r b c Q
private theorem gS(q:cj X (.builtin id) r)(o:Gl X x)(n:X.mg x=none)(l:bootBuiltins x=some (.builtin id))(u:PA X (e::es) t)(m:autoParam (x≠"__name__") dB._auto_1)(c:autoParam ((x==("__debug__":Str))=false) dB._auto_1)
 (he:autoParam (starEach (e::es) X.env=(false,eval e X.env)::starEach es X.env) dA._auto_1)(b:autoParam ((backTo pos (starEach es X.env)).any (·.1)=false) dA._auto_1):PE X (.Call (.Name x p) (e::es) [] pos) (tCB r t):=by
 intro a s d H Q I h;refine Pm (ku I o n l ?_ m c);exact kS (bF (u pos a s d H _ I h) λg i ⟨f,w,v,j,k⟩=>q a i d w f g Q v j k) he b
private theorem mU(q:cj X (.type T) r)(o:Gl X x)(n:X.mg x=none)(l:bootBuiltins x=some (.type T))(u:PA X (e::es) t)(m:autoParam (x≠"__name__") dB._auto_1)(c:autoParam ((x==("__debug__":Str))=false) dB._auto_1)
 (he:autoParam (starEach (e::es) X.env=(false,eval e X.env)::starEach es X.env) dA._auto_1)(b:autoParam ((backTo pos (starEach es X.env)).any (·.1)=false) dA._auto_1):PE X (.Call (.Name x p) (e::es) [] pos) (tCB r t):=by
 intro a s d H Q I h;refine Pm (ku I o n l ?_ m c);exact QQ (bF (u pos a s d H _ I h) λg i ⟨f,w,v,j,k⟩=>q a i d w f g Q v j k) he b
end
end L2
namespace HT
open PySem PyProof.Rows
section
open PySem.SeqAt
open PySem.AutoSeq1 (wpAny_loadPart')
open PySem.MeetsSeq PySem.MeetsSeq2 PySem.MeetsSeq3
end
section
variable{prog:Program}{w:World}{A:Around}{E:Value->Shared->Prop}{s:Shared}
private theorem IQ(q:IsTup s.heap t vs.toArray)(r:IsTup s.heap b ws.toArray)(m:vs≠[])
 (v:ws=[]->Q (.ref t) s)(u:ws≠[]->Q (.ref s.heap.objs.size) {s with heap:=s.heap.push {cls:=.type "tuple",data:=.seq (vs++ws).toArray}})
 (hsz:vs.length+ws.length<=sizeLine):wpAny (model prog w) A (binaryOp .Add (.ref t) (.ref b)) Q E s:=by
 obtain⟨⟨cls,p,data,k⟩,i,o,n,hd⟩:=id q;obtain⟨⟨x,g,j,c⟩,a,f,l,d⟩:=id r;simp only at o hd f d;subst o hd f d;have e:vs.toArray++ws.toArray=(vs++ws).toArray:=by simp
 by_cases h:ws=[]
 .exact concat_meets ⟨_,i,rfl⟩ ⟨_,a,rfl⟩ noFill_tuple_add seq_tuple_add PySem.F.slot_tuple_add PySem.F.entry_tuple_add (PySem.F.args_tuple_add_2 _ _)
   (tuple_addW1 t b vs.toArray ws.toArray n l p g k c (by simpa using m) (by simp[h])) ⟨i,a,v h⟩
 .refine concat_meets ⟨_,i,rfl⟩ ⟨_,a,rfl⟩ noFill_tuple_add seq_tuple_add PySem.F.slot_tuple_add PySem.F.entry_tuple_add (PySem.F.args_tuple_add_2 _ _)
   (tuple_addW2 t b vs.toArray ws.toArray n l p g k c (by simpa using m) (by simpa using h) (by rw[FM,FM];exact hsz)) ⟨i,a,?_⟩
  rw[e];exact u h
noncomputable def cy(n d:Nat):Option Int->Nat
 |none=>d
 |some v=>if v<0 then(v+(n:Int)).toNat else min v.toNat n
private theorem OI(n d:Nat)(hd:d<=n)(o:Option Int):cy n d o<=n:=by
 cases o with
 |none=>exact hd
 |some v=>
  show(if v<0 then(v+(n:Int)).toNat else min v.toNat n)<=n;by_cases a:v<0
  .rw[BM a];lia
  .rw[B1 a];exact Nat.min_le_right _ _
private theorem Ah(v:Int)(n d:Nat):(if v<0 then max (v+(n:Int)) 0 else min v (n:Int))=((cy n d (some v):Nat):Int):=by
 show(if v<0 then max (v+(n:Int)) 0 else min v (n:Int))=(((if v<0 then(v+(n:Int)).toNat else min v.toNat n):Nat):Int);by_cases a:v<0
 .simp only[BM a];lia
 .simp only[B1 a];lia
private theorem yD(a b:Option Int)(n:Nat):Builtin.Slice.sliceAdjust a b 1 (n:Int)=(((cy n 0 a:Nat):Int),((cy n n b:Nat):Int)):=by
 have c:¬((1:Int)<0):=by lia
 unfold Builtin.Slice.sliceAdjust;simp only[c,if_false];refine Prod.ext ?_ ?_
 .cases a with
  |none=>rfl
  |some v=>exact Ah v n 0
 .cases b with
  |none=>rfl
  |some v=>exact Ah v n n
private theorem yE(i j:Nat):Builtin.Slice.slicePlaces (i:Int) (j:Int) 1=j -i:=by
 unfold Builtin.Slice.slicePlaces;have a:(1:Int)>0:=by lia
 simp only[a,da,Int.ediv_one];split<;>lia
private theorem qb(p:IsPart v o)(h:Q o s):wpAny (model prog w) A (Builtin.Slice.slicePartIndex v) Q E s:=by
 cases p with
 |none=>exact slicePart_none h
 |int i t=>exact slicePart_int h
private theorem mV{Q:Int×Int×Nat->Shared->Prop}(j:s.heap.IsSliceOf g f e .none)(pl:IsPart f a)(i:IsPart e c)
 (h:Q (((cy n 0 a:Nat):Int),1,cy n n c -cy n 0 a) s):wpAny (model prog w) A (Builtin.Slice.sliceApplied (.ref g) (pure (n:Int))) Q E s:=by
 obtain⟨l,b,k,d⟩:=id j;unfold Builtin.Slice.sliceApplied Builtin.Slice.sliceFields;refine DO (DO (wpAny_field b d (x:=f) rfl (DO (wpAny_field b d (x:=e) rfl (DO (wpAny_field b d (x:=.none) rfl (GE ?_)))))));refine DO (slicePart_none ?_);show wpAny _ _ (if((1:Int)==0)=true then _ else _) _ _ s;rw[B1 (by decide)];refine DO (qb pl (DO (qb i (DO (GE ?_)))));show wpAny _ _ (match Builtin.Slice.sliceAdjust a c 1 (n:Int)with|(a,c)=>pure (a,(1:Int),Builtin.Slice.slicePlaces a c 1)) _ _ s;rw[yD a c n];show wpAny _ _ (pure (((cy n 0 a:Nat):Int),(1:Int),Builtin.Slice.slicePlaces ((cy n 0 a:Nat):Int) ((cy n n c:Nat):Int) 1)) _ _ s;rw[yE];exact GE h
private theorem Eo(a:Array Value)(i k:Nat):((G2 k).filterMap λ(m:Nat)=>a[((i:Int)+(m:Int)*1).toNat]?).toArray=((a.toList.drop i).take k).toArray:=by
 have e:(λ(m:Nat)=>a[((i:Int)+(m:Int)*1).toNat]?)=λm=>a[i+m]?:=by
  funext m;have:((i:Int)+(m:Int)*1).toNat=i+m:=by lia
  rw[this]
 rw[e];have:=pick_run a i k;rw[List.filterMap_map]at this;have b:((λx=>a[x]?)∘λx=>i+x)=λm=>a[i+m]?:=rfl;rw[b]at this;rw[this]
private theorem lI(c:IsTup s.heap t items)(l:s.heap.IsSliceOf e k j .none)(pl:IsPart k a)(n:IsPart j b)
 (p:¬(cy items.size 0 a=0/\cy items.size items.size b=items.size))
 (h:Q (.ref s.heap.objs.size) {s with heap:=s.heap.push {cls:=.type "tuple",data:=.seq ((items.toList.drop (cy items.size 0 a)).take (cy items.size items.size b -cy items.size 0 a)).toArray}})
 (hsz:items.size<=sizeLine):wpAny (model prog w) A (getItem (.ref t) (.ref e)) Q E s:=by
 have d:sizeOk (.seq ((items.toList.drop (cy items.size 0 a)).take (cy items.size items.size b -cy items.size 0 a)).toArray):=by show((items.toList.drop (cy items.size 0 a)).take (cy items.size items.size b -cy items.size 0 a)).toArray.size<=sizeLine;rw[FM,TK,WV,Ju];lia
 have y:cy items.size items.size b<=items.size:=OI _ _ (BY _) b;obtain⟨o,f,i,r⟩:=id l;have u:s.TypeIs (.ref e) "slice":=⟨o,f,i⟩;unfold getItem
 try with_reducible refine du ?_
 first|refine DO (GE ?_)|skip
 refine DO (wpAny_sequenceKey c.typeIs (by decide) ?_);refine DO (wpAny_callSpecial?_slot (name:=Str.ofString "__getitem__") c.typeIs XB
  (wpAny_call_entry XB c.typeIs entry_tuple_getitem ?_ (args_tuple_getitem _ _)))
 show wpAny _ _ (Builtin.Tuple.tupleItemsOf (.ref t)>>=_) _ _ s;refine DO (tupleItemsOf_ c ?_);refine DO (wpAny_typeOf u ?_);rw[BM (by decide)];refine DO (mV l pl n ?_);have g:¬((((cy items.size 0 a:Nat):Int)==0&&(1:Int)==1&&(cy items.size items.size b -cy items.size 0 a)==items.size)=true):=by intro q;rw[AC,AC]at q;have x:((cy items.size 0 a:Nat):Int)=0:=eq_of_beq q.1.1;have v:cy items.size items.size b -cy items.size 0 a=items.size:=eq_of_beq q.2;exact p ⟨by lia,by lia⟩
 show wpAny _ _ (if(((cy items.size 0 a:Nat):Int)==0&&(1:Int)==1&&(cy items.size items.size b -cy items.size 0 a)==items.size)=true then _ else _) _ _ s;rw[B1 g,Eo]
 first
  |exact DO (m:=Builtin.Tuple.tupleExact _) (SU (GE ⟨_,rfl,GE h⟩) d)
  |exact DO (m:=Builtin.Tuple.tupleExact _) (SU (DO (GE (GE ⟨_,rfl,GE h⟩))) d)
  |exact DO (DO (m:=Builtin.Tuple.tupleExact _) (SU (GE (GE ⟨_,rfl,GE h⟩)) d))
  |exact DO (DO (m:=Builtin.Tuple.tupleExact _) (SU (GE ⟨_,rfl,GE h⟩) d))
end
end HT
namespace L2
open PySem PySem.Spec PyProof.Rows
abbrev TO:=St->Hp->(Option Int->Hp->Prop)->Prop
def PO(X:Cx)(e:Option Expr)(t:TO):Prop:=
 ∀(a:List (Addr×Obj))(s:Shared)(b:St)(H:Hp)(Q:Option Int->Hp->Prop),Inv X a b H s->t b H Q->
  wpAny (model X.prog X.w) X.A (evalPart e X.env) (λu d=>∃o c,Inv X a b c d/\IsPart u o/\Q o c) X.xe s
def IU:TO:=λ_ H Q=>Q none H
def VI(t:TE):TO:=λa H Q=>t a H λx b=>∃i,x=.int i/\Q (some i) b
private theorem intsAre_of:∀{us:List Value},Vals (a.map V.int) us->IntsAre us a:=by
 induction a with
 |nil=>intro us r;rw[de]at r;cases r;exact .nil
 |cons n a d=>
  intro us r;rw[Fh]at r;cases r with
  |cons c b=>obtain⟨t,e⟩:=c;subst e;exact .cons n t (d b)
section
variable{X:Cx}{e:Expr}{te:TE}{lo hi:Option Expr}{tl th:TO}{pos p2:Pos}
private theorem IV:PO X none IU:=by intro a s b H Q I h;rw[evalPart_none];exact GE ⟨none,H,I,.none,h⟩
private theorem IX(h:PE X e te):PO X (some e) (VI te):=by intro a s b H Q I f;rw[evalPart_some];refine bF (h a s b H _ I f) λu k ⟨x,j,g,c,d⟩=>?_;obtain⟨i,rfl,q⟩:=d;obtain⟨t,rfl⟩:=c;exact⟨some i,j,g,.int i t,q⟩
def MC(X:Cx)(r:V->Option Int->Option Int->Hp->VK->Prop):Prop:=
 ∀(a:List (Addr×Obj))(s:Shared)(b:St)(H:Hp)(x:V)(v d c:Value)(lo hi:Option Int)(f:Addr)(Q:VK),Inv X a b H s->RelV x v->s.heap.IsSliceOf f d c .none->IsPart d lo->IsPart c hi->r x lo hi H Q->
  ∃T g,typeLookup (.type T) "__getitem__"=pure (some (.builtin g))/\s.TypeIs v T/\wpAny (model X.prog X.w) X.A (getItem v (.ref f)) (EP X a b Q) X.xe s
private theorem MC.or(h:MC X r)(h':MC X i):MC X (λx lo hi H Q=>r x lo hi H Q\/i x lo hi H Q):=by
 intro a s b H x v d c lo hi f Q I g l k j q;rcases q with q|q
 .exact h a s b H x v d c lo hi f Q I g l k j q
 .exact h' a s b H x v d c lo hi f Q I g l k j q
def tSl(r:V->Option Int->Option Int->Hp->VK->Prop)(te:TE)(tl th:TO):TE:=λa H Q=>te a H λx d=>tl a d λl c=>th a c λu b=>r x l u b Q
private theorem wk(z:MC X r)(he:PE X e te)(B:PO X lo tl)(t:PO X hi th):PE X (.Subscript e (.Slice lo hi none p2) pos) (tSl r te tl th):=by intro a s c H Q I h;refine Subscript_ (bF (he a s c H _ I h) λv i ⟨x,M,K,j,n⟩=>?_);refine wpAny_Slice (bF (B a i c M _ K n) λf s2 ⟨l,L,J,p,m⟩=>bF (t a s2 c L _ J m) λd s3 ⟨u,g,F,o,k⟩=>?_);rw[evalPart_none];refine GE ?_;have E:Inv X a c g {s3 with heap:=s3.heap.push {cls:=.type "slice",data:=.fields #[f,d,.none]}}:=F.kept (t':=s3.toks) λb N q=>Bi _ q;obtain⟨T,O,D,y,C⟩:=z a {s3 with heap:=s3.heap.push {cls:=.type "slice",data:=.fields #[f,d,.none]}} c g x v f d l u s3.heap.objs.size Q E j (Heap.IsSliceOf.new ..) p o k;show wpAny (model X.prog X.w) X.A (subscriptTail e (.Slice lo hi none p2) v (.ref s3.heap.objs.size)) (EP X a c Q) X.xe {s3 with heap:=s3.heap.push {cls:=.type "slice",data:=.fields #[f,d,.none]}};exact tail_any (ops:=[.ref s3.heap.objs.size,v]) y D C (by with_unfolding_all rfl)
noncomputable def wm(a:List V)(lo hi:Option Int):List V:=(a.drop (HT.cy a.length 0 lo)).take (HT.cy a.length a.length hi -HT.cy a.length 0 lo)
private theorem nS(a:List V)(lo hi:Option Int):(wm a lo hi).length<=a.length:=by unfold wm;rw[TK,WV];lia
def Zn(K:Frag):V->Option Int->Option Int->Hp->VK->Prop:=λx lo hi H Q=>∃a b,x=.ref a/\lF K H a b/\
 ¬(HT.cy b.length 0 lo=0/\HT.cy b.length b.length hi=b.length)/\∀p,H p=none->Q (.ref p) (upd H p (.tup (wm b lo hi)))
private theorem OJ:MC X (Zn X.K):=by
 intro g s t H x v w u lo hi y Q I j p l k h;obtain⟨a,d,rfl,m,n,q⟩:=h;cases j;obtain⟨f,r,i,hz⟩:=I.tuple m;have c:f.toArray.size=d.length:=by rw[FM];exact r.length.symm
 refine⟨"tuple",_,XB.lookup,i.typeIs,?_⟩;refine HT.lI i p l k (by rw[c];exact n) ?_ (by rw[c];exact hz);rw[c];refine⟨.ref s.heap.objs.size,_,I.laid (t':=s.toks) (o:=.tup (wm d lo hi)) (λb z q=>Bi _ q) (BY _) ?_,rfl,q _ (I.hok.fresh (BY _))⟩;exact⟨FV (nS d lo hi) hz,_,(r.drop (HT.cy d.length 0 lo)).take (HT.cy d.length d.length hi -HT.cy d.length 0 lo),IsTup.new _ _⟩
def VJ(K:Frag):R2:=λx y H Q=>∃a b d c,x=.ref a/\y=.ref b/\lF K H a d/\lF K H b c/\d≠[]/\d.length+c.length<=sizeLine/\
 (c=[]->Q (.ref a) H)/\(c≠[]->∀p,H p=none->Q (.ref p) (upd H p (.tup (d++c))))
private theorem Vals.uM(r:Vals a us):us=[]↔a=[]:=by
 cases r with
 |nil=>simp
 |cons _ _=>simp
private theorem IY:lH X (binaryOp .Add) (VJ X.K):=by intro f s C H x y v u Q I l k h;obtain⟨a,b,j,i,rfl,rfl,B,A,t,hz,n,m⟩:=h;cases l;cases k;obtain⟨r,d,p,_⟩:=I.tuple B;obtain⟨g,c,p2,_⟩:=I.tuple A;refine HT.IQ p p2 (λz=>t (d.uM.mp z)) (λz=>⟨.ref a,H,I,rfl,n (c.uM.mp z)⟩) (λz=>?_) (by rw[<-d.length,<-c.length];exact hz);refine⟨.ref s.heap.objs.size,_,I.laid (t':=s.toks) (o:=.tup (j++i)) (λb D q=>Bi _ q) (BY _) ?_,rfl,m (λw=>z (c.uM.mpr w)) _ (I.hok.fresh (BY _))⟩;exact⟨by rw[DL];exact hz,_,d.append c,IsTup.new _ _⟩
end
noncomputable def Aj(n:Nat)(i:Int):Option Nat:=if 0<=i then(if i<n then some i.toNat else none)else if-(n:Int)<=i then some (i+n).toNat else none
noncomputable def jg{α:Type}(a:List α)(i:Int):Option α:=(Aj a.length i).bind λj=>a[j]?
private theorem Ak(h:Aj n i=some j):seqIndex? i n=some j/\j<n/\-(n:Int)<=i/\i<n:=by
 unfold Aj at h;by_cases b:0<=i
 .rw[BM b]at h;by_cases a:i<n
  .rw[BM a]at h;have e:i.toNat=j:=Fs h;exact⟨by rw[seqIndex_of b a,e],by lia,by lia,a⟩
  .rw[B1 a]at h;cases h
 .rw[B1 b]at h;by_cases a: -(n:Int)<=i
  .rw[BM a]at h;have e:(i+n).toNat=j:=Fs h;exact⟨by rw[seqIndex_neg (by lia) a,e],by lia,a,by lia⟩
  .rw[B1 a]at h;cases h
private theorem uN(h:jg a i=some v):∃j,seqIndex? i a.length=some j/\a[j]?=some v/\j<a.length/\-(a.length:Int)<=i/\i<a.length:=by
 unfold jg at h;cases e:Aj a.length i with
 |none=>rw[e]at h;cases h
 |some j=>rw[e]at h;obtain⟨f,d,c,b⟩:=Ak e;exact⟨j,f,h,d,c,b⟩
private theorem IZ{j:Nat}(h:a[j]?=some v):jg a (j:Int)=some v:=by
 have b:j<a.length:=(Fk.mp h).1;have e:Aj a.length (j:Int)=some j:=by unfold Aj;rw[BM (by lia),BM (by lia)];simp
 unfold jg;rw[e];exact h
def uO(b:Expr):Prop:=∀o i,subscripted b false o i=operate [o,i] (getItem o i)
def HY(X:Cx)(r:R2):Prop:=
 ∀(c a:Expr)(b:List (Addr×Obj))(s:Shared)(d:St)(H:Hp)(x y:V)(v u:Value)(Q:VK),Inv X b d H s->RelV x v->RelV y u->r x y H Q->
  subscripted a false v u=operate [v,u] (getItem v u)->wpAny (model X.prog X.w) X.A (subscriptTail c a v u) (EP X b d Q) X.xe s
def Yi(X:Cx)(e:String)(r:V->List V->Hp->VK->Prop):Prop:=
 ∀(a:List (Addr×Obj))(s:Shared)(b:St)(H:Hp)(x:V)(c:List V)(v:Value)(d:List Value)(Q:VK),Inv X a b H s->RelV x v->Vals c d->r x c H Q->
  wpAny (model X.prog X.w) X.A (call (.builtin e) (v::d)) (EP X a b Q) X.xe s
section
variable{X:Cx}{a b:Expr}{ta tb:TE}{pos:Pos}
private theorem HY.or(h:HY X r)(h':HY X j):HY X (λx y H Q=>r x y H Q\/j x y H Q):=by
 intro c d e s f H x y v u Q I i g q k;rcases q with q|q
 .exact h c d e s f H x y v u Q I i g q k
 .exact h' c d e s f H x y v u Q I i g q k
private theorem VM(i:HY X r)(k:PE X a ta)(j:PE X b tb)(g:uO b):PE X (.Subscript a b pos) (tOp r ta tb):=by intro c s d H Q I h;exact Subscript_ (Zh k j I h λv u s2 x y m l f e q=>i a b c s2 d m x y v u Q l f e q (g _ _))
def VN(K:Frag):R2:=λx y H Q=>∃p c i v,x=.ref p/\y=.int i/\kC K H p c/\jg c i=some v/\Q v H
def VO(K:Frag):R2:=λx y H Q=>∃p c i v,x=.ref p/\y=.int i/\lF K H p c/\jg c i=some v/\Q v H
def VQ:R2:=λx y H Q=>∃z i c,x=.str z/\y=.int i/\z.length<=sizeLine/\jg z.cps.toList i=some c/\Q (.str ⟨#[c]⟩) H
private theorem Ja:HY X (VN X.K):=by
 intro f g c s o H x y v u Q I F E h A;obtain⟨p,R,i,z,rfl,rfl,J,M,q⟩:=h;cases F;obtain⟨t,rfl⟩:=E;obtain⟨m,r,l,hz⟩:=I.list J;obtain⟨j,e,P,T,O,N⟩:=uN M;obtain⟨w,C,k⟩:=r.get P;have L:=r.length;have S:=mQ;have d:EP X c o Q w s:=⟨z,H,I,k,q⟩;by_cases B:0<=i
 .have n:i.toNat=j:=by rw[seqIndex_of B N]at e;exact Fs e
  exact item_listR l.isList B (by lia) (by rw[n];simpa using C) d A
 .have n:(i+(m.toArray.size:Int)).toNat=j:=by rw[seqIndex_neg (by lia) O]at e;rw[FM,<-L];exact Fs e
  exact subscriptTail_builtinR (x:=w) l.isList.typeIs slot_list_getitem.lookup
   (wpAny_getItem_list_neg (Q:=λr D=>r=w/\EP X c o Q r D) l.isList (by lia) (by rw[FM]<;>lia) (by lia) (by rw[n];simpa using C) ⟨rfl,d⟩) A
private theorem OL:HY X (VO X.K):=by
 intro d e c s k H x y v u Q I o n h B;obtain⟨p,M,i,z,rfl,rfl,C,E,q⟩:=h;cases o;obtain⟨t,rfl⟩:=n;obtain⟨A,r,l,hz⟩:=I.tuple C;obtain⟨j,J,F,R,P,O⟩:=uN E;obtain⟨w,L,f⟩:=r.get F;have D:=r.length;have N:=mQ;have g:EP X c k Q w s:=⟨z,H,I,f,q⟩;exact subscriptTail_builtinR (x:=w) l.typeIs slot_tuple_getitem.lookup
  (getItem_tuple (j:=j) (Q:=λr m=>r=w/\EP X c k Q r m) l (by lia) (by lia) (by rw[FM,<-D];exact J) (by simpa using L) ⟨rfl,g⟩) B
private theorem OM:HY X VQ:=by
 intro d e f s C H x y v u Q I l k h m;obtain⟨z,i,c,rfl,rfl,hz,o,q⟩:=h;obtain⟨t,rfl⟩:=l;obtain⟨D,rfl⟩:=k;obtain⟨j,g,w,F,r,p⟩:=uN o;have n:z.cps.toList.length=z.length:=by simp[Str.length]
 rw[n]at g r p;have E:=mQ;exact tail_any (typeIs_str s z t) slot_str_getitem.lookup (getItem_str (c:=c) (by have B:decide (i< -(2^63:Int))=false:=Ee (by lia);have A:decide (i>=2^63)=false:=Ee (by lia);rw[B,A,QR]) (by rw[g];simpa using w) ⟨.str ⟨#[c]⟩,H,I.tok _,⟨_,rfl⟩,q⟩) m
def rIx(K:Frag):R2:=λx y H Q=>VN K x y H Q\/VO K x y H Q\/VQ x y H Q
private theorem ON:HY X (rIx X.K):=Ja.or (OL.or OM)
private theorem yF(c:List Value)(n j:Nat)(u:Value):Obj.mapSeq (·.setIfInBounds j u) {cls:=.type "list",data:=.seq c.toArray n}={cls:=.type "list",data:=.seq (c.set j u).toArray n}:=by simp[Obj.mapSeq]
private theorem Inv.lst{d:List (Addr×Obj)}{g:St}{H:Hp}{s:Shared}{p:Addr}{f:List V}(I:Inv X d g H s)(h:H p=some (.lst f)):
 ∃(c:List Value)(n:Nat),Vals f c/\s.heap.get? p=some {cls:=.type "list",data:=.seq c.toArray n}/\f.length<=sizeLine:=by
 obtain⟨z,c,n,r,e⟩:=I.hok p _ h;exact⟨c,n,r,e,z⟩
private theorem Inv.OO{j:St}{d its':List Value}{n i:Nat}{f:Obj->Obj}(I:Inv X c j H s)(h:H p=some (.lst l))
 (m:s.heap.get? p=some {cls:=.type "list",data:=.seq d.toArray n})(k:f {cls:=.type "list",data:=.seq d.toArray n}={cls:=.type "list",data:=.seq its'.toArray i})(r:Vals g its')(hz:g.length<=sizeLine)(t:Nat):
 Inv X c j (upd H p (.lst g)) {s with heap:=s.heap.update p f,toks:=t}:=by
 have e:(s.heap.update p f).get? p=some {cls:=.type "list",data:=.seq its'.toArray i}:=by rw[Heap.get?_update_self f m (by rw[k]<;>rfl),k]
 refine I.write (x:=p) (e:=p) (by rw[h];trivial) (.inl rfl) (λb u o q=>(Heap.get?_update_other _ _ (Oy o)).trans q) ⟨_,e⟩ ?_;exact⟨hz,its',i,r,e⟩
def MD:V->V->V->Hp->(Hp->Prop)->Prop:=λo i v H Q=>∃p c k j,o=.ref p/\i=.int k/\H p=some (.lst c)/\Aj c.length k=some j/\Q (upd H p (.lst (c.set j v)))
private theorem set_list:Oo X MD:=by
 intro c s A H o i v F J u Q I C D rv h;obtain⟨p,B,k,j,rfl,rfl,m,E,q⟩:=h;cases C;obtain⟨t,rfl⟩:=D;obtain⟨d,n,r,f,hz⟩:=I.lst m;obtain⟨e,L,x,w⟩:=Ak E;have g:=r.length;have K:=mQ;have z:Inv X c A (upd H p (.lst (B.set j v))) {s with heap:=s.heap.update p (Obj.mapSeq (·.setIfInBounds j u))}:=
  I.OO m f (yF d n j u) (r.set rv j) (by rw[Kt];exact hz) s.toks
 by_cases y:0<=k
 .have l:k.toNat=j:=by rw[seqIndex_of y w]at e;exact Fs e
  exact PySem.W.ki_setAt f y (by lia) (by rw[FM,<-g];exact w) (by rw[l];exact⟨_,z,q⟩)
 .have l:(k+(d.toArray.size:Int)).toNat=j:=by rw[seqIndex_neg (by lia) x]at e;rw[FM,<-g];exact Fs e
  exact PySem.W.ki_setBack f (by lia) (by rw[FM,<-g];exact x) (by lia) (by rw[l];exact⟨_,z,q⟩)
private theorem lJ(c d:Option Int)(n:Nat):(sliceBounds c d none n).1=((HT.cy n 0 c:Nat):Int)/\(sliceBounds c d none n).2.1=((HT.cy n n d:Nat):Int)/\(sliceBounds c d none n).2.2=1:=by
 refine⟨?_,?_,rfl⟩
 .cases c with
  |none=>simp[sliceBounds,HT.cy]
  |some i=>
   simp only[sliceBounds,HT.cy,dy,show(1:Int)>0 by decide,da];by_cases h:i<0
   .simp only[h,da]<;>lia
   .simp only[h,if_false]<;>lia
 .cases d with
  |none=>simp[sliceBounds,HT.cy]
  |some i=>
   simp only[sliceBounds,HT.cy,dy,show(1:Int)>0 by decide,da];by_cases h:i<0
   .simp only[h,da]<;>lia
   .simp only[h,if_false]<;>lia
private theorem sG(c:List Value)(d e:Option Int):slicePick c.toArray d e none=((c.drop (HT.cy c.length 0 d)).take (HT.cy c.length c.length e -HT.cy c.length 0 d)).toArray:=by obtain⟨h,g,f⟩:=lJ d e c.toArray.size;unfold slicePick;rw[h,g,f];simp only[sliceRange_one,pick_run,FM]<;>rfl
def Zo(K:Frag):V->Option Int->Option Int->Hp->VK->Prop:=λx d e H Q=>∃a c,x=.ref a/\kC K H a c/\∀p,H p=none->Q (.ref p) (upd H p (.lst (wm c d e)))
private theorem Jb:MC X (Zo X.K):=by intro g s t H x v w u e f y Q I j p l k h;obtain⟨a,c,rfl,n,q⟩:=h;cases j;obtain⟨m,r,i,hz⟩:=I.list n;have d:=r.length;refine⟨"list",_,slot_list_getitem.lookup,i.isList.typeIs,?_⟩;refine wpAny_getItem_list_slice i.isList p l k .none (by simp) ?_ (by rw[FM]<;>lia);rw[sG,<-d];refine⟨.ref s.heap.objs.size,_,I.laid (t':=s.toks) (o:=.lst (wm c e f)) (λb z q=>Bi _ q) (BY _) ?_,rfl,q _ (I.hok.fresh (BY _))⟩;exact⟨FV (nS c e f) hz,_,0,(r.drop (HT.cy c.length 0 e)).take (HT.cy c.length c.length f -HT.cy c.length 0 e),Hb _ rfl⟩
noncomputable def lK:V->Bool
 |.aN=>true
 |.bl _=>true
 |.int _=>true
 |.str _=>true
 |_=>false
noncomputable def ME:V->V->Bool
 |.aN,.aN=>true
 |.bl a,.bl b=>a==b
 |.bl a,.int b=>(if a then 1 else 0)==b
 |.int a,.bl b=>a==(if b then 1 else 0)
 |.int a,.int b=>a==b
 |.str a,.str b=>a==b
 |_,_=>false
private theorem OP(e:RelV y u)(c:RelV x v)(g:lK y=true)(f:lK x=true):SeqAt.EqAt A s u v (ME y x):=by
 cases y with
 |aN=>
  cases e;cases x with
  |aN=>cases c;exact SeqAt.EqAt.same _
  |bl b=>cases c;exact SeqAt.EqAt.none_bool b
  |int b=>obtain⟨t,rfl⟩:=c;exact SeqAt.EqAt.none_int b t
  |str b=>obtain⟨t,rfl⟩:=c;exact SeqAt.EqAt.none_str b t
  |_=>exact absurd (show false=true from f) Fn
 |bl a=>
  cases e;cases x with
  |aN=>cases c;exact SeqAt.EqAt.bool_none a
  |bl b=>cases c;exact SeqAt.EqAt.bool_bool a b
  |int b=>obtain⟨t,rfl⟩:=c;exact SeqAt.EqAt.bool_int a b t
  |str b=>obtain⟨t,rfl⟩:=c;exact SeqAt.EqAt.bool_str a b t
  |_=>exact absurd (show false=true from f) Fn
 |int a=>
  obtain⟨d,rfl⟩:=e;cases x with
  |aN=>cases c;exact SeqAt.EqAt.int_none a d
  |bl b=>cases c;exact SeqAt.EqAt.int_bool a d b
  |int b=>obtain⟨t,rfl⟩:=c;exact SeqAt.EqAt.int_int a d b t
  |str b=>obtain⟨t,rfl⟩:=c;exact SeqAt.EqAt.int_str a d b t
  |_=>exact absurd (show false=true from f) Fn
 |str a=>
  obtain⟨d,rfl⟩:=e;cases x with
  |aN=>cases c;exact SeqAt.EqAt.str_none a d
  |bl b=>cases c;exact SeqAt.EqAt.str_bool a d b
  |int b=>obtain⟨t,rfl⟩:=c;exact SeqAt.EqAt.str_int a d b t
  |str b=>obtain⟨t,rfl⟩:=c;exact SeqAt.EqAt.str_str a d b t
  |_=>exact absurd (show false=true from f) Fn
 |_=>exact absurd (show false=true from g) Fn
noncomputable def Jc(x:V)(u:Value):Bool:=match u with
 |.none=>ME .aN x
 |.bool b=>ME (.bl b) x
 |.int i _=>ME (.int i) x
 |.str z _=>ME (.str z) x
 |_=>false
private theorem Ep(r:RelV y u)(f:lK y=true):Jc x u=ME y x:=by
 cases y with
 |aN=>cases r;rfl
 |bl b=>cases r;rfl
 |int i=>obtain⟨t,rfl⟩:=r;rfl
 |str z=>obtain⟨t,rfl⟩:=r;rfl
 |_=>exact absurd (show false=true from f) Fn
private theorem uP:∀{c:List V}{us:List Value},Vals c us->c.all lK=true->us.any (Jc x)=c.any λy=>ME y x
 |_,_,.nil,_=>rfl
 |y::c,u::us,.cons r t,f=>by rw[Ai,AC]at f;rw[Jq,Jq,Ep r f.1,uP t f.2]
private theorem qc(e:RelV x v)(g:lK x=true):∀{d:List V}{us:List Value},Vals d us->d.all lK=true->∀u∈us,SeqAt.EqAt A s u v (Jc x u)
 |_,_,.nil,_=>λu c=>by cases c
 |y::d,u::us,.cons r t,f=>λh c=>by
  rw[Ai,AC]at f;rcases Do.mp c with rfl|c
  .rw[Ep r f.1];exact OP r e f.1 g
  .exact qc e g t f.2 h c
noncomputable def Yj(x:V)(c:List V):Bool:=c.any λy=>ME y x
def rIn(K:Frag)(d:Bool):R2:=λx y H Q=>∃p c,y=.ref p/\(kC K H p c\/lF K H p c)/\lK x=true/\c.all lK=true/\Q (.bl (if d then !Yj x c else Yj x c)) H
private theorem tZ:lH X (compareOp .In) (rIn X.K false):=by
 intro j s m H x y v u Q I i l h;obtain⟨p,n,rfl,d,k,e,q⟩:=h;cases l;rcases d with d|d
 .obtain⟨c,r,f,hz⟩:=I.list d;refine SeqAt.in_listAt (Jc x) f.isList (λw g=>qc i k r e w (by simpa using g)) ⟨.bl _,H,I,rfl,?_⟩;rw[show c.toArray.any (Jc x)=c.any (Jc x) by simp,uP r e];exact q
 .obtain⟨c,r,f,hz⟩:=I.tuple d;refine SeqAt.in_tupleAt (Jc x) f (λw g=>qc i k r e w (by simpa using g)) ⟨.bl _,H,I,rfl,?_⟩;rw[show c.toArray.any (Jc x)=c.any (Jc x) by simp,uP r e];exact q
private theorem iL:cj X (.builtin "len") (λj H Q=>∃p d,j=[.ref p]/\(kC X.K H p d\/lF X.K H p d)/\Q (.int d.length) H):=by
 intro k s m H j n Q I r h;obtain⟨p,d,rfl,e,q⟩:=h;obtain⟨u,rfl,l⟩:=vals1 r;cases l;have o:=mQ;rcases e with e|e
 .obtain⟨i,f,g,hz⟩:=I.list e;have c:=f.length;exact Calls.call_len_list g.isList (by simp only[FM]<;>lia) ⟨.int d.length,H,I.tok _,⟨s.toks+1,by rw[FM,c]⟩,q⟩
 .obtain⟨i,f,g,hz⟩:=I.tuple e;have c:=f.length;exact len_tuple g (by simp only[FM]<;>lia) ⟨.int d.length,H,I.tok _,⟨s.toks+1,by rw[FM,c]⟩,q⟩
private theorem uQ:cj X (.builtin "len") (λc H Q=>∃z,c=[.str z]/\z.length<=sizeLine/\Q (.int z.length) H):=by intro d s e H c f Q I r h;obtain⟨z,rfl,hz,q⟩:=h;obtain⟨u,rfl,t,rfl⟩:=vals1 r;have g:=mQ;exact len_str (by lia) ⟨.int z.length,H,I.tok _,⟨_,rfl⟩,q⟩
private theorem lM:cj X (.type "list") (λA H Q=>∃p f,A=[.ref p]/\(kC X.K H p f\/lF X.K H p f)/\∀l,H l=none->Q (.ref l) (upd H l (.lst f))):=by
 intro j s C H A E Q I r h;obtain⟨p,f,rfl,m,q⟩:=h;obtain⟨u,rfl,D⟩:=vals1 r;cases D;have v:∀(c:List Value),Vals f c->f.length<=sizeLine->∀(d:Heap)(i:Nat),(∀b B,s.heap.get? b=some B->d.get? b=some B)->
  d.get? s.heap.objs.size=some {cls:=.type "list",dict:=none,data:=.seq c.toArray i,slots:= #[]}->EP X j C Q (.ref s.heap.objs.size) {s with heap:=d}:=λc g hz d i k e=>
  ⟨.ref s.heap.objs.size,_,I.laid (t':=s.toks) k (BY _) (show bH X.prog X.w _ d _ (.lst f)from⟨hz,c,i,g,e⟩),rfl,q _ (I.hok.fresh (BY _))⟩
 rcases m with m|m
 .obtain⟨c,g,x,hz⟩:=I.list m;have t:=g.length;obtain⟨o,y,z,n,hd⟩:=x.isList;exact call_list_seq p (.inl rfl) y z hd (λd i k e=>v c g hz d i k e) (by simp only[FM]<;>lia)
 .obtain⟨c,g,x,hz⟩:=I.tuple m;have t:=g.length;obtain⟨o,y,z,n,hd⟩:=x;exact call_list_seq p (.inr rfl) y z hd (λd i k e=>v c g hz d i k e) (by simp only[FM]<;>lia)
private theorem sH:cj X (.type "tuple") (λn H Q=>∃p f,n=[.ref p]/\((kC X.K H p f/\∀l,H l=none->Q (.ref l) (upd H l (.tup f)))\/(lF X.K H p f/\Q (.ref p) H))):=by
 intro c s m H n A Q I r h;obtain⟨p,f,rfl,h⟩:=h;obtain⟨u,rfl,x⟩:=vals1 r;cases x;rcases h with⟨k,q⟩|⟨k,q⟩
 .obtain⟨d,i,j,hz⟩:=I.list k;have t:=i.length;refine call_tuple_list j.isList (λg y=>?_) (by simp only[FM]<;>lia);have v:Inv X c m H {s with heap:=g}:=I.kept (t':=s.toks) y;have z:Inv X c m (upd H g.objs.size (.tup f)) {s with heap:=g.push {cls:=.type "tuple",data:=.seq d.toArray}}:=
   v.laid (t':=s.toks) (λb o e=>Bi _ e) (BY _) (show bH X.prog X.w _ _ _ (.tup f)from⟨hz,d,i,IsTup.new _ _⟩)
  exact⟨.ref g.objs.size,_,z,rfl,q _ (v.hok.fresh (BY _))⟩
 .obtain⟨d,i,j,hz⟩:=I.tuple k;exact call_tuple_same j ⟨.ref p,H,I,rfl,q⟩
def Zp(K:Frag)(T:String)(x:V)(H:Hp):Prop:=match x with
 |.str _=>T="str"
 |.int _=>T="int"
 |.ref p=>(T="list"/\∃d,kC K H p d)\/(T="tuple"/\∃o,K.lookup p=some o/\o.cls=.type "tuple"/\o.dict=none)\/
   (T="dict"/\((∃c,H p=some (.dK c))\/∃c,H p=some (.dT c)))\/(T="set"/\∃S n,H p=some (.set S n))
 |_=>False
private theorem Er{m:St}{v:Value}(I:Inv X f m H s)(r:RelV x v)(g:Zp X.K T x H):
 s.TypeIs v T/\∀a,v=.ref a->∃l,s.heap.get? a=some l/\l.dict=none:=by
 cases x with
 |str z=>obtain⟨t,rfl⟩:=r;cases(show T="str"from g);exact⟨typeIs_str s z t,λ_ e=>nomatch e⟩
 |int i=>obtain⟨t,rfl⟩:=r;cases(show T="int"from g);exact⟨typeIs_int s i t,λ_ e=>nomatch e⟩
 |ref p=>
  cases r;rcases g with⟨rfl,y,u⟩|⟨rfl,o,d,w,hd⟩|⟨rfl,d⟩|⟨rfl,S,n,d⟩
  .obtain⟨q,_,k,_⟩:=I.list u;refine⟨k.isList.typeIs,λa e=>?_⟩;cases e;obtain⟨o,n,e,c,hd,_⟩:=k;exact⟨o,e,hd⟩
  .refine⟨⟨o,I.jh p o d,w⟩,λa e=>?_⟩;cases e;exact⟨o,I.jh _ o d,hd⟩
  .have z:∃o,s.heap.get? p=some o/\o.ExactDict:=by
    rcases d with⟨h,d⟩|⟨h,d⟩
    .obtain⟨_,_,_,_,o,_,_,e,ex,_⟩:=I.hok p _ d;exact⟨o,e,ex⟩
    .obtain⟨_,_,_,_,o,_,_,e,ex,_⟩:=I.hok p _ d;exact⟨o,e,ex⟩
   obtain⟨o,e,ex⟩:=z;refine⟨⟨o,e,ex.1⟩,λa j=>?_⟩;cases j;exact⟨o,e,ex.2.1⟩
  .obtain⟨o,_,_,_,e,ex,_⟩:=I.hok p _ d;refine⟨⟨o,e,ex.1⟩,λa j=>?_⟩;cases j;exact⟨o,e,ex.2.1⟩
 |_=>exact DN g
def Zq(K:Frag)(T:String)(r:V->List V->Hp->VK->Prop)(e:TE):TE:=λd H Q=>e d H λx c=>Zp K T x c/\r x [] c Q
def Ua(K:Frag)(T:String)(r:V->List V->Hp->VK->Prop)(f:TE)(t:TA):TE:=λc H Q=>f c H λx d=>Zp K T x d/\t c d λe g=>r x e g Q
variable{o e:Expr}{es:List Expr}{to:TE}{t:TA}{name:Str}{apos cpos:Pos}{T id:String}{r:V->List V->Hp->VK->Prop}
private theorem Es(q:PlainAttrs T)(g:Slot T name id)(i:typeOf (.builtin id)=pure (.type "method_descriptor"))(w:Yi X id r)(u:PE X o to)
 (f:autoParam (attributeBase o name X.env (eval o X.env)=eval o X.env) dA._auto_1)(d:autoParam ((apos.endLine==cpos.line)=true) dA._auto_1):PE X (.Call (.Attribute o name apos) [] [] cpos) (Zq X.K T r to):=by
 intro c s j H Q I h;refine wpAny_Call_method0_late f d (bF (u c s j H _ I h) λv n ⟨x,A,l,k,m,p⟩=>?_);obtain⟨z,y⟩:=Er l k m;exact⟨T,id,q,g,i,z,y,Yf rfl (PySem.evalArgs_none (w c n j A x [] v [] Q l k .nil p))⟩
private theorem t6(C:PlainAttrs T)(i:Slot T name id)(l:typeOf (.builtin id)=pure (.type "method_descriptor"))(F:Yi X id r)(E:PE X o to)(J:PA X (e::es) t)
 (g:autoParam (attributeBase o name X.env (eval o X.env)=eval o X.env) dA._auto_1)
 (j:autoParam (((backTo cpos (starEach (e::es) X.env)).all (λx=>!x.1)&&(backToKw cpos (keywordEach [] X.env)).all (λx=>x.1.isSome)
   &&decide ((e::es).length+([]:List Keyword).length+(if([]:List Keyword).isEmpty then 0 else 1)<30))=true) dA._auto_1)
 (f:autoParam ((apos.endLine==cpos.line)=true) dA._auto_1)(D:autoParam (starEach (e::es) X.env=(false,eval e X.env)::starEach es X.env) dA._auto_1)(d:autoParam ((backTo cpos (starEach es X.env)).any (·.1)=false) dA._auto_1):
 PE X (.Call (.Attribute o name apos) (e::es) [] cpos) (Ua X.K T r to t):=by
 intro c s k H Q I h;refine wpAny_Call_method_late g j f rfl (bF (E c s k H _ I h) λv y ⟨x,P,p,m,w,B⟩=>?_);obtain⟨M,L⟩:=Er p m w;refine⟨T,id,C,i,l,M,L,?_⟩;have n:=J cpos c y k P _ p B;rw[D]at n⊢;refine Yf (by show(false||(backTo cpos (starEach es X.env)).any (·.1))=false;rw[d]<;>rfl) (bc ?_);exact bF n λu s2 ⟨q,O,N,z,A⟩=>F c s2 k O x q v u Q N m z A
end
def Zr(X:Cx)(e:String)(r:V->List V->Hp->VK->Prop):Prop:=
 ∀(a:List (Addr×Obj))(s:Shared)(b:St)(H:Hp)(x:V)(c:List V)(v:Value)(d:List Value)(Q:VK),Inv X a b H s->RelV x v->Vals c d->r x c H Q->
  wpAny (model X.prog X.w) X.A (call (.builtin e) (v::d)) (EP X a b Q) X.xe s
private theorem Vals.one(h:Vals [x] us):∃u,us=[u]/\RelV x u:=by
 cases h with
 |cons r h=>
  cases h;exact⟨_,rfl,r⟩
private theorem Vals.zero:∀{us:List Value},Vals [] us->us=[]
 |_,.nil=>rfl
private theorem Vals.dropLast(h:Vals a us):Vals a.dropLast us.dropLast:=by
 induction h with
 |nil=>exact .nil
 |cons r t b=>
  cases t with
  |nil=>exact .nil
  |cons q c=>exact .cons r b
private theorem Vals.rep(h:Vals a us):∀k:Nat,Vals (A0 k a).flatten (A0 k us).flatten
 |0=>.nil
 |k+1=>by rw[Et,Et,JD,JD];exact Vals.append h (Vals.rep h k)
private theorem yG{α:Type}(l:List α):l.eraseIdx (l.length -1)=l.dropLast:=by
 induction l with
 |nil=>rfl
 |cons a r c=>
  cases r with
  |nil=>rfl
  |cons b r=>
   have e:(a::b::r).length -1=((b::r).length -1)+1:=by have f:(a::b::r).length=r.length+2:=rfl;have d:(b::r).length=r.length+1:=rfl;lia
   rw[e,List.eraseIdx_cons_succ,c]
   all_goals rfl
private theorem foldl_rep(a:List Value):∀(k:Nat)(b:List Value),
 eF (λd c=>d++c) b.toArray (A0 k a.toArray)=(b++(A0 k a).flatten).toArray
 |0,b=>by simp
 |k+1,b=>by
  have e:b.toArray++a.toArray=(b++a).toArray:=by simp
  have f:(b++a)++(A0 k a).flatten=b++(A0 (k+1) a).flatten:=by rw[Et,JD,NO]
  rw[<-f,<-foldl_rep a k (b++a),<-e,Et,fe]
section
variable{X:Cx}{pins:List (Addr×Obj)}{σ:St}{H:Hp}{s:Shared}{l b:Addr}{xs ys zs:List V}
private theorem Inv.OQ{a its':List Value}(I:Inv X pins σ H s)(i:H l=some (.lst xs))
 (e:s.heap.get? l=some {cls:=.type "list",data:=.seq a.toArray n})(g:f a.toArray=its'.toArray)(c:Vals ys its')(hz:ys.length<=sizeLine):
 Inv X pins σ (upd H l (.lst ys)) {s with heap:=s.heap.update l (Obj.mapSeq f),toks:=t'}:=by
 have q:=PySem.IsL.update e f;rw[g]at q;refine I.write (x:=l) (e:=l) (by rw[i];exact trivial) (.inl rfl) (λj u h d=>(Heap.get?_update_other s.heap (Obj.mapSeq f) (Oy h)).trans d) ⟨_,q⟩ ?_;exact⟨hz,its',_,c,q⟩
private theorem Inv.VR(I:Inv X pins σ H s)(c:Vals ys a)(hz:ys.length<=sizeLine):
 Inv X pins σ (upd H s.heap.objs.size (.lst ys)) {s with heap:=s.heap.push {cls:=.type "list",data:=.seq a.toArray},toks:=t'}:=
 I.laid (λ_ _ q=>Bi _ q) (BY _) ⟨hz,a,0,c,Hb _ rfl⟩
private theorem Inv.fresh(I:Inv X pins σ H s):H s.heap.objs.size=none:=I.hok.fresh (BY _)
private theorem Inv.Jd(I:Inv X pins σ H s)(c:H l=some (.lst xs)):xs.length<=sizeLine/\∃(a:List Value)(n:Nat),Vals xs a/\xs.length=a.length/\s.heap.get? l=some {cls:=.type "list",data:=.seq a.toArray n}:=by obtain⟨z,a,n,r,e⟩:=I.hok l _ c;exact⟨z,a,n,r,r.length,e⟩
private theorem wu(h:n<=sizeLine):Builtin.List.listTooLong n=false:=by unfold Builtin.List.listTooLong;exact Ee (by lia)
end
section
variable{X:Cx}
def lN:V->List V->Hp->VK->Prop:=λx b H Q=>∃l a y,x=.ref l/\b=[y]/\H l=some (.lst a)/\a.length<sizeLine/\Q .aN (upd H l (.lst (a++[y])))
private theorem gU:Zr X "list.append" lN:=by intro b s g H x j v k Q I d rv h;obtain⟨l,i,y,rfl,rfl,c,hz,q⟩:=h;cases d;obtain⟨u,rfl,f⟩:=rv.one;obtain⟨z,a,n,r,m,e⟩:=I.Jd c;refine call_meets F.slot_list_append ⟨_,e,rfl⟩ F.entry_list_append (F.args_list_append_2 _ _) (PySem.list_append l a.toArray n u (by rw[FM];lia)) ⟨e,?_⟩;refine⟨.aN,_,I.OQ (its':=a++[u]) c e (by simp) (r.append (.cons f .nil)) ?_,rfl,q⟩;rw[DL,L0];lia
def Al:V->List V->Hp->VK->Prop:=λx d H Q=>∃l b c a,x=.ref l/\d=[.ref b]/\H l=some (.lst c)/\H b=some (.lst a)/\c.length+a.length<=sizeLine/\Q .aN (upd H l (.lst (c++a)))
private theorem Ca:Zr X "list.extend" Al:=by
 intro f s y H x D v E Q I i rv h;obtain⟨l,b,C,A,rfl,rfl,g,p,hz,q⟩:=h;cases i;obtain⟨u,rfl,j⟩:=rv.one;cases j;obtain⟨z,c,n,r,J,e⟩:=I.Jd g;obtain⟨B,a,m,k,o,t⟩:=I.Jd p;have d:c.toArray.size+a.toArray.size<=sizeLine:=by rw[FM,FM];lia
 have w:¬(!c.toArray.isEmpty&&Builtin.List.listTooLong (c.toArray.size+a.toArray.size))=true:=by rw[wu d,RF];exact Fn
 refine call_meets F.slot_list_extend ⟨_,e,rfl⟩ F.entry_list_extend (F.args_list_extend_2 _ _)
  (AutoSeq1.list_extend_list_list_0 l c.toArray n b a.toArray m w (by rw[FM];lia) (by lia)) ⟨e,t,?_⟩
 refine⟨.aN,_,I.OQ (its':=c++a) g e (by simp) (r.append k) ?_,rfl,q⟩;rw[DL];lia
def Zs:V->List V->Hp->VK->Prop:=λx b H Q=>∃l a y,x=.ref l/\b=[]/\H l=some (.lst a)/\a[a.length -1]?=some y/\Q y (upd H l (.lst a.dropLast))
private theorem OS:Zr X "list.pop" Zs:=by
 intro d s o H x t v w Q I g rv h;obtain⟨l,p,y,rfl,rfl,f,j,q⟩:=h;cases g;have c:=rv.zero;subst c;obtain⟨z,a,n,r,m,e⟩:=I.Jd f;obtain⟨u,k,i⟩:=r.get j;have b:a.toArray[a.toArray.size -1]?=some u:=by show a.toArray[a.length -1]?=some u;rw[<-ZX,<-m];exact k
 refine call_meets F.slot_list_pop ⟨_,e,rfl⟩ F.entry_list_pop (F.args_list_pop_1 _) (MeetsSeq.list_pop_last l a.toArray n u b (by rw[FM];lia)) ⟨e,?_⟩;refine⟨y,_,I.OQ (its':=a.dropLast) f e ?_ r.dropLast ?_,i,q⟩
 .show a.toArray.eraseIdxIfInBounds (a.toArray.size -1)=a.dropLast.toArray;rw[FM,List.eraseIdxIfInBounds_toArray,yG]
 .rw[List.length_dropLast];lia
private theorem len_rep{α:Type}(a:List α)(k:Nat):(A0 k a).flatten.length=k*a.length:=by
 induction k with
 |zero=>simp
 |succ k b=>rw[Et,JD,DL,b,Nat.succ_mul,Nat.add_comm]
end
section
variable{prog:Program}{w:World}{A:Around}{E:Value->Shared->Prop}{s:Shared}
end
section
variable{X:Cx}
end
end L2
namespace Att
open PySem PySem.W PySem.Calls PyProof.Rows
private theorem oz:∀(c:List Int)(vs:List Value),WellAll P h vs (c.map WData.int)->IntsAre vs c:=by
 intro c
 induction c with
 |nil=>intro vs w;rw[de]at w;cases w;exact .nil
 |cons n c d=>
  intro vs w;rw[Fh]at w;cases w with
  |cons a b=>
   cases a;exact .cons _ _ (d _ b)
private theorem Cb{l:OpenLaw}(v:l.most=some n)
 (e:l.row.toRowW.claim.pre args=true)(k:WellAll P h c args):
 ∃a vs b,c=[Value.ref a]/\args=[WData.list (b.map WData.int)]/\h.get? a=some {cls:=.type "list",data:=.seq vs.toArray}/\IntsAre vs b/\b.length<=n:=by
 have m:WShape.hasAll [] args [.list .int]=true:=(pre_splitW e).1;have o:l.pre.holds [] {args:=args}=true:=(pre_splitW e).2;obtain⟨d,r,rfl,y,x⟩:=hasAllW_cons m;obtain rfl:=hasAllW_nil x;obtain⟨z,rfl,w⟩:=hasW_list y;obtain⟨b,rfl⟩:=items_int w;have f:b.length<=n:=by
  unfold OpenLaw.pre at o;have j:(WTm.not (.lt (.lit (.int (n:Int))) (.len (.arg 0)))).holds [] {args:=[.list (b.map .int)]}=true:=by have j:=(holds_andW o).1;rw[v]at j;exact j
  have i:=condW_of j (w_not (w_lt w_lit (w_len_list (w_arg rfl))));rw[FK]at i;refine fb λq=>?_;have t:(n:Int)<((b.length:Nat):Int):=by lia
  first
   |(rw[Bz t]at i;exact absurd i (by decide))
   |(simp at i;lia)
 cases k with
 |cons s p=>
  cases p;cases s with
  |list u g=>exact⟨_,_,b,rfl,rfl,u,oz b _ g,f⟩
private theorem Cc(l:OpenLaw)(args:List WData):l.row.toRowW.claim.post args (.bool true) args=true:=
 postW_of (r:=l.row.toRowW) (X:=(true==true))
  (show WShape.has [] (.bool true) .bool=true by first|rfl|decide|simp[WShape.has,WShape.arms,WShape.armsAll])
  (show(WTm.eq .res (.lit (.bool true))).value [] {args:=args,res:=some (.bool true),after:=args}=some (.bool (true==true))from w_eq_bool (w_res rfl) w_lit) rfl
private theorem wz{l:OpenLaw}{d:DefRec}
 (K:l.most=some n)(y:d.params.defaults=[])
 (call:∀(w:World)(c b:Shared)(mg u:Str->Option Value)(m:Addr)(o:Obj)(t s h:Value)(a:Addr)(vs:List Value)(p:List Int),
   Ground q e [] F w c mg u b.heap->E w b.heap->
   b.heap.get? m=some o->o.data=.func (docDef d.name d.params d.body d.scope t s h)->b.heap.CodeRec s d.name->mg d.name=some (.ref m)->
   b.heap.get? a=some {cls:=.type "list",data:=.seq vs.toArray}->IntsAre vs p->p.length<=n->b.gens= #[]->
   codeAny (model l.prog w) callerA (.call (.ref m) ⟨[.ref a],[]⟩) (λr s'=>r=.ok (.ret (.bool true))/\OldK b.heap s'.heap/\s'.os=b.os/\AllBare s'.gens) b):
 WalkO q e F E l.row.toRowW d [] (λf vs=>PySem.call f vs):=by
 intro w c b mg u G Y m o t s h R kV J hd z C x N D A S i B H v M;obtain rfl:R=.none:=Dflts.none C y;obtain rfl:kV=.none:=Dflts.noKw C;obtain⟨a,vs,p,rfl,rfl,j,g,k⟩:=Cb K i v;refine enter_call (T2 (call w c b mg u m o t s h a vs p G Y J (fd_plain hd) z x j g k N) λr s' I=>?_);obtain⟨rfl,Q,P,O⟩:=I;exact⟨.inl ⟨.bool true,.bool true,[],rfl,λ_=>rfl,.bool true,Cc l _,λ_=>⟨hZ,λ_ L=>(nomatch L)⟩⟩,Q,P,O⟩
section
variable{prog:Program}{w:World}{A:Around}{E:Value->Shared->Prop}{s:Shared}{K:Frag}
end
end Att
namespace L2
open PySem PySem.Spec PyProof.Rows
private theorem t7:∀{vs:List Value}{a:List Int},IntsAre vs a->Vals (a.map V.int) vs
 |_,_,.nil=>.nil
 |_,_,.cons n t h=>.cons ⟨t,rfl⟩ (t7 h)
def Eu(H:Hp):Prop:=∀b,H b=none\/(∃o a,H b=some (.i6 o (.lst a)))\/∃l c q,H b=some (.BJ l c q)
noncomputable def tabsOk(K:Frag)(a:List Addr):Bool:=decide (((tabs K).map (·.2.1)).Nodup)&&(tabs K).all λx=>codeHdIn K x.1 x.2.1&&(K.lookup x.2.1).isNone&&a.contains x.2.1
noncomputable def wB(l:List (Addr×Addr×Nat×Nat×Str))(H:Hp):Hp:=λb=>match l.find? λx=>x.2.1==b with
 |some x=>some (.BJ x.2.2.1 x.2.2.2.1 x.2.2.2.2)
 |none=>H b
private theorem jQ(h:wB l H b=some u):(∃x∈l,x.2.1=b/\u=.BJ x.2.2.1 x.2.2.2.1 x.2.2.2.2)\/((∀x∈l,x.2.1≠b)/\H b=some u):=by
 unfold wB at h;split at h
 .rename_i x hx
  refine .inl ⟨x,YZ hx,by have:=List.find?_some hx;exact GT.mp this,(Fs h).symm⟩
 .rename_i hx
  refine .inr ⟨λx a e=>?_,h⟩;have:=OK.mp hx x a;rw[e]at this;simp at this
private theorem Am:∀{l:List (Addr×Addr×Nat×Nat×Str)}{H:Hp},(l.map (·.2.1)).Nodup->∀x∈l,wB l H x.2.1=some (.BJ x.2.2.1 x.2.2.2.1 x.2.2.2.2)
 |[],_,_,x,a=>by cases a
 |y::l,H,b,x,a=>by
  rw[Fh,Ha]at b;unfold wB;rcases Do.mp a with rfl|a
  .rw[List.find?_cons_of_pos (by simp)]
  .have c:y.2.1≠x.2.1:=λe=>b.1 (e▸List.mem_map_of_mem a);rw[List.find?_cons_of_neg (by simpa using c)];exact Am b.2 x a
private theorem Je(h:∀x∈l,x.2.1≠b):wB l H b=H b:=by unfold wB;rw[OK.mpr λx a=>by simpa using h x a]
private theorem Ew{K:Frag}{fa a:Addr}{fd:FuncData}{x:Str}{sp:Sp}{f:Shared}{vs:List Value}{O:List Int}{ts:List Addr}
 (KX:K.In f.heap)(hT:∀P∈ts,f.heap.get? P=some (tabObj #[]))(D:tabsOk K ts=true)(Z:f.heap.Ns mainGlobals mg)(i:f.heap.Ns builtinsNs mb)(Ey:∀x:Str,x≠"__name__"->mb x=bootBuiltins x)(hlim:f.heap.NoLimit)(Jf:f.heap.NoSeer)
 (hbm:∃bm B,mg "__builtins__"=some (.ref bm)/\bm≠builtinsNs/\f.heap.get? bm=some B/\B.cls=.type "module"/\B.dict=some builtinsNs/\B.data=.plain)(VU:P.given.tree=none)(hg:f.gens= #[])
 (ha:f.heap.get? a=some {cls:=.type "list",data:=.seq vs.toArray})(hi:IntsAre vs O)(hl:O.length<=sizeLine)(hr:bZ k callerA)
 (F:∀A:Heap,K.In A->A.Ns mainGlobals mg->bL P w K mg A CX k fa fd [x] sp)(L:∀(s:Shared)(u:Value),BindsTo s fd ⟨[u],[]⟩ [(x,u)])
 (lC:∀H:Hp,Eu H->kC K H a (O.map V.int)->sp [.ref a] H (λv _=>v=.bl true) λ_ _ _=>False)
 (Zt:∀H e s',CX [] H f (λ_ _ _=>False) e s'->False):
 codeAny (model P w) callerA (.call (.ref fa) ⟨[.ref a],[]⟩) (λr s'=>r=.ok (.ret (.bool true))/\OldK f.heap s'.heap/\s'.os=f.os/\AllBare s'.gens) f:=by
 have rv:=t7 hi;have Zu:=hi.length;unfold tabsOk at D;rw[AC]at D;have hnd:=AN D.1;have J:∀x∈tabs K,codeHdIn K x.1 x.2.1=true/\K.lookup x.2.1=none/\f.heap.get? x.2.1=some (tabObj #[]):=λx g=>by have h:=HI.mp D.2 x g;rw[AC,AC]at h;exact⟨h.1.1,by simpa using h.1.2,hT _ (by simpa using h.2)⟩
 have E:∀C:Hp,(∀b,C b=none\/∃o U,C b=some (.i6 o (.lst U)))->kC K C a (O.map V.int)->gH P w C f.heap->(∀b,C b≠none->b=a)->(C a≠none->K.lookup a=none)->
  codeAny (model P w) callerA (.call (.ref fa) ⟨[.ref a],[]⟩) (λr s'=>r=.ok (.ret (.bool true))/\OldK f.heap s'.heap/\s'.os=f.os/\AllBare s'.gens) f:=by
  intro C Zv hS0 Zw hA0 hK0;obtain⟨H,S⟩:∃H,H=wB (tabs K) C:=⟨_,rfl⟩;have nta:∀x∈tabs K,x.2.1≠a:=λx g e=>by have:=(J x g).2.2;rw[e,ha]at this;cases this
  have hO:Eu H:=λb=>by
   rw[S];cases q:wB (tabs K) C b with
   |none=>exact .inl rfl
   |some u=>
    rcases jQ q with⟨x,_,_,e⟩|⟨_,e⟩
    .exact .inr (.inr ⟨_,_,_,IR some e⟩)
    .rcases Zv b with z|⟨o,U,z⟩
     .rw[z]at e;cases e
     .rw[z]at e;cases e;exact .inr (.inl ⟨_,_,rfl⟩)
  have ea:H a=C a:=by rw[S];exact Je nta
  have hS:kC K H a (O.map V.int):=by
   rcases hS0 with(z|⟨o,z⟩)|z
   .exact .inl (.inl (ea.trans z))
   .exact .inl (.inr ⟨o,ea.trans z⟩)
   .exact .inr z
  have Y:gH P w H f.heap:=λb u e=>by
   rw[S]at e;rcases jQ e with⟨x,g,rfl,rfl⟩|⟨hn,e⟩
   .exact .inl (J x g).2.2
   .rcases Zv b with z|⟨o,U,z⟩
    .rw[z]at e;cases e
    .rw[z]at e;cases e;exact(Zw b _ z)
  have hA:∀b u,H b=some u->∃o,f.heap.get? b=some o/\(∀Q R,o.data≠.dict Q R)/\o.cls≠.type "module"/\K.lookup b=none:=λb u e=>by
   rw[S]at e;rcases jQ e with⟨x,g,rfl,rfl⟩|⟨hn,e⟩
   .exact⟨_,(J x g).2.2,(λ_ _ z=>by cases z),(λz=>by cases z),(J x g).2.1⟩
   .have N:b=a:=hA0 b (by rw[e];simp);subst N;exact⟨_,ha,(λ_ _ z=>by cases z),(λz=>absurd (show Value.type "list"=Value.type "module"from z) (by decide)),hK0 (by rw[e];simp)⟩
  have oW:∀{b:Addr}{o:Obj},f.heap.get? b=some o->H b=none->(uH f.heap H).get? b=some o:=λe n=>DQ e n;have IP:∀{b:Addr}{o:Obj}{Q:Array DictEntry}{R:Nat},f.heap.get? b=some o->o.data=.dict Q R->H b=none:=λ{b o Q R} e d=>by
   cases q:H b with
   |none=>rfl
   |some u=>obtain⟨o',N,p,_⟩:=hA b u q;rw[e]at N;cases N;exact absurd d (p _ _)
  have I:∀{b:Addr}{m:Str->Option Value},f.heap.Ns b m->(uH f.heap H).Ns b m:=λ{b m} ⟨o,Q,R,e,d,r⟩=>⟨o,Q,R,oW e (IP e d),d,r⟩;have hKb:K.In (uH f.heap H):=λb o e=>oW (KX b o e) (by
   cases q:H b with
   |none=>rfl
   |some u=>obtain⟨_,_,_,_,M⟩:=hA b u q;rw[M]at e;cases e)
  have X:∀{b:Addr}{o:Obj},f.heap.get? b=some o->o.cls=.type "module"->H b=none:=λ{b o} e d=>by
   cases q:H b with
   |none=>rfl
   |some u=>obtain⟨o',N,_,j,_⟩:=hA b u q;rw[e]at N;cases N;exact absurd d j
  have hM:Mod K mg (uH f.heap H):=⟨hKb,I Z,⟨mb,I i,Ey⟩,let⟨mc,p,j⟩:=hlim;⟨mc,I p,j⟩,⟨let⟨m,p,j⟩:=Jf.statics;⟨m,I p,j⟩,let⟨m,p,j⟩:=Jf.mods;⟨m,I p,j⟩,let⟨m,p,j⟩:=Jf.imp;⟨m,I p,j⟩,let⟨m,bm,B,p,j,M,h4,h5⟩:=Jf.main;⟨m,bm,B,I p,j,oW M (X M h4),h4,h5⟩⟩,
   let⟨bm,B,p,j,M,h4,h5⟩:=hbm;⟨bm,B,p,j,oW M (X M h4),h4,h5⟩⟩
  have htb:z8 K H:=λx g=>⟨(J x g).1,by rw[S];exact Am hnd x g⟩;have e0:p8 P w K mg (uH f.heap H) callerA [] f H:=⟨rfl,hM,λb o e=>Iv e,Vf (BK _ _),trivial,λb i=>absurd (show b∈([]:List Addr)from i) (by simp),Y,.of_eq hg,VU,htb⟩;refine T2 ((F _ hKb (I Z)).run callerA [] f H ⟨[.ref a],[]⟩ [.ref a] [.ref a] _ _ hr e0 (L f (.ref a)) (.cons rfl .nil) (lC H hO hS)) λr s' h=>?_;cases r with
  |error e=>exact(Zt H e s' h).elim
  |ok fl=>
   cases fl with
   |next=>exact DN h
   |brk=>exact DN h
   |cont=>exact DN h
   |ret u=>
    obtain⟨v,H',os,bare,un,VW,r',q⟩:=h;have q':v=.bl true:=q;subst q';obtain rfl:u=Value.bool true:=r';refine⟨rfl,⟨λb o e=>?_,λb o e=>un.there b o e (by simp)⟩,os,bare⟩;cases q:H b with
    |none=>exact .inl (un.keep b o e q (by intro z;exact absurd (show b∈([]:List Addr)from z) (by simp)) (by simp))
    |some u=>
     rcases hO b with z|⟨B,U,z⟩|⟨l,c,qn,z⟩
     .rw[q]at z;cases z
     .have z2:=un.gk b B _ z;obtain⟨e1,_⟩:=Y b _ z;obtain⟨e2,_⟩:=VW b _ z2;rw[e]at e1;cases e1;exact .inl e2
     .have zz:=z;rw[S]at zz;rcases jQ zz with⟨x,g,rfl,e3⟩|⟨_,e3⟩
      .have e4:=(J x g).2.2;rw[e]at e4;cases e4;rcases VW _ _ (un.gQ _ _ _ _ z)with e5|⟨k,oc,VY,t,_,_,_,e5⟩
       .exact .inl e5
       .have hd:=(PySem.W.codeHd_of_K KX (J x g).1).tab e;exact .inr (.inl ⟨hd.isCodeTable,rfl,#[],_,rfl,by rw[Array.empty_append];exact e5⟩)
      .rcases Zv b with y|⟨o2,U,y⟩
       .rw[y]at e3;cases e3
       .rw[y]at e3;cases e3
 cases hk:K.lookup a with
 |some o=>have e:=KX a o hk;rw[ha]at e;cases e;refine E (λ_=>none) (λ_=>.inl rfl) (.inr ⟨_,vs.toArray,_,hk,rfl,rfl,rfl,by rw[FM,Zu];exact hl,by simpa using rv⟩) (λb u z=>by have T:(none:Option HO)=some u:=z;cases T) (λb z=>absurd rfl z) λz=>absurd rfl z
 |none=>
  refine E (λb=>if b=a then some (.i6 {cls:=.type "list",data:=.seq vs.toArray} (.lst (O.map V.int)))else none) (λb=>?_) (.inl (.inr ⟨{cls:=.type "list",data:=.seq vs.toArray},BM rfl⟩)) (λb u z=>?_) (λb z=>?_) λ_=>hk
  .by_cases i:b=a
   .exact .inr ⟨_,_,BM i⟩
   .exact .inl (B1 i)
  .by_cases i:b=a
   .have T:=(BM i).symm.trans z;cases T;subst i;exact⟨ha,by rw[FK];exact hl,vs,_,rv,ha⟩
   .have T:=(B1 i).symm.trans z;cases T
  .by_cases i:b=a
   .exact i
   .exact absurd (B1 i) z
private theorem Jg{l:PySem.W.OpenLaw}{d:DefRec}{K:Params->Frag}{CX:World->B7}{sp:World->Sp}{x:Str}{J:List Addr}
 (Q:l.most=some n)(B:n<=sizeLine)(D:d.params.defaults=[])(O:bZ k callerA)(Zx:importsNone q=true)(z:l.prog.given.tree=none)
 (X:∀(w:World)(h:Heap),I w h->(K w.params).In h)(VH:∀(w:World)(h:Heap),I w h->∀P∈J,h.get? P=some (tabObj #[]))(A:∀w:World,tabsOk (K w.params) J=true)
 (F:∀(w:World)(mg:Str->Option Value)(y:Addr)(h:Heap),(K w.params).In h->h.Ns mainGlobals mg->mg d.name=some (.ref y)->
   ∃E:FuncData,(∀(s:Shared)(u:Value),BindsTo s E ⟨[u],[]⟩ [(x,u)])/\
    ∀c:Heap,(K w.params).In c->c.Ns mainGlobals mg->bL l.prog w (K w.params) mg c (CX w) k y E [x] (sp w))
 (N:∀(w:World)(H:Hp)(a:Addr)(t:List Int),t.length<=n->Eu H->kC (K w.params) H a (t.map V.int)->sp w [.ref a] H (λv _=>v=.bl true) λ_ _ _=>False)
 (Zt:∀(w:World)(H:Hp)(s:Shared)(e:Value)(s':Shared),CX w [] H s (λ_ _ _=>False) e s'->False):
 PySem.W.WalkO q j XP I l.row.toRowW d [] (λf vs=>PySem.call f vs):=by
 refine Att.wz Q D λw L p mg mb y o pm cd doc a vs t G Y ho hd S C r m i R=>?_;have M:=X w _ Y;obtain⟨E,U,hF⟩:=F w mg y _ M G.T.g C;exact Ew M (VH w _ Y) (A w) G.T.g G.T.b G.T.builtins G.T.nolimit (G.T.seer Zx) G.T.bmain z R r m (FV i B) O hF U (λH hO Z=>N w H a t i hO Z) λH e s'=>Zt w H p e s'
noncomputable def inClass(s:Stmt)(j:Nat):Stmt:=match s with
 |.ClassDef _ _ _ body _ _ _ _ _ _ _=>body.getD j (.Pass ⟨0,0,0,0⟩)
 |_=>.Pass ⟨0,0,0,0⟩
noncomputable def aV(s:Stmt):Arguments:=match s with
 |.FunctionDef _ a _ _ _ _ _ _ _ _=>a
 |_=>{posonlyargs:=[],args:=[],vararg:=none,kwonlyargs:=[],kw_defaults:=[],kwarg:=none,defaults:=[]}
noncomputable def aF(s:Stmt):List Stmt:=match s with
 |.FunctionDef _ _ b _ _ _ _ _ _ _=>b
 |_=>[]
noncomputable def af(s:Stmt):Scope:=match s with
 |.FunctionDef _ _ _ _ _ _ sc _ _ _=>sc
 |_=>{kind:=.function,names:=[],isGenerator:=false,isCoroutine:=false}
abbrev VZ:B7:=λ_ _ _ _ _ _=>False
abbrev E0:XK:=λ_ _ _=>False
structure Ez(K:Frag)(x qual:Str)(st:Stmt)(f:Addr)(fd:FuncData):Prop where
 ex:∃(oc:Value)(od:Option Addr)(kV doc pm:Value)(an:Option Addr)(cdv ct:Value)(osl:Array (Option Value)),
  fd=fnOf x qual (aV st) (aF st) (af st) .none kV doc pm an cdv ct/\K.lookup f=some ⟨oc,od,.func fd,osl⟩/\codeIn K cdv qual=true
 kp:keepIn K (.ref f)=true
section
variable{P:Program}{w:World}{K:Frag}{mg:Str->Option Value}{base:Heap}
private theorem Ez.binds{st:Stmt}(F:Ez K x a st f i)
 (h:∀(kV b d:Value)(g:Option Addr)(c e:Value)(us:List Value),us.length=ps.length->bindArgs (fnOf x a (aV st) (aF st) (af st) .none kV b d g c e) ⟨us,[]⟩=pure (ps.zip us)):Binds K i ps []:=by
 obtain⟨m,l,kV,b,d,g,c,e,j,rfl,n,k⟩:=F.ex;exact .all (h kV b d g c e)
private theorem yI{st:Stmt}{kV d g b h:Value}(l:K.lookup f=some ⟨m,j,.func (fnOf x a (aV st) (aF st) (af st) .none kV d g i b h),e⟩)
 (c:codeIn K b a=true)(k:keepIn K (.ref f)=true):Ez K x a st f (fnOf x a (aV st) (aF st) (af st) .none kV d g i b h):=⟨⟨m,j,kV,d,g,i,b,h,e,rfl,l,c⟩,k⟩
end
section
variable{X:Cx}
private theorem pv(i:Nat)(c:autoParam (X.N[i]?=some x) dA._auto_1)(b:Vg X.env.scope x:=by first|exact la rfl|exact lL (la rfl)|exact lL (lL rfl))(hd:autoParam ((x==("__debug__":Str))=false) dB._auto_1)
 (a:autoParam ((x==("__classdict__":Str))=false) dB._auto_1):PE X (.Name x pos) (gI i):=ym c b hd a
end
def aq(H H':Hp):Prop:=∀b o,H b=some o->H' b=some o
private theorem aq.refl(H:Hp):aq H H:=λ_ _ h=>h
private theorem aq.trans(a:aq H H1)(b:aq H1 d):aq H d:=λc o h=>b c o (a c o h)
private theorem aq.free(e:aq H H')(h:H' l=gm):H l=gm:=by
 cases q:H l with
 |none=>rfl
 |some o=>rw[e l o q]at h;cases h
private theorem bits_le(h:x.natAbs<2^n):Builtin.Int.intBits x<=n:=by
 unfold Builtin.Int.intBits;split
 .exact OF _
 .rename_i hx
  have a:x.natAbs≠0:=λe=>hx (by simp[Int.natAbs_eq_zero.mp e]);have:=(eC a).mpr h;lia
private theorem yJ(h:Builtin.Int.intBits i+Builtin.Int.intBits j<=134217728):IntMulOk i j:=by
 unfold IntMulOk Builtin.Int.intTooBig;have a:¬((Builtin.Int.intBits i:Int)+(Builtin.Int.intBits j:Int)>((bitsLine:Nat):Int)):=by rw[bitsLine_eq];lia
 intro z;rw[AC]at z;exact a (AN z.2)
section
variable{X:Cx}
private theorem Jh:lH X (binaryOp .Mult) (rI IntMulOk λi j=>.int (i*j)):=Zi λ_ _ _ _ _ _ _ a q=>mul_int q a
def i7(_ j:Int):Prop:=j≠0/\j.natAbs.log2<1000000000
private theorem EA:lH X (binaryOp .FloorDiv) (rI i7 λi j=>.int (i.fdiv j)):=λa s e H x y v u Q I c b h=>by obtain⟨i,j,rfl,rfl,d,q⟩:=h;obtain⟨t,rfl⟩:=c;obtain⟨f,rfl⟩:=b;exact floordiv_int d.1 ⟨.int (i.fdiv j),H,I.tok _,⟨_,rfl⟩,q⟩ (.inr (I.ok.Vh X.A s rfl rfl I.bk))
end
private theorem aK(h:H p=none)(o:HO):aq H (upd H p o):=λb u q=>by rw[ak (aD q h)];exact q
private theorem aq.tup{K:Frag}{H H':Hp}{a:Addr}{b:List V}(e:aq H H')(h:lF K H a b):lF K H' a b:=by
 rcases h with(h|⟨o,h⟩)|h
 .exact .inl (.inl (e _ _ h))
 .exact .inl (.inr ⟨o,e _ _ h⟩)
 .exact .inr h
private theorem t8(h:n<=100000):n<=sizeLine:=FV h (by decide)
end L2
namespace L2
private theorem fE(c:0<=j)(b:j<=1000000)(a:i.natAbs<2^64):Ed i j:=⟨c,b,a⟩
end L2
namespace L2
open PySem PySem.Spec PyProof.Rows
private theorem wC(a:H q=some u)(b:H p=none):upd H p o q=some u:=by rw[ak (aD a b)];exact a
private theorem bH.thing(x:bH P w H h a o):∃b,h.get? a=some b:=by
 cases o with
 |lst g=>obtain⟨_,_,_,_,e⟩:=x;exact⟨_,e⟩
 |tup g=>obtain⟨_,_,_,b,e,_⟩:=x;exact⟨_,e⟩
 |dK d=>obtain⟨_,_,_,_,b,_,_,e,_⟩:=x;exact⟨_,e⟩
 |dT d=>obtain⟨_,_,_,_,b,_,_,e,_⟩:=x;exact⟨_,e⟩
 |set S n=>obtain⟨b,_,_,_,e,_⟩:=x;exact⟨_,e⟩
 |ins C m i=>obtain⟨_,_,_,e,_⟩:=x;exact⟨_,e⟩
 |own y=>exact x
 |xd i=>obtain⟨_,⟨_,_,_,e,_⟩,_⟩:=x;exact⟨_,e⟩
 |pT j k=>obtain⟨_,_,_,e⟩:=x;exact⟨_,e⟩
 |i6 b u=>obtain⟨e,_⟩:=x;exact⟨_,e⟩
 |BJ l c q=>
  rcases(show _\/_ from x)with e|⟨_,_,_,_,_,_,_,e⟩
  .exact⟨_,e⟩
  .exact⟨_,e⟩
 |met f y=>exact⟨_,x⟩
 |ext φ=>obtain⟨_,e,_⟩:=x;exact e
private theorem gH.gone(x:gH P w H h)(e:h.get? a=none):H a=none:=by
 cases q:H a with
 |none=>rfl
 |some u=>obtain⟨b,z⟩:=(x a u q).thing;rw[e]at z;cases z
private theorem gH.tracked(x:gH P w H h)(k:∀b u c,H b=some u->h.get? b=some c->h'.get? b=some c):gH P w H h':=λa o e=>
 (x a o e).stay (λb u z q=>by
   rcases z with rfl|z
   .exact k b o u e q
   .exact k b _ u z q) (λ_ q=>q) (λ_ _ q=>q) λ_ _ _ _ q=>q
structure Fly(P:Program)(w:World)(outer:List Env)(H:Hp)(s:Shared)(H':Hp)(a C:Addr)(s':Shared):Prop where
 os:s'.os=s.os
 bare:AllBare s'.gens
 un:Un (frs outer) [] H H' s.heap s'.heap
 hok:gH P w H' s'.heap
 new:H' a=none
 old:s.heap.get? a=none
 OT:∃(B:Heap)(a0:Value),Heap.FlyingW B outer a (.ref C) a0 s'.heap/\∀b o,s'.heap.get? b=some o->b∉frs outer->((∃o',s.heap.get? b=some o')\/∃u,H' b=some u)->B.get? b=some o
def eu(P:Program)(w:World):B7:=λb H s E e d=>∃a C c,e=.ref a/\Fly P w b H s c a C d/\E (.ref C) none c
section
variable{P:Program}{w:World}{K:Frag}{mg:Str->Option Value}{base:Heap}{N:List Str}{qual:Str}{scope:Scope}{f:Addr}{cd:Value}{A:Around}{outer:List Env}{s:Shared}{H:Hp}{E:XK}
abbrev OU(P:Program)(w:World)(K:Frag)(mg:Str->Option Value)(base:Heap)(N:List Str)(qual:Str)(scope:Scope)(f:Addr)(cd:Value)(A:Around)(outer:List Env)(s:Shared)(H:Hp)(E:XK):Cx:=
 yC (eu P w) P w K mg base N qual scope f cd A outer s H E
private theorem qd(a:e.frame=some L):b∈frs (e::l)↔b=L\/b∈frs l:=by unfold frs;rw[Mu,a];exact Do
structure EB(X:Cx):Prop where
 st:X.stack=X.env::X.outer
 lf:X.env.frame=some X.s₀.heap.objs.size
 ex:X.ex=[]
private theorem t9(d:EB X){y:St}(I:Inv X h y H1 k)
 (u:Un (frs X.stack) [] H1 x k.heap t):Un (frs X.outer) [] X.H₀ x X.s₀.heap t:=by
 have lf:=d.lf;have st:∀b,b∈frs X.stack↔b=X.s₀.heap.objs.size\/b∈frs X.outer:=λb=>by rw[d.st];exact qd lf
 have e:Un (frs X.outer) [] X.H₀ H1 X.s₀.heap k.heap:=by have:=I.base;rw[d.ex]at this;exact this
 have p:∀b o,X.s₀.heap.get? b=some o->b∉frs X.outer->b∉frs X.stack:=λb o q g z=>by
  rcases(st b).mp z with z|z
  .exact absurd (FC q) (by rw[z];exact PH _)
  .exact g z
 refine⟨λb o q n g a=>?_,λb o q n g a=>?_,λb o q n a=>?_,λb o q a=>?_,λb r q=>u.tups b r (e.tups b r q),λb o v q=>u.gk b o v (e.gk b o v q),λb l c q z=>u.gQ b l c q (e.gQ b l c q z)⟩
 .exact u.keep b o (e.keep b o q n g a) (e.free b o q n a) (p b o q g) a
 .obtain⟨C,i⟩:=e.slot b o q n g a;obtain⟨j,B⟩:=u.slot b _ i (e.free b o q n a) ((st b).mpr (.inr g)) a;exact⟨j,B⟩
 .obtain⟨m,i⟩:=e.there b o q a;exact u.free b m i (e.free b o q n a) a
 .obtain⟨m,i⟩:=e.there b o q a;exact u.there b m i a
private theorem yK(u:Un (frs l) [] H1 t p g)(k:∀b o,g.get? b=some o->b∉frs l->((∃c,p.get? b=some c)\/∃u,t b=some u)->h.get? b=some o)
 (ff:∀b,b∈frs l->∃o,g.get? b=some o/\∀vs,o.data≠.fields vs)(up:g.UpToSlots h):Un (frs l) [] H1 t p h:=by
 have v:∀b o,b∈frs l->g.get? b=some o->∃m,h.get? b=some {o with slots:=m}:=λb o a q=>by obtain⟨c,e,x⟩:=ff b a;rw[q]at e;cases e;exact up b o q x
 refine⟨λb o q n a d=>k b o (u.keep b o q n a d) a (.inl ⟨o,q⟩),λb o q n a d=>?_,u.free,λb o q d=>?_,u.tups,u.gk,u.gQ⟩
 .obtain⟨m,i⟩:=u.slot b o q n a d;obtain⟨j,r⟩:=v b _ a i;exact⟨j,r⟩
 .obtain⟨c,i⟩:=u.there b o q d;by_cases a:b∈frs l
  .obtain⟨m,r⟩:=v b c a i;exact⟨_,r⟩
  .exact⟨c,k b c i a (.inl ⟨o,q⟩)⟩
private theorem An(d:EB X){g:St}(I:Inv X b g H1 c)(e:c.heap.get? a=none):X.s₀.heap.get? a=none:=by
 have h:Un (frs X.outer) [] X.H₀ H1 X.s₀.heap c.heap:=by have:=I.base;rw[d.ex]at this;exact this
 cases q:X.s₀.heap.get? a with
 |none=>rfl
 |some o=>obtain⟨i,z⟩:=h.there a o q (by simp);rw[e]at z;cases z
private theorem dx1:EB (OU P w K mg base N qual scope f cd A outer s H E):=⟨rfl,rfl,rfl⟩
private theorem nT(d:EB X)(Zy:X.xe=λe s'=>wpAny (model X.prog X.w) X.A (leaving X.env e) (λ_ g=>eu X.prog X.w X.outer X.H₀ X.s₀ E e g) (λe' g=>eu X.prog X.w X.outer X.H₀ X.s₀ E e' g) s'){O:St}{h':Heap}{a C:Addr}{p:List Value}(I:Inv X i O H1 c)
 (r:Heap.MadeExcOf c.heap h' a (.ref C) p)(q:E (.ref C) none H1):X.xe (.ref a) {c with heap:=h'}:=by
 rw[Zy];show wpAny _ _ _ _ _ _;have lf:=d.lf;have st:∀b,b∈frs X.stack↔b=X.s₀.heap.objs.size\/b∈frs X.outer:=λb=>by rw[d.st];exact qd lf
 have ff:=I.stack;have y:∀env∈X.stack,∀b,env.frame=some b->b∈frs X.stack:=λenv Y b B=>O4.mpr ⟨env,Y,B⟩;have n:=PySem.W.funFrames_hide ff y;have l:=n;rw[d.st]at l;refine wpAny_leaves_madeW (h:=c.heap) (I.ok.frames.trans (by rw[d.st])) lf (λb o z=>PySem.W.of_hideAll _ z) l r λv t x x2 x3 R=>?_;rw[<-d.st]at x;have D:∀b o,c.heap.get? b=some o->b∉frs X.stack->v.get? b=some o:=λb o z j=>x.1 b o (hideAll_get _ z j);have fm:∀b,b∈frs X.stack->∃o,c.heap.get? b=some o/\∀S,o.data≠.fields S:=λb B=>(n.mem B).2;have up:c.heap.UpToSlots v:=(Heap.UpToSlots.of_keeps r.keeps).trans R;have T:Un (frs X.stack) [] H1 H1 c.heap v:=yK Un.refl (λb o z j _=>D b o z j) fm up;refine⟨a,C,H1,rfl,⟨I.os,I.bare,t9 d I T,I.hok.tracked λb u U z Q=>D b U Q λm=>?_,I.hok.gone r.new,An d I r.new,_,_,x,λb o z j k=>?_⟩,q⟩
 .have:=I.jO b m;rw[z]at this;cases this
 .have M:b∉frs X.stack:=λm=>by
   rcases k with⟨J,e⟩|⟨u,e⟩
   .rcases(st b).mp m with m|m
    .exact absurd (FC e) (by rw[m];exact PH _)
    .exact j m
   .have:=I.jO b m;rw[e]at this;cases this
  have:∃o1,c.heap.get? b=some o1:=by
   rcases k with⟨J,e⟩|⟨u,e⟩
   .exact Un.there (show Un (frs X.outer) [] X.H₀ H1 X.s₀.heap c.heap by have:=I.base;rw[d.ex]at this;exact this) b J e (by simp)
   .exact(I.hok b u e).thing
  obtain⟨o1,L⟩:=this;have Z:=D b o1 L M;have F:v.get? b=some o:=z;rw[Z]at F;cases F;exact hideAll_get _ L M
private theorem ua(d:EB X)(Zy:X.xe=λe s'=>wpAny (model X.prog X.w) X.A (leaving X.env e) (λ_ g=>eu X.prog X.w X.outer X.H₀ X.s₀ E e g) (λe' g=>eu X.prog X.w X.outer X.H₀ X.s₀ E e' g) s'){L:St}{e:Value}(I:Inv X i L H1 k)
 (T:eu X.prog X.w X.stack H1 k E e s'):X.xe e s':=by
 rw[Zy];show wpAny _ _ _ _ _ _;obtain⟨a,C,r,rfl,F,q⟩:=T;obtain⟨B,a0,x,n⟩:=F.OT;have lf:=d.lf;have st:∀b,b∈frs X.stack↔b=X.s₀.heap.objs.size\/b∈frs X.outer:=λb=>by rw[d.st];exact qd lf
 refine wpAny_leaves_onW (I.ok.frames.trans (by rw[d.st])) lf (by rw[d.st]at x;exact x) λY j O=>?_;have fm:∀b,b∈frs X.stack->∃o,s'.heap.get? b=some o/\∀Q,o.data≠.fields Q:=λb U=>(x.2.2.1.mem U).2;have J:∀b u,r b=some u->b∉frs X.stack:=λb u z m=>by have p:=I.jO b m;obtain⟨o,S,_⟩:=I.stack.mem m|>.2;rw[F.un.free b o S p (by simp)]at z;cases z
 have R:=yK F.un (λb o z l c=>j.1 b o (n b o z l c)) fm O;refine⟨a,C,r,rfl,⟨F.os.trans I.os,F.bare,t9 d I R,F.hok.tracked λb u v z M=>j.1 b v (n b v M (J b u z) (.inr ⟨u,z⟩)),F.new,An d I F.old,B,a0,j,λb o z l c=>?_⟩,q⟩;have Yk:b∉frs X.stack:=λm=>by
  rcases c with⟨h,e⟩|⟨u,e⟩
  .rcases(st b).mp m with m|m
   .exact absurd (FC e) (by rw[m];exact PH _)
   .exact l m
  .exact J b u e m
 have D:(∃h,k.heap.get? b=some h)\/∃u,r b=some u:=by
  rcases c with⟨h,e⟩|z
  .exact .inl (Un.there (show Un (frs X.outer) [] X.H₀ H1 X.s₀.heap k.heap by have:=I.base;rw[d.ex]at this;exact this) b h e (by simp))
  .exact .inr z
 have:∃o1,s'.heap.get? b=some o1:=by
  rcases D with⟨h,e⟩|⟨u,e⟩
  .exact F.un.there b h e (by simp)
  .exact(F.hok b u e).thing
 obtain⟨o1,p⟩:=this;have y:=n b o1 p Yk D;have Z:=j.1 b o1 y;have t:Y.get? b=some o:=z;rw[Z]at t;cases t;exact y
private theorem EC:Passes (eu P w) (OU P w K mg base N qual scope f cd A outer s H E) E:=λ_ _ _ _ _ _ I h=>ua dx1 rfl I h
end
abbrev Zz:List Value:=[.type "ValueError",.type "Exception",.type "BaseException",.type "object"]
structure qe(K:Frag)(C:Addr):Prop where
 exc:excIn K C Zz "ValueError.__new__"=true
 ga:findIn K (.ref C) "__getattribute__"=some (some (.builtin "BaseException.__getattribute__"))
 gt:findIn K (.ref C) "__getattr__"=some none
 cl:findIn K (.ref C) "__class__"=some (some (.builtin "object.__class__"))
 ob:mroIn K C (.type "object")=some true
 bs:mroIn K C (.type "BaseException")=some true
private theorem Ji{p:Prop}(h:false=true):p:=nomatch h
private theorem OW(q:PySem.W.excIn.match_6 (λ_=>Bool) o F (λ_=>false)=true):∃d c l,o=some ⟨.type "type",d,.cls c,l⟩/\F d c l=true:=by
 rcases o with _|⟨b,g,a,f⟩
 .exact Ji q
 cases b with
 |type s=>
  by_cases e:s="type"
  .subst e;cases a with
   |cls h=>exact⟨_,_,_,rfl,q⟩
   |_=>exact Ji q
  .delta PySem.W.excIn.match_6 at q
   exact Ji ((dif_neg e).symm.trans q)
 |_=>exact Ji q
private theorem exB(q:PySem.W.excIn.match_1 (λ_ _=>Bool) m l F (λ_ _=>false)=true):∃a b k0 k1 k2 k3 n k5,m=.ref a::b/\l=[k0,k1,k2,k3,some (.builtin n),k5]/\F a b k0 k1 k2 k3 n k5=true:=by
 rcases m with _|⟨v,d⟩
 .exact Ji q
 cases v with
 |ref e=>
  rcases l with _|⟨k0,_|⟨k1,_|⟨k2,_|⟨k3,_|⟨_|v,r⟩⟩⟩⟩⟩<;>try exact Ji q
  cases v with
  |builtin n=>
   rcases r with _|⟨k5,_|⟨c,r⟩⟩<;>try exact Ji q
   exact⟨_,_,_,_,_,_,_,_,rfl,rfl,q⟩
  |_=>exact Ji q
 |_=>exact Ji q
private theorem oX{K:Frag}(X:K.In h)(q:excIn K C b a=true):
 ∃bm N nm qn bs hdct sn sub ab col dd k0 k1 k2 k3 k5 mN,h.get? C=some (excClassObj nm qn C N bs bm hdct sn sub ab col dd k0 k1 k2 k3 k5 a)/\h.Ns N mN/\mN "__init__"=none/\OwnTail h b bm:=by
 obtain⟨dd,t,c,g,q⟩:=OW q;have r:=X _ _ g;clear g;obtain⟨u,bm,k0,k1,k2,k3,n,k5,f,e,q⟩:=exB q;obtain⟨nm,bs,p,o,qn,hd,sn,sub,ab,col,s⟩:=t;obtain⟨c⟩:=c;dsimp only at f e q;subst f e;simp only[AC,GT,X2]at q;obtain⟨⟨⟨⟨⟨m,l⟩,k⟩,j⟩,d⟩,i⟩:=q;subst m l k;exact⟨bm,o,nm,qn,bs,hd,sn,sub,ab,col,dd,k0,k1,k2,k3,k5,_,r,Heap.Ns.of_isNs (PySem.W.isNs_of_in X d),PySem.W.nsMap_none_of_in X d i,PySem.W.tail_of_in X j⟩
def uR(X:Cx)(R:Addr->Hp->Prop):Prop:=∀(b:List (Addr×Obj))(e:St)(H:Hp)(s:Shared)(d:Heap)(a C:Addr)(c:List Value),Inv X b e H s->Heap.MadeExcOf s.heap d a (.ref C) c->R C H->X.xe (.ref a) {s with heap:=d}
private theorem Ao{K:Frag}{c:Str}{a:Scope}{f:Addr}{g:Value}{A:Around}{b:List Env}{s:Shared}{H:Hp}{E:XK}:
 uR (OU P w K mg d N c a f g A b s H E) (λC H'=>E (.ref C) none H'):=λ_ _ _ _ _ _ _ _ I e q=>nT dx1 rfl I e q
def OX(R:Addr->Hp->Prop)(C:Addr)(t:TA):TS:=λ_ a H=>t a H λb c=>b.length<=sizeLine/\R C c
section
variable{X:Cx}{x:Str}{C:Addr}{e:Expr}{t:TA}{np cpos pos:Pos}{R:Addr->Hp->Prop}
private theorem ED(v:uR X R)(p:X.calm=true)(o:Gl X x)(m:X.mg x=some (.ref C))(q:qe X.K C)(u:PA X [e] t)(g:autoParam (starEach [e] X.env=[(false,eval e X.env)]) dA._auto_1)
 (hd:autoParam ((x==("__debug__":Str))=false) dB._auto_1):PS X (.Raise (some (.Call (.Name x np) [e] [] cpos)) none pos) (OX R C t):=by
 intro b s f H D I h;obtain⟨bm,N,nm,j,bs,hdct,sn,sub,ab,col,dd,k0,k1,k2,k3,k5,mN,y,w,d,T⟩:=oX I.ok.mod.DR q.exc;refine wpAny_Raise_call_subT (C:=C) (bm:=bm) (mN:=mN) (nm:=nm) (q:=j) (N:=N) (bs:=bs) (hdct:=hdct) (sn:=sn) (sub:=sub) (ab:=ab) (col:=col) (dd:=dd) (k0:=k0) (k1:=k1) (k2:=k2) (k3:=k3) (k5:=k5) (F:=PySem.F.excBase_ValueError) (T.hasType PySem.F.excBase_ValueError.hasBase) (I.ok.hd p) (by rw[g];rfl) d (iG I o m ⟨rfl,?_⟩ hd);have i:=u cpos b s f H _ I h;rw[g]at i⊢;refine bc (bF i λJ s2 z=>?_);obtain⟨E,B,c,r,n,k⟩:=z;refine⟨rfl,by rw[<-r.length];exact n,c.bk _ _ y,w.keeps c.bk,T.keeps c.bk,λA a l=>v b f B s2 A a C _ c l k⟩
end
private theorem Ez.Yl{K:Frag}{st:Stmt}{f:Addr}{j:FuncData}{N ps:List Str}{k:Nat}{sp:Sp}(F:Ez K x b st f j)(S:ee N ps (af st))
 (g:∀vs H Q E,sp vs H Q E->vs.length=ps.length)
 (o:∀(c:Value)(A:Around)(a:List Env)(s:Shared)(H:Hp)(vs:List V)(Q:VK)(E:XK),bZ k (A.deeper (envOfC b (af st) s.heap.objs.size f c))->sp vs H Q E->
   ∃t,tQ (OU P w K mg d N b (af st) f c A a s H E) (aF st) t/\t {nx:=λ_ H'=>Q .aN H',rt:=Q} (start N vs) H):bL P w K mg d (eu P w) (k+1) f j ps sp:=by
 obtain⟨u,r,kV,p,q,y,c,v,l,e,m,i⟩:=F.ex;subst e;exact MB m i S g λA a s H vs Q E n h=>o c A a s H vs Q E n h
private theorem bL.V1{K:Frag}{f:Addr}{d:FuncData}{ps:List Str}{sp:Sp}(F:bL P w K mg a (eu P w) k f d ps sp):
 bL P w K mg a VZ k f d ps (λvs H Q _=>sp vs H Q E0):=
 ⟨λvs H Q E h=>F.len vs H Q E0 h,λA b s H c g vs Q E i l j r h=>T2 (F.run A b s H c g vs Q E0 i l j r h) λr m z=>by
   cases r with
   |error e=>obtain⟨_,_,_,_,_,q⟩:=z;exact q.elim
   |ok fl=>cases fl<;>exact z⟩
def FX(X:Cx)(a:List (Addr×Obj))(d:St)(E:XK)(e:Value)(s':Shared):Prop:=∃c b,Inv X a d c b/\eu X.prog X.w X.stack c b E e s'
abbrev TX:=St->Hp->VK->XK->Prop
def PX(X:Cx)(e:Expr)(t:TX):Prop:=
 ∀(a:List (Addr×Obj))(s:Shared)(b:St)(H:Hp)(Q:VK)(E:XK),Inv X a b H s->t b H Q E->wpAny (model X.prog X.w) X.A (eval e X.env) (EP X a b Q) (FX X a b E) s
section
variable{X:Cx}{k:Nat}{f:Addr}{fd:FuncData}{ps:List Str}{sp:Sp}{x:Str}{p pos:Pos}{e:Expr}{es:List Expr}{t:TA}
end
def j8(a C:Addr)(h:Heap):Prop:=∃b c,h.get? a=some b/\b.cls=.ref C/\b.data=.fields c
noncomputable def EF(a C:Addr):HO:=.ext (j8 a C)
section
variable{X:Cx}{pins:List (Addr×Obj)}{σ:St}{H:Hp}{s:Shared}
abbrev iM(X:Cx)(a:Addr):Cx:={X with A:=X.A.mark (some (.ref a)),calm:=false,xe:=λ_ _=>False}
private theorem Inv.suite(I:Inv X pins σ H s)(a:Addr):Inv (iM X a) pins σ H s:=
 ⟨⟨I.ok.mod,I.ok.kind,I.ok.glob,I.ok.blt,I.ok.above,I.ok.inj,I.ok.has,I.ok.Og,(λz=>by cases z),I.ok.frames,I.ok.stk,I.ok.Yd,I.ok.bs,I.ok.BL,I.ok.BN,I.ok.BO,I.ok.j3,I.ok.Dv,I.ok.tree,I.ok.Vh,I.ok.tab⟩,I.os,I.bare,I.base,I.loc,I.cell,I.free,I.dW,I.pin,I.hok,I.len⟩
private theorem Inv.oY(b:X.Ok)(I:Inv (iM X a) pins σ H s):Inv X pins σ H s:=
 ⟨b,I.os,I.bare,I.base,I.loc,I.cell,I.free,I.dW,I.pin,I.hok,I.len⟩
private theorem Inv.adopt(i:Inv X pins σ H1 j)(L:j.heap.get? a=none)(I:Inv X pins σ H s)(n:H a=none)(p:f s.heap)(J:∃o,s.heap.get? a=some o)
 (st:∀A y:Heap,f A->(∀o,A.get? a=some o->y.get? a=some o)->f y):Inv X pins σ (upd H a (.ext f)) s:=by
 have h:∀b o,j.heap.get? b=some o->b≠a:=λb o z e=>by rw[e,L]at z;cases z
 have d:∀b u,H b=some u->upd H a (.ext f) b=some u:=λb u z=>by rw[ak (aD z n)];exact z
 refine⟨I.ok,I.os,I.bare,⟨I.base.keep,I.base.slot,λb o q m r=>?_,I.base.there,λb k q=>d b _ (I.base.tups b k q),λb o v q=>d b _ (I.base.gk b o v q),λb l c q z=>d b _ (I.base.gQ b l c q z)⟩,I.loc,I.cell,?_,λx c e=>?_,λp t=>?_,λb u z=>?_,I.len⟩
 .obtain⟨F,g⟩:=i.base.there b o q r;rw[ak (h b F g)];exact I.base.free b o q m r
 .obtain⟨m,K,_⟩:=i.loc;obtain⟨o,_,_,g,_⟩:=K;rw[ak (h _ o g)];exact I.free
 .obtain⟨v,o,g,_⟩:=i.cell x c e;rw[ak (h _ o g)];exact I.dW x c e
 .obtain⟨E,D,C⟩:=I.pin p t;refine⟨E,?_,C⟩;obtain⟨B,_⟩:=i.pin p t;rw[ak (h _ _ B)];exact D
 .by_cases w:b=a
  .subst w;rw[az]at z;cases z;exact⟨p,J,st⟩
  .rw[ak w]at z;exact(I.hok b u z).stay (λ_ _ _ q=>q) (λc q=>d c _ q) (λc k q=>d c _ q) λc N M _ q=>d c _ q
private theorem name_goes(I:Inv X pins σ H s)(hN:X.N.Nodup)(K:X.N[i]?=some n)(hl:X.env.scope.names.lookup n=some .local)
 (h:∀s',Inv X pins (σ.set i none) H s'->Q () s'):wpAny M A (do bindName X.env n .none;unbindBehindTheSuite X.env n pos) Q E s:=by
 obtain⟨m,J,w⟩:=id I.loc;have l:(X.env.scope.kind==.class||(X.env.scope.kind==.module&&X.env.locals !=X.env.globals))=false:=by rw[I.ok.kind];rfl
 have Iz:i<σ.length:=by rw[I.len];exact(Fk.mp K).1
 have Dw:=I.Dw;refine wpAny_nameGoes_keeps hl J l λh' v t a=>?_;obtain⟨oL,_,_,hoL,_⟩:=id J;have C:∀b o,X.s₀.heap.get? b=some o->b≠X.env.locals:=λb o e=>Hk (Bn (FC e) I.ok.above);refine h _ ⟨I.ok,I.os,I.bare,⟨λb o e n B g=>?_,λb o e n B g=>?_,I.base.free,λb o e g=>?_,I.base.tups,I.base.gk,I.base.gQ⟩,⟨_,t,λj y P f r e3=>?_⟩,λy c e=>?_,I.free,I.dW,λp Z=>?_,?_,by simpa using I.len⟩
 .exact(a.2 b (C b o e)).trans (I.base.keep b o e n B g)
 .obtain⟨R,f⟩:=I.base.slot b o e n B g;exact⟨R,(a.2 b (C b o e)).trans f⟩
 .obtain⟨T,f⟩:=I.base.there b o e g;exact⟨T,(a.2 b (C b o e)).trans f⟩
 .by_cases x:j=i
  .subst x;rw[N0 Iz]at r;cases r
  .rw[Iy (Oy x)]at r;obtain⟨D,S,q⟩:=w j y P f r e3;refine⟨D,S,?_⟩;rcases q with⟨k,e⟩|⟨k,c,e,z⟩
   .refine .inl ⟨k,?_⟩;have:y≠n:=λe=>x (pU hN f (e▸K));show(if y=n then v else m y)=some D;rw[B1 this];exact e
   .exact .inr ⟨k,c,e,z.sameBut a (Dw y c e)⟩
 .obtain⟨O,z⟩:=I.cell y c e;exact⟨O,z.sameBut a (Dw y c e)⟩
 .obtain⟨e,Y,F,U,d⟩:=I.pin p Z;exact⟨(a.2 p.1 F).trans e,Y,F,U,d⟩
 .exact I.hok.tracked λb u ob z L=>(a.2 b λe=>by rw[e,I.free]at z;cases z).trans L
end
private theorem yL{K:Frag}{i:Obj}{Q:Bool->Shared->Prop}(X:K.In s.heap)(v:qe K C)(e:qe K D)(he:s.heap.get? a=some i)(c:i.cls=.ref C)
 (b:mroIn K C (.ref D)=some true)(l:Q true s):wpAny M A (excMatches (.ref a) (.ref D)) Q E s:=by
 obtain⟨h,g,d,t,w⟩:=s;obtain⟨O,N,x,u,bs,j,r,k,P,o,L,I,H,F,B,z,y,n,J,m,T⟩:=oX X e.exc;have q:=ag (M:=M) X b;have p:=ag (M:=M) X e.bs;have f:=tc_notTuple;unfold excMatches
 repeat (first|(with_reducible refine wpAny_loadPart_at he ?_;rw[c])|with_reducible refine wpAny_loadPart_at n ?_|exact l|with_reducible refine q.at ?_|with_reducible refine p.at ?_|wp_step)
abbrev Ends.past(D:Ends)(i:Nat):Ends:={nx:=λσ' H'=>D.nx (σ'.set i none) H',rt:=D.rt,bk:=λσ' H'=>D.bk (σ'.set i none) H',ct:=λσ' H'=>D.ct (σ'.set i none) H'}
private theorem Inv.OT{i:St}{B:Heap}{v:Value}(I:Inv X c i H1 e)(F:Fly X.prog X.w X.stack H1 e d a C s2)
 (l:∀b o,s2.heap.get? b=some o->b∉frs X.stack->((∃q,e.heap.get? b=some q)\/∃u,d b=some u)->B.get? b=some o)(x:Heap.FlyingW B X.stack a (.ref C) v s2.heap)(j:B.StaysIn s3.heap)(up:s2.heap.UpToSlots s3.heap)
 (h:s3.os=s2.os)(t:s3.gens=s2.gens):Inv X c i d s3:=by
 have fm:∀b,b∈frs X.stack->∃o,s2.heap.get? b=some o/\∀p,o.data≠.fields p:=λb g=>(x.2.2.1.mem g).2;have y:∀b u,d b=some u->b∉frs X.stack:=λb u z m=>by have h:=I.jO b m;obtain⟨o,s,_⟩:=I.stack.mem m|>.2;rw[F.un.free b o s h (by simp)]at z;cases z
 refine I.DS (ch:=[]) (h.trans F.os) (yK F.un (λb o z r f=>j b o (l b o z r f)) fm up) (F.hok.tracked λb u k z n=>j b k (l b k n (y b u z) (.inr ⟨u,z⟩))) (by rw[t];exact F.bare) λb g=>absurd g (by simp)
section
variable{prog:Program}{w:World}{A:Around}{E:Value->Shared->Prop}{s:Shared}{K:Frag}{a C:Addr}
private theorem jl(p:j8 a C h):PySem.W.Looks M h (typeOf (.ref a)) (.ref C):=by obtain⟨o,d,c,b,e⟩:=p;exact b▸(PySem.W.Looks.ld c).andThen .now
private theorem Jj(X:K.In s.heap)(p:j8 a C s.heap)(q:qe K C)(h:R (.ok (.ret (.ref C))) s):
 codeAny (model prog w) A (.call (.builtin "getset_descriptor.__get__") ⟨[.builtin "object.__class__",.ref a,c],[]⟩) R s:=by
 obtain⟨e,g,f,t,d⟩:=s;have j:=jl (M:=model prog w) p;have i:=ag (M:=model prog w) X q.ob;have b:=PySem.W.KF.slot_gs;refine codeAny_call_builtin b.plain PySem.W.KF.entry_gs (b.check _ _ _ _ _ _ _ _ PySem.W.KF.type_class (PySem.W.KF.args_gs _ _ _) ?_);unfold Builtin.«getset_descriptor.__get__»;unfold Builtin.Getset_descriptor.descrGet;rw[PySem.W.dga_obj];apply DO;apply GE;unfold Builtin.Getset_descriptor.descrGetter;unfold Builtin.Getset_descriptor.descrCheckInstance;unfold Builtin.Getset_descriptor.descrNameAndClass;unfold isInstance;simp only[PySem.W.KF.owner_class]
 repeat lk
 refine⟨Code.quiet_builtin _ (by decide+kernel),codeAny_builtin PySem.W.KF.entry_class ?_⟩;unfold Builtin.«object.__class__»;unfold shownTypeOf
 repeat lk
 exact h
private theorem Cd(X:K.In s.heap)(p:j8 a C s.heap)(q:qe K C)(h:Q (.done (.ret (.ref C))) s):
 wpAny (model prog w) A (Builtin.«object.__getattribute__» ⟨[.ref a,.str "__class__" b],[]⟩) Q E s:=by
 obtain⟨d,g,f,t,c⟩:=s;have j:=jl (M:=model prog w) p;have i:=Ya (M:=model prog w) X q.cl;have e:(⟨d,g,f,t,c⟩:Shared).TypeIs (.builtin "object.__class__") "getset_descriptor":=F.typeOf_object_class;have m:=F.typeOf_object_class;have l:=F.slot_gs_get.lookup;have k:=F.slot_gs_set.lookup
 repeat (any_goals (first|assumption|with_reducible refine j.at ?_|with_reducible refine i.at ?_|wp_step))
 refine Jj X p q ?_
 repeat (any_goals (first|assumption|wp_step))
private theorem Ce(X:K.In s.heap)(p:j8 a C s.heap)(q:qe K C)(h:Q () s):wpAny M A (checkBuiltinCall "BaseException.__getattribute__" ⟨[.ref a,b],[]⟩) Q E s:=by
 obtain⟨k,g,l,t,i⟩:=s;have f:=jl (M:=M) p;have e:=ag (M:=M) X q.bs;have d:builtinKind "BaseException.__getattribute__"=some .slot:=by decide+kernel
 have c:splitId "BaseException.__getattribute__"=some ("BaseException","__getattribute__"):=by decide+kernel
 have j:=F.args_bexc_ga (.ref a) b;simp only[checkBuiltinCall,d,c];apply DO;unfold isInstance
 repeat (first|with_reducible refine f.at ?_|with_reducible refine e.at ?_|wp_step)
 exact h
private theorem EG(X:K.In s.heap)(p:j8 a C s.heap)(q:qe K C)(h:R (.ok (.ret (.ref C))) s):
 codeAny (model prog w) A (.call (.builtin "BaseException.__getattribute__") ⟨[.ref a,.str "__class__" b],[]⟩) R s:=
 codeAny_call_builtin PySem.F.excAttr_ValueError.ga.plain F.entry_bexc_ga (Ce X p q (Cd X p q h))
private theorem OY(X:K.In s.heap)(p:j8 a C s.heap)(q:qe K C)(h:Q (.ref C) s):wpAny (model prog w) A (getAttrBy (.ref a) (.str "__class__" e) c b) Q E s:=by
 obtain⟨n,g,r,t,m⟩:=s;have j:=jl (M:=model prog w) p;have i:=Ya (M:=model prog w) X q.ga;have f:=Ya (M:=model prog w) X q.gt;have o:=PySem.F.excAttr_ValueError.ga.bind (.ref a);have l:(b&&onTheHeap (Value.builtin "BaseException.__getattribute__"))=false:=by
  cases b<;>rfl
 have d:(Value.builtin "BaseException.__getattribute__"==Value.builtin "object.__getattribute__")=false:=by decide+kernel
 have k:(onTheHeap (Value.ref C)&&Value.builtin "BaseException.__getattribute__"==Value.builtin "object.__getattribute__")=false:=by rw[d];rfl
 repeat (any_goals (first|assumption|with_reducible refine j.at ?_|with_reducible refine i.at ?_|with_reducible refine f.at ?_|wp_step))
 refine EG X p q ?_
 repeat (any_goals (first|assumption|wp_step))
private theorem Cf(X:K.In s.heap)(p:j8 a C s.heap)(q:qe K C)(h:Q (some (.ref C)) {s with toks:=s.toks+1}):wpAny (model prog w) A (getAttr? (.ref a) "__class__") Q E s:=by obtain⟨c,g,d,t,b⟩:=s;unfold getAttr?;unfold getAttrBy?;refine DO (wpAny_mkText (DO (wpAny_attempt (OY (s:=⟨c,g,d,t+1,b⟩) X p q ?_))));exact GE h
private theorem EH(q:qe K C):PySem.W.KitX K (.ref a) (.ref C) (j8 a C)where
 ty:=λM h X p=>jl p
 it:=λM h X p=>by obtain⟨H,N,o,m,F,c,l,d,I,g,D,y,x,v,u,t,r,f,_⟩:=oX X q.exc;intro R O P L k z;unfold isType;unfold loadHead;exact DO (wpAny_loadPart (k _ _ f) (GE z))
 ne:=λh j D B n J X b=>by obtain⟨H,N,o,m,F,c,l,d,I,g,Q,y,x,v,u,t,r,f,_⟩:=oX X q.exc;refine S7.mpr λz=>?_;have e:C=j:=Value.ref.inj (GT.mp z);subst e;rw[f]at b;have i:=IR Obj.data (Fs b);exact nomatch i
 ca:=λX p h=>Cf X p q h
end
inductive OZ:V->Value->Prop where
 |own (D:Addr):OZ (.ref D) (.ref D)
 |ty (n:String):OZ (.ty n) (.type n)
private theorem qf:cj X (.builtin "isinstance") (λf H Q=>∃a C c d b,f=[.ref a,c]/\H a=some (EF a C)/\qe X.K C/\OZ c d/\kitOne X.K (.ref C) d=some b/\Q (.bl b) H):=by
 intro i s u H f v Q I r h;obtain⟨a,C,c,d,b,rfl,o,q,m,e,z⟩:=h;obtain⟨k,j,rfl,l,g⟩:=vals2 r;cases(show k=Value.ref a from l);have t:j=d:=by
  cases m with
  |own D=>exact g
  |ty n=>exact g
 subst t;obtain⟨p,_,_⟩:=(show bH X.prog X.w H s.heap a (.ext (j8 a C))from I.hok a _ o);exact NA (EH q) I.jh p e (λz=>nomatch z) λx=>⟨.bl b,H,I.tok _,rfl,z⟩
def V2(K:Frag)(j i:Nat)(D:Addr)(te:TX)(e:TS):TS:=λW d H=>te d H (λv b=>W.nx (d.set j (some v)) b) (λc _ b=>∃C,c=.ref C/\qe K C/\mroIn K C (.ref D)=some true/\
 ∀a,b a=none->e (W.past i) (d.set i (some (.ref a))) (upd b a (EF a C)))
private theorem Jk(g:X.stack=X.env::X.outer/\X.env.frame=some X.env.locals)(o:X.N.Nodup)(hj:X.N[j]?=some y)(hy:Loc X.env.scope y)(w:X.N[i]?=some n)
 (m:X.env.scope.names.lookup n=some .local)(hg:Gl X x)(hm:X.mg x=some (.ref D))(qD:qe X.K D)(he:PX X e te)(hs:∀a,tQ (iM X a) (c::suite) th)(O:autoParam (swapsWith e (some (.Name y p0)) p1.line X.env=pure false) dA._auto_1)
 (hd:autoParam ((x==("__debug__":Str))=false) dB._auto_1)(Q:autoParam (X.fn y=true\/X.env.scope.names.lookup y=some .local) dD._auto_1):PS X (.Try [.Assign [.Name y p0] e p1] [.ExceptHandler (some (.Name x np)) (some n) (c::suite) p2] [] [] pos) (V2 X.K j i D te th):=by
 intro b s E H W I h;refine wpAny_Try_except (wpAny_execs_cons (wpAny_Assign_Name (Nw (he b s E H _ _ I h) (λv p z=>?_) λev p z=>?_) O))
 .obtain⟨u,H1,I1,r1,q1⟩:=z;exact eL I1 o hj hy r1 (λs2 I2=>X9 (X9 ⟨_,H1,I2,q1⟩)) Q
 obtain⟨H1,s0,U,a,C,Y,rfl,F,C',R,qC,t,q⟩:=z;cases R;obtain⟨B,a0,T,kB⟩:=F.OT;have fr:X.A.frames=some (X.env::X.outer):=by rw[I.ok.frames,g.1]
 have S:Heap.FlyingW B (X.env::X.outer) a (.ref C) a0 p.heap:=by rw[<-g.1];exact T
 refine wpAny_looks_onW fr g.2 S λh4 y4 u4=>wpAny_landsW y4 λh5 L u5=>?_;have I5:Inv X b E Y {p with heap:=h5}:=U.OT F kB T L.1 (u4.trans u5) rfl rfl;obtain⟨ob,P,ZA⟩:=L.there;refine wpAny_handleBy_cons (codeAny_handlers_test (iG (X:=iM X a) (I5.suite a) hg hm ?_ hd)) (by intro z;cases z);refine yL (K:=X.K) I5.jh qC qD P ZA t (codeAny_handlers_suite_as ?_);refine lands_againW L λh6 y6 u6=>?_;have I6:Inv X b E Y {p with heap:=h6}:=U.OT F kB T y6.1 ((u4.trans u5).trans u6) rfl rfl;obtain⟨oe,vs,g1,g2,g3,_⟩:=y6.first
 have I7:Inv X b E (upd Y a (EF a C)) {p with heap:=h6}:=Inv.adopt U F.old I6 F.new ⟨oe,vs,g1,g2,g3⟩ ⟨oe,g1⟩ λh1 h2 z k=>by obtain⟨o1,v1,z1,z2,z3⟩:=z;exact⟨o1,v1,k _ z1,z2,z3⟩
 refine eL (X:=iM X a) (v:=.ref a) (I7.suite a) o w (.inl m) rfl (λs7 I8=>?_) (.inr m);refine Nw (hs a b s7 _ _ _ I8 (q a F.new)) (λf s8 z=>?_) λ_ _ z=>DN z;cases f with
 |next=>obtain⟨d,Z,J,z⟩:=z;exact name_goes (J.oY I.ok) o w m λM l=>⟨_,_,l,z⟩
 |brk=>obtain⟨d,Z,J,z⟩:=z;exact name_goes (J.oY I.ok) o w m λM l=>⟨_,_,l,z⟩
 |cont=>obtain⟨d,Z,J,z⟩:=z;exact name_goes (J.oY I.ok) o w m λM l=>⟨_,_,l,z⟩
 |ret u=>obtain⟨v,d,Z,J,r,z⟩:=z;exact name_goes (J.oY I.ok) o w m λM l=>⟨_,_,_,l,r,z⟩
noncomputable def wo(c:Addr)(H:Hp):Hp:=λb=>if b=c then none else H b
noncomputable def pin(c:Addr)(o:Obj)(H:Hp):Hp:=upd H c (.i6 o (.own 0))
private theorem bO:pin c o H c=some (.i6 o (.own 0)):=az
private theorem aW(h:b≠c):pin c o H b=H b:=ak h
private theorem dX(h:b≠c):wo c H b=H b:=B1 h
private theorem iN:wo c H c=none:=BM rfl
private theorem Aq(h:wo c H b=some u):b≠c/\H b=some u:=by
 by_cases z:b=c
 .rw[z,iN]at h;cases h
 .exact⟨z,(dX z).symm.trans h⟩
section
variable{P:Program}{w:World}{H H':Hp}{h h':Heap}{c:Addr}{o:Obj}{v:Option Value}{fs ex:List Addr}
private theorem yM(x:gH P w H h)(f:H c=some (.i6 o (.own 0)))(d:o.data=.cell v):gH P w (wo c H) h:=λb u e=>by
 obtain⟨l,e⟩:=Aq e;refine(x b u e).stay (λ_ _ _ q=>q) (λa q=>?_) (λa i q=>?_) λa k j g q=>?_
 .rw[dX (λz=>by rw[z,f]at q;cases q)];exact q
 .rw[dX (λz=>by rw[z,f]at q;cases q)];exact q
 .rw[dX (λz=>by rw[z,f]at q;cases q;rw[d]at g;cases g)];exact q
private theorem uS(x:gH P w H h)(d:H c=none)(e:h.get? c=some o):gH P w (pin c o H) h:=λb u q=>by
 by_cases f:b=c
 .subst f;rw[bO]at q;cases q;exact⟨e,o,e⟩
 .rw[aW f]at q;exact(x b u q).stay (λ_ _ _ z=>z) (λa z=>by rw[aW (aD z d)];exact z) (λa g z=>by rw[aW (aD z d)];exact z) λa j i _ z=>by rw[aW (aD z d)];exact z
private theorem MG(u:Un fs ex (pin c o H) H' h h')(g:H c=none)(m:c∉fs)(e:h.get? c=some o)(j:gH P w H' h'):Un fs ex H (wo c H') h h' where
 keep:=λb a q n f d=>by
  by_cases z:b=c
  .subst z;rw[e]at q;cases q;exact(j _ _ (u.gk _ _ _ bO)).1
  .exact u.keep b a q (by rw[aW z];exact n) f d
 slot:=λb a q n f d=>u.slot b a q (by rw[aW (λz=>m (by rw[<-z];exact f))];exact n) f d
 free:=λb a q n d=>by
  by_cases z:b=c
  .subst z;exact iN
  .rw[dX z];exact u.free b a q (by rw[aW z];exact n) d
 there:=u.there
 tups:=λb i q=>by have z:b≠c:=aD q g;rw[dX z];exact u.tups b i (by rw[aW z];exact q)
 gk:=λb a v q=>by have z:b≠c:=aD q g;rw[dX z];exact u.gk b a v (by rw[aW z];exact q)
 gQ:=λb l k n q=>by have z:b≠c:=aD q g;rw[dX z];exact u.gQ b l k n (by rw[aW z];exact q)
private theorem EI(u:Un fs ex (wo c H) H' h h')(e:H c=some (.i6 o (.own 0)))(i:c∉fs):Un fs ex H (pin c o H') h h' where
 keep:=λb a q n f d=>u.keep b a q (by unfold wo;split<;>first|rfl|exact n) f d
 slot:=λb a q n f d=>u.slot b a q (by unfold wo;split<;>first|rfl|exact n) f d
 free:=λb a q n d=>by
  have z:b≠c:=λz=>by rw[z,e]at n;cases n
  rw[aW z];exact u.free b a q (by rw[dX z];exact n) d
 there:=u.there
 tups:=λb g q=>by
  have z:b≠c:=λz=>by rw[z,e]at q;cases q
  rw[aW z];exact u.tups b g (by rw[dX z];exact q)
 gk:=λb a v q=>by
  by_cases z:b=c
  .subst z;rw[e]at q;cases q;exact bO
  .rw[aW z];exact u.gk b a v (by rw[dX z];exact q)
 gQ:=λb l k n q=>by
  have z:b≠c:=λz=>by rw[z,e]at q;cases q
  rw[aW z];exact u.gQ b l k n (by rw[dX z];exact q)
end
section
variable{X:Cx}{k:Nat}{f c:Addr}{fd:FuncData}{ps:List Str}{sp:Sp}{E:XK}{pins:List (Addr×Obj)}{σ:St}{H:Hp}{s:Shared}{Q:VK}{us:List Value}{vs:List V}{y:Str}{o:Obj}{v:Option Value}
private theorem Jl(F:bL X.prog X.w X.K X.mg X.base (eu X.prog X.w) k f fd ps sp)(R:bZ k X.A)(t:Binds X.K fd ps [])(i:∀H s e s',Inv X pins σ H s->eu X.prog X.w X.stack H s E e s'->X.xe e s')
 (I:Inv X pins σ H s)(r:Vals vs us)(g:X.env.cells.lookup y=some c)(M:X.fn y=true)(L:s.heap.get? c=some o)(hd:o.data=.cell v)
 (h:sp vs (pin c o H) (λv H'=>Q v (wo c H')) λe a H'=>E e a (wo c H')):wpAny (model X.prog X.w) X.A (call (.ref f) us) (EP X pins σ Q) X.xe s:=by
 have p:=I.dW y c g;have m:=I.ok.Og y c M g;have D:c∉X.fs:=λz=>by obtain⟨_,Z,e,_⟩:=I.ok.j3.mem z;exact absurd (Bn (FC e) m) (PH _)
 have N:c∉frs X.stack:=λz=>by
  rcases Do.mp (I.uJ c z)with e|z
  .exact I.Dw y c g e
  .exact D z
 have S:us.length=ps.length:=by rw[<-r.length];exact F.len _ _ _ _ h
 have d:=I.IM;have T:p8 X.prog X.w X.K X.mg X.base X.A X.stack s (pin c o H):=⟨d.frames,d.mod,λb n e=>⟨(d.bs b n e).1,by rw[aW (λz=>absurd (Bn (FC e) I.ok.BL) (by rw[z];exact l9.mpr m))];exact(d.bs b n e).2⟩,d.BL,d.j3,λb t=>by rw[aW (λz=>N (by rw[<-z];exact t))];exact d.Dv b t,uS I.hok p L,d.bare,d.tree,λx i=>⟨(d.tab x i).1,by rw[aW (aD (d.tab x i).2 p)];exact(d.tab x i).2⟩⟩;have l:=t s us I.jh (by rw[Kx];exact S);rw[Kx]at l;refine wpAny_call (T2 (F.run X.A X.stack s _ ⟨us,[]⟩ us vs _ _ R T l r h) λr s' j=>?_);cases r with
 |error e=>obtain⟨a,C,H',U,G,q⟩:=(show eu X.prog X.w X.stack (pin c o H) s (λe a H'=>E e a (wo c H')) e s' from j);subst U;refine i H s _ s' I ⟨a,C,wo c H',rfl,⟨G.os,G.bare,MG G.un p N L G.hok,yM G.hok (G.un.gk _ _ _ bO) hd,by unfold wo;split<;>first|rfl|exact G.new,G.old,?_⟩,q⟩;obtain⟨B,Y,x,P⟩:=G.OT;exact⟨B,Y,x,λb n z O J=>P b n z O (J.imp id λ⟨u,z⟩=>⟨u,(Aq z).2⟩)⟩
 |ok fl=>
  cases fl with
  |ret u=>obtain⟨v,H',os,bare,un,hok,rv,q⟩:=(show CE X.stack X.prog X.w (pin c o H) s (λv H'=>Q v (wo c H')) u s' from j);exact I.after ⟨v,wo c H',os,bare,MG un p N L hok,yM hok (un.gk _ _ _ bO) hd,rv,q⟩
  |next=>exact DN j
  |brk=>exact DN j
  |cont=>exact DN j
end
def yN(H:Hp)(f c:Addr)(nm q:Str)(a:Arguments)(d:List Stmt)(b:Scope)(x:Str):Prop:=∃h k g e t j i l,H f=some (.i6 h (.own 0))/\h={cls:=.type "function",data:=.func (fnX nm q a d b [(x,c)] .none .none j i none (.ref k) l)}/\
 H k=some (.i6 g (.own 0))/\g.data=.fields e/\e[1]?=some (.str q t)
private theorem yN.same(h:yN H f c nm q a e d x)(s:∀b o,H b=some (.i6 o (.own 0))->H' b=some (.i6 o (.own 0))):yN H' f c nm q a e d x:=by obtain⟨u,k,j,g,t,v,i,w,r,p,n,m,l⟩:=h;exact⟨u,k,j,g,t,v,i,w,s _ _ r,p,s _ _ n,m,l⟩
private theorem O2:codeAmong pos [rawInt pos.line,rawInt pos.col,k]=some k:=by show(if((pos.line:Int)==pos.line&&(pos.col:Int)==pos.col)=true then some k else _)=_;rw[BM (by simp)]
private theorem Jo(S:(cA,P,pos.line,pos.col,qualnameIn X.env name name)∈tabs X.K)(A:X.env.code=.ref cA)(hcl:closureFor scope X.env=pure [(x,c)])
 (hd0:d.defaults=[])(hk0:d.kw_defaults=[])(ha:annTrees d none X.env=[])(hN:X.N.Nodup)(hi:X.N[i]?=some name)(hl:Loc X.env.scope name)(Z:X.fn name=true):
 PS X (.FunctionDef name d g [] none [] scope none name pos) (λD σ H=>∀f H',aq H H'->H f=none->yN H' f c name (qualnameIn X.env name name) d g scope x->D.nx (σ.set i (some (.ref f))) H'):=by
 intro pins s σ H D I h;obtain⟨hcd,L⟩:=I.tab _ S;dsimp only at hcd L;have C:=PySem.W.codeHd_of_K I.jh hcd;have G:=I.mod.glob.keeps I.bk;have MH:∀b o,X.base.get? b=some o->b≠P:=λb o e z=>by have:=(I.bs b o e).2;rw[z,L]at this;cases this
 obtain⟨bm,ob,b1,b2,b3,b4,b5,b6⟩:=I.mod.bmod;have hgP:mainGlobals≠P:=by obtain⟨o,_,_,e,_⟩:=I.mod.glob;exact MH _ _ e
 have hbG:bm≠mainGlobals:=λq=>by obtain⟨o,_,_,e,hd,_⟩:=I.mod.glob;rw[q,e]at b3;cases b3;rw[hd]at b6;cases b6
 have B:s.heap.BuiltinsAt X.mg P:=⟨bm,ob,b1,b2,hbG,MH _ _ b3,I.bk _ _ b3,b4,b5,b6⟩;refine PySem.W.nestDef_K hd0 hk0 ha ?_;rcases(show _\/_ from I.hok P _ L)with e|⟨k,J,M,t,h1,h2,h3,e⟩
 .refine PySem.W.makeFunction_K (mg:=X.mg) hcl I.ok.glob G A C e trivial rfl hgP B λw p m h' tk hx E F U R=>?_;obtain⟨c2,J,M,t,e2,Y,hd,hv⟩:=U;cases e2;have fc:H w=none:=I.hok.fresh E;have ff:H h'.objs.size=none:=I.hok.fresh (SF (Kj E F));have Q:w≠h'.objs.size:=Hk F;have sm:aq H (pin h'.objs.size (fnMade name (qualnameIn X.env name name) d g scope [(x,c)] m ((X.mg "__name__").getD .none) w p) (pin w J H)):=λb o z=>by rw[aW (aD z ff),aW (aD z fc)];exact z
  have j:∀b o,h'.get? b=some o->(h'.push (fnMade name (qualnameIn X.env name name) d g scope [(x,c)] m ((X.mg "__name__").getD .none) w p)).get? b=some o:=λb o z=>Bi _ z;have r:∀b o,b≠P->s.heap.get? b=some o->(h'.push (fnMade name (qualnameIn X.env name name) d g scope [(x,c)] m ((X.mg "__name__").getD .none) w p)).get? b=some o:=λb o n z=>j b o (hx b o n z);have nP:∀b,H b=none->b≠P:=λb n z=>by rw[z,L]at n;cases n
  have O:∀b o,s.heap.get? b=some o->b≠w/\b≠h'.objs.size:=λb o z=>⟨Hk (Bn (FC z) E),Hk (hW (Bn (FC z) E) F)⟩;have I2:=I.un (t':=tk) (h':=h'.push (fnMade name (qualnameIn X.env name name) d g scope [(x,c)] m ((X.mg "__name__").getD .none) w p)) (H':=pin h'.objs.size (fnMade name (qualnameIn X.env name name) d g scope [(x,c)] m ((X.mg "__name__").getD .none) w p) (pin w J H))
   ⟨λb o q n _ _=>r b o (nP b n) q,λb o q n _ _=>⟨o.slots,r b o (nP b n) q⟩,λb o q n _=>by rw[aW (O b o q).2,aW (O b o q).1];exact n,λb o q _=>by
     by_cases z:b=P
     .rw[z];exact⟨_,j _ _ R⟩
     .exact⟨o,r b o z q⟩,λb xs q=>sm _ _ q,λb o u q=>sm _ _ q,λb l c q z=>sm _ _ z⟩
   (λb u q=>by
     by_cases zf:b=h'.objs.size
     .subst zf;rw[bO]at q;cases q;exact⟨Hb _ rfl,_,Hb _ rfl⟩
     .rw[aW zf]at q;by_cases zc:b=w
      .subst zc;rw[bO]at q;cases q;exact⟨j _ _ Y,_,j _ _ Y⟩
      .rw[aW zc]at q;by_cases zP:b=P
       .subst zP;rw[L]at q;cases q;exact .inr ⟨w,J,M,t,by rw[aW Q,bO],hd,hv,j _ _ (by rw[R];rfl)⟩
       .refine(I.hok b u q).stay (λb' ob' hor z=>r b' ob' ?_ z) (λa z=>sm _ _ z) (λa xs z=>sm _ _ z) λa o M _ z=>sm _ _ z;rcases hor with rfl|z'
        .exact zP
        .intro y;rw[y,L]at z';cases z')
  exact eL I2 hN hi hl (v:=.ref _) rfl (λs3 I3=>⟨_,_,I3,h _ _ sm ff ⟨_,w,J,M,t,m,(X.mg "__name__").getD .none,p,bO,rfl,by rw[aW Q,bO],hd,hv⟩⟩) (.inl Z)
 .refine PySem.W.makeFunction_hit (mg:=X.mg) hcl I.ok.glob G A C e trivial O2 B λp m h' tk hk T=>?_;have ff:H h'.objs.size=none:=I.hok.fresh T;have sm:aq H (pin h'.objs.size (fnMade name (qualnameIn X.env name name) d g scope [(x,c)] m ((X.mg "__name__").getD .none) k p) H):=λb o z=>by rw[aW (aD z ff)];exact z
  have I2:=I.laid (a:=h'.objs.size) (o:=.i6 (fnMade name (qualnameIn X.env name name) d g scope [(x,c)] m ((X.mg "__name__").getD .none) k p) (.own 0)) (t':=tk) (h':=h'.push (fnMade name (qualnameIn X.env name name) d g scope [(x,c)] m ((X.mg "__name__").getD .none) k p)) (λb u q=>Bi _ (hk b u q)) T ⟨Hb _ rfl,_,Hb _ rfl⟩;exact eL I2 hN hi hl (v:=.ref _) rfl (λs3 I3=>⟨_,_,I3,h _ _ sm ff ⟨_,k,J,M,t,m,(X.mg "__name__").getD .none,p,bO,rfl,sm _ _ h1,h2,h3⟩⟩) (.inl Z)
private theorem EJ:∀{l:List (Str×Value)}{n:Str}{v:Value},(l.map (·.1)).Nodup->(n,v)∈l->l.lookup n=some v
 |(m,u)::l,n,v,hd,a=>by
  rw[Fh,Ha]at hd;rw[DK];rcases Do.mp a with e|a
  .cases e;simp
  .have b:(n==m)=false:=by rw[NM];intro e;rw[<-e]at hd;exact hd.1 (IH.mpr ⟨(n,v),a,rfl⟩)
   rw[b];exact EJ hd.2 a
private theorem MI(h:H b=none):wo c H b=none:=by unfold wo;split<;>first|rfl|exact h
structure wD(ps:List Str)(x:Str)(sc:Scope):Prop where
 kind:sc.kind=.function
 co:sc.isCoroutine=false
 gen:sc.isGenerator=false
 nd:(ps++[x]).Nodup
 par:∀y∈ps,sc.names.lookup y=some .local
 kG:∀y∈sc.names,y.2≠.cell
 fr:∀y∈sc.names,y.2=.free->y.1=x
 frx:sc.names.lookup x=some .free
abbrev MJ(P:Program)(w:World)(K:Frag)(mg:Str->Option Value)(base:Heap)(N:List Str)(qual:Str)(scope:Scope)(f:Addr)(cd:Value)(cl:List (Str×Addr))(A:Around)(outer:List Env)(s:Shared)(H:Hp)(E:XK):Cx:=
 {yC (eu P w) P w K mg base N qual scope f cd A outer s H E with
  A:=A.deeper (envX qual scope s.heap.objs.size f cd cl),env:=envX qual scope s.heap.objs.size f cd cl,stack:=envX qual scope s.heap.objs.size f cd cl::outer,fn:=λ_=>false
  xe:=λe s'=>wpAny (model P w) (A.deeper (envX qual scope s.heap.objs.size f cd cl)) (leaving (envX qual scope s.heap.objs.size f cd cl) e) (λ_ s''=>eu P w outer H s E e s'') (λe' s''=>eu P w outer H s E e' s'') s'}
section
variable{P:Program}{w:World}{K:Frag}{mg:Str->Option Value}{base:Heap}{k:Nat}{st:Stmt}{q x nm:Str}{ps:List Str}{A:Around}{outer:List Env}{s:Shared}{H:Hp}{us:List Value}{vs:List V}{pv:V}{u:Value}{Q:VK}{E:XK}{f c:Addr}{co:Obj}
private theorem V3:Passes (eu P w) (MJ P w K mg base N b a f e d A outer s H E) E:=λ_ _ _ _ _ _ I h=>ua ⟨rfl,rfl,rfl⟩ rfl I h
private theorem O3(p:p8 P w K mg base A outer s H)(d:H c=some (.i6 co (.own 0)))(he:s.heap.get? c=some co)
 (h:CR (eu P w) outer P w (wo c H) s (λv H'=>Q v (pin c co H')) (λe a H'=>E e a (pin c co H')) r s'):CR (eu P w) outer P w H s Q E r s':=by
 have g:c∉frs outer:=λz=>by rw[p.Dv c z]at d;cases d
 cases r with
 |error e=>
  obtain⟨a,C,H',t,G,q⟩:=(show eu P w outer (wo c H) s (λe a H'=>E e a (pin c co H')) e s' from h);subst t;have j:=G.un.free c co he iN (by simp);refine⟨a,C,pin c co H',rfl,⟨G.os,G.bare,EI G.un d g,uS G.hok j (G.un.keep c co he iN g (by simp)),by rw[aW (λz=>by rw[<-z,G.old]at he;cases he)];exact G.new,G.old,?_⟩,q⟩;obtain⟨B,D,x,o⟩:=G.OT;refine⟨B,D,x,λb m z n i=>o b m z n ?_⟩;rcases i with y|⟨u,y⟩
  .exact .inl y
  .by_cases l:b=c
   .exact .inl ⟨co,by rw[l];exact he⟩
   .exact .inr ⟨u,by rw[aW l]at y;exact y⟩
 |ok fl=>
  cases fl with
  |ret u=>obtain⟨v,H',os,bare,un,hok,rv,q⟩:=(show CE outer P w (wo c H) s (λv H'=>Q v (pin c co H')) u s' from h);have j:=un.free c co he iN (by simp);exact⟨v,pin c co H',os,bare,EI un d g,uS hok j (un.keep c co he iN g (by simp)),rv,q⟩
  |next=>exact DN h
  |brk=>exact DN h
  |cont=>exact DN h
private theorem Jp(l:wD ps x (af st))(hbd:∀(dc pm kd ct:Value)(c:Addr)(us:List Value),us.length=ps.length->bindArgs (fnX nm q (aV st) (aF st) (af st) [(x,c)] .none .none dc pm none kd ct) ⟨us,[]⟩=pure (ps.zip us))
 (hr:bZ (k+1) A)(d:p8 P w K mg base A outer s H)(hf:yN H f c nm q (aV st) (aF st) (af st) x)(N:H c=some (.i6 co (.own 0)))(hd:co.data=.cell (some u))(ru:RelV pv u)(rv:Vals vs us)(T:vs.length=ps.length)
 (F:∀cd,∃t,tQ (MJ P w K mg base (ps++[x]) q (af st) f cd [(x,c)] A outer s (wo c H) λe a H'=>E e a (pin c co H')) (aF st) t/\t {nx:=λ_ H'=>Q .aN (pin c co H'),rt:=λv H'=>Q v (pin c co H')} (vs.map some++[some pv]) (wo c H)):
 codeAny (model P w) A (.call (.ref f) ⟨us,[]⟩) (CR (eu P w) outer P w H s Q E) s:=by
 obtain⟨fo,L,oc,vc,t,dc,pm,ct,j,B,D,h4,h5⟩:=hf;have ef:=(d.hok _ _ j).1;have ek:=(d.hok _ _ D).1;have ec:=(d.hok _ _ N).1;subst B;have lim:s.heap.NoLimit:=d.mod.nolimit.keeps λb o e=>(d.bs b o e).1;have S:us.length=ps.length:=by rw[<-rv.length];exact T
 have Jm:c∉frs outer:=λz=>by rw[d.Dv c z]at N;cases N
 refine T2 ?_ λr R hq=>O3 d N ec hq;refine codeAny_call_function (bZ.depth hr) ef rfl l.co l.gen rfl ⟨L,oc,vc,t,rfl,ek,h4,h5⟩ (BindsTo.of_eq (hbd dc pm (.ref L) ct c us S) _ _ _ _ ?_);refine wpAny_newFunctionEnv l.kG (λy m=>l.par _ (dq m).1) (λh' hns HZ=>?_) l.kind;have g:∀b o,s.heap.get? b=some o->h'.get? b=some o:=λb o e=>(HZ.2 b (Hk (FC e))).trans (Bi _ e);refine⟨lim.keeps g,codeAny_func ?_⟩;obtain⟨tb,ht,hq⟩:=F (.ref L);have V4:gH P w (wo c H) s.heap:=yM d.hok N hd;have Y:∀y O,[(x,c)].lookup y=some O->y=x/\O=c:=λy O e=>by
  rw[DK]at e;split at e
  .rename_i hb
   exact⟨GT.mp hb,(Fs e).symm⟩
  .cases e
 have nd1:ps.Nodup:=l.nd.sublist (List.sublist_append_left _ _);have V5:(ps.zip us).map (·.1)=ps:=List.map_fst_zip (by rw[S];exact BY _);have I:Inv (MJ P w K mg base (ps++[x]) q (af st) f (.ref L) [(x,c)] A outer s (wo c H) λe a H'=>E e a (pin c co H')) [] (vs.map some++[some pv]) (wo c H) {s with heap:=h',toks:=s.toks+(ps.zip us).length}:=by
  have IP:∀b:Addr,b∉(MJ P w K mg base (ps++[x]) q (af st) f (.ref L) [(x,c)] A outer s (wo c H) λe a H'=>E e a (pin c co H')).ex:=λb z=>absurd (show b∈([]:List Addr)from z) (by simp);refine⟨⟨d.mod,l.kind,rfl,rfl,BY _,λy z O j B=>?_,λy m=>?_,λy c z=>(by cases z),λ_=>hr.hd,bj d.frames,.inr ⟨rfl,rfl⟩,λb z=>absurd z (IP b),λb o e=>⟨(d.bs b o e).1,MI (d.bs b o e).2⟩,d.BL,λb _ _=>IP b,λb z=>absurd z (IP b),d.j3,λb hb=>MI (d.Dv b hb),d.tree,λA' R hf Zm hk=>PylongRoom.of (d.mod.nolimit.keeps hk) (by rw[Zm];show A.depth+1+100<_;have:=hr.dp;lia) (SeerAt.of (d.mod.seer.keeps hk) d.tree (hf.trans (bj d.frames)) l.gen l.co rfl rfl),λy m=>⟨(d.tab y m).1,(dX (λz=>by have:=(d.tab y m).2;rw[z,N]at this;cases this)).trans (d.tab y m).2⟩⟩,
   rfl,d.bare,Un.kept g,⟨_,hns,λi y v j B D=>?_⟩,λy O h=>?_,V4.fresh (BY _),λy O h=>?_,λp hp=>absurd (show p∈([]:List (Addr×Obj))from hp) (by simp),V4.kept g,?_⟩
  .exact(Y _ _ j).1.trans (Y _ _ B).1.symm
  .have m:(af st).names.lookup y=some .cell\/(af st).names.lookup y=some .free:=m;rcases m with m|m
   .exact absurd rfl (l.kG _ (KB m))
   .have e:=l.fr _ (KB m) rfl;refine⟨c,?_⟩;show[(x,c)].lookup y=some c;rw[show y=x from e];simp
  .have j:(ps++[x])[i]?=some y:=j;by_cases X:i<ps.length
   .rw[L9 X]at j;rw[L9 (by simpa[T]using X),GM]at B;obtain⟨v',e1,e2⟩:=He.mp B;cases e2;obtain⟨u',hu,Z⟩:=rv.get e1;refine⟨u',Z,.inl ⟨l.par y (KM j),?_⟩⟩;have Ym:(((ps.zip us).reverse).map (·.1)).Nodup:=by rw[List.map_reverse,V5];exact(List.reverse_perm ps).nodup_iff.mpr nd1
    refine EJ Ym (List.mem_reverse.mpr (KM (i:=i) ?_));rw[Ye];exact⟨j,hu⟩
   .rw[Hn (l9.mp X)]at j;rw[Hn (by simpa[T]using X)]at B;rw[FK,T]at B;have h0:i -ps.length=0:=by
     cases z:i -ps.length with
     |zero=>rfl
     |succ n=>rw[z]at j;simp at j
    rw[h0]at j B;cases j;cases B;rcases D with D|D|D
    .exfalso
     have:(af st).names.lookup x=some .local:=D;rw[l.frx]at this;cases this
    .exact absurd rfl (l.kG _ (KB D))
    .exact⟨u,ru,.inr ⟨.inr D,c,by show[(x,c)].lookup x=some c;simp,co,g _ _ ec,hd⟩⟩
  .obtain⟨_,rfl⟩:=Y _ _ h;exact⟨_,co,g _ _ ec,hd⟩
  .obtain⟨_,rfl⟩:=Y _ _ h;exact iN
  .show(vs.map some++[some pv]).length=(ps++[x]).length;simp[T]
 refine Nw (ht [] _ _ _ _ I hq) (λfl R M=>?_) λe R M=>M;have U:∀{C:St}{H':Hp}{v:V}{u:Value},Inv (MJ P w K mg base (ps++[x]) q (af st) f (.ref L) [(x,c)] A outer s (wo c H) λe a H'=>E e a (pin c co H')) [] C H' R->RelV v u->Q v (pin c co H')->CE outer P w (wo c H) s (λv H'=>Q v (pin c co H')) u R:=
  λ{C H' v u} J rv q=>⟨v,H',J.os,J.bare,J.base,J.hok,rv,q⟩
 cases fl with
 |ret u=>obtain⟨v,C,H',J,rv,q⟩:=M;exact U J rv q
 |next=>obtain⟨C,H',J,q⟩:=M;exact U (v:=V.aN) (u:=Value.none) J rfl q
 |brk=>obtain⟨_,_,_,q⟩:=M;exact DN q
 |cont=>obtain⟨_,_,_,q⟩:=M;exact DN q
end
noncomputable def mW(cells:List (Str×Addr)):List (Str×NameKind)->List (Str×Addr)->List (Str×Addr)
 |[],acc=>acc
 |(n,k)::r,acc=>mW cells r (if k=.free then(n,(cells.lookup n).getD 0)::acc else acc)
private theorem qg:∀(l:List (Str×NameKind))(a:List (Str×Addr)),(∀p∈l,p.2=.free->∃c,env.cells.lookup p.1=some c)->
 (forIn l a λ(x:Str×NameKind)(cs:List (Str×Addr))=>if(x.2==NameKind.free)=true then(do let c<-cellOf env x.1;pure (LB ((x.1,c)::cs)))else(pure (LB cs):Sem _))=pure (mW env.cells l a)
 |[],a,_=>rfl
 |(n,k)::r,a,h=>by
  have ih:=λa=>qg (env:=env) r a λp g=>h p (AS _ g);rw[List.forIn_cons];by_cases b:k=.free
  .obtain⟨c,i⟩:=h (n,k) Ap b;have d:env.cells.lookup n=some c:=i;have e:cellOf env n=pure c:=by unfold cellOf;rw[d]
   have f:(k==NameKind.free)=true:=by simp[b]
   simp only[f,da,e,pure_bind,ih];simp only[mW,b,da,d,Mv]
  .have f:(k==NameKind.free)=false:=by simpa using b
   simp only[f,eH,if_false,pure_bind,ih];simp only[mW,b,if_false]
private theorem qh(h:∀p∈a.names,p.2=.free->∃c,env.cells.lookup p.1=some c):closureFor a env=pure (mW env.cells a.names []):=by have:=qg (env:=env) a.names [] h;unfold closureFor;simp only[bind_pure];exact this
private theorem wF:∀(l:List (Str×NameKind))(a:List (Str×Addr)),(∀p∈l,p.2=.free->∃c,cells.lookup p.1=some c)->(∀y c,a.lookup y=some c->cells.lookup y=some c)->
 ∀y c,(mW cells l a).lookup y=some c->cells.lookup y=some c
 |[],_,_,ha,y,c,h=>ha y c h
 |(n,k)::r,a,hl,ha,y,c,h=>by
  refine wF r _ (λp i=>hl p (AS _ i)) (λz d hz=>?_) y c h;by_cases b:k=.free
  .rw[BM b,DK]at hz;obtain⟨m,g⟩:=hl (n,k) Ap b;have f:cells.lookup n=some m:=g;split at hz
   .rename_i e
    have j:z=n:=by simpa using e
    subst j;rw[f]at hz⊢;exact hz
   .exact ha z d hz
  .rw[B1 b]at hz;exact ha z d hz
private theorem qi:∀(l:List (Str×NameKind))(a:List (Str×Addr))(y:Str),((a.lookup y).isSome=true\/(y,NameKind.free)∈l)->((mW cells l a).lookup y).isSome=true
 |[],_,_,h=>h.elim id λz=>nomatch z
 |(n,k)::r,a,y,h=>by
  refine qi r _ y ?_;by_cases b:k=.free
  .rw[BM b,DK];by_cases e:(y==n)=true
   .left;rw[e];rfl
   .rw[Sr]at e;rw[e];rcases h with h|h
    .exact .inl h
    .rcases Do.mp h with h|h
     .have:y=n:=IR Prod.fst h;subst this;simp at e
     .exact .inr h
  .rw[B1 b];rcases h with h|h
   .exact .inl h
   .rcases Do.mp h with h|h
    .have:NameKind.free=k:=IR Prod.snd h;exact absurd this.symm b
    .exact .inr h
private theorem ud:∀(l:List (Str×NameKind))(a:List (Str×Addr))(y:Str)(c:Addr),(mW cells l a).lookup y=some c->(∃b,a.lookup y=some b)\/(y,NameKind.free)∈l
 |[],_,y,c,h=>.inl ⟨c,h⟩
 |(n,k)::r,a,y,c,h=>by
  rcases ud r _ y c h with⟨b,h'⟩|h'
  .by_cases d:k=.free
   .rw[BM d,DK]at h';split at h'
    .rename_i e
     have f:y=n:=by simpa using e
     subst f;subst d;exact .inr Ap
    .exact .inl ⟨b,h'⟩
   .rw[B1 d]at h';exact .inl ⟨b,h'⟩
  .exact .inr (AS _ h')
private theorem jm{env:Env}(d:env.scope.kind=.function):∀(l:List (Str×NameKind))(y:Str),
 (l.map λ(n,k)=>if(k==NameKind.free&&env.scope.kind==.function&&env.kindOf n==some .cell)then(n,NameKind.cell)else(n,k)).lookup y=(l.lookup y).map λk=>if(k==NameKind.free&&env.kindOf y==some .cell)=true then NameKind.cell else k
 |[],_=>rfl
 |(n,k)::r,y=>by
  have ih:=jm d r y;have b:(env.scope.kind==ScopeKind.function)=true:=by rw[d];rfl
  rw[Fh,DK];by_cases e:(y==n)=true
  .have f:y=n:=by simpa using e
   subst f;by_cases c:(k==NameKind.free&&env.kindOf y==some .cell)=true
   .have a:(k==NameKind.free&&env.scope.kind==.function&&env.kindOf y==some .cell)=true:=by rw[b,h9];exact c
    simp only[a,da,DK,Qr,Ls,c]
   .have a:¬(k==NameKind.free&&env.scope.kind==.function&&env.kindOf y==some .cell)=true:=by rw[b,h9];exact c
    rw[B1 a];simp only[DK,Qr,Ls];rw[B1 c]
  .rw[Sr]at e;by_cases a:(k==NameKind.free&&env.scope.kind==.function&&env.kindOf n==some .cell)=true
   .simp only[a,da,e,DK];exact ih
   .rw[Sr]at a;simp only[a,eH,if_false,e,DK];exact ih
noncomputable def dY(sc c:Scope)(N a b:List Str):Bool:=
 sc.kind==.function&&b.all (λx=>sc.names.lookup x==some .local&&!a.contains x)&&
 sc.names.all (λp=>p.2 !=.cell&&(p.2 !=.local||sc.names.lookup p.1==some .local)&&(p.2 !=.free||(c.names.lookup p.1==some .cell&&sc.names.lookup p.1==some .free)))&&
 a.all (λy=>sc.names.lookup y !=some .local)&&(N.length==a.length&&(N.zip a).all (λp=>p.1==p.2||sc.names.lookup p.2==none))
structure gJ(sc Ub:Scope)(N N' xs:List Str):Prop where
 kind:sc.kind=.function
 own:∀x∈xs,sc.names.lookup x=some .local/\x∉N'
 kG:∀p∈sc.names,p.2≠.cell
 loc:∀p∈sc.names,p.2=.local->sc.names.lookup p.1=some .local
 free:∀p∈sc.names,p.2=.free->Ub.names.lookup p.1=some .cell/\sc.names.lookup p.1=some .free
 out:∀y∈N',sc.names.lookup y≠some .local
 len:N.length=N'.length
 pair:∀(i:Nat)(y:Str),N'[i]?=some y->sc.names.lookup y≠none->N[i]?=some y
private theorem gJ.of(h:dY sc l N b d=true):gJ sc l N b d:=by
 unfold dY at h;simp only[AC,HI,UV,bne_iff_ne,GT,X2,ne_eq]at h;obtain⟨⟨⟨⟨s,k⟩,c⟩,r⟩,q,o⟩:=h;refine⟨s,λx g=>⟨(k x g).1,λz=>?_⟩,λp a=>(c p a).1.1,λp a e=>?_,λp a e=>?_,r,q,λi y f m=>?_⟩
 .have:=(k x g).2;rw[List.contains_eq_mem]at this;simp[z]at this
 .rcases(c p a).1.2 with z|z
  .exact absurd e z
  .exact z
 .rcases(c p a).2 with z|z
  .exact absurd e z
  .exact z
 .have t:i<b.length:=(Fk.mp f).1;have j:N[i]?=some (N[i]'(by lia)):=Da (by lia);have n:(N[i]'(by lia),y)∈N.zip b:=by refine KM (i:=i) ?_;rw[Ye];exact⟨j,f⟩
  rcases o _ n with z|z
  .rw[j];exact IR some z
  .exact absurd z m
noncomputable def aX(X:Cx)(a:Scope)(C:Addr)(b d:List Str)(s:Shared)(H:Hp)(c:List Addr):Cx:=
 {X with N:=b++d,s₀:=s,H₀:=H,env:=compEnvC a (mW X.env.cells a.names []) C X.env,outer:=X.stack,stack:=X.stack,ex:=c,fn:=λy=>b.contains y,pn:=[],xe:=λ_ _=>False}
section
variable{X:Cx}{pins:List (Addr×Obj)}{σ:St}{H:Hp}{s:Shared}{scope:Scope}{xs N':List Str}{fp:List Addr}
private theorem kH(I:Inv X pins σ H s)(O:gJ scope X.env.scope X.N N' xs):∀p∈scope.names,p.2=.free->∃c,X.env.cells.lookup p.1=some c:=λp a e=>I.ok.has p.1 (.inl (O.free p a e).1)
private theorem gW(I:Inv X pins σ H s)(O:gJ scope X.env.scope X.N N' xs)(y:Str):(relabel scope X.env).names.lookup y=(scope.names.lookup y).map λk=>if k=.free then NameKind.cell else k:=by
 unfold relabel;show(List.map _ scope.names).lookup y=_;rw[jm I.ok.kind];cases e:scope.names.lookup y with
 |none=>rfl
 |some k=>
  rw[Ls,Ls];by_cases a:k=.free
  .subst a;have:=(O.free (y,.free) (KB e) rfl).1;have b:X.env.kindOf y=some .cell:=this;rw[b];rfl
  .rw[B1 a,B1 (by simp[a])]
private theorem EK(I:Inv X pins σ H s)(O:gJ scope X.env.scope X.N N' xs)(B:∀b∈fp,pY X pins H b)(F:∀b∈fp,b<s.heap.objs.size)
 (hn:n.Ns s.heap.objs.size Q)(g:∀b o,s.heap.get? b=some o->n.get? b=some o):
 Inv (aX X scope s.heap.objs.size xs N' s H fp) [] (xs.map (λ_=>none)++σ) H {s with heap:=n,toks:=T}:=by
 have f:=wF (cells:=X.env.cells) scope.names [] (kH I O) (λy c z=>nomatch z);refine⟨⟨I.ok.mod,?_,I.ok.glob,I.ok.blt,BY _,λx y c n K=>I.ok.inj x y c (f x c n) (f y c K),λy D=>?_,λy c n K=>?_,I.ok.hd,I.ok.frames,.inl rfl,λb j=>⟨Hk (F b j),λx c e=>(B b j).2.2.2.2.1 x c (f x c e)⟩,
  I.bs,FV I.ok.BL I.sz,λb o e j=>?_,λb j z=>?_,I.stack,I.jO,I.ok.tree,I.ok.Vh,I.tab⟩,rfl,I.bare,Un.kept g,⟨Q,hn,λi y v e1 h e3=>?_⟩,λy c e=>?_,I.hok.fresh (BY _),λy c e=>I.dW y c (f y c e),λp Y=>absurd (show p∈([]:List (Addr×Obj))from Y) (by simp),I.hok.kept g,?_⟩
 .show scope.kind=_;exact O.kind
 .have d:(relabel scope X.env).names.lookup y=some .cell\/(relabel scope X.env).names.lookup y=some .free:=D;rw[gW I O]at d;have a:scope.names.lookup y=some .free:=by
   cases e:scope.names.lookup y with
   |none=>rw[e]at d;rcases d with z|z<;>cases z
   |some k=>
    rw[e]at d;by_cases g:k=.free
    .rw[g]
    .rw[Ls,B1 g]at d;rcases d with z|z
     .have:k=.cell:=Fs z;exact absurd this (O.kG (y,k) (KB e))
     .exact absurd (Fs z) g
  exact Os.mp (qi scope.names [] y (.inr (KB a)))
 .have J:(mW X.env.cells scope.names []).lookup y=some c:=K;have D:y∈xs:=by have Yn:xs.contains y=true:=n;simpa using Yn
  rcases ud scope.names [] y c J with⟨_,z⟩|z
  .cases z
  .have P:=(O.free (y,.free) z rfl).2;rw[(O.own y D).1]at P;cases P
 .have S:X.base.get? b=some o:=e;rcases(B b j).2.2.2.1 with z|z
  .exact I.ok.BN b o S z
  .exact absurd (Bn (FC S) (FV I.ok.BL z)) (PH _)
 .rcases Do.mp (I.uJ b z)with q|q
  .exact(B b j).2.1 q
  .exact(B b j).2.2.1 q
 .have M:(xs++N')[i]?=some y:=e1;by_cases R:i<xs.length
  .rw[L9 (by simpa using R),GM]at h;cases q:xs[i]? with
   |none=>rw[q]at h;cases h
   |some z=>rw[q]at h;cases h
  .rw[Hn (by simpa using R)]at h;rw[Hn (by lia)]at M;rw[FK]at h;have C:y∈N':=KM M;have t:Vg (relabel scope X.env) y:=e3;unfold Vg at t;rw[gW I O]at t;have a:scope.names.lookup y=some .free:=by
    cases e:scope.names.lookup y with
    |none=>rw[e]at t;rcases t with z|z|z<;>cases z
    |some k=>
     rw[e]at t;by_cases g:k=.free
     .rw[g]
     .rw[Ls,B1 g]at t;rcases t with z|z|z
      .have:k=.local:=Fs z;subst this;exact absurd e (O.out y C)
      .have:k=.cell:=Fs z;exact absurd this (O.kG (y,k) (KB e))
      .exact absurd (Fs z) g
   have A:=(O.free (y,.free) (KB a) rfl).1;obtain⟨m,Z,hl⟩:=I.loc;have L:=O.pair _ y M (by rw[a];simp);obtain⟨u,r,l⟩:=hl _ y v L h (.inr (.inl A));refine⟨u,r,?_⟩;rcases l with⟨U,_⟩|⟨_,c,hc,o,E,hd⟩
   .have:X.env.scope.names.lookup y=some .local:=U;rw[A]at this;cases this
   .refine .inr ⟨.inl ?_,c,?_,o,g c o E,hd⟩
    .show(relabel scope X.env).names.lookup y=_;rw[gW I O,a];rfl
    .obtain⟨c',w⟩:=Os.mp (qi (cells:=X.env.cells) scope.names [] y (.inr (KB a)));have q:=f y c' w;rw[hc]at q;show(mW X.env.cells scope.names []).lookup y=some c;rw[w,<-Fs q]
 .obtain⟨v,o,E,hd⟩:=I.cell y c (f y c e);exact⟨v,o,g c o E,hd⟩
 .show(xs.map (λ_=>none)++σ).length=(xs++N').length;rw[DL,DL,FK,I.len,O.len]
end
def PF(X:Cx)(d:List Expr)(t:TT):Prop:=
 ∀(a:List (Addr×Obj))(s:Shared)(b:St)(H:Hp)(Q:Bool->Hp->Prop),Inv X a b H s->t b H Q->
  wpAny (model X.prog X.w) X.A (forIn d true λc r=>if r=true then do let ok<-isTrue c X.env (eval c X.env);pure (LB ok)else pure (LB r)) (TP X a b Q) X.xe s
def ZC:TT:=λ_ H Q=>Q true H
private theorem O5:PF X [] ZC:=λ_ _ _ H _ I h=>wpAny_tests_nil ⟨H,I,h⟩
private theorem O6(h:PT X c t):PF X [c] t:=λa s b H Q I q=>wpAny_tests_one (h a s b H Q I q)
def EL(k:Nat)(q:TI)(g:TG)(tc:TT)(te:TE):TE:=λe H Q=>q e H λJ p=>∀D,p D=none->∃W:Nat->Nat->Hp->Prop,(∃m,W 0 m (upd p D (.lst [])))/\∀i m d,W i m d->
 (J.stop i d/\Q (.ref D) d)\/(J.go i d/\∀x o,J.Vq i d x o->∀j:List (Option V),j.length=k->g x (j++e) o λa r=>∃h:List (Option V),h.length=k/\a=h++e/\
   tc a r λb n=>if b=true then te a n λy l=>∃f,l D=some (.lst f)/\f.length<sizeLine/\∃c,c<m/\W (i+1) c (upd l D (.lst (f++[y])))else∃c,c<m/\W (i+1) c n)
private theorem uT(I:Nat->Shared->Prop)
 (z:∀n s,I n s->wpAny (model prog w) A (pyNext E) (λr e=>match r with
   |none=>R (.ok .next) e
   |some v=>wpAny (model prog w) A (letOwnedTupleGo a E v) (λ_ d=>wpAny (model prog w) A (assign a env v) (λ_ k=>
     wpAny (model prog w) A (forIn q true λc r=>if r=true then do let ok<-isTrue c env (eval c env);pure (LB ok)else pure (LB r)) (λok b=>
      if ok=true then wpAny (model prog w) A (eval u env) (λx j=>wpAny (model prog w) A (call (.builtin "list.append") [y,x]) (λ_ i=>∃m,m<n/\I m i) (λ_ _=>False) j) (λ_ _=>False) b
      else∃m,m<n/\I m b) (λ_ _=>False) k) (λ_ _=>False) d) (λ_ _=>False) e) (λ_ _=>False) s)
 (n:Nat)(h:I n s):
 codeAny (model prog w) A (.compLoop (.ListComp u [⟨a,l,q,0⟩] f pos) 0 E y env) R s:=by
 refine codeAny_loop rfl I (λn s F=>?_) n h;show wpAny _ A ((compTurn (.ListComp u [⟨a,l,q,0⟩] f pos) 0 E y env).onRaise (λx=>do noteFrame x env;theTreesLotGoes x)) _ _ s;refine wpAny_noted ?_;rw[compTurn_list];refine DO (wpAny_standAt (DO (Nw (z n s F) (λr e p=>?_) λ_ _ g=>g.elim)));cases r with
 |none=>exact GE p
 |some v=>
  refine DO (Nw p (λ_ d t=>?_) λ_ _ g=>g.elim);refine DO (Nw t (λ_ k D=>DO (Nw D (λok b o=>?_) λ_ _ g=>g.elim)) λ_ _ g=>g.elim);cases ok with
  |false=>exact GE ⟨rfl,o⟩
  |true=>exact DO (DO (Nw o (λx j C=>DO (Nw C (λ_ i B=>GE (GE ⟨rfl,B⟩)) λ_ _ g=>g.elim)) λ_ _ g=>g.elim))
section
variable{X:Cx}
private theorem qj{tc:TT}{te:TE}(hc:X.calm=true)(O:gJ scope X.env.scope X.N F l)
 (hg:∀C s0 H0 j,PG (aX X scope C l F s0 H0 j) tg g)(hf:∀C s0 H0 j,PF (aX X scope C l F s0 H0 j) S tc)(he:∀C s0 H0 j,PE (aX X scope C l F s0 H0 j) Y te)
 {s:List (Addr×Obj)}{t:St}{H1:Hp}{s2:Shared}{it:Addr}{j:List Addr}{tn:Nat->Heap->Prop}{J:It}{Q:VK}{E:Value->Shared->Prop}{RR:Value->Addr->Result->Shared->Prop}
 (I2:Inv X s t H1 s2)(T:Turn X.prog X.w X.K tg J j it tn)(st2:tn 0 s2.heap)(f2:∀b∈j,pY X s H1 b)
 (h:∀D,H1 D=none->∃W:Nat->Nat->Hp->Prop,(∃m,W 0 m (upd H1 D (.lst [])))/\∀i m H2,W i m H2->
   (J.stop i H2/\Q (.ref D) H2)\/(J.go i H2/\∀x H3,J.Vq i H2 x H3->∀v:List (Option V),v.length=l.length->g x (v++t) H3 λR H4=>∃I:List (Option V),I.length=l.length/\R=I++t/\
     tc R H4 λb H=>if b=true then te R H λy H6=>∃ys,H6 D=some (.lst ys)/\ys.length<sizeLine/\∃B,B<m/\W (i+1) B (upd H6 D (.lst (ys++[y])))else∃B,B<m/\W (i+1) B H))
 (hRR:∀D C s' H',(∃m,s'.heap.Ns C m)->(∀h',Heap.SameBut C s'.heap h'->Inv X s t H' {s' with heap:=h'})->s2.heap.objs.size<=D->s2.heap.objs.size<=C->H' C=none->Q (.ref D) H'->RR (.ref D) C (.ok .next) s'):
 wpAny (model X.prog X.w) X.A (newList []) (λacc s₃=>wpAny (model X.prog X.w) X.A (newFunctionEnv scope X.env.globals (mW X.env.cells scope.names []) [] X.env.qual none .none (some X.env)) (λP s₄=>codeAny (model X.prog X.w) X.A (.compStart (.ListComp Y [⟨tg,M,S,0⟩] scope pos) 0 (.ref it) acc {P with scope:=relabel scope X.env}) (RR acc P.locals) s₄) E s₃) E s2:=by
 refine SU (wpAny_newFunctionEnv O.kG (by intro y hy;simp at hy) (λk EM EN=>?_) O.kind);dsimp only at EM EN⊢;have hD:H1 s2.heap.objs.size=none:=I2.hok.fresh (BY _);obtain⟨W,⟨m0,w0⟩,turn⟩:=h s2.heap.objs.size hD;have I3:Inv X s t (upd H1 s2.heap.objs.size (.lst [])) {s2 with heap:=s2.heap.push {cls:=.type "list",dict:=none,data:=.seq ([]:List Value).toArray}}:=
  I2.laid (t':=s2.toks) (λb u e=>Bi _ e) (BY _) ⟨OF _,[],0,.nil,Hb _ rfl⟩
 have ZD:∀b∈j,b<s2.heap.objs.size:=λb f=>by obtain⟨o,e,_⟩:=T.obj _ _ st2 b f;exact FC e
 have f3:∀b∈j,pY X s (upd H1 s2.heap.objs.size (.lst [])) b:=λb f=>by obtain⟨q0,q⟩:=f2 b f;exact⟨by rw[ak (Hk (ZD b f))];exact q0,q⟩
 generalize Uc:({s2 with heap:=s2.heap.push {cls:=.type "list",dict:=none,data:=.seq ([]:List Value).toArray}}:Shared)=s3 at I3;have ue:s3.heap=s2.heap.push {cls:=.type "list",dict:=none,data:=.seq ([]:List Value).toArray}:=by rw[<-Uc]
 have U:s3.heap.objs.size=s2.heap.objs.size+1:=by rw[ue,Heap.size_push]
 have old:∀b o,s3.heap.get? b=some o->k.get? b=some o:=λb o e=>EN.extBut b o (by rw[<-ue];exact Hk (FC e)) (Bi _ (by rw[<-ue];exact e));have J4:Inv (aX X scope s3.heap.objs.size l F s3 (upd H1 s2.heap.objs.size (.lst [])) j) [] (l.map (λ_=>none)++t) (upd H1 s2.heap.objs.size (.lst [])) {s3 with heap:=k,toks:=s2.toks+([]:List (Str×Value)).length}:=
  EK I3 O f3 (λb f=>by rw[U];exact Tc (ZD b f)) (by rw[ue];exact EM) old
 have es4:({s3 with heap:=k,toks:=s2.toks+([]:List (Str×Value)).length}:Shared)={s2 with heap:=k,toks:=s2.toks+([]:List (Str×Value)).length}:=by rw[<-Uc]
 rw[es4]at J4;have st4:tn 0 k:=T.keep _ _ _ st2 λb f o e=>old b o (by rw[ue];exact Bi _ e);have hC:(s2.heap.push {cls:=.type "list",dict:=none,data:=.seq ([]:List Value).toArray}).objs.size=s3.heap.objs.size:=by rw[ue]
 have ZE:∀{H':Hp},(∀b∈j,H' b=none)->∀b∈j,pY (aX X scope s3.heap.objs.size l F s3 (upd H1 s2.heap.objs.size (.lst [])) j) [] H' b:=λhn b f=>⟨hn b f,Hk (by rw[U];exact Tc (ZD b f)),J4.ok.BO b f,.inl f,λx c e=>((J4.ok.Yd b f).2 x c e),λp hp=>absurd (show p∈([]:List (Addr×Obj))from hp) (by simp)⟩;have L:codeAny (model X.prog X.w) X.A (.compLoop (.ListComp Y [⟨tg,M,S,0⟩] scope pos) 0 (.ref it) (.ref s2.heap.objs.size) (compEnvC scope (mW X.env.cells scope.names []) s3.heap.objs.size X.env))
  (RR (.ref s2.heap.objs.size) s3.heap.objs.size) {s2 with heap:=k,toks:=s2.toks+([]:List (Str×Value)).length}:=by
  refine uT (λn s'=>∃(i:Nat)(v:List (Option V))(H':Hp),v.length=l.length/\Inv (aX X scope s3.heap.objs.size l F s3 (upd H1 s2.heap.objs.size (.lst [])) j) [] (v++t) H' s'/\tn i s'.heap/\(∀b∈j,H' b=none)/\W i n H') ?_ m0
   ⟨0,l.map (λ_=>none),_,FK _,J4,st4,λb f=>(f3 b f).1,w0⟩
  rintro n s5 ⟨i,v,H,hv0,I5,T9,Yh,w5⟩;rcases turn i n H w5 with⟨stop,qn⟩|⟨go,step⟩
  .refine bF (T.done (aX X scope s3.heap.objs.size l F s3 (upd H1 s2.heap.objs.size (.lst [])) j) rfl rfl rfl hc i [] s5 (v++t) H _ I5 (ZE Yh) T9 stop) ?_;rintro r s6 ⟨hr,Z⟩;subst hr;obtain⟨m,hnm,_⟩:=Z.loc;refine hRR _ _ s6 H ⟨m,hnm⟩ (λh' HZ=>?_) (BY _) (by rw[U];exact cq _) Z.free qn;have ZF:∀b o,s3.heap.get? b=some o->b≠s3.heap.objs.size:=λb o e=>Hk (FC e);have u:=Z.base;have I3':=I3.DS (s':={s6 with heap:=h'}) (H':=H) (ch:=j) Z.os ⟨λb o e n f hx=>HZ.extBut b _ (ZF b o e) (u.keep b o e n f hx),λb o e n f hx=>by
    obtain⟨sl,q⟩:=u.slot b o e n f hx;exact⟨sl,HZ.extBut b _ (ZF b o e) q⟩,u.free,λb o e hx=>by
    obtain⟨o',q⟩:=u.there b o e hx;exact⟨o',HZ.extBut b _ (ZF b o e) q⟩,u.tups,u.gk,u.gQ⟩ (λa o e=>?_) Z.bare (λb f=>?_)
   .exact I3'
   .have hnC:∀b u,H b=some u->b≠s3.heap.objs.size:=λb u e z=>by subst z;have:=Z.free;have e2:H s3.heap.objs.size=none:=this;rw[e2]at e;cases e
    refine(Z.hok a o e).stay (λb u f q=>HZ.extBut b u ?_ q) (λ_ q=>q) (λ_ _ q=>q) λ_ _ _ _ q=>q;rcases f with rfl|f
    .exact hnC _ _ e
    .exact hnC _ _ f
   .obtain⟨q0,q1,q2,q3,q4,q5⟩:=f3 b f;exact⟨q3,q1,q4,q5⟩
  .refine bF (T.item (aX X scope s3.heap.objs.size l F s3 (upd H1 s2.heap.objs.size (.lst [])) j) rfl rfl rfl hc i [] s5 (v++t) H _ I5 (ZE Yh) T9 go) ?_;rintro r s6 ⟨u,hr,h6⟩;subst hr;refine bF h6 ?_;rintro _ s7 ⟨x,H7,I7,r7,y7,ZG,fr7⟩;have I7':=I7.pinned (ZE fr7) (T.obj _ _ ZG);refine bF (hg _ _ _ _ _ s7 (v++t) H7 x u _ I7' r7 (step x H7 y7 v hv0)) ?_;rintro _ s8 ⟨σ8,H8,I8,I,hv1,e8,q8⟩;subst e8;have fin:∀{s9:Shared}{H9:Hp},Inv (aX X scope s3.heap.objs.size l F s3 (upd H1 s2.heap.objs.size (.lst [])) j) ([]++pZ j s7.heap) (I++t) H9 s9->(∃B,B<n/\W (i+1) B H9)->
    ∃m,m<n/\∃(i:Nat)(v:List (Option V))(H':Hp),v.length=l.length/\Inv (aX X scope s3.heap.objs.size l F s3 (upd H1 s2.heap.objs.size (.lst [])) j) [] (v++t) H' s9/\tn i s9.heap/\(∀b∈j,H' b=none)/\W i m H':=λ{s9 H9} I9 ⟨B,hm,w9⟩=>by
    refine⟨B,hm,i+1,I,H9,hv1,I9.lG,T.keep _ _ _ ZG λb f o e=>(I9.pin (b,o) (FR _ (FR _ (iI f e)))).1,λb f=>?_,w9⟩;obtain⟨o,e,d⟩:=T.obj _ _ ZG b f;exact(I9.pin (b,o) (FR _ (FR _ (iI f e)))).2.1
   refine bF (hf _ _ _ _ _ s8 (I++t) H8 _ I8 q8) ?_;rintro ok s9 ⟨H9,I9,q9⟩;cases ok with
   |false=>exact fin I9 q9
   |true=>show wpAny _ _ _ _ _ _;refine bF (he _ _ _ _ _ s9 (I++t) H9 _ I9 q9) ?_;rintro y s10 ⟨vy,H10,I10,r10,ys,hys,hl,q10⟩;refine bF (gU (X:=aX X scope s3.heap.objs.size l F s3 (upd H1 s2.heap.objs.size (.lst [])) j) _ s10 (I++t) H10 (.ref s2.heap.objs.size) [vy] _ [y] (λ_ H'=>∃B,B<n/\W (i+1) B H') I10 rfl (.cons r10 .nil) ⟨_,ys,vy,rfl,rfl,hys,hl,q10⟩) ?_;rintro _ s11 ⟨_,H11,I11,_,q11⟩;exact fin I11 q11
 rw[hC];exact codeAny_compStart_list L (T.self X.A 0 _ _ _ st4 L)
private theorem Jr(d l:List Str)(K:X.calm=true)(x:dY scope X.env.scope X.N l d=true)(B:PI X tg a p)
 (E:∀C f k c,PG (aX X scope C d l f k c) tg g)(F:∀C f k c,PF (aX X scope C d l f k c) i tc)(he:∀C f k c,PE (aX X scope C d l f k c) j te)
 (t:autoParam (∀z,foldedSetIterable a X.env z=pure z) dC._auto_1):PE X (.ListComp j [⟨tg,a,i,0⟩] scope pos) (EL d.length p g tc te):=by
 intro b s o H Q I h;have O:=gJ.of x;rw[eval_ListComp];refine wpAny_comprehension_free (use:=none) rfl t (qh (kH I O)) O.kind O.loc (bF (B b s o H _ I h) λv s1 P=>bF P λr s2 M=>?_);obtain⟨it,c,tn,J,H2,e,U,T,st2,S,u⟩:=M;subst e;refine qj (RR:=λn C=>compPost (model X.prog X.w) X.A X.xe none (EP X b o Q) n C) K O E F he U T st2 S u ?_;rintro D C s' Z ⟨m,y⟩ L _ _ _ q;exact⟨m,y,λR Y=>⟨.ref D,Z,L R Y,rfl,q⟩⟩
end
private theorem Ci{bs:List Bool}:∀{us:List Value},Vals (bs.map V.bl) us->us=bs.map Value.bool:=by
 induction bs with
 |nil=>intro us r;rw[de]at r;cases r;rfl
 |cons b bs d=>
  intro us r;rw[Fh]at r;cases r with
  |cons c a=>have e:_=Value.bool b:=c;rw[e,d a];rfl
private theorem yO(bs:List Bool):((G2 bs.length).all λi=>(bs[i]?).getD true)=bs.all id:=by
 rw[W1,HI,HI];constructor
 .intro h b d;obtain⟨i,c,rfl⟩:=dn d;have:=h i (eD.mpr c);simp only[Da c,Mv]at this;exact this
 .intro h i c;have a:=eD.mp c;simp only[Da a,Mv];exact h _ (Mo a)
section
variable{X:Cx}
private theorem Cj(x:X.calm=true):cj X (.builtin "all") (λg H Q=>∃(p:Addr)(bs:List Bool),g=[.ref p]/\kC X.K H p (bs.map V.bl)/\Q (.bl (bs.all id)) H):=by
 intro j s D H g E Q I r h;obtain⟨p,bs,rfl,y,q⟩:=h;obtain⟨u,rfl,m⟩:=Vals.one r;cases(show u=Value.ref p from m);obtain⟨a,rv,n,_⟩:=I.list y;have k:=Ci rv;have f:=n.isList;have d:p<s.heap.objs.size:=by obtain⟨_,e,_⟩:=f;exact FC e
 refine call_all_walk (wpAny_pyIter_list f ?_);refine⟨s.heap.objs.size,[s.heap.objs.size,p],[s.heap.objs.size],a.toArray.size,_,_,λi=>(bs[i]?).getD true,rfl,Walks.list (A:=X.A.in1) (I.ok.hd x) _ p (Hk d) a.toArray,
  ⟨⟨_,Hb _ rfl,rfl,rfl⟩,f.push _⟩,λi v J M N B l=>?_,λL F w=>?_⟩
 .have c:a[i]?=some v:=by simpa using B
  rw[k,GM]at c;cases e:bs[i]? with
  |none=>rw[e]at c;cases c
  |some b=>rw[e]at c;simp only[e,Mv]at l;have:v=Value.bool b:=(Fs c).symm;subst this;exact SO l
 .have e:((G2 a.toArray.size).all λi=>(bs[i]?).getD true)=bs.all id:=by
   have C:a.toArray.size=bs.length:=by rw[FM,k,FK]
   rw[C];exact yO bs
  rw[e];exact⟨.bl _,H,I.kept λb o z=>w b o (λt=>by rw[Dx.mp t]at z;exact PH _ (FC z)) (Bi _ z),rfl,q⟩
private theorem Js(K S:List Str)(hN:X.N.Nodup)(hi:X.N[i]?=some x)(E:Loc X.env.scope x)(hc:X.calm=true)(ho:dY scope X.env.scope X.N S K=true)(V6:PI X tg f wi)
 (hg:∀C M R L,PG (aX X scope C K S M R L) tg g)(hf:∀C M R L,PF (aX X scope C K S M R L) k tc)(he:∀C M R L,PE (aX X scope C K S M R L) t te)
 (hsw:autoParam (swapsWith (.ListComp t [⟨tg,f,k,0⟩] scope pos) (some (.Name x d)) B.line X.env=pure true) dA._auto_1)
 (hs:autoParam (∀z,foldedSetIterable f X.env z=pure z) dC._auto_1)(hfn:autoParam (X.fn x=true\/X.env.scope.names.lookup x=some .local) dD._auto_1):
 PS X (.Assign [.Name x d] (.ListComp t [⟨tg,f,k,0⟩] scope pos) B) (om (EL K.length wi g tc te) (gR i)):=by
 intro j s U H W I h;have O:=gJ.of ho;rw[exec_Assign_Name_used _ _ _ _ hsw];refine DO (wpAny_standAt (DO ?_));show wpAny _ X.A (do let _<-comprehension (.ListComp t [⟨tg,f,k,0⟩] scope pos) scope X.env _ (newList []) false (eval f X.env) (some (assign (.Name x d) X.env))) _ _ s;refine DO (Nw (wpAny_comprehension_free (use:=some (assign (.Name x d) X.env)) (Q:=λ_ s'=>SP X j W .next s') rfl hs (qh (kH I O)) O.kind O.loc (bF (V6 j s U H _ I h) λv s1 h1=>bF h1 λitv s2 h2=>?_)) (λ_ s' hq=>GE (GE hq)) λ_ _ e=>e);obtain⟨it,L,tn,J,H2,e,P,T,st2,f2,hq⟩:=h2;subst e;refine qj (Q:=λx H1=>gR i x U H1 W.nx) (RR:=λacc C=>compPost (model X.prog X.w) X.A X.xe (some (assign (.Name x d) X.env)) (λ_ s'=>SP X j W .next s') acc C) hc O hg hf he P T st2 f2 hq ?_;rintro D C s' H' ⟨m,hm⟩ hI _ hC fC q;have I':Inv X j U H' s':=hI s'.heap ⟨rfl,λ_ _=>rfl⟩;have Z:∀b o,s2.heap.get? b=some o->b≠C:=λb o e=>Hk (Bn (FC e) hC);have nL:C≠X.env.locals:=λe=>by obtain⟨m2,hn2,_⟩:=P.loc;obtain⟨o,_,_,ho2,_⟩:=hn2;exact Z _ o ho2 e.symm
 have nC:∀y c,X.env.cells.lookup y=some c->c≠C:=λy c e z=>by obtain⟨v,o,e1,_⟩:=P.cell y c e;exact Z _ o e1 z
 have nP:∀p∈X.pn++j,p.1≠C:=λp hp z=>Z _ _ (P.pin p hp).1 z;show wpAny _ X.A (assign (.Name x d) X.env (.ref D)) _ _ _;refine wpAny_assign_Name (tO I' hN hi E (v:=.ref D) rfl (λY ZH hsm=>?_) hfn);obtain⟨a,HZ,ha⟩:=hsm;have aC:a≠C:=by
  rcases ha with rfl|ha
  .exact Oy nL
  .exact nC x a ha
 refine⟨m,hm.sameBut HZ (Oy aC),λh' r=>⟨_,H',?_,q⟩⟩;refine ZH.DS (s':={Y with heap:=h'}) (H':=H') (ch:=[C]) rfl ⟨λb o e n F E=>r.extBut b o (λz=>E (by rw[z];exact Dx.mpr rfl)) e,λb o e n F E=>⟨o.slots,r.extBut b o (λz=>E (by rw[z];exact Dx.mpr rfl)) e⟩,λb o e n E=>n,λb o e E=>⟨o,r.extBut b o (λz=>E (by rw[z];exact Dx.mpr rfl)) e⟩,λb K q=>q,λb o u q=>q,λb l c q z=>z⟩ (λa o e=>?_) ZH.bare (λb F=>?_)
 .refine(ZH.hok a o e).stay (λb u F q=>r.extBut b u ?_ q) (λ_ q=>q) (λ_ _ q=>q) λ_ _ _ _ q=>q;rintro rfl;rcases F with rfl|F
  .rw[fC]at e;cases e
  .rw[fC]at F;cases F
 .rw[Dx.mp F];exact⟨.inr (FV P.sz hC),nL,λy c e z=>nC y c e z,nP⟩
private theorem Jt:Yi X "int.bit_length" (λx b H Q=>∃i:Int,x=.int i/\b=[]/\Q (.int (Builtin.Int.intBits i:Nat)) H):=by intro a s c H x b v e Q I d rv h;obtain⟨i,rfl,rfl,q⟩:=h;obtain⟨t,rfl⟩:=d;cases rv;exact call_gives F.slot_int_bit_length (typeIs_int s i t) F.entry_int_bit_length (F.args_int_bit_length_1 _) (PySem.AutoIntG2.int_bit_length_int_0 i t) (show EP X a c Q (.int _ _) _ from⟨.int _,H,I.tok _,⟨_,rfl⟩,q⟩)
noncomputable def Yo(a st:Int)(n:Nat):It:=⟨λi _=>i<n,λi H x b=>b=H/\x=.int (a+i*st),λi _=>n<=i⟩
private theorem wG{K:Frag}(c:Addr)(g st:Int)(n:Nat):Turn P w K tg (Yo g st n) [c] c (λi h=>IsRangeIter h c (g+(i:Nat)*st) ((n:Int) -(i:Nat)) st)where
 mem:=by simp
 obj:=λi h st b d=>by
  have e:b=c:=by simpa using d
  subst e;exact⟨_,st,λv z=>by have L:Data.fields _=Data.cell v:=z;cases L⟩
 keep:=λi h l st k=>k c (by simp) _ st
 item:=by intro X r m u q i a s F H E I j D p;subst r m u;obtain⟨C,B,O,A,y,x⟩:=j c (by simp);have W:=Walks.range (prog:=X.prog) (w:=X.w) (I.ok.hd q) c g st n;refine W.item i s _ _ p D λv l J N f M=>?_;obtain⟨t,rfl⟩:=N;have R:Inv X a F H {s with heap:=l,toks:=J}:=I.turned (λb o d e=>M b o (by simpa using d) e) C B A y x;exact⟨_,rfl,Ad (s:={s with heap:=l,toks:=J}) (n:="range_iterator") f rfl rfl (by decide) ⟨.int (g+i*st),H,R,⟨t,rfl⟩,⟨rfl,rfl⟩,f,λb d=>(j b d).1⟩⟩
 done:=by intro X r m u q i a s F H E I j D p;subst r m u;obtain⟨C,B,O,A,y,x⟩:=j c (by simp);exact wpAny_pyNext_range_end (I.ok.hd q) D (by have:n<=i:=p;lia) λl Q=>⟨rfl,I.turned (t':=s.toks) (λb o d e=>Q b o d e) C B A y x⟩
 self:=λ_ _ _ _ _ st h=>wpAny_pyIter_rangeiter st h
private theorem Ck{f:St}{E:Value->Shared->Prop}{a d st:Int}{n:Nat}{t u v:Tok}{g:Nat}(I:Inv X c f H s)(i:Builtin.Range.small a d st=true)(j:Builtin.Range.rangeSize a d st=(n:Int))
 (q:R (Yo a st n) H):wpAny (model X.prog X.w) X.A (pyIter (.ref s.heap.objs.size)) (Zc X c f tg R) E {s with heap:=s.heap.push {cls:=.type "range",data:=.fields #[.int a t,.int d u,.int st v]},toks:=g}:=by
 refine wpAny_pyIter_range (IsRange.new ..) i ?_;have h:Inv X c f H {s with heap:=s.heap.push {cls:=.type "range",data:=.fields #[.int a t,.int d u,.int st v]},toks:=g}:=I.kept λb o e=>Bi _ e;refine⟨(s.heap.push {cls:=.type "range",data:=.fields #[.int a t,.int d u,.int st v]}).objs.size,[(s.heap.push {cls:=.type "range",data:=.fields #[.int a t,.int d u,.int st v]}).objs.size],_,_,H,rfl,
  h.kept (t':=g) λb o e=>Bi _ e,wG _ a st n,?_,λb k=>?_,q⟩
 .have m:a+((0:Nat):Int)*st=a:=by simp
  have l:(n:Int) -((0:Nat):Int)=Builtin.Range.rangeSize a d st:=by rw[j];simp
  show IsRangeIter _ _ (a+((0:Nat):Int)*st) ((n:Int) -((0:Nat):Int)) st;rw[m,l];exact Hb _ rfl
 .have e:b=(s.heap.push {cls:=.type "range",data:=.fields #[.int a t,.int d u,.int st v]}).objs.size:=by simpa using k
  subst e;exact h.BR (BY _) (h.hok.fresh (BY _))
def V7(ta:TA):TI:=λa H R=>ta a H λb c=>∃(i j k:Int)(n:Nat),b=[.int i,.int j,.int k]/\(k≠0/\k.natAbs<1073741824/\Builtin.Range.small i j k=true/\Builtin.Range.rangeSize i j k=(n:Int))/\R (Yo i k n) c
private theorem Cm(C:Gl X "range")(B:X.mg "range"=none)(D:PA X [a,b,c] ta)(A:autoParam (starEach [a,b,c] X.env=[(false,eval a X.env),(false,eval b X.env),(false,eval c X.env)]) dA._auto_1)(g:autoParam (starEach [b,c] X.env=[(false,eval b X.env),(false,eval c X.env)]) dA._auto_1):
 PI X tg (.Call (.Name "range" p) [a,b,c] [] pos) (V7 ta):=by
 intro f s o H R I h;refine Call_ (ku I C B boot_range (QQ (bF (D pos f s o H _ I h) λJ L ⟨F,M,E,v,m⟩=>?_) (by rw[A,g]) (by rw[g];rfl)));obtain⟨i,j,k,n,e,⟨m,z,y,x⟩,q⟩:=m;subst e;cases v with
 |cons r d=>
  cases d with
  |cons w d=>
   cases d with
   |cons l d=>
    cases d;obtain⟨t,rfl⟩:=r;obtain⟨K,rfl⟩:=w;obtain⟨u,rfl⟩:=l;exact call_range_3 m (Ck E y x q) (.inl (PyProof.noPylong_small z))
end
end L2
namespace L2
open PySem
end L2
namespace L2
open PySem PySem.Spec PyProof.Rows
def Dt(X:Cx)(H:Hp)(x:V)(d:PyData):Prop:=
 ∀(a:List (Addr×Obj))(b:St)(s:Shared)(u:Value),Inv X a b H s->RelV x u->∃c,Reads s.heap u d c
section
variable{X:Cx}{H:Hp}
private theorem O7(i:Int):Dt X H (.int i) (.int i):=λ_ _ s u _ r=>by obtain⟨t,rfl⟩:=r;exact⟨_,.int i t⟩
private theorem V8(b:Bool):Dt X H (.bl b) (.bool b):=λ_ _ s u _ r=>by
 cases(show u=Value.bool b from r);exact⟨_,.bool b⟩
private theorem O8(x:Str):Dt X H (.str x) (.str x):=λ_ _ s u _ r=>by obtain⟨t,rfl⟩:=r;exact⟨_,.str x t⟩
private theorem O9:Dt X H .aN .none:=λ_ _ s u _ r=>by
 cases(show u=Value.none from r);exact⟨_,.none⟩
private theorem yP{d:St}(I:Inv X a d H s):∀{b:List V}{ds:List PyData}{us:List Value},Paired (Dt X H) b ds->Vals b us->∃c,ReadsAll s.heap us ds c
 |_,_,_,.nil,.nil=>⟨_,.nil⟩
 |_,_,_,.cons h t,.cons r e=>by obtain⟨c,q⟩:=h _ _ _ _ I r;obtain⟨g,f⟩:=yP I t e;exact⟨_,.cons q f⟩
private theorem EO(h:kC X.K H a c)(b:Paired (Dt X H) c ds):Dt X H (.ref a) (.list ds):=λ_ _ s u I r=>by
 cases(show u=Value.ref a from r);obtain⟨e,rv,d,_⟩:=I.list h;obtain⟨i,q⟩:=yP I b rv;obtain⟨o,f,g,n,hd⟩:=d.isList;exact⟨_,.list f g hd (by simpa using q)⟩
private theorem Pa(h:lF X.K H a c)(b:Paired (Dt X H) c ds):Dt X H (.ref a) (.tuple ds):=λ_ _ s u I r=>by
 cases(show u=Value.ref a from r);obtain⟨d,rv,e,_⟩:=I.tuple h;obtain⟨i,q⟩:=yP I b rv;obtain⟨o,f,g,n,hd⟩:=e;exact⟨_,.tuple f g hd (by simpa using q)⟩
def ZI(X:Cx):R2:=λx y H Q=>∃b a,Dt X H x b/\Dt X H y a/\(SeqAt.shaped b=true/\SeqAt.shaped a=true/\SeqAt.noMix b a=true)/\Q (.bl (PySem.Spec.same b a)) H
def ZJ(X:Cx):R2:=λx y H Q=>∃b a,Dt X H x b/\Dt X H y a/\(SeqAt.shaped b=true/\SeqAt.shaped a=true/\SeqAt.noMix b a=true)/\Q (.bl (!PySem.Spec.same b a)) H
private theorem Pb(j:X.A.units+64<cLine):lH X (compareOp .Eq) (ZI X):=by intro a s m H x y v u Q I c b h;obtain⟨o,n,l,k,⟨i,g,f⟩,q⟩:=h;obtain⟨r,e⟩:=l _ _ _ _ I c;obtain⟨p,d⟩:=k _ _ _ _ I b;exact eq_dataH_same e d i g j f ⟨.bl _,H,I,rfl,q⟩
private theorem Pc(j:X.A.units+64<cLine):lH X (compareOp .NotEq) (ZJ X):=by intro a s m H x y v u Q I c b h;obtain⟨o,n,l,k,⟨i,g,f⟩,q⟩:=h;obtain⟨r,e⟩:=l _ _ _ _ I c;obtain⟨p,d⟩:=k _ _ _ _ I b;exact ne_dataH_same e d i g j f ⟨.bl _,H,I,rfl,q⟩
end
noncomputable def ZK(K:Frag)(a:Addr):It:=⟨λi H=>∃b x,kC K H a b/\b[i]?=some x,λi H x c=>∃p y,H p=none/\x=.ref p/\c=upd H p (.tup [.int i,y])/\∀b,kC K H a b->b[i]?=some y,λi H=>∃b,kC K H a b/\b.length=i⟩
private theorem Inv.V9{x:St}{t':Nat}{ch:List Addr}{p:Addr}{h:List V}(I:Inv X a x H s)(t:∀b∈ch,pY X a H b)
 (k:∀b o,b∉ch->s.heap.get? b=some o->h'.get? b=some o)(y:s.heap.objs.size<=p)(i:bH X.prog X.w (upd H p (.tup h)) h' p (.tup h))(P:∀b∈ch,∃o,h'.get? b=some o):Inv X a x (upd H p (.tup h)) {s with heap:=h',toks:=t'}:=by
 have f:H p=none:=I.hok.fresh y;have A:∀b u,H b=some u->b∉ch:=λb u e z=>by rw[(t b z).1]at e;cases e
 have j:∀b o,s.heap.get? b=some o->b≠p:=λb o e z=>absurd (Bn (FC e) y) (by rw[z];exact PH _);refine I.step (g':=s.gens) (d':=s.drawn) (ch:=ch) (λb g=>?_) (λb o _ _ d e _=>k b o d e) (λb o _ _ d e _=>⟨o.slots,k b o d e⟩) (λb o _ e n=>by rw[ak (j b o e)];exact n)
  (λb o d e=>⟨o,k b o d e⟩) (λb B e=>by rw[ak (aD e f)];exact e) (λb o u e=>by rw[ak (aD e f)];exact e) (λb l c q e=>by rw[ak (aD e f)];exact e) (λm D=>?_) (λb u e=>?_) I.bare
 .obtain⟨R,K,Q,J,F,E⟩:=t b g;exact⟨J,K,F,E⟩
 .obtain⟨o,L,M,C,r⟩:=D;exact⟨o,L,M,k _ o (λz=>(t _ z).2.1 rfl) C,r⟩
 .by_cases g:b=p
  .subst g;rw[az]at e;cases e;exact i
  .rw[ak g]at e;refine(I.hok b u e).stay (λc v d q=>k c v ?_ q) (λc q=>by rw[ak (aD q f)];exact q) (λc B q=>by rw[ak (aD q f)];exact q) λc O N _ q=>by rw[ak (aD q f)];exact q
   rcases d with z|z
   .rw[z];exact A b u e
   .exact A c _ z
private theorem Co{K:Frag}(a e l:Addr)(S:e≠l):
 Turn P w K (.Tuple C kk pos) (ZK K a) [e,l] e (λi h=>(∃f,IsEnum h e l i f)/\h.IsListIter l a i)where
 mem:=by simp
 obj:=λi h q b m=>by
  obtain⟨⟨f,n⟩,o,r,c,d⟩:=q;rcases Do.mp m with z|z
  .subst z;exact⟨_,n,λv z=>by cases z⟩
  .rw[Dx.mp z];exact⟨o,r,λv z=>by rw[d]at z;cases z⟩
 keep:=λi h h' q k=>by obtain⟨⟨f,n⟩,F⟩:=q;exact⟨⟨f,k e (by simp) _ n⟩,F.at λo x=>k l (by simp) o x⟩
 item:=by
  intro X hP hw hK hc i N s σ H E I M q hg;subst hP hw hK;obtain⟨xs,x,hq,Z⟩:=hg;obtain⟨j,rv,p,hz⟩:=I.list hq;obtain⟨u,hu,ru⟩:=rv.get Z;obtain⟨⟨f,n⟩,F⟩:=q;have hit:=M l (by simp);have hee:=M e (by simp);have J:a≠l:=λz=>by obtain⟨o,r,c,d⟩:=F;obtain⟨o',g,L,_⟩:=p.isList;rw[z,r]at g;cases g;rw[c]at L;exact absurd L (by decide)
  have hae:a≠e:=λz=>by obtain⟨o',g,L,_⟩:=p.isList;have B:s.heap.get? e=some _:=n;rw[z,B]at g;cases g;exact absurd (show Value.type "enumerate"=Value.type "list"from L) (by decide)
  have D:=Draws.list (prog:=X.prog) (w:=X.w) (A:=X.A.in1) (I.ok.hd hc) l a J j.toArray;have W:=WalksT.enumerateD D e S (by simp[S,hae.symm]) (by simp);have hlt:i<j.toArray.size:=by have:=(Fk.mp hu).1;simpa using this
  refine W.item i s _ _ hlt ⟨⟨f,n⟩,F,p.isList⟩ λT vals h' tk hPt hT ZL Wa hk=>?_;obtain⟨t,y,hy,rfl⟩:=hPt;have hyu:y=u:=by
   have:j[i]?=some y:=by simpa using hy
   rw[hu]at this;exact(Fs this).symm
  subst hyu;refine⟨.ref T,rfl,W.go C kk pos i T _ _ _ Wa λY hst R=>?_⟩;have U:T∉[e,l]:=W.apart i T h' Wa;obtain⟨⟨O,B⟩,Q,_⟩:=hst;have Wb:IsTup Y T #[.int i t,y]:=by obtain⟨o,r,c⟩:=ZL;exact⟨o,R T o U r,c⟩
  have obj:bH X.prog X.w (upd H T (.tup [.int i,x])) Y T (.tup [.int i,x]):=⟨t8 (by show 2<=100000;decide),[.int i t,y],.cons ⟨t,rfl⟩ (.cons ru .nil),Wb⟩;have I2:=I.V9 (t':=tk) (ch:=[e,l]) M (λb o m eo=>R b o m (hk b o m eo)) hT obj (λb m=>by
   rcases Do.mp m with z|z
   .rw[z];exact⟨_,B⟩
   .rw[Dx.mp z];obtain⟨o,r,_⟩:=Q;exact⟨o,r⟩)
  refine⟨.ref T,upd H T (.tup [.int i,x]),I2,rfl,⟨T,x,I.hok.fresh hT,rfl,rfl,λys hy=>by rw[I.we hy hq];exact Z⟩,⟨⟨O,B⟩,Q⟩,λb m=>?_⟩;rw[ak (show b≠T from λz=>U (by rw[<-z];exact m))];exact(M b m).1
 done:=by
  intro X hP hw hK hc i N s σ H E I M q hg;subst hP hw hK;obtain⟨xs,hq,Z⟩:=hg;obtain⟨j,rv,p,hz⟩:=I.list hq;obtain⟨⟨f,n⟩,F⟩:=q;obtain⟨f0,f1,f2,f3,f4,f5⟩:=M l (by simp);have J:a≠l:=λz=>by obtain⟨o,r,c,d⟩:=F;obtain⟨o',g,L,_⟩:=p.isList;rw[z,r]at g;cases g;rw[c]at L;exact absurd L (by decide)
  have D:=Draws.list (prog:=X.prog) (w:=X.w) (A:=X.A.in1) (I.ok.hd hc) l a J j.toArray;have hn:j.toArray.size=i:=by rw[FM,<-rv.length];exact Z
  exact wpAny_pyNext_enum_endD D n ⟨by rw[hn];exact F,p.isList⟩ λh' eb=>⟨rfl,I.turned (t':=s.toks) (λb o m x=>eb b o m x) f0 f1 f3 f4 f5⟩
 self:=λ_ _ _ _ _ q h=>by obtain⟨⟨f,n⟩,_⟩:=q;exact wpAny_pyIter_enum n h
section
variable{X:Cx}
def Wc(K:Frag)(ta:TA):TI:=λc H R=>ta c H λe b=>∃a,e=[.ref a]/\(∃d,kC K b a d)/\R (ZK K a) b
private theorem Jv(F:Gl X "enumerate")(C:X.mg "enumerate"=none)(L:PA X [a] ta)(x:autoParam (bootBuiltins "enumerate"=some (.type "enumerate")) dA._auto_1)(A:autoParam (starEach [a] X.env=[(false,eval a X.env)]) dA._auto_1):
 PI X (.Tuple g v m) (.Call (.Name "enumerate" p) [a] [] pos) (Wc X.K ta):=by
 intro c s i H R I h;refine Call_ (ku I F C x (QQ (bF (L pos c s i H _ I h) λQ d ⟨P,k,f,o,r⟩=>?_) A rfl));obtain⟨l,e,⟨O,B⟩,q⟩:=r;subst e;obtain⟨u,rfl,n⟩:=Vals.one o;cases(show u=Value.ref l from n);obtain⟨w,rv,t,_⟩:=f.list B;refine call_enumerate_list t.isList λM j D y E=>?_;refine wpAny_pyIter_enum j ?_;have N:Inv X c i k {d with heap:=M}:=f.kept (t':=d.toks) E;refine⟨d.heap.objs.size+1,[d.heap.objs.size+1,d.heap.objs.size],_,_,k,rfl,N,Co l (d.heap.objs.size+1) d.heap.objs.size (Nat.succ_ne_self _),⟨⟨_,j⟩,D⟩,λb J=>?_,q⟩;rcases Do.mp J with z|z
 .rw[z];exact f.BR (by lia) (f.hok.fresh (by lia))
 .rw[Dx.mp z];exact f.BR (BY _) (f.hok.fresh (BY _))
end
section
variable{X:Cx}{tg:Expr}
end
section
variable{prog:Program}{w:World}{A:Around}{E:Value->Shared->Prop}
end
private theorem Cp(D:X.calm=true):cj X (.builtin "max") (λb H Q=>∃(p:Addr)(a:List Int),b=[.ref p]/\kC X.K H p (a.map V.int)/\a≠[]/\∀m∈a,(∀n∈a,n<=m)->Q (.int m) H):=by
 intro g s L H b M Q I r h;obtain⟨p,a,rfl,E,x,q⟩:=h;obtain⟨u,rfl,o⟩:=Vals.one r;cases(show u=Value.ref p from o);obtain⟨e,rv,w,_⟩:=I.list E;have k:=intsAre_of rv;obtain⟨b,i⟩:=k.allInts.items;have f:s.heap.IsList p (intItems b):=i▸w.isList;have l:a=b.toList.map (·.1):=by rw[<-nums_intItems,<-i];exact(show numsOf e.toArray.toList=a from k.numsOf).symm
 have B:a.length=b.size:=by rw[l,FK,Ju]
 have z:0<b.size:=by rw[<-B];exact Tb.mpr x
 refine max_intList (I.ok.hd D) f z λv O N y C=>?_;obtain⟨t,rfl⟩:=intItems_at y;obtain⟨P,J⟩:=argBest_gt (numAt b) (b.size -1);have d:∀j,j<a.length->numAt b j=a.getD j 0:=λj _=>by rw[numAt_eq,<-l]
 have F:∀j,j<a.length->a.getD j 0∈a:=λj c=>by rw[YL,Da c];exact Mo c
 refine⟨.int _,H,I.kept C,⟨_,rfl⟩,q _ ?_ λn A=>?_⟩
 .rw[d _ (by lia)];exact F _ (by lia)
 .obtain⟨j,c,rfl⟩:=dn A;have:=J j (by lia);rw[d j c,YL,Da c]at this;exact this
end L2
namespace L2
open PySem
variable{r:List Expr}{env:Env}{pos:Pos}
inductive Pd:List Expr->List (Int×Int)->Prop where
 |nil:Pd [] []
 |cons {a b:Int} {j1 j2 k:Nat} {p1 p2 pos:Pos} {es:List Expr} {qs:List (Int×Int)} (h:Pd es qs):Pd (.Tuple [.Constant (.int a) j1 p1,.Constant (.int b) j2 p2] k pos::es) ((a,b)::qs)
end L2
namespace L2
open PySem PySem.Spec PyProof.Rows
section
variable{X:Cx}{H:Hp}
end
mutual
noncomputable def aO:PyData->Bool
 |.int _=>true
 |.list a=>fF a
 |.tuple a=>fF a
 |.none=>false
 |.bool _=>false
 |.str _=>false
 |.dict _=>false
noncomputable def fF:List PyData->Bool
 |[]=>true
 |x::a=>aO x&&fF a
end
mutual
theorem ES:∀d:PyData,aO d=true->d.canLay0=true
 |.int _,_=>by simp[PyData.canLay0]
 |.list a,h=>by rw[aO]at h;rw[PyData.canLay0];exact mX a h
 |.tuple a,h=>by rw[aO]at h;rw[PyData.canLay0];exact mX a h
 |.none,h=>by simp[aO]at h
 |.bool _,h=>by simp[aO]at h
 |.str _,h=>by simp[aO]at h
 |.dict _,h=>by simp[aO]at h
theorem mX:∀a:List PyData,fF a=true->PyData.canLayAll0 a=true
 |[],_=>by simp[PyData.canLayAll0]
 |x::a,h=>by rw[fF,AC]at h;rw[PyData.canLayAll0,ES x h.1,mX a h.2];rfl
end
mutual
theorem ET:∀d e:PyData,aO d=true->aO e=true->SeqAt.noMix d e=true
 |.int _,.int _,_,_=>by simp[SeqAt.noMix]
 |.int _,.list _,_,_=>by simp[SeqAt.noMix]
 |.int _,.tuple _,_,_=>by simp[SeqAt.noMix]
 |.list _,.int _,_,_=>by simp[SeqAt.noMix]
 |.list _,.tuple _,_,_=>by simp[SeqAt.noMix]
 |.tuple _,.int _,_,_=>by simp[SeqAt.noMix]
 |.tuple _,.list _,_,_=>by simp[SeqAt.noMix]
 |.list c,.list b,h,a=>by rw[aO]at h a;rw[SeqAt.noMix];exact mY c b h a
 |.tuple c,.tuple b,h,a=>by rw[aO]at h a;rw[SeqAt.noMix];exact mY c b h a
 |.none,_,h,_=>by simp[aO]at h
 |.bool _,_,h,_=>by simp[aO]at h
 |.str _,_,h,_=>by simp[aO]at h
 |.dict _,_,h,_=>by simp[aO]at h
 |.int _,.none,_,h=>by simp[aO]at h
 |.int _,.bool _,_,h=>by simp[aO]at h
 |.int _,.str _,_,h=>by simp[aO]at h
 |.int _,.dict _,_,h=>by simp[aO]at h
 |.list _,.none,_,h=>by simp[aO]at h
 |.list _,.bool _,_,h=>by simp[aO]at h
 |.list _,.str _,_,h=>by simp[aO]at h
 |.list _,.dict _,_,h=>by simp[aO]at h
 |.tuple _,.none,_,h=>by simp[aO]at h
 |.tuple _,.bool _,_,h=>by simp[aO]at h
 |.tuple _,.str _,_,h=>by simp[aO]at h
 |.tuple _,.dict _,_,h=>by simp[aO]at h
theorem mY:∀b a:List PyData,fF b=true->fF a=true->SeqAt.noMixAll b a=true
 |[],[],_,_=>by simp[SeqAt.noMixAll]
 |[],_::_,_,_=>by simp[SeqAt.noMixAll]
 |_::_,[],_,_=>by simp[SeqAt.noMixAll]
 |x::b,y::a,h,c=>by rw[fF,AC]at h c;rw[SeqAt.noMixAll,ET x y h.1 c.1,mY b a h.2 c.2];rfl
end
mutual
theorem Cq:∀d e:PyData,aO d=true->aO e=true->(same d e=true↔d=e)
 |.int a,.int b,_,_=>by simp[same]
 |.int _,.list _,_,_=>by simp[same]
 |.int _,.tuple _,_,_=>by simp[same]
 |.list _,.int _,_,_=>by simp[same]
 |.list _,.tuple _,_,_=>by simp[same]
 |.tuple _,.int _,_,_=>by simp[same]
 |.tuple _,.list _,_,_=>by simp[same]
 |.list g,.list f,h,c=>by rw[aO]at h c;rw[same,kI g f h c,PyData.list.injEq]
 |.tuple g,.tuple f,h,c=>by rw[aO]at h c;rw[same,kI g f h c,PyData.tuple.injEq]
 |.none,_,h,_=>by simp[aO]at h
 |.bool _,_,h,_=>by simp[aO]at h
 |.str _,_,h,_=>by simp[aO]at h
 |.dict _,_,h,_=>by simp[aO]at h
 |.int _,.none,_,h=>by simp[aO]at h
 |.int _,.bool _,_,h=>by simp[aO]at h
 |.int _,.str _,_,h=>by simp[aO]at h
 |.int _,.dict _,_,h=>by simp[aO]at h
 |.list _,.none,_,h=>by simp[aO]at h
 |.list _,.bool _,_,h=>by simp[aO]at h
 |.list _,.str _,_,h=>by simp[aO]at h
 |.list _,.dict _,_,h=>by simp[aO]at h
 |.tuple _,.none,_,h=>by simp[aO]at h
 |.tuple _,.bool _,_,h=>by simp[aO]at h
 |.tuple _,.str _,_,h=>by simp[aO]at h
 |.tuple _,.dict _,_,h=>by simp[aO]at h
theorem kI:∀b a:List PyData,fF b=true->fF a=true->(sameAll b a=true↔b=a)
 |[],[],_,_=>by simp[sameAll]
 |[],_::_,_,_=>by simp[sameAll]
 |_::_,[],_,_=>by simp[sameAll]
 |x::b,y::a,h,c=>by rw[fF,AC]at h c;rw[sameAll,AC,Cq x y h.1 c.1,kI b a h.2 c.2,lh]
end
section
variable{X:Cx}
end
private theorem wH(h:∀x∈a,x.depth<=n):PyData.depthAll a<=n:=by
 induction a with
 |nil=>simp[PyData.depthAll]
 |cons x a b=>rw[PyData.depthAll];have:=h x (Ap ..);have:=b λy c=>h y (AS _ c);lia
section
variable{X:Cx}
end
end L2
set_option genSizeOf false
set_option genInjectivity false
namespace Num
private theorem qk(a b q:Int):A9 b (a -q*b)=A9 a b:=by
 apply Nat.dvd_antisymm
 .apply l4
  .have f:((A9 b (a -q*b):Nat):Int)∣b:=dE ..;have d:((A9 b (a -q*b):Nat):Int)∣(a -q*b):=PP ..;have c:=Int.dvd_add d (Yz f:_∣q*b);have e:a -q*b+q*b=a:=by lia
   rw[e]at c;exact c
  .exact dE ..
 .apply l4
  .exact PP ..
  .exact Int.dvd_sub (dE ..) (Yz (PP ..))
private theorem fl(a b:Int)(c:b≠0):(0<b->0<=a -a.fdiv b*b/\a -a.fdiv b*b<b)/\(b<0->b<a -a.fdiv b*b/\a -a.fdiv b*b<=0):=by
 have e:=Int.mul_ediv_add_emod a b;have f:=Int.emod_nonneg a c;have d:a%b<(b.natAbs:Int):=by
  rcases df 0 b with z|z
  .have:=ei a z;lia
  .have:=ei a (show 0< -b by lia);rw[Int.emod_neg]at this;lia
 rw[Int.fdiv_eq_ediv];have g:b*(a/b)=(a/b)*b:=ij _ _;constructor
 .intro h;rw[BM (la (by lia)),i5];lia
 .intro h;split
  .rename_i hd
   have hz:a%b=0:=Int.emod_eq_zero_of_dvd (by lia);rw[i5];lia
  .rename_i hd
   have hz:a%b≠0:=λz=>hd (.inr (Int.dvd_of_emod_eq_zero z));have:(a/b -1)*b=a/b*b -b:=by rw[Int.sub_mul];lia
   lia
private theorem EU(a b:Int)(c:b≠0):(a -a.fdiv b*b).natAbs<b.natAbs:=by have:=fl a b c;omega
private theorem fmod_eq(a b:Int):a.fmod b=a -a.fdiv b*b:=by have:=Int.mul_fdiv_add_fmod a b;have:b*a.fdiv b=a.fdiv b*b:=ij _ _;omega
private theorem dz(r:Rat):(r.den:Int)≠0:=by have:=r.den_nz;lia
private theorem dpos(r:Rat):(0:Int)<r.den:=by have:=r.den_pos;omega
private theorem Pe{d:Nat}{r:Rat}(hd:d≠0)(a:Nat.gcd n.natAbs d=1)(h:n*r.den=r.num*d):r.num=n/\(r.den:Int)=d:=by
 have e:r=⟨n,d,hd,a⟩:=by rw[<-IS r,Rat.mk_eq_divInt,On (dz r) (by lia)];exact h.symm
 rw[e];exact⟨rfl,rfl⟩
private theorem j9(a b:Rat):(a+b).num*(a.den*b.den:Int)=(a.num*b.den+b.num*a.den)*(a+b).den:=by
 have c:a+b=As (a.num*b.den+b.num*a.den) (a.den*b.den):=by
  conv=>lhs;rw[<-IS a,<-IS b]
  exact ba _ _ (dz a) (dz b)
 exact(On (dz _) (SC (dz a) (dz b))).mp ((IS (a+b)).trans c)
private theorem sI(a b:Rat):(a*b).num*(a.den*b.den:Int)=(a.num*b.num)*(a*b).den:=by
 have c:a*b=As (a.num*b.num) (a.den*b.den):=by
  conv=>lhs;rw[<-IS a,<-IS b]
  exact dt _ _
 exact(On (dz _) (SC (dz a) (dz b))).mp ((IS (a*b)).trans c)
private theorem oZ(x y m:Int):A9 (x+y*m) m=A9 x m:=by
 have h:=qk x m (-y);have e:x - -y*m=x+y*m:=by rw[Int.neg_mul];lia
 rw[e]at h;rw[X1,h]
private theorem iO(b:A9 x m=1)(a:A9 y m=1):A9 (x*y) m=1:=by unfold A9 at*;rw[Pl];exact lA b a
private theorem lO(b:A9 m x=1)(a:A9 m y=1):A9 m (x*y)=1:=by rw[X1]at*;exact iO b a
private theorem lP(h:A9 x m=1)(hd:y∣m):A9 x y=1:=by unfold A9 at*;exact lB (Int.natAbs_dvd_natAbs.mpr hd) h
private theorem lQ(h:A9 m x=1)(hd:y∣m):A9 y x=1:=by rw[X1]at*;exact lP h hd
private theorem red(r:Rat):A9 r.num r.den=1:=r.reduced
private theorem lR(x y:Int)(h:y≠0):∃b a:Int,x=(A9 x y:Nat)*b/\y=(A9 x y:Nat)*a/\A9 b a=1/\0<((A9 x y:Nat):Int):=by
 have f:0<A9 x y:=Int.gcd_pos_of_ne_zero_right _ h;obtain⟨b,d⟩:((A9 x y:Nat):Int)∣x:=dE ..;obtain⟨a,c⟩:((A9 x y:Nat):Int)∣y:=PP ..;refine⟨b,a,d,c,?_,by lia⟩;have e:A9 ((A9 x y:Nat)*b) ((A9 x y:Nat)*a)=A9 x y*A9 b a:=by rw[Int.gcd_mul_left];rfl
 rw[<-d,<-c]at e;have:A9 x y*1=A9 x y*A9 b a:=by lia
 exact(Nat.eq_of_mul_eq_mul_left f this).symm
private theorem gr{g x a:Int}(h:x=g*a)(b:0<g):x/g=a:=by rw[h];exact Int.mul_ediv_cancel_left _ (by lia)
private theorem mZ{g y a:Int}(h:y=g*a)(b:0<g)(c:0<y):0<a:=by
 rcases df 0 a with z|z
 .exact z
 .have:=Int.mul_nonpos_of_nonneg_of_nonpos (Ta b) z;omega
private theorem iP{r:Rat}(hd:0<d)(a:A9 n d=1)(h:n*r.den=r.num*d):r.num=n/\(r.den:Int)=d:=by
 have e:((d.toNat:Nat):Int)=d:=by lia
 have:=Pe (n:=n) (d:=d.toNat) (r:=r) (by lia) (by unfold A9 at a;rw[show d.toNat=d.natAbs by lia];exact a) (by rw[e];exact h);rw[e]at this;exact this
private theorem Jw(a b:Rat):∃A B:Int,(a.den:Int)/(A9 a.den b.den:Nat)=A/\(b.den:Int)/(A9 a.den b.den:Nat)=B/\
 0<((A9 a.den b.den:Nat):Int)/\0<A/\0<B/\A<=a.den/\B<=b.den/\0<((A9 (a.num*B+b.num*A) (A9 a.den b.den:Nat):Nat):Int)/\
 (a+b).num=(a.num*B+b.num*A)/(A9 (a.num*B+b.num*A) (A9 a.den b.den:Nat):Nat)/\
 ((a+b).den:Int)=A*((b.den:Int)/(A9 (a.num*B+b.num*A) (A9 a.den b.den:Nat):Nat)):=by
 obtain⟨A,B,f,d,e,c⟩:=lR a.den b.den (dz b);generalize((A9 a.den b.den:Nat):Int)=g at*;have o:=mZ f c (dpos a);have n:=mZ d c (dpos b);have gz:g≠0:=by lia
 obtain⟨t,h,q,k,p,j⟩:=lR (a.num*B+b.num*A) g gz;generalize m:a.num*B+b.num*A=T at*;generalize E:((A9 T g:Nat):Int)=l at*;have x:=mZ k j c;have v:(b.den:Int)=l*(B*h):=by rw[d,k];grind
 have J:A9 T A=1:=by rw[<-m,oZ];exact iO (lP (red a) ⟨g,by rw[f];grind⟩) (by rw[X1];exact e)
 have I:A9 T B=1:=by rw[<-m,ik,oZ];exact iO (lP (red b) ⟨g,by rw[d];grind⟩) e
 have u:t∣T:=⟨l,by rw[q];grind⟩;have s:A9 t (A*(B*h))=1:=lO (lQ J u) (lO (lQ I u) p);have w:t*(a+b).den=(a+b).num*(A*(B*h)):=by
  have D:=j9 a b;have H:(a.den*b.den:Int)=(l*l*h)*(A*(B*h)):=by rw[v,f,k];grind
  have F:(a.num*b.den+b.num*a.den:Int)=(l*l*h)*t:=by
   have:(a.num*b.den+b.num*a.den:Int)=g*T:=by rw[<-m,d,f];grind
   rw[this,q,k];grind
  rw[H,F]at D;have y:l*l*h≠0:=SC (SC (by lia) (by lia)) (by lia);have:(l*l*h)*((a+b).num*(A*(B*h)))=(l*l*h)*(t*(a+b).den):=by grind
  exact(cm y this).symm
 have i:=iP (r:=a+b) (YE o (YE n x)) s w;have C:A<=a.den:=by have:=Y2 (show 1<=g by lia) (Ta o);lia
 have z:B<=b.den:=by have:=Y2 (show 1<=g by lia) (Ta n);lia
 refine⟨A,B,gr f c,gr d c,c,o,n,C,z,?_⟩;rw[m,E];refine⟨j,?_,?_⟩
 .rw[i.1,gr q j]
 .rw[i.2,gr v j]
private theorem Jx(a b:Rat)(h:A9 a.den b.den=1):(a+b).num=a.num*b.den+b.num*a.den/\((a+b).den:Int)=a.den*b.den:=by
 refine iP (YE (dpos a) (dpos b)) (lO ?_ ?_) ?_
 .rw[oZ];exact iO (red a) (by rw[X1];exact h)
 .rw[ik,oZ];exact iO (red b) h
 .have:=j9 a b;grind
private theorem EV(a b:Rat):0<((A9 a.num b.den:Nat):Int)/\0<((A9 b.num a.den:Nat):Int)/\
 (a*b).num=a.num/(A9 a.num b.den:Nat)*(b.num/(A9 b.num a.den:Nat))/\((a*b).den:Int)=(a.den:Int)/(A9 b.num a.den:Nat)*((b.den:Int)/(A9 a.num b.den:Nat)):=by
 obtain⟨x,y,k,d,j,h⟩:=lR a.num b.den (dz b);obtain⟨z,w,hz,e,i,g⟩:=lR b.num a.den (dz a);generalize((A9 a.num b.den:Nat):Int)=f at*;generalize((A9 b.num a.den:Nat):Int)=s at*;have n:=mZ d h (dpos b);have o:=mZ e g (dpos a);have l:A9 (x*z) (w*y)=1:=by have A:A9 x w=1:=lP (lQ (red a) ⟨f,by rw[k];grind⟩) ⟨s,by rw[e];grind⟩;have v:A9 z y=1:=lP (lQ (red b) ⟨s,by rw[hz];grind⟩) ⟨f,by rw[d];grind⟩;exact lO (iO A i) (iO j v)
 have m:x*z*(a*b).den=(a*b).num*(w*y):=by
  have q:=sI a b;have u:(a.den*b.den:Int)=(f*s)*(w*y):=by rw[e,d];grind
  have t:a.num*b.num=(f*s)*(x*z):=by rw[k,hz];grind
  rw[u,t]at q;have p:f*s≠0:=SC (by lia) (by lia);have:(f*s)*((a*b).num*(w*y))=(f*s)*(x*z*(a*b).den):=by grind
  exact(cm p this).symm
 have c:=iP (r:=a*b) (YE o n) l m;refine⟨h,g,?_,?_⟩
 .rw[c.1,gr k h,gr hz g]
 .rw[c.2,gr e g,gr d h]
private theorem inv_pos(b:Rat)(h:0<b.num):b⁻¹.num=b.den/\(b⁻¹.den:Int)=b.num:=by refine iP h (by rw[X1];exact red b) ?_;have:=(On (dz b⁻¹) (show b.num≠0 by omega)).mp ((IS b⁻¹).trans (cv b));grind
private theorem inv_neg(b:Rat)(h:b.num<0):b⁻¹.num= -b.den/\(b⁻¹.den:Int)= -b.num:=by
 refine iP (by lia) ?_ ?_
 .rw[kz,kx,X1];exact red b
 .have:=(On (dz b⁻¹) (show b.num≠0 by lia)).mp ((IS b⁻¹).trans (cv b));grind
def Bd(n:Nat)(r:Rat):Prop:=r.num.natAbs<2^n/\r.den<2^n
private theorem EW(hd:d≠0):(mkRat n d).num.natAbs<=n.natAbs/\(mkRat n d).den<=d:=by
 obtain⟨m,c,b,a⟩:=Rat.mkRat_num_den hd (show mkRat n d=⟨(mkRat n d).num,(mkRat n d).den,(mkRat n d).den_nz,(mkRat n d).reduced⟩from rfl);constructor
 .have:n.natAbs=(mkRat n d).num.natAbs*m:=by
   conv=>lhs;rw[b]
   rw[Pl,Cg]
  rw[this];exact Wp _ (by lia)
 .conv=>rhs;rw[a]
  exact Wp _ (by lia)
private theorem lt_mul(b:x<2^n)(a:y<2^m):x*y<2^(n+m):=by
 rw[Nat.pow_add];rcases P3 y with z|z
 .subst z;have:=km (d5 (n:=n) (show 0<2 by decide)) (d5 (n:=m) (show 0<2 by decide));omega
 .exact Bn (Nat.mul_lt_mul_of_pos_right b z) (QP _ (SF a))
private theorem EX(f:Bd n a)(c:Bd m b):Bd (n+m+1) (a+b):=by
 have q:=EW (n:=a.num*b.den+b.num*a.den) (d:=a.den*b.den) (fx a.den_nz b.den_nz);rw[<-Rat.add_def']at q;have e:2^(n+m+1)=2*2^(n+m):=by rw[Zb];lia
 have i:a.num.natAbs*b.den<2^(n+m):=lt_mul f.1 c.2;have h:b.num.natAbs*a.den<2^(n+m):=by rw[T8];exact lt_mul f.2 c.1
 have g:=lt_mul f.2 c.2;have k:(a.num*b.den).natAbs=a.num.natAbs*b.den:=by rw[Pl,Cg]
 have j:(b.num*a.den).natAbs=b.num.natAbs*a.den:=by rw[Pl,Cg]
 exact⟨by omega,by omega⟩
private theorem EY(e:Bd n a)(c:Bd m b):Bd (n+m) (a*b):=by have q:=EW (n:=a.num*b.num) (d:=a.den*b.den) (fx a.den_nz b.den_nz);rw[<-Rat.mul_def']at q;have g:=lt_mul e.1 c.1;have f:=lt_mul e.2 c.2;rw[Pl]at q;exact⟨by omega,by omega⟩
private theorem uU(h:Bd n a):Bd n (-a):=⟨by rw[YA,Int.natAbs_neg];exact h.1,by rw[YB];exact h.2⟩
private theorem EZ(h:Bd n a)(b:n<=m):Bd m a:=⟨Bn h.1 (dV (by decide) b),Bn h.2 (dV (by decide) b)⟩
private theorem E2(h:Bd n a)(hz:a.num≠0):Bd n a⁻¹:=by
 obtain⟨e,d⟩:=h;rcases df 0 a.num with z|z
 .obtain⟨b,c⟩:=inv_pos a z;exact⟨by rw[b];omega,by omega⟩
 .obtain⟨b,c⟩:=inv_neg a (by omega);exact⟨by rw[b];omega,by omega⟩
noncomputable def cf(a bs:List Int):Nat->Nat->Int
 |0,_=>0
 |i+1,k=>cf a bs i k+a.getD i 0*(if i<=k then bs.getD (k -i) 0 else 0)
private theorem E3(t b:Int)(k:b≠0):((if b<0 then-((A9 t b:Nat):Int)else((A9 t b:Nat):Int))≠0)/\(As t b).num=t.fdiv (if b<0 then-((A9 t b:Nat):Int)else((A9 t b:Nat):Int))/\
 ((As t b).den:Int)=b.fdiv (if b<0 then-((A9 t b:Nat):Int)else((A9 t b:Nat):Int)):=by
 obtain⟨x,y,i,e,c,j⟩:=lR t b k;have l:=(On (dz (As t b)) k).mp (IS (As t b));generalize((A9 t b:Nat):Int)=g at*;generalize As t b=r at*;have gz:g≠0:=by lia
 have m:x*r.den=r.num*y:=by
  rw[i,e]at l;have:g*(x*r.den)=g*(r.num*y):=by grind
  exact cm gz this
 rcases df b 0 with z|z
 .rw[BM z];have f:0< -y:=by
   rcases df 0 (-y)with q|q
   .exact q
   .have:=eI (Ta j) (show 0<=y by lia);lia
  have a:=iP (n:= -x) (d:= -y) (r:=r) f (by rw[kz,kx];exact c) (by grind);have h: -g≠0:=by lia
  refine⟨h,?_,?_⟩
  .rw[a.1,i,show g*x= -g* -x by grind,UF _ h]
  .rw[a.2,e,show g*y= -g* -y by grind,UF _ h]
 .rw[B1 (by lia)];have f:=mZ e j (by lia);have a:=iP (r:=r) f c m;refine⟨gz,?_,?_⟩
  .rw[a.1,i,UF _ gz]
  .rw[a.2,e,UF _ gz]
private theorem yQ(t b:Int)(a:b≠0):(As t b).num*b=t*(As t b).den:=(On (dz _) a).mp (IS _)
private theorem Jy(t b:Int)(f:b≠0):(As t b).num.natAbs<=t.natAbs/\(As t b).den<=b.natAbs:=by
 have c:=yQ t b f;generalize As t b=r at*;have d:r.num.natAbs*b.natAbs=t.natAbs*r.den:=by have:=IR Int.natAbs c;rw[Pl,Pl,Cg]at this;exact this
 have a:Nat.Coprime r.num.natAbs r.den:=r.reduced;have e:0<b.natAbs:=by lia
 have h:r.den∣b.natAbs:=a.symm.dvd_of_dvd_mul_left ⟨t.natAbs,by rw[d,T8]⟩;have g:r.num.natAbs∣t.natAbs:=a.dvd_of_dvd_mul_right ⟨b.natAbs,d.symm⟩;refine⟨?_,hH e h⟩;rcases P3 t.natAbs with z|z
 .rw[z,Nat.zero_mul]at d;rcases Nat.mul_eq_zero.mp d with q|q
  .lia
  .lia
 .exact hH z g
noncomputable def ev(x:Rat):List Rat->Rat
 |[]=>0
 |r::a=>r+x*ev x a
noncomputable def sm(f:Nat->Int):Nat->Int
 |0=>0
 |n+1=>sm f n+f n
def Pf(l:List Rat):Prop:=∀x,l.getLast?=some x->x≠0
noncomputable def Wd(a:List Rat):List Rat:=a.map λx=> -x
noncomputable def smQ(f:Nat->Rat):Nat->Rat
 |0=>0
 |n+1=>smQ f n+f n
noncomputable def cvQ(f g:Nat->Rat)(k:Nat):Rat:=smQ (λi=>f i*g (k -i)) (k+1)
end Num
namespace Sub
abbrev Ix:=Bool×Nat
abbrev Vc:=Ix->Int
noncomputable def ex(D:List Vc->Int)(r:Ix):List Vc->List Vc->Int
 |_,[]=>0
 |pre,c::post=>c r*D (pre++post) -ex D r (pre++[c]) post
noncomputable def det:List Ix->List Vc->Int
 |[],[]=>1
 |[],_::_=>0
 |r::a,cs=>ex (det a) r [] cs
noncomputable def sg(n:Nat):Int:=(-1)^n
noncomputable def sh(j:Nat)(P:Vc):Vc:=λi=>if j<=i.2 then P (i.1,i.2 -j)else 0
noncomputable def ZM(P:Vc):Nat->List Vc
 |0=>[]
 |n+1=>sh n P::ZM P n
noncomputable def rws:Nat->Nat->List Ix
 |_,0=>[]
 |0,_+1=>[]
 |E+1,c+1=>(false,E)::rws E c
noncomputable def comb(c:Int)(a:Vc):List (Int×Vc)->Vc
 |[]=>λi=>c*a i+0*a i
 |z::L=>λi=>1*comb c a L i+z.1*z.2 i
noncomputable def SS(E:Nat)(A B:Vc)(a b:Nat)(c:Ix):Int:=det (rws E (a+b -1)++[c]) (ZM A a++ZM B b)
noncomputable def less(c:Int)(A B:Vc)(L:List (Int×Nat)):Vc:=comb c A (L.map λz=>(z.1,sh z.2 B))
def Sgn(a:Int):Prop:=a=1\/a= -1
structure Ch(A B:Vc)(m n:Nat)(P Q:Vc)(p q:Nat)(lp lq h:Int):Prop where
 hpq:q<=p
 lp0:lp≠0
 h0:h≠0
 lq0:lq≠0
 lead:Q (false,q)=lq
 zero:∀t,q<t->Q (false,t)=0
 inv:∀k,k<=q->k<p->∃ε:Int,Sgn ε/\∀ρ,SS (p+q -k) P Q (q -k) (p -k) ρ=ε*(lp^(q -k)*h^(p -k -1))*SS (m+n -k) A B (n -k) (m -k) ρ
end Sub
namespace Sub
open Num
noncomputable def vc(r f:List Int):Vc:=λi=>if i.1 then f.getD i.2 0 else r.getD i.2 0
end Sub
namespace Num
end Num
namespace Sub
open Num
structure CS(ns ms f0 g0:List Int)(w E b1:Nat)(P Q fP fQ:List Int)(ld h:Int):Prop where
 ch:Ch (vc ns f0) (vc ms g0) (ns.length -1) (ms.length -1) (vc P fP) (vc Q fQ) (P.length -1) (Q.length -1) ld (Q.getD (Q.length -1) 0) h
 lq:0<Q.length
 lpq:Q.length<=P.length
 lp:P.length<=ns.length
 lqm:Q.length<=ms.length
 lf:fP.length+Q.length<=b1
 lf2:fQ=[]\/fQ.length+P.length<=b1
 bP:∀i,(vc P fP i).natAbs<=2^(w*(ns.length -1+(ms.length -1)+1))
 bQ:∀i,(vc Q fQ i).natAbs<=2^(w*(ns.length -1+(ms.length -1)+1))
 bl:ld.natAbs<=2^(w*(ns.length -1+(ms.length -1)+1))
 bh:h.natAbs<=2^(w*(ns.length -1+(ms.length -1) -2*(P.length -1)))
structure FX(ns ms f0 g0:List Int)(w E:Nat):Prop where
 l1:ms.length<=ns.length
 l2:ns.length<=50
 M:∃M:Nat,(∀i,(vc ns f0 i).natAbs<=M)/\(∀i,(vc ms g0 i).natAbs<=M)/\1<=M/\(ns.length -1+(ms.length -1)+1)*M<=2^w
 E1:∀p,(ns.length -1+(ms.length -1) -2*p)*p+(ns.length -1+(ms.length -1)+1)<=E
end Sub
namespace Num
abbrev co(a:List Int):Nat->Int:=λi=>a.getD i 0
end Num
namespace Sub
open Num
end Sub
namespace Num
noncomputable def wt:Nat->List Rat->List Rat
 |_,[]=>[]
 |k,r::a=>((k:Int):Rat)*r::wt (k+1) a
noncomputable def hz(t:Int):List Int->List Int
 |[]=>[]
 |r::a=>(r+t*(hz t a).headD 0)::hz t a
noncomputable def cs(l:List Int):List Rat:=l.map λx:Int=>((x:Int):Rat)
noncomputable def sc(u b:Rat):List Rat->List Rat
 |[]=>[]
 |r::a=>r*u*b^a.length::sc u b a
def Ud(N n:Nat)(r:Rat):Prop:=r.num.natAbs<2^N/\r.den<2^n
private theorem Bd.dd(h:Bd n a):Ud n n a:=h
noncomputable def gz(t:Int)(M:List Int)(k:Nat):Int:=(hz t (M.drop k)).headD 0
abbrev cQ(a:List Rat):Nat->Rat:=λi=>a.getD i 0
def Fin(f:Nat->Rat):Prop:=∃n,∀i,n<=i->f i=0
structure Mon(g:List Rat):Prop where
 ne:g≠[]
 one:g.getD (g.length -1) 0=1
end Num
namespace Num
open Sub
end Num
namespace Num
end Num
namespace Num
open Sub
end Num
namespace Num
end Num
namespace Num
open Sub
def MK(a b r:List Rat):Prop:=Pf r/\r.length<b.length/\∃q:Nat->Rat,Fin q/\∀k,cQ a k=cvQ q (cQ b) k+cQ r k
inductive ZN:List Rat->List Rat->List (List Rat)->Prop
 |nil {a b:List Rat} (h:MK a b []):ZN a b []
 |cons {a b r:List Rat} {l:List (List Rat)} (h:MK a b r) (h0:r≠[]) (k:ZN b (Wd r) l):ZN a b (Wd r::l)
section
variable{ns ms A B Qs R:List Int}{w E D0:Nat}{ld h c:Int}{α β:Rat}{a b:List Rat}
end
end Num
namespace VL
open PySem PySem.Spec PyProof.Rows L2
private theorem ff{C:Prop}(h:false=true):C:=Bool.noConfusion h
private theorem nn{α:Type}{a:α}{C:Prop}(h:none=some a):C:=Option.noConfusion rfl (heq_of_eq h)
inductive W where
 |aN|bl (b:Bool)|int (i:Int)|str (x:Str)|ty (n:String)|cls (C:Addr)|err (C:Addr)|fn (f:Addr)
 |tup (l:List W)|lst (l:List W)|dct (ks vs:List W)|obj (C:Addr) (fs:List Str) (vs:List W)|eE (ns:List Int)
 |gu (D:Addr) (ys ns:List Addr)
 |j4 (st:Stmt) (q x:Str) (w:W)
private theorem W.E4(h:W.int a=.int b):a=b:=by cases h;rfl
private theorem W.ML(h:W.tup a=.tup b):a=b:=by cases h;rfl
noncomputable def Cr:HO->Bool
 |.lst _|.ins _ _ _|.dK _|.dT _|.set _ _=>true
 |_=>false
noncomputable def eO:Key->W
 |.inl i=>.int i
 |.inr x=>.str x
def sJ(K:Frag)(C:Addr)(a:List Str):Prop:=IK K C/\a.length<1000/\a.Nodup/\∀x∈a,jk K C x
def Rz(H:Hp)(a:Addr)(u:HO):Prop:=H a=some u\/False
private theorem Rz.rd(h:Rz H a u):Rd H a u:=h.elim .inl DN
private theorem Rz.at(h:Rz H a u):H a=some u:=h.elim id DN
def Pg(K:Frag)(C:Addr):Prop:=qe K C/\kitOne K (.ref C) (.type "ValueError")=some true
def We(K:Frag)(D:Addr)(a b:List Addr):Prop:=(a≠[]->qe K D)/\(∀C∈a,Pg K C/\kitOne K (.ref C) (.ref D)=some true/\mroIn K C (.ref D)=some true)/\∀C∈b,kitOne K (.ref C) (.ref D)=some false
mutual
def Rep(K:Frag)(A:Addr->Prop)(H:Hp):W->V->Prop
 |.aN,v=>v=.aN
 |.bl b,v=>v=.bl b
 |.int i,v=>v=.int i
 |.str x,v=>v=.str x
 |.ty n,v=>v=.ty n
 |.cls C,v=>v=.ref C
 |.fn f,v=>v=.ref f
 |.err C,v=>∃a,v=.ref a/\H a=some (EF a C)/\¬A a/\Pg K C
 |.tup l,v=>∃p vs,v=.ref p/\H p=some (.tup vs)/\ai K A H l vs
 |.lst l,v=>∃p vs,v=.ref p/\¬A p/\Rz H p (.lst vs)/\ai K A H l vs
 |.dct h ws,v=>∃p kvs,v=.ref p/\¬A p/\H p=some (.dK kvs)/\h=kvs.map (λx=>eO x.1)/\ai K A H ws (kvs.map (·.2))
 |.obj C e ws,v=>∃p j vs,v=.ref p/\¬A p/\H p=some (.ins C j (e.zip vs))/\vs.length=e.length/\sJ K C e/\ai K A H ws vs
 |.gu D g d,v=>v=.ref D/\We K D g d
 |.j4 st q x w,v=>∃f c co u nm y,v=.ref f/\yN H f c nm q (aV st) (aF st) (af st) x/\H c=some (.i6 co (.own 0))/\co.data=.cell (some u)/\RelV y u/\Rep K A H w y
 |.eE d,v=>∃p,v=.ref p/\((∃o,H p=some (.i6 o (.lst (d.map V.int))))\/kC K (λ_=>none) p (d.map V.int))
def ai(K:Frag)(A:Addr->Prop)(H:Hp):List W->List V->Prop
 |[],vs=>vs=[]
 |w::ws,vs=>∃v r,vs=v::r/\Rep K A H w v/\ai K A H ws r
end
section
variable{K:Frag}{A B:Addr->Prop}{H H':Hp}
private theorem aq.rz(s:aq H H')(h:Rz H p u):Rz H' p u:=.inl (s _ _ h.at)
private theorem aq.rd(s:aq H H')(h:Rd H p u):Rd H' p u:=by
 rcases h with h|⟨o,h⟩
 .exact .inl (s _ _ h)
 .exact .inr ⟨o,s _ _ h⟩
def sL(B:Addr->Prop)(H H':Hp):Prop:=∀p o,H p=some o->(Cr o=true/\B p)\/H' p=some o
private theorem sL.un(h:sL A H H')(e:H p=some o)(n:Cr o=true->¬A p):H' p=some o:=by
 rcases h p o e with⟨z,y⟩|z
 .exact(n z y).elim
 .exact z
mutual
theorem Rep.chg(h:sL A H H')(i:∀p o,H p=some o->B p->A p):∀(w:W){v:V},Rep K A H w v->Rep K B H' w v
 |.aN,_,r=>by dsimp only[Rep]at r⊢;exact r
 |.bl _,_,r=>by dsimp only[Rep]at r⊢;exact r
 |.int _,_,r=>by dsimp only[Rep]at r⊢;exact r
 |.str _,_,r=>by dsimp only[Rep]at r⊢;exact r
 |.ty _,_,r=>by dsimp only[Rep]at r⊢;exact r
 |.cls _,_,r=>by dsimp only[Rep]at r⊢;exact r
 |.fn _,_,r=>by dsimp only[Rep]at r⊢;exact r
 |.err C,v,r=>by obtain⟨a,e,d,g,j⟩:=r;exact⟨a,e,h.un d (λz=>by cases z),λz=>g (i a _ d z),j⟩
 |.gu _ _ _,_,r=>by dsimp only[Rep]at r⊢;exact r
 |.j4 s q x w,v,r=>by
  obtain⟨f,c,co,u,D,y,e,d,g,j,I,F⟩:=r;have s:∀b o,H b=some (.i6 o (.own 0))->H' b=some (.i6 o (.own 0)):=λb o e=>h.un e λz=>by cases z
  exact⟨f,c,co,u,D,y,e,d.same s,s _ _ g,j,I,Rep.chg h i w F⟩
 |.tup l,v,r=>by obtain⟨p,k,e,d,g⟩:=r;exact⟨p,k,e,h.un d (λz=>by cases z),ai.chg h i l g⟩
 |.lst l,v,r=>by
  dsimp only[Rep]at r⊢;obtain⟨p,k,e,n,d,g⟩:=r;refine⟨p,k,e,λz=>?_,?_,ai.chg h i l g⟩
  .exact n (i p _ d.at z)
  .exact .inl (h.un d.at λ_=>n)
 |.dct M m,v,r=>by obtain⟨p,t,e,n,d,g,j⟩:=r;exact⟨p,t,e,λz=>n (i p _ d z),h.un d λ_=>n,g,ai.chg h i m j⟩
 |.obj C N m,v,r=>by obtain⟨p,J,k,e,n,d,g,E,j⟩:=r;exact⟨p,J,k,e,λz=>n (i p _ d z),h.un d λ_=>n,g,E,ai.chg h i m j⟩
 |.eE L,v,r=>by obtain⟨p,e,d⟩:=r;exact⟨p,e,d.imp (by rintro⟨o,z⟩;exact⟨o,h.un z λz=>by cases z⟩) id⟩
theorem ai.chg(h:sL A H H')(a:∀p o,H p=some o->B p->A p):∀(l:List W){vs:List V},ai K A H l vs->ai K B H' l vs
 |[],_,r=>by dsimp only[ai]at r⊢;exact r
 |w::l,vs,r=>by obtain⟨v,b,e,d,c⟩:=r;exact⟨v,b,e,Rep.chg h a w d,ai.chg h a l c⟩
end
private theorem sL.same(s:aq H H'):sL A H H':=λ_ _ e=>.inr (s _ _ e)
private theorem sL.put(b:H p=some a)(c:Cr a=true)(d:A p):sL A H (upd H p o):=λq u e=>by
 by_cases n:q=p
 .subst n;rw[b]at e;cases e;exact .inl ⟨c,d⟩
 .exact .inr (by rw[ak n];exact e)
private theorem Rep.mv(s:aq H H')(a:∀p o,H p=some o->B p->A p)(w:W)(h:Rep K A H w v):Rep K B H' w v:=Rep.chg (.same s) a w h
private theorem ai.mv(s:aq H H')(a:∀p o,H p=some o->B p->A p)(l:List W)(h:ai K A H l vs):ai K B H' l vs:=ai.chg (.same s) a l h
private theorem Rep.same(s:aq H H')(h:Rep K A H w v):Rep K A H' w v:=Rep.mv s (λ_ _ _ z=>z) w h
private theorem ai.same(s:aq H H')(h:ai K A H l vs):ai K A H' l vs:=ai.mv s (λ_ _ _ z=>z) l h
private theorem Rep.less(a:∀p,B p->A p)(h:Rep K A H w v):Rep K B H w v:=Rep.mv (aq.refl H) (λp _ _ z=>a p z) w h
private theorem ai.less(a:∀p,B p->A p)(h:ai K A H l vs):ai K B H l vs:=ai.mv (aq.refl H) (λp _ _ z=>a p z) l h
private theorem ai.put(b:H p=some (.lst a))(c:A p)(l:List W)(h:ai K A H l vs):ai K A (upd H p o) l vs:=ai.chg (.put b rfl c) (λ_ _ _ z=>z) l h
private theorem ai.nil:ai K A H [] []:=by dsimp only[ai]
private theorem ai.cons{w:W}{v:V}{l:List W}{vs:List V}(b:Rep K A H w v)(a:ai K A H l vs):ai K A H (w::l) (v::vs):=by dsimp only[ai];exact⟨v,vs,rfl,b,a⟩
private theorem ai.nil_inv(h:ai K A H [] vs):vs=[]:=by dsimp only[ai]at h;exact h
private theorem ai.cons_inv(h:ai K A H (w::l) vs):∃v r,vs=v::r/\Rep K A H w v/\ai K A H l r:=by dsimp only[ai]at h;exact h
private theorem ai.len:∀{l:List W}{vs:List V},ai K A H l vs->vs.length=l.length
 |[],vs,h=>by rw[h.nil_inv];rfl
 |w::l,vs,h=>by obtain⟨v,r,rfl,_,a⟩:=h.cons_inv;rw[Ar,Ar,a.len]
private theorem ai.app:∀{l m:List W}{vs us:List V},ai K A H l vs->ai K A H m us->ai K A H (l++m) (vs++us)
 |[],m,vs,us,h,k=>by rw[h.nil_inv];exact k
 |w::l,m,vs,us,h,k=>by obtain⟨v,r,rfl,b,a⟩:=h.cons_inv;exact .cons b (a.app k)
private theorem ai.get:∀{l:List W}{vs:List V}{i:Nat}{w:W},ai K A H l vs->l[i]?=some w->∃v,vs[i]?=some v/\Rep K A H w v
 |[],_,_,_,_,e=>by simp at e
 |x::l,vs,0,w,h,e=>by obtain⟨v,r,rfl,b,a⟩:=h.cons_inv;simp at e;subst e;exact⟨v,rfl,b⟩
 |x::l,vs,i+1,w,h,e=>by obtain⟨v,r,rfl,b,a⟩:=h.cons_inv;obtain⟨u,d,c⟩:=a.get (i:=i) (by simpa using e);exact⟨u,by simpa using d,c⟩
private theorem ai.set:∀{l:List W}{vs:List V}{i:Nat}{w:W}{v:V},ai K A H l vs->Rep K A H w v->ai K A H (l.set i w) (vs.set i v)
 |[],_,_,_,_,h,_=>by rw[h.nil_inv];exact .nil
 |x::l,vs,0,w,v,h,e=>by obtain⟨c,r,rfl,b,a⟩:=h.cons_inv;exact .cons e a
 |x::l,vs,i+1,w,v,h,e=>by obtain⟨c,r,rfl,b,a⟩:=h.cons_inv;exact .cons b (a.set e)
private theorem ai.take:∀{l:List W}{vs:List V}(n:Nat),ai K A H l vs->ai K A H (l.take n) (vs.take n)
 |_,_,0,_=>.nil
 |[],vs,n+1,h=>by rw[h.nil_inv];exact .nil
 |x::l,vs,n+1,h=>by obtain⟨c,r,rfl,b,a⟩:=h.cons_inv;exact .cons b (a.take n)
private theorem ai.drop:∀{l:List W}{vs:List V}(n:Nat),ai K A H l vs->ai K A H (l.drop n) (vs.drop n)
 |_,_,0,h=>h
 |[],vs,n+1,h=>by rw[h.nil_inv];exact .nil
 |x::l,vs,n+1,h=>by obtain⟨b,r,rfl,c,a⟩:=h.cons_inv;exact a.drop n
private theorem ai.dropLast(h:ai K A H l vs):ai K A H l.dropLast vs.dropLast:=by rw[b0,b0,h.len];exact h.take _
private theorem ai.rep(h:ai K A H l vs):∀n:Nat,ai K A H (A0 n l).flatten (A0 n vs).flatten
 |0=>.nil
 |n+1=>by rw[Et,Et,JD,JD];exact h.app (h.rep n)
private theorem ai.ints{a:List Int}:∀{vs:List V},ai K A H (a.map W.int) vs->vs=a.map V.int:=by
 induction a with
 |nil=>intro vs h;exact h.nil_inv
 |cons n a c=>intro vs h;obtain⟨v,r,rfl,b,d⟩:=h.cons_inv;dsimp only[Rep]at b;rw[b,c d];rfl
private theorem ai.Jz(a:List Int):ai K A H (a.map W.int) (a.map V.int):=by
 induction a with
 |nil=>exact .nil
 |cons n a b=>exact .cons (by dsimp only[Rep]) b
private theorem ai.bls{bs:List Bool}:∀{vs:List V},ai K A H (bs.map W.bl) vs->vs=bs.map V.bl:=by
 induction bs with
 |nil=>intro vs h;exact h.nil_inv
 |cons n d b=>intro vs h;obtain⟨v,r,rfl,a,c⟩:=h.cons_inv;dsimp only[Rep]at a;rw[a,b c];rfl
end
end VL
set_option genSizeOf false
set_option genInjectivity false
namespace VL
open PySem PySem.Spec
open PyProof.Rows hiding St
open L2
inductive Md where
 |s|f|o (fs:List Str) (ms:List Md)
 |io (m:Md)
 |d
mutual
def Fp(K:Frag)(B:Addr->Prop)(H:Hp):Md->W->V->List Addr->Prop
 |.s,w,v,F=>F=[]/\Rep K B H w v
 |.f,w,v,F=>∃ws p vs,w=.lst ws/\v=.ref p/\F=[p]/\H p=some (.lst vs)/\ai K B H ws vs
 |.o a c,w,v,F=>∃C e ws p vs F',w=.obj C a ws/\v=.ref p/\F=p::F'/\H p=some (.ins C e (a.zip vs))/\vs.length=a.length/\sJ K C a/\i8 K B H c ws vs F'
 |.io _,_,_,_=>False
 |.d,w,v,F=>∃b ws p kvs,w=.dct b ws/\v=.ref p/\F=[p]/\H p=some (.dK kvs)/\b=kvs.map (λx=>eO x.1)/\ai K B H ws (kvs.map (·.2))
def i8(K:Frag)(B:Addr->Prop)(H:Hp):List Md->List W->List V->List Addr->Prop
 |[],ws,vs,F=>ws=[]/\vs=[]/\F=[]
 |m::e,ws,vs,F=>∃w b v a d c,ws=w::b/\vs=v::a/\F=d++c/\Fp K B H m w v d/\i8 K B H e b a c
end
def ql(B G:Addr->Prop)(H H':Hp):Prop:=∀p o,H p=some o->(Cr o=true/\B p/\¬G p)\/H' p=some o
section
variable{K:Frag}{A B G:Addr->Prop}{H H':Hp}
private theorem ql.c(h:ql A G H H'):sL A H H':=λp o e=>(h p o e).imp (λz=>⟨z.1,z.2.1⟩) id
private theorem ql.un(h:ql A G H H')(e:H p=some o)(g:Cr o=true->G p):H' p=some o:=by
 rcases h p o e with⟨z,_,y⟩|z
 .exact(y (g z)).elim
 .exact z
mutual
theorem Fp.chg(h:ql A G H H')(k:∀p o,H p=some o->B p->A p):∀(m:Md){w:W}{v:V}{F:List Addr},(∀p∈F,G p)->Fp K A H m w v F->Fp K B H' m w v F
 |.s,w,v,F,b,r=>by dsimp only[Fp]at r⊢;exact⟨r.1,Rep.chg h.c k w r.2⟩
 |.f,w,v,F,b,r=>by obtain⟨ws,p,vs,j,i,a,g,e⟩:=r;exact⟨ws,p,vs,j,i,a,h.un g (λ_=>b p (by rw[a];exact Ap)),ai.chg h.c k ws e⟩
 |.o I n,w,v,F,b,r=>by obtain⟨C,D,ws,p,vs,E,j,i,a,g,e,y,z⟩:=r;exact⟨C,D,ws,p,vs,E,j,i,a,h.un g (λ_=>b p (by rw[a];exact Ap)),e,y,i8.chg h k n (λq u=>b q (by rw[a];exact AS _ u)) z⟩
 |.io _,w,v,F,b,r=>DN r
 |.d,w,v,F,b,r=>by obtain⟨t,ws,p,l,j,i,a,g,x,e⟩:=r;exact⟨t,ws,p,l,j,i,a,h.un g (λ_=>b p (by rw[a];exact Ap)),x,ai.chg h.c k ws e⟩
theorem i8.chg(h:ql A G H H')(e:∀p o,H p=some o->B p->A p):∀(a:List Md){ws:List W}{vs:List V}{F:List Addr},(∀p∈F,G p)->i8 K A H a ws vs F->i8 K B H' a ws vs F
 |[],_,_,_,_,r=>by dsimp only[i8]at r⊢;exact r
 |m::a,ws,vs,F,f,r=>by obtain⟨w,l,v,b,q,n,k,j,d,i,g⟩:=r;exact⟨w,l,v,b,q,n,k,j,d,Fp.chg h e m (λp c=>f p (by rw[d];exact IT _ c)) i,i8.chg h e a (λp c=>f p (by rw[d];exact FR _ c)) g⟩
end
private theorem ql.same(s:aq H H'):ql A (λ_=>True) H H':=λ_ _ e=>.inr (s _ _ e)
private theorem Fp.mv(s:aq H H')(a:∀p o,H p=some o->B p->A p)(m:Md)(h:Fp K A H m w v F):Fp K B H' m w v F:=Fp.chg (.same s) a m (λ_ _=>trivial) h
mutual
theorem Fp.rep(e:∀p,B p->A p):∀(m:Md){w:W}{v:V}{F:List Addr},(∀p∈F,¬B p)->Fp K A H m w v F->Rep K B H w v
 |.s,w,v,F,a,h=>by dsimp only[Fp]at h;exact h.2.less e
 |.f,w,v,F,a,h=>by obtain⟨ws,p,vs,rfl,rfl,rfl,c,b⟩:=h;exact⟨p,vs,rfl,a p (Dx.mpr rfl),.inl c,b.less e⟩
 |.o u i,w,v,F,a,h=>by obtain⟨C,r,ws,p,vs,x,rfl,rfl,rfl,c,b,l,n⟩:=h;exact⟨p,r,vs,rfl,a p Ap,c,b,l,i8.rep e i (λq j=>a q (AS _ j)) n⟩
 |.io _,w,v,F,a,h=>DN h
 |.d,w,v,F,a,h=>by obtain⟨t,ws,p,g,rfl,rfl,rfl,c,k,b⟩:=h;exact⟨p,g,rfl,a p (Dx.mpr rfl),c,k,b.less e⟩
theorem i8.rep(d:∀p,B p->A p):∀(a:List Md){ws:List W}{vs:List V}{F:List Addr},(∀p∈F,¬B p)->i8 K A H a ws vs F->ai K B H ws vs
 |[],_,_,_,_,h=>by obtain⟨rfl,rfl,_⟩:=h;exact .nil
 |m::a,ws,vs,F,c,h=>by obtain⟨w,i,v,e,k,j,rfl,rfl,rfl,g,f⟩:=h;exact .cons (Fp.rep d m (λp b=>c p (IT _ b)) g) (i8.rep d a (λp b=>c p (FR _ b)) f)
end
mutual
theorem Fp.mu:∀(m:Md){w:W}{v:V}{F:List Addr},Fp K A H m w v F->∀p∈F,∃o,H p=some o/\Cr o=true
 |.s,w,v,F,h,p,a=>by dsimp only[Fp]at h;rw[h.1]at a;cases a
 |.f,w,v,F,h,p,a=>by obtain⟨ws,q,vs,_,_,rfl,b,_⟩:=h;rw[Dx.mp a];exact⟨_,b,rfl⟩
 |.o j c,w,v,F,h,p,a=>by
  obtain⟨C,k,ws,q,vs,l,_,_,rfl,b,_,_,g⟩:=h;rcases Do.mp a with rfl|a
  .exact⟨_,b,rfl⟩
  .exact i8.mu c g p a
 |.io _,w,v,F,h,p,a=>DN h
 |.d,w,v,F,h,p,a=>by obtain⟨i,ws,q,e,_,_,rfl,b,_⟩:=h;rw[Dx.mp a];exact⟨_,b,rfl⟩
theorem i8.mu:∀(b:List Md){ws:List W}{vs:List V}{F:List Addr},i8 K A H b ws vs F->∀p∈F,∃o,H p=some o/\Cr o=true
 |[],_,_,_,h,p,a=>by dsimp only[i8]at h;rw[h.2.2]at a;cases a
 |m::b,ws,vs,F,h,p,a=>by
  obtain⟨w,f,v,c,i,g,_,_,rfl,e,d⟩:=h;rcases Fu.mp a with a|a
  .exact Fp.mu m e p a
  .exact i8.mu b d p a
end
inductive j5 where
 |fl (n:Nat) (x:Str)
noncomputable def cD:W->List j5->Option W
 |w,[]=>some w
 |.obj _ _ l,.fl n _::π=>match l[n]? with
  |some u=>cD u π
  |none=>none
 |_,_=>none
noncomputable def setAt:W->List j5->W->W
 |_,[],u=>u
 |.obj C a l,.fl n _::π,u=>match l[n]? with
  |some x=>.obj C a (l.set n (setAt x π u))
  |none=>.obj C a l
 |w,_,_=>w
noncomputable def lS:Md->List j5->Option Md
 |m,[]=>some m
 |.o b a,.fl n x::π=>if b[n]?=some x then(match a[n]? with
  |some m=>lS m π
  |none=>none)else none
 |_,_=>none
def Ia(K:Frag)(H:Hp):V->List j5->V->Prop
 |v,[],u=>u=v
 |v,.fl n f::π,u=>∃p vs x,v=.ref p/\(∃(C b:Addr)(a:List Str),H p=some (.ins C b (a.zip vs))/\vs.length=a.length/\sJ K C a/\a[n]?=some f)/\vs[n]?=some x/\Ia K H x π u
private theorem qm{α:Type}:∀{l:List α}{n:Nat}{x:α},l[n]?=some x->l.set n x=l
 |[],_,_,e=>by cases e
 |y::l,0,x,e=>by cases e;rfl
 |y::l,n+1,x,e=>by rw[eB,qm (by simpa using e)]
private theorem i8.at:∀(i:List Md){ws:List W}{vs:List V}{F:List Addr}{n:Nat}{m:Md}{w:W},i8 K A H i ws vs F->i[n]?=some m->ws[n]?=some w->
 ∃v d F' j,vs[n]?=some v/\F=d++F'++j/\Fp K A H m w v F'/\∀(H':Hp)(B:Addr->Prop) w' g k,Fp K B H' m w' g k->ql A (·∈d++j) H H'->(∀p o,H p=some o->B p->A p)->i8 K B H' i (ws.set n w') (vs.set n g) (d++k++j)
 |[],_,_,_,n,m,w,_,e,_=>by cases e
 |m0::i,ws,vs,F,0,m,w,h,C,y=>by obtain⟨E,D,v,f,d,j,rfl,rfl,rfl,t,s⟩:=h;cases C;cases y;refine⟨v,[],d,j,rfl,by simp,t,λH' B w' g k x l q=>?_⟩;exact⟨w',D,g,f,k,j,rfl,rfl,by simp,x,i8.chg l q i (λp r=>by simpa using r) s⟩
 |m0::i,ws,vs,F,n+1,m,w,h,C,y=>by obtain⟨E,D,v,f,d,j,rfl,rfl,rfl,t,s⟩:=h;obtain⟨u,J,O,I,N,rfl,M,L⟩:=i8.at i s (n:=n) (by simpa using C) (by simpa using y);refine⟨u,d++J,O,I,by simpa using N,by simp,M,λH' B w' g k x l q=>?_⟩;refine⟨E,D.set n w',v,f.set n g,d,J++k++I,rfl,rfl,by simp,Fp.chg l q m0 (λp r=>by simp[r]) t,L H' B w' g k x (λp o e=>(l p o e).imp (λ⟨a,b,c⟩=>⟨a,b,λz=>c ?_⟩) id) q⟩;rcases Fu.mp z with z|z<;>simp[z]
def Pth(K:Frag)(A:Addr->Prop)(H:Hp)(m:Md)(w:W)(v:V)(F:List Addr)(π:List j5)(e:Md)(w':W):Prop:=
 ∃b d f c,F=d++f++c/\Ia K H v π b/\Fp K A H e w' b f/\∀(H':Hp)(B:Addr->Prop) a g,Fp K B H' e a b g->ql A (·∈d++c) H H'->(∀p o,H p=some o->B p->A p)->Fp K B H' m (setAt w π a) v (d++g++c)
private theorem Fp.path:∀(π:List j5)(m:Md){w:W}{v:V}{F:List Addr}{j:Md}{w':W},Fp K A H m w v F->lS m π=some j->cD w π=some w'->Pth K A H m w v F π j w'
 |[],m,w,v,F,j,w',h,g,i=>by dsimp only[lS]at g;dsimp only[cD]at i;cases g;cases i;refine⟨v,[],F,[],by simp,rfl,h,λH' B k x h' _ _=>?_⟩;dsimp only[setAt];simpa using h'
 |n::π,.s,w,v,F,j,w',h,g,i=>by cases n<;>exact nn g
 |n::π,.f,w,v,F,j,w',h,g,i=>by cases n<;>exact nn g
 |n::π,.io _,w,v,F,j,w',h,g,i=>by cases n<;>exact nn g
 |n::π,.d,w,v,F,j,w',h,g,i=>by cases n<;>exact nn g
 |.fl n f::π,.o M E,w,v,F,j,w',h,g,i=>by
  obtain⟨C,N,ws,p,vs,F0,rfl,rfl,rfl,L,I,l,h2⟩:=h;dsimp only[lS]at g;dsimp only[cD]at i;by_cases r:M[n]?=some f;rotate_left
  .rw[B1 r]at g;cases g
  rw[BM r]at g;cases u:E[n]? with
  |none=>rw[u]at g;exact nn g
  |some m1=>
   cases q:ws[n]? with
   |none=>rw[q]at i;exact nn i
   |some w1=>rw[u]at g;rw[q]at i;obtain⟨y,R,F',Q,D,rfl,Z,Y⟩:=i8.at E h2 u q;obtain⟨S,P,G',O,rfl,X,U,T⟩:=Fp.path π m1 Z g i;refine⟨S,p::R++P,G',O++Q,by simp,⟨p,vs,y,rfl,⟨C,N,M,L,I,l,r⟩,D,X⟩,U,λH' B k x h' t J=>?_⟩;dsimp only[setAt];rw[q];dsimp only[Fp];have a:=Y H' B _ y _ (T H' B k x h' (λp o e=>(t p o e).imp (by rintro⟨a,b,c⟩;exact⟨a,b,λz=>c (by rcases Fu.mp z with z|z<;>simp[z])⟩) id) J) (λp o e=>(t p o e).imp (by rintro⟨a,b,c⟩;exact⟨a,b,λz=>c (by rcases Fu.mp z with z|z<;>simp[z])⟩) id) J;rw[qm D]at a;refine⟨C,N,_,p,vs,R++(P++x++O)++Q,rfl,rfl,by simp,t.un L (λ_=>by simp),I,l,a⟩
end
def dw(K:Frag)(A:Addr->Prop)(H H':Hp)(m:Md)(w:W)(v:V):Prop:=
 ∃F:List Addr,F.Nodup/\(∀p∈F,H p=none)/\Fp K (λq=>A q\/q∈F) H' m w v F
def Dom(A:Addr->Prop)(H:Hp):Prop:=∀p,A p->∃o,H p=some o
private theorem Dom.no(d:Dom A H)(h:H p=none):¬A p:=λz=>by obtain⟨o,e⟩:=d p z;rw[h]at e;cases e
private theorem Dom.same(d:Dom A H)(s:aq H H'):Dom A H':=λp z=>by obtain⟨o,e⟩:=d p z;exact⟨o,s _ _ e⟩
section
variable{K:Frag}{A B:Addr->Prop}{H H':Hp}{m:Md}{w:W}{v:V}
private theorem dw.rep(d:Dom A H)(h:dw K A H H' m w v):Rep K A H' w v:=by obtain⟨F,c,a,h⟩:=h;exact Fp.rep (λp z=>.inl z) m (λp b=>d.no (a p b)) h
private theorem dw.of(h:Rep K A H' w v):dw K A H H' .s w v:=⟨[],bp,by simp,by dsimp only[Fp];exact⟨rfl,h.less λp z=>by simpa using z⟩⟩
private theorem dw.s(d:Dom A H)(h:dw K A H H' m w v):dw K A H H' .s w v:=.of (h.rep d)
private theorem dw.new(a:H p=none)(c:H' p=some (.lst vs))(d:ai K A H' ws vs)(b:ai K (λq=>A q\/q=p) H' ws vs):dw K A H H' .f (.lst ws) (.ref p):=
 ⟨[p],(by simp),(by simpa using a),by dsimp only[Fp];exact⟨ws,p,vs,rfl,rfl,rfl,c,b.less λq z=>by simpa using z⟩⟩
private theorem dw.fresh(s:aq H H1)(a:H1 p=none)(h:ai K A H1 ws vs):dw K A H (upd H1 p (.lst vs)) .f (.lst ws) (.ref p):=by
 have sm:=aK a (.lst vs);refine .new (s.free a) az (h.same sm) (ai.mv sm (λq o z y=>?_) ws h);rcases y with y|y
 .exact y
 .rw[y,a]at z;cases z
private theorem dw.MM(h:dw K A H H' .f w v):∃ws p vs,w=.lst ws/\v=.ref p/\H p=none/\H' p=some (.lst vs)/\ai K (λq=>A q\/q=p) H' ws vs:=by obtain⟨F,d,a,h⟩:=h;obtain⟨ws,p,vs,rfl,rfl,rfl,c,b⟩:=h;exact⟨ws,p,vs,rfl,rfl,a p (Dx.mpr rfl),c,b.less λq z=>by simpa using z⟩
private theorem dw.back(s:aq a H)(e:∀p,B p->A p)(h:dw K A H H' m w v):dw K B a H' m w v:=by obtain⟨F,c,b,h⟩:=h;exact⟨F,c,λp d=>s.free (b p d),Fp.mv (aq.refl _) (λp o _ z=>z.imp (e p) id) m h⟩
end
abbrev Ev:=List (Option W)
noncomputable def look:Ev->Nat->Option W
 |[],_=>none
 |x::_,0=>x
 |_::l,n+1=>look l n
private theorem bq:∀{a:Ev}{i:Nat}{w:W},look a i=some w↔a[i]?=some (some w)
 |[],i,w=>by simp[look]
 |x::l,0,w=>by simp[look]
 |x::l,i+1,w=>by rw[look,bq];simp
abbrev Ms:=List (Nat×Md)
def aL(M:Ms)(i:Nat):Prop:=∃m,(i,m)∈M
structure Fz where
 ab:Addr->Prop
 B:Addr->Prop
 s0:Option V
abbrev FB(A:Fz)(M:Ms)(σ:St):Addr->Prop:=A.B
structure Ph(K:Frag)(M:Ms)(A:Fz)(H0:Hp)(σ:St)(H:Hp)(ε:Ev)(F:Nat->List Addr):Prop where
 un:∀i m m',(i,m)∈M->(i,m')∈M->m=m'
 val:∀i m w,(i,m)∈M->look ε i=some w->∃v,σ[i]?=some (some v)/\Fp K A.B H m w v (F i)
 emp:∀i,aL M i->look ε i=none->F i=[]
 nd:∀i,aL M i->(F i).Nodup
 ds:∀i j p,aL M i->aL M j->p∈F i->p∈F j->i=j
 nw:∀i p,aL M i->p∈F i->H0 p=none
 na:∀i p,aL M i->p∈F i->¬A.ab p
 all:∀p,A.B p↔A.ab p\/∃i,aL M i/\p∈F i
structure SR(K:Frag)(M:Ms)(A:Fz)(H0:Hp)(σ:St)(H:Hp)(ε:Ev):Prop where
 len:σ.length=ε.length
 sh:∀i w,¬aL M i->look ε i=some w->∃v,σ[i]?=some (some v)/\Rep K A.B H w v
 sm:aq H0 H
 dm:Dom A.ab H
 sl:∀v,A.s0=some v->σ[0]?=some (some v)/\aL M 0
 ow:∃F,Ph K M A H0 σ H ε F
private theorem aG(h:i≠j):look (a.set i x) j=look a j:=by
 cases e:look a j with
 |none=>
  cases b:look (a.set i x) j with
  |none=>rfl
  |some w=>rw[bq,Iy h,<-bq,e]at b;cases b
 |some w=>rw[bq,Iy h,<-bq];exact e
private theorem jo{a:Ev}(h:look (a.set i (some w)) i=some w'):w'=w:=by
 rw[bq,S6]at h;rw[BM rfl]at h;split at h
 .cases h;rfl
 .cases h
private theorem lT(h:look a i=some w):i<a.length:=by rw[bq]at h;exact(Fk.mp h).1
section
variable{K:Frag}{M M':Ms}{A:Fz}{H0 H H1:Hp}{σ:St}{ε:Ev}{F:Nat->List Addr}
private theorem Ph.has(O:Ph K M A H0 σ H ε F)(c:aL M i)(a:p∈F i):∃o,H p=some o/\Cr o=true:=by
 cases b:look ε i with
 |none=>rw[O.emp i c b]at a;cases a
 |some w=>obtain⟨m,d⟩:=c;obtain⟨v,_,h⟩:=O.val i m w d b;exact Fp.mu m h p a
private theorem SR.dom(S:SR K M A H0 σ H ε):Dom A.B H:=λp z=>by
 obtain⟨F,O⟩:=S.ow;rcases(O.all p).mp z with z|⟨i,b,a⟩
 .exact S.dm p z
 .obtain⟨o,e,_⟩:=O.has b a;exact⟨o,e⟩
private theorem SR.sub'(S:SR K M A H0 σ H ε):∀p,A.ab p->A.B p:=λp z=>by obtain⟨F,O⟩:=S.ow;exact(O.all p).mpr (.inl z)
private theorem SR.same(S:SR K M A H0 σ H ε)(s:aq H H1):SR K M A H0 σ H1 ε:=by
 obtain⟨F,O⟩:=S.ow;exact⟨S.len,λi w b e=>let⟨v,h1,h2⟩:=S.sh i w b e;⟨v,h1,h2.same s⟩,S.sm.trans s,S.dm.same s,S.sl,F,
  ⟨O.un,λi m w a e=>let⟨v,h1,h2⟩:=O.val i m w a e;⟨v,h1,Fp.mv s (λ_ _ _ z=>z) m h2⟩,O.emp,O.nd,O.ds,O.nw,O.na,O.all⟩⟩
private theorem SR.sub(S:SR K M A H0 σ H ε)(h:∀x∈M',x∈M)(s:Option V)(hz:∀v,s=some v->A.s0=some v/\aL M' 0):∃r,r.ab=A.ab/\r.s0=s/\(∀p,r.B p->A.B p)/\SR K M' r H0 σ H ε:=by
 obtain⟨F,O⟩:=S.ow;have d:∀i,aL M' i->aL M i:=by rintro i ⟨m,f⟩;exact⟨m,h _ f⟩
 have q:∀p,(A.ab p\/∃i,aL M' i/\p∈F i)->A.B p:=λp z=>(O.all p).mpr (z.imp id<|by rintro⟨i,c,n⟩;exact⟨i,d i c,n⟩);refine⟨⟨A.ab,λp=>A.ab p\/∃i,aL M' i/\p∈F i,s⟩,rfl,rfl,q,S.len,λi w t e=>?_,S.sm,S.dm,λv e=>⟨(S.sl v (hz v e).1).1,(hz v e).2⟩,F,⟨λi m u a b=>O.un i m u (h _ a) (h _ b),λi m w f e=>?_,λi c=>O.emp i (d i c),λi c=>O.nd i (d i c),λi j p c o=>O.ds i j p (d i c) (d j o),λi p c=>O.nw i p (d i c),λi p c=>O.na i p (d i c),λp=>bM⟩⟩
 .by_cases c:aL M i
  .have g:=c;obtain⟨m,f⟩:=c;obtain⟨v,l,k⟩:=O.val i m w f e;refine⟨v,l,Fp.rep q m (λp n z=>?_) k⟩;rcases z with z|⟨j,o,y⟩
   .exact O.na i p g n z
   .have:=O.ds i j p g (d j o) n y;subst this;exact t o
  .obtain⟨v,l,k⟩:=S.sh i w c e;exact⟨v,l,k.less q⟩
 .obtain⟨v,l,k⟩:=O.val i m w (h _ f) e;exact⟨v,l,Fp.mv (aq.refl _) (λp _ _ z=>q p z) m k⟩
private theorem SR.go(S:SR K M A H0 σ H ε):SR K [] ⟨A.ab,A.ab,none⟩ H0 σ H ε:=by
 obtain⟨a,b,c,h,d⟩:=S.sub (M':=[]) (λx f=>by cases f) none (λv e=>by cases e);obtain⟨F,O⟩:=d.ow;have e:∀p,a.B p↔A.ab p:=λp=>by rw[O.all p,b];exact⟨λz=>z.elim id (by rintro⟨i,⟨m,g⟩,_⟩;cases g),.inl⟩
 have:a.B=A.ab:=funext λp=>propext (e p);have:a=⟨A.ab,A.ab,none⟩:=by
  cases a;simp only at b c this;rw[b,this,c]
 rw[<-this];exact d
private theorem SR.set(S:SR K M A H0 σ H ε)(g:¬aL M i)(h:Rep K A.B H w v):SR K M A H0 (σ.set i (some v)) H (ε.set i (some w)):=by
 obtain⟨F,O⟩:=S.ow;refine⟨by rw[Kt,Kt];exact S.len,λj f d e=>?_,S.sm,S.dm,λu e=>?_,F,⟨O.un,λj m f k e=>?_,λj d e=>?_,O.nd,O.ds,O.nw,O.na,O.all⟩⟩
 .by_cases a:i=j
  .subst a;have l:i<σ.length:=by rw[S.len];have:=lT e;rwa [Kt]at this
   have:=jo e;subst this;exact⟨v,N0 l,h⟩
  .rw[aG a]at e;obtain⟨u,c,b⟩:=S.sh j f d e;exact⟨u,by rw[Iy a];exact c,b⟩
 .obtain⟨c,b⟩:=S.sl u e;exact⟨by rw[Iy (by rintro rfl;exact g b)];exact c,b⟩
 .have a:i≠j:=by rintro rfl;exact g ⟨m,k⟩
  rw[aG a]at e;obtain⟨u,c,b⟩:=O.val j m f k e;exact⟨u,by rw[Iy a];exact c,b⟩
 .have a:i≠j:=by rintro rfl;exact g d
  rw[aG a]at e;exact O.emp j d e
private theorem SR.own(S:SR K M' A H0 σ H ε)(y:∀x,x∈M↔x=(i,m)\/x∈M')(Q:¬aL M' i)(s:aq H H1)(h:dw K A.B H H1 m w v):
 ∃N,N.ab=A.ab/\N.s0=A.s0/\(∀p o,H p=some o->N.B p->A.B p)/\SR K M N H0 (σ.set i (some v)) H1 (ε.set i (some w)):=by
 obtain⟨F,O⟩:=S.ow;obtain⟨G,nd,nw,L⟩:∃G:List Addr,G.Nodup/\(∀p∈G,H p=none)/\(i<ε.length->Fp K (λq=>A.B q\/q∈G) H1 m w v G)/\(ε.length<=i->G=[]):=by
  by_cases g:i<ε.length
  .obtain⟨G,nd,nw,L⟩:=h;exact⟨G,nd,nw,λ_=>L,λz=>by lia⟩
  .exact⟨[],bp,by simp,λz=>(g z).elim,λ_=>rfl⟩
 have f:∀j,aL M j↔j=i\/aL M' j:=λj=>by
  constructor
  .rintro⟨r,R⟩;rcases(y _).mp R with e|e
   .cases e;exact .inl rfl
   .exact .inr ⟨r,e⟩
  .rintro(rfl|⟨r,R⟩)
   .exact⟨m,(y _).mpr (.inl rfl)⟩
   .exact⟨r,(y _).mpr (.inr R)⟩
 have P:∀j,aL M' j->j≠i:=λj c e=>by subst e;exact Q c
 have E:∀j p,aL M' j->p∈F j->p∉G:=λj p c d z=>by obtain⟨o,e,_⟩:=O.has c d;rw[nw p z]at e;cases e
 have T:∀p o,H p=some o->(A.B p\/p∈G)->A.B p:=λp o e z=>by
  rcases z with z|z
  .exact z
  .rw[nw p z]at e;cases e
 refine⟨⟨A.ab,λp=>A.B p\/p∈G,A.s0⟩,rfl,rfl,T,by rw[Kt,Kt];exact S.len,λj J c e=>?_,S.sm.trans s,S.dm.same s,λu e=>?_,λj=>if j=i then G else F j,⟨λj Y X a b=>?_,λj r J c e=>?_,λj c e=>?_,λj c=>?_,λj k p c U a b=>?_,λj p c d=>?_,λj p c d=>?_,λp=>?_⟩⟩
 .have t:j≠i/\¬aL M' j:=⟨λz=>c ((f j).mpr (.inl z)),λz=>c ((f j).mpr (.inr z))⟩;rw[aG (Oy t.1)]at e;obtain⟨u,I,D⟩:=S.sh j J t.2 e;exact⟨u,by rw[Iy (Oy t.1)];exact I,Rep.mv s T J D⟩
 .obtain⟨I,D⟩:=S.sl u e;exact⟨by rw[Iy (Oy (P 0 D))];exact I,(f 0).mpr (.inr D)⟩
 .rcases(y _).mp a with a|a
  .rcases(y _).mp b with b|b
   .cases a;cases b;rfl
   .cases a;exact(Q ⟨_,b⟩).elim
  .rcases(y _).mp b with b|b
   .cases b;exact(Q ⟨_,a⟩).elim
   .exact O.un j Y X a b
 .rcases(y _).mp c with a|a
  .cases a;have g:i<ε.length:=by have:=lT e;rwa [Kt]at this
   have:=jo e;subst this;exact⟨v,N0 (by rw[S.len];exact g),by rw[BM rfl];exact L.1 g⟩
  .have n:=P j ⟨r,a⟩;rw[aG (Oy n)]at e;obtain⟨u,I,D⟩:=O.val j r J a e;exact⟨u,by rw[Iy (Oy n)];exact I,by rw[B1 n];exact Fp.mv s T r D⟩
 .by_cases n:j=i
  .subst n;rw[BM rfl];refine L.2 (fb λg=>?_);have:look (ε.set j (some w)) j=some w:=by rw[bq];exact N0 g
   rw[this]at e;cases e
  .rw[aG (Oy n)]at e;rw[B1 n];exact O.emp j (((f j).mp c).resolve_left n) e
 .by_cases n:j=i
  .rw[BM n];exact nd
  .rw[B1 n];exact O.nd j (((f j).mp c).resolve_left n)
 .by_cases C:j=i
  .by_cases l:k=i
   .rw[C,l]
   .rw[BM C]at a;rw[B1 l]at b;exact(E k p (((f k).mp U).resolve_left l) b a).elim
  .by_cases l:k=i
   .rw[B1 C]at a;rw[BM l]at b;exact(E j p (((f j).mp c).resolve_left C) a b).elim
   .rw[B1 C]at a;rw[B1 l]at b;exact O.ds j k p (((f j).mp c).resolve_left C) (((f k).mp U).resolve_left l) a b
 .by_cases n:j=i
  .rw[BM n]at d;exact S.sm.free (nw p d)
  .rw[B1 n]at d;exact O.nw j p (((f j).mp c).resolve_left n) d
 .by_cases n:j=i
  .rw[BM n]at d;exact S.dm.no (nw p d)
  .rw[B1 n]at d;exact O.na j p (((f j).mp c).resolve_left n) d
 .constructor
  .rintro(z|z)
   .rcases(O.all p).mp z with z|⟨j,c,d⟩
    .exact .inl z
    .exact .inr ⟨j,(f j).mpr (.inr c),by rw[B1 (P j c)];exact d⟩
   .exact .inr ⟨i,(f i).mpr (.inl rfl),by rw[BM rfl];exact z⟩
  .rintro(z|⟨j,c,d⟩)
   .exact .inl ((O.all p).mpr (.inl z))
   .by_cases n:j=i
    .rw[BM n]at d;exact .inr d
    .rw[B1 n]at d;exact .inl ((O.all p).mpr (.inr ⟨j,((f j).mp c).resolve_left n,d⟩))
private theorem Ph.chg(S:SR K M A H0 σ H ε)(O:Ph K M A H0 σ H ε F)(N:(i,m)∈M)(R:look ε i=some w)(Q:σ[i]?=some (some v))
 (x:∀p o,H p=some o->(Cr o=true/\p∈F i)\/H1 p=some o)(nd:F'.Nodup)(nw:∀p∈F',p∈F i\/H p=none)(h:Fp K (λp=>(A.B p/\p∉F i)\/p∈F') H1 m w' v F'):
 ∃s,s.ab=A.ab/\s.s0=A.s0/\(∀p,s.B p↔(A.B p/\p∉F i)\/p∈F')/\(∀p o,H p=some o->s.B p->A.B p)/\sL A.B H H1/\SR K M s H0 σ H1 (ε.set i (some w')):=by
 have f:aL M i:=⟨m,N⟩;have J:∀p,p∈F i->A.B p:=λp c=>(O.all p).mpr (.inr ⟨i,f,c⟩);have P:sL A.B H H1:=λp o e=>(x p o e).imp (λz=>⟨z.1,J p z.2⟩) id;have I:∀p o,H p=some o->((A.B p/\p∉F i)\/p∈F')->A.B p:=λp o e z=>by
  rcases z with z|z
  .exact z.1
  .rcases nw p z with z|z
   .exact J p z
   .rw[z]at e;cases e
 have C:∀j p,aL M j->j≠i->p∈F j->p∉F i/\p∉F':=λj p d n c=>by
  have a:p∉F i:=λz=>n (O.ds j i p d f c z);refine⟨a,λz=>?_⟩;rcases nw p z with z|z
  .exact a z
  .obtain⟨o,e,_⟩:=O.has d c;rw[z]at e;cases e
 refine⟨⟨A.ab,λp=>(A.B p/\p∉F i)\/p∈F',A.s0⟩,rfl,rfl,λ_=>bM,I,P,by rw[Kt];exact S.len,λj g d e=>?_,λp o e=>?_,λp z=>?_,S.sl,λj=>if j=i then F' else F j,⟨O.un,λj t g d e=>?_,λj d e=>?_,λj d=>?_,λj k p d L a b=>?_,λj p d c=>?_,λj p d c=>?_,λp=>?_⟩⟩
 .have n:i≠j:=by rintro rfl;exact d f
  rw[aG n]at e;obtain⟨u,E,D⟩:=S.sh j g d e;exact⟨u,E,Rep.chg P I g D⟩
 .rcases x p o (S.sm p o e)with⟨_,z⟩|z
  .rw[O.nw i p f z]at e;cases e
  .exact z
 .obtain⟨o,e⟩:=S.dm p z;rcases x p o e with⟨_,y⟩|y
  .exact(O.na i p f y z).elim
  .exact⟨o,y⟩
 .by_cases n:j=i
  .subst n;have T:=O.un j m t N d;subst T;have:=jo e;subst this;exact⟨v,Q,by rw[BM rfl];exact h⟩
  .rw[aG (Oy n)]at e;obtain⟨u,E,D⟩:=O.val j t g d e;refine⟨u,E,?_⟩;rw[B1 n];refine Fp.chg (G:=λp=>p∈F j) (λp o e=>?_) I t (λp c=>c) D;rcases x p o e with⟨z,y⟩|z
   .exact .inl ⟨z,J p y,λq=>(C j p ⟨t,d⟩ n q).1 y⟩
   .exact .inr z
 .by_cases n:j=i
  .subst n;have:look (ε.set j (some w')) j=some w':=by rw[bq];exact N0 (lT R)
   rw[this]at e;cases e
  .rw[aG (Oy n)]at e;rw[B1 n];exact O.emp j d e
 .by_cases n:j=i
  .rw[BM n];exact nd
  .rw[B1 n];exact O.nd j d
 .by_cases r:j=i
  .by_cases l:k=i
   .rw[r,l]
   .rw[BM r]at a;rw[B1 l]at b;exact((C k p L l b).2 a).elim
  .by_cases l:k=i
   .rw[B1 r]at a;rw[BM l]at b;exact((C j p d r a).2 b).elim
   .rw[B1 r]at a;rw[B1 l]at b;exact O.ds j k p d L a b
 .by_cases n:j=i
  .rw[BM n]at c;rcases nw p c with z|z
   .exact O.nw i p f z
   .exact S.sm.free z
  .rw[B1 n]at c;exact O.nw j p d c
 .by_cases n:j=i
  .rw[BM n]at c;rcases nw p c with z|z
   .exact O.na i p f z
   .exact S.dm.no z
  .rw[B1 n]at c;exact O.na j p d c
 .constructor
  .rintro(⟨z,y⟩|z)
   .rcases(O.all p).mp z with z|⟨j,d,c⟩
    .exact .inl z
    .have n:j≠i:=by rintro rfl;exact y c
     exact .inr ⟨j,d,by rw[B1 n];exact c⟩
   .exact .inr ⟨i,f,by rw[BM rfl];exact z⟩
  .rintro(z|⟨j,d,c⟩)
   .exact .inl ⟨(O.all p).mpr (.inl z),λy=>O.na i p f y z⟩
   .by_cases n:j=i
    .rw[BM n]at c;exact .inr c
    .rw[B1 n]at c;exact .inl ⟨(O.all p).mpr (.inr ⟨j,d,c⟩),(C j p d n c).1⟩
end
end VL
namespace HT
open PySem PySem.Spec PyProof.Rows
section
open PySem.SeqAt
open PySem.AutoSeq1 (wpAny_loadPart')
open PySem.MeetsSeq PySem.MeetsSeq2 PySem.MeetsSeq3
end
section
variable{prog:Program}{w:World}{A:Around}{E:Value->Shared->Prop}{s:Shared}
end
end HT
namespace VL
open PySem PySem.Spec PySem.Calls PyProof.Rows
private theorem ints_get:∀{vs:List Value}{a:List Int},IntsAre vs a->∀(j:Nat)(h:j<vs.length),∃t,vs[j]=.int (a.getD j 0) t
 |_,_,.cons n t _,0,_=>⟨t,rfl⟩
 |_,_,.cons n t r,j+1,h=>by obtain⟨u,e⟩:=ints_get r j (by simpa using h);exact⟨u,by simpa using e⟩
private theorem all_eq:∀(a b:List Int),a.length=b.length->(G2 a.length).all (λj=>a.getD j 0==b.getD j 0)=decide (a=b)
 |[],[],_=>rfl
 |n::a,m::b,h=>by
  have ih:=all_eq a b (by simpa using h);rw[Ar,Z4,Ai,List.all_map];have:((λj=>(n::a).getD j 0==(m::b).getD j 0)∘lb)=λj=>a.getD j 0==b.getD j 0:=by funext j;rfl
  rw[this,ih];show((n==m)&&decide (a=b))=_;by_cases e:n=m<;>by_cases c:a=b<;>simp[e,c]
 |[],_::_,h=>by simp at h
 |_::_,[],h=>by simp at h
private theorem qo:∀{vs:List Value}{a b:List Int},IntsAre vs a->IntsAre vs b->a=b
 |_,_,_,.nil,.nil=>rfl
 |_,_,_,.cons n t r,.cons _ _ c=>by rw[qo r c]
section
variable{A:Around}{s:Shared}
private theorem E5(h:s.heap.IsList l items)(m:s.heap.IsList b a)(k:IntsAre items.toList c)(i:IntsAre a.toList d)(r:A.units<cLine):
 SeqAt.EqAt A s (.ref l) (.ref b) (decide (c=d)):=by
 have p:items.size=c.length:=by rw[<-k.length];simp
 have x:a.size=d.length:=by rw[<-i.length];simp
 by_cases e:l=b
 .subst e;obtain⟨o,y,_,n,hd⟩:=h;obtain⟨C,f,_,D,g⟩:=m;rw[y]at f;cases f;rw[hd]at g;cases g;rw[Bz (qo k i)];exact SeqAt.EqAt.same _
 .refine SeqAt.EqAt.of_refs e ?_;by_cases hz:items.size=a.size
  .have:=SeqAt.RcAt.lists (e:=λj=>c.getD j 0==d.getD j 0) h m hz r λj w v=>by obtain⟨t,B⟩:=ints_get k j (by simpa using w);obtain⟨u,z⟩:=ints_get i j (by simpa using v);rw[show items[j]=items.toList[j]'(by simpa using w) by simp,show a[j]=a.toList[j]'(by simpa using v) by simp,B,z];exact SeqAt.EqAt.int_int _ _ _ _
   rw[p,all_eq c d (by lia)]at this;exact this
  .rw[Ee (λq=>hz (by rw[p,x,q]))];exact SeqAt.RcAt.lists_lengths h m (by simpa using hz) r
end
end VL
namespace HT
open PySem PySem.Spec PyProof.Rows
def ZO(A:Around)(s:Shared)(x y:Value)(c:Bool):Prop:=∀(a:Program)(w:World)(E:Value->Shared->Prop)(Q:Value->Shared->Prop),Q (.bool c) s->wpAny (model a w) A (richCompare .Lt x y) Q E s
inductive Cs(A:Around)(s:Shared):List Value->List Value->Bool->Prop where
 |nn:Cs A s [] [] false
 |nc {y ys}:Cs A s [] (y::ys) true
 |cn {x xs}:Cs A s (x::xs) [] false
 |eq {x y xs ys c} (h:SeqAt.EqAt A s x y true) (r:Cs A s xs ys c):Cs A s (x::xs) (y::ys) c
 |ne {x y xs ys c} (h:SeqAt.EqAt A s x y false) (r:ZO A s x y c):Cs A s (x::xs) (y::ys) c
section
open PySem.SeqAt
open PySem.AutoSeq1 (wpAny_loadPart')
open PySem.MeetsSeq PySem.MeetsSeq2 PySem.MeetsSeq3
end
section
variable{prog:Program}{w:World}{A:Around}{E:Value->Shared->Prop}{s:Shared}
end
end HT
namespace L2
open PySem PySem.Spec PyProof.Rows
section
variable{κ:Type}[DecidableEq κ]
noncomputable def jd(kvs:List (κ×V))(k:κ):Option V:=(kvs.find? λa=>decide (a.1=k)).map (·.2)
noncomputable def putK(kvs:List (κ×V))(k:κ)(v:V):List (κ×V):=
 if(kvs.any λa=>decide (a.1=k))=true then kvs.map (λa=>if a.1=k then(a.1,v)else a)else kvs++[(k,v)]
noncomputable def lU(kvs:List (κ×V))(k:κ):List (κ×V):=kvs.filter λa=>decide (a.1≠k)
private theorem jq{k:κ}(e:p.1=k):jd (p::r) k=some p.2:=by simp[jd,I0,e]
private theorem jr{k:κ}(e:¬p.1=k):jd (p::r) k=jd r k:=by simp[jd,I0,e]
private theorem wK(k:κ):∀kvs:List (κ×V),(kvs.any λa=>decide (a.1=k))=(jd kvs k).isSome
 |[]=>rfl
 |p::r=>by
  rw[Jq];by_cases e:p.1=k
  .simp only[jq e,Bz e,hJ,Option.isSome_some]
  .rw[jr e,Ee e,Yq];exact wK k r
private theorem ju(kvs:List (κ×V))(k:κ)(v:V):(putK kvs k v).length<=kvs.length+1:=by
 unfold putK;split
 .rw[FK];lia
 .rw[DL,Ar,Nk];lia
private theorem iF.m5(r:iF o u):o.isSome=u.isSome:=by
 cases o with
 |none=>cases u with
  |none=>rfl
  |some _=>exact(show False from r).elim
 |some _=>cases u with
  |none=>exact(show False from r).elim
  |some _=>rfl
private theorem iF.getD(r:iF o u)(rd:RelV d d'):RelV (o.getD d) (u.getD d'):=by
 cases o with
 |none=>cases u with
  |none=>exact rd
  |some _=>exact(show False from r).elim
 |some _=>cases u with
  |none=>exact(show False from r).elim
  |some _=>exact r
private theorem KV.val(r:KV kvs vs)(k:κ):iF (jd kvs k) (valueAt vs k):=by
 unfold KV at r
 induction r with
 |nil=>exact FF
 |@cons p q i a h t f=>
  obtain⟨d,g⟩:=h;by_cases e:p.1=k
  .have c:q.1=k:=d.symm.trans e;have b:valueAt (q::a) k=some q.2:=by simp[valueAt,I0,c]
   rw[jq e,b];exact g
  .have c:¬q.1=k:=λz=>e (d.trans z);have b:valueAt (q::a) k=valueAt a k:=by simp[valueAt,I0,c]
   rw[jr e,b];exact f
private theorem KV.any(r:KV kvs vs)(k:κ):(kvs.any λa=>decide (a.1=k))=vs.any λa=>decide (a.1=k):=by
 unfold KV at r
 induction r with
 |nil=>rfl
 |cons h t b=>rw[Jq,Jq,b,h.1]
private theorem KV.repl(r:KV kvs vs)(k:κ)(c:RelV y u):
 KV (kvs.map λa=>if a.1=k then(a.1,y)else a) (vs.map λa=>if a.1=k then(a.1,u)else a):=by
 unfold KV at r⊢
 induction r with
 |nil=>exact .nil
 |@cons p q i g h t d=>
  rw[Fh,Fh];refine .cons ?_ d;obtain⟨b,f⟩:=h;by_cases e:p.1=k
  .rw[BM e,BM (b.symm.trans e)];exact⟨b,c⟩
  .rw[B1 e,B1 (λz=>e (b.trans z))];exact⟨b,f⟩
private theorem KV.put(r:KV kvs vs)(k:κ)(a:RelV y u):KV (putK kvs k y) (stored vs k u):=by
 unfold putK stored;rw[r.any k];by_cases e:(vs.any λb=>decide (b.1=k))=true
 .rw[BM e,BM e];exact r.repl k a
 .rw[B1 e,B1 e];exact Paired.snoc r ⟨rfl,a⟩
private theorem KV.drop(r:KV kvs vs)(k:κ):KV (lU kvs k) (without vs k):=by
 unfold KV at r⊢;unfold lU without
 induction r with
 |nil=>exact .nil
 |@cons p q j i h t d=>
  obtain⟨c,f⟩:=h;rw[SZ,SZ];by_cases e:p.1=k
  .have a:¬decide (p.1≠k)=true:=by simp[e]
   have b:¬decide (q.1≠k)=true:=by simp[c.symm.trans e]
   rw[B1 a,B1 b];exact d
  .have g:¬q.1=k:=λz=>e (c.trans z);have a:decide (p.1≠k)=true:=by simp[e]
   have b:decide (q.1≠k)=true:=by simp[g]
   rw[BM a,BM b];exact .cons ⟨c,f⟩ d
private theorem KV.keys{vs:List (κ×Value)}(r:KV kvs vs):kvs.map (·.1)=vs.map (·.1):=by
 unfold KV at r
 induction r with
 |nil=>rfl
 |cons h t a=>rw[Fh,Fh,a,h.1]
private theorem KV.length{vs:List (κ×Value)}(r:KV kvs vs):kvs.length=vs.length:=Paired.length r
private theorem E6(kvs:List (κ×V))(k:κ):(lU kvs k).length<=kvs.length:=ae _ _
end
private theorem qq(r:RelV (kV k) u):(bD P w).is k u=true:=by
 cases k with
 |inl i=>obtain⟨t,e⟩:=(show∃t,u=Value.int i t from r);subst e;exact v9 P w i t
 |inr x=>obtain⟨t,e⟩:=(show∃t,u=Value.str x t from r);subst e;exact wc P w x t
private theorem uf:∀{a:List Key}{us:List Value},Vals (a.map kV) us->ItemsAre (bD P w) a us
 |[],_,r=>by rw[de]at r;cases r;exact .nil
 |k::a,_,r=>by
  rw[Fh]at r;cases r with
  |cons h t=>exact .cons (qq h) (uf t)
abbrev KT(H:Hp):List (List Key×V)->List (List Key×Addr×Value)->Prop:=Paired λp q=>p.1=q.1/\H q.2.1=some (.tup (p.1.map kV))/\RelV p.2 q.2.2
private theorem KT.val(r:KT H kvs d)(k:List Key):iF (jd kvs k) ((atKey d k).map (·.2)):=by
 induction r with
 |nil=>exact FF
 |@cons p q j a h t g=>
  obtain⟨f,_,i⟩:=h;by_cases e:p.1=k
  .have c:q.1=k:=f.symm.trans e;have b:atKey (q::a) k=some q.2:=by simp[atKey,I0,c]
   rw[jq e,b];exact i
  .have c:¬q.1=k:=λz=>e (f.trans z);have b:atKey (q::a) k=atKey a k:=by simp[atKey,I0,c]
   rw[jr e,b];exact g
private theorem KT.repl(r:KT H kvs c)(k:List Key)(f:RelV y u):
 KT H (kvs.map λb=>if b.1=k then(b.1,y)else b) (c.map (putAt k u)):=by
 induction r with
 |nil=>exact .nil
 |@cons p q l j h t g=>
  rw[Fh,Fh];refine .cons ?_ g;obtain⟨a,d,i⟩:=h;unfold putAt;by_cases e:p.1=k
  .rw[BM e,BM (a.symm.trans e)];exact⟨a,d,f⟩
  .rw[B1 e,B1 (λz=>e (a.trans z))];exact⟨a,d,i⟩
private theorem KT.put(r:KT H kvs a)(k:List Key)(f:H b=some (.tup (k.map kV)))(c:RelV y u):
 KT H (putK kvs k y) (storedH a k b u):=by
 have e:(kvs.any λd=>decide (d.1=k))=(atKey a k).isSome:=by rw[wK,(r.val k).m5,d3]
 unfold putK storedH;rw[e];by_cases q:(atKey a k).isSome=true
 .rw[BM q,BM q];exact r.repl k c
 .rw[B1 q,B1 q];exact Paired.snoc r ⟨rfl,f,c⟩
private theorem KT.keeps(r:KT H kvs c)(d:∀b a,H b=some (.tup a)->H' b=some (.tup a)):KT H' kvs c:=
 Paired.Oe r λ_ _ z=>⟨z.1,d _ _ z.2.1,z.2.2⟩
section
variable{P:Program}{w:World}{H:Hp}{h:Heap}{a:Addr}
private theorem MN(ok:gH P w H h)(e:Rd H a u):bH P w H h a u:=e.ok ok
private theorem nU(b:gH P w H h)(e:Rd H a (.dK kvs)):kvs.length<=sizeLine/\(a==sysModules)=false/\∃vs,KV kvs vs/\h.DictOf (bD P w) a vs:=
 show bH P w H h a (.dK kvs)from MN b e
private theorem wL(b:gH P w H h)(e:H a=some (.dK kvs)):kvs.length<=sizeLine/\(a==sysModules)=false/\∃vs,KV kvs vs/\h.DictOf (bD P w) a vs:=nU b (.inl e)
private theorem qt(d:gH P w H h)(e:H a=some (.tup (b.map kV))):(tupleKind (bD P w)).is h b a:=by obtain⟨_,c,r,o,i,g,n,f⟩:=(show bH P w H h a (.tup (b.map kV))from d a _ e);exact⟨o,c.toArray,n,i,g,f,by simpa using uf r⟩
private theorem ug(f:gH P w H h)(e:Rd H a (.dT kvs)):kvs.length<=sizeLine/\(a==sysModules)=false/\
 ∃c,KT H kvs c/\h.DictOfH (tupleKind (bD P w)) a c:=by
 obtain⟨z,y,c,r,o,v,A,u,s,n,k,j⟩:=(show bH P w H h a (.dT kvs)from MN f e);refine⟨z,y,c,r,o,v,A,u,s,n,k,λx b=>?_,j⟩;have d:∀{l:List (List Key×V)}{m:List (List Key×Addr×Value)},KT H l m->∀x∈m,(tupleKind (bD P w)).is h x.1 x.2.1:=by
  intro l m q
  induction q with
  |nil=>intro x b;exact nomatch b
  |@cons p q C B g t i=>
   intro x b;rcases Do.mp b with e|b
   .subst e;exact qt f (by rw[<-g.1];exact g.2.1)
   .exact i x b
 exact d r x b
private theorem Wg(c:gH P w H h)(e:H a=some (.dT kvs)):kvs.length<=sizeLine/\(a==sysModules)=false/\
 ∃b,KT H kvs b/\h.DictOfH (tupleKind (bD P w)) a b:=ug c (.inl e)
end
def m6(H:Hp)(a:Addr)(y:V)(r:Option V):Prop:=
 (∃c k,Rd H a (.dK c)/\y=kV k/\r=jd c k)\/∃c k b,Rd H a (.dT c)/\y=.ref b/\H b=some (.tup (k.map kV))/\r=jd c k
def E7(H:Hp)(a:Addr)(y v:V)(H':Hp):Prop:=
 (∃c k,H a=some (.dK c)/\y=kV k/\c.length<sizeLine/\H'=upd H a (.dK (putK c k v)))\/
 ∃c k b,H a=some (.dT c)/\y=.ref b/\H b=some (.tup (k.map kV))/\c.length<sizeLine/\H'=upd H a (.dT (putK c k v))
private theorem m6.k{k:Key}(e:H a=some (.dK kvs)):m6 H a (kV k) (jd kvs k):=.inl ⟨kvs,k,.inl e,rfl,rfl⟩
private theorem E7.k{k:Key}(e:H a=some (.dK kvs))(b:kvs.length<sizeLine):E7 H a (kV k) v (upd H a (.dK (putK kvs k v))):=.inl ⟨kvs,k,e,rfl,b,rfl⟩
section
variable{X:Cx}{pins:List (Addr×Obj)}{σ:St}{H:Hp}{s:Shared}{a:Addr}{y v:V}{u r:Value}{o:Option V}{A:Around}{E:Value->Shared->Prop}
private theorem Inv.big(I:Inv X pins σ H s):sysModules<s.heap.objs.size:=by have h:mainGlobals<s.heap.objs.size:=(I.mod.glob.keeps I.bk).lt;exact hW (by decide) h
private theorem uh(B:A.units+1<cLine)(I:Inv X pins σ H s)(g:m6 H a y (some v))(q:RelV y u)(h:∀w' s',Inv X pins σ H s'->RelV v w'->Q w' s'):
 wpAny (model X.prog X.w) A (getItem (.ref a) u) Q E s:=by
 rcases g with⟨f,k,e,m,l⟩|⟨f,k,b,e,m,D,l⟩
 .subst m;obtain⟨z,hd,x,d,n⟩:=nU I.hok e;obtain⟨w',i,c⟩:=iF.some_of (v:=v) (o:=valueAt x k) (by rw[l];exact d.val k);exact wpAny_getItem_of (qq q) n.mapOf i (h w' _ (I.tok _) c)
 .subst m;cases(show u=Value.ref b from q);obtain⟨z,hd,t,d,n⟩:=ug I.hok e;obtain⟨w',i,c⟩:=iF.some_of (v:=v) (o:=(atKey t k).map (·.2)) (by rw[l];exact d.val k);obtain⟨p,C,j⟩:=He.mp i;refine wpAny_getItem_heap (cx B) (qt I.hok D) n C ?_;rw[j];exact h w' _ (I.tok _) c
private theorem JA(m:A.units+1<cLine)(I:Inv X pins σ H s)(g:m6 H a y o)(j:RelV y u)(h:∀s',Inv X pins σ H s'->Q (.bool (!o.isSome)) s'):
 wpAny (model X.prog X.w) A (compareOp .NotIn u (.ref a)) Q E s:=by
 rcases g with⟨d,k,e,f,l⟩|⟨d,k,b,e,f,n,l⟩
 .subst f;obtain⟨z,hd,t,c,i⟩:=nU I.hok e;refine wpAny_notIn_of (qq j) hd i.mapOf ?_;rw[<-(c.val k).m5,<-l];exact h _ (I.tok _)
 .subst f;cases(show u=Value.ref b from j);obtain⟨z,hd,p,c,i⟩:=ug I.hok e;refine wpAny_notIn_heap (cx m) (qt I.hok n) hd i ?_;have q:=(c.val k).m5;rw[d3]at q;rw[<-q,<-l];exact h _ (I.tok _)
private theorem pC(I:Inv X pins σ H s)(f:Ve (H a))(g:Heap.SameBut a s.heap h')(he:∃q,h'.get? a=some q)(d:bH X.prog X.w (upd H a c) h' a c):
 Inv X pins σ (upd H a c) {s with heap:=h',toks:=t'}:=
 I.write (x:=a) (e:=a) f (.inl rfl) (λb q h z=>(g.2 b h).trans z) he d
private theorem uV(z:kvs.length<=sizeLine)(hd:(a==sysModules)=false)(b:KV kvs vs)(dd:h'.DictOf (bD P w) a vs):
 bH P w H' h' a (.dK kvs):=⟨z,hd,vs,b,dd⟩
private theorem Ct(L:A.units+1<cLine)(I:Inv X pins σ H s)(g:E7 H a y v H')(B:RelV y u)(rv:RelV v r)(h:∀s',Inv X pins σ H' s'->Q () s'):
 wpAny (model X.prog X.w) A (setItem (.ref a) u r) Q E s:=by
 rcases g with⟨f,k,e,p,l,t⟩|⟨f,k,b,e,p,F,l,t⟩
 .subst p t;obtain⟨z,hd,K,d,x⟩:=wL I.hok e;have hz:K.length<=sizeLine:=by rw[<-d.length];exact z
  have n:(putK f k v).length<=sizeLine:=by have:=ju f k v;lia
  refine wpAny_setItem_pairs (hsz:=hz) (qq B) x λC j m=>h _ ?_;have M:∃q,C.get? a=some q:=let⟨q,_,_,i,_⟩:=j;⟨q,i⟩
  exact pC I (by rw[e];exact FF) m M (uV n hd (d.put k rv) j)
 .subst p t;cases(show u=Value.ref b from B);obtain⟨z,hd,J,d,x⟩:=Wg I.hok e;have hz:J.length<=sizeLine:=by rw[<-Paired.length d];exact z
  have n:(putK f k v).length<=sizeLine:=by have:=ju f k v;lia
  refine wpAny_setItem_heap (hsz:=hz) (cx L) (qt I.hok F) x λC j m=>h _ ?_;obtain⟨q,S,T,i,R,P,O,_,N⟩:=j;refine pC I (by rw[e];exact FF) m ⟨q,i⟩ ⟨n,hd,_,(d.put k F rv).keeps λc U D=>?_,q,S,T,i,R,P,O,N⟩;rw[ak (Vd D e (λz=>nomatch z))];exact D
end
section
variable{X:Cx}{pins:List (Addr×Obj)}{σ:St}{H:Hp}{s:Shared}{a:Addr}{kvs:List (Key×V)}{k:Key}{u:Value}{A:Around}{E:Value->Shared->Prop}
private theorem Wh(I:Inv X pins σ H s)(e:H a=some (.dK kvs))(d:RelV (kV k) u)(l:jd kvs k=some v)(j:b=[]\/∃x,b=[x])
 (h:∀w' s',Inv X pins σ (upd H a (.dK (lU kvs k))) s'->RelV v w'->Q w' s'):wpAny (model X.prog X.w) A (call (.builtin "dict.pop") (.ref a::u::b)) Q E s:=by
 obtain⟨z,hd,g,c,m⟩:=wL I.hok e;obtain⟨w',p,f⟩:=iF.some_of (v:=v) (o:=valueAt g k) (by rw[<-l];exact c.val k);have y:(keyPart u).isSome=true:=by
  cases k with
  |inl i=>obtain⟨t,q⟩:=(show∃t,u=Value.int i t from d);subst q;rfl
  |inr x=>obtain⟨t,q⟩:=(show∃t,u=Value.str x t from d);subst q;rfl
 have C:argsOk "dict.pop" ⟨.ref a::u::b,[]⟩:=by
  rcases j with q|⟨x,q⟩
  .subst q;exact PySem.F.args_dict_pop_2 _ _
  .subst q;exact PySem.F.args_dict_pop_3 _ _ _
 refine call_meetsIn PySem.F.slot_dict_pop m.typeIs PySem.F.entry_dict_pop C (meets_dict_pop_there (bD X.prog X.w) a (qq d) b j y)
  ⟨g,w',m,by rw[<-c.length];exact z,p,λD n r=>h w' _ ?_ f⟩
 have B:∃q,D.get? a=some q:=let⟨q,_,_,hq,_⟩:=n;⟨q,hq⟩
 exact pC I (by rw[e];exact FF) r B (uV (FV (E6 kvs k) z) hd (c.drop k) n)
end
def Pj(i:Expr):Prop:=∀a b,subscripted i false a b=operate [a,b] (getItem a b)
private theorem JB
 (p:typeLookup (.type T) "__getitem__"=pure (some (.builtin m)))(n:Pj a)
 (h:wpAny (model prog w) A (eval b env) (λo f=>wpAny (model prog w) A (eval a env) (λi c=>c.TypeIs o T/\wpAny (model prog w) A (getItem o i) Q E c) E f) E s):
 wpAny (model prog w) A (eval (.Subscript b a pos) env) Q E s:=by
 refine Subscript_ (Nw h (λo f k=>Nw k (λi c d=>?_) λ_ _ x=>x) λ_ _ x=>x);obtain⟨l,d⟩:=d;unfold subscriptTail;refine DO ?_;rw[getitemInPython_of_ne l.not_modules];refine DO (wpAny_specialOf l p ?_);have g:wpAny (model prog w) A (subscripted a false o i) (λr e=>wpAny (model prog w) A (letTemporaryGo b o r>>=λ_=>pure r) Q E e) E c:=by rw[n o i];exact wpAny_operating (Nw d (λr e j=>DO (wpAny_letTemporaryGo (GE j))) λ_ _ x=>x)
 first
  |exact GE (DO g)
  |exact DO (GE (DO g))
  |exact DO g
private theorem nV{h:St}{y:V}{o:Option V}(I:Inv X c h H s)(g:m6 H a y o):s.TypeIs (.ref a) "dict":=by
 rcases g with⟨d,k,e,_,_⟩|⟨d,k,b,e,_,_,_⟩
 .obtain⟨_,_,j,_,f⟩:=nU I.hok e;exact f.typeIs
 .obtain⟨_,_,i,_,f⟩:=ug I.hok e;exact f.typeIs
def Wi(e d:TE):TE:=λb H Q=>e b H λx f=>d b f λy c=>∃a v,x=.ref a/\m6 c a y (some v)/\Q v c
section
variable{X:Cx}{o i e value:Expr}{pos pos' tpos:Pos}{td ty tv:TE}
private theorem JC(p:X.A.units+1<cLine)(r:PE X o td)(t:PE X i ty)(q:Pj i):PE X (.Subscript o i pos) (Wi td ty):=by intro b s d H Q I h;refine JB PySem.F.slot_dict_getitem.lookup q (bF (r b s d H _ I h) λu j ⟨x,C,z,l,n⟩=>bF (t b j d C _ z n) λE s2 ⟨y,B,f,k,a,v,ex,g,m⟩=>?_);subst ex;obtain rfl:u=Value.ref a:=l;exact⟨nV f g,uh p f g k λD s3 w c=>⟨v,B,w,c,m⟩⟩
end
private theorem wM(h:Heap)(a:sysModules<h.objs.size):bH P w H (h.push {cls:=.type "dict",data:=.dict #[]}) h.objs.size (.dK []):=
 ⟨OF _,NM.mpr (Oy (Hk a)),[],.nil,Heap.DictOf.new h⟩
def Pk:TE:=λ_ H Q=>∀p,H p=none->Q (.ref p) (upd H p (.dK []))
section
variable{X:Cx}{pos:Pos}
private theorem E8:PE X (.Dict [] [] pos) Pk:=λb s c H Q I h=>wpAny_Dict_empty ⟨.ref s.heap.objs.size,_,I.laid (a:=s.heap.objs.size) (o:=.dK []) (t':=s.toks) (λ_ _ q=>Bi _ q) (BY _) (wM s.heap I.big),rfl,h _ (I.hok.fresh (BY _))⟩
end
def uW:List (TE×TE)->St->Hp->(List (V×V)->Hp->Prop)->Prop
 |[],_,H,Q=>Q [] H
 |(tk,tv)::r,σ,H,Q=>tk σ H λx H1=>tv σ H1 λy b=>uW r σ b λps a=>Q ((x,y)::ps) a
abbrev VV:List (V×V)->List (Value×Value)->Prop:=Paired λp q=>RelV p.1 q.1/\RelV p.2 q.2
def Wj(X:Cx)(pos:Pos)(c:List (Option Expr))(a:List Expr)(i:List (TE×TE)):Prop:=
 ∀(b:List (Addr×Obj))(s:Shared)(d:St)(H:Hp)(Q:List (V×V)->Hp->Prop),Inv X b d H s->uW i d H Q->
  wpAny (model X.prog X.w) X.A (evalPairs (pairTrees c a X.env pos)) (λg h=>∃e f,Inv X b d f h/\VV e g/\Q e f) X.xe s
private theorem Au:Wj X pos [] [] []:=λa s b H Q I h=>pairTrees_nil_walk ⟨[],H,I,.nil,h⟩
private theorem wN(t:PE X k e)(q:PE X v d)(r:Wj X pos f vs g):
 Wj X pos (some k::f) (v::vs) ((e,d)::g):=λa s b H Q I h=>
 pairTrees_cons_walk (bF (t a s b H _ I h) λu i ⟨x,D,A,l,o⟩=>bF (q a i b D _ A o) λF s2 ⟨y,C,z,j,n⟩=>bF (r a s2 b C _ z n) λE s3 ⟨p,B,w,c,m⟩=>⟨(x,y)::p,B,w,.cons ⟨l,j⟩ c,m⟩)
noncomputable def gK(kvs a:List (Key×V)):List (Key×V):=a.foldl (λb c=>putK b c.1 c.2) kvs
private theorem KV.merge:∀{a:List (Key×V)}{b:List (Key×Value)}{kvs:List (Key×V)}{vs:List (Key×Value)},KV a b->KV kvs vs->KV (gK kvs a) (merged vs b):=by
 intro a b kvs vs r;unfold KV at r
 induction r generalizing kvs vs with
 |nil=>intro q;exact q
 |@cons p q g f h t d=>
  intro c;have e:KV (putK kvs p.1 p.2) (stored vs q.1 q.2):=by have:=c.put p.1 h.2;rw[<-h.1];exact this
  exact d e
private theorem kg:∀(a kvs:List (Key×V)),(gK kvs a).length<=kvs.length+a.length
 |[],kvs=>by show kvs.length<=kvs.length+0;lia
 |p::r,kvs=>by have h1:=kg r (putK kvs p.1 p.2);have b:=ju kvs p.1 p.2;show(gK (putK kvs p.1 p.2) r).length<=_;rw[Ar];lia
private theorem qu:∀{kvs:List (Key×V)}{ws:List (Value×Value)},VV (kvs.map λe=>(kV e.1,e.2)) ws->∃d,Carries (bD P w) ws d/\KV kvs d
 |[],_,r=>by rw[de]at r;cases r;exact⟨[],FF,.nil⟩
 |p::kvs,_,r=>by
  rw[Fh]at r;cases r with
  |@cons a b i bs h t=>obtain⟨d,c,q⟩:=qu (P:=P) (w:=w) t;obtain⟨g,f⟩:=b;exact⟨(p.1,f)::d,⟨qq h.1,rfl,c⟩,.cons ⟨rfl,h.2⟩ q⟩
def Wk(f:List (TE×TE)):TE:=λd H Q=>∀p,H p=none->uW f d (upd H p (.dK [])) λe c=>c p=some (.dK [])/\∃a:List (Key×V),e=a.map (λb=>(kV b.1,b.2))/\a.length<=15/\Q (.ref p) (upd c p (.dK (gK [] a)))
private theorem Av(h:Wj X pos b d k)(i:b.all (·.isSome)=true)(y:b.length=d.length)(C:b≠[])
 (F:b.length<=15):PE X (.Dict b d pos) (Wk k):=by
 intro f s n H Q I q;have x:=I.hok.fresh (BY s.heap.objs.size);have J:=I.laid (a:=s.heap.objs.size) (o:=.dK []) (h':=s.heap.push {cls:=.type "dict",data:=.dict #[]}) (t':=s.toks) (λ_ _ q=>Bi _ q) (BY _) (wM s.heap I.big);refine wpAny_Dict_walk (knd:=bD X.prog X.w) i y C F (bF (h f _ n _ _ J (q _ x)) λK s2 ⟨L,O,l,j,e,g,D,M,u⟩=>?_);subst D;obtain⟨p,c,r⟩:=qu (P:=X.prog) (w:=X.w) j;obtain⟨z,hd,N,t,E⟩:=wL l.hok e;cases t;refine⟨p,c,E,λh' m v=>⟨.ref s.heap.objs.size,_,?_,rfl,u⟩⟩;have hz:(gK [] g).length<=sizeLine:=by have B:=kg g [];rw[Nk]at B;rw[sizeLine_eq];lia
 have A:∃q,h'.get? s.heap.objs.size=some q:=let⟨q,_,_,hq,_⟩:=m;⟨q,hq⟩
 exact pC l (by rw[e];exact FF) v A (uV hz hd (r.merge .nil) m)
structure M1(X:Cx)(o:Expr)(m:Str)(apos:Pos)(e:Expr)(cpos:Pos):Prop where
 base:attributeBase o m X.env (eval o X.env)=eval o X.env
 few:((backTo cpos (starEach [e] X.env)).all (λx=>!x.1)&&(backToKw cpos (keywordEach [] X.env)).all (λx=>x.1.isSome)
  &&decide (([e]:List Expr).length+([]:List Keyword).length+(if([]:List Keyword).isEmpty then 0 else 1)<30))=true
 line:(apos.endLine==cpos.line)=true
 trees:backTo cpos (starEach [e] X.env)=[(false,eval e X.env)]
structure M2(X:Cx)(o:Expr)(m:Str)(apos:Pos)(e f:Expr)(cpos:Pos):Prop where
 base:attributeBase o m X.env (eval o X.env)=eval o X.env
 few:((backTo cpos (starEach [e,f] X.env)).all (λx=>!x.1)&&(backToKw cpos (keywordEach [] X.env)).all (λx=>x.1.isSome)
  &&decide (([e,f]:List Expr).length+([]:List Keyword).length+(if([]:List Keyword).isEmpty then 0 else 1)<30))=true
 line:(apos.endLine==cpos.line)=true
 trees:backTo cpos (starEach [e,f] X.env)=[(false,eval e X.env),(false,eval f X.env)]
def ZP(H:Hp)(a:Addr):Prop:=(∃b,Rd H a (.dK b))\/∃b,Rd H a (.dT b)
private theorem E9{k:St}(I:Inv X f k H s)(d:ZP H a):
 s.TypeIs (.ref a) "dict"/\(∀b,Value.ref a=.ref b->∃c,s.heap.get? b=some c/\c.dict=none)/\(a==sysModules)=false:=by
 rcases d with⟨h,e⟩|⟨h,e⟩
 .obtain⟨_,hd,m,_,g⟩:=nU I.hok e;refine⟨g.typeIs,λb q=>?_,hd⟩;cases q;obtain⟨c,_,_,j,i,_⟩:=g;exact⟨c,j,i.2.1⟩
 .obtain⟨_,hd,l,_,g⟩:=ug I.hok e;refine⟨g.typeIs,λb q=>?_,hd⟩;cases q;obtain⟨c,_,_,j,i,_⟩:=g;exact⟨c,j,i.2.1⟩
section
variable{X:Cx}{pins:List (Addr×Obj)}{σ:St}{H:Hp}{s:Shared}{a:Addr}{y d:V}{u r:Value}{o:Option V}{A:Around}{E:Value->Shared->Prop}
private theorem Pn(p:A.units+1<cLine)(I:Inv X pins σ H s)(g:m6 H a y o)(m:RelV y u)(h:∀w' s',Inv X pins σ H s'->RelV (o.getD .aN) w'->Q w' s'):
 wpAny (model X.prog X.w) A (call (.builtin "dict.get") [.ref a,u]) Q E s:=by
 rcases g with⟨i,k,e,j,l⟩|⟨i,k,b,e,j,q,l⟩
 .subst j;obtain⟨z,hd,t,c,f⟩:=nU I.hok e;refine call_meetsIn dv f.typeIs PySem.F.entry_dict_get (PySem.F.args_dict_get_2 _ _) (meets_dict_get (bD X.prog X.w) a (qq m) hd) ⟨_,f.mapOf,h _ _ (I.tok _) ?_⟩;rw[l];exact(c.val k).getD rfl
 .subst j;cases(show u=Value.ref b from m);obtain⟨z,hd,n,c,f⟩:=ug I.hok e;refine call_meetsIn dv f.typeIs PySem.F.entry_dict_get (PySem.F.args_dict_get_2 _ _) (meetsH_dict_get (tupleKind (bD X.prog X.w)) a b hd) ⟨cx p,k,n,qt I.hok q,f,h _ _ (I.tok _) ?_⟩;rw[l];exact(c.val k).getD rfl
end
def Po(f e:TE):TE:=λb H Q=>f b H λx d=>∃a,x=.ref a/\ZP d a/\e b d λy c=>∃o,m6 c a y o/\Q (o.getD .aN) c
def Pp(g f:TE):TE:=λc H Q=>g c H λx e=>∃a,x=.ref a/\ZP e a/\f c e λy d=>∃b k v,d a=some (.dK b)/\y=kV k/\jd b k=some v/\Q v (upd d a (.dK (lU b k)))
section
variable{X:Cx}{o e f:Expr}{apos cpos:Pos}{td ty tx:TE}
private theorem Fb(v:X.A.units+1<cLine)(w:PE X o td)(he:PE X e ty)(m:M1 X o "get" apos e cpos):PE X (.Call (.Attribute o "get" apos) [e] [] cpos) (Po td ty):=by intro b s i H Q I h;refine wpAny_Call_method m.base m.few m.line PySem.F.plainAttrs_dict dv PySem.F.type_dict_get (bF (w b s i H _ I h) λu n ⟨x,D,j,q,a,ex,d,t⟩=>?_);subst ex;obtain rfl:u=Value.ref a:=q;obtain⟨l,k,_⟩:=E9 j d;refine⟨l,k,?_⟩;rw[m.trees];refine Yf rfl (bc (Calls.spliced_cons (bF (he b n i D _ j t) λK s2 ⟨y,C,B,p,J,g,r⟩=>Calls.spliced_nil ?_)));exact Pn v B g p λE s3 z c=>⟨_,C,z,c,r⟩
private theorem Fc(A:PE X o td)(he:PE X e ty)(m:M1 X o "pop" apos e cpos):PE X (.Call (.Attribute o "pop" apos) [e] [] cpos) (Pp td ty):=by intro b s g H Q I h;refine wpAny_Call_method m.base m.few m.line PySem.F.plainAttrs_dict PySem.F.slot_dict_pop PySem.F.type_dict_pop (bF (A b s g H _ I h) λu p ⟨x,J,i,r,a,ex,d,w⟩=>?_);subst ex;obtain rfl:u=Value.ref a:=r;obtain⟨n,j,_⟩:=E9 i d;refine⟨n,j,?_⟩;rw[m.trees];refine Yf rfl (bc (Calls.spliced_cons (bF (he b p g J _ i w) λL s2 ⟨y,M,E,q,z,k,v,C,B,l,t⟩=>Calls.spliced_nil ?_)));subst B;exact Wh E C q l (.inl rfl) λK s3 D c=>⟨v,_,D,c,t⟩
end
section
variable{X:Cx}{pins:List (Addr×Obj)}{σ:St}{H:Hp}{s:Shared}{a:Addr}{kvs:List (Key×V)}{A:Around}{E:Value->Shared->Prop}
private theorem Fd(I:Inv X pins σ H s)(e:Rd H a (.dK kvs))(h:∀p s',H p=none->Inv X pins σ (upd H p (.dK kvs)) s'->Q (.ref p) s'):wpAny (model X.prog X.w) A (call (.type "dict") [.ref a]) Q E s:=by obtain⟨z,hd,j,c,g⟩:=nU I.hok e;refine kt_call_dict hd g (by rw[<-c.length];exact z) λk i f=>?_;refine h _ _ (I.hok.fresh (BY _)) (I.laid (a:=s.heap.objs.size) (o:=.dK kvs) (t':=s.toks) (λb q d=>?_) (BY _) (uV z (NM.mpr (Oy (Hk I.big))) c i));exact(f.2 b (Hk (FC d))).trans (Bi _ d)
end
section
variable{X:Cx}{pins:List (Addr×Obj)}{σ:St}{H:Hp}{s:Shared}{a:Addr}{y:V}{u:Value}{A:Around}{E:Value->Shared->Prop}
end
end L2
namespace L2
open PySem PySem.Spec PyProof.Rows PySem.W
variable{X:Cx}
private theorem Fe(K:KdlSrc prog w T r d n P z)(C:A.handled=none)(p:z s.heap)(B:n<=sizeLine)
 (h:∀(g:Heap)(i:Nat)(a:Array Value),s.heap.objs.size<g.objs.size->(∀b o,s.heap.get? b=some o->g.get? b=some o)->ItemsOf P a n->R a.toList {s with heap:=g,toks:=i}):wpAny (model prog w) A (collect (.ref r)) R E s:=by
 have v:=K.there _ p;unfold collect;refine DO (wpAny_runValue (codeAny_builtin entry_proto_collect' ?_));rw[Around.under_plainId PySem.F.plain_proto_collect _];show wpAny _ A.in1 (newList []>>=λl=>again (.builtin "list.__iadd__" ⟨[l,.ref r],[]⟩)) _ _ s;refine DO (SU ?_);refine GE ⟨plainId_quiet PySem.F.plain_list_iadd _,codeAny_builtin entry_list_iadd' ?_⟩;rw[Around.under_plainId PySem.F.plain_list_iadd _];have u:(s.heap.push {cls:=.type "list",data:=.seq ([]:List Value).toArray}).get? s.heap.objs.size=some {cls:=.type "list",data:=.seq #[]}:=Hb _ rfl;show wpAny _ A.in1 (Builtin.List.listExtendWith (.ref s.heap.objs.size) (.ref r) (.ref s.heap.objs.size)) _ _ _;have m:=kdl_extend (A:=A) (s:={s with heap:=s.heap.push {cls:=.type "list",data:=.seq ([]:List Value).toArray}}) (R:=λ(q:Result)(t:Shared)=>∃(g:Heap)(i:Nat)(a:Array Value)(c:Nat),q=.ok (.ret (.ref s.heap.objs.size))/\t={s with heap:=g,toks:=i}/\
  (∀b o,s.heap.get? b=some o->g.get? b=some o)/\g.get? s.heap.objs.size=some {cls:=.type "list",dict:=none,data:=.seq a c,slots:= #[]}/\ItemsOf P a n) K C (K.keep _ _ p λb _ o e=>Bi _ e) s.heap.objs.size (aw v.1) (aw v.2) (.ref s.heap.objs.size) 0 u
  (λg i a c k j a2=>⟨g,i,a,c,rfl,rfl,λb o e=>k b o (Hk (FC e)) (Bi _ e),j,a2⟩) B
 refine Nw m (λf t x=>?_) λe t x=>?_
 .cases f with
  |done f=>
   obtain⟨g,i,a,c,e,rfl,k,j,a2⟩:=x;cases e;show wpAny _ A (load s.heap.objs.size>>=_) _ _ _
   exact DO (wpAny_load j (GE (h g i a (FC j) k a2)))
  |again H=>refine⟨x.1,T2 x.2 λq s2 y=>?_⟩;obtain⟨g,i,a,c,rfl,rfl,k,j,a2⟩:=y;show wpAny _ A (load s.heap.objs.size>>=_) _ _ _;exact DO (wpAny_load j (GE (h g i a (FC j) k a2)))
 .obtain⟨_,_,_,_,D,_⟩:=x;cases D
noncomputable def tx(l:List Nat):Str:=⟨l.toArray⟩
private theorem kJ(x:Str):tx x.cps.toList=x:=by unfold tx;rw[Array.toArray_toList]
private theorem yk(l:List Nat):(tx l).length=l.length:=rfl
private theorem pR(l:List Nat):(tx l).cps.toList=l:=rfl
private theorem kK(h:tx a=tx b):a=b:=by have:=IR (λx=>x.cps.toList) h;exact this
private theorem eX(a b:List Nat):tx a++tx b=tx (a++b):=by show Str.mk (a.toArray++b.toArray)=Str.mk (a++b).toArray;congr 1;exact List.append_toArray a b
private theorem m7(x:Str):x.length=x.cps.toList.length:=by unfold Str.length;exact(Ju).symm
noncomputable def sM(l:List Nat)(a b:Option Int):List Nat:=(l.drop (HT.cy l.length 0 a)).take (HT.cy l.length l.length b -HT.cy l.length 0 a)
section
variable{X:Cx}
private theorem Pq(a b:Option Int)(n:Nat):Builtin.Str.strSliceIndices a b 1 n=(G2 (HT.cy n n b -HT.cy n 0 a)).map (HT.cy n 0 a+·):=by obtain⟨d,c,f⟩:=lJ a b n;have e:Builtin.Str.strSliceIndices a b 1 n=sliceRange (sliceBounds a b none n).1 (sliceBounds a b none n).2.1 1:=rfl;rw[e,d,c,sliceRange_one]
private theorem Ff(x:Str)(a c:Option Int):Txt.slice x a c=tx (sM x.cps.toList a c):=by
 unfold Txt.slice;rw[Pq,pick_run];have b:=m7 x;unfold sM;rw[<-b];split
 .rename_i h
  simp only[Qr,Yp,GT,FK,eP]at h;rw[h];have z:HT.cy x.length 0 a=0\/x.length=0:=by
   have:HT.cy x.length x.length c<=x.length:=by
    unfold HT.cy;split
    .exact BY _
    .split<;>lia
   lia
  rcases z with z|z
  .rw[z,YP,List.take_of_length_le (by rw[b];exact BY _),kJ]
  .have:x.cps.toList=[]:=Kb.mp (by rw[<-b,z]);rw[this,z];simp only[List.drop_nil,List.take_zero];rw[<-this,kJ]
 .rfl
private theorem Pr:MC X (λx b c H Q=>∃z:Str,x=.str z/\z.length<=sizeLine/\Q (.str (tx (sM z.cps.toList b c))) H):=by
 intro a s m H x v o n b c p Q I r g y f h;obtain⟨z,rfl,hz,q⟩:=h;obtain⟨t,rfl⟩:=r;refine⟨"str",_,PySem.F.slot_str_getitem.lookup,typeIs_str _ _ _,?_⟩;have d:∀l u:Option (Int×Tok),o=partValue l->n=partValue u->b=l.map (·.1)->c=u.map (·.1)->wpAny (model X.prog X.w) X.A (getItem (.str z t) (.ref p)) (EP X a m Q) X.xe s:=λl u E D C B=>by
  refine wpAny_getItem_str_slice (l:=l) (u:=u) (st:=none) (by rw[E,D]at g;exact g) rfl ?_;refine post_val_or_str ?_;have e:(if((none:Option (Int×Tok)).map (·.1)).getD 1==1&&(slicePicked z l u none).length==z.length then z else⟨((slicePicked z l u none).filterMap (z.cps[·]?)).toArray⟩)=Txt.slice z b c:=by rw[C,B];rfl
  rw[e];exact⟨FV (Txt.slice_le z _ _) hz,λJ k=>⟨.str (Txt.slice z b c),H,I.tok _,⟨_,rfl⟩,by rw[Ff];exact q⟩⟩
 cases y with
 |none=>
  cases f with
  |none=>exact d none none rfl rfl rfl rfl
  |int j u=>exact d none (some (j,u)) rfl rfl rfl rfl
 |int i w=>
  cases f with
  |none=>exact d (some (i,w)) none rfl rfl rfl rfl
  |int j u=>exact d (some (i,w)) (some (j,u)) rfl rfl rfl rfl
private theorem Cu:cj X (.type "str") (λa H Q=>(∃x,a=[.str x]/\Q (.str x) H)):=by intro b s d H a e Q I r h;obtain⟨x,rfl,q⟩:=h;obtain⟨u,rfl,c⟩:=vals1 r;obtain⟨t,rfl⟩:=c;exact PySem.P.str_of_str ⟨.str x,H,I,⟨_,rfl⟩,q⟩
private theorem Cv:cj X (.type "int") (λa H Q=>(∃x n,a=[.str x]/\PySem.intText? x=some n/\x.length<=640/\Q (.int n) H)):=by intro b s f H a g Q I r h;obtain⟨x,n,rfl,e,d,q⟩:=h;obtain⟨u,rfl,c⟩:=vals1 r;obtain⟨t,rfl⟩:=c;exact PySem.W.KIN.call_text e d ⟨.int n,H,I.tok _,⟨_,rfl⟩,q⟩
private theorem Cw{α:Type}(l:List (Array α)):∀a:Array α,(l.foldl (·++·) a).toList=a.toList++(l.map Z3).flatten:=by
 induction l with
 |nil=>intro a;simp
 |cons x l b=>intro a;rw[fe,b];simp
private theorem JE:lH X (binaryOp .Mult) (λx y H Q=>∃(z:Str)(k:Int),x=.str z/\y=.int k/\0<=k/\k<=1000/\z.length<=1000/\Q (.str (tx (A0 k.toNat z.cps.toList).flatten)) H):=by
 intro a s g H x y v u Q I d c h;obtain⟨z,k,rfl,rfl,f,l,b,q⟩:=h;obtain⟨t,rfl⟩:=d;obtain⟨j,rfl⟩:=c;obtain⟨n,rfl⟩:=Ki f;refine SB.mul ⟨?_,λm _=>?_,λ_ _=>?_⟩ λi k=>⟨.str _,H,I.tok _,⟨_,rfl⟩,?_⟩
 .rw[Ee (by lia),Ee (by lia)];rfl
 .have o:=YX b (show n<=1000 by lia);have:((z.length:Nat):Int)<=(2^63 -1)/((n:Nat):Int):=Int.le_ediv_of_mul_le (by omega) (by rw[<-YG];lia);lia
 .unfold Builtin.Str.tooLong;refine Ee ?_;rw[sizeLine_eq];have:=YX b (show n<=1000 by lia);show¬z.length*n>_;lia
 .have e:Txt.mul z ((n:Nat):Int)=tx (A0 n z.cps.toList).flatten:=by
   unfold Txt.mul;split
   .rw[show n=0 by lia];rfl
   .split
    .rename_i h
     rw[UV,GT,GT]at h;rcases h with h|h
     .rw[show n=1 by lia,List.replicate_one,List.flatten_singleton,kJ]
     .have:z.cps.toList=[]:=Kb.mp (by rw[<-m7,h]);rw[this,show(A0 n ([]:List Nat)).flatten=[] by simp,<-this,kJ]
    .unfold tx;congr 1;apply ej.mp;rw[Cw];simp
  rw[LA]at q;rw[e];exact q
private theorem Cy:Yi X "str.startswith" (λx d H Q=>∃(z y:Str)(i:Nat),x=.str z/\d=[.str y,.int i]/\i<=z.length/\Q (.bl (y.cps.toList.isPrefixOf (z.cps.toList.drop i))) H):=by
 intro f s p H x d v u Q I k r h;obtain⟨z,y,i,rfl,rfl,n,q⟩:=h;obtain⟨t,rfl⟩:=k;obtain⟨A,w,rfl,m,l⟩:=vals2 r;obtain⟨j,rfl⟩:=m;obtain⟨g,rfl⟩:=l;refine call_gives PySem.F.slot_str_startswith (typeIs_str _ _ _) PySem.F.entry_str_startswith (PySem.F.args_str_startswith_3 _ _ _) (gives_str_startswith_from z y i t j g) ?_;refine⟨.bl _,H,I,rfl,?_⟩;have e:fromIndex z.length (i:Int)=i:=by unfold fromIndex;lia
 rw[e];have o:(decide (i+y.length<=z.length)&&Builtin.Str.subAt z y i)=y.cps.toList.isPrefixOf (z.cps.toList.drop i):=by
  rw[W1,AC,Gc,c0,List.prefix_iff_eq_take];unfold Builtin.Str.subAt;rw[GT,<-ej,Array.toList_extract,m7 y,m7 z];have hz:i<=z.cps.toList.length:=by rw[<-m7];exact n
  generalize z.cps.toList=a at*;generalize y.cps.toList=b at*;rw[List.extract_eq_take_drop,d4];constructor
  .rintro⟨B,c⟩;exact c.symm
  .intro c;refine⟨?_,c.symm⟩;have:=IR J9 c;rw[TK,WV]at this;lia
 rw[o];exact q
end
end L2
set_option genSizeOf false
set_option genInjectivity false
namespace VL
open PySem PySem.Spec
open PyProof.Rows hiding St
open L2
inductive BI where
 |len|abs|max2|all|list|Cz|int|str|dict
 deriving DecidableEq
inductive CE where
 |var (i:Nat)|int (i:Int)|bl (b:Bool)|str (x:Str)|aN|Dz (n:String)|glob (g:Nat)
 |bin (op:Operator) (a b:CE)|neg (a:CE)|not (a:CE)
 |cmp (op:CmpOp) (a b:CE)
 |and (as:List CE)|or (as:List CE)|ite (c a b:CE)
 |tup (as:List CE)|lst (as:List CE)
 |ix (a i:CE)|sl (a lo hi:CE)
 |call (f:Nat) (as:List CE)|blt (b:BI) (as:List CE)|bits (a:CE)
 |comp (ts:List Nat) (one:Bool) (n:Nat) (it:CE) (c:CE) (e:CE)
 |pT (as:List CE)|yf (a:CE)
 |pop (i:Nat)
 |own (i:Nat) (π:List j5)|lD (i g f:Nat) (as:List CE)
 |slt (a lo hi:CE)|Ug (a b c:CE)|MO (a:CE) (n:Nat) (x:Str)
 |Ib (i g f:Nat) (as:List CE)|JF (i g f:Nat) (as:List CE)|fst (as:List CE)|fmt (a:CE)
 |Uh (a b:CE)|Ui (x:Str) (a:CE)
 |Uj (i:Nat)|Uk (ks:List Str) (vs:List Int) (k:CE)
 |CA (a:CE) (g:Nat)|Ul (a:CE)|yR (g f:Nat) (a:CE) (as:List CE)
inductive CS where
 |set (i:Nat) (e:CE)|DA (ts:List Nat) (e:CE)|par (ts:List Nat) (es:List CE)
 |app (i:Nat) (e:CE)|put (i:Nat) (k e:CE)|sN (j:Nat) (e:CE)
 |ret (e:CE)|iff (c:CE) (a b:List CS)|Ic (c:CE) (b:List CS)
 |fr (ts:List Nat) (one:Bool) (it:CE) (b:List CS)
 |brk|raise (c:Nat) (e:CE)
 |MP (i:Nat) (π:List j5) (e:CE)|Fg (i n:Nat) (e:CE)
 |MQ (e:CE)|DB (e:CE)|Um (c:CE) (a b:List CS)|Wl (c:CE) (b:List CS)|Pu (i:Nat) (e:CE)
 |Aw
 |Pw (is:List Nat) (b:List CS)
 |Wm (i:Nat)
 |OW (i:Nat) (π:List j5) (e:CE)|Wn (i n:Nat) (e:CE)|Wo (c:CE) (a b:List CS)|Wq (e:CE)|Uo (i:Nat) (k e:CE)
 |Wr (j i g y:Nat) (e:CE)
 |Ws (i:Nat) (k:CE)|Px (is:List Nat) (b:List CS)
def Wt:W->W->(W->Prop)->Prop
 |.int i,.int j,Q=>Q (.int (i+j))
 |.lst a,.lst b,Q=>a.length+b.length<=sizeLine/\Q (.lst (a++b))
 |.tup a,.tup b,Q=>a≠[]/\a.length+b.length<=sizeLine/\Q (.tup (a++b))
 |.str a,.str b,Q=>a.length+b.length<=sizeLine/\Q (.str (a++b))
 |_,_,_=>False
def Wu:W->W->(W->Prop)->Prop
 |.int i,.int j,Q=>IntMulOk i j/\Q (.int (i*j))
 |.lst a,.int k,Q=> -(2^63)<=k/\k<2^63/\a.length*k.toNat<=sizeLine/\Q (.lst (A0 k.toNat a).flatten)
 |.str a,.int k,Q=>(0<=k/\k<=1000)/\a.length<=1000/\Q (.str (tx (A0 k.toNat a.cps.toList).flatten))
 |_,_,_=>False
def Yr(C:Int->Int->Prop)(g:Int->Int->Int):W->W->(W->Prop)->Prop
 |.int i,.int j,Q=>C i j/\Q (.int (g i j))
 |_,_,_=>False
def Wv:W->W->(W->Prop)->Prop
 |.int i,.int j,Q=>Q (.int (i -j))
 |_,_,_=>False
def gM:Operator->W->W->(W->Prop)->Prop
 |.Add=>Wt
 |.Sub=>Wv
 |.Mult=>Wu
 |.FloorDiv=>Yr i7 λi j=>i.fdiv j
 |.Mod=>Yr (λ_ j=>j≠0) λi j=>i.fmod j
 |.Pow=>Yr Ed λi j=>i^j.toNat
 |_=>λ_ _ _=>False
noncomputable def lE:Nat->W->Bool
 |_,.int _=>true
 |_,.str x=>PyData.strOk x
 |_,.aN=>true
 |n+1,.lst l=>l.all (lE n)
 |n+1,.tup l=>l.all (lE n)
 |_,_=>false
noncomputable def MR:Nat->W->Bool
 |_,.bl _=>true
 |_,.str x=>PyData.strOk x
 |_,.aN=>true
 |n+1,.lst l=>l.all (MR n)
 |n+1,.tup l=>l.all (MR n)
 |_,_=>false
noncomputable def v5(j:Str):W->Bool
 |.str i=>decide (i=j)
 |_=>false
noncomputable def dH(j:Str):List W->List W->Option W
 |x::a,w::ws=>if v5 j x=true then some w else dH j a ws
 |_,_=>none
noncomputable def nW(j:Str)(a:List W):List W:=a.filter λx=>!v5 j x
noncomputable def lV(j:Str):List W->List W->List W
 |x::a,w::ws=>if v5 j x=true then lV j a ws else w::lV j a ws
 |_,_=>[]
noncomputable def Ww:W->Bool
 |.dct _ _=>true
 |_=>false
def ZQ(a:Bool):W->W->(W->Prop)->Prop
 |.int i,.int j,Q=>Q (.bl (if a then !decide (i=j)else decide (i=j)))
 |.str i,.str j,Q=>Q (.bl (if a then !decide (i=j)else decide (i=j)))
 |.bl i,.bl j,Q=>Q (.bl (if a then !decide (i=j)else decide (i=j)))
 |.dct d ws,.dct c e,Q=>(a=true/\d=c/\ws=e/\ws.all (lE 9)=true)/\Q (.bl false)
 |x,y,Q=>((lE 9 x=true/\lE 9 y=true)\/(MR 9 x=true/\MR 9 y=true)\/(lE 60 x=true/\lE 60 y=true))/\∀b:Bool,(b=true↔x=y)->Q (.bl (if a then !b else b))
def Fi(p:Int->Int->Bool):W->W->(W->Prop)->Prop
 |.int i,.int j,Q=>Q (.bl (p i j))
 |_,_,_=>False
def wLt:W->W->(W->Prop)->Prop
 |.int i,.int j,Q=>Q (.bl (decide (i<j)))
 |_,_,_=>False
def ZR(a:Bool)(Q:W->Prop):W->Prop
 |.aN=>Q (.bl (!a))
 |.bl _|.int _|.str _|.lst _|.tup _|.err _=>Q (.bl a)
 |_=>False
def ZS(a:Bool)(x:W):W->(W->Prop)->Prop
 |.aN,Q=>ZR a Q x
 |_,_=>False
def wIn:W->W->(W->Prop)->Prop
 |.str i,.str j,Q=>∃c,i=tx [c]/\Q (.bl (decide (c∈j.cps.toList)))
 |.str i,.lst l,Q=>∃a:List Str,l=a.map W.str/\Q (.bl (decide (i∈a)))
 |.str i,.tup l,Q=>∃a:List Str,l=a.map W.str/\Q (.bl (decide (i∈a)))
 |_,_,_=>False
def Wx:W->W->(W->Prop)->Prop
 |.lst a,.lst b,Q=>∃(c:List Int)(l:List (List Int)),a=c.map W.int/\b=l.map (λm=>W.lst (m.map W.int))/\Q (.bl (!decide (c∈l)))
 |.str j,.dct d ws,Q=>Q (.bl (!(dH j d ws).isSome))
 |_,_,_=>False
def e9:CmpOp->W->W->(W->Prop)->Prop
 |.Eq=>ZQ false
 |.NotEq=>ZQ true
 |.Lt=>wLt
 |.LtE=>Fi λi j=>decide (i<=j)
 |.Gt=>Fi λi j=>decide (j<i)
 |.GtE=>Fi λi j=>decide (j<=i)
 |.Is=>ZS false
 |.IsNot=>ZS true
 |.In=>wIn
 |.NotIn=>Wx
def MS:CmpOp->W->W->(W->Prop)->Prop
 |.Lt=>Fi λi j=>decide (i<j)
 |o=>e9 o
def Up:W->W->(W->Prop)->Prop
 |.lst l,.int i,Q=>∃w,jg l i=some w/\Q w
 |.tup l,.int i,Q=>∃w,jg l i=some w/\Q w
 |.eE a,.int i,Q=>∃n,jg a i=some n/\Q (.int n)
 |.str x,.int i,Q=>x.length<=sizeLine/\∃c,jg x.cps.toList i=some c/\Q (.str (tx [c]))
 |.dct b ws,.str j,Q=>∃w,dH j b ws=some w/\Q w
 |_,_,_=>False
noncomputable def Wy:W->Bool
 |.str _=>true
 |_=>false
def Py:W->W->W->(W->Prop)->Prop
 |.str z,.str y,.int i,Q=>0<=i/\i<=z.length/\Q (.bl (y.cps.toList.isPrefixOf (z.cps.toList.drop i.toNat)))
 |_,_,_,_=>False
def Fj:W->(W->Prop)->Prop
 |.str x,Q=>x.length<=1000/\Q (.str x)
 |.int i,Q=>i.natAbs.log2<1920/\Q (.str (toString i))
 |_,_=>False
def Pz(n:Nat)(x:Str):W->(W->Prop)->Prop
 |.obj _ a ws,Q=>a[n]?=some x/\∃w,ws[n]?=some w/\Q w
 |_,_=>False
noncomputable def m8(l:List W)(a b:Option Int):List W:=(l.drop (HT.cy l.length 0 a)).take (HT.cy l.length l.length b -HT.cy l.length 0 a)
noncomputable def i9:CE->Bool
 |.aN=>true
 |_=>false
def prI:W->(Option Int->Prop)->Prop
 |.int i,Q=>Q (some i)
 |_,_=>False
def DC(c:CE)(y:W)(Q:Option Int->Prop):Prop:=cond (i9 c) (Q none) (prI y Q)
def Ys:W->Option Int->Option Int->(W->Prop)->Prop
 |.lst l,a,b,Q=>Q (.lst (m8 l a b))
 |.eE c,a,b,Q=>Q (.lst (m8 (c.map W.int) a b))
 |_,_,_,_=>False
def JG:W->Option Int->Option Int->(W->Prop)->Prop
 |.str x,a,b,Q=>x.length<=sizeLine/\Q (.str (tx (sM x.cps.toList a b)))
 |.tup l,a,b,Q=>¬(HT.cy l.length 0 a=0/\HT.cy l.length l.length b=l.length)/\Q (.tup (m8 l a b))
 |_,_,_,_=>False
def JH:W->W->(W->Prop)->Prop
 |.err C,.gu _ a b,Q=>(C∈a/\Q (.bl true))\/(C∈b/\Q (.bl false))
 |_,_,_=>False
def Wz:W->(W->Prop)->Prop
 |.err _,Q=>Q (.bl true)
 |_,_=>False
def MT:W->W->(W->Prop)->Prop
 |.obj C a ws,.cls D,Q=>D=C/\Q (.obj C a ws)
 |_,_,_=>False
noncomputable def tyW:W->Option String
 |.int _=>some "int"
 |.tup _=>some "tuple"
 |_=>none
noncomputable def wO(a b:String):Bool:=a==b||(a=="bool"&&b=="int")
def sE:BI->List W->(W->Prop)->Prop
 |.len,[.lst l],Q=>Q (.int l.length)
 |.len,[.tup l],Q=>Q (.int l.length)
 |.len,[.eE c],Q=>Q (.int c.length)
 |.len,[.str x],Q=>x.length<=sizeLine/\Q (.int x.length)
 |.abs,[.int i],Q=>Q (.int (if i<0 then-i else i))
 |.max2,[.int i,.int j],Q=>Q (.int (if j>i then j else i))
 |.max2,[.lst l],Q=>∃c:List Int,l=c.map W.int/\c≠[]/\∀m∈c,(∀n∈c,n<=m)->Q (.int m)
 |.all,[.lst l],Q=>∃bs:List Bool,l=bs.map W.bl/\Q (.bl (bs.all id))
 |.list,[.lst l],Q=>Q (.lst l)
 |.list,[.tup l],Q=>Q (.lst l)
 |.Cz,[w,.ty n],Q=>∃a,tyW w=some a/\Q (.bl (wO a n))
 |.int,[.bl b],Q=>Q (.int (if b then 1 else 0))
 |.int,[.str x],Q=>∃n,PySem.intText? x=some n/\x.length<=640/\Q (.int n)
 |.str,[.int i],Q=>i.natAbs.log2<1920/\Q (.str (toString i))
 |.str,[.str x],Q=>Q (.str x)
 |.dict,[.dct d ws],Q=>Q (.dct d ws)
 |_,_,_=>False
noncomputable def qv(j:Str)(a:List W):List W:=if a.any (v5 j)=true then a else a++[.str j]
noncomputable def qw(j:Str)(u:W)(a ws:List W):List W:=if a.any (v5 j)=true then N2 (λx w=>if v5 j x=true then u else w) a ws else ws++[u]
noncomputable def lW(j:Str):List Str->List Int->Option Int
 |x::a,w::ws=>if x=j then some w else lW j a ws
 |_,_=>none
noncomputable def cF(a:Ev):List Nat->List W->Ev
 |i::b,w::ws=>cF (a.set i (some w)) b ws
 |_,_=>a
def wT(b:Bool)(a:List Nat)(w:W)(c:Ev)(Q:Ev->Prop):Prop:=
 match b,a,w with
 |true,[i],w=>Q (c.set i (some w))
 |false,a,.tup l=>l.length=a.length/\Q (cF c a l)
 |_,_,_=>False
noncomputable def qx(f:W->(Option W->Prop)->Prop):List W->List W->(List W->Prop)->Prop
 |[],acc,Q=>Q acc
 |w::ws,acc,Q=>f w λr=>match r with
  |some y=>acc.length<sizeLine/\qx f ws (acc++[y]) Q
  |none=>qx f ws acc Q
def truth:W->(Bool->Prop)->Prop
 |.bl b,Q=>Q b
 |_,_=>False
def items:W->(List W->Prop)->Prop
 |.lst l,Q=>Q l
 |.tup l,Q=>Q l
 |_,_=>False
noncomputable def fh(a st:Int)(n:Nat):List W:=(G2 n).map λ(i:Nat)=>W.int (a+(i:Int)*st)
def JI:List W->(List W->Prop)->Prop
 |[.int j],Q=> -(2^62)<=j/\j<2^62/\Q (fh 0 1 j.toNat)
 |[.int i,.int j],Q=>(-(2^62)<=i/\i<2^62/\-(2^62)<=j/\j<2^62)/\Q (fh i 1 (j -i).toNat)
 |[.int i,.int j,.int k],Q=>∃n:Nat,(k≠0/\k.natAbs<1073741824/\Builtin.Range.small i j k=true/\Builtin.Range.rangeSize i j k=(n:Int))/\Q (fh i k n)
 |_,_=>False
noncomputable def qy(l:List W):List W:=N2 (λ(i:Nat) w=>W.tup [.int i,w]) (G2 l.length) l
mutual
noncomputable def wQ:W->Bool
 |.aN=>true
 |.bl _=>true
 |.int _=>true
 |.str _=>true
 |.tup l=>uX l
 |_=>false
noncomputable def uX:List W->Bool
 |[]=>true
 |w::l=>wQ w&&uX l
end
mutual
noncomputable def flat:Md->W->Bool
 |.s,w=>wQ w
 |.f,.lst l=>uX l
 |_,_=>false
end
abbrev aT:=List W->(W->Prop)->(Addr->Prop)->Prop
section
variable(Φ:Nat->aT)(G:Nat->W)
mutual
def wE(R:Addr->Prop):CE->Ev->(W->Prop)->Prop
 |.var i,d,Q=>match look d i with
  |some w=>Q w
  |none=>False
 |.int i,_,Q=>Q (.int i)
 |.bl b,_,Q=>Q (.bl b)
 |.str x,_,Q=>Q (.str x)
 |.aN,_,Q=>Q .aN
 |.Dz n,_,Q=>Q (.ty n)
 |.glob g,_,Q=>Q (G g)
 |.bin op a b,d,Q=>wE R a d λx=>wE R b d λy=>gM op x y Q
 |.neg a,d,Q=>wE R a d λx=>match x with
  |.int i=>Q (.int (-i))
  |_=>False
 |.not a,d,Q=>wE R a d λx=>truth x λb=>Q (.bl (!b))
 |.cmp op a b,d,Q=>wE R a d λx=>wE R b d λy=>e9 op x y Q
 |.and m,d,Q=>BE R m d Q
 |.or m,d,Q=>T7 R m d Q
 |.ite c a b,d,Q=>wE R c d λx=>truth x λk=>if k=true then wE R a d Q else wE R b d Q
 |.tup m,d,Q=>wA R m d λws=>ws.length<=sizeLine/\Q (.tup ws)
 |.lst m,d,Q=>wA R m d λws=>ws.length<=sizeLine/\Q (.lst ws)
 |.ix a i,d,Q=>wE R a d λx=>wE R i d λy=>Up x y Q
 |.sl a p r,d,Q=>wE R a d λx=>wE R p d λy=>DC p y λl=>wE R r d λz=>DC r z λh=>Ys x l h Q
 |.call f m,d,Q=>wA R m d λws=>Φ f ws Q R
 |.blt b m,d,Q=>wA R m d λws=>sE b ws Q
 |.bits a,d,Q=>wE R a d λx=>match x with
  |.int i=>Q (.int (Builtin.Int.intBits i:Nat))
  |_=>False
 |.comp v one n A c e,d,Q=>wE R A d λz=>items z λws=>qx (λw K=>wT one v w (A0 n none++d) λo=>wE (λ_=>False) c o λx=>truth x λk=>if k=true then wE (λ_=>False) e o λy=>K (some y)else K none) ws [] λl=>Q (.lst l)
 |.pT m,d,Q=>wA R m d λws=>JI ws λl=>Q (.lst l)
 |.yf a,d,Q=>wE R a d λx=>match x with
  |.lst l=>Q (.lst (qy l))
  |_=>False
 |.pop _,_,_=>False
 |.own i π,d,Q=>match look d i with
  |some w=>match cD w π with
   |some u=>Q u
   |none=>False
  |none=>False
 |.lD _ _ _ _,_,_=>False
 |.Ib _ _ _ _,_,_=>False
 |.JF _ _ _ _,_,_=>False
 |.fst m,d,Q=>UA R m [] d Q
 |.fmt a,d,Q=>wE R a d λw=>Fj w Q
 |.slt a p r,d,Q=>wE R a d λx=>wE R p d λy=>DC p y λl=>wE R r d λz=>DC r z λh=>JG x l h Q
 |.Ug a b c,d,Q=>wE R a d λx=>Wy x=true/\wE R b d λy=>wE R c d λz=>Py x y z Q
 |.MO a n x,d,Q=>wE R a d λw=>Pz n x w Q
 |.Uh a b,d,Q=>wE R a d λx=>Ww x=true/\wE R b d λy=>match x,y with
  |.dct q ws,.str j=>Q ((dH j q ws).getD .aN)
  |_,_=>False
 |.Ui x a,d,Q=>wE R a d λw=>wQ w=true/\Q (.dct [.str x] [w])
 |.Uj i,d,Q=>match look d i with
  |some (.dct q vs)=>∃t:List Str,q=t.map W.str/\t.length<64/\∀s:List Str,s.Perm t->iq s=true->Q (.lst (s.map W.str))
  |_=>False
 |.Uk q vs k,d,Q=>wE R k d λx=>match x with
  |.str j=>∃n,lW j q vs=some n/\Q (.int n)
  |_=>False
 |.CA a g,d,Q=>wE R a d λx=>JH x (G g) Q
 |.Ul a,d,Q=>wE R a d λx=>Wz x Q
 |.yR g f a m,d,Q=>wE R a d λx=>MT x (G g) λy=>wA R m d λws=>Φ f (y::ws) Q R
def UA(R:Addr->Prop):List CE->List Nat->Ev->(W->Prop)->Prop
 |[],acc,_,Q=>Q (.str (tx acc))
 |a::c,acc,b,Q=>wE R a b λx=>match x with
  |.str y=>acc.length+y.length<=2000/\UA R c (acc++y.cps.toList) b Q
  |_=>False
def wA(R:Addr->Prop):List CE->Ev->(List W->Prop)->Prop
 |[],_,Q=>Q []
 |a::d,b,Q=>wE R a b λx=>wA R d b λc=>Q (x::c)
def BE(R:Addr->Prop):List CE->Ev->(W->Prop)->Prop
 |[],_,_=>False
 |a::d,c,Q=>match d with
  |[]=>wE R a c Q
  |b::bs=>wE R a c λx=>truth x λk=>if k=true then BE R (b::bs) c Q else Q (.bl false)
def T7(R:Addr->Prop):List CE->Ev->(W->Prop)->Prop
 |[],_,_=>False
 |a::d,c,Q=>match d with
  |[]=>wE R a c Q
  |b::bs=>wE R a c λx=>truth x λk=>if k=true then Q (.bl true)else T7 R (b::bs) c Q
end
def WA(R:Addr->Prop):CE->Ev->(W->Prop)->Prop
 |.call f c,b,Q=>wA Φ G (λ_=>False) c b λws=>Φ f ws Q R
 |.yR g f a c,b,Q=>wE Φ G (λ_=>False) a b λx=>MT x (G g) λy=>wA Φ G (λ_=>False) c b λws=>Φ f (y::ws) Q R
 |_,_,_=>False
def ZT:W->(List Addr->Prop)->Prop
 |.gu _ a _,Q=>a≠[]/\Q a
 |_,_=>False
noncomputable def yg:List Nat->Ev->Ev
 |[],a=>a
 |i::b,a=>yg b (a.set i none)
structure Dn where
 nx:Ev->Prop
 rt:W->Prop
 bk:Ev->Prop
 ct:Ev->Prop
 ex:Addr->Prop
mutual
def wP(R:Addr->Prop):CE->Ev->(W->Ev->Prop)->Prop
 |.pop i,c,Q=>match look c i with
  |some (.lst l)=>∃w,l[l.length -1]?=some w/\Q w (c.set i (some (.lst l.dropLast)))
  |_=>False
 |.JF i g f h,c,Q=>match look c i with
  |some (.j4 st q x w)=>G g=.j4 st q x .aN/\BF R h c λws d=>Φ f (w::ws) (λw=>Q w d) R
  |_=>False
 |.Ib i g f h,c,Q=>match look c i with
  |some (.fn a)=>G g=.fn a/\BF R h c λws d=>Φ f ws (λw=>Q w d) R
  |_=>False
 |.lD i g f h,c,Q=>match look c i with
  |some (.obj C _ _)=>G g=.cls C/\BF R h c λws d=>match look d i with
   |some m=>Φ f (m::ws) (λr=>∃w y,r=.tup [w,y]/\Q w (d.set i (some y))) R
   |none=>False
  |_=>False
 |.bin op a b,c,Q=>wP R a c λx k=>wP R b k λy j=>gM op x y λz=>Q z j
 |.cmp op a b,c,Q=>wP R a c λx k=>wP R b k λy j=>e9 op x y λz=>Q z j
 |.call f h,c,Q=>BF R h c λws d=>Φ f ws (λw=>Q w d) R
 |.blt b h,c,Q=>BF R h c λws d=>sE b ws λw=>Q w d
 |.lst h,c,Q=>BF R h c λws d=>ws.length<=sizeLine/\Q (.lst ws) d
 |.tup h,c,Q=>BF R h c λws d=>ws.length<=sizeLine/\Q (.tup ws) d
 |.and h,c,Q=>z7 R h c Q
 |.or h,c,Q=>Im R h c Q
 |e,c,Q=>wE Φ G R e c λw=>Q w c
def BF(R:Addr->Prop):List CE->Ev->(List W->Ev->Prop)->Prop
 |[],b,Q=>Q [] b
 |a::f,b,Q=>wP R a b λx e=>BF R f e λc d=>Q (x::c) d
def z7(R:Addr->Prop):List CE->Ev->(W->Ev->Prop)->Prop
 |[],_,_=>False
 |a::e,d,Q=>match e with
  |[]=>wP R a d Q
  |b::bs=>wP R a d λx c=>truth x λk=>if k=true then z7 R (b::bs) c Q else Q (.bl false) c
def Im(R:Addr->Prop):List CE->Ev->(W->Ev->Prop)->Prop
 |[],_,_=>False
 |a::e,d,Q=>match e with
  |[]=>wP R a d Q
  |b::bs=>wP R a d λx c=>truth x λk=>if k=true then Q (.bl true) c else Im R (b::bs) c Q
end
noncomputable def iQ(b:W->Dn->Ev->Prop)(D:Dn):List W->Ev->Prop
 |[],a=>D.nx a
 |w::ws,a=>b w {nx:=iQ b D ws,rt:=D.rt,bk:=D.nx,ct:=iQ b D ws,ex:=D.ex} a
def WB(c:Ev->(Bool->Ev->Prop)->Prop)(b:Dn->Ev->Prop)(D:Dn)(d:Ev):Prop:=
 ∃J:Nat->Ev->Prop,(∃m,J m d)/\∀m d,J m d->c d λk f=>if k=true then∃N:Ev->Prop,(∀a,N a->∃e,e<m/\J e a)/\b {nx:=N,rt:=D.rt,bk:=D.nx,ct:=N,ex:=D.ex} f else D.nx f
def PB(c:Ev->(Bool->Prop)->Prop)(b:Dn->Ev->Prop)(D:Dn)(a:Ev):Prop:=
 ∃J:Nat->Ev->Prop,(∃m,J m a)/\∀m a,J m a->c a λk=>if k=true then∃N:Ev->Prop,(∀d,N d->∃e,e<m/\J e d)/\b {nx:=N,rt:=D.rt,bk:=D.nx,ct:=N,ex:=D.ex} a else D.nx a
mutual
def wS:CS->Dn->Ev->Prop
 |.set i e,D,d=>wE Φ G D.ex e d λw=>D.nx (d.set i (some w))
 |.DA m e,D,d=>wE Φ G D.ex e d λw=>match w with
  |.tup l=>l.length=m.length/\D.nx (cF d m l)
  |_=>False
 |.par m es,D,d=>wA Φ G D.ex es d λws=>ws.length=m.length/\D.nx (cF d m ws)
 |.app i e,D,d=>match look d i with
  |some (.lst l)=>wE Φ G D.ex e d λw=>l.length<sizeLine/\D.nx (d.set i (some (.lst (l++[w]))))
  |_=>False
 |.put i k e,D,d=>wE Φ G D.ex e d λw=>match look d i with
  |some (.lst l)=>wE Φ G D.ex k d λx=>match x with
   |.int j=>∃n,Aj l.length j=some n/\D.nx (d.set i (some (.lst (l.set n w))))
   |_=>False
  |_=>False
 |.sN j e,D,d=>wP Φ G D.ex e d λw f=>D.nx (f.set j (some w))
 |.ret e,D,d=>wE Φ G D.ex e d D.rt
 |.iff c a b,D,d=>wE Φ G D.ex c d λx=>truth x λk=>if k=true then wSs a D d else wSs b D d
 |.Ic c b,D,d=>PB (λd Q=>wE Φ G D.ex c d λx=>truth x Q) (wSs b) D d
 |.fr m one u b,D,d=>wE Φ G D.ex u d λz=>items z λws=>iQ (λw A f=>wT one m w f λv=>wSs b A v) D ws d
 |.brk,D,d=>D.bk d
 |.raise g e,D,d=>match G g with
  |.cls C=>wE Φ G D.ex e d λ_=>D.ex C
  |_=>False
 |.MP i π e,D,d=>match look d i with
  |some h=>match cD h π with
   |some (.lst l)=>wE Φ G D.ex e d λw=>l.length<sizeLine/\D.nx (d.set i (some (setAt h π (.lst (l++[w])))))
   |_=>False
  |none=>False
 |.Fg i n e,D,d=>wE Φ G D.ex e d λw=>match look d i with
  |some (.obj C p ws)=>n<ws.length/\D.nx (d.set i (some (.obj C p (ws.set n w))))
  |_=>False
 |.MQ e,D,d=>wE Φ G D.ex e d λw=>match look d 0 with
  |some h=>D.rt (.tup [w,h])
  |none=>False
 |.DB e,D,d=>wP Φ G D.ex e d λ_ f=>D.nx f
 |.Um c a b,D,d=>wP Φ G D.ex c d λx f=>truth x λk=>if k=true then wSs a D f else wSs b D f
 |.Wl c b,D,d=>WB (λd Q=>wP Φ G D.ex c d λx f=>truth x λk=>Q k f) (wSs b) D d
 |.Pu i e,D,d=>match look d i with
  |some (.lst _)=>wP Φ G D.ex e d λw f=>match look f i with
   |some (.lst l)=>l.length<sizeLine/\D.nx (f.set i (some (.lst (l++[w]))))
   |_=>False
  |_=>False
 |.Aw,_,_=>False
 |.Wm i,D,d=>D.nx (d.set i (some (.dct [] [])))
 |.OW i π e,D,d=>match look d i with
  |some h=>match cD h π with
   |some (.lst l)=>wE Φ G D.ex e d λw=>match w with
    |.lst s=>l.length+s.length<=sizeLine/\D.nx (d.set i (some (setAt h π (.lst (l++s)))))
    |_=>False
   |_=>False
  |none=>False
 |.Wn i n e,D,d=>match look d i with
  |some (.obj C p ws)=>∃l,ws[n]?=some (.lst l)/\∀a:Addr,wP Φ G D.ex e (d.set i (some (.obj C p (ws.set n (.cls a))))) λw f=>∃r,look f i=some (.obj C p r)/\r[n]?=some (.cls a)/\l.length<sizeLine/\D.nx (f.set i (some (.obj C p (r.set n (.lst (l++[w]))))))
  |_=>False
 |.Wq e,D,d=>wP Φ G D.ex e d λw _=>D.rt w
 |.Wo c a b,D,d=>wP Φ G D.ex c d λx f=>truth x λk=>if(!k)=true then wSs a D f else wSs b D f
 |.Uo i k e,D,d=>wE Φ G D.ex e d λw=>match look d i with
  |some (.dct o vs)=>wE Φ G D.ex k d λx=>match x with
   |.str j=>o.length<sizeLine/\D.nx (d.set i (some (.dct (qv j o) (qw j w o vs))))
   |_=>False
  |_=>False
 |.Wr j i g y e,D,d=>ZT (G g) λt=>WA Φ G (λC=>C∈t/\D.nx ((d.set y (some (.err C))).set i none)) e d λw=>D.nx (d.set j (some w))
 |.Ws i k,D,d=>match look d i with
  |some (.dct o vs)=>wE Φ G D.ex k d λx=>match x with
   |.str j=>(∃w,dH j o vs=some w)/\D.nx (d.set i (some (.dct (nW j o) (lV j o vs))))
   |_=>False
  |_=>False
 |.Px q b,D,d=>wSs b {D with nx:=λd=>D.nx (yg q d),bk:=λd=>D.bk (yg q d),ct:=λd=>D.ct (yg q d)} d
 |.Pw _ b,D,d=>wSs b {D with nx:=λ_=>False,bk:=λ_=>False,ct:=λ_=>False} d
def wSs:List CS->Dn->Ev->Prop
 |[],D,a=>D.nx a
 |s::c,D,a=>match c with
  |[]=>wS s D a
  |t::b=>wS s {D with nx:=wSs (t::b) D} a
end
end
def bC(K:Frag)(B:Addr->Prop)(H:Hp)(w:W)(v:V):Prop:=
 match w with
 |.lst l=>∃p a,v=.ref p/\Rz H p (.lst a)/\ai K B H l a
 |w=>Rep K B H w v
section
variable{K:Frag}{A B:Addr->Prop}{H H':Hp}{w:W}{v:V}
private theorem Rep.b(h:Rep K B H w v):bC K B H w v:=by
 cases w with
 |lst l=>obtain⟨p,a,e,_,d,c⟩:=h;exact⟨p,a,e,d,c⟩
 |_=>exact h
private theorem bC.same(s:aq H H')(h:bC K B H w v):bC K B H' w v:=by
 cases w with
 |lst l=>obtain⟨p,a,e,c,b⟩:=h;exact⟨p,a,e,VL.aq.rz s c,b.same s⟩
 |_=>exact Rep.same s h
private theorem bC.lst{l:List W}(h:bC K B H (.lst l) v):∃p vs,v=.ref p/\Rz H p (.lst vs)/\ai K B H l vs:=h
private theorem bC.ZU(h:bC K B H (.tup l) v):∃p vs,v=.ref p/\H p=some (.tup vs)/\ai K B H l vs:=by have h:Rep K B H (.tup l) v:=h;dsimp only[Rep]at h;exact h
private theorem bC.tup{l:List W}(h:bC K B H (.tup l) v):∃p vs,v=.ref p/\lF K H p vs/\ai K B H l vs:=by have h:Rep K B H (.tup l) v:=h;obtain⟨p,vs,e,b,a⟩:=h;exact⟨p,vs,e,lF.of b,a⟩
private theorem bC.int(h:bC K B H (.int i) v):v=.int i:=by have h:Rep K B H (.int i) v:=h;dsimp only[Rep]at h;exact h
private theorem bC.bl(h:bC K B H (.bl i) v):v=.bl i:=by have h:Rep K B H (.bl i) v:=h;dsimp only[Rep]at h;exact h
private theorem bC.str(h:bC K B H (.str i) v):v=.str i:=by have h:Rep K B H (.str i) v:=h;dsimp only[Rep]at h;exact h
private theorem bC.aN(h:bC K B H .aN v):v=.aN:=by have h:Rep K B H .aN v:=h;dsimp only[Rep]at h;exact h
private theorem bC.ty(h:bC K B H (.ty n) v):v=.ty n:=by have h:Rep K B H (.ty n) v:=h;dsimp only[Rep]at h;exact h
private theorem gO(i:Int):Rep K B H (.int i) (.int i):=by dsimp only[Rep]
private theorem pD(i:Bool):Rep K B H (.bl i) (.bl i):=by dsimp only[Rep]
private theorem oA(i:Str):Rep K B H (.str i) (.str i):=by dsimp only[Rep]
private theorem PC:Rep K B H .aN .aN:=by dsimp only[Rep]
private theorem rTy(n:String):Rep K B H (.ty n) (.ty n):=by dsimp only[Rep]
private theorem yS(b:H p=some (.tup vs))(a:ai K B H l vs):Rep K B H (.tup l) (.ref p):=by dsimp only[Rep];exact⟨p,vs,rfl,b,a⟩
end
abbrev KP:=W->Prop
def Cont(K:Frag)(B:Addr->Prop)(H:Hp)(m:Md)(P:KP)(Q:VK):Prop:=∀w v a,P w->aq H a->dw K B H a m w v->Q v a
private theorem Cont.now{K:Frag}(c:Cont K B H .s P Q){v:V}(p:P w)(h:Rep K B H w v):Q v H:=c w v H p (aq.refl H) (.of h)
private theorem Cont.s{K:Frag}(d:Dom B H)(c:Cont K B H .s P Q):Cont K B H m P Q:=λw v b p a h=>c w v b p a (h.s d)
def DE(X:Cx)(f:Value->Value->Sem Value)(r:W->W->KP->Prop)(m:W->W->Md):Prop:=
 ∀(a:List (Addr×Obj))(s:Shared)(b:St)(H:Hp)(B:Addr->Prop)(x y:W)(d c:V)(v u:Value)(P:KP)(Q:VK),Inv X a b H s->Dom B H->RelV d v->RelV c u->bC X.K B H x d->bC X.K B H y c->r x y P->Cont X.K B H (m x y) P Q->
  wpAny (model X.prog X.w) X.A (f v u) (EP X a b Q) X.xe s
section
variable{X:Cx}
private theorem JJ:lH X (binaryOp .Add) (λx y H Q=>∃l b f d,x=.ref l/\y=.ref b/\Rd H l (.lst f)/\Rd H b (.lst d)/\f.length+d.length<=sizeLine/\∀p,H p=none->Q (.ref p) (upd H p (.lst (f++d)))):=by
 intro i s B H x y v u Q I k j h;obtain⟨l,b,f,d,rfl,rfl,o,t,hz,q⟩:=h;cases k;cases j;obtain⟨z,c,n,r,e⟩:=o.ok I.hok;obtain⟨C,a,D,g,A⟩:=t.ok I.hok;have E:=r.length;have m:=g.length;refine PySem.P.add_list e A ?_ (by rw[FM,FM];lia);have w:c.toArray++a.toArray=(c++a).toArray:=by simp
 rw[w];exact⟨.ref _,_,I.VR (t':=s.toks) (r.append g) (by rw[DL];lia),rfl,q _ I.fresh⟩
private theorem JK:lH X (binaryOp .Mult) (λx y H Q=>∃l k i,x=.ref l/\y=.int k/\Rd H l (.lst i)/\-(2^63)<=k/\k<2^63/\i.length*k.toNat<=sizeLine/\∀p,H p=none->Q (.ref p) (upd H p (.lst (A0 k.toNat i).flatten))):=by
 intro w s N H x y v u Q I C B h;obtain⟨l,k,i,rfl,rfl,E,K,J,hz,q⟩:=h;cases C;obtain⟨t,rfl⟩:=B;obtain⟨z,b,n,r,e⟩:=E.ok I.hok;have D:=r.length;have d:b.toArray.size*k.toNat<=sizeLine:=by rw[FM,<-D];exact hz
 have g:¬b.toArray.size*k.toNat>(2^63 -1)/8:=by
  have:(sizeLine:Nat)<=(2^63 -1)/8:=by decide
  lia
 have f:¬(!Builtin.List.listFitsIndex k)=true:=by rw[fitsIndex_both K J];exact Fn
 have M:¬Builtin.List.listTooLong (b.toArray.size*k.toNat)=true:=by rw[wu d];exact Fn
 have c:eF (λo j=>o++j) #[] (A0 (if b.toArray.isEmpty=true then 0 else k.toNat) b.toArray)=(A0 k.toNat b).flatten.toArray:=by
  have L:∀m:Nat,eF (λo j=>o++j) #[] (A0 m b.toArray)=(A0 m b).flatten.toArray:=λm=>by have:=foldl_rep b m [];rw[MF]at this;exact this
  rw[L];cases b with
  |nil=>simp
  |cons a O=>rw[B1 (by simp)]
 refine wpAny_binaryOp_repeat_ref (T:="list") (U:="int") (by decide) ⟨_,e,rfl⟩ (λA=>typeIs_int A k t) noFill_list_mul F.fills_int_mul F.slot_int_rmul repeat_list F.slot_int_index.lookup
  (call_meets F.slot_int_rmul (typeIs_int s k t) F.entry_int_rmul (F.args_int_rmul_2 _ _) (int___rmul___int_list k t l b.toArray n)
    ⟨e,rfl,⟨_,e,rfl⟩,call_meets F.slot_list_mul ⟨_,e,rfl⟩ F.entry_list_mul (F.args_list_mul_2 _ _) (AutoListH.list___mul___list_int_3 l b.toArray n k t f g M) ⟨e,?_⟩⟩)
 rw[c];exact⟨.ref _,_,I.VR (t':=s.toks) (r.rep k.toNat) (by rw[len_rep,T8];exact hz),rfl,q _ I.fresh⟩
noncomputable def JL:W->W->Md
 |.lst _,_=>.f
 |_,_=>.s
private theorem PD:DE X (binaryOp .Add) Wt JL:=by
 intro f s n H B x y N M v u P Q I d w t C A h c;cases x with
 |int i=>
  cases y with
  |int j=>
   cases C.int;cases A.int;exact OA f s n H _ _ v u Q I w t ⟨i,j,rfl,rfl,c.now h (gO _)⟩
  |_=>exact h.elim
 |str i=>
  cases y with
  |str j=>
   cases C.str;cases A.str;exact yt f s n H _ _ v u Q I w t ⟨i,j,rfl,rfl,h.1,c.now h.2 (oA _)⟩
  |_=>exact h.elim
 |lst a=>
  cases y with
  |lst b=>obtain⟨p,o,rfl,L,g⟩:=C.lst;obtain⟨q,D,rfl,E,k⟩:=A.lst;obtain⟨J,h⟩:=h;refine JJ f s n H _ _ v u Q I w t ⟨p,q,o,D,rfl,rfl,L.rd,E.rd,by rw[g.len,k.len];exact J,λr l=>?_⟩;exact c _ _ _ h (aK l _) (.fresh (aq.refl H) l (g.app k))
  |_=>exact h.elim
 |tup a=>
  cases y with
  |tup b=>
   obtain⟨p,o,rfl,m,g⟩:=C.ZU;have L:lF X.K H p o:=lF.of m;obtain⟨q,D,rfl,E,k⟩:=A.tup;obtain⟨F,J,h⟩:=h;refine IY f s n H _ _ v u Q I w t ⟨p,q,o,D,rfl,rfl,L,E,λz=>F ?_,by rw[g.len,k.len];exact J,λz=>?_,λ_ r l=>?_⟩
   .have:=g.len;rw[z]at this;exact Kb.mp this.symm
   .have:=k.len;rw[z]at this;have e:b=[]:=Kb.mp this.symm;subst e;rw[Kx]at h;exact c.now h (yS m g)
   .exact c _ _ _ h (aK l _) (.of (yS az ((g.app k).same (aK l _))))
  |_=>exact h.elim
 |_=>exact h.elim
private theorem PJ:DE X (binaryOp .Mult) Wu JL:=by
 intro b s e H B x y E D v u P Q I d g f m l h c;cases x with
 |int i=>
  cases y with
  |int j=>
   cases m.int;cases l.int;exact Jh b s e H _ _ v u Q I g f ⟨i,j,rfl,rfl,h.1,c.now h.2 (gO _)⟩
  |_=>exact h.elim
 |lst a=>
  cases y with
  |int k=>obtain⟨p,w,rfl,n,t⟩:=m.lst;cases l.int;obtain⟨A,z,C,h⟩:=h;refine JK b s e H _ _ v u Q I g f ⟨p,k,w,rfl,rfl,n.rd,A,z,by rw[t.len];exact C,λr o=>?_⟩;exact c _ _ _ h (aK o _) (.fresh (aq.refl H) o (t.rep _))
  |_=>exact h.elim
 |str a=>
  cases y with
  |int k=>
   cases m.str;cases l.int;obtain⟨q,n,h⟩:=h;exact JE b s e H _ _ v u Q I g f ⟨a,k,rfl,rfl,q.1,q.2,n,c.now h (oA _)⟩
  |_=>exact h.elim
 |_=>exact h.elim
noncomputable def mS:W->W->Md:=λ_ _=>.s
private theorem PK:DE X (binaryOp .Sub) Wv mS:=by
 intro a s b H B x y m l v u P Q I d f e k g h c;cases x with
 |int i=>
  cases y with
  |int j=>
   cases k.int;cases g.int;exact OB a s b H _ _ v u Q I f e ⟨i,j,rfl,rfl,c.now h (gO _)⟩
  |_=>exact h.elim
 |_=>exact h.elim
private theorem Fl(n:lH X f (rI C λi j=>.int (g i j))):DE X f (Yr C g) mS:=by
 intro a s b H B x y p o v u P Q I d k e m l h c;cases x with
 |int i=>
  cases y with
  |int j=>
   cases m.int;cases l.int;exact n a s b H _ _ v u Q I k e ⟨i,j,rfl,rfl,h.1,c.now h.2 (gO _)⟩
  |_=>exact h.elim
 |_=>exact h.elim
noncomputable def JM:Operator->W->W->Md
 |.Add=>JL
 |.Mult=>JL
 |_=>mS
private theorem yT(op:Operator):DE X (binaryOp op) (gM op) (JM op):=by
 cases op with
 |Add=>exact PD
 |Sub=>exact PK
 |Mult=>exact PJ
 |FloorDiv=>exact Fl EA
 |Mod=>exact Fl IG
 |Pow=>exact Fl OC
 |_=>exact λa s b H B x y f e v u P Q I d i g k j h c=>h.elim
private theorem uY(m:lH X f (IE λi j=>.bl (p i j))):DE X f (Fi p) mS:=by
 intro a s b H B x y o n v u P Q I d g e l k h c;cases x with
 |int i=>
  cases y with
  |int j=>
   cases l.int;cases k.int;exact m a s b H _ _ v u Q I g e ⟨i,j,rfl,rfl,c.now h (pD _)⟩
  |_=>exact h.elim
 |_=>exact h.elim
end
end VL
namespace L2
open PySem PySem.Spec PyProof.Rows
section
variable{X:Cx}{pins:List (Addr×Obj)}{σ:St}{H:Hp}{s:Shared}
def JN(X:Cx)(H:Hp):List V->List V->Prop
 |x::b,y::a=>(∃d,Dt X H x d/\Dt X H y d/\d.canLay0=true/\d.depth<=10/\SeqAt.noMix d d=true/\same d d=true)/\JN X H b a
 |[],[]=>True
 |_,_=>False
private theorem JO{A:Around}(u:A.in1.units+10<cLine)(I:Inv X pins σ H s):∀{kvs a:List (Key×V)}{vs us:List (Key×Value)},KV kvs vs->KV a us->kvs.map (·.1)=a.map (·.1)->JN X H (kvs.map (·.2)) (a.map (·.2))->
 (∀k y,(k,y)∈us->valueAt f k=some y)->PySem.W.KeqHits A.in1 s f vs true:=by
 intro kvs
 induction kvs with
 |nil=>intro a vs us b c e g m;cases b;exact .nil
 |cons p kvs t=>
  intro a vs us b c e g m;cases c with
  |nil=>cases e
  |cons c h=>
   cases b with
   |cons b i=>
    rename_i p' q' _ _ q _
    obtain⟨⟨d,E,D,l,C,o,sm⟩,g⟩:=g;obtain⟨B,x⟩:=OR e;obtain⟨J,n⟩:=E _ _ _ _ I b.2;obtain⟨F,j⟩:=D _ _ _ _ I c.2;obtain⟨k,v⟩:=q;obtain⟨r,y⟩:=q';obtain rfl:k=r:=b.1.symm.trans (B.trans c.1);have z:=SeqAt.eqAt_reads d d A.in1 s v y J F n j l l (Kj (e7 (FV (Nat.min_le_left _ _) C) _) u);rw[<-SeqAt.same_eq_eqv _ _ o,sm]at z;exact .hit (m k y Ap) z (t i h x g λk y w=>m k y (AS _ w))
private theorem wR(b:(a.map (·.1)).Nodup):∀{k:Key}{y:Value},(k,y)∈a->valueAt a k=some y:=by
 unfold valueAt
 induction a with
 |nil=>intro k y h;cases h
 |cons p a d=>
  intro k y h;rw[Fh,Ha]at b;rw[I0];rcases Do.mp h with z|z
  .rw[<-z];simp
  .have c:¬p.1=k:=λe=>b.1 (IH.mpr ⟨_,z,e.symm⟩);rw[Ee c];exact d b.2 z
private theorem JP(E:X.A.units+64<cLine):lH X (compareOp .NotEq) (λx y H Q=>∃(a b:Addr)(kvs c:List (Key×V)),x=.ref a/\y=.ref b/\H a=some (.dK kvs)/\H b=some (.dK c)/\kvs.map (·.1)=c.map (·.1)/\JN X H (kvs.map (·.2)) (c.map (·.2))/\Q (.bl false) H):=by
 intro pins s σ H x y v u Q I o n h;obtain⟨a,b,kvs,c,rfl,rfl,D,C,e,g,q⟩:=h;cases o;cases n;obtain⟨_,w,j,i,m⟩:=wL I.hok D;obtain⟨_,t,l,f,d⟩:=wL I.hok C;have B:j.length=l.length:=by rw[<-i.length,<-f.length];have:=IR J9 e;simpa using this
 obtain⟨_,_,_,_,_,_,_,_,p⟩:=id d;refine PySem.W.keq_ne (r:=true) w t m d (by lia) (λ_=>JO (A:=X.A) (by show X.A.units+1+10<cLine;lia) I i f e g λk y z=>wR p z) ⟨.bl _,H,I,rfl,?_⟩;rw[B,Qr];exact q
private theorem JQ(i:X.A.units+1<cLine):HY X (λx y H Q=>∃a v,x=.ref a/\m6 H a y (some v)/\Q v H):=by intro b c pins s σ H x y v u Q I f e h j;obtain⟨a,z,rfl,g,q⟩:=h;cases f;exact tail_any (nV I g) PySem.F.slot_dict_getitem.lookup (uh i I g e λl m k d=>⟨z,H,k,d,q⟩) j
private theorem uZ:cj X (.type "dict") (λb H Q=>∃a kvs,b=[.ref a]/\H a=some (.dK kvs)/\∀p,H p=none->Q (.ref p) (upd H p (.dK kvs))):=by intro pins s σ H b g Q I r h;obtain⟨a,kvs,rfl,e,q⟩:=h;obtain⟨u,rfl,c⟩:=vals1 r;cases c;exact Fd I (.inl e) λp i d f=>⟨.ref p,_,f,rfl,q p d⟩
end
end L2
namespace VL
open PySem PySem.Spec
open PyProof.Rows hiding St
open L2
mutual
noncomputable def toD:W->PyData
 |.aN=>.none
 |.bl b=>.bool b
 |.int i=>.int i
 |.str x=>.str x
 |.lst l=>.list (toDL l)
 |.tup l=>.tuple (toDL l)
 |_=>.none
noncomputable def toDL:List W->List PyData
 |[]=>[]
 |w::l=>toD w::toDL l
end
mutual
noncomputable def yh:W->Bool
 |.aN=>true
 |.bl _=>true
 |.int _=>true
 |.str x=>PyData.strOk x
 |.lst l=>u0 l
 |.tup l=>u0 l
 |_=>false
noncomputable def u0:List W->Bool
 |[]=>true
 |w::l=>yh w&&u0 l
end
section
variable{X:Cx}{B:Addr->Prop}{H:Hp}
mutual
theorem WC(w:W)(d:yh w=true)(h:Rep X.K B H w v):Dt X H v (toD w):=by
 cases w with
 |aN=>obtain rfl:=h;exact O9
 |bl b=>obtain rfl:=h;exact V8 b
 |int i=>obtain rfl:=h;exact O7 i
 |str x=>obtain rfl:=h;exact O8 x
 |lst l=>obtain⟨p,e,rfl,_,c,a⟩:=h;exact EO (.inl c.rd) (Ax l d a)
 |tup l=>obtain⟨p,e,rfl,c,a⟩:=h;exact Pa (lF.of c) (Ax l d a)
 |_=>exact ff d
theorem Ax:∀(l:List W){vs:List V},u0 l=true->ai X.K B H l vs->Paired (Dt X H) vs (toDL l)
 |[],vs,_,h=>by rw[h.nil_inv];exact .nil
 |w::l,vs,d,h=>by obtain⟨v,r,rfl,b,a⟩:=h.cons_inv;have d:=Jn.mp d;exact .cons (WC w d.1 b) (Ax l d.2 a)
end
private theorem CB(d:yh w=true)(h:bC X.K B H w v):Dt X H v (toD w):=by
 cases w with
 |lst l=>obtain⟨p,c,rfl,b,a⟩:=h.lst;exact EO (.inl b.rd) (Ax l d a)
 |_=>exact WC (B:=B) _ d h
end
mutual
theorem toD_lay(w:W)(d:yh w=true):(toD w).canLay0=true:=by
 cases w with
 |aN|bl b|int i=>rfl
 |str x=>exact d
 |lst l=>exact toDL_lay l d
 |tup l=>exact toDL_lay l d
 |_=>exact ff d
theorem toDL_lay:∀l:List W,u0 l=true->PyData.canLayAll0 (toDL l)=true
 |[],_=>rfl
 |w::l,d=>by have d:=Jn.mp d;exact Jn.mpr ⟨toD_lay w d.1,toDL_lay l d.2⟩
end
mutual
theorem toD_inj(x y:W)(d:yh x=true)(e:yh y=true)(h:same (toD x) (toD y)=true):x=y:=by
 cases x<;>first|exact ff d|(cases y<;>first|rfl|exact ff e|exact ff h|exact IR _ (eq_of_beq h)|exact IR _ (toDL_inj _ _ d e h))
theorem toDL_inj:∀x y:List W,u0 x=true->u0 y=true->sameAll (toDL x) (toDL y)=true->x=y
 |[],[],_,_,_=>rfl
 |[],_::_,_,_,h=>ff h
 |_::_,[],_,_,h=>ff h
 |x::b,y::a,d,e,h=>by have d:=Jn.mp d;have e:=Jn.mp e;have h:=Jn.mp h;rw[toD_inj x y d.1 e.1 h.1,toDL_inj b a d.2 e.2 h.2]
end
mutual
theorem toD_refl(x:W)(d:yh x=true):same (toD x) (toD x)=true:=by
 cases x<;>first|rfl|exact ff d|exact Qr _|exact toDL_refl _ d
theorem toDL_refl:∀x:List W,u0 x=true->sameAll (toDL x) (toDL x)=true
 |[],_=>rfl
 |x::a,d=>by have d:=Jn.mp d;exact Jn.mpr ⟨toD_refl x d.1,toDL_refl a d.2⟩
end
private theorem toD_same(x y:W)(d:yh x=true)(e:yh y=true):same (toD x) (toD y)=true↔x=y:=⟨toD_inj x y d e,by rintro rfl;exact toD_refl x d⟩
private theorem toDL_map:∀l:List W,toDL l=l.map toD
 |[]=>rfl
 |w::l=>IR (toD w::·) (toDL_map l)
private theorem qz:∀l:List W,u0 l=l.all yh
 |[]=>rfl
 |w::l=>IR (yh w&&·) (qz l)
private theorem u7:∀(n:Nat)(w:W),(lE n w=true\/MR n w=true)->yh w=true/\(toD w).depth<=n+1
 |n,.aN,_=>⟨rfl,OF _⟩
 |n,.bl _,_=>⟨rfl,OF _⟩
 |n,.int _,_=>⟨rfl,OF _⟩
 |n,.str x,h=>by
  have:PyData.strOk x=true:=by
   rcases h with h|h
   .cases n<;>exact h
   .cases n<;>exact h
  exact⟨this,OF _⟩
 |0,.lst l,h=>h.elim ff ff
 |0,.tup l,h=>h.elim ff ff
 |n+1,.lst l,h=>by
  have b:∀w∈l,yh w=true/\(toD w).depth<=n+1:=λw a=>by
   refine u7 n w ?_;rcases h with h|h
   .exact .inl (HI.mp h w a)
   .exact .inr (HI.mp h w a)
  refine⟨(qz l).trans (HI.mpr λw a=>(b w a).1),?_⟩;dsimp only[toD];rw[toDL_map];exact XM (wH λx c=>by obtain⟨w,a,rfl⟩:=IH.mp c;exact(b w a).2)
 |n+1,.tup l,h=>by
  have b:∀w∈l,yh w=true/\(toD w).depth<=n+1:=λw a=>by
   refine u7 n w ?_;rcases h with h|h
   .exact .inl (HI.mp h w a)
   .exact .inr (HI.mp h w a)
  refine⟨(qz l).trans (HI.mpr λw a=>(b w a).1),?_⟩;dsimp only[toD];rw[toDL_map];exact XM (wH λx c=>by obtain⟨w,a,rfl⟩:=IH.mp c;exact(b w a).2)
 |0,.ty _,h=>h.elim ff ff
 |0,.cls _,h=>h.elim ff ff
 |0,.fn _,h=>h.elim ff ff
 |0,.err _,h=>h.elim ff ff
 |0,.gu _ _ _,h=>h.elim ff ff
 |0,.j4 _ _ _ _,h=>h.elim ff ff
 |0,.dct _ _,h=>h.elim ff ff
 |0,.obj _ _ _,h=>h.elim ff ff
 |0,.eE _,h=>h.elim ff ff
 |n+1,.ty _,h=>h.elim ff ff
 |n+1,.cls _,h=>h.elim ff ff
 |n+1,.fn _,h=>h.elim ff ff
 |n+1,.err _,h=>h.elim ff ff
 |n+1,.gu _ _ _,h=>h.elim ff ff
 |n+1,.j4 _ _ _ _,h=>h.elim ff ff
 |n+1,.dct _ _,h=>h.elim ff ff
 |n+1,.obj _ _ _,h=>h.elim ff ff
 |n+1,.eE _,h=>h.elim ff ff
inductive Ay(b:Bool):PyData->Prop where
 |none:Ay b .none
 |str (x:Str):Ay b (.str x)
 |bool (x:Bool) (h:b=true):Ay b (.bool x)
 |int (x:Int) (h:b=false):Ay b (.int x)
 |list {l:List PyData} (h:∀x∈l,Ay b x):Ay b (.list l)
 |tuple {l:List PyData} (h:∀x∈l,Ay b x):Ay b (.tuple l)
mutual
theorem lX(d e:PyData)(h:Ay b d)(k:Ay b e):SeqAt.noMix d e=true:=by
 cases d<;>cases e<;>first
  |(simp[SeqAt.noMix];done)
  |(cases h;done)
  |(cases h with|list h=>cases k with|list k=>rw[SeqAt.noMix];exact qA _ _ h k)
  |(cases h with|tuple h=>cases k with|tuple k=>rw[SeqAt.noMix];exact qA _ _ h k)
  |(cases h with|bool _ h=>cases k with|int _ k=>rw[h]at k;cases k)
  |(cases h with|int _ h=>cases k with|bool _ k=>rw[h]at k;exact ff k)
theorem qA:∀c a:List PyData,(∀x∈c,Ay b x)->(∀y∈a,Ay b y)->SeqAt.noMixAll c a=true
 |[],[],_,_=>by simp[SeqAt.noMixAll]
 |[],_::_,_,_=>by simp[SeqAt.noMixAll]
 |_::_,[],_,_=>by simp[SeqAt.noMixAll]
 |x::c,y::a,h,k=>by rw[SeqAt.noMixAll,lX x y (h x Ap) (k y Ap),qA c a (λz hz=>h z (AS _ hz)) λz hz=>k z (AS _ hz)];rfl
end
private theorem jv:∀(n:Nat)(w:W),lE n w=true->Ay false (toD w)
 |n,.aN,_=>.none
 |n,.int i,_=>.int i rfl
 |n,.str x,_=>.str x
 |n,.bl _,h=>by cases n<;>exact ff h
 |n+1,.lst l,h=>by dsimp only[toD];rw[toDL_map];exact .list λx a=>by obtain⟨w,b,rfl⟩:=IH.mp a;exact jv n w (HI.mp h w b)
 |n+1,.tup l,h=>by dsimp only[toD];rw[toDL_map];exact .tuple λx a=>by obtain⟨w,b,rfl⟩:=IH.mp a;exact jv n w (HI.mp h w b)
 |0,.lst l,h=>ff h
 |0,.tup l,h=>ff h
 |n,.ty _,h=>by cases n<;>exact ff h
 |n,.cls _,h=>by cases n<;>exact ff h
 |n,.fn _,h=>by cases n<;>exact ff h
 |n,.err _,h=>by cases n<;>exact ff h
 |n,.gu _ _ _,h=>by cases n<;>exact ff h
 |n,.j4 _ _ _ _,h=>by cases n<;>exact ff h
 |n,.dct _ _,h=>by cases n<;>exact ff h
 |n,.obj _ _ _,h=>by cases n<;>exact ff h
 |n,.eE _,h=>by cases n<;>exact ff h
private theorem u9:∀(n:Nat)(w:W),MR n w=true->Ay true (toD w)
 |n,.aN,_=>.none
 |n,.bl i,_=>.bool i rfl
 |n,.str x,_=>.str x
 |n,.int _,h=>by cases n<;>exact ff h
 |n+1,.lst l,h=>by dsimp only[toD];rw[toDL_map];exact .list λx a=>by obtain⟨w,b,rfl⟩:=IH.mp a;exact u9 n w (HI.mp h w b)
 |n+1,.tup l,h=>by dsimp only[toD];rw[toDL_map];exact .tuple λx a=>by obtain⟨w,b,rfl⟩:=IH.mp a;exact u9 n w (HI.mp h w b)
 |0,.lst l,h=>ff h
 |0,.tup l,h=>ff h
 |n,.ty _,h=>by cases n<;>exact ff h
 |n,.cls _,h=>by cases n<;>exact ff h
 |n,.fn _,h=>by cases n<;>exact ff h
 |n,.err _,h=>by cases n<;>exact ff h
 |n,.gu _ _ _,h=>by cases n<;>exact ff h
 |n,.j4 _ _ _ _,h=>by cases n<;>exact ff h
 |n,.dct _ _,h=>by cases n<;>exact ff h
 |n,.obj _ _ _,h=>by cases n<;>exact ff h
 |n,.eE _,h=>by cases n<;>exact ff h
section
variable{X:Cx}
private theorem qB(E:X.A.units+64<cLine)(j:Bool){i:St}{m l:V}{v u:Value}{P:KP}{Q:VK}(I:Inv X a i H s)(r:RelV m v)(p:RelV l u)(D:bC X.K B H x m)(C:bC X.K B H y l)
 (h:((lE 9 x=true/\lE 9 y=true)\/(MR 9 x=true/\MR 9 y=true)\/(lE 60 x=true/\lE 60 y=true))/\∀b:Bool,(b=true↔x=y)->P (.bl (if j then !b else b)))(c:Cont X.K B H .s P Q):
 wpAny (model X.prog X.w) X.A (compareOp (if j then .NotEq else .Eq) v u) (EP X a i Q) X.xe s:=by
 obtain⟨k,h⟩:=h;have g:yh x=true/\(toD x).depth<=61:=by
  rcases k with h|h|h
  .exact(u7 9 x (.inl h.1)).imp id λz=>FV z (by decide)
  .exact(u7 9 x (.inr h.1)).imp id λz=>FV z (by decide)
  .exact u7 60 x (.inl h.1)
 have f:yh y=true/\(toD y).depth<=61:=by
  rcases k with h|h|h
  .exact(u7 9 y (.inl h.2)).imp id λz=>FV z (by decide)
  .exact(u7 9 y (.inr h.2)).imp id λz=>FV z (by decide)
  .exact u7 60 y (.inl h.2)
 have o:SeqAt.shaped (toD x)=true:=by unfold SeqAt.shaped;rw[toD_lay x g.1,Bz (FV g.2 (by decide))];rfl
 have n:SeqAt.shaped (toD y)=true:=by unfold SeqAt.shaped;rw[toD_lay y f.1,Bz (FV f.2 (by decide))];rfl
 have t:SeqAt.noMix (toD x) (toD y)=true:=by
  rcases k with⟨e,d⟩|⟨e,d⟩|⟨e,d⟩
  .exact lX _ _ (jv 9 x e) (jv 9 y d)
  .exact lX _ _ (u9 9 x e) (u9 9 y d)
  .exact lX _ _ (jv 60 x e) (jv 60 y d)
 have q:=h (same (toD x) (toD y)) (toD_same x y g.1 f.1);cases j with
 |true=>exact Pc E a s i H _ _ v u Q I r p ⟨_,_,CB g.1 D,CB f.1 C,⟨o,n,t⟩,c.now q (pD _)⟩
 |false=>exact Pb E a s i H _ _ v u Q I r p ⟨_,_,CB g.1 D,CB f.1 C,⟨o,n,t⟩,c.now q (pD _)⟩
private theorem gX(k:Key):v5 j (eO k)=decide (k=Ec j):=by
 cases k with
 |inr i=>
  show decide (i=j)=_;by_cases e:i=j
  .rw[e,Bz rfl,Bz rfl]
  .rw[Ee e,Ee (λz=>e (by cases z;rfl))]
 |inl x=>exact(Ee (λz=>by cases z)).symm
private theorem gY{K:Frag}:∀{kvs:List (Key×V)}{ws:List W},ai K B H ws (kvs.map (·.2))->(∃w v,dH j (kvs.map λx=>eO x.1) ws=some w/\jd kvs (.inr j)=some v/\Rep K B H w v)\/(dH j (kvs.map λx=>eO x.1) ws=none/\jd kvs (.inr j)=none)
 |[],ws,h=>.inr ⟨rfl,rfl⟩
 |x::kvs,[],h=>by have h:(x::kvs).map (·.2)=[]:=h;cases h
 |x::kvs,w::ws,h=>by
  obtain⟨v,r,e,b,a⟩:=h;cases e;by_cases e:x.1=Ec j
  .refine .inl ⟨w,x.2,?_,jq e,b⟩;show(if v5 j (eO x.1)=true then some w else _)=_;rw[BM (by rw[gX];exact Bz e)]
  .have c:dH j ((x::kvs).map λx=>eO x.1) (w::ws)=dH j (kvs.map λx=>eO x.1) ws:=by show(if v5 j (eO x.1)=true then some w else _)=_;rw[B1 (by rw[gX,Gc];exact e)]
   rw[c,jr e];exact gY a
private theorem Fo:∀{k l:Key},eO k=eO l->k=l
 |.inl i,.inl j,h=>by cases h;rfl
 |.inr i,.inr j,h=>by cases h;rfl
 |.inl i,.inr j,h=>by cases h
 |.inr i,.inl j,h=>by cases h
private theorem um:∀{k l:List (Key×V)},k.map (λx=>eO x.1)=l.map (λx=>eO x.1)->k.map (·.1)=l.map (·.1)
 |[],[],_=>rfl
 |[],_::_,h=>by cases h
 |_::_,[],h=>by cases h
 |a::k,b::l,h=>by rw[Fh,Fh]at h;obtain⟨d,c⟩:=OR h;rw[Fh,Fh,Fo d,um c]
private theorem Az(l:X.A.units+64<cLine):∀{ws:List W}{f e:List V},ai X.K B H ws f->ai X.K B H ws e->ws.all (lE 9)=true->JN X H f e
 |[],_,_,d,c,_=>by rw[d.nil_inv,c.nil_inv];exact trivial
 |w::ws,_,_,d,c,h=>by rw[Ai,AC]at h;obtain⟨v,r,rfl,k,j⟩:=d.cons_inv;obtain⟨m,n,rfl,i,g⟩:=c.cons_inv;have a:=u7 9 w (.inl h.1);exact⟨⟨toD w,CB a.1 k.b,CB a.1 i.b,toD_lay w a.1,a.2,lX _ _ (jv 9 w h.1) (jv 9 w h.1),toD_refl w a.1⟩,Az l j g h.2⟩
private theorem MU(o:X.A.units+64<cLine)(f:Bool):DE X (compareOp (if f then .NotEq else .Eq)) (ZQ f) mS:=by
 intro e s z H B x y N M v u P Q I d l g n m h c;have sc:∀a b:V,OE a b=true->(∀k:Bool,k=decide (a=b)->Q (.bl (if f then !k else k)) H)->RelV a v->RelV b u->wpAny (model X.prog X.w) X.A (compareOp (if f then .NotEq else .Eq) v u) (EP X e z Q) X.xe s:=λa b L q F E=>by
  cases f with
  |true=>exact Vx e s z H _ _ v u Q I F E ⟨L,q _ rfl⟩
  |false=>exact Vw e s z H _ _ v u Q I F E ⟨L,q _ rfl⟩
 cases x with
 |int i=>
  cases y with
  |int j=>
   cases n.int;cases m.int;refine sc _ _ rfl (λk t=>c.now (w:=.bl (if f then !k else k)) ?_ (pD _)) l g;rw[t,show decide (V.int i=V.int j)=decide (i=j)from by simp];exact h
  |_=>exact qB o f I l g n m h c
 |str i=>
  cases y with
  |str j=>
   cases n.str;cases m.str;refine sc _ _ rfl (λk t=>c.now (w:=.bl (if f then !k else k)) ?_ (pD _)) l g;rw[t,show decide (V.str i=V.str j)=decide (i=j)from by simp];exact h
  |_=>exact qB o f I l g n m h c
 |bl i=>
  cases y with
  |bl j=>
   cases n.bl;cases m.bl;refine sc _ _ rfl (λk t=>c.now (w:=.bl (if f then !k else k)) ?_ (pD _)) l g;rw[t,show decide (V.bl i=V.bl j)=decide (i=j)from by simp];exact h
  |_=>exact qB o f I l g n m h c
 |dct J D=>
  cases y with
  |dct R di=>obtain⟨⟨rfl,rfl,rfl,S⟩,h⟩:=h;obtain⟨p,C,rfl,_,h1,h2,Z⟩:=(show Rep X.K B H (.dct J D) N from n);obtain⟨O,r,rfl,_,Y,U,T⟩:=(show Rep X.K B H (.dct J D) M from m);exact JP o e s z H _ _ v u Q I l g ⟨p,O,C,r,rfl,rfl,h1,Y,um (h2.symm.trans U),Az o Z T S,c.now h (pD _)⟩
  |_=>exact qB o f I l g n m h c
 |_=>exact qB o f I l g n m h c
private theorem MV(f:Bool):DE X (compareOp (if f then .IsNot else .Is)) (ZS f) mS:=by
 intro a s m H B x y o E v u P Q I d z t g C h c;cases y with
 |aN=>
  have j:(∀k:Bool,k=decide (o=.aN)->P (.bl (if f then !k else k)))->wpAny (model X.prog X.w) X.A (compareOp (if f then .IsNot else .Is) v u) (EP X a m Q) X.xe s:=λq=>by
   cases f with
   |true=>exact II a s m H _ _ v u Q I z t ⟨C.aN,c.now (q _ rfl) (pD _)⟩
   |false=>exact OG a s m H _ _ v u Q I z t ⟨C.aN,c.now (q _ rfl) (pD _)⟩
  have i:o≠.aN->P (.bl f)->wpAny (model X.prog X.w) X.A (compareOp (if f then .IsNot else .Is) v u) (EP X a m Q) X.xe s:=λn q=>j λk r=>by rw[r,Ee n];cases f<;>exact q
  cases x with
  |aN=>refine j λk r=>?_;rw[r,g.aN];cases f<;>exact h
  |bl b=>exact i (λe=>by cases g.bl.symm.trans e) h
  |int b=>exact i (λe=>by cases g.int.symm.trans e) h
  |str b=>exact i (λe=>by cases g.str.symm.trans e) h
  |lst b=>obtain⟨p,D,l,_⟩:=g.lst;exact i (λe=>by cases l.symm.trans e) h
  |tup b=>obtain⟨p,D,l,_⟩:=g.tup;exact i (λe=>by cases l.symm.trans e) h
  |err b=>obtain⟨p,l,_⟩:=(show Rep X.K B H (.err b) o from g);exact i (λe=>by cases l.symm.trans e) h
  |_=>exact h.elim
 |_=>exact h.elim
private theorem qE{K:Frag}:∀{l:List Int}{vs:List V},ai K A H (l.map W.int) vs->vs=l.map V.int
 |[],_,h=>h.nil_inv
 |i::l,vs,h=>by obtain⟨x,r,rfl,b,a⟩:=h.cons_inv;rw[qE a];have:x=.int i:=b;rw[this];rfl
private theorem WD(n:X.A.units+64<cLine):DE X (compareOp .Lt) wLt mS:=by
 intro a s b H B x y f e v u P Q I d k g m l h c;cases x with
 |int i=>
  cases y with
  |int j=>exact uY (p:=λi j=>decide (i<j)) Vy a s b H B (.int i) (.int j) f e v u P Q I d k g m l h c
  |_=>exact h.elim
 |_=>exact h.elim
private theorem qF{K:Frag}:∀{l:List Str}{vs:List V},ai K A H (l.map W.str) vs->vs=l.map V.str
 |[],_,h=>h.nil_inv
 |i::l,vs,h=>by obtain⟨x,r,rfl,b,a⟩:=h.cons_inv;rw[qF a];have:x=.str i:=b;rw[this];rfl
private theorem vd(i:Str):∀l:List Str,Yj (.str i) (l.map V.str)=decide (i∈l)
 |[]=>rfl
 |x::l=>by
  have ih:=vd i l;unfold Yj at ih⊢;rw[Fh,Jq,ih];show((x==i)||_)=_;by_cases e:x=i
  .rw[GT.mpr e,Bz (show i∈x::l by rw[e];exact Ap)];rfl
  .rw[NM.mpr e,Yq];exact Qb.mpr ⟨AS _,λz=>(Do.mp z).resolve_left λq=>e q.symm⟩
private theorem qG:∀l:List Str,(l.map V.str).all lK=true
 |[]=>rfl
 |x::l=>qG l
private theorem WE:DE X (compareOp .In) wIn mS:=by
 intro a s b H B x y z w v u P Q I d k g t m h c;cases x with
 |str i=>
  cases t.str;cases y with
  |str j=>
   cases m.str;obtain⟨n,rfl,h⟩:=h;refine BX a s b H _ _ v u Q I k g ⟨_,j,rfl,rfl,?_⟩;rw[show tx [n]=⟨#[n]⟩from rfl,PySem.StrLaws.found_one];exact c.now h (pD _)
  |lst l=>obtain⟨f,rfl,h⟩:=h;obtain⟨p,r,rfl,q,o⟩:=m.lst;have e:=qF o;subst e;refine tZ a s b H _ _ v u Q I k g ⟨p,_,rfl,.inl (.inl q.rd),rfl,qG f,?_⟩;rw[vd];exact c.now h (pD _)
  |tup l=>obtain⟨f,rfl,h⟩:=h;obtain⟨p,r,rfl,q,o⟩:=m.tup;have e:=qF o;subst e;refine tZ a s b H _ _ v u Q I k g ⟨p,_,rfl,.inr q,rfl,qG f,?_⟩;rw[vd];exact c.now h (pD _)
  |_=>exact h.elim
 |_=>exact h.elim
private theorem wU{n:St}(I:Inv X b n H s):∀{l:List (List Int)}{vs:List V}{us:List Value},ai X.K B H (l.map λm=>W.lst (m.map W.int)) vs->Vals vs us->∃F:List Value->Prop,∀a:List Int,∀e:Value->Bool,(∀(q:Addr)(items:Array Value)(f:List Int),s.heap.IsList q items->IntsAre items.toList f->e (.ref q)=decide (f=a))->(us.any e=decide (a∈l))/\∀u∈us,∃q items f,u=.ref q/\s.heap.IsList q items/\IntsAre items.toList f
 |[],vs,us,h,r=>by obtain rfl:=h.nil_inv;cases r;exact⟨λ_=>True,λa e _=>⟨rfl,λu d=>by cases d⟩⟩
 |m::l,vs,us,h,r=>by
  obtain⟨v,M,rfl,J,E⟩:=h.cons_inv;cases r with
  |cons t w=>
  obtain⟨_,A⟩:=wU I E w;obtain⟨p,o,rfl,_,k,D⟩:=J;rw[qE D]at k;obtain⟨c,x,g,_⟩:=I.list (.inl k.rd);cases t;refine⟨λ_=>True,λa e j=>?_⟩;obtain⟨i1,C⟩:=A a e j;have i:=intsAre_of x;have L:=j p c.toArray m g.isList i;refine⟨?_,λu d=>?_⟩
  .rw[Jq,L,i1];by_cases q:m=a
   .rw[Bz q,Bz (show a∈m::l by rw[q];exact Ap)];rfl
   .rw[Ee q,Yq];exact Qb.mpr ⟨AS _,λz=>(Do.mp z).resolve_left λy=>q y.symm⟩
  .rcases Do.mp d with rfl|d
   .exact⟨p,c.toArray,m,rfl,g.isList,i⟩
   .exact C u d
open Classical in
private theorem PL(hu:X.A.units+64<cLine):DE X (compareOp .NotIn) Wx mS:=by
 intro O s σ H B x y vx vy v u P Q I d N M S R h c;cases x<;>try exact h.elim
 .rename_i j
  cases y<;>try exact h.elim
  cases S.str
  rename_i ks ws
  obtain⟨p,F,rfl,_,C,L,J⟩:=(show Rep X.K B H (.dct ks ws) vy from R);cases M;have e:(dH j ks ws).isSome=(jd F (.inr j)).isSome:=by rw[L];rcases gY (j:=j) J with⟨w,v',f,b,_⟩|⟨f,b⟩<;>rw[f,b]<;>rfl
  refine JA (by lia) I (m6.k (k:=Ec j) C) N λs' I'=>⟨.bl _,H,I',rfl,?_⟩;rw[<-e];exact c.now h (pD _)
 cases y<;>try exact h.elim
 obtain⟨E,l,rfl,rfl,h⟩:=h;obtain⟨p,vs,rfl,C,L⟩:=S.lst;obtain⟨p',vs',rfl,J,h4⟩:=R.lst;rw[qE L]at C;obtain⟨its,r,pl,_⟩:=I.list (.inl C.rd);obtain⟨a,r',D,_⟩:=I.list (.inl J.rd);cases N;cases M;have hi:=intsAre_of r;have u1:X.A.in1.units<cLine:=by show X.A.units+1<_;lia
 let e:Value->Bool:=λw=>decide (∃q items,w=.ref q/\s.heap.IsList q items/\IntsAre items.toList E)
 have T:∀(q:Addr)(items:Array Value)(g:List Int),s.heap.IsList q items->IntsAre items.toList g->e (.ref q)=decide (g=E):=λq items g f b=>by refine Qb.mpr ⟨λ⟨q2,t,Z,Y,U⟩=>?_,λz=>⟨q,items,rfl,f,by rw[<-z];exact b⟩⟩;cases Z;obtain⟨o,ho,_,n,hd⟩:=f;obtain⟨o',i,_,n',m⟩:=Y;rw[ho]at i;cases i;rw[hd]at m;cases m;exact qo b U
 obtain⟨_,k⟩:=wU I h4 r';obtain⟨k1,k2⟩:=k E e T;refine SeqAt.notIn_listAt e D.isList (λw hw=>?_) ⟨.bl _,H,I,rfl,?_⟩
 .obtain⟨q,items,g,rfl,f,b⟩:=k2 w (by simpa using hw);rw[T q items g f b];exact E5 f pl.isList b hi u1
 .rw[show a.toArray.any e=a.any e by simp,k1];exact c.now h (pD _)
private theorem ve(a:X.A.units+64<cLine)(op:CmpOp):DE X (compareOp op) (e9 op) mS:=by
 cases op with
 |Eq=>exact MU a false
 |NotEq=>exact MU a true
 |Lt=>exact WD a
 |LtE=>exact uY Vz
 |Gt=>exact uY VC
 |GtE=>exact uY VD
 |Is=>exact MV false
 |IsNot=>exact MV true
 |In=>exact WE
 |NotIn=>exact PL a
end
def ER(X:Cx)(b:Hp)(R:Addr->Prop):Prop:=∃E:XK,Passes (eu X.prog X.w) X E/\(∀C a,R C->aq b a->E (.ref C) none a)/\uR X (λC a=>R C/\aq b a)
private theorem CC:Passes (eu X.prog X.w) X E0:=λ_ _ _ _ _ _ _ h=>by obtain⟨_,_,_,_,_,q⟩:=h;exact q.elim
private theorem ER.none:ER X a λ_=>False:=⟨E0,CC,λ_ _ z=>z.elim,λ_ _ _ _ _ _ _ _ _ _ z=>z.1.elim⟩
private theorem ER.up(s:aq d H1)(h:ER X d R):ER X H1 R:=by obtain⟨E,p,l,k⟩:=h;exact⟨E,p,λC n i g=>l C n i (s.trans g),λb e H f m a C c I j q=>k b e H f m a C c I j ⟨q.1,s.trans q.2⟩⟩
abbrev RL:=(Addr->Prop)->Hp->Hp->W->V->Prop
abbrev WT:=Ev->(W->Prop)->Prop
def MW(K:Frag)(m:Md):RL:=λB H a w v=>dw K B H a m w v
def ρB(K:Frag):RL:=λB _ a w v=>bC K B a w v
def tV(X:Cx)(M:Ms)(R:Addr->Prop)(e:RL)(t:WT):TE:=λb H Q=>∃A d c P,SR X.K M A d b H c/\ER X d R/\t c P/\∀w v a,P w->aq H a->e (FB A M b) H a w v->Q v a
def tVT(X:Cx)(M:Ms)(R:Addr->Prop)(t:WT):TT:=λe H Q=>∃A c a P,SR X.K M A c e H a/\ER X c R/\t a P/\∀x d,P x->aq H d->∃b,x=.bl b/\Q b d
abbrev ZV:=(Addr->Prop)->Hp->List W->List V->Prop
def tVA(X:Cx)(M:Ms)(R:Addr->Prop)(g:ZV)(t:Ev->(List W->Prop)->Prop):TA:=λb H Q=>∃A f c P,SR X.K M A f b H c/\ER X f R/\t c P/\∀d e a,P d->aq H a->g (FB A M b) a d e->Q e a
abbrev VE(X:Cx)(M:Ms)(R:Addr->Prop)(m:Md)(e:Expr)(t:WT):Prop:=PE X e (tV X M R (MW X.K m) t)
abbrev VB(X:Cx)(M:Ms)(R:Addr->Prop)(e:Expr)(t:WT):Prop:=PE X e (tV X M R (ρB X.K) t)
abbrev VT(X:Cx)(M:Ms)(R:Addr->Prop)(e:Expr)(t:WT):Prop:=PT X e (tVT X M R t)
def nX(K:Frag)(B:Addr->Prop)(H:Hp):List W->List V->Prop
 |[],vs=>vs=[]
 |w::ws,vs=>∃v r,vs=v::r/\bC K B H w v/\nX K B H ws r
def ρL(K:Frag):ZV:=λB H a b=>ai K B H a b
def ZW(K:Frag):ZV:=λB H a b=>nX K B H a b
abbrev VA(X:Cx)(M:Ms)(R:Addr->Prop)(es:List Expr)(t:Ev->(List W->Prop)->Prop):Prop:=PA X es (tVA X M R (ρL X.K) t)
abbrev Uq(X:Cx)(M:Ms)(R:Addr->Prop)(es:List Expr)(t:Ev->(List W->Prop)->Prop):Prop:=PA X es (tVA X M R (ZW X.K) t)
private theorem PE.imp(h:PE X e t)(k:∀a H Q,t' a H Q->t a H Q):PE X e t':=λb s a H Q I w=>h b s a H Q I (k a H Q w)
private theorem PT.imp(h:PT X e t)(k:∀a H Q,t' a H Q->t a H Q):PT X e t':=λb s a H Q I w=>h b s a H Q I (k a H Q w)
private theorem PW.imp(h:PW X e t)(k:∀a H Q,t' a H Q->t a H Q):PW X e t':=λc b s a H Q I w=>h c b s a H Q I (k a H Q w)
private theorem PA.imp(h:PA X e t)(k:∀a H Q,t' a H Q->t a H Q):PA X e t':=λc b s a H Q I w=>h c b s a H Q I (k a H Q w)
section
variable{X:Cx}{M:Ms}{R:Addr->Prop}{e a b c:Expr}{t ta tb tc:WT}{m:Md}{pos:Pos}
private theorem CD(h:VE X M R m e t):VE X M R .s e t:=PE.imp h<|by rintro l H Q ⟨A,i,d,P,S,g,p,k⟩;exact⟨A,i,d,P,S,g,p,λw v j f s r=>k w v j f s (r.s S.dom)⟩
private theorem WG(h:VE X M R m e t):VB X M R e t:=PE.imp h<|by rintro l H Q ⟨A,i,d,P,S,g,p,k⟩;exact⟨A,i,d,P,S,g,p,λw v j f s r=>k w v j f s (r.rep S.dom).b⟩
private theorem Fq(h:PE X e (gI i))(r:aL M i->(i,.f)∈M):VB X M R e (λd Q=>match look d i with|some w=>Q w|none=>False):=PE.imp h<|by
 rintro x H Q ⟨A,B,d,P,S,z,p,k⟩
 revert p
 cases l:look d i with
 |none=>exact λp=>p.elim
 |some w=>
  intro p;by_cases n:aL M i
  .obtain⟨F,O⟩:=S.ow;obtain⟨v,j,g⟩:=O.val i .f w (r n) l;obtain⟨y,q,o,rfl,rfl,_,u,s⟩:=g;exact⟨_,j,k _ _ H p (aq.refl H) ⟨q,o,rfl,.inl u,s⟩⟩
  .obtain⟨v,j,g⟩:=S.sh i w n l;exact⟨v,j,k _ _ H p (aq.refl H) g.b⟩
private theorem PM(h:PE X e (gI i))(g:¬aL M i):VE X M R .s e (λd Q=>match look d i with|some w=>Q w|none=>False):=PE.imp h<|by
 rintro n H Q ⟨A,q,d,P,S,o,p,k⟩
 revert p
 cases f:look d i with
 |none=>exact λp=>p.elim
 |some w=>intro p;obtain⟨v,l,j⟩:=S.sh i w g f;exact⟨v,l,k _ _ H p (aq.refl H) (.of j)⟩
def qH(K:Frag)(i:Nat)(π:List j5):TE:=λd H Q=>∃v u,d[i]?=some (some v)/\Ia K H v π u/\Q u H
private theorem Ft{K:Frag}{f:St}{g:Ev}{w u:W}(S:SR K M A s f H g)(l:(i,m)∈M)(k:lS m π=some h)(n:look g i=some w)(j:cD w π=some u):
 ∃v d F,f[i]?=some (some v)/\Ia K H v π d/\Fp K A.B H h u d F:=by
 obtain⟨F,O⟩:=S.ow;obtain⟨v,p,o⟩:=O.val i m w l n;obtain⟨d,z,x,y,_,r,q,_⟩:=Fp.path π m o k j;exact⟨v,d,x,p,r,q⟩
private theorem wV{Q:W->Prop}(h:match look d i with|some w=>(match cD w π with|some u=>Q u|none=>False)|none=>False):∃w u,look d i=some w/\cD w π=some u/\Q u:=by
 cases g:look d i with
 |none=>rw[g]at h;exact h.elim
 |some w=>
  rw[g]at h;dsimp only at h;cases f:cD w π with
  |none=>rw[f]at h;exact h.elim
  |some u=>rw[f]at h;exact⟨w,u,rfl,f,h⟩
private theorem PN(h:PE X e (qH X.K i π))(r:(i,j)∈M)(o:lS j π=some .f):VB X M R e (λg Q=>match look g i with|some w=>(match cD w π with|some u=>Q u|none=>False)|none=>False):=PE.imp h<|by rintro C H Q ⟨A,J,g,P,S,I,p,k⟩;obtain⟨w,u,B,z,q⟩:=wV p;obtain⟨v,E,F,y,x,d⟩:=Ft S r o B z;obtain⟨D,n,l,rfl,rfl,_,d,s⟩:=d;exact⟨v,_,y,x,k _ _ H q (aq.refl H) ⟨n,l,rfl,.inl d,s⟩⟩
private theorem PR(h:PE X e (qH X.K i π))(n:(i,f)∈M)(l:lS f π=some .s):VE X M R .s e (λd Q=>match look d i with|some w=>(match cD w π with|some u=>Q u|none=>False)|none=>False):=PE.imp h<|by rintro z H Q ⟨A,C,d,P,S,B,p,k⟩;obtain⟨w,u,y,x,q⟩:=wV p;obtain⟨v,j,F,r,o,g⟩:=Ft S n l y x;dsimp only[Fp]at g;exact⟨v,j,r,o,k _ _ H q (aq.refl H) (.of g.2)⟩
private theorem CF(h:PE X e (tC v))(d:∀B H,Rep X.K B H w v):VE X M R .s e (λ_ Q=>Q w):=PE.imp h<|by rintro f H Q ⟨A,j,g,P,S,i,p,k⟩;exact k _ _ H p (aq.refl H) (.of (d _ _))
private theorem Fv(U:VB X M R a ta)(T:VB X M R b tb)(O:∀x y,JM op x y=m\/m=.s):VE X M R m (.BinOp a op b pos) (λi Q=>ta i λx=>tb i λy=>gM op x y Q):=by
 rintro j s g H Q I ⟨A,D,i,P,S,C,p,k⟩;refine wpAny_BinOp (bin U T I (R:=λn l f=>∃x y,gM op x y P/\aq H f/\bC X.K (FB A M g) f x n/\bC X.K (FB A M g) f y l) ⟨A,D,i,_,S,C,p,λx n H1 q B J=>⟨A,D,i,_,S.same B,C,q,λy l f o s2 F=>⟨x,y,o,B.trans s2,bC.same s2 J,F⟩⟩⟩ ?_);rintro v u s2 n l f Y rv L ⟨x,y,h,sm,q,o⟩;have d:=(S.same sm).dom;refine yT op j s2 g f (FB A M g) x y n l v u P Q Y d rv L q o h ?_;have c:Cont X.K (FB A M g) f m P Q:=λw z Z N E r=>k w z Z N (sm.trans E) (r.back sm λ_ z=>z);rcases O x y with e|e
 .rw[e];exact c
 .subst e;exact Cont.s d c
end
private theorem bw(h:truth x Q):∃b,x=.bl b/\Q b:=by
 cases x with
 |bl b=>exact⟨b,rfl,h⟩
 |_=>exact h.elim
private theorem Rep.kL{K:Frag}{b:Bool}(h:Rep K B H (.bl b) v):v=.bl b:=by dsimp only[Rep]at h;exact h
private theorem Rep.int_inv{K:Frag}{b:Int}(h:Rep K B H (.int b) v):v=.int b:=by dsimp only[Rep]at h;exact h
private theorem dw.aM{K:Frag}(h:dw K B H H' .s w v):Rep K B H' w v:=by obtain⟨F,_,_,h⟩:=h;obtain⟨rfl,h⟩:=h;exact h.less λp z=>.inl z
section
variable{X:Cx}{M:Ms}{R:Addr->Prop}{e a b c:Expr}{t ta tb tc:WT}{m:Md}{pos:Pos}{rest es:List Expr}
noncomputable def MX:W->Bool
 |.lst _=>true
 |_=>false
private theorem vf(h:MX x=true):∃l,x=.lst l:=by cases x<;>first|exact⟨_,rfl⟩|exact ff h
private theorem PU(h:gM op x y P)(d:(op=.Add/\(MX x=true\/MX y=true))\/(op=.Mult/\MX x=true)):JM op x y=.f:=by
 rcases d with⟨rfl,d|d⟩|⟨rfl,d⟩
 .obtain⟨l,rfl⟩:=vf d;rfl
 .obtain⟨l,rfl⟩:=vf d;cases x<;>first|rfl|exact h.elim
 .obtain⟨l,rfl⟩:=vf d;rfl
private theorem yU(ha:PE X a (tV X M R F ta))(hb:PE X b (tV X M R E tb))(h1:∀B H H' w v,Dom B H->F B H H' w v->bC X.K B H' w v)(h2:∀B H H' w v,Dom B H->E B H H' w v->bC X.K B H' w v)
 (ho:∀B H H' w v B2 g J L Y,F B H H' w v->E B2 g J L Y->(op=.Add/\(MX w=true\/MX L=true))\/(op=.Mult/\MX w=true)):VE X M R .f (.BinOp a op b pos) (λi Q=>ta i λx=>tb i λy=>gM op x y Q):=by
 rintro j s l H Q I ⟨A,U,i,P,S,T,p,k⟩;refine wpAny_BinOp (bin ha hb I (R:=λo n g=>∃x y,gM op x y P/\aq H g/\bC X.K (FB A M l) g x o/\bC X.K (FB A M l) g y n/\JM op x y=.f) ⟨A,U,i,_,S,T,p,λx o H1 D C O=>⟨A,U,i,_,S.same C,T,D,λy n g q s2 N=>⟨x,y,q,C.trans s2,bC.same s2 (h1 _ _ _ _ _ S.dom O),h2 _ _ _ _ _ (S.same C).dom N,PU q (ho _ _ _ _ _ _ _ _ _ _ O N)⟩⟩⟩ ?_);rintro v u s2 o n g I2 rv ru ⟨x,y,h,sm,D,q,em⟩;have d:=(S.same sm).dom;refine yT op j s2 l g (FB A M l) x y o n v u P Q I2 d rv ru D q h ?_;rw[em];exact λw z H' pw Z r=>k w z H' pw (sm.trans Z) (r.back sm λ_ z=>z)
private theorem PV(j:VE X M R .s a ta):VE X M R .s (.UnaryOp .USub a pos) (λd Q=>ta d λx=>match x with|.int i=>Q (.int (-i))|_=>False):=PE.imp (Vu OD j)<|by
 rintro q H Q ⟨A,o,d,P,S,l,p,k⟩;refine⟨A,o,d,_,S,l,p,λx r n f g h=>?_⟩;cases x with
 |int i=>exact⟨i,h.aM.int_inv,k _ _ n f g (.of (gO _))⟩
 |_=>exact f.elim
private theorem PY(i:VE X M R .s a ta):VE X M R .s (.UnaryOp .Not a pos) (λd Q=>ta d λx=>truth x λb=>Q (.bl (!b))):=PE.imp (Oj i)<|by rintro o H Q ⟨A,n,d,P,S,j,p,k⟩;refine⟨A,n,d,_,S,j,p,λx q l f g h=>?_⟩;obtain⟨b,rfl,f⟩:=bw f;exact⟨b,h.aM.kL,k _ _ l f g (.of (pD _))⟩
private theorem PZ(N:X.A.units+64<cLine)(O:behindInMarks op b=false)(U:VB X M R a ta)(T:VB X M R b tb):VE X M R .s (.Compare a [op] [b] pos) (λf Q=>ta f λx=>tb f λy=>e9 op x y Q):=by rintro g s i H Q I ⟨A,C,f,P,S,B,p,k⟩;refine wpAny_Compare1 (bin U T I (R:=λl j d=>∃x y,e9 op x y P/\aq H d/\bC X.K (FB A M i) d x l/\bC X.K (FB A M i) d y j) ⟨A,C,f,_,S,B,p,λx l H1 o q F=>⟨A,C,f,_,S.same q,B,o,λy j d n s2 E=>⟨x,y,n,q.trans s2,bC.same s2 F,E⟩⟩⟩ ?_) O;rintro v u s2 l j d Y rv J ⟨x,y,h,sm,o,n⟩;exact ve N op g s2 i d (FB A M i) x y l j v u P Q Y (S.same sm).dom rv J o n h λw z Z L D r=>k w z Z L (sm.trans D) (r.back sm λ_ z=>z)
private theorem P4(hu:X.A.units+64<cLine)(hm:behindInMarks op b=false)(ha:VB X M R a ta)(hb:VB X M R b tb):VT X M R (.Compare a [op] [b] pos) (λj Q=>ta j λx=>tb j λy=>e9 op x y Q):=by
 rintro d s i H Q I ⟨A,F,j,P,S,E,p,k⟩;have q:=bin ha hb I (R:=λn l g=>∃x y,e9 op x y P/\aq H g/\bC X.K (FB A M i) g x n/\bC X.K (FB A M i) g y l) ⟨A,F,j,_,S,E,p,λx n H1 C o N=>⟨A,F,j,_,S.same o,E,C,λy l g B s2 L=>⟨x,y,B,o.trans s2,bC.same s2 N,L⟩⟩⟩
  (f:=compareOp op) (Q:=EP X d i λz D=>∃b,z=.bl b/\Q b D)<|by rintro v u s2 n l g I2 rv O ⟨x,y,h,sm,C,B⟩;refine ve hu op d s2 i g (FB A M i) x y n l v u _ _ I2 (S.same sm).dom rv O C B h λw z D pw J r=>?_;obtain⟨b,rfl,q⟩:=k w D pw (sm.trans J);exact⟨b,r.aM.kL,q⟩
 refine wpAny_isTrue_Compare1 (bF q λv o Z=>bF Z λu s2 Y=>bF Y λc s3 ⟨z,H3,I3,T,b,ez,U⟩=>?_) hm;subst ez;cases T;exact SO ⟨H3,I3,U⟩
private theorem P5(r:VE X M R .s a ta)(p:VE X M R .s (.BoolOp .And (b::rest) pos) tb):VE X M R .s (.BoolOp .And (a::b::rest) pos) (λd Q=>ta d λx=>truth x λk=>if k=true then tb d Q else Q (.bl false)):=
 PE.imp (Oi r p)<|by
  rintro w H Q ⟨A,j,d,P,S,i,h,k⟩;refine⟨A,j,d,_,S,i,h,λx C v g f n=>?_⟩;obtain⟨q,rfl,g⟩:=bw g;refine⟨q,n.aM.kL,?_⟩;cases q with
  |true=>exact⟨A,j,d,_,S.same f,i,g,λy B u o s2 l=>k _ _ u o (f.trans s2) (l.back f λ_ z=>z)⟩
  |false=>exact k _ _ v g f (.of (pD _))
private theorem WH(r:VE X M R .s a ta)(p:VE X M R .s (.BoolOp .Or (b::rest) pos) tb):VE X M R .s (.BoolOp .Or (a::b::rest) pos) (λd Q=>ta d λx=>truth x λk=>if k=true then Q (.bl true)else tb d Q):=
 PE.imp (Vl r p)<|by
  rintro w H Q ⟨A,j,d,P,S,i,h,k⟩;refine⟨A,j,d,_,S,i,h,λx C v g f n=>?_⟩;obtain⟨q,rfl,g⟩:=bw g;refine⟨q,n.aM.kL,?_⟩;cases q with
  |false=>exact⟨A,j,d,_,S.same f,i,g,λy B u o s2 l=>k _ _ u o (f.trans s2) (l.back f λ_ z=>z)⟩
  |true=>exact k _ _ v g f (.of (pD _))
abbrev MY(X:Cx)(M:Ms)(R:Addr->Prop)(e:Expr)(t:WT):Prop:=PW X e (tVT X M R t)
private theorem JR(d:VT X M R a ta):MY X M R (.BoolOp .And [a] pos) ta:=Ab d
private theorem P6(d:VT X M R a ta):MY X M R (.BoolOp .Or [a] pos) ta:=DV d
private theorem P7(o:VT X M R a ta)(n:MY X M R (.BoolOp .And (b::rest) pos) tb):MY X M R (.BoolOp .And (a::b::rest) pos) (λd Q=>ta d λx=>truth x λk=>if k=true then tb d Q else Q (.bl false)):=
 PW.imp (DW o n)<|by
  rintro s H Q ⟨A,j,d,P,S,i,h,k⟩;refine⟨A,j,d,_,S,i,h,λx r f g=>?_⟩;obtain⟨q,rfl,f⟩:=bw f;refine⟨q,rfl,?_⟩;cases q with
  |true=>exact⟨A,j,d,P,S.same g,i,f,λy p l s2=>k _ p l (g.trans s2)⟩
  |false=>obtain⟨b,e,q⟩:=k _ r f g;cases e;exact q
private theorem WI(o:VT X M R a ta)(n:MY X M R (.BoolOp .Or (b::rest) pos) tb):MY X M R (.BoolOp .Or (a::b::rest) pos) (λd Q=>ta d λx=>truth x λk=>if k=true then Q (.bl true)else tb d Q):=
 PW.imp (Mw o n)<|by
  rintro s H Q ⟨A,j,d,P,S,i,h,k⟩;refine⟨A,j,d,_,S,i,h,λx r f g=>?_⟩;obtain⟨q,rfl,f⟩:=bw f;refine⟨q,rfl,?_⟩;cases q with
  |false=>exact⟨A,j,d,P,S.same g,i,f,λy p l s2=>k _ p l (g.trans s2)⟩
  |true=>obtain⟨b,e,q⟩:=k _ r f g;cases e;exact q
private theorem P8(i:VT X M R a ta):VT X M R (.UnaryOp .Not a pos) (λd Q=>ta d λx=>truth x λb=>Q (.bl (!b))):=PT.imp (DX i)<|by rintro o H Q ⟨A,n,d,P,S,j,h,k⟩;refine⟨A,n,d,_,S,j,h,λx l f g=>?_⟩;obtain⟨q,rfl,f⟩:=bw f;obtain⟨b,e,z⟩:=k _ l f g;cases e;exact⟨q,rfl,z⟩
private theorem yV(he:∀d,isTrue e X.env d=(do let v<-d;standAt e.pos;holding [v] (truthy v)))(h:VE X M R .s e t):VT X M R e t:=PT.imp (DU h he)<|by rintro p H Q ⟨A,o,f,P,S,l,h,k⟩;refine⟨A,o,f,P,S,l,h,λx q n j g i=>?_⟩;obtain⟨b,rfl,z⟩:=k _ n j g;exact⟨b,i.aM.kL,z⟩
private theorem Fw(r:VT X M R c tc)(u:VE X M R m a ta)(s:VE X M R m b tb):VE X M R m (.IfExp c a b pos) (λd Q=>tc d λx=>truth x λk=>if k=true then ta d Q else tb d Q):=PE.imp (DZ r u s)<|by
 rintro v H Q ⟨A,o,d,P,S,l,h,k⟩;refine⟨A,o,d,_,S,l,h,λx w g f=>?_⟩;obtain⟨q,rfl,g⟩:=bw g;refine⟨q,rfl,?_⟩;cases q with
 |true=>exact⟨A,o,d,_,S.same f,l,g,λy p n j s2 i=>k _ _ n j (f.trans s2) (i.back f λ_ z=>z)⟩
 |false=>exact⟨A,o,d,_,S.same f,l,g,λy p n j s2 i=>k _ _ n j (f.trans s2) (i.back f λ_ z=>z)⟩
private theorem P9:VA X M R [] (λ_ Q=>Q []):=PA.imp bV<|by rintro d H Q ⟨A,i,f,P,S,g,h,k⟩;exact k [] [] H h (aq.refl H) .nil
private theorem JS(r:starEach (a::es) X.env=(false,eval a X.env)::starEach es X.env)(v:VE X M R .s a ta)(u:VA X M R es i):VA X M R (a::es) (λd Q=>ta d λx=>i d λg=>Q (x::g)):=
 PA.imp (aS v u r)<|by rintro y H Q ⟨A,n,d,P,S,l,h,k⟩;refine⟨A,n,d,_,S,l,h,λx z C q j o=>⟨A,n,d,_,S.same j,l,q,λg B w f s2 p=>?_⟩⟩;exact k _ _ w f (j.trans s2) (.cons (o.aM.same s2) p)
private theorem JT:Uq X M R [] (λ_ Q=>Q []):=PA.imp bV<|by rintro d H Q ⟨A,i,f,P,S,g,h,k⟩;exact k [] [] H h (aq.refl H) rfl
private theorem Fx(u:starEach (a::es) X.env=(false,eval a X.env)::starEach es X.env)(w:VB X M R a ta)(v:Uq X M R es i):Uq X M R (a::es) (λd Q=>ta d λx=>i d λg=>Q (x::g)):=
 PA.imp (aS w v u)<|by rintro z H Q ⟨A,n,d,P,S,l,h,k⟩;refine⟨A,n,d,_,S,l,h,λx o B s j q=>⟨A,n,d,_,S.same j,l,s,λg p y f s2 r=>?_⟩⟩;exact k _ _ y f (j.trans s2) ⟨o,p,rfl,bC.same s2 q,r⟩
private theorem Qa(h:VA X M R es g):VE X M R .f (.List es pos) (λd Q=>g d λws=>ws.length<=sizeLine/\Q (.lst ws)):=PE.imp (yz h)<|by rintro r H Q ⟨A,q,d,P,S,o,h,k⟩;refine⟨A,q,d,_,S,o,h,λws s u l i j=>?_⟩;refine⟨by rw[ai.len j];exact l.1,λp n=>?_⟩;exact k _ _ _ l.2 (i.trans (aK n _)) (.fresh i n j)
private theorem Qc(h:VA X M R es f):VE X M R .s (.Tuple es l pos) (λd Q=>f d λws=>ws.length<=sizeLine/\Q (.tup ws)):=PE.imp (Em h)<|by rintro r H Q ⟨A,q,d,P,S,o,h,k⟩;refine⟨A,q,d,_,S,o,h,λws u v i n g=>?_⟩;refine⟨by rw[ai.len g];exact i.1,λp j=>?_⟩;exact k _ _ _ i.2 (n.trans (aK j _)) (.of (yS az (ai.same (aK j _) g)))
private theorem MZ{K:Frag}{w:W}(h:ai K B H l vs)(e:jg l i=some w):∃v,jg vs i=some v/\Rep K B H w v:=by
 unfold jg at e⊢;rw[h.len];cases d:Aj l.length i with
 |none=>rw[d]at e;exact nn e
 |some j=>rw[d]at e;exact h.get e
private theorem bC.eE{K:Frag}(h:bC K B H (.eE d) v):∃p,v=.ref p/\kC K H p (d.map V.int):=by
 have h:Rep K B H (.eE d) v:=h;obtain⟨p,e,h⟩:=h;refine⟨p,e,?_⟩;rcases h with⟨o,h⟩|h
 .exact .inl (.inr ⟨o,h⟩)
 .rcases h with(h|⟨o,h⟩)|h
  .cases h
  .cases h
  .exact .inr h
private theorem JU(e:jg d i=some n):jg (d.map V.int) i=some (.int n):=by
 unfold jg at e⊢;rw[FK];cases f:Aj d.length i with
 |none=>rw[f]at e;exact nn e
 |some j=>rw[f]at e;show(d.map V.int)[j]?=_;have e:d[j]?=some n:=e;rw[GM,e];rfl
private theorem WJ(hu:X.A.units+1<cLine)(hs:uO b)(ha:VB X M R a ta)(hb:VE X M R .s b tb):VE X M R .s (.Subscript a b pos) (λB Q=>ta B λx=>tb B λy=>Up x y Q):=PE.imp (VM (ON.or (JQ hu)) ha hb hs)<|by
 rintro T H Q ⟨A,O,B,P,S,N,h,k⟩;refine⟨A,O,B,_,S,N,h,λx Z H1 hx q f=>⟨A,O,B,_,S.same q,N,hx,λy Y u d s2 C=>?_⟩⟩;have f:=bC.same s2 f;cases x with
 |lst l=>
  cases y with
  |int i=>obtain⟨p,F,rfl,o,E⟩:=f.lst;obtain⟨w,e,d⟩:=d;obtain⟨v,J,D⟩:=MZ E e;exact .inl<|.inl ⟨p,F,i,v,rfl,C.aM.int_inv,.inl o.rd,J,k _ _ u d (q.trans s2) (.of D)⟩
  |_=>exact d.elim
 |tup l=>
  cases y with
  |int i=>obtain⟨p,F,rfl,o,E⟩:=f.tup;obtain⟨w,e,d⟩:=d;obtain⟨v,J,D⟩:=MZ E e;exact .inl<|.inr (.inl ⟨p,F,i,v,rfl,C.aM.int_inv,o,J,k _ _ u d (q.trans s2) (.of D)⟩)
  |_=>exact d.elim
 |eE ns=>
  cases y with
  |int i=>obtain⟨p,rfl,o⟩:=f.eE;obtain⟨n,e,d⟩:=d;exact .inl<|.inl ⟨p,_,i,_,rfl,C.aM.int_inv,o,JU e,k _ _ u d (q.trans s2) (.of (gO _))⟩
  |_=>exact d.elim
 |str z=>
  cases y with
  |int i=>
   cases f.str;obtain⟨hz,n,e,d⟩:=d;exact .inl<|.inr (.inr ⟨z,i,n,rfl,C.aM.int_inv,hz,e,k _ _ u d (q.trans s2) (.of (oA _))⟩)
  |_=>exact d.elim
 |dct ks U=>
  cases y with
  |str j=>
   obtain⟨p,kvs,rfl,_,o,E,D⟩:=(show Rep X.K (FB A M T) u (.dct ks U) Z from f);have e:Y=.str j:=C.aM;subst e;obtain⟨w,g,d⟩:=d;rw[E]at g;rcases gY (j:=j) D with⟨w',v,I,L,r⟩|⟨I,L⟩
   .rw[I]at g;cases g;exact .inr ⟨p,v,rfl,by rw[<-L];exact m6.k (k:=Ec j) o,k _ _ u d (q.trans s2) (.of r)⟩
   .rw[I]at g;cases g
  |_=>exact d.elim
 |_=>exact d.elim
private theorem Fy{K:Frag}(h:ai K B H l vs)(d f:Option Int):ai K B H (m8 l d f) (wm vs d f):=by unfold m8 wm;rw[h.len];exact(h.drop _).take _
def Qd(X:Cx)(M:Ms)(R:Addr->Prop)(t:Ev->(Option Int->Prop)->Prop):TO:=λh H Q=>∃A f d P,SR X.K M A f h H d/\ER X f R/\t d P/\∀o g,P o->aq H g->Q o g
private theorem PO.imp{e:Option Expr}{t t':TO}(h:PO X e t)(k:∀d H Q,t' d H Q->t d H Q):PO X e t':=λf s d H Q I w=>h f s d H Q I (k d H Q w)
private theorem JV:PO X none (Qd X M R λ_ Q=>Q none):=PO.imp IV<|by rintro d H Q ⟨A,i,f,P,S,g,h,k⟩;exact k none H h (aq.refl H)
private theorem JW(l:VE X M R .s a ta):PO X (some a) (Qd X M R λd Q=>ta d λy=>match y with|.int i=>Q (some i)|_=>False):=PO.imp (IX l)<|by
 rintro q H Q ⟨A,p,d,P,S,n,h,k⟩;refine⟨A,p,d,_,S,n,h,λx r o f g j=>?_⟩;cases x with
 |int i=>exact⟨i,j.aM.int_inv,k _ o f g⟩
 |_=>exact f.elim
private theorem WK(D:VB X M R a ta)(o:PO X w (Qd X M R tl))(j:PO X y (Qd X M R v)):VE X M R .f (.Subscript a (.Slice w y none p2) pos) (λd Q=>ta d λx=>tl d λl=>v d λh=>Ys x l h Q):=
 PE.imp (wk Jb D o j)<|by
  rintro F H Q ⟨A,u,d,P,S,s,h,k⟩;refine⟨A,u,d,_,S,s,h,λx J N C g n=>⟨A,u,d,_,S.same g,s,C,λl L o s2=>⟨A,u,d,_,S.same (g.trans s2),s,o,λh K j s3=>?_⟩⟩⟩;have n:=bC.same (s2.trans s3) n;cases x with
  |lst I=>obtain⟨p,z,rfl,r,E⟩:=n.lst;refine⟨p,z,rfl,.inl r.rd,λq i=>?_⟩;exact k _ _ _ j (((g.trans s2).trans s3).trans (aK i _)) (.fresh ((g.trans s2).trans s3) i (Fy E l h))
  |eE B=>obtain⟨p,rfl,r⟩:=n.eE;refine⟨p,_,rfl,r,λq i=>?_⟩;exact k _ _ _ j (((g.trans s2).trans s3).trans (aK i _)) (.fresh ((g.trans s2).trans s3) i (Fy (ai.Jz B) l h))
  |_=>exact j.elim
noncomputable def WL:BI->Md
 |.list=>.f
 |_=>.s
def kh(X:Cx)(f:Value)(b:BI):Prop:=
 ∀(d:List (Addr×Obj))(s:Shared)(g:St)(H:Hp)(B:Addr->Prop)(h:List W)(i:List V)(j:List Value)(P:KP)(Q:VK),Inv X d g H s->Dom B H->Vals i j->nX X.K B H h i->sE b h P->Cont X.K B H (WL b) P Q->
  wpAny (model X.prog X.w) X.A (call f j) (EP X d g Q) X.xe s
def Qe(K:Frag)(b:BI):List V->Hp->VK->Prop:=λf H Q=>∃(B:Addr->Prop)(d:List W)(P:KP),Dom B H/\nX K B H d f/\sE b d P/\Cont K B H (WL b) P Q
private theorem kh.r{b:BI}(h:kh X f b):cj X f (Qe X.K b):=by rintro g s i H l n Q I r ⟨B,j,P,d,p,o,k⟩;exact h g s i H B j l n P Q I d r p o k
private theorem fG{K:Frag}(h:nX K B H [w] vs):∃v,vs=[v]/\bC K B H w v:=by obtain⟨v,r,rfl,f,d⟩:=h;cases(show r=[]from d);exact⟨v,rfl,f⟩
private theorem M0{K:Frag}(h:nX K B H [w,w'] vs):∃v d,vs=[v,d]/\bC K B H w v/\bC K B H w' d:=by obtain⟨v,r,rfl,i,g⟩:=h;obtain⟨d,rfl,f⟩:=fG g;exact⟨v,d,rfl,i,f⟩
private theorem cw_len:kh X (.builtin "len") .len:=by
 intro f s k H B q u n P Q I d r o h c
 match q,h with
 |[.lst l],h=>obtain⟨v,rfl,g⟩:=fG o;obtain⟨p,i,rfl,g,j⟩:=g.lst;exact iL f s k H _ n Q I r ⟨p,i,rfl,.inl (.inl g.rd),c.now (w:=.int i.length) (by rw[j.len];exact h) (gO _)⟩
 |[.tup l],h=>obtain⟨v,rfl,g⟩:=fG o;obtain⟨p,i,rfl,g,j⟩:=g.tup;exact iL f s k H _ n Q I r ⟨p,i,rfl,.inr g,c.now (w:=.int i.length) (by rw[j.len];exact h) (gO _)⟩
 |[.eE ns],h=>obtain⟨v,rfl,g⟩:=fG o;obtain⟨p,rfl,j⟩:=g.eE;exact iL f s k H _ n Q I r ⟨p,_,rfl,.inl j,c.now (w:=.int ns.length) h (by rw[FK];exact gO _)⟩
 |[.str z],h=>obtain⟨v,rfl,g⟩:=fG o;cases g.str;exact uQ f s k H _ n Q I r ⟨z,rfl,h.1,c.now h.2 (gO _)⟩
private theorem cw_abs:kh X (.builtin "abs") .abs:=by
 intro f s g H B j o k P Q I d r l h c
 match j,h with
 |[.int i],h=>obtain⟨v,rfl,n⟩:=fG l;cases n.int;exact Eh f s g H _ k Q I r ⟨i,rfl,c.now h (gO _)⟩
private theorem cw_max(q:X.calm=true):kh X (.builtin "max") .max2:=by
 intro f s n H B w D o P Q I d r u h c
 match w,h with
 |[.int i,.int j],h=>obtain⟨v,E,rfl,g,k⟩:=M0 u;cases g.int;cases k.int;exact BZ q f s n H _ o Q I r ⟨i,j,rfl,c.now h (gO _)⟩
 |[.lst l],h=>obtain⟨x,rfl,y,h⟩:=h;obtain⟨v,rfl,g⟩:=fG u;obtain⟨p,C,rfl,g,k⟩:=g.lst;have e:=ai.ints k;subst e;exact Cp q f s n H _ o Q I r ⟨p,x,rfl,.inl g.rd,y,λm A z=>c.now (h m A z) (gO _)⟩
private theorem cw_all(n:X.calm=true):kh X (.builtin "all") .all:=by
 intro f s i H B j x k P Q I d r o h c
 match j,h with
 |[.lst l],h=>obtain⟨u,rfl,h⟩:=h;obtain⟨v,rfl,g⟩:=fG o;obtain⟨p,w,rfl,g,q⟩:=g.lst;have e:=ai.bls q;subst e;exact Cj n f s i H _ k Q I r ⟨p,u,rfl,.inl g.rd,c.now h (pD _)⟩
private theorem cw_list:kh X (.type "list") .list:=by
 intro f s n H B w x o P Q I d r u h c
 match w,h with
 |[.lst l],h=>obtain⟨v,rfl,g⟩:=fG u;obtain⟨p,j,rfl,g,k⟩:=g.lst;exact lM f s n H _ o Q I r ⟨p,j,rfl,.inl (.inl g.rd),λq i=>c _ _ _ h (aK i _) (.fresh (aq.refl H) i k)⟩
 |[.tup l],h=>obtain⟨v,rfl,g⟩:=fG u;obtain⟨p,j,rfl,g,k⟩:=g.tup;exact lM f s n H _ o Q I r ⟨p,j,rfl,.inr g,λq i=>c _ _ _ h (aK i _) (.fresh (aq.refl H) i k)⟩
private theorem cw_int:kh X (.type "int") .int:=by
 intro f s j H B o u k P Q I d r l h c
 match o,h with
 |[.bl i],h=>obtain⟨v,rfl,g⟩:=fG l;cases g.bl;exact B0 f s j H _ k Q I r (.inr ⟨i,rfl,c.now h (gO _)⟩)
 |[.str z],h=>obtain⟨v,rfl,g⟩:=fG l;cases g.str;obtain⟨n,q,p,h⟩:=h;exact Cv f s j H _ k Q I r ⟨z,n,rfl,q,p,c.now h (gO _)⟩
private theorem cw_str:kh X (.type "str") .str:=by
 intro f s j H B n o k P Q I d r l h c
 match n,h with
 |[.int i],h=>obtain⟨v,rfl,g⟩:=fG l;cases g.int;exact uL f s j H _ k Q I r ⟨i,rfl,h.1,c.now h.2 (oA _)⟩
 |[.str z],h=>obtain⟨v,rfl,g⟩:=fG l;cases g.str;exact Cu f s j H _ k Q I r ⟨z,rfl,c.now h (oA _)⟩
private theorem cw_dict:kh X (.type "dict") .dict:=by
 intro f s j H B k A n P Q I d r o h c
 match k,h with
 |[.dct ks l],h=>obtain⟨v,rfl,y⟩:=fG o;obtain⟨p,g,rfl,C,x,w,u⟩:=(show Rep X.K B H (.dct ks l) v from y);exact uZ f s j H _ n Q I r ⟨p,g,rfl,x,λq i=>c _ _ _ h (aK i _) (.of (by dsimp only[Rep];exact⟨q,g,rfl,λz=>d.no i z,az,w,ai.same (aK i _) u⟩))⟩
def wW(K:Frag):Prop:=∀a∈["int","tuple"],∀b∈["int","bool","tuple"],kitOne K (.type a) (.type b)=some (wO a b)
private theorem cw_isi(L:wW X.K):cj X (.builtin "isinstance") (λvs H Q=>∃(B:Addr->Prop)(w:W)(n:String)(P:KP),n∈["int","bool","tuple"]/\nX X.K B H [w,.ty n] vs/\sE .Cz [w,.ty n] P/\Cont X.K B H .s P Q):=by
 rintro d s y H vs Z Q I r ⟨B,w,n,P,J,N,h,c⟩;obtain⟨v,Y,rfl,u,O⟩:=M0 N;cases O.ty;obtain⟨a,g,h⟩:=h;have i:Q (.bl (wO a n)) H:=c.now h (pD _);obtain⟨C,A,rfl,k,D⟩:=vals2 r;cases(show A=Value.type n from D);have q:∀f,f∈["int","tuple"]->a=f->kitOne X.K (.type f) (.type n)=some (wO a n):=λf m e=>by rw[e];exact L f m n J
 have x:∀j:Tok,EP X d y Q (.bool (wO a n)) {s with toks:=j}:=λj=>⟨.bl _,H,I.tok _,rfl,i⟩;cases w with
 |int b=>
  cases u.int;cases g;exact B5 I k (.int b) (q _ (by simp) rfl) x
 |tup l=>obtain⟨p,U,rfl,E,q2⟩:=u.tup;cases g;cases(show C=Value.ref p from k);obtain⟨F,r',⟨o,T,S,_⟩,_⟩:=I.tuple E;exact NA PySem.W.kitx_tuple I.jh ⟨o,T,S⟩ (q _ (by simp) rfl) (λz=>nomatch z) x
 |_=>exact nn g
end
def yW(K:Frag)(n:Nat)(m:Md)(sp:aT):Sp:=λc H Q E=>∃A a P R,a.length=n/\ai K A H a c/\Dom A H/\sp a P R/\Cont K A H m P Q/\∀C b,R C->aq H b->E (.ref C) none b
def WM(K:Frag)(n:Nat)(h:Md)(sp:aT):Sp:=λi H Q E=>∃(b:Addr->Prop)(F:List Addr)(g:W)(f:V)(e:List W)(c:List V)(P:W->Prop)(R:Addr->Prop),i=f::c/\e.length+1=n/\F.Nodup/\(∀p∈F,¬b p)/\Dom b H/\Fp K (λp=>b p\/p∈F) H h g f F/\ai K (λp=>b p\/p∈F) H e c/\sp (g::e) P R/\
 (∀w y v d a,P (.tup [w,y])->sL (·∈F) H a->d.Nodup->(∀p∈d,p∈F\/H p=none)->Fp K (λp=>b p\/p∈d) a h y f d->Rep K (λp=>b p\/p∈d) a w v->Q v a)/\(∀C a,R C->sL (·∈F) H a->E (.ref C) none a)
def nY(K:Frag)(n:Nat)(m:Md)(sp:aT):Sp:=
 match m with
 |.io a=>WM K n a sp
 |m=>yW K n m sp
def lY(P:Program)(w:World)(K:Frag)(mg:Str->Option Value)(b:Heap)(k:Nat)(st:Stmt)(q x:Str)(n:Nat)(S:aT):Prop:=∀(A:Around)(a:List Env)(s:Shared)(H:Hp)(g:List Value)(e:List V)(Q:VK)(E:XK)(y:W)(f:Addr)(c:Addr->Prop)(d:List W)(h:W->Prop)(R:Addr->Prop),bZ k A->p8 P w K mg b A a s H->Rep K c H (.j4 st q x y) (.ref f)->Vals e g->
 d.length=n->ai K c H d e->Dom c H->S (y::d) h R->Cont K c H .s h Q->(∀C i,R C->aq H i->E (.ref C) none i)->codeAny (model P w) A (.call (.ref f) ⟨g,[]⟩) (CR (eu P w) a P w H s Q E) s
inductive bW(P:Program)(w:World)(K:Frag)(mg:Str->Option Value)(base:Heap):Nat->Value->Nat->Sp->Prop where
 |fn {k:Nat} {f:Addr} {fd:FuncData} {ps:List Str} {sp:Sp} (kp:keepIn K (.ref f)=true) (b:Binds K fd ps []) (F:bL P w K mg base (eu P w) k f fd ps sp):bW P w K mg base k (.ref f) ps.length sp
 |mk {k n:Nat} {C f:Addr} {fd:FuncData} {ps:List Str} {sp spi:Sp} (M:Mk K C f) (b:Binds K fd ps []) (F:bL P w K mg base (eu P w) k f fd ps spi)
  (h:∀vs H Q E,sp vs H Q E->∀x dx,H x=none->H dx=none->dx≠x->spi (.ref x::vs) (upd (upd H dx (.own x)) x (.ins C dx [])) (λv H2=>v=.aN/\Q (.ref x) H2) E):bW P w K mg base (k+1) (.ref C) n sp
private theorem bW.keep{K:Frag}{b:Value}{sp:Sp}(c:bW P w K mg a k b n sp):keepIn K b=true:=by
 cases c with
 |fn kp _ _=>exact kp
 |mk M _ _ _=>exact M.kp
private theorem bW.run{d:St}{H:Hp}{s:Shared}{Q:VK}{E:XK}{us:List Value}{vs:List V}(c:bW X.prog X.w X.K X.mg X.base k i n sp)(g:bZ k X.A)(f:∀H s e s',Inv X a d H s->eu X.prog X.w X.stack H s E e s'->X.xe e s')(I:Inv X a d H s)(r:Vals vs us)(h:sp vs H Q E):
 wpAny (model X.prog X.w) X.A (call i us) (EP X a d Q) X.xe s:=by
 cases c with
 |fn q b F=>exact p9 (ds:=[]) (B8:=[]) F g b .nil f I r (by rw[Kx];exact h)
 |mk M b F l=>exact En (ds:=[]) (B8:=[]) M F g b .nil f I r (λx p o m j=>by rw[Kx];exact l vs H Q E h x p o m j)
section
variable{X:Cx}{M:Ms}{R:Addr->Prop}{e a b c:Expr}{t ta tb tc:WT}{m:Md}{pos p:Pos}{es:List Expr}{x:Str}
private theorem AA(F:bW X.prog X.w X.K X.mg X.base k O n (yW X.K n m sp))(hr:bZ k X.A)(hg:Gl X x)(hm:X.mg x=some O)
 (hn:∀ws P R,sp ws P R->ws.length=n)(ha:VA X M R (e::es) B)(u:(x==("__debug__":Str))=false)(he:starEach (e::es) X.env=(false,eval e X.env)::starEach es X.env)(q:(backTo pos (starEach es X.env)).any (·.1)=false):
 VE X M R m (.Call (.Name x p) (e::es) [] pos) (λi Q=>B i λws=>sp ws Q R):=by
 rintro d s g H Q I ⟨A,H0,i,P,S,er,h,kk⟩;obtain⟨E,J,N,hR⟩:=er;refine Pm (iG I hg hm ?_ u);refine Pi (h₀:=X.base) I.ok.mod.DR F.keep (bF (ha pos d s g H (λj f=>∃ws,aq H f/\ai X.K (FB A M g) f ws j/\sp ws P R) I ⟨A,H0,i,_,S,⟨E,J,N,hR⟩,h,λws j f hw D o=>⟨ws,D,o,hw⟩⟩) λus D ⟨j,f,T,r,ws,sm,o,L⟩=>⟨T.jh,?_⟩) he q;exact F.run hr (J _ _) T r ⟨FB A M g,ws,P,R,hn _ _ _ L,o,(S.same sm).dom,L,λw v y Z l Y=>kk w v y Z (sm.trans l) (Y.back sm λ_ z=>z),λC y U l=>N C y U (S.sm.trans (sm.trans l))⟩
private theorem Qf(E:cj X (.builtin l) (Qe X.K bi))(D:Gl X x)(C:X.mg x=none)(y:bootBuiltins x=some (.builtin l))(F:Uq X M R (e::es) j)(B:x≠"__name__")(i:(x==("__debug__":Str))=false)
 (he:starEach (e::es) X.env=(false,eval e X.env)::starEach es X.env)(g:(backTo pos (starEach es X.env)).any (·.1)=false):VE X M R (WL bi) (.Call (.Name x p) (e::es) [] pos) (λd Q=>j d λws=>sE bi ws Q):=
 PE.imp (gS E D C y F B i he g)<|by rintro n H Q ⟨A,J,d,P,S,I,h,k⟩;exact⟨A,J,d,_,S,I,h,λws N O u f q=>⟨FB A M n,ws,P,(S.same f).dom,q,u,λw v L s o r=>k w v L s (f.trans o) (r.back f λ_ z=>z)⟩⟩
private theorem Qg(E:cj X (.type l) (Qe X.K bi))(D:Gl X x)(C:X.mg x=none)(y:bootBuiltins x=some (.type l))(F:Uq X M R (e::es) j)(B:x≠"__name__")(i:(x==("__debug__":Str))=false)
 (he:starEach (e::es) X.env=(false,eval e X.env)::starEach es X.env)(g:(backTo pos (starEach es X.env)).any (·.1)=false):VE X M R (WL bi) (.Call (.Name x p) (e::es) [] pos) (λd Q=>j d λws=>sE bi ws Q):=
 PE.imp (mU E D C y F B i he g)<|by rintro n H Q ⟨A,J,d,P,S,I,h,k⟩;exact⟨A,J,d,_,S,I,h,λws N O u f q=>⟨FB A M n,ws,P,(S.same f).dom,q,u,λw v L s o r=>k w v L s (f.trans o) (r.back f λ_ z=>z)⟩⟩
private theorem Qh(T:wW X.K)(i:n∈["int","bool","tuple"])(U:Gl X x)(O:X.mg x=none)(L:bootBuiltins x=some (.builtin "isinstance"))(Z:VB X M R a ta)(Y:VB X M R b (λ_ Q=>Q (.ty n)))(N:x≠"__name__")(j:(x==("__debug__":Str))=false)
 (he:starEach [a,b] X.env=(false,eval a X.env)::starEach [b] X.env)(WO:starEach [b] X.env=(false,eval b X.env)::starEach [] X.env)(g:(backTo pos (starEach [b] X.env)).any (·.1)=false):
 VE X M R .s (.Call (.Name x p) [a,b] [] pos) (λd Q=>ta d λw=>sE .Cz [w,.ty n] Q):=
 PE.imp (gS (cw_isi T) U O L (aS Z (aS Y bV WO) he) N j he g)<|by rintro y H Q ⟨A,u,d,P,S,q,h,k⟩;refine⟨A,u,d,_,S,q,h,λw v H1 J f F=>⟨A,u,d,λl=>l=.ty n,S.same f,q,rfl,λl o H2 AB s2 E=>?_⟩⟩;subst AB;exact⟨FB A M y,w,n,P,i,⟨v,[o],rfl,bC.same s2 F,o,[],rfl,E,rfl⟩,J,λB C H' I D r=>k B C H' I ((f.trans s2).trans D) (r.back (f.trans s2) λ_ z=>z)⟩
private theorem JX(q:VE X M R .s a ta)(g:attributeBase a "bit_length" X.env (eval a X.env)=eval a X.env)(f:(apos.endLine==d.line)=true):
 VE X M R .s (.Call (.Attribute a "bit_length" apos) [] [] d) (λj Q=>ta j λx=>match x with|.int i=>Q (.int (Builtin.Int.intBits i:Nat))|_=>False):=
 PE.imp (Es PySem.F.plainAttrs_int PySem.F.slot_int_bit_length PySem.F.type_int_bit_length Jt q g f)<|by
  rintro z H Q ⟨A,y,j,P,S,r,h,k⟩;refine⟨A,y,j,_,S,r,h,λw v u l n o=>?_⟩;cases w with
  |int i=>have e:=o.aM.int_inv;subst e;exact⟨rfl,i,rfl,rfl,k _ _ u l n (.of (gO _))⟩
  |_=>exact l.elim
end
inductive CG(K:Frag)(br:Bool)(B:Addr->Prop)(H:Hp):It->List W->Prop where
 |lst {a:Addr} {vs:List V} {ws:List W} (h:Rz H a (.lst vs)) (n:br=false->¬B a) (r:ai K B H ws vs):CG K br B H (Zd K a) ws
 |tup {a:Addr} {vs:List V} {ws:List W} (h:lF K H a vs) (r:ai K B H ws vs):CG K br B H (Ze K a) ws
 |pT (lo:Int) (n:Nat):CG K br B H (Vr lo n) (fh lo 1 n)
 |JY (lo st:Int) (n:Nat):CG K br B H (Yo lo st n) (fh lo st n)
 |yf {a:Addr} {vs:List V} {ws:List W} (h:Rz H a (.lst vs)) (n:br=false->¬B a) (r:ai K B H ws vs):CG K br B H (ZK K a) (qy ws)
structure IW(K:Frag)(B:Addr->Prop)(Hs:Hp)(J:It)(ws:List W):Prop where
 go:∀i H,aq Hs H->i<ws.length->J.go i H
 yl:∀i H x H' w,aq Hs H->ws[i]?=some w->J.Vq i H x H'->aq H H'/\∀B':Addr->Prop,(∀p o,Hs p=some o->B' p->B p)->Rep K B' H' w x
 st:∀i H,aq Hs H->i=ws.length->J.stop i H
private theorem lZ(a st:Int)(n:Nat):(fh a st n).length=n:=by unfold fh;simp
private theorem wY{b st:Int}{n i:Nat}(h:(fh b st n)[i]?=some w):w=.int (b+i*st)/\i<n:=by
 unfold fh at h;rw[GM]at h;by_cases a:i<n
 .rw[ar a]at h;cases h;exact⟨rfl,a⟩
 .rw[ax (by simpa using a)]at h;cases h
private theorem uo(l:List W):(qy l).length=l.length:=by unfold qy;simp
private theorem CH{i:Nat}(h:(qy l)[i]?=some w):∃x,l[i]?=some x/\w=.tup [.int i,x]:=by
 unfold qy at h;rw[List.getElem?_zipWith]at h;by_cases a:i<l.length
 .rw[ar a,Da a]at h;cases h;exact⟨_,Da a,rfl⟩
 .rw[ax (by simpa using a)]at h;cases h
private theorem CG.iw{K:Frag}(h:CG K br B k J ws):IW K B k J ws:=by
 cases h with
 |@lst a c _ h n r=>
  have q:∀H,aq k H->kC K H a c:=λH s=>.inl (VL.aq.rd s h.rd);refine⟨λi H s b=>?_,λi H x l w s f y=>?_,λi H s b=>⟨c,q H s,by rw[r.len,b];exact BY _⟩⟩
  .have d:i<c.length:=by rw[r.len];exact b
   exact⟨c,c[i],q H s,Da d⟩
  .obtain⟨rfl,y⟩:=y;obtain⟨v,e,g⟩:=r.get f;have:=y c (q _ s);rw[e]at this;cases this;exact⟨aq.refl _,λm j=>Rep.mv s j w g⟩
 |@tup a c _ h r=>
  have q:∀H,aq k H->lF K H a c:=λH s=>L2.aq.tup s h;refine⟨λi H s b=>?_,λi H x l w s f y=>?_,λi H s b=>⟨c,q H s,by rw[r.len,b];exact BY _⟩⟩
  .have d:i<c.length:=by rw[r.len];exact b
   exact⟨c,c[i],q H s,Da d⟩
  .obtain⟨rfl,y⟩:=y;obtain⟨v,e,g⟩:=r.get f;have:=y c (q _ s);rw[e]at this;cases this;exact⟨aq.refl _,λm j=>Rep.mv s j w g⟩
 |pT z n=>refine⟨λi H s b=>by rw[lZ]at b;exact b,λi H x l w s f y=>?_,λi H s b=>by rw[lZ]at b;exact Vf b.symm⟩;obtain⟨rfl,rfl⟩:=y;obtain⟨rfl,_⟩:=wY f;exact⟨aq.refl _,λm _=>by rw[ky];exact gO _⟩
 |JY z D n=>refine⟨λi H s b=>by rw[lZ]at b;exact b,λi H x l w s f y=>?_,λi H s b=>by rw[lZ]at b;exact Vf b.symm⟩;obtain⟨rfl,rfl⟩:=y;obtain⟨rfl,_⟩:=wY f;exact⟨aq.refl _,λm _=>gO _⟩
 |@yf a c ws h n r=>
  have q:∀H,aq k H->kC K H a c:=λH s=>.inl (VL.aq.rd s h.rd);refine⟨λi H s b=>?_,λi H x l w s f y=>?_,λi H s b=>⟨c,q H s,by rw[r.len,b,uo]⟩⟩
  .rw[uo]at b;have d:i<c.length:=by rw[r.len];exact b
   exact⟨c,c[i],q H s,Da d⟩
  .obtain⟨p,y,C,rfl,rfl,A⟩:=y;obtain⟨u,o,rfl⟩:=CH f;obtain⟨v,e,g⟩:=r.get o;have t:=A c (q _ s);rw[e]at t;obtain rfl:v=y:=Fs t;have s2:=aK (H:=H) C (.tup [.int i,v]);exact⟨s2,λm j=>yS az (.cons (gO _) (.cons (Rep.mv (s.trans s2) j u g) .nil))⟩
noncomputable def itemsOf:W->Option (List W)
 |.lst l=>some l
 |.tup l=>some l
 |_=>none
private theorem uq:items z Q↔∃ws,itemsOf z=some ws/\Q ws:=by
 cases z<;>simp[items,itemsOf]
def Ie(X:Cx)(M:Ms)(R:Addr->Prop)(br:Bool)(t:WT):TI:=λb H Q=>∃A e c P,SR X.K M A e b H c/\ER X e R/\t c P/\∀z,P z->∃d,itemsOf z=some d/\∀J a,aq H a->CG X.K br (FB A M b) a J d->Q J a
private theorem PI.imp(h:PI X tg e t)(k:∀a H Q,t' a H Q->t a H Q):PI X tg e t':=λb s a H Q I w=>h b s a H Q I (k a H Q w)
section
variable{X:Cx}{M:Ms}{R:Addr->Prop}{e a b c tg:Expr}{t ta tb tc:WT}{m:Md}{pos p:Pos}{es:List Expr}{x:Str}{br:Bool}
private theorem Qi(y:PE X l tl):PI X tg l (λk H Q=>tl k H λx H1=>∃a,x=.ref a/\(((∃g,kC X.K H1 a g)/\Q (Zd X.K a) H1)\/((∃g,lF X.K H1 a g)/\Q (Ze X.K a) H1))):=by
 intro i s k H Q I h;refine bF (y i s k H _ I h) ?_;rintro v d ⟨x,H1,f,u,w⟩;obtain⟨a,e,q⟩:=w;subst e;cases u;rcases q with⟨⟨g,n⟩,q⟩|⟨⟨g,n⟩,q⟩
 .obtain⟨j,rv,p,hz⟩:=f.list n;refine wpAny_pyIter_list p.isList ?_;refine⟨d.heap.objs.size,[d.heap.objs.size],_,_,H1,rfl,f.kept (t':=d.toks) λb o e=>Bi _ e,BS a _,⟨_,Hb _ rfl,rfl,rfl⟩,λb r=>?_,q⟩;have e:b=d.heap.objs.size:=by simpa using r
  subst e;exact f.BR (BY _) (f.hok.fresh (BY _))
 .obtain⟨j,rv,p,hz⟩:=f.tuple n;refine wpAny_pyIter_tuple (show d.heap.IsTuple a j.toArray from p) ?_;refine⟨d.heap.objs.size,[d.heap.objs.size],_,_,H1,rfl,f.kept (t':=d.toks) λb o e=>Bi _ e,yq a _,⟨_,Hb _ rfl,rfl,rfl⟩,λb r=>?_,q⟩;have e:b=d.heap.objs.size:=by simpa using r
  subst e;exact f.BR (BY _) (f.hok.fresh (BY _))
def Ur(K:Frag)(br:Bool):RL:=λB _ d w v=>bC K B d w v/\(br=false->Rep K B d w v)
private theorem l6(h:VE X M R m e t):PE X e (tV X M R (Ur X.K br) t):=PE.imp h<|by rintro l H Q ⟨A,i,d,P,S,g,p,k⟩;exact⟨A,i,d,P,S,g,p,λw v j f s r=>k w v j f s ⟨(r.rep S.dom).b,λ_=>r.rep S.dom⟩⟩
private theorem WQ(h:VB X M R e t):PE X e (tV X M R (Ur X.K true) t):=PE.imp h<|by rintro l H Q ⟨A,i,d,P,S,g,p,k⟩;exact⟨A,i,d,P,S,g,p,λw v j f s r=>k w v j f s ⟨r,λz=>by cases z⟩⟩
private theorem Ur.lst{K:Frag}{B:Addr->Prop}{H H':Hp}{l:List W}{v:V}(h:Ur K br B H H' (.lst l) v):∃p vs,v=.ref p/\Rz H' p (.lst vs)/\(br=false->¬B p)/\ai K B H' l vs:=by obtain⟨p,vs,rfl,f,d⟩:=h.1.lst;refine⟨p,vs,rfl,f,λe=>?_,d⟩;have:=h.2 e;obtain⟨i,_,g,n,_⟩:=this;cases g;exact n
private theorem gP(r:PE X a (tV X M R (Ur X.K br) ta)):PI X tg a (Ie X M R br ta):=PI.imp (Qi r)<|by
 rintro y H Q ⟨A,w,q,P,S,u,h,k⟩;refine⟨A,w,q,P,S,u,h,λz v o hz j n=>?_⟩;obtain⟨B,g,k⟩:=k z hz;cases z with
 |lst l=>
  cases g;obtain⟨p,f,rfl,d,i,s⟩:=n.lst;exact⟨p,rfl,.inl ⟨⟨f,.inl d.rd⟩,k _ o j (.lst d i s)⟩⟩
 |tup l=>
  cases g;obtain⟨p,f,rfl,d,i⟩:=n.1.tup;exact⟨p,rfl,.inr ⟨⟨f,d⟩,k _ o j (.tup d i)⟩⟩
 |_=>exact nn g
private theorem Qj(w:Gl X "enumerate")(s:X.mg "enumerate"=none)(y:PE X a (tV X M R (Ur X.K br) ta))(g:starEach [a] X.env=(false,eval a X.env)::starEach [] X.env):
 PI X (.Tuple d r n) (.Call (.Name "enumerate" p) [a] [] pos) (Ie X M R br (λf Q=>ta f λx=>match x with|.lst l=>Q (.lst (qy l))|_=>False)):=
 PI.imp (Jv w s (aS y bV g) rfl g)<|by
  rintro I H Q ⟨A,F,f,P,S,D,h,k⟩;refine⟨A,F,f,_,S,D,h,λz v E hz o q=>?_⟩;cases z with
  |lst l=>obtain⟨J,u,k⟩:=k _ hz;cases u;obtain⟨p,j,rfl,i,C,B⟩:=q.lst;exact⟨p,rfl,⟨j,.inl i.rd⟩,k _ E o (.yf i C B)⟩
  |_=>exact hz.elim
private theorem JZ(u:Gl X "range")(q:X.mg "range"=none)(v:VE X M R .s a ta)(f:starEach [a] X.env=(false,eval a X.env)::starEach [] X.env):
 PI X tg (.Call (.Name "range" p) [a] [] pos) (Ie X M R br (λd Q=>ta d λx=>JI [x] λl=>Q (.lst l))):=
 PI.imp (BU u q (aS v bV f) f)<|by
  rintro B H Q ⟨A,z,d,P,S,w,h,k⟩;refine⟨A,z,d,_,S,w,h,λx C y hz g i=>?_⟩;cases x with
  |int j=>obtain⟨o,n,hz⟩:=hz;obtain⟨D,r,k⟩:=k _ hz;cases r;cases i.aM.int_inv;exact⟨j,rfl,o,n,k _ y g (.pT 0 j.toNat)⟩
  |_=>exact hz.elim
private theorem J0(B:Gl X "range")(w:X.mg "range"=none)(D:VE X M R .s a ta)(C:VE X M R .s b tb)(n:starEach [a,b] X.env=(false,eval a X.env)::starEach [b] X.env)(d:starEach [b] X.env=(false,eval b X.env)::starEach [] X.env):
 PI X tg (.Call (.Name "range" p) [a,b] [] pos) (Ie X M R br (λf Q=>ta f λx=>tb f λy=>JI [x,y] λl=>Q (.lst l))):=
 PI.imp (BV B w (aS D (aS C bV d) n) (by rw[n,d];rfl) d)<|by
  rintro F H Q ⟨A,q,f,P,S,o,h,k⟩;refine⟨A,q,f,_,S,o,h,λx J L hz g u=>⟨A,q,f,_,S.same g,o,hz,λy I E hz s2 r=>?_⟩⟩;cases x with
  |int i=>
   cases y with
   |int j=>obtain⟨v,hz⟩:=hz;obtain⟨K,z,k⟩:=k _ hz;cases z;cases u.aM.int_inv;cases r.aM.int_inv;exact⟨i,j,rfl,v,k _ E (g.trans s2) (.pT i (j -i).toNat)⟩
   |_=>exact hz.elim
  |_=>exact hz.elim
private theorem J1(F:Gl X "range")(D:X.mg "range"=none)(K:VE X M R .s a ta)(J:VE X M R .s b tb)(I:VE X M R .s c tc)(u:starEach [a,b,c] X.env=(false,eval a X.env)::starEach [b,c] X.env)(f:starEach [b,c] X.env=(false,eval b X.env)::starEach [c] X.env)(q:starEach [c] X.env=(false,eval c X.env)::starEach [] X.env):
 PI X tg (.Call (.Name "range" p) [a,b,c] [] pos) (Ie X M R br (λd Q=>ta d λx=>tb d λy=>tc d λz=>JI [x,y,z] λl=>Q (.lst l))):=
 PI.imp (Cm F D (aS K (aS J (aS I bV q) f) u) (by rw[u,f,q];rfl) (by rw[f,q];rfl))<|by
  rintro N H Q ⟨A,r,d,P,S,o,h,k⟩;refine⟨A,r,d,_,S,o,h,λx U H1 hz g B=>⟨A,r,d,_,S.same g,o,hz,λy T Z hz s2 w=>⟨A,r,d,_,S.same (g.trans s2),o,hz,λz O L hz s3 v=>?_⟩⟩⟩;cases x with
  |int i=>
   cases y with
   |int j=>
    cases z with
    |int l=>obtain⟨n,C,hz⟩:=hz;obtain⟨Y,E,k⟩:=k _ hz;cases E;cases B.aM.int_inv;cases w.aM.int_inv;cases v.aM.int_inv;exact⟨i,j,l,n,rfl,C,k _ L ((g.trans s2).trans s3) (.JY i l n)⟩
    |_=>exact hz.elim
   |_=>exact hz.elim
  |_=>exact hz.elim
end
noncomputable def up(M:Ms)(n:Nat):Ms:=M.map λx=>(x.1+n,x.2)
section
variable{K:Frag}{M:Ms}{A:Fz}{H0 H H1:Hp}{σ v0:St}{ε δ:Ev}
private theorem m9:(i,m)∈up M n↔n<=i/\(i -n,m)∈M:=by
 unfold up;rw[IH];constructor
 .rintro⟨⟨j,b⟩,a,e⟩;cases e;exact⟨fy _ _,by rw[Of];exact a⟩
 .rintro⟨h,a⟩;exact⟨(i -n,m),a,by simp;omega⟩
private theorem dZ:aL (up M n) i↔n<=i/\aL M (i -n):=by
 constructor
 .rintro⟨m,h⟩;exact⟨(m9.mp h).1,m,(m9.mp h).2⟩
 .rintro⟨h,m,a⟩;exact⟨m,m9.mpr ⟨h,a⟩⟩
private theorem qI(c:δ.length=n)(h:n<=i):look (δ++ε) i=look ε (i -n):=by
 have e:∀w,look (δ++ε) i=some w↔look ε (i -n)=some w:=λw=>by rw[bq,bq,Hn (by lia),c]
 cases b:look ε (i -n)with
 |none=>
  cases a:look (δ++ε) i with
  |none=>rfl
  |some w=>rw[e]at a;rw[b]at a;cases a
 |some w=>exact(e w).mpr b
private theorem SR.block(S:SR K M A H0 σ H ε)(t:v0.length=n)(s:aq H H1)(y:H D=none)(r:H1 D=some o):SR K (up M n) ⟨λq=>A.ab q\/q=D,λq=>A.B q\/q=D,none⟩ H0 (v0++σ) H1 (A0 n none++ε):=by
 obtain⟨F,O⟩:=S.ow;have hd:(A0 n (none:Option W)).length=n:=by simp
 have C:∀{i:Nat},n<=i->(v0++σ)[i]?=σ[i -n]?:=λ{i} h=>by rw[Hn (by lia),t]
 have x:∀p o,H p=some o->(A.B p\/p=D)->A.B p:=λp o e z=>by
  rcases z with z|rfl
  .exact z
  .rw[y]at e;cases e
 refine⟨by rw[DL,DL,t,hd,S.len],λi w c e=>?_,S.sm.trans s,λp z=>?_,(λv e=>by cases e),λi=>F (i -n),⟨λi m E a b=>O.un _ m E (m9.mp a).2 (m9.mp b).2,λi m w I e=>?_,λi c e=>?_,λi c=>O.nd _ (dZ.mp c).2,λi j p c u a b=>?_,λi p c d=>O.nw _ p (dZ.mp c).2 d,λi p c d z=>?_,λp=>?_⟩⟩
 .by_cases f:n<=i
  .rw[qI hd f]at e;rw[C f];obtain⟨v,k,g⟩:=S.sh (i -n) w (λz=>c (dZ.mpr ⟨f,z⟩)) e;exact⟨v,k,Rep.mv s x w g⟩
  .rw[bq,L9 (by rw[hd];lia),d6,BM (by lia)]at e;cases e
 .rcases z with z|rfl
  .exact(S.dm.same s) p z
  .exact⟨_,r⟩
 .obtain⟨f,l⟩:=m9.mp I;rw[qI hd f]at e;rw[C f];obtain⟨v,k,g⟩:=O.val _ m w l e;exact⟨v,k,Fp.mv s x m g⟩
 .obtain⟨f,l⟩:=dZ.mp c;rw[qI hd f]at e;exact O.emp _ l e
 .have:=O.ds _ _ p (dZ.mp c).2 (dZ.mp u).2 a b;have:=(dZ.mp c).1;have:=(dZ.mp u).1;lia
 .rcases z with z|rfl
  .exact O.na _ p (dZ.mp c).2 d z
  .obtain⟨o,e,_⟩:=O.has (dZ.mp c).2 d;rw[y]at e;cases e
 .constructor
  .rintro(z|rfl)
   .rcases(O.all p).mp z with z|⟨i,c,d⟩
    .exact .inl (.inl z)
    .exact .inr ⟨i+n,dZ.mpr ⟨by lia,by rw[Of];exact c⟩,by rw[Of];exact d⟩
   .exact .inl (.inr rfl)
  .rintro((z|rfl)|⟨i,c,d⟩)
   .exact .inl ((O.all p).mpr (.inl z))
   .exact .inr rfl
   .exact .inl ((O.all p).mpr (.inr ⟨i -n,(dZ.mp c).2,d⟩))
end
def WR:List Nat->Mz
 |[]=>Vp
 |i::a=>MA (gR i) (WR a)
def gT(K:Frag)(b:Bool)(a:List Nat):TG:=
 match b,a with
 |true,[i]=>gR i
 |true,_=>λ_ _ _ _=>False
 |false,a=>Oq K a.length (WR a)
noncomputable def dF(a:St):List Nat->List V->St
 |i::b,v::vs=>dF (a.set i (some v)) b vs
 |_,_=>a
private theorem wZ:∀(b:List Nat)(vs:List V)(a:St),(dF a b vs).length=a.length
 |[],vs,a=>by rw[dF];simp
 |i::b,[],a=>by rw[dF];simp
 |i::b,v::vs,a=>by rw[dF,wZ b vs,Kt]
private theorem w4:∀(c:List Nat)(vs:List V)(b a:St),b.length=n->(∀i∈c,i<n)->dF (b++a) c vs=dF b c vs++a
 |[],vs,b,a,_,_=>by rw[dF,dF]<;>simp
 |i::c,[],b,a,_,_=>by rw[dF,dF]<;>simp
 |i::c,v::vs,b,a,d,h=>by have hi:=h i Ap;rw[dF,dF,List.set_append_left _ _ (by lia),w4 c vs _ a (by rw[Kt];exact d) λj e=>h j (AS _ e)]
section
variable{K:Frag}{M:Ms}{A:Fz}{H0 H:Hp}
private theorem FD:∀(a:List Nat)(vs:List V)(b:St)(Q:St->Hp->Prop),vs.length=a.length->Q (dF b a vs) H->WR a vs b H Q
 |[],[],b,Q,_,q=>⟨rfl,q⟩
 |[],_::_,_,_,h,_=>by cases h
 |_::_,[],_,_,h,_=>by cases h
 |i::a,v::vs,b,Q,h,q=>⟨v,vs,rfl,FD a vs _ Q (by simpa using h) (by rw[dF]at q;exact q)⟩
private theorem SR.cF:∀(a:List Nat)(ws:List W)(vs:List V){b:St}{c:Ev},(∀i∈a,¬aL M i)->SR K M A H0 b H c->ai K (FB A M b) H ws vs->ws.length=a.length->SR K M A H0 (dF b a vs) H (cF c a ws)
 |[],ws,vs,b,c,_,S,_,_=>by rw[dF,VL.cF]<;>first|exact S|simp
 |i::a,[],vs,b,c,_,S,_,h=>by cases h
 |i::a,w::ws,vs,b,c,d,S,r,h=>by obtain⟨v,e,rfl,l,k⟩:=r.cons_inv;rw[dF,VL.cF];have g:=d i Ap;exact SR.cF a ws e (λj f=>d j (AS _ f)) (S.set g l) k (by simpa using h)
private theorem tgt(m:∀i∈a,¬aL M i)(S:SR K M A H0 c H e)(j:Rep K (FB A M c) H w v)(h:wT b a w e P)
 (k:∀vs d,P d->SR K M A H0 (dF c a vs) H d->Q (dF c a vs) H):gT K b a v c H Q:=by
 cases b with
 |true=>
  match a,h with
  |[i],h=>
   have:=k [v] (e.set i (some w)) h (by rw[dF,dF]<;>first|exact S.set (m i Ap) j|simp);rw[dF,dF]at this
   .exact this
   .simp
 |false=>
  cases w with
  |tup l=>obtain⟨f,h⟩:=h;obtain⟨p,vs,rfl,n,g⟩:=j;exact⟨p,vs,rfl,lF.of n,by rw[g.len,f],FD a vs c Q (by rw[g.len,f]) (k vs _ h (SR.cF a l vs m S g f))⟩
  |_=>exact h.elim
end
private theorem PF.imp(h:PF X e t)(k:∀a H Q,t' a H Q->t a H Q):PF X e t':=λb s a H Q I w=>h b s a H Q I (k a H Q w)
def Z0(K:Frag)(M:Ms)(t:WT):TE:=λb H Q=>∃A d c P,SR K M A d b H c/\t c P/\∀w v a,P w->aq H a->Rep K (FB A M b) a w v->Q v a
def Z1(K:Frag)(M:Ms)(t:WT):TT:=λd H Q=>∃A e a P,SR K M A e d H a/\t a P/\∀x c,P x->aq H c->∃b,x=.bl b/\Q b c
section
variable{X:Cx}{M:Ms}{R:Addr->Prop}{tg iter elt:Expr}{ifs:List Expr}{scope:Scope}{xs N':List Str}{pos:Pos}{ti tc te:WT}{one:Bool}{ts:List Nat}
private theorem w6(F:∀i∈ts,i<xs.length)(g:St)(H:Hp)(Q:VK)
 (hh:tV X M R (MW X.K .f) (λs Q=>ti s λz=>items z λws=>qx (λw K=>wT one ts w (A0 xs.length none++s) λa=>tc a λx=>truth x λk=>if k=true then te a λy=>K (some y)else K none) ws [] λl=>Q (.lst l)) g H Q):
 EL xs.length (Ie X M R true ti) (gT X.K one ts) (Z1 X.K (up M xs.length) tc) (Z0 X.K (up M xs.length) te) g H Q:=by
 obtain⟨A,H0,s,P,S,er,h,k⟩:=hh;refine⟨A,H0,s,_,S,er,h,λz hz=>?_⟩;obtain⟨ws,ez,hw⟩:=uq.mp hz;refine⟨ws,ez,λJ H1 s1 it D Z=>?_⟩;have iw:=it.iw;generalize L:(λ(w:W)(K:Option W->Prop)=>wT one ts w (A0 xs.length none++s) λa=>tc a λx=>truth x λk=>if k=true then te a λy=>K (some y)else K none)=f at hw;have N:H D=none:=s1.free Z;refine⟨λi m d=>∃c n,m=ws.length -i/\i<=ws.length/\aq H1 d/\d D=some (.lst n)/\ai X.K (λq=>FB A M g q\/q=D) d c n/\qx f (ws.drop i) c (λl=>P (.lst l)),
  ⟨ws.length,[],[],rfl,OF _,aK Z _,az,.nil,hw⟩,?_⟩
 rintro i m d ⟨c,n,rfl,hi,s2,Yt,C,u⟩;by_cases U:i<ws.length
 .refine .inr ⟨iw.go i d s2 U,λx T y t r=>?_⟩;have hwi:ws[i]?=some ws[i]:=Da U;rw[cc U]at u;generalize ws[i]=w at*;obtain⟨s3,E⟩:=iw.yl i d x T w s2 hwi y;have s13:aq H T:=s1.trans (s2.trans s3);have h3D:T D=some (.lst n):=s3 _ _ Yt;have S3:SR X.K (up M xs.length) ⟨λq=>A.ab q\/q=D,λq=>A.B q\/q=D,none⟩ H0 (t++g) T (A0 xs.length none++s):=S.block r s13 N h3D;have hr3:Rep X.K (λq=>A.B q\/q=D) T w x:=by
   refine E _ λp o e z=>?_;rcases z with z|rfl
   .exact z
   .rw[Z]at e;cases e
  have hM:∀j∈ts,¬aL (up M xs.length) j:=λj hj z=>by have:=(dZ.mp z).1;have:=F j hj;lia
  rw[qx,<-L]at u;rw[L]at u;refine tgt hM S3 hr3 u λv a hp S4=>?_;have e4:dF (t++g) ts v=dF t ts v++g:=w4 ts v t g r F;rw[e4]at S4⊢;have hv1:(dF t ts v).length=xs.length:=by rw[wZ];exact r
  refine⟨dF t ts v,hv1,rfl,⟨_,H0,a,_,S4,hp,λq H5 Y s5=>?_⟩⟩;obtain⟨b,rfl,Y⟩:=bw Y;refine⟨b,rfl,?_⟩;have Yu:aq d H5:=s3.trans s5;cases b with
  |false=>exact⟨ws.length -(i+1),by lia,c,n,rfl,U,s2.trans Yu,Yu _ _ Yt,C.same Yu,Y⟩
  |true=>
   refine⟨_,H0,a,_,S4.same s5,Y,λy vy H6 hy s6 ry=>?_⟩;obtain⟨I,hy⟩:=hy;have Z2:=Yu.trans s6;have O:=Z2 _ _ Yt;refine⟨n,O,by rw[C.len];exact I,ws.length -(i+1),by lia,c++[y],n++[vy],rfl,U,λb o e=>?_,az,?_,hy⟩
   .rw[ak (aD e Z)];exact Z2 _ _ (s2 _ _ e)
   .have ry2:Rep X.K (λq=>A.B q\/q=D) H6 y vy:=ry;exact ai.put O (.inr rfl) _ ((C.same Z2).app (.cons ry2 .nil))
 .have e:i=ws.length:=by lia
  subst e;refine .inl ⟨iw.st _ d s2 rfl,?_⟩;rw[f7,qx]at u;exact k _ _ d u (s1.trans s2) (.new N Yt (C.less λp z=>.inl z) C)
private theorem J2(r:X.calm=true)(n:dY scope X.env.scope X.N N' xs=true)(e:∀i∈ts,i<xs.length)(o:PI X tg iter (Ie X M R true ti))(p:∀C b d c,PG (aX X scope C xs N' b d c) tg (gT X.K one ts))
 (q:∀C b d c,PF (aX X scope C xs N' b d c) ifs (Z1 X.K (up M xs.length) tc))(he:∀C b d c,PE (aX X scope C xs N' b d c) elt (Z0 X.K (up M xs.length) te))(m:∀z,foldedSetIterable iter X.env z=pure z):
 VE X M R .f (.ListComp elt [⟨tg,iter,ifs,0⟩] scope pos) (λg Q=>ti g λz=>items z λws=>qx (λw K=>wT one ts w (A0 xs.length none++g) λa=>tc a λx=>truth x λk=>if k=true then te a λy=>K (some y)else K none) ws [] λl=>Q (.lst l)):=
 PE.imp (Jr xs N' r n o p q he m) λj H Q h=>w6 e j H Q h
end
section
variable{K:Frag}{M M':Ms}{A:Fz}{H0 H H1:Hp}{σ:St}{ε:Ev}
private theorem SR.rb(S:SR K M A H0 σ H ε):∃f,SR K M A f σ H ε/\aq H0 f/\aq f H/\(∀p o,H p=some o->(Cr o=true/\A.B p)\/f p=some o):=by
 classical
 obtain⟨F,O⟩:=S.ow;have d:∀p o,(if(∃i,aL M i/\p∈F i)then none else H p)=some o->H p=some o:=λp o z=>by
  split at z
  .cases z
  .exact z
 refine⟨λp=>if(∃i,aL M i/\p∈F i)then none else H p,⟨S.len,S.sh,d,S.dm,S.sl,F,⟨O.un,O.val,O.emp,O.nd,O.ds,λi p c a=>BM ⟨i,c,a⟩,O.na,O.all⟩⟩,λb o z=>?_,d,λp o z=>?_⟩
 .try dsimp only
  rw[B1]
  .exact S.sm _ _ z
  .rintro⟨i,c,e⟩;rw[O.nw i b c e]at z;cases z
 .by_cases a:∃i,aL M i/\p∈F i
  .have g:=a;obtain⟨i,c,a⟩:=a;obtain⟨j,e,h⟩:=O.has c a;rw[z]at e;cases e;exact .inl ⟨h,(O.all p).mpr (.inr g)⟩
  .exact .inr ((B1 a).trans z)
end
section
variable{K:Frag}{B A:Addr->Prop}{H Hs:Hp}
private theorem CG.low(h:∀p o,H p=some o->(Cr o=true/\B p)\/Hs p=some o)(b:∀p,A p->B p)(i:CG K false B H J ws):CG K false A Hs J ws:=by
 have rd:∀{a:Addr}{c:List V},Rz H a (.lst c)->¬B a->Rz Hs a (.lst c):=λ{a c} r n=>by
  rcases h a _ r.at with⟨_,z⟩|z
  .exact(n z).elim
  .exact .inl z
 cases i with
 |lst q n r=>exact .lst (rd q (n rfl)) (λe z=>n e (b _ z)) (ai.chg h (λp _ _ z=>b p z) _ r)
 |@tup a c _ q r=>
  refine .tup ?_ (ai.chg h (λp _ _ z=>b p z) _ r);rcases q with(q|⟨o,q⟩)|q
  .rcases h a _ q with⟨z,_⟩|z
   .cases z
   .exact .inl (.inl z)
  .rcases h a _ q with⟨z,_⟩|z
   .cases z
   .exact .inl (.inr ⟨o,z⟩)
  .exact .inr q
 |pT d n=>exact .pT d n
 |JY d f n=>exact .JY d f n
 |yf q n r=>exact .yf (rd q (n rfl)) (λe z=>n e (b _ z)) (ai.chg h (λp _ _ z=>b p z) _ r)
end
abbrev WS:=Dn->Ev->Prop
noncomputable def dG:Md->Bool
 |.io _=>true
 |_=>false
def yX(K:Frag)(ab:Addr->Prop)(f:Option V)(e H':Hp)(m:Md)(w:W)(v:V):Prop:=
 match m with
 |.io g=>∃b c d a,w=.tup [b,c]/\f=some d/\a.Nodup/\(∀p∈a,e p=none/\¬ab p)/\Fp K (λp=>ab p\/p∈a) H' g c d a/\Rep K (λp=>ab p\/p∈a) H' b v
 |m=>dw K ab e H' m w v
private theorem yX.of{K:Frag}{v:V}(c:dG m=false)(h:dw K ab a H' m w v):yX K ab b a H' m w v:=by
 cases m with
 |io _=>cases c
 |_=>exact h
private theorem yX.back{K:Frag}{v:V}(s:aq e d)(h:yX K ab a d H' m w v):yX K ab a e H' m w v:=by
 cases m with
 |io q=>obtain⟨f,g,i,o,n,l,k,c,j⟩:=h;exact⟨f,g,i,o,n,l,k,λp b=>⟨s.free (c p b).1,(c p b).2⟩,j⟩
 |_=>exact dw.back s (λ_ z=>z) h
structure KS(X:Cx)(M:Ms)(m:Md)(ab:Addr->Prop)(s0:Option V)(H0:Hp)(d:Dn)(D:Ends):Prop where
 nx:∀A ε σ H,A.ab=ab->A.s0=s0->d.nx ε->SR X.K M A H0 σ H ε->D.nx σ H
 rt:∀w v H',d.rt w->aq H0 H'->yX X.K ab s0 H0 H' m w v->D.rt v H'
 bk:∀A ε σ H,A.ab=ab->A.s0=s0->d.bk ε->SR X.K M A H0 σ H ε->D.bk σ H
 ct:∀A ε σ H,A.ab=ab->A.s0=s0->d.ct ε->SR X.K M A H0 σ H ε->D.ct σ H
def sV(X:Cx)(M:Ms)(m:Md)(t:WS):TS:=λD c H=>∃A a b d,SR X.K M A a c H b/\ER X a d.ex/\A.s0.isSome=dG m/\t d b/\KS X M m A.ab A.s0 a d D
abbrev VS(X:Cx)(M:Ms)(m:Md)(st:Stmt)(t:WS):Prop:=PS X st (sV X M m t)
abbrev xg(X:Cx)(M:Ms)(m:Md)(st:List Stmt)(t:WS):Prop:=tQ X st (sV X M m t)
private theorem PS.imp(h:PS X e t)(k:∀D a H,t' D a H->t D a H):PS X e t':=λb s a H D I w=>h b s a H D I (k D a H w)
private theorem tQ.imp(h:tQ X e t)(k:∀D a H,t' D a H->t D a H):tQ X e t':=λb s a H D I w=>h b s a H D I (k D a H w)
section
variable{X:Cx}{M M':Ms}{R:Addr->Prop}{m mr m0:Md}{st:Stmt}{rest:List Stmt}{t u:WS}{e e1 e2 c:Expr}{te t1 t2 tc:(Addr->Prop)->WT}{pos pos':Pos}{x:Str}{i:Nat}{π:List j5}
private theorem J3:xg X M m [] (λd a=>d.nx a):=tQ.imp IB<|by rintro D b H ⟨A,g,a,d,S,f,hz,h,k⟩;exact k.nx A a b H rfl rfl h S
private theorem J5(h:VS X M m st t):xg X M m [st] t:=jP h
private theorem FG(h:VS X M m st t)(k:xg X M m rest u):xg X M m (st::rest) (λd b=>t {d with nx:=u d} b):=
 tQ.imp (jj h k)<|by rintro D r H ⟨A,j,b,d,S,f,hz,h,k⟩;exact⟨A,j,b,{d with nx:=u d},S,f,hz,h,λq a l s o g n p=>⟨q,j,a,d,p,f,(by rw[g];exact hz),n,by rw[o,g];exact k⟩,k.rt,k.bk,k.ct⟩
private theorem J6{st:List Stmt}(h:xg X M' m st t)(j:∀x∈M',x∈M)(g:dG m=true->aL M 0->aL M' 0):xg X M m st (λd a=>t {d with nx:=λ_=>False,bk:=λ_=>False,ct:=λ_=>False} a):=tQ.imp h<|by rintro D B H ⟨A,p,a,d,S,l,hz,h,k⟩;obtain⟨y,n,b,_,o⟩:=S.sub (M':=M') j A.s0 (λv e=>⟨e,g (by rw[<-hz,e];rfl) (S.sl v e).2⟩);refine⟨y,p,a,{d with nx:=λ_=>False,bk:=λ_=>False,ct:=λ_=>False},o,l,by rw[b];exact hz,h,λ_ _ _ _ _ _ z=>z.elim,λw v q f s r=>k.rt w v q f s ?_,λ_ _ _ _ _ _ z=>z.elim,λ_ _ _ _ _ _ z=>z.elim⟩;rw[b,n]at r;exact r
private theorem Qk:VS X M m (.Break pos) (λd a=>d.bk a):=PS.imp D9<|by rintro D b H ⟨A,g,a,d,S,f,hz,h,k⟩;exact k.bk A a b H rfl rfl h S
private theorem J7(f:∀{l:TE},PE X e l->PS X st (om l (gR i)))(j:∀x,x∈M↔x=(i,m0)\/x∈M')(E:¬aL M' i)(g:dG m=true->i≠0)(he:∀R,VE X M' R m0 e (te R)):VS X M m st (λd b=>te d.ex b λw=>d.nx (b.set i (some w))):=by
 rintro a s o H D I ⟨A,U,b,d,S,K,hz,h,k⟩;have J:∀v,A.s0=some v->A.s0=some v/\aL M' 0:=λv e=>by
  refine⟨e,?_⟩;have C:dG m=true:=by rw[<-hz,e];rfl
  obtain⟨q,F⟩:=(S.sl v e).2;rcases(j _).mp F with z|z
  .cases z;exact(g C rfl).elim
  .exact⟨q,z⟩
 obtain⟨Z,N,L,hb,n⟩:=S.sub (M':=M') (λx y=>(j x).mpr (.inr y)) A.s0 J;refine f (he d.ex) a s o H D I ⟨Z,U,b,_,n,K,h,λw v T B p r=>?_⟩;obtain⟨Y,P,O,_,Q⟩:=n.own j E p r;exact k.nx Y _ _ T (P.trans N) (O.trans L) B Q
private theorem Ql(g:∀{j:TE},PE X e j->PS X st (om j (gT X.K false f)))(z:∀i∈f,¬aL M i)(he:∀R,VE X M R .s e (te R)):
 VS X M m st (λd b=>te d.ex b λw=>match w with|.tup l=>l.length=f.length/\d.nx (cF b f l)|_=>False):=by
 rintro a s o H D I ⟨A,F,b,d,S,B,hz,h,k⟩;refine g (he d.ex) a s o H D I ⟨A,F,b,_,S,B,h,λw v E n q r=>?_⟩;cases w with
 |tup l=>exact tgt (P:=d.nx) z (S.same q) r.aM n λJ p y C=>k.nx A _ _ E rfl rfl y C
 |_=>exact n.elim
private theorem Qm{ta:(Addr->Prop)->Ev->(List W->Prop)->Prop}(l:∀{n:TA},PA X es n->PS X st (λD f H=>n f H λvs H1=>vs.length=a.length/\D.nx (dF f a vs) H1))(p:∀i∈a,¬aL M i)(he:∀R,VA X M R es (ta R)):
 VS X M m st (λd g=>ta d.ex g λws=>ws.length=a.length/\d.nx (cF g a ws)):=by
 rintro b s f H D I ⟨A,v,g,d,S,q,hz,h,k⟩;refine l (he d.ex) b s f H D I ⟨A,v,g,_,S,q,h,λws vs H1 j o r=>?_⟩;exact⟨by rw[ai.len r,j.1],k.nx A _ _ H1 rfl rfl j.2 (SR.cF a ws vs p (S.same o) r j.1)⟩
private theorem iR{K:Frag}{l:List W}(S:SR K M A L C H D)(b:(i,m0)∈M)(hp:lS m0 π=some .f)(N:look D i=some w)(hu:cD w π=some (.lst l)):
 ∃v p vs,C[i]?=some (some v)/\Ia K H v π (.ref p)/\H p=some (.lst vs)/\ai K A.B H l vs/\A.B p/\∀H1,aq H H1->∀(d:List W)(a:List V),ai K A.B H1 d a->
  ∃h,h.ab=A.ab/\h.s0=A.s0/\(∀q o,H1 q=some o->h.B q->A.B q)/\sL A.B H1 (upd H1 p (.lst a))/\SR K M h L C (upd H1 p (.lst a)) (D.set i (some (setAt w π (.lst d)))):=by
 obtain⟨F,O⟩:=S.ow;obtain⟨v,g,j⟩:=O.val i m0 w b N;obtain⟨v',Z,F',Y,I,r,fp,y⟩:=Fp.path π m0 j hp hu;obtain⟨ws,p,vs,e1,rfl,rfl,E,h4⟩:=fp;cases e1;have U:p∈F i:=by rw[I];simp
 have J:A.B p:=(O.all p).mpr (.inr ⟨i,⟨m0,b⟩,U⟩);refine⟨v,p,vs,g,r,E,h4,J,λH1 s d a hr=>?_⟩;have T:=S.same s;obtain⟨F0,O0⟩:=T.ow;have O1:Ph K M A L C H1 D F:=⟨O.un,λi m w b e=>let⟨v,g,j⟩:=O.val i m w b e;⟨v,g,Fp.mv s (λ_ _ _ z=>z) m j⟩,O.emp,O.nd,O.ds,O.nw,O.na,O.all⟩;have Q:=s _ _ E;have P:sL A.B H1 (upd H1 p (.lst a)):=.put Q rfl J;have Z5:p∉Z++Y:=by
  have:=O.nd i ⟨m0,b⟩;rw[I]at this;intro z;have g:=SL.mp this;rcases Fu.mp z with z|z
  .have j:=SL.mp g.1;exact j.2.2 p z p (by simp) rfl
  .exact g.2.2 p (by simp) p z rfl
 have k:Fp K A.B (upd H1 p (.lst a)) m0 (setAt w π (.lst d)) v (Z++[p]++Y):=by
  refine y (upd H1 p (.lst a)) A.B (.lst d) [p] ?_ (λq o e=>?_) (λq _ _ z=>z)
  .exact⟨d,p,a,rfl,rfl,rfl,az,ai.chg P (λ_ _ _ z=>z) d hr⟩
  .by_cases n:q=p
   .subst n;rw[E]at e;cases e;exact .inl ⟨rfl,J,Z5⟩
   .exact .inr (by rw[ak n];exact s _ _ e)
 rw[<-I]at k;have hc:∀q o,H1 q=some o->(Cr o=true/\q∈F i)\/upd H1 p (.lst a) q=some o:=λq o e=>by
  by_cases n:q=p
  .subst n;rw[Q]at e;cases e;exact .inl ⟨rfl,U⟩
  .exact .inr (by rw[ak n];exact e)
 have Z6:Fp K (λq=>(A.B q/\q∉F i)\/q∈F i) (upd H1 p (.lst a)) m0 (setAt w π (.lst d)) v (F i):=Fp.mv (aq.refl _) (λq _ _ z=>by
  rcases z with z|z
  .exact z.1
  .exact(O.all q).mpr (.inr ⟨i,⟨m0,b⟩,z⟩)) m0 k
 obtain⟨h,a1,a2,_,a3,a4,a5⟩:=O1.chg (F':=F i) T b N g hc (O.nd i ⟨m0,b⟩) (λq hq=>.inl hq) Z6;exact⟨h,a1,a2,a3,P,a5⟩
private theorem qJ{P:List W->Prop}(h:match look a i with|some (.lst l)=>P l|_=>False):∃l,look a i=some (.lst l)/\P l:=by
 cases b:look a i with
 |none=>rw[b]at h;exact h.elim
 |some d=>
  rw[b]at h;cases d with
  |lst l=>exact⟨l,rfl,h⟩
  |_=>exact h.elim
private theorem FH{P:W->List W->Prop}(h:match look b i with|some a=>(match cD a π with|some (.lst l)=>P a l|_=>False)|none=>False):∃a l,look b i=some a/\cD a π=some (.lst l)/\P a l:=by
 cases f:look b i with
 |none=>rw[f]at h;exact h.elim
 |some a=>
  rw[f]at h;dsimp only at h;cases d:cD a π with
  |none=>rw[d]at h;exact h.elim
  |some u=>
   rw[d]at h;cases u with
   |lst l=>exact⟨a,l,rfl,d,h⟩
   |_=>exact h.elim
private theorem WW:lS m0 []=some m0:=by cases m0<;>rfl
private theorem FI:cD w []=some w:=by cases w<;>rfl
private theorem Ka{w u:W}:setAt w [] u=u:=by cases w<;>rfl
private theorem Qn(q:∀{y:TE},PE X e y->PS X st (pV (Ua X.K "list" lN (qH X.K i π) (tR y B6))))(L:(i,m0)∈M)(J:lS m0 π=some .f)(he:∀R,VE X M R .s e (te R)):
 VS X M m st (λd a=>match look a i with|some j=>(match cD j π with|some (.lst l)=>te d.ex a λw=>l.length<sizeLine/\d.nx (a.set i (some (setAt j π (.lst (l++[w])))))|_=>False)|none=>False):=by
 rintro g s E H D I ⟨A,Y,a,d,S,P,hz,h,k⟩;obtain⟨j,l,e1,e2,h⟩:=FH h;obtain⟨F,p,n,O,N,C,B,hB,b⟩:=iR S L J e1 e2;refine q (he d.ex) g s E H D I ⟨F,_,O,N,.inl ⟨rfl,n,.inl (.inl C)⟩,A,Y,a,_,S,P,h,λw v U z o r=>?_⟩;obtain⟨Z,Q,a2,_,_,T⟩:=b U o (l++[w]) (n++[v]) ((B.same o).app (.cons r.aM .nil));exact⟨p,n,v,rfl,rfl,o _ _ C,by rw[B.len];exact z.1,k.nx Z _ _ _ Q a2 z.2 T⟩
private theorem Qo(o:∀{q:TE},PE X e q->PS X st (pV (Ua X.K "list" lN (gI i) (tR q B6))))(F:(i,.f)∈M)(he:∀R,VE X M R .s e (te R)):
 VS X M m st (λd a=>match look a i with|some (.lst l)=>te d.ex a λw=>l.length<sizeLine/\d.nx (a.set i (some (.lst (l++[w]))))|_=>False):=by
 rintro g s E H D I ⟨A,Q,a,d,S,N,hz,h,k⟩;obtain⟨l,e1,h⟩:=qJ h;obtain⟨U,p,j,L,J,B,z,Y,b⟩:=iR (π:=[]) S F WW e1 FI;cases J;refine o (he d.ex) g s E H D I ⟨_,L,.inl ⟨rfl,j,.inl (.inl B)⟩,A,Q,a,_,S,N,h,λw v P y n r=>?_⟩;obtain⟨T,O,a2,_,_,C⟩:=b P n (l++[w]) (j++[v]) ((z.same n).app (.cons r.aM .nil));rw[Ka]at C;exact⟨p,j,v,rfl,rfl,n _ _ B,by rw[z.len];exact y.1,k.nx T _ _ _ O a2 y.2 C⟩
private theorem Qp(B:∀{E F:TE},PE X e E->PE X e1 F->PS X st (om E (Ou (gI i) F MD)))(U:(i,.f)∈M)(he:∀R,VE X M R .s e (te R))(T:∀R,VE X M R .s e1 (t1 R)):
 VS X M m st (λd b=>te d.ex b λw=>match look b i with|some (.lst l)=>(t1 d.ex b λx=>(match x with|.int j=>∃n,Aj l.length j=some n/\d.nx (b.set i (some (.lst (l.set n w))))|_=>False))|_=>False):=by
 rintro q s P H D I ⟨A,O,b,d,S,L,hz,h,k⟩;refine B (he d.ex) (T d.ex) q s P H D I ⟨A,O,b,_,S,L,h,λw v H1 y J r=>?_⟩;obtain⟨l,e1,y⟩:=qJ y;obtain⟨v0,p,C,h1,Z,Y,K,hB,o⟩:=iR (π:=[]) S U WW e1 FI;cases Z;refine⟨_,h1,A,O,b,_,S.same J,L,y,λz vz H2 a s2 Q=>?_⟩;cases z with
 |int j=>obtain⟨n,e,a⟩:=a;have g:=J.trans s2;obtain⟨A',a1,a2,_,_,N⟩:=o H2 g (l.set n w) (C.set n v) ((K.same g).set (r.aM.same s2));rw[Ka]at N;exact⟨p,C,j,n,rfl,Q.aM.int_inv,g _ _ Y,by rw[K.len];exact e,k.nx A' _ _ _ a1 a2 a N⟩
 |_=>exact a.elim
private theorem FJ(he:∀R,VE X [] R mr e (te R))(o:mr=m\/m=.s)(j:dG m=false):VS X M m (.Return (some e) pos) (λd b=>te d.ex b d.rt):=by
 rintro a s n H D I ⟨A,q,b,d,S,p,hz,h,k⟩;refine kF (he d.ex) a s n H D I ⟨_,q,b,_,S.go,p,h,λw v l g f r=>?_⟩;rcases o with rfl|rfl
 .exact k.rt w v l g (S.sm.trans f) (.of j (r.back S.sm λ_ z=>z))
 .exact k.rt w v l g (S.sm.trans f) (.of j ((r.s S.dm).back S.sm λ_ z=>z))
private theorem Kc(he:∀R,VE X M R .s e (te R)):VS X M .s (.Return (some e) pos) (λd b=>te d.ex b d.rt):=by rintro a s f H D I ⟨A,o,b,d,S,l,hz,h,k⟩;refine kF (he d.ex) a s f H D I ⟨A,o,b,_,S,l,h,λw v n j g r=>?_⟩;exact k.rt w v n j (S.sm.trans g) (.of rfl (dw.back S.sm S.sub' r))
private theorem Kd(he:∀R,VE X M R m e (te R))(l:dG m=false):VS X M m (.Return (some e) pos) (λd b=>te d.ex b d.rt):=by rintro a s f H D I ⟨A,p,b,d,S,n,hz,h,k⟩;refine kF (he d.ex) a s f H D I ⟨A,p,b,_,S,n,h,λw v o j g r=>?_⟩;exact k.rt w v o j (S.sm.trans g) (.of l (dw.back S.sm S.sub' r))
private theorem Ke(he:PE X e (gI i))(b:(i,m)∈M)(n:dG m=false):VS X M m (.Return (some e) pos) (λd f=>match look f i with|some w=>d.rt w|none=>False):=by
 rintro a s j H D I ⟨A,B,f,d,S,y,hz,h,k⟩
 try dsimp only at h
 cases g:look f i with
 |none=>rw[g]at h;exact h.elim
 |some w=>
  rw[g]at h;obtain⟨F,O⟩:=S.ow;obtain⟨v,r,o⟩:=O.val i m w b g;refine kF he a s j H D I ⟨_,r,k.rt _ _ H h S.sm (.of n ⟨F i,O.nd i ⟨m,b⟩,λp l=>O.nw i p ⟨m,b⟩ l,Fp.mv (aq.refl _) (λq _ _ z=>?_) m o⟩)⟩;rcases z with z|z
  .exact(O.all q).mpr (.inl z)
  .exact(O.all q).mpr (.inr ⟨i,⟨m,b⟩,z⟩)
private theorem vg{K:Frag}{v:V}(S:SR K M A n o H h)(a:(0,m0)∈M)(q:look h 0=some b)(f:∃d,A.s0=some d)(r:Rep K A.B H g v):yX K A.ab A.s0 n H (.io m0) (.tup [g,b]) v:=by obtain⟨d,f⟩:=f;obtain⟨F,O⟩:=S.ow;obtain⟨u,l,s⟩:=O.val 0 m0 b a q;rw[(S.sl d f).1]at l;cases l;have k:∀p,(A.ab p\/p∈F 0)->A.B p:=λp z=>(O.all p).mpr (z.imp id λz=>⟨0,⟨m0,a⟩,z⟩);exact⟨g,b,d,F 0,rfl,f,O.nd 0 ⟨m0,a⟩,λp j=>⟨O.nw 0 p ⟨m0,a⟩ j,O.na 0 p ⟨m0,a⟩ j⟩,Fp.mv (aq.refl _) (λp _ _ z=>k p z) m0 s,r.less k⟩
private theorem WX(r:∀R,VT X M R c (tc R))(w:xg X M m a t)(v:xg X M m b u):VS X M m (.If c a b pos) (λd f=>tc d.ex f λx=>truth x λk=>if k=true then t d f else u d f):=by
 rintro g s p H D I ⟨A,n,f,d,S,l,hz,h,k⟩;refine My (r d.ex) w v g s p H D I ⟨A,n,f,_,S,l,h,λx y j o=>?_⟩;obtain⟨q,rfl,j⟩:=bw j;refine⟨q,rfl,?_⟩;cases q with
 |true=>exact⟨A,n,f,d,S.same o,l,hz,j,k⟩
 |false=>exact⟨A,n,f,d,S.same o,l,hz,j,k⟩
end
section
variable{X:Cx}{M:Ms}{m:Md}{body:List Stmt}{tb:WS}{c iter tg:Expr}{tc:WT}{ti:(Addr->Prop)->WT}{pos:Pos}{one:Bool}{ts:List Nat}
private theorem Qq(Z:PassesOwn (model X.prog X.w) X.A X.env X.xe){tc:(Addr->Prop)->WT}(hc:∀R,VT X M R c (tc R))(hb:xg X M m body tb):VS X M m (.While c body [] pos) (λd r=>PB (λr Q=>tc d.ex r λx=>truth x Q) tb d r):=by
 rintro u s L H D I ⟨A,y,r,d,S,E,hz,h,k⟩;refine wg Z (hc d.ex) hb u s L H D I ?_;obtain⟨J,⟨O,U⟩,t⟩:=h;refine⟨λn b f=>∃e a,e.ab=A.ab/\e.s0=A.s0/\J n a/\SR X.K M e y b f a,⟨O,A,r,rfl,rfl,U,S⟩,?_⟩;rintro n F H1 ⟨C,z,v,p,T,B⟩;refine⟨C,y,z,_,B,E,t n z T,λx H2 o s2=>?_⟩;obtain⟨q,rfl,o⟩:=bw o;refine⟨q,rfl,?_⟩;cases q with
 |true=>obtain⟨N,hN,o⟩:=o;refine⟨λb f=>∃e a,e.ab=A.ab/\e.s0=A.s0/\N a/\SR X.K M e y b f a,λb f ⟨e,a,j,a2,i,g⟩=>?_,C,y,z,⟨N,d.rt,d.nx,N,d.ex⟩,B.same s2,E,(by rw[p];exact hz),o,⟨λe a b f j a2 i g=>⟨e,a,j.trans v,a2.trans p,i,g⟩,by rw[v,p];exact k.rt,λe a b f j a2 i g=>k.nx e a b f (j.trans v) (a2.trans p) i g,λe a b f j a2 i g=>⟨e,a,j.trans v,a2.trans p,i,g⟩⟩⟩;obtain⟨P,l,Y⟩:=hN a i;exact⟨P,l,e,a,j,a2,Y,g⟩
 |false=>exact k.nx C _ _ H2 v p o (B.same s2)
end
structure Go(A:Fz)(H:Hp)(A':Fz)(H':Hp):Prop where
 ab:A'.ab=A.ab
 s0:A'.s0=A.s0
 B:∀p o,H p=some o->A'.B p->A.B p
 ch:sL A.B H H'
private theorem Go.same(s:aq H H'):Go A H A H':=⟨rfl,rfl,λ_ _ _ z=>z,.same s⟩
private theorem Go.trans(g:Go A H c H1)(k:Go c H1 b a):Go A H b a:=by
 refine⟨k.ab.trans g.ab,k.s0.trans g.s0,λp o e z=>?_,λp o e=>?_⟩
 .rcases g.ch p o e with⟨_,y⟩|y
  .exact y
  .exact g.B p o e (k.B p o y z)
 .rcases g.ch p o e with y|y
  .exact .inl y
  .rcases k.ch p o y with⟨f,d⟩|h
   .exact .inl ⟨f,g.B p o e d⟩
   .exact .inr h
private theorem Go.rep{K:Frag}(g:Go A H a H1)(h:Rep K A.B H w v):Rep K a.B H1 w v:=Rep.chg g.ch g.B w h
private theorem Go.Z7{K:Frag}(g:Go A H a H1)(h:ai K A.B H w v):ai K a.B H1 w v:=ai.chg g.ch g.B w h
abbrev vh:=Ev->(W->Ev->Prop)->Prop
abbrev M3:=Ev->(List W->Ev->Prop)->Prop
def tP(X:Cx)(M:Ms)(R:Addr->Prop)(t:vh):TE:=λe H Q=>∃A c f P,SR X.K M A c e H f/\ER X c R/\t f P/\∀d w v b a,P w a->Go A H d b->SR X.K M d c e b a->Rep X.K d.B b w v->Q v b
def tPT(X:Cx)(M:Ms)(R:Addr->Prop)(t:vh):TT:=λe H Q=>∃A c f P,SR X.K M A c e H f/\ER X c R/\t f P/\∀g x d a,P x a->Go A H g d->SR X.K M g c e d a->∃b,x=.bl b/\Q b d
def tPA(X:Cx)(M:Ms)(R:Addr->Prop)(t:M3):TA:=λe H Q=>∃A c f P,SR X.K M A c e H f/\ER X c R/\t f P/\∀d g h b a,P g a->Go A H d b->SR X.K M d c e b a->ai X.K d.B b g h->Q h b
abbrev VP(X:Cx)(M:Ms)(R:Addr->Prop)(e:Expr)(t:vh):Prop:=PE X e (tP X M R t)
abbrev AD(X:Cx)(M:Ms)(R:Addr->Prop)(e:Expr)(t:vh):Prop:=PT X e (tPT X M R t)
abbrev M4(X:Cx)(M:Ms)(R:Addr->Prop)(e:Expr)(t:vh):Prop:=PW X e (tPT X M R t)
abbrev DF(X:Cx)(M:Ms)(R:Addr->Prop)(es:List Expr)(t:M3):Prop:=PA X es (tPA X M R t)
section
variable{X:Cx}{M:Ms}{R:Addr->Prop}{m m0:Md}{e a b c:Expr}{es rest:List Expr}{t ta tb:vh}{tl:M3}{pos apos cpos p:Pos}{i j:Nat}{st:Stmt}{x:Str}{π:List j5}
private theorem WY{t:WT}(h:VE X M R .s e t):VP X M R e (λd Q=>t d λw=>Q w d):=PE.imp h<|by rintro o H Q ⟨A,l,d,P,S,g,h,k⟩;exact⟨A,l,d,_,S,g,h,λw v n f s r=>k A w v n d f (.same s) (S.same s) r.aM⟩
private theorem Qt{t:WT}(h:VT X M R e t):AD X M R e (λd Q=>t d λw=>Q w d):=PT.imp h<|by rintro o H Q ⟨A,l,d,P,S,g,h,k⟩;exact⟨A,l,d,_,S,g,h,λw n f s=>k A w n d f (.same s) (S.same s)⟩
private theorem Qu(E:(i,.f)∈M)(C:PE X e (gI i))(n:attributeBase e "pop" X.env (eval e X.env)=eval e X.env)(d:(apos.endLine==cpos.line)=true):
 VP X M R (.Call (.Attribute e "pop" apos) [] [] cpos) (λs Q=>match look s i with|some (.lst l)=>∃w,l[l.length -1]?=some w/\Q w (s.set i (some (.lst l.dropLast)))|_=>False):=
 PE.imp (Es Pv PySem.F.slot_list_pop PySem.F.type_list_pop OS C n d)<|by rintro T H Q ⟨A,H0,s,P,S,Z,h,k⟩;obtain⟨l,N,w,L,h⟩:=qJ h;obtain⟨U,q,r,J,I,y,u,Y,o⟩:=iR (π:=[]) S E WW N FI;cases I;obtain⟨v,K,D⟩:=u.get L;obtain⟨B,O,a2,a3,a4,z⟩:=o H (aq.refl H) l.dropLast r.dropLast u.dropLast;rw[Ka]at z;have g:Go A H B (upd H q (.lst r.dropLast)):=⟨O,a2,a3,a4⟩;exact⟨_,J,.inl ⟨rfl,r,.inl (.inl y)⟩,q,r,v,rfl,rfl,y,by rw[u.len];exact K,k B w v _ _ h g z (g.rep D)⟩
private theorem Qv(ha:VP X M R a ta)(hb:VP X M R b tb):VP X M R (.BinOp a op b pos) (λD Q=>ta D λx J=>tb J λy f=>gM op x y λz=>Q z f):=by rintro n s N H Q I ⟨A,L,D,P,S,U,p,k⟩;refine wpAny_BinOp (bin ha hb I (R:=λC q l=>∃x y d f,gM op x y (λz=>P z f)/\Go A H d l/\SR X.K M d L N l f/\Rep X.K d.B l x C/\Rep X.K d.B l y q) ⟨A,L,D,_,S,U,p,λA1 x C H1 J F g1 S1 Z=>⟨A1,L,J,_,S1,U,F,λd y q l f E T o Y=>⟨x,y,d,f,E,g1.trans T,o,T.rep Z,Y⟩⟩⟩ ?_);rintro v u s2 C q l I2 rv ru ⟨x,y,d,f,h,g,o,F,E⟩;exact yT op n s2 N l d.B x y C q v u _ Q I2 o.dom rv ru F.b E.b h λw z H' pw O r=>k d w z H' f pw (g.trans (.same O)) (o.same O) (r.rep o.dom)
private theorem Qw(hu:X.A.units+64<cLine)(hm:behindInMarks op b=false)(ha:VP X M R a ta)(hb:VP X M R b tb):VP X M R (.Compare a [op] [b] pos) (λD Q=>ta D λx J=>tb J λy f=>e9 op x y λz=>Q z f):=by rintro n s N H Q I ⟨A,L,D,P,S,U,p,k⟩;refine wpAny_Compare1 (bin ha hb I (R:=λC q l=>∃x y d f,e9 op x y (λz=>P z f)/\Go A H d l/\SR X.K M d L N l f/\Rep X.K d.B l x C/\Rep X.K d.B l y q) ⟨A,L,D,_,S,U,p,λA1 x C H1 J F g1 S1 Z=>⟨A1,L,J,_,S1,U,F,λd y q l f E T o Y=>⟨x,y,d,f,E,g1.trans T,o,T.rep Z,Y⟩⟩⟩ ?_) hm;rintro v u s2 C q l I2 rv ru ⟨x,y,d,f,h,g,o,F,E⟩;exact ve hu op n s2 N l d.B x y C q v u _ Q I2 o.dom rv ru F.b E.b h λw z H' pw O r=>k d w z H' f pw (g.trans (.same O)) (o.same O) (r.rep o.dom)
private theorem Kf(hu:X.A.units+64<cLine)(hm:behindInMarks op b=false)(ha:VP X M R a ta)(hb:VP X M R b tb):AD X M R (.Compare a [op] [b] pos) (λJ Q=>ta J λx O=>tb O λy n=>e9 op x y λz=>Q z n):=by
 rintro l s F H Q I ⟨A,T,J,P,S,er,p,k⟩;have q:=bin ha hb I (R:=λD C o=>∃x y d n,e9 op x y (λz=>P z n)/\Go A H d o/\SR X.K M d T F o n/\Rep X.K d.B o x D/\Rep X.K d.B o y C) ⟨A,T,J,_,S,er,p,λA1 x D H1 O N g1 S1 rx=>⟨A1,T,O,_,S1,er,N,λd y C o n L Z E ry=>⟨x,y,d,n,L,g1.trans Z,E,Z.rep rx,ry⟩⟩⟩
  (f:=compareOp op) (Q:=EP X l F λz U=>∃b,z=.bl b/\Q b U)<|by rintro v u s2 D C o I2 rv ru ⟨x,y,d,n,h,g,E,N,L⟩;refine ve hu op l s2 F o d.B x y D C v u _ _ I2 E.dom rv ru N.b L.b h λw z U pw Y r=>?_;obtain⟨b,rfl,q⟩:=k d w U n pw (g.trans (.same Y)) (E.same Y);exact⟨b,r.aM.kL,q⟩
 refine wpAny_isTrue_Compare1 (bF q λv s1 q1=>bF q1 λu s2 q2=>bF q2 λc s3 ⟨z,H3,I3,r3,b,ez,q3⟩=>?_) hm;subst ez;cases r3;exact SO ⟨H3,I3,q3⟩
private theorem AE(he:∀d,isTrue e X.env d=(do let v<-d;standAt e.pos;holding [v] (truthy v)))(h:VP X M R e t):AD X M R e t:=PT.imp (DU h he)<|by rintro y H Q ⟨A,u,f,P,S,o,h,k⟩;refine⟨A,u,f,P,S,o,h,λw x B s q l n r g=>?_⟩;obtain⟨b,rfl,z⟩:=k w _ s q l n r;exact⟨b,g.kL,z⟩
private theorem FL(d:AD X M R a ta):M4 X M R (.BoolOp .And [a] pos) ta:=Ab d
private theorem Kg(z:AD X M R a ta)(w:M4 X M R (.BoolOp .And (b::rest) pos) tb):M4 X M R (.BoolOp .And (a::b::rest) pos) (λg Q=>ta g λx d=>truth x λk=>if k=true then tb d Q else Q (.bl false) d):=
 PW.imp (DW z w)<|by
  rintro J H Q ⟨A,s,g,P,S,n,h,k⟩;refine⟨A,s,g,_,S,n,h,λu x F o f l r=>?_⟩;obtain⟨q,rfl,f⟩:=bw f;refine⟨q,rfl,?_⟩;cases q with
  |true=>exact⟨u,s,o,P,r,n,f,λI y E B v C D=>k I _ E B v (l.trans C) D⟩
  |false=>obtain⟨b,e,q⟩:=k u _ F o f l r;cases e;exact q
private theorem Kh(d:AD X M R a ta):M4 X M R (.BoolOp .Or [a] pos) ta:=DV d
private theorem Qx(z:AD X M R a ta)(w:M4 X M R (.BoolOp .Or (b::rest) pos) tb):M4 X M R (.BoolOp .Or (a::b::rest) pos) (λg Q=>ta g λx d=>truth x λk=>if k=true then Q (.bl true) d else tb d Q):=
 PW.imp (Mw z w)<|by
  rintro J H Q ⟨A,s,g,P,S,n,h,k⟩;refine⟨A,s,g,_,S,n,h,λu x F o f l r=>?_⟩;obtain⟨q,rfl,f⟩:=bw f;refine⟨q,rfl,?_⟩;cases q with
  |false=>exact⟨u,s,o,P,r,n,f,λI y E B v C D=>k I _ E B v (l.trans C) D⟩
  |true=>obtain⟨b,e,q⟩:=k u _ F o f l r;cases e;exact q
private theorem Kl:DF X M R [] (λd Q=>Q [] d):=PA.imp bV<|by rintro f H Q ⟨A,l,d,P,S,g,h,k⟩;exact k A [] [] H d h (.same (aq.refl H)) S .nil
private theorem FN(w:starEach (a::es) X.env=(false,eval a X.env)::starEach es X.env)(z:VP X M R a ta)(y:DF X M R es tl):DF X M R (a::es) (λd Q=>ta d λx l=>tl l λn g=>Q (x::n) g):=
 PA.imp (aS z y w)<|by rintro J H Q ⟨A,r,d,P,S,q,h,k⟩;refine⟨A,r,d,_,S,q,h,λI x K N l v B D s=>⟨I,r,l,_,D,q,v,λF n L E g f o C u=>?_⟩⟩;exact k F _ _ E g f (B.trans o) C (.cons (o.rep s) u)
private theorem ai.bl{K:Frag}:∀{ws:List W}{vs:List V},ai K B H ws vs->nX K B H ws vs
 |[],_,h=>h.nil_inv
 |w::ws,_,h=>by obtain⟨v,r,rfl,f,d⟩:=h.cons_inv;exact⟨v,r,rfl,f.b,d.bl⟩
private theorem Qy(J:cj X (.builtin q) (Qe X.K bi))(I:Gl X x)(F:X.mg x=none)(D:bootBuiltins x=some (.builtin q))(L:DF X M R (e::es) tl)(E:x≠"__name__")(l:(x==("__debug__":Str))=false)
 (he:starEach (e::es) X.env=(false,eval e X.env)::starEach es X.env)(g:(backTo pos (starEach es X.env)).any (·.1)=false):VP X M R (.Call (.Name x p) (e::es) [] pos) (λf Q=>tl f λws d=>sE bi ws λw=>Q w d):=
 PE.imp (gS J I F D L E l he g)<|by rintro Y H Q ⟨A,T,f,P,S,O,h,k⟩;exact⟨A,T,f,_,S,O,h,λu ws Z H1 s C N n y=>⟨u.B,ws,λw=>P w s,n.dom,y.bl,C,λw v U z o r=>k u w v U s z (N.trans (.same o)) (n.same o) (r.rep n.dom)⟩⟩
private theorem Qz(J:cj X (.type q) (Qe X.K bi))(I:Gl X x)(F:X.mg x=none)(D:bootBuiltins x=some (.type q))(L:DF X M R (e::es) tl)(E:x≠"__name__")(l:(x==("__debug__":Str))=false)
 (he:starEach (e::es) X.env=(false,eval e X.env)::starEach es X.env)(g:(backTo pos (starEach es X.env)).any (·.1)=false):VP X M R (.Call (.Name x p) (e::es) [] pos) (λf Q=>tl f λws d=>sE bi ws λw=>Q w d):=
 PE.imp (mU J I F D L E l he g)<|by rintro Y H Q ⟨A,T,f,P,S,O,h,k⟩;exact⟨A,T,f,_,S,O,h,λu ws Z H1 s C N n y=>⟨u.B,ws,λw=>P w s,n.dom,y.bl,C,λw v U z o r=>k u w v U s z (N.trans (.same o)) (n.same o) (r.rep n.dom)⟩⟩
private theorem Km(o:∀{q:TE},PE X e q->PS X st (om q (gR j)))(z:¬aL M j){tt:(Addr->Prop)->vh}(he:∀R,VP X M R e (tt R)):VS X M m st (λd n=>tt d.ex n λw f=>d.nx (f.set j (some w))):=by rintro l s u H D I ⟨A,F,n,d,S,B,hz,h,k⟩;exact o (he d.ex) l s u H D I ⟨A,F,n,_,S,B,h,λJ w v E f y g C r=>k.nx J _ _ E g.ab g.s0 y (C.set z r)⟩
private theorem Kn{tt:(Addr->Prop)->vh}(o:∀R,PS X st (pV (tP X M R (tt R)))):VS X M m st (λd n=>tt d.ex n λw f=>d.nx f):=by rintro l s q H D I ⟨A,C,n,d,S,y,hz,h,k⟩;exact o d.ex l s q H D I ⟨A,C,n,_,S,y,h,λE w v B f u g z r=>k.nx E _ _ B g.ab g.s0 u z⟩
private theorem FO{x y:List Stmt}{tx v:WS}{tt:(Addr->Prop)->vh}(E:∀R,AD X M R c (tt R))(J:xg X M m x tx)(F:xg X M m y v):VS X M m (.If c x y pos) (λd o=>tt d.ex o λx f=>truth x λk=>if k=true then tx d f else v d f):=by
 rintro l s C H D I ⟨A,u,o,d,S,r,hz,h,k⟩;refine My (E d.ex) J F l s C H D I ⟨A,u,o,_,S,r,h,λB x K w n g z=>?_⟩;obtain⟨q,rfl,n⟩:=bw n;refine⟨q,rfl,?_⟩;cases q with
 |true=>exact⟨B,u,w,d,z,r,(by rw[g.s0];exact hz),n,by rw[g.ab,g.s0];exact k⟩
 |false=>exact⟨B,u,w,d,z,r,(by rw[g.s0];exact hz),n,by rw[g.ab,g.s0];exact k⟩
private theorem QA{tb:WS}{tt:(Addr->Prop)->vh}(hp:PassesOwn (model X.prog X.w) X.A X.env X.xe)(hc:∀R,AD X M R c (tt R))(hb:xg X M m v tb):VS X M m (.While c v [] pos) (λd L=>WB (λL Q=>tt d.ex L λx f=>truth x λk=>Q k f) tb d L):=by
 rintro P s σ H D I ⟨A,T,L,d,S,U,hz,h,k⟩;refine wg hp (hc d.ex) hb P s σ H D I ?_;obtain⟨J,⟨m0,j0⟩,O⟩:=h;refine⟨λn o y=>∃r f,r.ab=A.ab/\r.s0=A.s0/\J n f/\SR X.K M r T o y f,⟨m0,A,L,rfl,rfl,j0,S⟩,?_⟩;rintro n σ1 H1 ⟨A1,Y,C,u,j1,S1⟩;refine⟨A1,T,Y,_,S1,U,O n Y j1,λA2 x H2 gj F g Z=>?_⟩;obtain⟨q,rfl,F⟩:=bw F;refine⟨q,rfl,?_⟩;have C:=g.ab.trans C;have u:=g.s0.trans u;cases q with
 |true=>obtain⟨N,hN,F⟩:=F;refine⟨λo y=>∃r f,r.ab=A.ab/\r.s0=A.s0/\N f/\SR X.K M r T o y f,λo y ⟨r,f,E,a2,B,z⟩=>?_,A2,T,gj,⟨N,d.rt,d.nx,N,d.ex⟩,Z,U,(by rw[u];exact hz),F,⟨λr f o y E a2 B z=>⟨r,f,E.trans C,a2.trans u,B,z⟩,by rw[C,u];exact k.rt,λr f o y E a2 B z=>k.nx r f o y (E.trans C) (a2.trans u) B z,λr f o y E a2 B z=>⟨r,f,E.trans C,a2.trans u,B,z⟩⟩⟩;obtain⟨m',l,j'⟩:=hN f B;exact⟨m',l,r,f,E,a2,j',z⟩
 |false=>exact k.nx A2 _ _ H2 C u F Z
private theorem QB(B:∀{J:TE},PE X e J->PS X st (pV (Ua X.K "list" lN (gI i) (tR J B6))))(L:(i,.f)∈M){tt:(Addr->Prop)->vh}(he:∀R,VP X M R e (tt R)):
 VS X M m st (λd y=>match look y i with|some (.lst _)=>(tt d.ex y λw n=>match look n i with|some (.lst l)=>l.length<sizeLine/\d.nx (n.set i (some (.lst (l++[w]))))|_=>False)|_=>False):=by
 rintro q s T H D I ⟨A,H0,y,d,S,er,hz,h,k⟩;obtain⟨l0,e0,h⟩:=qJ h;obtain⟨v0,U,Ue,N,Z,Y,h4,_,_⟩:=iR (π:=[]) S L WW e0 FI;cases Z;refine B (he d.ex) q s T H D I ⟨_,N,.inl ⟨rfl,Ue,.inl (.inl Y)⟩,A,H0,y,_,S,er,h,λA1 w v Q bN z g S1 r=>?_⟩;obtain⟨l,e1,z⟩:=qJ z;obtain⟨v1,p1,F,O,E,C,u,hB,o⟩:=iR (π:=[]) S1 L WW e1 FI;cases E;rw[N]at O;cases O;obtain⟨A',a1,a2,_,_,P⟩:=o Q (aq.refl Q) (l++[w]) (F++[v]) (u.app (.cons r .nil));rw[Ka]at P;exact⟨U,F,v,rfl,rfl,C,by rw[u.len];exact z.1,k.nx A' _ _ _ (a1.trans g.ab) (a2.trans g.s0) z.2 P⟩
private theorem QC{te:(Addr->Prop)->WT}(he:∀R,VE X M R .s e (te R))(y:(0,m0)∈M):VS X M (.io m0) (.Return (some e) pos) (λd f=>te d.ex f λw=>match look f 0 with|some o=>(d.rt (.tup [w,o]))|none=>False):=by
 rintro g s u H D I ⟨A,C,f,d,S,z,hz,h,k⟩;refine kF (he d.ex) g s u H D I ⟨A,C,f,_,S,z,h,λw v B l q r=>?_⟩;cases n:look f 0 with
 |none=>rw[n]at l;exact l.elim
 |some o=>rw[n]at l;exact k.rt _ v B l (S.sm.trans q) (vg (S.same q) y n (Os.mp hz) r.aM)
private theorem QD(q:(0,m0)∈M):VS X M (.io m0) (.Return none pos) (λd g=>match look g 0 with|some n=>(d.rt (.tup [.aN,n]))|none=>False):=by
 rintro f s o H D I ⟨A,u,g,d,S,r,hz,h,k⟩
 try dsimp only at h
 cases l:look g 0 with
 |none=>rw[l]at h;exact h.elim
 |some n=>rw[l]at h;exact Ac f s o H D I (k.rt _ _ H h S.sm (vg S q l (Os.mp hz) PC))
end
def Z8(X:Cx)(M:Ms)(R:Addr->Prop)(t:vh):TI:=λa H Q=>∃A d f P,SR X.K M A d a H f/\ER X d R/\t f P/\∀z e h c,P z h->Go A H e c->SR X.K M e d a c h->∃g,itemsOf z=some g/\∀J b,aq c b->CG X.K false (FB e M a) b J g->Q J b
section
variable{X:Cx}{M:Ms}{m:Md}{body:List Stmt}{tb:WS}{a iter tg:Expr}{pos p:Pos}{one:Bool}{ts:List Nat}
private theorem QE{ti:(Addr->Prop)->vh}(hc:X.calm=true)(hM:∀i∈ts,¬aL M i)(hp:PassesOwn (model X.prog X.w) X.A X.env X.xe)(hi:∀R,PI X tg iter (Z8 X M R (ti R)))(hg:PG X tg (gT X.K one ts))(hb:xg X M m body tb)(hs:∀x,foldedSetIterable iter X.env x=pure x):
 VS X M m (.For tg iter body [] pos) (λd ε=>ti d.ex ε λz b=>items z λws=>iQ (λw B b=>wT one ts w b λl=>tb B l) d ws b):=by
 rintro Q s σ H D I ⟨A,H0,ε,d,S,er,hz,h,k⟩;refine Ox hp hc (hi d.ex) hg hb hs Q s σ H D I ?_;refine⟨A,H0,ε,_,S,er,h,λz P bN H1 hz' g S1=>?_⟩;obtain⟨ws,ez,hw⟩:=uq.mp hz';refine⟨ws,ez,λJ H2 s2 it=>?_⟩;have S1:=S1.same s2;have ga:=g.ab;have Z:=g.s0;obtain⟨Y,Ss,U,b1,b2⟩:=S1.rb;have low:CG X.K false P.ab Y J ws:=it.low (λp o e=>b2 p o e) λp z=>S1.sub' p z;have iw:=low.iw;refine⟨λi n f r=>n=ws.length -i/\i<=ws.length/\∃c b,c.ab=P.ab/\c.s0=P.s0/\SR X.K M c Y f r b/\iQ (λw B b=>wT one ts w b λl=>tb B l) d (ws.drop i) b,⟨ws.length,rfl,OF _,P,bN,rfl,rfl,Ss,hw⟩,?_⟩;have up:∀{c:Fz}{f:St}{r:Hp}{b:Ev},SR X.K M c Y f r b->SR X.K M c H0 f r b:=λ{c f r b} q=>by obtain⟨F,O⟩:=q.ow;exact⟨q.len,q.sh,U.trans q.sm,q.dm,q.sl,F,⟨O.un,O.val,O.emp,O.nd,O.ds,λi p hi e=>U.free (O.nw i p hi e),O.na,O.all⟩⟩
 rintro i n σ2 H2 ⟨rfl,hi2,A2,gj,L,E,N,AB⟩;by_cases v:i<ws.length
 .refine .inr ⟨iw.go i H2 N.sm v,λf r=>∃c b,c.ab=P.ab/\c.s0=P.s0/\SR X.K M c Y f r b/\iQ (λw B b=>wT one ts w b λl=>tb B l) d (ws.drop (i+1)) b,by rintro f r ⟨c,b,C,a2,u,t⟩;exact⟨ws.length -(i+1),by omega,rfl,v,c,b,C,a2,u,t⟩,λx H3 y=>?_⟩;have hwi:ws[i]?=some ws[i]:=Da v;rw[cc v,iQ]at AB;generalize ws[i]=w at*;obtain⟨s3,T⟩:=iw.yl i H2 x H3 w N.sm hwi y;have hr:Rep X.K (FB A2 M σ2) H3 w x:=T _ λp o e z=>by
   obtain⟨F,O⟩:=N.ow;rcases(O.all p).mp z with z|⟨j,hj,e2⟩
   .rw[L]at z;exact z
   .rw[O.nw j p hj e2]at e;cases e
  refine tgt hM (N.same s3) hr AB λvs b hp S4=>?_;exact⟨A2,Y,b,⟨iQ (λw B b=>wT one ts w b λl=>tb B l) d (ws.drop (i+1)),d.rt,d.nx,iQ (λw B b=>wT one ts w b λl=>tb B l) d (ws.drop (i+1)),d.ex⟩,S4,er.up U,(by rw[E,Z];exact hz),hp,⟨λc l WZ Yv C a2 u t=>⟨c,l,C.trans L,a2.trans E,t,u⟩,λw' v' r u t q3=>k.rt w' v' r u (U.trans t) (by rw[L,E,ga,Z]at q3;exact q3.back U),λc l WZ Yv C a2 u t=>k.nx c _ _ _ ((C.trans L).trans ga) ((a2.trans E).trans Z) u (up t),λc l WZ Yv C a2 u t=>⟨c,l,C.trans L,a2.trans E,t,u⟩⟩⟩
 .have e:i=ws.length:=by lia
  subst e;refine .inl ⟨iw.st _ H2 N.sm rfl,?_⟩;rw[f7,iQ]at AB;exact k.nx A2 _ _ _ (L.trans ga) (E.trans Z) AB (up N)
private theorem QF{ti:(Addr->Prop)->WT}(s:X.calm=true)(u:∀i∈ts,¬aL M i)(n:PassesOwn (model X.prog X.w) X.A X.env X.xe)(o:∀R,PI X tg iter (Ie X M R false (ti R)))(r:PG X tg (gT X.K one ts))(t:xg X M m body tb)(l:∀x,foldedSetIterable iter X.env x=pure x):
 VS X M m (.For tg iter body [] pos) (λd b=>ti d.ex b λz=>items z λws=>iQ (λw D c=>wT one ts w c λv=>tb D v) d ws b):=
 QE (ti:=λR b Q=>ti R b λz=>Q z b) s u n (λR=>PI.imp (o R)<|by rintro E H Q ⟨A,C,b,P,S,y,h,k⟩;refine⟨A,C,b,_,S,y,h,λz hz=>?_⟩;obtain⟨ws,e,_⟩:=k z A b H hz (.same (aq.refl _)) S;refine⟨ws,e,λJ B g j=>?_⟩;obtain⟨F,f,q⟩:=k z A b H hz (.same (aq.refl _)) S;rw[e]at f;cases f;exact q J B g j) r t l
end
section
variable{X:Cx}{M:Ms}{R:Addr->Prop}{m m0:Md}{e o a b c:Expr}{es rest:List Expr}{t ta tb:vh}{tl:M3}{pos apos cpos p:Pos}{i j n:Nat}{st:Stmt}{x:Str}{π:List j5}
private theorem Ko(F:bW X.prog X.w X.K X.mg X.base k fv n (yW X.K n m sp))(hr:bZ k X.A)(hg:Gl X x)(hm:X.mg x=some fv)
 (hn:∀ws P R,sp ws P R->ws.length=n)(ha:DF X M R (e::es) tl)(N:(x==("__debug__":Str))=false)(he:starEach (e::es) X.env=(false,eval e X.env)::starEach es X.env)(L:(backTo pos (starEach es X.env)).any (·.1)=false):
 VP X M R (.Call (.Name x p) (e::es) [] pos) (λz Q=>tl z λws y=>sp ws (λw=>Q w y) R):=by
 rintro l s U H Q I ⟨A,H0,z,P,S,er,h,kk⟩;obtain⟨E,Y,hE,hR⟩:=er;refine Pm (iG I hg hm ?_ N);refine Pi (h₀:=X.base) I.ok.mod.DR F.keep (bF (ha pos l s U H (λD q=>∃ws d f,Go A H d q/\SR X.K M d H0 U q f/\ai X.K d.B q ws D/\sp ws (λw=>P w f) R) I ⟨A,H0,z,_,S,⟨E,Y,hE,hR⟩,h,λd ws D q f hw O g J=>⟨ws,d,f,O,g,J,hw⟩⟩) λus s1 ⟨D,q,I1,r,ws,d,f,O,g,J,Z⟩=>⟨I1.jh,?_⟩) he L;exact F.run hr (Y _ _) I1 r ⟨d.B,ws,_,R,hn _ _ _ Z,J,g.dom,Z,λw v T pw u r'=>kk d w v T f pw (O.trans (.same u)) (g.same u) (r'.rep g.dom),λC T rc u=>hE C T rc (g.sm.trans u)⟩
private theorem M5{K:Frag}{sp:aT}{ws:List W}{vs:List V}{P:W->Ev->Prop}{Q:VK}{E:XK}{q:V}(S:SR K M A L k H l)(D:(i,m0)∈M)(T:look l i=some g)(N:k[i]?=some (some q))(Z:ai K A.B H ws vs)(hn:ws.length+1=n)
 (h:sp (g::ws) (λr=>∃w y,r=.tup [w,y]/\P w (l.set i (some y))) R)(hE:∀C H',R C->aq L H'->E (.ref C) none H')(kk:∀f w v H' d,P w d->Go A H f H'->SR K M f L k H' d->Rep K f.B H' w v->Q v H'):WM K n m0 sp (q::vs) H Q E:=by
 obtain⟨F,O⟩:=S.ow;obtain⟨v,U,h2⟩:=O.val i m0 g D T;rw[N]at U;cases U;have I:aL M i:=⟨m0,D⟩;have Y:∀p,((A.B p/\p∉F i)\/p∈F i)->A.B p:=λp z=>by
  rcases z with z|z
  .exact z.1
  .exact(O.all p).mpr (.inr ⟨i,I,z⟩)
 refine⟨λp=>A.B p/\p∉F i,F i,g,q,ws,vs,_,R,rfl,hn,O.nd i I,λp hp z=>z.2 hp,λp z=>S.dom p z.1,Fp.mv (aq.refl _) (λp _ _ z=>Y p z) m0 h2,Z.less Y,h,λw y v F' H' u J nd nw fp s=>?_,λC H' rc J=>hE C H' rc λp o e=>?_⟩
 .obtain⟨w',y',e,u⟩:=u;cases e;obtain⟨f,a1,a2,aB,a3,a4,S'⟩:=O.chg (F':=F') S D T N (λp o e=>(J p o e).imp (λz=>⟨z.1,z.2⟩) id) nd nw fp;exact kk f w v H' _ u ⟨a1,a2,a3,a4⟩ S' (s.less λp z=>(aB p).mp z)
 .rcases J p o (S.sm p o e)with⟨_,z⟩|z
  .rw[O.nw i p I z]at e;cases e
  .exact z
private theorem FP:∀(l:List Str)(r:List V),l.contains x=false->(l.zip r).lookup x=none:=λl=>by
 induction l with
 |nil=>intro r _;rfl
 |cons y l f=>
  intro r d;cases r with
  |nil=>rfl
  |cons z r=>rw[List.contains_cons,ck]at d;rw[G1,DK,d.1];exact f r d.2
private theorem QG{G:W}{ms:List Md}{sp:aT}(hG:∀C,G=.cls C->Meth X.K C x f)(F:bL X.prog X.w X.K X.mg X.base (eu X.prog X.w) k f fd ps (WM X.K n (.o Y ms) sp))(hr:bZ k X.A)(hb:Binds X.K fd ps [])(hi:(i,.o Y ms)∈M)(hx:Y.contains x=false)
 (hn:∀ws P R,sp ws P R->ws.length=n)(hv:PE X o (gI i))(ha:DF X M R (e::es) tl)(hst:starEach (e::es) X.env=(false,eval e X.env)::starEach es X.env)(hpl:(backTo pos (starEach es X.env)).any (·.1)=false)
 (ht:eval (.Call (.Attribute o x apos) (e::es) [] pos) X.env=(do
   let ov<-eval o X.env
   standAt apos.atName
   let(f,first)<-holding [ov] (getMethod ov x pl)
   callWith pos f first (backTo pos (starEach (e::es) X.env)) (backToKw pos (keywordEach [] X.env)))):
 VP X M R (.Call (.Attribute o x apos) (e::es) [] pos) (λT Q=>match look T i with|some (.obj C _ _)=>G=.cls C/\(tl T λws l=>match look l i with|some D=>sp (D::ws) (λr=>∃w y,r=.tup [w,y]/\Q w (l.set i (some y))) R|none=>False)|_=>False):=by
 rintro z s Z H Q I ⟨A,H0,T,P,S,er,h,kk⟩;obtain⟨E,pE,hE,hR⟩:=er
 try dsimp only at h
 cases hl:look T i with
 |none=>rw[hl]at h;exact h.elim
 |some w1=>
  rw[hl]at h;cases w1 with
  |obj C fs' ws1=>
   obtain⟨hg,h⟩:=h;obtain⟨F0,O0⟩:=S.ow;obtain⟨v0,U,Z9⟩:=O0.val i _ _ hi hl;obtain⟨C',dx,di,q,Ue,F',e1,rfl,e3,h1,h2,hc,_⟩:=Z9;cases e1;have lk:=FP (x:=x) Y Ue hx;have mt:=hG C hg;refine Xt (pl:=pl) (bF (hv z s Z H (λv' H'=>v'=V.ref q/\H'=H) I ⟨_,U,rfl,rfl⟩) λu s1 ⟨x1,H1,I1,rx,ex,eh⟩=>?_) ht;subst ex;subst eh;obtain rfl:u=Value.ref q:=rx;refine iK I1 h1 hc.1 mt lk ?_;refine Pi (first:=[.ref q]) (h₀:=X.base) I.ok.mod.DR mt.kp (bF (ha pos z s1 Z H1 (λvs' N=>∃ws O L D,Go A H1 O N/\SR X.K M O H0 Z N L/\ai X.K O.B N ws vs'/\look L i=some D/\sp (D::ws) (λr=>∃w y,r=.tup [w,y]/\P w (L.set i (some y))) R) I1 ⟨A,H0,T,_,S,⟨E,pE,hE,hR⟩,h,λO ws vs H1 L J g1 S1 rs=>?_⟩) λus s2 hz=>?_) hst hpl
   .try dsimp only at J
    cases d:look L i with
    |none=>rw[d]at J;exact J.elim
    |some D=>rw[d]at J;exact⟨ws,O,L,D,g1,S1,rs,d,J⟩
   .obtain⟨vs,H2,I2,r,ws,O,L,D,g1,S1,rs,d,lC⟩:=hz;refine⟨I2.jh,p9 (us:=.ref q::us) (vs:=.ref q::vs) (ds:=[]) (B8:=[]) F hr hb .nil (pE _ _) I2 (.cons rfl r) ?_⟩;rw[Kx];exact M5 S1 hi d U rs (by have:=hn _ _ _ lC;simpa using this) lC hE λA' w v H' l J g S' rr=>kk A' w v H' l J (g1.trans g) S' rr
  |_=>exact h.elim
end
private theorem FQ{n:Nat}:∀(l:List Str)(r:List V)(n:Nat),l.Nodup->l[n]?=some x->r[n]?=some v->(l.zip r).lookup x=some v:=λl=>by
 induction l with
 |nil=>intro r n _ e _;exact nn e
 |cons y l g=>
  intro r n b c a;cases r with
  |nil=>exact nn a
  |cons z r=>
   rw[G1,DK];cases n with
   |zero=>
    cases c;cases a;rw[Qr]
   |succ n=>
    have d:l[n]?=some x:=by simpa using c
    have f:(x==y)=false:=by rw[NM];rintro rfl;exact(Ha.mp b).1 (KM d)
    rw[f];exact g r n (Ha.mp b).2 d (by simpa using a)
private theorem Kp:∀(l:List Str)(r:List V)(n:Nat),l.Nodup->l[n]?=some x->r.length=l.length->iJ x v (l.zip r)=l.zip (r.set n v):=λl=>by
 induction l with
 |nil=>intro r n _ e _;exact nn e
 |cons y l g=>
  intro r n b d c;cases r with
  |nil=>cases c
  |cons z r=>
   cases n with
   |zero=>
    cases d;rw[List.set_cons_zero,G1,G1,iJ];rw[BM (by first|rfl|simp)]
   |succ n=>
    have f:l[n]?=some x:=by simpa using d
    have a:y≠x:=by rintro rfl;exact(Ha.mp b).1 (KM f)
    rw[eB,G1,G1,iJ];rw[B1 (by first|exact a|simpa using a),g r n (Ha.mp b).2 f (by simpa using c)]
section
variable{X:Cx}{M:Ms}{R:Addr->Prop}{m m0:Md}{e o a b c:Expr}{es rest:List Expr}{t ta tb:vh}{tl:M3}{pos apos cpos p:Pos}{i j n:Nat}{st:Stmt}{x:Str}{π:List j5}
private theorem Kq{G:W}{T:List Md}{sp:aT}(hG:∀C,G=.cls C->Meth X.K C x f)(F:bL X.prog X.w X.K X.mg X.base (eu X.prog X.w) k f Y ps (WM X.K n (.o D T) sp))(hr:bZ k X.A)(hb:Binds X.K Y ps [])(U:(i,.o D T)∈M)(hx:D.contains x=false)
 (hn:∀ws P R,sp ws P R->ws.length=n)(hv:PE X o (gI i))
 (ht:eval (.Call (.Attribute o x apos) [] [] pos) X.env=(do
   let ov<-eval o X.env
   standAt apos.atName
   let(f,first)<-holding [ov] (getMethod ov x pl)
   callWith pos f first (backTo pos (starEach [] X.env)) (backToKw pos (keywordEach [] X.env)))):
 VP X M R (.Call (.Attribute o x apos) [] [] pos) (λd Q=>match look d i with|some (.obj C _ _)=>G=.cls C/\(match look d i with|some w0=>sp [w0] (λr=>∃w y,r=.tup [w,y]/\Q w (d.set i (some y))) R|none=>False)|_=>False):=by
 rintro l s Z H Q I ⟨A,H0,d,P,S,er,h,kk⟩;obtain⟨E,pE,hE,hR⟩:=er
 try dsimp only at h
 cases B:look d i with
 |none=>rw[B]at h;exact h.elim
 |some w1=>
  rw[B]at h;cases w1 with
  |obj C fs' ws1=>obtain⟨hg,h⟩:=h;obtain⟨F0,O0⟩:=S.ow;obtain⟨v0,z,Z9⟩:=O0.val i _ _ U B;obtain⟨C',dx,di,q,Ue,F',e1,rfl,e3,h1,h2,hc,_⟩:=Z9;cases e1;have O:=hG C hg;refine Xt (pl:=pl) (bF (hv l s Z H (λv' N=>v'=V.ref q/\N=H) I ⟨_,z,rfl,rfl⟩) λu s1 ⟨x1,H1,L,rx,ex,eh⟩=>?_) ht;subst ex;subst eh;obtain rfl:u=Value.ref q:=rx;refine iK L h1 hc.1 O (FP D Ue hx) ?_;refine PySem.W.callWith_K0 (first:=[.ref q]) L.jh O.kp (p9 (us:=[.ref q]) (vs:=[.ref q]) (ds:=[]) (B8:=[]) F hr hb .nil (pE _ _) L (.cons rfl .nil) ?_);exact M5 S U B z .nil (by have:=hn _ _ _ h;simpa using this) h hE λA' w v N J hw g S' rr=>kk A' w v N J hw g S' rr
  |_=>exact h.elim
private theorem FT(h:PE X e (gI i)):PE X e (qH X.K i []):=PE.imp h<|by rintro g H Q ⟨v,u,f,d,q⟩;cases d;exact⟨v,f,q⟩
private theorem Ia.fl{K:Frag}:∀(π:List j5){v u:V},Ia K H v (π++[.fl n f]) u->∃p vs C g d,Ia K H v π (.ref p)/\H p=some (.ins C g (List.zip d vs))/\sJ K C d/\d[n]?=some f/\vs[n]?=some u
 |[],v,u,h=>by obtain⟨p,vs,x,e,⟨C,g,d,s,_,y,w⟩,r,l⟩:=h;cases l;exact⟨p,vs,C,g,d,by rw[e];rfl,s,y,w,r⟩
 |.fl m _::π,v,u,h=>by obtain⟨p,vs,x,e,s,r,l⟩:=h;obtain⟨q,k,C,g,d,a,b,c⟩:=Ia.fl π l;exact⟨q,k,C,g,d,⟨p,vs,x,e,s,r,a⟩,b,c⟩
private theorem FU(h:PE X a (qH X.K i π))(s:attributeBase a f X.env (eval a X.env)=eval a X.env):PE X (.Attribute a f pos) (qH X.K i (π++[.fl n f])):=
 PE.imp (El h s)<|by rintro E H Q ⟨v,u,A,z,l⟩;obtain⟨q,k,C,D,B,r,y,d,g,w⟩:=Ia.fl π z;exact⟨v,.ref q,A,r,q,C,D,_,u,rfl,y,d.1,d.2.2.2 f (KM g),FQ (v:=u) (n:=n) B k n d.2.2.1 g w,l⟩
private theorem QH{te:(Addr->Prop)->WT}(hps:∀{tv:TE},PE X e tv->PS X st (VG X.K (gI i) tv f))(E:(i,.o g T)∈M)(hf:g[n]?=some f)(hm:T[n]?=some .s)(he:∀R,VE X M R .s e (te R)):
 VS X M m st (λd u=>te d.ex u λw=>match look u i with|some (.obj C g ws)=>n<ws.length/\d.nx (u.set i (some (.obj C g (ws.set n w))))|_=>False):=by
 rintro J s σ H D I ⟨A,H0,u,d,S,er,hz,h,k⟩;refine hps (he d.ex) J s σ H D I ⟨A,H0,u,_,S,er,h,λw v H1 l s1 r=>?_⟩
 try dsimp only at l
 cases U:look u i with
 |none=>rw[U]at l;exact l.elim
 |some w1=>
  rw[U]at l;cases w1 with
  |obj C fs' ws=>
   obtain⟨hn,l⟩:=l;have S1:=S.same s1;obtain⟨F,O⟩:=S1.ow;obtain⟨v0,N,fp⟩:=O.val i _ _ E U;obtain⟨C',Q,di,q,y,F',e1,rfl,Z,Y,h2,P,h3⟩:=fp;cases e1;have r:=r.aM;have hB:A.B q:=(O.all q).mpr (.inr ⟨i,⟨_,E⟩,by rw[Z];exact Ap⟩);obtain⟨w0,hw0⟩:∃w0,ws[n]?=some w0:=⟨_,Da hn⟩;obtain⟨v1,F1,G,F2,q1,e4,q3,q4⟩:=i8.at T h3 hm hw0;obtain⟨rfl,_⟩:=q3;have cB:sL A.B H1 (upd H1 q (.ins C Q (g.zip (y.set n v)))):=.put Y rfl hB;have Z5:q∉F':=by have:=O.nd i ⟨_,E⟩;rw[Z]at this;exact(Ha.mp this).1
   have fp':i8 X.K A.B (upd H1 q (.ins C Q (g.zip (y.set n v)))) T (ws.set n w) (y.set n v) F':=by
    rw[e4];refine q4 _ A.B w v [] ?_ (λp o e=>?_) (λ_ _ _ z=>z)
    .exact⟨rfl,Rep.chg cB (λ_ _ _ z=>z) w r⟩
    .by_cases L:p=q
     .subst L;rw[Y]at e;cases e;refine .inl ⟨rfl,hB,λz=>Z5 ?_⟩;rw[e4];rcases Fu.mp z with z|z<;>simp[z]
     .exact .inr (by rw[ak L];exact e)
   refine⟨_,N,q,C,Q,_,rfl,Y,P.1,P.2.2.2 f (KM hf),?_,?_⟩
   .rw[List.length_zip,h2,Nat.min_self];exact P.2.1
   .rw[Kp g y n P.2.2.1 hf h2];obtain⟨A',a1,a2,_,_,_,S'⟩:=O.chg (F':=F i) (H1:=upd H1 q (.ins C Q (g.zip (y.set n v)))) (w':=.obj C g (ws.set n w)) S1 E U N (λp o e=>by
     by_cases L:p=q
     .subst L;rw[Y]at e;cases e;exact .inl ⟨rfl,by rw[Z];exact Ap⟩
     .exact .inr (by rw[ak L];exact e)) (O.nd i ⟨_,E⟩) (λp hp=>.inl hp) (Fp.mv (aq.refl _) (λp _ _ z=>by
      rcases z with z|z
      .exact z.1
      .exact(O.all p).mpr (.inr ⟨i,⟨_,E⟩,z⟩)) _ (by exact⟨C,Q,ws.set n w,q,y.set n v,F',rfl,rfl,Z,az,by rw[Kt];exact h2,P,fp'⟩))
    exact k.nx A' _ _ _ a1 a2 l S'
  |_=>exact l.elim
end
end VL
namespace L2
open PySem PySem.Spec PyProof.Rows
section
variable{pr:Program}{wo:World}{B:Around}{EE:Value->Shared->Prop}
end
section
variable{X:Cx}{pos:Pos}
end
end L2
namespace VL
open PySem PySem.Spec
open PyProof.Rows hiding St
open L2
section
variable{K:Frag}{M M':Ms}{A:Fz}{H0 H H1:Hp}{σ:St}{ε:Ev}
end
section
variable{X:Cx}{M M':Ms}{m:Md}{st:Stmt}{te:(Addr->Prop)->WT}
end
section
variable{K:Frag}{B B':Addr->Prop}{H:Hp}
mutual
theorem Rep.wQ:∀(w:W){v:V},wQ w=true->Rep K B H w v->Rep K B' H w v
 |.aN,_,_,r=>by dsimp only[Rep]at r⊢;exact r
 |.bl _,_,_,r=>by dsimp only[Rep]at r⊢;exact r
 |.int _,_,_,r=>by dsimp only[Rep]at r⊢;exact r
 |.str _,_,_,r=>by dsimp only[Rep]at r⊢;exact r
 |.tup l,v,h,r=>by obtain⟨p,vs,e,b,a⟩:=r;exact⟨p,vs,e,b,ai.wQ l h a⟩
 |.ty _,_,h,_=>ff h
 |.cls _,_,h,_=>ff h
 |.fn _,_,h,_=>ff h
 |.err _,_,h,_=>ff h
 |.gu _ _ _,_,h,_=>ff h
 |.j4 _ _ _ _,_,h,_=>ff h
 |.lst _,_,h,_=>ff h
 |.dct _ _,_,h,_=>ff h
 |.obj _ _ _,_,h,_=>ff h
 |.eE _,_,h,_=>ff h
theorem ai.wQ:∀(l:List W){vs:List V},uX l=true->ai K B H l vs->ai K B' H l vs
 |[],_,_,r=>by dsimp only[ai]at r⊢;exact r
 |w::l,vs,h,r=>by obtain⟨v,us,rfl,b,a⟩:=r.cons_inv;rw[uX,AC]at h;exact .cons (Rep.wQ w h.1 b) (ai.wQ l h.2 a)
end
mutual
theorem Fp.flat(m:Md)(h:Fp K B H m w v F)(f:flat m w=true)(n:∀p∈F,¬B' p):Rep K B' H w v:=by
 cases m with
 |s=>exact Rep.wQ w f h.2
 |f=>obtain⟨a,p,b,rfl,rfl,rfl,d,c⟩:=h;exact⟨p,b,rfl,n p (Dx.mpr rfl),.inl d,ai.wQ a f c⟩
 |_=>exact ff f
end
end
section
variable{X:Cx}{M M':Ms}{m m0:Md}{st:Stmt}{ti:(Addr->Prop)->WT}{tc te:WT}{one:Bool}{ts:List Nat}{i n:Nat}
end
section
variable{K:Frag}{M:Ms}{A:Fz}{H0 H:Hp}{σ:St}{ε:Ev}
end
section
variable{X:Cx}{M:Ms}{m:Md}{st:Stmt}{tg it e o:Expr}{j a b:Nat}{pos q:Pos}{x0:W}{te:WT}
end
section
variable{K:Frag}{M M':Ms}{A:Fz}{H0 Hs H H1:Hp}{σ:St}{ε:Ev}
end
section
variable{X:Cx}{M M':Ms}{m:Md}{st:Stmt}{ti:(Addr->Prop)->WT}{te:vh}{i:Nat}
private theorem QI(l:DF X M R es tl):VP X M R (.List es pos) (λb Q=>tl b λws a=>ws.length<=sizeLine/\Q (.lst ws) a):=PE.imp (yz l)<|by rintro r H Q ⟨A,o,b,P,S,n,h,k⟩;refine⟨A,o,b,_,S,n,h,λq ws j s a d g f c=>⟨by rw[ai.len c];exact d.1,λp e=>?_⟩⟩;have sm:=aK e (.lst j);exact k q _ _ _ a d.2 (g.trans (.same sm)) (f.same sm) ((dw.fresh (aq.refl _) e c).rep f.dom)
private theorem QJ(l:DF X M R es tl):VP X M R (.Tuple es e pos) (λb Q=>tl b λws a=>ws.length<=sizeLine/\Q (.tup ws) a):=PE.imp (Em l)<|by rintro s H Q ⟨A,q,b,P,S,n,h,k⟩;refine⟨A,q,b,_,S,n,h,λr ws f t a d g o c=>⟨by rw[ai.len c];exact d.1,λp j=>?_⟩⟩;have sm:=aK j (.tup f);exact k r _ _ _ a d.2 (g.trans (.same sm)) (o.same sm) (yS az (ai.same sm c))
end
section
variable{K:Frag}{B:Addr->Prop}{H:Hp}{j:Int}
end
private theorem FW{K:Frag}{i:Nat}{t ws:List W}(S:SR K M A r h H j)(c:(i,.d)∈M)(u:look j i=some (.dct t ws)):
 ∃p kvs,h[i]?=some (some (.ref p))/\H p=some (.dK kvs)/\t=kvs.map (λx=>eO x.1)/\ai K A.B H ws (kvs.map (·.2))/\∀H1,aq H H1->∀(a:List (Key×V))(b f:List W),b=a.map (λx=>eO x.1)->ai K A.B H1 f (a.map (·.2))->
  ∃g,g.ab=A.ab/\g.s0=A.s0/\SR K M g r h (upd H1 p (.dK a)) (j.set i (some (.dct b f))):=by
 obtain⟨F,O⟩:=S.ow;obtain⟨v,k,l⟩:=O.val i .d _ c u;obtain⟨J,I,p,kvs,U,rfl,C,y,P,R⟩:=l;cases U;have E:p∈F i:=by rw[C];exact Ap
 have WU:A.B p:=(O.all p).mpr (.inr ⟨i,⟨.d,c⟩,E⟩);refine⟨p,kvs,k,y,P,R,λH1 s a b f T L=>?_⟩;have S1:=S.same s;have O1:Ph K M A r h H1 j F:=⟨O.un,λi m w c e=>let⟨v,k,l⟩:=O.val i m w c e;⟨v,k,Fp.mv s (λ_ _ _ z=>z) m l⟩,O.emp,O.nd,O.ds,O.nw,O.na,O.all⟩;have D:=s _ _ y;have X:sL A.B H1 (upd H1 p (.dK a)):=.put D rfl WU;have Q:∀q o,H1 q=some o->(Cr o=true/\q∈F i)\/upd H1 p (.dK a) q=some o:=λq o e=>by
  by_cases n:q=p
  .subst n;rw[D]at e;cases e;exact .inl ⟨rfl,E⟩
  .exact .inr (by rw[ak n];exact e)
 have Z:Fp K (λq=>(A.B q/\q∉F i)\/q∈F i) (upd H1 p (.dK a)) .d (.dct b f) (.ref p) (F i):=⟨b,f,p,a,rfl,rfl,C,az,T,ai.chg X (λq _ _ z=>by
  rcases z with z|z
  .exact z.1
  .exact(O.all q).mpr (.inr ⟨i,⟨.d,c⟩,z⟩)) f L⟩
 obtain⟨g,Y,a2,_,a3,a4,a5⟩:=O1.chg (F':=F i) S1 c u k Q (O.nd i ⟨.d,c⟩) (λq N=>.inl N) Z;exact⟨g,Y,a2,a5⟩
section
variable{X:Cx}{M:Ms}{R:Addr->Prop}{o e f:Expr}{te tf:WT}{i:Nat}{pos:Pos}
private theorem yY{P:List W->List W->Prop}(h:match look b i with|some (.dct a vs)=>P a vs|_=>False):∃a vs,look b i=some (.dct a vs)/\P a vs:=by
 cases c:look b i with
 |none=>rw[c]at h;exact h.elim
 |some w=>
  rw[c]at h;cases w with
  |dct a vs=>exact⟨a,vs,rfl,h⟩
  |_=>exact h.elim
end
section
variable{X:Cx}{M M':Ms}{m:Md}{st:Stmt}{i:Nat}{e e1:Expr}{te t1:(Addr->Prop)->WT}
private theorem QK:VE X M' R .d (.Dict [] [] pos) (λb Q=>Q (.dct [] [])):=PE.imp E8<|by rintro f H Q ⟨A,j,b,P,S,g,h,k⟩;intro p a;refine k _ _ _ h (aK a _) ⟨[p],by simp,λq c=>?_,[],[],p,[],rfl,rfl,rfl,az,rfl,.nil⟩;rw[Dx.mp c];exact a
def M6:V->V->V->Hp->(Hp->Prop)->Prop:=λo k v H Q=>∃p a,o=.ref p/\E7 H p k v a/\Q a
private theorem set_dict(d:X.A.units+1<cLine):Oo X M6:=by intro a s l H o k v r t u Q I b c rv h;obtain⟨p,j,rfl,f,q⟩:=h;cases b;exact Ct d I f c rv λn g=>⟨j,g,q⟩
end
section
variable{K:Frag}{M:Ms}{A:Fz}{H0 H:Hp}{σ:St}{ε:Ev}
end
section
variable{X:Cx}{M M':Ms}{m:Md}{st:Stmt}{tg it tg2 it2 e:Expr}{j a b t y:Nat}{pos pos2:Pos}{te:WT}
end
end VL
namespace L2
open PySem PySem.Spec PyProof.Rows PySem.W
section
variable{prog:Program}{w:World}{A:Around}{E:Value->Shared->Prop}{s:Shared}
end
section
variable{prog:Program}{w:World}{A:Around}{E:Value->Shared->Prop}{s:Shared}{a I tp:Addr}{es:Array (Int×Value)}{ep i:Nat}{t:SetTable}{vs:List Value}
private theorem qm:Slot "set_iterator" "__iter__" "set_iterator.__iter__":=.of (owner:="set_iterator") (n:="__iter__") (by rw[typeLookup_type,builtinLookup_eq_fast];kernel_rfl) (by decide+kernel) (by decide+kernel) (by decide+kernel) (by first|exact .inl (by decide+kernel)|exact .inr (by decide+kernel)) (by rw[isSubtype_type];kernel_rfl)
end
section
variable{X:Cx}
private theorem Inv.drw(I:Inv X a b H s)(d:Drawn):Inv X a b H {s with drawn:=d}:=⟨I.ok,I.os,I.bare,I.base,I.loc,I.cell,I.free,I.dW,I.pin,I.hok,I.len⟩
private theorem ur:∀{us:List Value}{a:List Str},StrsAre us a->Vals (a.map V.str) us
 |_,_,.nil=>.nil
 |_,_,.cons y t r=>.cons ⟨t,rfl⟩ (ur r)
private theorem CI{Q:V->Hp->Prop}(I:Inv X f D H s)(l:List Str)(i:l.length<64)
 (col:∀(R:List Value->Shared->Prop),(∀(g:Heap)(k:Nat)(d:Drawn)(vs:List Value)(c:List Str),s.heap.objs.size<=g.objs.size->(∀b o,s.heap.get? b=some o->g.get? b=some o)->StrsAre vs c->c.Perm l->R vs {s with heap:=g,toks:=k,drawn:=d})->wpAny (model X.prog X.w) X.A.in1 (collect (.ref r)) R X.xe s)
 (q:∀(p:Addr)(c:List Str),H p=none->c.Perm l->sortedS c=true->Q (.ref p) (upd H p (.lst (c.map V.str)))):wpAny (model X.prog X.w) X.A (call (.builtin "sorted") [.ref r]) (EP X f D Q) X.xe s:=by
 refine Calls.call_function_entry kind_sorted plain_sorted entry_sorted (args_sorted1 _) ?_;unfold Builtin.«sorted»;refine DO (m:=checkCount "sorted" 1 1 _) (GE ?_);refine DO (col _ λh' k d vs O j z n x=>?_);have K:vs.length=l.length:=by rw[<-x.length_eq];exact StrsAre.length n
 have M:vs.length<=sizeLine:=by rw[K];exact FV (SF i) (by decide)
 refine DO (wpAny_newList ?_ M);have y:(h'.push (seqObj "list" vs.toArray 0)).get? h'.objs.size=some (seqObj "list" vs.toArray 0):=Hb _ rfl;show wpAny _ _ _ _ _ {s with heap:=h'.push (seqObj "list" vs.toArray 0),toks:=k,drawn:=d};refine DO (du (wpAny_call_entry slot_list_sort ⟨_,y,rfl⟩ entry_list_sort (list_sort_treeK strKind_oneLt y n.keysOf (λF E rest e=>keyKind_strs (by rw[<-e];exact n)) (by rw[K];exact i) λh v t=>⟨_,rfl,?_⟩) (args_list_sort _)));obtain⟨c,N,a2,a3⟩:=sorted_out_str n v t;refine GE ⟨_,rfl,?_⟩;obtain⟨B,C⟩:=sortedHeap_at (out:=(arrOf h).map (·.2)) y;refine⟨.ref h'.objs.size,_,(I.laid (a:=h'.objs.size) (o:=.lst (c.map V.str)) (t':=k) (h':=sortedHeap (h'.push (seqObj "list" vs.toArray 0)) h'.objs.size vs ((arrOf h).map (·.2))) (λb u e=>?_) j ⟨?_,((arrOf h).map (·.2)).toList,B,ur N,?_⟩).drw d,rfl,q _ c (I.hok.fresh j) (a2.trans x) a3⟩
 .have L:=z b u e;have J:=FC L;rw[sortedHeap_old (Hk J) (by rw[size_push'];exact Tc J)];exact Bi _ L
 .rw[FK,a2.length_eq,x.length_eq];exact FV (SF i) (by decide)
 .rw[C]
end
section
variable{prog:Program}{w:World}{A:Around}{E:Value->Shared->Prop}{s:Shared}{a:Addr}{es:Array (Int×Value)}{ep:Nat}{t:SetTable}
end
section
variable{X:Cx}
private theorem Kr(h:(bD prog w).is (.inr x) v=true):∃t,v=Value.str x t:=by
 have h:pS (.inr x) v=true:=h;rcases bG h with⟨i,t,e,rfl⟩|⟨y,t,e,rfl⟩
 .cases e
 .cases e;exact⟨t,rfl⟩
private theorem Ks:∀{us:List Value},us.length=a.length->(∀(j:Nat)(v:Value),us[j]?=some v->∃n t,a[j]?=some n/\v=Value.str n t)->StrsAre us a:=by
 induction a with
 |nil=>intro us h _;rw[Kb.mp h];exact .nil
 |cons n a b=>
  intro us h k;cases us with
  |nil=>cases h
  |cons u us=>obtain⟨f,t,d,c⟩:=k 0 u rfl;cases d;subst c;exact .cons n t (b (by simpa using h) λj v e=>k (j+1) v (by simpa using e))
private theorem yZ(S:X.calm=true):cj X (.builtin "sorted") (λC H Q=>∃(a:Addr)(kvs:List (Key×V))(b:List Str),C=[V.ref a]/\H a=some (.dK kvs)/\kvs.map (·.1)=b.map Ec/\b.length<64/\
 ∀(p:Addr)(i:List Str),H p=none->i.Perm b->sortedS i=true->Q (.ref p) (upd H p (.lst (i.map V.str)))):=by
 intro D s σ H C us Q I r h;obtain⟨a,kvs,b,rfl,T,F,g,q⟩:=h;obtain⟨u,rfl,K⟩:=vals1 r;cases K;obtain⟨z,L,d,f,Z⟩:=nU I.hok (.inl T);obtain⟨ep,o⟩:=Z.dictAt;have E:d.length=b.length:=by have Y:=IR J9 F;rw[FK,FK]at Y;have y:=f.length;lia
 have keys:d.map (·.1)=b.map Ec:=by rw[<-F];exact f.keys.symm
 have P:d.length<=sizeLine:=by rw[E];exact FV (SF g) (by decide)
 refine CI I b g (λR k=>Fe (A:=X.A.in1) (kdl_dict (knd:=bD X.prog X.w) (kvs:=d) (ep:=ep) L) (I.ok.hd S) o P λU J B l m c=>?_) q;refine k U J s.drawn B.toList b (SF l) m (Ks (by rw[Ju,c.1,E]) λj v e=>?_) (.refl _);obtain⟨M,x,N,O⟩:=c.2 j v (by rw[<-ZX];exact e);have y:(d.map (·.1))[j]?=some M:=by rw[GM,N];rfl
 rw[keys,GM]at y;obtain⟨n,en,rfl⟩:=He.mp y;obtain⟨t,rfl⟩:=Kr O;exact⟨n,t,en,rfl⟩
end
end L2
namespace VL
open PySem PySem.Spec
open PyProof.Rows hiding St
open L2
section
variable{X:Cx}{M:Ms}{R:Addr->Prop}{e a b c o:Expr}{ta tb tc:WT}{m:Md}{pos p:Pos}{x:Str}{i:Nat}
private theorem QL(E:VB X M R a ta)(n:PO X v (Qd X M R tl))(f:PO X y (Qd X M R u)):VE X M R .s (.Subscript a (.Slice v y none p2) pos) (λd Q=>ta d λx=>tl d λl=>u d λh=>JG x l h Q):=
 PE.imp (wk (Pr.or OJ) E n f)<|by
  rintro I H Q ⟨A,t,d,P,S,r,h,k⟩;refine⟨A,t,d,_,S,r,h,λx K O D g j=>⟨A,t,d,_,S.same g,r,D,λl N n s2=>⟨A,t,d,_,S.same (g.trans s2),r,n,λh L f s3=>?_⟩⟩⟩;have j:=bC.same (s2.trans s3) j;cases x with
  |str z=>
   cases j.str;exact .inl ⟨z,rfl,f.1,k _ _ _ f.2 ((g.trans s2).trans s3) (.of (oA _))⟩
  |tup J=>obtain⟨p,C,rfl,F,B⟩:=j.tup;refine .inr ⟨p,C,rfl,F,by rw[B.len];exact f.1,λq w=>?_⟩;exact k _ _ _ f.2 (((g.trans s2).trans s3).trans (aK w _)) (.of (yS az (ai.same (aK w _) (Fy B l h))))
  |_=>exact f.elim
private theorem QM(O:VE X M R .s a ta)(N:VE X M R .s b tb)(L:VE X M R .s c tc)(l:attributeBase a "startswith" X.env (eval a X.env)=eval a X.env)(j:(apos.endLine==d.line)=true)
 (g:starEach [b,c] X.env=(false,eval b X.env)::starEach [c] X.env)(s2:starEach [c] X.env=(false,eval c X.env)::starEach [] X.env):
 VE X M R .s (.Call (.Attribute a "startswith" apos) [b,c] [] d) (λf Q=>ta f λx=>Wy x=true/\tb f λy=>tc f λz=>Py x y z Q):=
 PE.imp (t6 PySem.F.plainAttrs_str PySem.F.slot_str_startswith PySem.F.type_str_startswith Cy O (aS N (aS L bV s2) g) l (by rw[g,s2];rfl) j g (by rw[s2];rfl))<|by
  rintro σ H Q ⟨A,u,f,P,S,t,h,k⟩;refine⟨A,u,f,_,S,t,h,λw v H1 r g J=>?_⟩;cases w with
  |str z=>
   obtain⟨_,r⟩:=r;have e:=J.aM;have e:v=.str z:=e;subst e;refine⟨rfl,A,u,f,_,S.same g,t,r,λC D H2 AB s2 I=>⟨A,u,f,_,S.same (g.trans s2),t,AB,λB v3 Z q s3 E=>?_⟩⟩;cases C with
   |str y=>
    cases B with
    |int n=>have Y:D=.str y:=I.aM;have U:=E.aM.int_inv;subst Y U;obtain⟨T,h2,q⟩:=q;obtain⟨K,rfl⟩:=Ki T;exact⟨z,y,K,rfl,rfl,by lia,k _ _ Z q ((g.trans s2).trans s3) (.of (pD _))⟩
    |_=>exact q.elim
   |_=>exact q.elim
  |_=>exact ff r.1
private theorem QN(D:VE X M R .s a ta)(B:attributeBase a x X.env (eval a X.env)=eval a X.env):VE X M R .s (.Attribute a x pos) (λf Q=>ta f λw=>Pz n x w Q):=
 PE.imp (El D B)<|by
  rintro U H Q ⟨A,T,f,P,S,J,h,k⟩;refine⟨A,T,f,_,S,J,h,λw v O d t z=>?_⟩;cases w with
  |obj C I Y=>obtain⟨j,u,L,d⟩:=d;obtain⟨q,N,l,rfl,Z,F,h2,g,E⟩:=z.aM;obtain⟨y,K,r⟩:=E.get L;exact⟨q,C,N,_,y,rfl,F,g.1,g.2.2.2 x (KM j),FQ (v:=y) (n:=n) I l n g.2.2.1 j K,k _ _ O d t (.of r)⟩
  |_=>exact d.elim
private theorem FY{K:Frag}(g:Meth K C x f):∀(l:List Str)(r:List V),(∀y∈l,jk K C y)->(l.zip r).lookup x=none
 |[],_,_=>rfl
 |y::l,[],_=>rfl
 |y::l,z::r,h=>by
  have d:=h y Ap;have j:(x==y)=false:=NM.mpr λe=>by have d:findIn K (.ref C) y=some none:=d;rw[<-e,g.at_]at d;cases d
  rw[G1,DK,j];exact FY g l r λq k=>h q (AS _ k)
private theorem a3'{a b c:Bool}(z:((a&&b)&&c)=true):(a=true/\b=true)/\c=true:=by cases a<;>cases b<;>cases c<;>first|exact⟨⟨rfl,rfl⟩,rfl⟩|exact ff z
noncomputable def sO:List Str->List Int->List (Key×V)
 |x::d,v::vs=>(.inr x,.int v)::sO d vs
 |_,_=>[]
noncomputable def Ku:List Str->List Int->List (Option Expr)->List Expr->Bool
 |[],[],[],[]=>true
 |x::f,v::vs,some k::d,e::es=>(match k with|.Constant (.str y) _ _=>decide (y=x)|_=>false)&&(match e with|.Constant (.int j) _ _=>decide (j=v)|_=>false)&&Ku f vs d es
 |_,_,_,_=>false
private theorem AF(j:Str):∀(d:List Str)(vs:List Int)(n:Int),lW j d vs=some n->jd (sO d vs) (.inr j)=some (.int n)
 |[],_,_,h=>nn h
 |_::_,[],_,h=>nn h
 |x::d,v::vs,n,h=>by
  have h:(if x=j then some v else lW j d vs)=some n:=h;by_cases e:x=j
  .rw[BM e]at h;cases h;exact jq (by rw[e])
  .rw[B1 e]at h;show jd ((Ec x,V.int v)::sO d vs) _=_;rw[jr (by intro z;cases z;exact e rfl)];exact AF j d vs n h
private theorem uu:∀(f:List Str)(vs:List Int)(d:List (Key×V)),f.Nodup->(∀j∈d,∀x∈f,j.1≠Ec x)->gK d (sO f vs)=d++sO f vs
 |[],_,d,_,_=>(Kx d).symm
 |_::_,[],d,_,_=>(Kx d).symm
 |x::f,v::vs,d,l,h=>by
  obtain⟨q,n⟩:=Ha.mp l;have e:putK d (Ec x:Key) (V.int v)=d++[(Ec x,.int v)]:=by unfold putK;rw[B1];intro z;obtain⟨j,g,e⟩:=Wf.mp z;exact h j g x Ap (AN e)
  show gK (putK d (Ec x:Key) (V.int v)) (sO f vs)=_;rw[e,uu f vs _ n λj g y k=>?_]
  .rw[NO];rfl
  .rcases Fu.mp g with g|g
   .exact h j g y (AS _ k)
   .rw[Dx.mp g];intro z;cases z;exact q k
private theorem AG:∀(f:List Str)(vs:List Int)(d:List (Option Expr))(es:List Expr),Ku f vs d es=true->Wj X p d es (N2 (λx v=>(tC (.str x),tC (.int v))) f vs)/\d.all (·.isSome)=true/\d.length=es.length/\d.length=f.length/\f.length=vs.length
 |[],[],[],[],_=>⟨Au,rfl,rfl,rfl,rfl⟩
 |x::f,v::vs,some k::d,e::es,h=>by
  obtain⟨⟨j,g⟩,w⟩:=a3' h;obtain⟨s,r,q,n,l⟩:=AG f vs d es w;have u:PE X k (tC (.str x)):=by
   cases k with
   |Constant c _ _=>
    cases c with
    |str y=>
     cases AN j;exact yo
    |_=>exact ff j
   |_=>exact ff j
  have t:PE X e (tC (.int v)):=by
   cases e with
   |Constant c _ _=>
    cases c with
    |int y=>
     cases AN g;exact uK
    |_=>exact ff g
   |_=>exact ff g
  exact⟨wN u t s,r,IR (·+1) q,IR (·+1) n,IR (·+1) l⟩
private theorem uv:∀(d:List Str)(vs:List Int){g:St}{H:Hp}{Q:List (V×V)->Hp->Prop},Q ((sO d vs).map λf=>(kV f.1,f.2)) H->uW (N2 (λx v=>(tC (.str x),tC (.int v))) d vs) g H Q
 |[],_,_,_,_,h=>h
 |_::_,[],_,_,_,h=>h
 |x::d,v::vs,_,_,_,h=>uv d vs h
private theorem AH:∀(d:List Str)(vs:List Int),(sO d vs).length<=d.length
 |[],_=>OF _
 |_::_,[]=>OF _
 |x::d,v::vs=>XM (AH d vs)
private theorem QO(E:X.A.units+1<cLine)(F:Ku d vs r es=true)(K:d.Nodup)(O:d≠[])(B:d.length<=15)(N:VE X M R .s b tb)(I:Pj b):
 VE X M R .s (.Subscript (.Dict r es p) b pos) (λl Q=>tb l λx=>match x with|.str j=>∃n,lW j d vs=some n/\Q (.int n)|_=>False):=by
 obtain⟨t,D,C,y,r5⟩:=AG (X:=X) (p:=p) d vs r es F;refine PE.imp (JC E (Av t D C (λz=>O (Kb.mp (by rw[<-y,z];rfl))) (by rw[y];exact B)) N I) ?_;rintro Z H Q ⟨A,Y,l,P,S,T,h,k⟩;intro q J;refine uv d vs ⟨az,sO d vs,rfl,FV (AH d vs) B,?_⟩;rw[uu d vs [] K (λkv L=>by cases L),MF,Iu];have sm:aq H (upd H q (.dK (sO d vs))):=aK J _;refine⟨A,Y,l,_,S.same sm,T,h,λw v U f u t=>?_⟩;cases w with
 |str j=>obtain⟨n,e,f⟩:=f;have ev:v=.str j:=t.aM;subst ev;refine⟨q,.int n,rfl,?_,k _ _ U f (sm.trans u) (.of (gO _))⟩;have g:=m6.k (k:=Ec j) (u q _ az);rw[AF j d vs n e]at g;exact g
 |_=>exact f.elim
private theorem xh:∀{kvs:List (Key×V)}{d:List Str},kvs.map (λx=>eO x.1)=d.map W.str->kvs.map (·.1)=d.map Ec
 |[],[],_=>rfl
 |[],_::_,h=>by cases h
 |_::_,[],h=>by cases h
 |x::kvs,n::d,h=>by
  obtain⟨k,v⟩:=x;rw[Fh,Fh]at h;have f:=(OR h).1;have g:=xh (OR h).2;rw[Fh,Fh,g];cases k with
  |inl i=>cases f
  |inr y=>
   cases f;rfl
private theorem qK{K:Frag}:∀d:List Str,ai K B H (d.map W.str) (d.map V.str)
 |[]=>.nil
 |m::d=>.cons (oA m) (qK d)
private theorem QS(F:X.calm=true)(B:(i,.d)∈M)(z:PE X o (gI i))(E:Gl X "sorted")(hz:X.mg "sorted"=none)(u:starEach [o] X.env=(false,eval o X.env)::starEach [] X.env):
 VE X M R .f (.Call (.Name "sorted" q) [o] [] pos) (λs Q=>match look s i with|some (.dct t vs)=>∃l:List Str,t=l.map W.str/\l.length<64/\∀j:List Str,j.Perm l->sortedS j=true->Q (.lst (j.map W.str))|_=>False):=
 PE.imp (gS (yZ F) E hz boot_sorted (aS z bV u) (he:=u))<|by rintro K H Q ⟨A,O,s,P,S,N,h,k⟩;obtain⟨t,vs,C,w,r,y,h⟩:=yY h;obtain⟨p,n,J,I,D,L,_⟩:=FW S B C;refine⟨_,J,p,n,w,rfl,I,xh (by rw[<-D];exact r),y,λq g v a b=>?_⟩;have sm:aq H (upd H q (.lst (g.map V.str))):=aK v _;exact k _ _ _ (h g a b) sm (.new v az (qK g) (qK g))
private theorem QT(D:VE X M R .s a ta):VE X M R .s (.FormattedValue a (-1) none pos) (λl Q=>ta l λw=>Fj w Q):=by
 rintro g s n H Q I ⟨A,F,l,P,S,E,h,k⟩;refine FormattedValue_plain (bF (D g s n H (λv d=>∃w,Fj w P/\aq H d/\Rep X.K (FB A M n) d w v) I ⟨A,F,l,_,S,E,h,λw v d f r j=>⟨w,f,r,j.aM⟩⟩) λu r hz=>?_);obtain⟨q,d,z,y,w,f,sm,j⟩:=hz;cases w with
 |str x=>have e:q=.str x:=j;subst e;obtain⟨t,rfl⟩:=y;exact formatField_str (λC B=>⟨.str x,d,z.tok B,⟨C,rfl⟩,k _ _ d f.2 sm (.of (oA _))⟩) (FV f.1 (by decide))
 |int i=>have e:q=.int i:=j;subst e;obtain⟨t,rfl⟩:=y;exact formatField_int_small f.1 ⟨.str _,d,z.tok _,⟨_,rfl⟩,k _ _ d f.2 sm (.of (oA _))⟩
 |_=>exact f.elim
end
section
variable{X:Cx}{M M':Ms}{m m0:Md}{st:Stmt}{i n:Nat}{e e1:Expr}{te t1:(Addr->Prop)->WT}{π:List j5}
private theorem QU(t:∀{x:TE},PE X e x->PS X st (pV (Ua X.K "list" Al (qH X.K i π) (tR x B6))))(P:(i,m0)∈M)(O:lS m0 π=some .f)(he:∀R,VE X M R .f e (te R)):
 VS X M m st (λd a=>match look a i with|some g=>(match cD g π with|some (.lst l)=>(te d.ex a λw=>match w with|.lst y=>l.length+y.length<=sizeLine/\d.nx (a.set i (some (setAt g π (.lst (l++y)))))|_=>False)|_=>False)|none=>False):=by
 rintro c s J H D I ⟨A,H0,a,d,S,Y,hz,h,k⟩;obtain⟨g,l,e1,Z,h⟩:=FH h;obtain⟨N,p,j,T,Q,E,C,hB,b⟩:=iR S P O e1 Z;refine t (he d.ex) c s J H D I ⟨N,_,T,Q,.inl ⟨rfl,j,.inl (.inl E)⟩,A,H0,a,_,S,Y,h,λw v H1 B o r=>?_⟩;obtain⟨L,q,u,rfl,rfl,hq,U,F⟩:=dw.MM r;obtain⟨A',a1,a2,_,_,S'⟩:=b H1 o (l++L) (j++u) ((C.same o).app (F.less λ_ z=>.inl z));exact⟨p,q,j,u,rfl,rfl,o _ _ E,U,by rw[C.len,F.len];exact B.1,k.nx A' _ _ _ a1 a2 B.2 S'⟩
section
variable{K:Frag}{B:Addr->Prop}{H:Hp}{j:Str}
private theorem xj:∀kvs:List (Key×V),(kvs.map λx=>eO x.1).any (v5 j)=kvs.any λa=>decide (a.1=Ec j)
 |[]=>rfl
 |x::kvs=>by rw[Fh,Jq,Jq,xj kvs,gX]
private theorem CJ(h:ai K B H ws (kvs.map (·.2)))(r:Rep K B H w v):
 qv j (kvs.map λx=>eO x.1)=(putK kvs (.inr j) v).map (λx=>eO x.1)/\ai K B H (qw j w (kvs.map λx=>eO x.1) ws) ((putK kvs (.inr j) v).map (·.2)):=by
 unfold qv qw putK;rw[xj];by_cases e:(kvs.any λa=>decide (a.1=Ec j))=true
 .rw[BM e,BM e,BM e];clear e;constructor
  .rw[Oz];refine Nt λx _=>?_;show _=eO (if x.1=Ec j then(x.1,v)else x).1;split<;>rfl
  .induction kvs generalizing ws with
   |nil=>
    cases ws with
    |nil=>exact .nil
    |cons _ _=>obtain⟨_,_,e,_⟩:=h;cases e
   |cons x kvs b=>
    cases ws with
    |nil=>have h:(x::kvs).map (·.2)=[]:=h;cases h
    |cons u ws=>
     obtain⟨y,q,e,d,c⟩:=h;cases e;refine⟨_,_,rfl,?_,b c⟩;show Rep K B H (if v5 j (eO x.1)=true then w else u) (if x.1=Ec j then(x.1,v)else x).2;rw[gX];by_cases e:x.1=Ec j
     .rw[BM (Bz e),BM e];exact r
     .rw[B1 (by rw[Gc];exact e),B1 e];exact d
 .rw[B1 e,B1 e,B1 e];constructor
  .rw[Kk];rfl
  .rw[Kk];exact h.app (.cons r .nil)
end
private theorem QV(t:∀{y B:TE},PE X e y->PE X e1 B->PS X st (om y (Ou (gI i) B M6)))(Y:(i,.d)∈M)(he:∀R,VE X M R .s e (te R))(U:∀R,VE X M R .s e1 (t1 R)):
 VS X M m st (λd b=>te d.ex b λw=>match look b i with|some (.dct l vs)=>(t1 d.ex b λx=>(match x with|.str j=>l.length<sizeLine/\d.nx (b.set i (some (.dct (qv j l) (qw j w l vs))))|_=>False))|_=>False):=by
 rintro g s O H D I ⟨A,N,b,d,S,K,hz,h,k⟩;refine t (he d.ex) (U d.ex) g s O H D I ⟨A,N,b,_,S,K,h,λw v H1 q C r=>?_⟩;obtain⟨l,vs,T,q⟩:=yY q;obtain⟨p,o,h1,h3,L,Z,f⟩:=FW S Y T;refine⟨_,h1,A,N,b,_,S.same C,K,q,λz P H2 a s2 Q=>?_⟩;cases z with
 |str j=>
  obtain⟨J,a⟩:=a;have c:=C.trans s2;have ez:P=.str j:=Q.aM;subst ez;obtain⟨F,E⟩:=CJ (j:=j) (Z.same c) (r.aM.same s2);rw[<-L]at F E;obtain⟨A',a1,a2,S'⟩:=f H2 c _ _ _ F E;have u:o.length<sizeLine:=by have:=IR J9 L;rw[FK]at this;lia
  exact⟨p,_,rfl,E7.k (k:=Ec j) (c _ _ h3) u,k.nx A' _ _ _ a1 a2 a S'⟩
 |_=>exact a.elim
private theorem Kv(g:AD X M R a ta):AD X M R (.UnaryOp .Not a pos) (λd Q=>ta d λx c=>truth x λb=>Q (.bl (!b)) c):=PT.imp (DX g)<|by rintro u H Q ⟨A,s,d,P,S,l,h,k⟩;refine⟨A,s,d,_,S,l,h,λt x r o f j p=>?_⟩;obtain⟨q,rfl,f⟩:=bw f;obtain⟨b,e,z⟩:=k t _ r o f j p;cases e;exact⟨q,rfl,z⟩
end
section
variable{X:Cx}{M:Ms}{R:Addr->Prop}{m:Md}{e:Expr}{es:List Expr}{tl:M3}{pos p:Pos}{i:Nat}{x:Str}
private theorem QW{st:Stmt}(F:lY X.prog X.w X.K X.mg X.base k st q y n sp)(hr:bZ k X.A)(hv:PE X (.Name x p) (gI i))(hi:¬aL M i)
 (hn:∀ws P R,sp ws P R->ws.length=n+1)(ha:DF X M R (e::es) tl)(he:starEach (e::es) X.env=(false,eval e X.env)::starEach es X.env)(Y:(backTo pos (starEach es X.env)).any (·.1)=false):
 VP X M R (.Call (.Name x p) (e::es) [] pos) (λz Q=>∃w,look z i=some (.j4 st q y w)/\(tl z λws T=>sp (w::ws) (λw=>Q w T) R)):=by
 rintro b s O H Q I ⟨A,H0,z,P,S,er,⟨w,hl,h⟩,kk⟩;obtain⟨v0,hs,r0⟩:=S.sh i _ hi hl;obtain⟨f,_,_,_,_,_,e0,a,_⟩:=id r0;subst e0;obtain⟨E,pE,hE,hR⟩:=er;refine Pm (bF (hv b s O H (λv t=>v=.ref f/\t=H) I ⟨_,hs,rfl,rfl⟩) λu s1 hz=>?_);obtain⟨x1,H1,I1,rx,e1,e2⟩:=hz;subst e1 e2;obtain rfl:u=Value.ref f:=rx;obtain⟨fo,_,_,_,_,_,_,_,Z,ef,_⟩:=a;have FA:FnAt f s1.heap:=⟨_,_,_,_,by rw[<-ef];exact(I1.hok _ _ Z).1⟩;refine PySem.W.callWith_F FA (bF (ha pos b s1 O H1 (λD j=>∃ws c d,Go A H1 c j/\SR X.K M c H0 O j d/\ai X.K c.B j ws D/\sp (w::ws) (λw=>P w d) R) I1 ⟨A,H0,z,_,S,⟨E,pE,hE,hR⟩,h,λc ws D j d hw L g U=>⟨ws,c,d,L,g,U,hw⟩⟩) λus s2 hz=>?_) he Y;obtain⟨D,j,N,r,ws,c,d,L,g,U,lC⟩:=hz;have J:=L.rep r0;obtain⟨f',_,_,_,_,_,e0,a,_⟩:=id J;cases e0;obtain⟨fo,_,_,_,_,_,_,_,Z,ef,_⟩:=a;have FA:FnAt f s2.heap:=⟨_,_,_,_,by rw[<-ef];exact(N.hok _ _ Z).1⟩;refine⟨FA,?_⟩;refine wpAny_call (T2 (F X.A X.stack s2 j us D Q E w f c.B ws _ R hr N.IM J r (by simpa using hn _ _ _ lC) U g.dom lC (λw v t pw l r'=>kk c w v t d pw (L.trans (.same l)) (g.same l) (r'.rep g.dom)) λC t J l=>hE C t J (g.sm.trans l)) λr l o=>?_);cases r with
 |error e=>exact pE _ _ _ _ _ _ N o
 |ok fl=>
  cases fl with
  |ret u=>exact N.after o
  |next=>exact DN o
  |brk=>exact DN o
  |cont=>exact DN o
private theorem QX(F:bW X.prog X.w X.K X.mg X.base k Y n (yW X.K n m sp))(hr:bZ k X.A)(hv:PE X (.Name x p) (gI i))(hi:¬aL M i)
 (hn:∀ws P R,sp ws P R->ws.length=n)(ha:DF X M R (e::es) tl)(he:starEach (e::es) X.env=(false,eval e X.env)::starEach es X.env)(J:(backTo pos (starEach es X.env)).any (·.1)=false):
 VP X M R (.Call (.Name x p) (e::es) [] pos) (λg Q=>match look g i with|some (.fn a)=>Y=.ref a/\(tl g λws t=>sp ws (λw=>Q w t) R)|_=>False):=by
 rintro b s q H Q I ⟨A,H0,g,P,S,er,h,kk⟩
 try dsimp only at h
 cases L:look g i with
 |none=>rw[L]at h;exact h.elim
 |some w0=>
  rw[L]at h;cases w0 with
  |fn a=>obtain⟨rfl,h⟩:=h;obtain⟨v0,hs,D⟩:=S.sh i _ hi L;have D:v0=.ref a:=D;subst D;obtain⟨E,O,U,hR⟩:=er;refine Pm (bF (hv b s q H (λv l=>v=.ref a/\l=H) I ⟨_,hs,rfl,rfl⟩) λu s1 hz=>?_);obtain⟨x1,H1,I1,rx,e1,e2⟩:=hz;subst e1 e2;obtain rfl:u=Value.ref a:=rx;refine Pi (h₀:=X.base) I1.ok.mod.DR F.keep (bF (ha pos b s1 q H1 (λy j=>∃ws c d,Go A H1 c j/\SR X.K M c H0 q j d/\ai X.K c.B j ws y/\sp ws (λw=>P w d) R) I1 ⟨A,H0,g,_,S,⟨E,O,U,hR⟩,h,λc ws y j d hw N f z=>⟨ws,c,d,N,f,z,hw⟩⟩) λus s2 hz=>?_) he J;obtain⟨y,j,Z,r,ws,c,d,N,f,z,T⟩:=hz;refine⟨Z.jh,?_⟩;exact F.run hr (O _ _) Z r ⟨c.B,ws,_,R,hn _ _ _ T,z,f.dom,T,λw v l pw o r'=>kk c w v l d pw (N.trans (.same o)) (f.same o) (r'.rep f.dom),λC l rc o=>U C l rc (f.sm.trans o)⟩
  |_=>exact h.elim
private theorem QY{tt:(Addr->Prop)->vh}(he:∀R,VP X M R e (tt R)):VS X M .s (.Return (some e) pos) (λd b=>tt d.ex b λw _=>d.rt w):=by rintro a s f H D I ⟨A,q,b,d,S,n,hz,h,k⟩;refine kF (he d.ex) a s f H D I ⟨A,q,b,_,S,n,h,λt w v o j l g c r=>?_⟩;exact k.rt w v o l c.sm (.of rfl (.of (r.less λp z=>c.sub' p (by rw[g.ab];exact z))))
end
noncomputable def QZ(n:Nat):Md->Md
 |.o b a=>.o b (a.set n .s)
 |m=>m
noncomputable def Ig(M:Ms)(i n:Nat):Ms:=M.map λx=>if x.1=i then(x.1,QZ n x.2)else x
private theorem aR:aL (Ig M i n) j↔aL M j:=by
 constructor
 .rintro⟨m,h⟩;obtain⟨⟨a,b⟩,d,c⟩:=IH.mp h;by_cases e:a=i
  .rw[BM e]at c;cases c;exact⟨_,d⟩
  .rw[B1 e]at c;cases c;exact⟨_,d⟩
 .rintro⟨m,h⟩;by_cases e:j=i
  .exact⟨QZ n m,IH.mpr ⟨_,h,by rw[BM e]⟩⟩
  .exact⟨m,IH.mpr ⟨_,h,by rw[B1 e]⟩⟩
private theorem FZ(h:(j,m)∈Ig M i n)(e:j≠i):(j,m)∈M:=by
 obtain⟨⟨a,b⟩,d,c⟩:=IH.mp h;by_cases q:a=i
 .rw[BM q]at c;cases c;exact(e q).elim
 .rw[B1 q]at c;cases c;exact d
private theorem W2(h:(j,m)∈M)(e:j≠i):(j,m)∈Ig M i n:=IH.mpr ⟨_,h,by rw[B1 e]⟩
private theorem W3(h:(i,m)∈M):(i,QZ n m)∈Ig M i n:=IH.mpr ⟨_,h,by rw[BM rfl]⟩
section
variable{K:Frag}{A B:Addr->Prop}{H H':Hp}
private theorem i8.out:∀(c:List Md){ws:List W}{vs:List V}{F:List Addr}{n:Nat}{l:List W},i8 K A H c ws vs F->c[n]?=some .f->ws[n]?=some (.lst l)->
 ∃p b g d,vs[n]?=some (.ref p)/\F=g++p::d/\H p=some (.lst b)/\ai K A H l b/\i8 K A H (c.set n .s) (ws.set n (.cls p)) vs (g++d)
 |[],_,_,_,n,l,_,e,_=>by cases e
 |m0::c,ws,vs,F,0,l,h,m,k=>by obtain⟨q,o,v,a,g,d,rfl,rfl,rfl,j,i⟩:=h;cases m;cases k;obtain⟨D,p,b,e,rfl,rfl,C,z⟩:=j;cases e;exact⟨p,b,[],d,rfl,rfl,C,z,.cls p,o,.ref p,a,[],d,rfl,rfl,rfl,⟨rfl,rfl⟩,i⟩
 |m0::c,ws,vs,F,n+1,l,h,m,k=>by obtain⟨q,o,v,a,g,d,rfl,rfl,rfl,j,i⟩:=h;obtain⟨p,b,t,r,y,rfl,x,w,u⟩:=i8.out c i (n:=n) (by simpa using m) (by simpa using k);exact⟨p,b,g++t,r,by simpa using y,by simp,x,w,q,o.set n (.cls p),v,a,g,t++r,rfl,rfl,by simp,j,u⟩
private theorem i8.inn:∀(d:List Md){ws:List W}{vs:List V}{F:List Addr}{n:Nat}{l:List W}{p:Addr}{c:List V},i8 K A H (d.set n .s) ws vs F->d[n]?=some .f->ws[n]?=some (.cls p)->H p=some (.lst c)->ai K A H l c->
 ∃i g,F=i++g/\i8 K A H d (ws.set n (.lst l)) vs (i++p::g)
 |[],_,_,_,n,l,p,c,_,e,_,_,_=>by cases e
 |m0::d,ws,vs,F,0,l,p,c,h,r,o,k,j=>by obtain⟨u,t,v,a,i,g,rfl,rfl,rfl,b,m⟩:=h;cases r;cases o;obtain⟨rfl,b⟩:=b;have b:v=.ref p:=b;subst b;exact⟨[],g,rfl,.lst l,t,.ref p,a,[p],g,rfl,rfl,rfl,⟨l,p,c,rfl,rfl,rfl,k,j⟩,m⟩
 |m0::d,ws,vs,F,n+1,l,p,c,h,r,o,k,j=>by obtain⟨u,t,v,a,i,g,rfl,rfl,rfl,b,m⟩:=h;obtain⟨x,w,rfl,q⟩:=i8.inn d m (n:=n) (by simpa using r) (by simpa using o) k j;exact⟨i++x,w,by simp,u,t.set n (.lst l),v,a,i,x++p::w,rfl,rfl,by simp,b,q⟩
end
open Classical in
def uw(B C:Addr->Prop)(H:Hp):Hp:=λp=>if B p/\¬C p then none else H p
private theorem CK(h:uw B C H p=some o):H p=some o/\¬(B p/\¬C p):=by
 unfold uw at h;split at h
 .cases h
 .exact⟨h,by assumption⟩
private theorem AI(h:H p=some o)(n:¬(B p/\¬C p)):uw B C H p=some o:=by unfold uw;rw[B1 n];exact h
section
variable{K:Frag}{M:Ms}{A:Fz}{H0 H:Hp}{σ:St}{ε:Ev}{i n:Nat}{fs:List Str}{ms:List Md}{C:Addr}{ws l:List W}
private theorem SR.view(S:SR K M A H0 σ H ε)(Z:(i,.o fs ms)∈M)(hn:ms[n]?=some .f)(hl:look ε i=some (.obj C fs ws))(hw:ws[n]?=some (.lst l)):
 ∃(q R p:Addr)(vs L:List V)(U:Fz)(Kw:Hp),σ[i]?=some (some (.ref q))/\H q=some (.ins C R (fs.zip vs))/\vs.length=fs.length/\sJ K C fs/\vs[n]?=some (.ref p)/\H p=some (.lst L)/\ai K A.B H l L/\aq H0 Kw/\Kw p=some (.lst L)/\H0 p=none/\¬A.ab p/\U.s0=A.s0/\(∀a,U.ab a↔A.ab a\/a=p)/\(∀a,U.B a↔A.B a)/\
  SR K (Ig M i n) U Kw σ H (ε.set i (some (.obj C fs (ws.set n (.cls p))))):=by
 obtain⟨F,O⟩:=S.ow;obtain⟨v,hv,fp⟩:=O.val i _ _ Z hl;obtain⟨C',R,di,q,vs,F',e1,rfl,Q,h1,h2,hc,fl⟩:=fp;cases e1;obtain⟨p,L,J,I,g1,rfl,g3,g4,g5⟩:=i8.out ms fl hn hw;have D:aL M i:=⟨_,Z⟩;have nd:(q::(J++p::I)).Nodup:=by rw[<-Q];exact O.nd i D
 have Ym:=(Ha.mp nd).2;have N:p∈F i:=by rw[Q];simp
 have pB:A.B p:=(O.all p).mpr (.inr ⟨i,D,N⟩);have Y:¬A.ab p:=O.na i p D N;have pn:p∉q::(J++I):=by
  intro z;rcases Do.mp z with z|z
  .exact(Ha.mp nd).1 (by rw[<-z];simp)
  .obtain⟨E,a2,a3⟩:=SL.mp Ym;rcases Fu.mp z with z|z
   .exact a3 p z p Ap rfl
   .exact(Ha.mp a2).1 z
 let P:Addr->Prop:=λa=>A.ab a\/a=p
 have lt:=lT hl;have r:∀a∈q::(J++I),a∈F i:=λa g=>by
  rw[Q];rcases Do.mp g with z|z
  .rw[z];exact Ap
  .refine AS _ ?_;rcases Fu.mp z with z|z
   .exact IT _ z
   .exact FR _ (AS _ z)
 have aac:∀a∈F i,a=p\/a∈q::(J++I):=λa g=>by
  rw[Q]at g;rcases Do.mp g with z|z
  .exact .inr (by rw[z];exact Ap)
  .rcases Fu.mp z with z|z
   .exact .inr (AS _ (IT _ z))
   .rcases Do.mp z with z|z
    .exact .inl z
    .exact .inr (AS _ (FR _ z))
 refine⟨q,R,p,vs,L,⟨P,A.B,A.s0⟩,uw A.B P H,hv,h1,h2,hc,g1,g3,g4,λa o e=>?_,AI g3 (λz=>z.2 (.inr rfl)),O.nw i p D N,Y,rfl,λa=>bM,λa=>bM,?_⟩
 .refine AI (S.sm a o e) λz=>?_;rcases(O.all a).mp z.1 with y|⟨j,d,s⟩
  .exact z.2 (.inl y)
  .rw[O.nw j a d s]at e;cases e
 .refine⟨by rw[Kt];exact S.len,λj w d e=>?_,λa o e=>(CK e).1,λa z=>?_,λu e=>?_,λj=>if j=i then q::(J++I)else F j,⟨λj m1 m2 a b=>?_,λj m w d e=>?_,λj d e=>?_,λj d=>?_,λj k a d hk x y=>?_,λj a d g=>?_,λj a d g=>?_,λa=>?_⟩⟩
  .have d:¬aL M j:=λz=>d (aR.mpr z);have c:i≠j:=by rintro rfl;exact d D
   rw[aG c]at e;exact S.sh j w d e
  .rcases z with z|z
   .exact S.dm a z
   .exact⟨_,by rw[z];exact g3⟩
  .exact⟨(S.sl u e).1,aR.mpr (S.sl u e).2⟩
  .by_cases c:j=i
   .subst c;obtain⟨⟨E,b1⟩,c1,t⟩:=IH.mp a;obtain⟨⟨a2,b2⟩,c2,T⟩:=IH.mp b;have X:E=j:=by
     by_cases z:E=j
     .exact z
     .rw[B1 z]at t;cases t;rfl
    have x2:a2=j:=by
     by_cases z:a2=j
     .exact z
     .rw[B1 z]at T;cases T;rfl
    subst X;subst x2;rw[BM rfl]at t T;have:=O.un _ _ _ c1 c2;subst this;cases t;cases T;rfl
   .exact O.un j m1 m2 (FZ a c) (FZ b c)
  .by_cases c:j=i
   .subst c;have:=jo e;subst this;obtain⟨⟨E,b1⟩,c1,t⟩:=IH.mp d;have X:E=j:=by
     by_cases z:E=j
     .exact z
     .rw[B1 z]at t;cases t;rfl
    subst X;rw[BM rfl]at t;have:=O.un _ _ _ c1 Z;subst this;cases t;refine⟨_,hv,?_⟩;rw[BM rfl];exact⟨C,R,ws.set n (.cls p),q,vs,J++I,rfl,rfl,rfl,h1,h2,hc,g5⟩
   .rw[aG (Oy c)]at e;rw[B1 c];exact O.val j m w (FZ d c) e
  .by_cases c:j=i
   .subst c;have:look (ε.set j (some (.obj C fs (ws.set n (.cls p))))) j=some (.obj C fs (ws.set n (.cls p))):=by rw[bq];exact N0 lt
    rw[this]at e;cases e
   .rw[aG (Oy c)]at e;rw[B1 c];exact O.emp j (aR.mp d) e
  .by_cases c:j=i
   .rw[BM c];refine Ha.mpr ⟨λz=>(Ha.mp nd).1 ?_,?_⟩
    .rcases Fu.mp z with z|z
     .exact IT _ z
     .exact FR _ (AS _ z)
    .obtain⟨E,a2,a3⟩:=SL.mp Ym;exact SL.mpr ⟨E,(Ha.mp a2).2,λx hx y hy=>a3 x hx y (AS _ hy)⟩
   .rw[B1 c];exact O.nd j (aR.mp d)
  .have up:∀j,aL (Ig M i n) j->∀a,a∈(if j=i then q::(J++I)else F j)->a∈F j:=λj d a g=>by
    by_cases c:j=i
    .rw[BM c]at g;rw[c];exact r a g
    .rw[B1 c]at g;exact g
   exact O.ds j k a (aR.mp d) (aR.mp hk) (up j d a x) (up k hk a y)
  .have h:a∈F j/\a≠p:=by
    by_cases c:j=i
    .rw[BM c]at g;exact⟨by rw[c];exact r a g,λz=>pn (by rw[<-z];exact g)⟩
    .rw[B1 c]at g;exact⟨g,λz=>c (O.ds j i p (aR.mp d) D (by rw[<-z];exact g) N)⟩
   unfold uw;rw[BM ⟨(O.all a).mpr (.inr ⟨j,aR.mp d,h.1⟩),λz=>z.elim (O.na j a (aR.mp d) h.1) h.2⟩]
  .have h:a∈F j/\a≠p:=by
    by_cases c:j=i
    .rw[BM c]at g;exact⟨by rw[c];exact r a g,λz=>pn (by rw[<-z];exact g)⟩
    .rw[B1 c]at g;exact⟨g,λz=>c (O.ds j i p (aR.mp d) D (by rw[<-z];exact g) N)⟩
   exact λz=>z.elim (O.na j a (aR.mp d) h.1) h.2
  .constructor
   .intro z;rcases(O.all a).mp z with y|⟨j,d,s⟩
    .exact .inl (.inl y)
    .by_cases c:j=i
     .subst c;rcases aac a s with y|y
      .exact .inl (.inr y)
      .exact .inr ⟨j,aR.mpr d,by rw[BM rfl];exact y⟩
     .exact .inr ⟨j,aR.mpr d,by rw[B1 c];exact s⟩
   .rintro(z|⟨j,d,s⟩)
    .rcases z with z|z
     .exact(O.all a).mpr (.inl z)
     .rw[z];exact pB
    .by_cases c:j=i
     .rw[BM c]at s;exact(O.all a).mpr (.inr ⟨i,D,r a s⟩)
     .rw[B1 c]at s;exact(O.all a).mpr (.inr ⟨j,aR.mp d,s⟩)
private theorem SR.back(un:∀j m1 m2,(j,m1)∈M->(j,m2)∈M->m1=m2)(D:SR K (Ig M i n) t Kw σ H1 Y)(Z:(i,.o fs ms)∈M)(hn:ms[n]?=some .f)(s0:aq H0 Kw)(hp:Kw p=some (.lst xs))(R:H0 p=none)(N:¬A.ab p)(es:t.s0=A.s0)(I:∀a,t.ab a↔A.ab a\/a=p)
 (hl:look Y i=some (.obj C fs J))(hw:J[n]?=some (.cls p))(hr:ai K t.B H1 P L):SR K M ⟨A.ab,t.B,A.s0⟩ H0 σ (upd H1 p (.lst L)) (Y.set i (some (.obj C fs (J.set n (.lst P))))):=by
 obtain⟨F,O⟩:=D.ow;have r:aL M i:=⟨_,Z⟩;have Q:H1 p=some (.lst xs):=D.sm _ _ hp;have pB:t.B p:=(O.all p).mpr (.inl ((I p).mpr (.inr rfl)));have E:∀j,aL M j->p∉F j:=λj c z=>O.na j p (aR.mpr c) z ((I p).mpr (.inr rfl));have cB:sL t.B H1 (upd H1 p (.lst L)):=.put Q rfl pB;have cO:∀G:Addr->Prop,¬G p->ql t.B G H1 (upd H1 p (.lst L)):=λG hG a o e=>by
  by_cases z:a=p
  .subst z;rw[Q]at e;cases e;exact .inl ⟨rfl,pB,hG⟩
  .exact .inr (by rw[ak z];exact e)
 obtain⟨v,hv,fp⟩:=O.val i _ _ (W3 Z) hl;obtain⟨C',dx,ws2,q,vs,F',e1,rfl,d,h1,h2,hc,fl⟩:=fp;cases e1;have qp:q≠p:=λz=>E i r (by rw[d,<-z];exact Ap);have fl2:i8 K t.B (upd H1 p (.lst L)) (ms.set n .s) J vs F':=i8.chg (cO (·∈F') (λz=>E i r (by rw[d];exact AS _ z))) (λ_ _ _ z=>z) _ (λ_ z=>z) fl;obtain⟨X,U,rfl,fl3⟩:=i8.inn ms fl2 hn hw az (ai.chg cB (λ_ _ _ z=>z) P hr);have lt:=lT hl;refine⟨by rw[Kt];exact D.len,λj w c e=>?_,λa o e=>?_,λa z=>?_,λu e=>?_,λj=>if j=i then q::(X++p::U)else F j,⟨un,λj m w c e=>?_,λj c e=>?_,λj c=>?_,λj k a c hk x y=>?_,λj a c g=>?_,λj a c g=>?_,λa=>?_⟩⟩
 .have b:i≠j:=by rintro rfl;exact c r
  rw[aG b]at e;obtain⟨u,T,S⟩:=D.sh j w (λz=>c (aR.mp z)) e;exact⟨u,T,Rep.chg cB (λ_ _ _ z=>z) w S⟩
 .have:a≠p:=λz=>by rw[z,R]at e;cases e
  rw[ak this];exact D.sm _ _ (s0 _ _ e)
 .obtain⟨o,e⟩:=D.dm a ((I a).mpr (.inl z));exact⟨o,by rw[ak (λy=>N (by rw[<-y];exact z))];exact e⟩
 .obtain⟨T,S⟩:=D.sl u (by rw[es];exact e);exact⟨T,aR.mp S⟩
 .by_cases b:j=i
  .subst b;have:=jo e;subst this;have:=un _ _ _ c Z;subst this;refine⟨_,hv,?_⟩;rw[BM rfl];exact⟨C,dx,_,q,vs,X++p::U,rfl,rfl,rfl,by rw[ak qp];exact h1,h2,hc,fl3⟩
  .rw[aG (Oy b)]at e;rw[B1 b];obtain⟨u,T,S⟩:=O.val j m w (W2 c b) e;exact⟨u,T,Fp.chg (cO (·∈F j) (E j ⟨m,c⟩)) (λ_ _ _ z=>z) m (λ_ z=>z) S⟩
 .by_cases b:j=i
  .subst b;have:look (Y.set j (some (.obj C fs (J.set n (.lst P))))) j=some (.obj C fs (J.set n (.lst P))):=by rw[bq];exact N0 lt
   rw[this]at e;cases e
  .rw[aG (Oy b)]at e;rw[B1 b];exact O.emp j (aR.mpr c) e
 .by_cases b:j=i
  .rw[BM b];have nd:(q::(X++U)).Nodup:=by rw[<-d];exact O.nd i (aR.mpr r)
   have pq:p∉q::(X++U):=by rw[<-d];exact E i r
   obtain⟨n1,n2⟩:=Ha.mp nd;obtain⟨a1,a2,a3⟩:=SL.mp n2;refine Ha.mpr ⟨λz=>?_,SL.mpr ⟨a1,Ha.mpr ⟨λz=>pq (AS _ (FR _ z)),a2⟩,λx hx y hy e=>?_⟩⟩
   .rcases Fu.mp z with z|z
    .exact n1 (IT _ z)
    .rcases Do.mp z with z|z
     .exact qp z
     .exact n1 (FR _ z)
   .rcases Do.mp hy with z|z
    .exact pq (by rw[<-z,<-e];exact AS _ (IT _ hx))
    .exact a3 x hx y z e
  .rw[B1 b];exact O.nd j (aR.mpr c)
 .have up:∀j,∀a,a∈(if j=i then q::(X++p::U)else F j)->a∈F j\/(a=p/\j=i):=λj a g=>by
   by_cases b:j=i
   .rw[BM b]at g;rw[b,d];rcases Do.mp g with z|z
    .exact .inl (by rw[z];exact Ap)
    .rcases Fu.mp z with z|z
     .exact .inl (AS _ (IT _ z))
     .rcases Do.mp z with z|z
      .exact .inr ⟨z,rfl⟩
      .exact .inl (AS _ (FR _ z))
   .rw[B1 b]at g;exact .inl g
  rcases up j a x with x|⟨x,e⟩
  .rcases up k a y with y|⟨y,e⟩
   .exact O.ds j k a (aR.mpr c) (aR.mpr hk) x y
   .exact(E j c (by rw[<-y];exact x)).elim
  .rcases up k a y with y|⟨y,e'⟩
   .exact(E k hk (by rw[<-x];exact y)).elim
   .rw[e,e']
 .by_cases b:j=i
  .rw[BM b]at g;rcases Do.mp g with z|z
   .rw[z];exact s0.free (O.nw i q (aR.mpr r) (by rw[d];exact Ap))
   .rcases Fu.mp z with z|z
    .exact s0.free (O.nw i a (aR.mpr r) (by rw[d];exact AS _ (IT _ z)))
    .rcases Do.mp z with z|z
     .rw[z];exact R
     .exact s0.free (O.nw i a (aR.mpr r) (by rw[d];exact AS _ (FR _ z)))
  .rw[B1 b]at g;exact s0.free (O.nw j a (aR.mpr c) g)
 .by_cases b:j=i
  .rw[BM b]at g;have na:∀a∈F i,¬A.ab a:=λa h z=>O.na i a (aR.mpr r) h ((I a).mpr (.inl z));rcases Do.mp g with z|z
   .exact na a (by rw[d,z];exact Ap)
   .rcases Fu.mp z with z|z
    .exact na a (by rw[d];exact AS _ (IT _ z))
    .rcases Do.mp z with z|z
     .rw[z];exact N
     .exact na a (by rw[d];exact AS _ (FR _ z))
  .rw[B1 b]at g;exact λz=>O.na j a (aR.mpr c) g ((I a).mpr (.inl z))
 .show t.B a↔_;rw[O.all a,I a];constructor
  .rintro((z|z)|⟨j,c,z⟩)
   .exact .inl z
   .exact .inr ⟨i,r,by rw[BM rfl,z];exact AS _ (FR _ Ap)⟩
   .refine .inr ⟨j,aR.mp c,?_⟩;by_cases b:j=i
    .rw[BM b];rw[b,d]at z;rcases Do.mp z with z|z
     .rw[z];exact Ap
     .refine AS _ ?_;rcases Fu.mp z with z|z
      .exact IT _ z
      .exact FR _ (AS _ z)
    .rw[B1 b];exact z
  .rintro(z|⟨j,c,z⟩)
   .exact .inl (.inl z)
   .by_cases b:j=i
    .rw[BM b]at z;rcases Do.mp z with z|z
     .exact .inr ⟨i,aR.mpr r,by rw[d,z];exact Ap⟩
     .rcases Fu.mp z with z|z
      .exact .inr ⟨i,aR.mpr r,by rw[d];exact AS _ (IT _ z)⟩
      .rcases Do.mp z with z|z
       .exact .inl (.inr z)
       .exact .inr ⟨i,aR.mpr r,by rw[d];exact AS _ (FR _ z)⟩
    .rw[B1 b]at z;exact .inr ⟨j,aR.mpr c,z⟩
end
section
variable{X:Cx}{M:Ms}{m:Md}{st:Stmt}{i n:Nat}{e:Expr}{fs:List Str}{ms:List Md}{x:Str}
private theorem Q0(P:∀{Z:TE},PE X e Z->PS X st (pV (Ua X.K "list" lN (qH X.K i [.fl n x]) (tR Z B6))))(Q:(i,.o fs ms)∈M)(hf:fs[n]?=some x)(hn:ms[n]?=some .f)(un:∀j m1 m2,(j,m1)∈M->(j,m2)∈M->m1=m2){tt:(Addr->Prop)->vh}(he:∀R,VP X (Ig M i n) R e (tt R)):
 VS X M m st (λd J=>match look J i with|some (.obj C fs ws)=>(∃l,ws[n]?=some (.lst l)/\∀a:Addr,tt d.ex (J.set i (some (.obj C fs (ws.set n (.cls a))))) λw c=>∃E,look c i=some (.obj C fs E)/\E[n]?=some (.cls a)/\l.length<sizeLine/\d.nx (c.set i (some (.obj C fs (E.set n (.lst (l++[w])))))))|_=>False):=by
 rintro t s σ H D I ⟨A,H0,J,d,S,er,hz,h,k⟩
 try dsimp only at h
 cases L:look J i with
 |none=>rw[L]at h;exact h.elim
 |some w0=>
  rw[L]at h;cases w0 with
  |obj C y ws=>
   obtain⟨l,hw,h⟩:=h;have U:y=fs:=by obtain⟨F,O⟩:=S.ow;obtain⟨v,hv,fp⟩:=O.val i _ _ Q L;obtain⟨C',dx,E,q,Y,F',e1,_⟩:=fp;cases e1;rfl
   subst U;obtain⟨q,dx,p,Y,N,A',Kw,g1,g2,g3,hc,g4,g5,g6,s0,g7,g8,g9,es,ea,eb,S'⟩:=S.view Q hn L hw;refine P (he d.ex) t s σ H D I ⟨.ref q,.ref p,g1,⟨q,Y,.ref p,rfl,⟨C,dx,y,g2,g3,hc,hf⟩,g4,rfl⟩,.inl ⟨rfl,N,.inl (.inl g5)⟩,A',Kw,_,_,S',er.up s0,h p,λA1 w v H1 bN b g S1 r=>?_⟩;obtain⟨E,T,AB,u,b⟩:=b;have hr:ai X.K A1.B H1 l N:=g.Z7 (g6.less λa z=>(eb a).mp z);have S2:=SR.back (A:=A) un S1 Q hn s0 g7 g8 g9 (g.s0.trans es) (λa=>by rw[g.ab];exact ea a) T AB (hr.app (.cons r .nil));exact⟨p,N,v,rfl,rfl,S1.sm _ _ g7,by rw[g6.len];exact u,k.nx ⟨A.ab,A1.B,A.s0⟩ _ _ _ rfl rfl b S2⟩
  |_=>exact h.elim
end
private theorem SR.unset{K:Frag}(S:SR K M A k d H b){i:Nat}(g:¬aL M i):SR K M A k (d.set i none) H (b.set i none):=by
 obtain⟨F,O⟩:=S.ow;have f:∀{j w},look (b.set i none) j=some w->i≠j:=λ{j w} e z=>by subst z;rw[bq,S6,BM rfl]at e;split at e<;>cases e
 refine⟨by rw[Kt,Kt];exact S.len,λj c a e=>?_,S.sm,S.dm,λu e=>?_,F,⟨O.un,λj m c l e=>?_,λj a e=>?_,O.nd,O.ds,O.nw,O.na,O.all⟩⟩
 .have n:=f e;rw[aG n]at e;rw[Iy n];exact S.sh j c a e
 .obtain⟨o,h⟩:=S.sl u e;exact⟨by rw[Iy (by rintro rfl;exact g h)];exact o,h⟩
 .have n:=f e;rw[aG n]at e;rw[Iy n];exact O.val j m c l e
 .have n:i≠j:=by rintro rfl;exact g a
  rw[aG n]at e;exact O.emp j a e
section
variable{X:Cx}{M:Ms}{R:Addr->Prop}{e a b o:Expr}{ta:WT}{m:Md}{pos p:Pos}{es:List Expr}{x:Str}
private theorem Q2(T:VE X M R .s a ta)(O:VE X M R .s b (λ_ Q=>Q g))(N:Gl X x)(L:X.mg x=none)(J:bootBuiltins x=some (.builtin "isinstance"))(K:x≠"__name__")(t:(x==("__debug__":Str))=false)
 (he:starEach [a,b] X.env=(false,eval a X.env)::starEach [b] X.env)(U:starEach [b] X.env=(false,eval b X.env)::starEach [] X.env)(r:(backTo pos (starEach [b] X.env)).any (·.1)=false):
 VE X M R .s (.Call (.Name x p) [a,b] [] pos) (λf Q=>ta f λw=>JH w g Q):=
 PE.imp (gS qf N L J (aS T (aS O bV U) he) K t he r)<|by
  rintro Z H Q ⟨A,F,f,P,S,z,h,k⟩;refine⟨A,F,f,_,S,z,h,λw v H1 d j I=>⟨A,F,f,λi=>i=g,S.same j,z,rfl,λi v2 E Y s2 l=>?_⟩⟩;subst Y;have l:=l.aM;cases w with
  |err C=>
   obtain⟨q,rfl,u,_,B,_⟩:=(I.aM).same s2;cases i with
   |gu D ys ns=>
    obtain⟨rfl,_,y,n⟩:=l;rcases d with⟨c,d⟩|⟨c,d⟩
    .exact⟨q,C,_,_,true,rfl,u,B,.own D,(y C c).2.1,k _ _ E d (j.trans s2) (.of (pD _))⟩
    .exact⟨q,C,_,_,false,rfl,u,B,.own D,n C c,k _ _ E d (j.trans s2) (.of (pD _))⟩
   |_=>exact d.elim
  |_=>exact d.elim
private theorem Q3(y:VE X M R .s a ta)(u:PE X b (tC (.ty "ValueError")))(t:Gl X x)(r:X.mg x=none)(l:bootBuiltins x=some (.builtin "isinstance"))(n:x≠"__name__")(f:(x==("__debug__":Str))=false)
 (he:starEach [a,b] X.env=(false,eval a X.env)::starEach [b] X.env)(F:starEach [b] X.env=(false,eval b X.env)::starEach [] X.env)(d:(backTo pos (starEach [b] X.env)).any (·.1)=false):
 VE X M R .s (.Call (.Name x p) [a,b] [] pos) (λc Q=>ta c λw=>Wz w Q):=
 PE.imp (gS qf t r l (aS y (aS u bV F) he) n f he d)<|by
  rintro K H Q ⟨A,J,c,P,S,B,h,k⟩;refine⟨A,J,c,_,S,B,h,λw v I g i j=>?_⟩;cases w with
  |err C=>obtain⟨q,rfl,z,_,E,D⟩:=j.aM;exact⟨q,C,_,_,true,rfl,z,E,.ty _,D,k _ _ I g i (.of (pD _))⟩
  |_=>exact g.elim
private theorem AJ(h:MT w g Q):∃C c ws,w=.obj C c ws/\g=.cls C/\Q (.obj C c ws):=by
 cases w<;>first|exact h.elim|skip
 cases g<;>first|exact h.elim|skip
 obtain⟨rfl,h⟩:=h;exact⟨_,_,_,rfl,rfl,h⟩
private theorem Q4(hG:∀C,G=.cls C->Meth X.K C x f)(F:bL X.prog X.w X.K X.mg X.base (eu X.prog X.w) k f fd ps (yW X.K n m sp))(hr:bZ k X.A)(hb:Binds X.K fd ps [])
 (hn:∀ws P R,sp ws P R->ws.length=n)(ho:VE X M R .s o ta)(ha:VA X M R (e::es) J)(he:starEach (e::es) X.env=(false,eval e X.env)::starEach es X.env)(Y:(backTo pos (starEach es X.env)).any (·.1)=false)
 (ht:eval (.Call (.Attribute o x apos) (e::es) [] pos) X.env=(do
   let ov<-eval o X.env
   standAt apos.atName
   let(f,first)<-holding [ov] (getMethod ov x pl)
   callWith pos f first (backTo pos (starEach (e::es) X.env)) (backToKw pos (keywordEach [] X.env)))):
 VE X M R m (.Call (.Attribute o x apos) (e::es) [] pos) (λi Q=>ta i λw=>MT w G λy=>J i λws=>sp (y::ws) Q R):=by
 rintro d s l H Q I ⟨A,H0,i,P,S,er,h,kk⟩;obtain⟨E,pE,hE,hR⟩:=id er;refine Xt (pl:=pl) (bF (ho d s l H (λv' j=>∃w,(MT w G λy=>J i λws=>sp (y::ws) P R)/\aq H j/\Rep X.K (FB A M l) j w v') I ⟨A,H0,i,_,S,er,h,λw v H1 g L B=>⟨w,g,L,B.aM⟩⟩) λu L hz=>?_) ht;obtain⟨x1,H1,I1,rx,w,g,sm,B⟩:=hz;obtain⟨C,Z,W4,rfl,hg,g⟩:=AJ g;have T:=B;obtain⟨q,dx,vs,rfl,na,h1,h2,hc,h3⟩:=B;obtain rfl:u=Value.ref q:=rx;have U:=hG C hg;refine iK I1 h1 hc.1 U (FY U Z vs hc.2.2.2) ?_;refine Pi (first:=[.ref q]) (h₀:=X.base) I.ok.mod.DR U.kp (bF (ha pos d L l H1 (λvs D=>∃ws,aq H1 D/\ai X.K (FB A M l) D ws vs/\sp (.obj C Z W4::ws) P R) I1 ⟨A,H0,i,_,S.same sm,er,g,λws vs D g s2 O=>⟨ws,s2,O,g⟩⟩) λus s2 hz=>?_) he Y;obtain⟨VY,D,I2,r,ws,t,O,lC⟩:=hz;refine⟨I2.jh,?_⟩;refine p9 (us:=.ref q::us) (vs:=.ref q::VY) (ds:=[]) (B8:=[]) F hr hb .nil (pE _ _) I2 (.cons rfl r) ?_;rw[Kx];have c:=sm.trans t;exact⟨FB A M l,.obj C Z W4::ws,P,R,hn _ _ _ lC,.cons (T.same t) O,(S.same c).dom,lC,λw v j pw N r'=>kk w v j pw (c.trans N) (r'.back c λ_ z=>z),λC j rc N=>hE C j rc (S.sm.trans (c.trans N))⟩
def tX(X:Cx)(M:Ms)(t:(Addr->Prop)->WT):TX:=λd H Q E=>∃A g f P R,SR X.K M A g d H f/\t R f P/\(∀w v c,P w->aq H c->Rep X.K (FB A M d) c w v->Q v c)/\∀C c,R C->aq H c->E (.ref C) none c
abbrev VX(X:Cx)(M:Ms)(e:Expr)(t:(Addr->Prop)->WT):Prop:=PX X e (tX X M t)
private theorem M7{Y:Cx}{s:Shared}(h:wpAny (model X.prog X.w) X.A t (EP (X.jc (FX X c d E)) c d Q) (X.jc (FX X c d E)).xe s):wpAny (model X.prog X.w) X.A t (EP X c d Q) (FX X c d E) s:=
 Nw h (λ_ _ ⟨v,g,f,r,q⟩=>⟨v,g,f.kD,r,q⟩) λ_ _ z=>z
private theorem F3:∀H s e s',Inv (X.jc (FX X c d E)) c d H s->eu X.prog X.w X.stack H s E e s'->FX X c d E e s':=λH s e s' I h=>⟨H,s,I.kD,h⟩
private theorem Ky(F:bW X.prog X.w X.K X.mg X.base k L n (yW X.K n m sp))(hr:bZ k X.A)(hg:Gl X x)(hm:X.mg x=some L)
 (hn:∀ws P R,sp ws P R->ws.length=n)(ha:VA X.Mx M (λ_=>False) (e::es) D)(y:(x==("__debug__":Str))=false)(he:starEach (e::es) X.env=(false,eval e X.env)::starEach es X.env)(u:(backTo pos (starEach es X.env)).any (·.1)=false):
 VX X M (.Call (.Name x p) (e::es) [] pos) (λR i Q=>D i λws=>sp ws Q R):=by
 rintro c s d H Q E I ⟨A,H0,i,P,R,S,h,U,Z⟩;refine Pm (iG I hg hm ?_ y);refine Pi (h₀:=X.base) I.ok.mod.DR F.keep (Nw (ha pos c s d H (λj f=>∃ws,aq H f/\ai X.K (FB A M d) f ws j/\sp ws P R) (I.jc _) ⟨A,H0,i,_,S,.none,h,λws j f hw l t=>⟨ws,l,t,hw⟩⟩) (λus l hz=>?_) λ_ _ z=>z.elim) he u;obtain⟨j,f,g,r,ws,sm,t,J⟩:=hz;have g:Inv X c d f l:=g.kD;exact⟨g.jh,M7 (Y:=X) (F.run (X:=X.jc (FX X c d E)) hr F3 (g.jc _) r ⟨FB A M d,ws,P,R,hn _ _ _ J,t,(S.same sm).dom,J,λw v B T q O=>U w v B T (sm.trans q) (O.rep (S.same sm).dom),λC B N q=>Z C B N (sm.trans q)⟩)⟩
private theorem Q5(hG:∀C,G=.cls C->Meth X.K C x f)(F:bL X.prog X.w X.K X.mg X.base (eu X.prog X.w) k f fd ps (yW X.K n m sp))(hr:bZ k X.A)(hb:Binds X.K fd ps [])
 (hn:∀ws P R,sp ws P R->ws.length=n)(ho:VE X.Mx M (λ_=>False) .s o ta)(ha:VA X.Mx M (λ_=>False) (e::es) T)(he:starEach (e::es) X.env=(false,eval e X.env)::starEach es X.env)(hpl:(backTo pos (starEach es X.env)).any (·.1)=false)
 (ht:eval (.Call (.Attribute o x apos) (e::es) [] pos) X.env=(do
   let ov<-eval o X.env
   standAt apos.atName
   let(f,first)<-holding [ov] (getMethod ov x pl)
   callWith pos f first (backTo pos (starEach (e::es) X.env)) (backToKw pos (keywordEach [] X.env)))):
 VX X M (.Call (.Attribute o x apos) (e::es) [] pos) (λR j Q=>ta j λw=>MT w G λy=>T j λws=>sp (y::ws) Q R):=by
 rintro c s g H Q E I ⟨A,H0,j,P,R,S,h,kk,ke⟩;refine Xt (pl:=pl) (Nw (ho c s g H (λv' l=>∃w,(MT w G λy=>T j λws=>sp (y::ws) P R)/\aq H l/\Rep X.K (FB A M g) l w v') (I.jc _) ⟨A,H0,j,_,S,.none,h,λw v O i D J=>⟨w,i,D,J.aM⟩⟩) (λu D hz=>?_) λ_ _ z=>z.elim) ht;obtain⟨x1,O,N,rx,w,i,sm,J⟩:=hz;have N:Inv X c g O D:=N.kD;obtain⟨C,fs,W4,rfl,hg,i⟩:=AJ i;have r1':=J;obtain⟨q,dx,vs,rfl,na,h1,h2,hc,h3⟩:=J;obtain rfl:u=Value.ref q:=rx;have mt:=hG C hg;refine iK N h1 hc.1 mt (FY mt fs vs hc.2.2.2) ?_;refine Pi (first:=[.ref q]) (h₀:=X.base) I.ok.mod.DR mt.kp (Nw (ha pos c D g O (λvs B=>∃ws,aq O B/\ai X.K (FB A M g) B ws vs/\sp (.obj C fs W4::ws) P R) (N.jc _) ⟨A,H0,j,_,S.same sm,.none,i,λws vs B i s2 Z=>⟨ws,s2,Z,i⟩⟩) (λus s2 hz=>?_) λ_ _ z=>z.elim) he hpl;obtain⟨VY,B,L,r,ws,t,Z,lC⟩:=hz;have L:Inv X c g B s2:=L.kD;have d:=sm.trans t;refine⟨L.jh,M7 (Y:=X) (p9 (X:=X.jc (FX X c g E)) (us:=.ref q::us) (vs:=.ref q::VY) (ds:=[]) (B8:=[]) F hr hb .nil F3 (L.jc _) (.cons rfl r) ?_)⟩;rw[Kx];exact⟨FB A M g,.obj C fs W4::ws,P,R,hn _ _ _ lC,.cons (r1'.same t) Z,(S.same d).dom,lC,λw v l pw U r'=>kk w v l pw (d.trans U) (r'.rep (S.same d).dom),λC l rc U=>ke C l rc (d.trans U)⟩
private theorem Q6(O:X.stack=X.env::X.outer/\X.env.frame=some X.env.locals)(hN:X.N.Nodup)(hj:X.N[j]?=some y)(hy:Loc X.env.scope y)(T:X.N[i]?=some n)(hl:X.env.scope.names.lookup n=some .local)
 (hz:X.N[l]?=some z)(P:Loc X.env.scope z)(Q:i≠l)(hg:Gl X x)(hm:X.mg x=some (.ref D))(E:We X.K D F ns)(ye:F≠[])(M8:∀x,X.fn x=true)(oj:¬aL M j)(oi:¬aL M i)(ol:¬aL M l)(he:VX X M e t)
 (L:swapsWith e (some (.Name y p0)) p1.line X.env=pure false)(r:swapsWith (.Name n p4) (some (.Name z p3)) p5.line X.env=pure false)(U:(x==("__debug__":Str))=false)(Y:(n==("__debug__":Str))=false)(Z:(n==("__classdict__":Str))=false):
 VS X M m (.Try [.Assign [.Name y p0] e p1] [.ExceptHandler (some (.Name x np)) (some n) [.Assign [.Name z p3] (.Name n p4) p5] p2] [] [] pos) (λd g=>t (λC=>C∈F/\d.nx ((g.set l (some (.err C))).set i none)) g λw=>d.nx (g.set j (some w))):=by
 rintro q s f H W I ⟨A,H0,g,d,S,er,hs,h,k⟩;refine Jk (X:=X) O hN hj hy T hl hg hm (E.1 ye) he (λa=>jP (pX (X:=iM X a) hN hz P (ym (X:=iM X a) T (.inl hl) Y Z) r (.inl (M8 _)))) L U (.inl (M8 _)) q s f H W I ?_;refine⟨A,H0,g,_,_,S,h,λw v H1 J u r1=>k.nx A _ _ H1 rfl rfl J ((S.same u).set oj r1),λC H1 ⟨c,J⟩ u=>⟨C,rfl,(E.2.1 C c).1.1,(E.2.1 C c).2.2,λa ha=>?_⟩⟩;have il:i<f.length:=by rw[I.len];exact(Fk.mp T).1
 refine⟨.ref a,N0 il,?_⟩;have s2:=u.trans (aK ha (EF a C));have S2:=S.same s2;have na:¬A.B a:=λz=>by obtain⟨o,e⟩:=(S.same u).dom a z;rw[ha]at e;cases e
 have e:((f.set i (some (V.ref a))).set l (some (.ref a))).set i none=(f.set l (some (.ref a))).set i none:=by rw[h7 _ _ Q,List.set_set]
 show W.nx (((f.set i (some (V.ref a))).set l (some (.ref a))).set i none) _;rw[e];exact k.nx A _ _ _ rfl rfl J ((S2.set ol (show Rep X.K A.B _ (.err C) (.ref a)from⟨a,rfl,az,na,(E.2.1 C c).1⟩)).unset oi)
end
end VL
namespace L2
open PySem PySem.Spec
open PyProof.Rows hiding St
section
variable{X:Cx}
end
end L2
namespace VL
open PySem PySem.Spec
open PyProof.Rows hiding St
open L2
section
variable{X:Cx}{M M':Ms}{R:Addr->Prop}{m:Md}{st:Stmt}{o e k v:Expr}{te tf:WT}{t:WS}{i:Nat}{pos:Pos}{is:List Nat}
private theorem Q7(J:X.A.units+1<cLine)(L:VE X M R .s o te)(K:VE X M R .s e tf)(I:M1 X o "get" apos e b):
 VE X M R .s (.Call (.Attribute o "get" apos) [e] [] b) (λc Q=>te c λx=>Ww x=true/\tf c λy=>match x,y with|.dct l ws,.str j=>Q ((dH j l ws).getD .aN)|_,_=>False):=
 PE.imp (Fb J L K I)<|by
  rintro T H Q ⟨A,C,c,P,S,z,h,k⟩;refine⟨A,C,c,_,S,z,h,λx U Y d f F=>?_⟩;cases x with
  |dct l ws=>
   obtain⟨_,d⟩:=d;obtain⟨p,g,rfl,_,u,O,N⟩:=F.aM;refine⟨p,rfl,.inl ⟨g,.inl u⟩,A,C,c,_,S.same f,z,d,λy D B a s2 E=>?_⟩;cases y with
   |str j=>
    have e:D=.str j:=E.aM;subst e;have a:P ((dH j l ws).getD .aN):=a;refine⟨_,m6.k (k:=Ec j) (s2 _ _ u),?_⟩;rw[O]at a;rcases gY (j:=j) N with⟨w,v,q,n,r⟩|⟨q,n⟩
    .rw[q]at a;rw[n];exact k _ _ B a (f.trans s2) (.of (r.same s2))
    .rw[q]at a;rw[n];exact k _ _ B a (f.trans s2) (.of PC)
   |_=>exact a.elim
  |_=>exact ff d.1
private theorem Q8(u:VE X M R .s v te):VE X M R .s (.Dict [some (.Constant (.str x) j q)] [v] pos) (λf Q=>te f λw=>wQ w=true/\Q (.dct [.str x] [w])):=
 PE.imp (Av (wN yo u Au) rfl rfl (λz=>by cases z) (by show 1<=15;decide))<|by
  rintro C H Q ⟨A,B,f,P,S,y,h,k⟩ p a;refine⟨A,B,f,_,S.same (aK a _),y,h,λw v d g s2 r=>⟨s2 _ _ az,[(Ec x,v)],rfl,(by show 1<=15;decide),?_⟩⟩;have sm:aq H (upd d p (.dK (gK [] [(Ec x,v)]))):=λb o l=>by rw[ak (λz=>by rw[z,a]at l;cases l)];exact s2 _ _ (aK a _ _ _ l)
  refine k _ _ _ g.2 sm (.of ?_);have c:sL (·=p) d (upd d p (.dK (gK [] [(Ec x,v)]))):=.put (s2 _ _ az) rfl rfl;have n:Rep X.K (·=p) (upd d p (.dK (gK [] [(Ec x,v)]))) w v:=Rep.chg c (λ_ _ _ z=>z) w (Rep.wQ w g.1 r.aM);dsimp only[Rep];exact⟨p,[(Ec x,v)],rfl,λz=>S.dom.no a z,az,rfl,.cons (Rep.wQ w g.1 n) .nil⟩
private theorem xm{K:Frag}:∀{kvs:List (Key×V)}{ws:List W},ai K B H ws (kvs.map (·.2))->nW j (kvs.map λx=>eO x.1)=(lU kvs (.inr j)).map (λx=>eO x.1)/\ai K B H (lV j (kvs.map λx=>eO x.1) ws) ((lU kvs (.inr j)).map (·.2))
 |[],ws,h=>⟨rfl,.nil⟩
 |x::kvs,[],h=>by have h:(x::kvs).map (·.2)=[]:=h;cases h
 |x::kvs,w::ws,h=>by
  obtain⟨v,r,e,d,c⟩:=h;cases e;obtain⟨b,a⟩:=xm (j:=j) c;unfold nW lU at b⊢;unfold lU at a;rw[Fh,SZ,SZ,gX];show _/\ai K B H (if v5 j (eO x.1)=true then _ else w::_) _;rw[gX];by_cases e:x.1=Ec j
  .rw[Bz e,BM rfl,B1 (by decide),B1 (by simp[e])];exact⟨b,a⟩
  .rw[Ee e,BM (show(!false)=true from rfl),BM (show decide (x.1≠Ec j)=true from by simp[e]),B1 (show¬(false=true)from by decide),Fh,Fh];exact⟨by rw[b],.cons d a⟩
private theorem Q9{t1:(Addr->Prop)->WT}(Y:(i,.d)∈M)(Q:PE X o (gI i))(U:∀R,VE X M R .s e (t1 R))(P:M1 X o "pop" apos e b):
 VS X M m (.Expr (.Call (.Attribute o "pop" apos) [e] [] b) q) (λd c=>match look c i with|some (.dct u vs)=>(t1 d.ex c λx=>(match x with|.str j=>(∃w,dH j u vs=some w)/\d.nx (c.set i (some (.dct (nW j u) (lV j u vs))))|_=>False))|_=>False):=by
 rintro l s L H D I ⟨A,H0,c,d,S,er,hz,h,k⟩;obtain⟨u,vs,T,h⟩:=yY h;obtain⟨p,n,Z,E,K,C,f⟩:=FW S Y T;refine iH (Fc Q (U d.ex) P) rfl l s L H D I ⟨_,Z,p,rfl,.inl ⟨n,.inl E⟩,A,H0,c,_,S,er,h,λz N H2 a s2 O=>?_⟩;cases z with
 |str j=>
  obtain⟨⟨w,g⟩,a⟩:=a;have ez:N=.str j:=O.aM;subst ez;rw[K]at g;rcases gY (j:=j) C with⟨w',v,J,F,r⟩|⟨J,F⟩
  .obtain⟨B,y⟩:=xm (j:=j) (C.same s2);rw[<-K]at B y;obtain⟨A',a1,a2,S'⟩:=f H2 s2 _ _ _ B y;exact⟨n,Ec j,v,s2 _ _ E,rfl,F,k.nx A' _ _ _ a1 a2 a S'⟩
  .rw[J]at g;cases g
 |_=>exact a.elim
private theorem AK:∀(is:List Nat){a:Ev},(yg is a).length=a.length
 |[],_=>rfl
 |i::is,a=>by show(yg is (a.set i none)).length=_;rw[AK is,Kt]
private theorem CL{a:Ev}:look (a.set i none) i=none:=by
 cases e:look (a.set i none) i with
 |none=>rfl
 |some w=>rw[bq,S6]at e;rw[BM rfl]at e;split at e<;>cases e
private theorem qL:∀(is:List Nat){a:Ev}{i:Nat},look (yg is a) i=if i∈is then none else look a i
 |[],a,i=>(B1 TC).symm
 |j::is,a,i=>by
  show look (yg is (a.set j none)) i=_;rw[qL is];by_cases h:i∈is
  .rw[BM h,BM (AS _ h)]
  .rw[B1 h];by_cases e:i=j
   .rw[BM (by rw[e];exact Ap),e,CL]
   .rw[B1 (λz=>(Do.mp z).elim e h),aG (λz=>e z.symm)]
private theorem SR.qM{K:Frag}(S:SR K M' A C r H h)(B:∀x,x∈M->x∈M'\/x.1∈is)(E:∀x∈M',x∈M)(I:∀x∈M',x.1∉is)(D:∀i m s,(i,m)∈M->(i,s)∈M->m=s):SR K M A C r H (yg is h):=by
 obtain⟨F,O⟩:=S.ow;have l:∀i,aL M i->i∉is->aL M' i:=by
  rintro i ⟨m,g⟩ n;rcases B _ g with z|z
  .exact⟨m,z⟩
  .exact(n z).elim
 have q:∀i,aL M' i->aL M i:=by rintro i ⟨m,g⟩;exact⟨m,E _ g⟩
 have J:∀i,aL M' i->i∉is:=by rintro i ⟨m,g⟩;exact I _ g
 have u:∀{i w},look (yg is h) i=some w->i∉is/\look h i=some w:=λ{i w} e=>by
  rw[qL]at e;split at e
  .cases e
  .exact⟨by assumption,e⟩
 have f:∀{i p},aL M i->p∈(if i∈is then[]else F i)->aL M' i/\p∈F i:=λ{i p} c d=>by
  split at d
  .cases d
  .exact⟨l i c (by assumption),d⟩
 refine⟨by rw[AK];exact S.len,λi w c e=>S.sh i w (λz=>c (q i z)) (u e).2,S.sm,S.dm,λv e=>⟨(S.sl v e).1,q 0 (S.sl v e).2⟩,λi=>if i∈is then[]else F i,
  ⟨D,λi m w g e=>?_,λi c e=>?_,λi c=>?_,λi j p c y a b=>O.ds i j p (f c a).1 (f y b).1 (f c a).2 (f y b).2,λi p c d=>O.nw i p (f c d).1 (f c d).2,λi p c d=>O.na i p (f c d).1 (f c d).2,λp=>?_⟩⟩
 .obtain⟨n,e⟩:=u e;rw[B1 n];exact O.val i m w ((B _ g).resolve_right n) e
 .split
  .rfl
  .rename_i n
   rw[qL,B1 n]at e;exact O.emp i (l i c n) e
 .split
  .exact bp
  .exact O.nd i (l i c (by assumption))
 .rw[O.all p];refine or_congr bM ⟨?_,?_⟩
  .rintro⟨i,c,d⟩;exact⟨i,q i c,by rw[B1 (J i c)];exact d⟩
  .rintro⟨i,c,d⟩;exact⟨i,(f c d).1,(f c d).2⟩
private theorem Kz{st:List Stmt}(h:xg X M' m st t)(z:∀x,x∈M->x∈M'\/x.1∈is)(p:∀x∈M',x∈M)(y:∀x∈M',x.1∉is)(u:∀i m B,(i,m)∈M->(i,B)∈M->m=B)(F:dG m=true->aL M 0->aL M' 0):
 xg X M m st (λd a=>t {d with nx:=λa=>d.nx (yg is a),bk:=λa=>d.bk (yg is a),ct:=λa=>d.ct (yg is a)} a):=tQ.imp h<|by
 rintro D O H ⟨A,K,a,d,S,I,hz,h,k⟩;obtain⟨N,q,f,_,J⟩:=S.sub (M':=M') p A.s0 (λv e=>⟨e,F (by rw[<-hz,e];rfl) (S.sl v e).2⟩);refine⟨N,K,a,{d with nx:=λa=>d.nx (yg is a),bk:=λa=>d.bk (yg is a),ct:=λa=>d.ct (yg is a)},J,I,by rw[f];exact hz,h,λn C b l a2 g c j=>k.nx n _ b l (a2.trans q) (g.trans f) c (j.qM z p y u),λw v L E s r=>k.rt w v L E s ?_,λn C b l a2 g c j=>k.bk n _ b l (a2.trans q) (g.trans f) c (j.qM z p y u),λn C b l a2 g c j=>k.ct n _ b l (a2.trans q) (g.trans f) c (j.qM z p y u)⟩;rw[f,q]at r;exact r
end
private theorem a2(z:(a&&b)=true):a=true/\b=true:=by cases a<;>cases b<;>first|exact⟨rfl,rfl⟩|exact ff z
private theorem a3(z:((a&&b)&&c)=true):(a=true/\b=true)/\c=true:=⟨a2 (a2 z).1,(a2 z).2⟩
private theorem a4(z:(a&&b&&c&&d)=true):((a=true/\b=true)/\c=true)/\d=true:=⟨a3 (a2 z).1,(a2 z).2⟩
private theorem a5(z:(a&&b&&c&&d&&e)=true):(((a=true/\b=true)/\c=true)/\d=true)/\e=true:=⟨a4 (a2 z).1,(a2 z).2⟩
private theorem a6(z:(a&&b&&c&&d&&e&&f)=true):((((a=true/\b=true)/\c=true)/\d=true)/\e=true)/\f=true:=⟨a5 (a2 z).1,(a2 z).2⟩
private theorem a7(z:(a&&b&&c&&d&&e&&f&&g)=true):(((((a=true/\b=true)/\c=true)/\d=true)/\e=true)/\f=true)/\g=true:=⟨a6 (a2 z).1,(a2 z).2⟩
private theorem a8(z:(a&&b&&c&&d&&e&&f&&g&&h)=true):((((((a=true/\b=true)/\c=true)/\d=true)/\e=true)/\f=true)/\g=true)/\h=true:=⟨a7 (a2 z).1,(a2 z).2⟩
private theorem a9(z:(a&&b&&c&&d&&e&&f&&g&&h&&i)=true):(((((((a=true/\b=true)/\c=true)/\d=true)/\e=true)/\f=true)/\g=true)/\h=true)/\i=true:=⟨a8 (a2 z).1,(a2 z).2⟩
private theorem a10(z:(a&&b&&c&&d&&e&&f&&g&&h&&i&&j)=true):((((((((a=true/\b=true)/\c=true)/\d=true)/\e=true)/\f=true)/\g=true)/\h=true)/\i=true)/\j=true:=⟨a9 (a2 z).1,(a2 z).2⟩
structure SE where
 N:List Str
 nk:List (Str×NameKind)
 M:Ms
 fn:List Str
 gn:List Str
 zn:List Str
 md:List Md
 mt:List (Nat×Nat)
noncomputable def eY:List Md->Nat->Md
 |[],_=>.s
 |x::_,0=>x
 |_::l,n+1=>eY l n
noncomputable def Ra:Md->Bool
 |.f=>true
 |_=>false
noncomputable def KA:Md->Bool
 |.s=>true
 |_=>false
noncomputable def nh(M:Ms)(i:Nat):Bool:=(M.lookup i).isSome
private theorem eG(h:nh M i=false):¬aL M i:=by
 rintro⟨m,d⟩;unfold nh at h;have:∀M:Ms,(i,m)∈M->(M.lookup i).isSome=true:=λM=>by
  induction M with
  |nil=>intro z;cases z
  |cons x M c=>
   intro z;obtain⟨a,b⟩:=x;rw[DK];cases e:i==a with
   |true=>rfl
   |false=>
    rcases Do.mp z with z|z
    .cases z;rw[Qr]at e;cases e
    .exact c z
 rw[this M d]at h;cases h
private theorem fH{M:Ms}(h:M.lookup i=some m):(i,m)∈M:=by
 induction M with
 |nil=>exact nn h
 |cons x M c=>
  obtain⟨a,b⟩:=x;rw[DK]at h;cases e:i==a with
  |true=>rw[e]at h;cases h;cases GT.mp e;exact Ap
  |false=>rw[e]at h;exact AS _ (c h)
noncomputable def xo(M:Ms)(i:Nat):Bool:=match M.lookup i with
 |none=>true
 |some m=>Ra m
private theorem xq(h:xo M i=true):aL M i->(i,.f)∈M:=λa=>by
 unfold xo at h;cases e:M.lookup i with
 |none=>exact(eG (by unfold nh;rw[e];rfl) a).elim
 |some m=>rw[e]at h;cases m<;>first|exact fH e|exact ff h
noncomputable def W5:Md->Bool
 |.d=>true
 |_=>false
noncomputable def y9(M:Ms)(i:Nat):Bool:=match M.lookup i with
 |none=>false
 |some m=>W5 m
private theorem pG(h:y9 M i=true):(i,.d)∈M:=by
 unfold y9 at h;cases e:M.lookup i with
 |none=>rw[e]at h;exact ff h
 |some m=>rw[e]at h;cases m<;>first|exact fH e|exact ff h
noncomputable def zd(M:Ms)(i:Nat):Bool:=match M.lookup i with
 |none=>false
 |some m=>Ra m
private theorem l7(h:zd M i=true):(i,.f)∈M:=by
 unfold zd at h;cases e:M.lookup i with
 |none=>rw[e]at h;exact ff h
 |some m=>rw[e]at h;cases m<;>first|exact fH e|exact ff h
noncomputable def SE.sc(S:SE):Scope:={kind:=.function,names:=S.nk,isGenerator:=false,isCoroutine:=false}
noncomputable def CM(S:SE)(x:Str):Bool:=S.nk.lookup x==some .local||(S.nk.lookup x==some .cell||S.nk.lookup x==some .free)
noncomputable def okN(x:Str):Bool:=!(x==("__debug__":Str))&&!(x==("__classdict__":Str))&&!(x==("__name__":Str))
noncomputable def jx(S:SE)(x:Str):Bool:=(S.nk.lookup x==some .globalImplicit)&&okN x
noncomputable def tys:List String:=["int","bool","tuple"]
noncomputable def jR:Expr->Bool
 |.Call _ _ _ _=>false
 |_=>true
noncomputable def mC(f:Const->Bool):Expr->Bool
 |.Constant c _ _=>f c
 |_=>false
noncomputable def oNm(f:Str->Pos->Bool):Expr->Bool
 |.Name x p=>f x p
 |_=>false
noncomputable def kj(f:Str->Bool):Expr->Bool:=oNm λx _=>f x
noncomputable def iS(S:SE)(i:Nat):Expr->Bool:=kj λx=>S.N[i]?==some x&&CM S x&&okN x
noncomputable def o1{α:Type}(f:α->Bool):List α->Bool
 |[a]=>f a
 |_=>false
noncomputable def W6(f:Expr->List CmpOp->List Expr->Bool):Expr->Bool
 |.Compare l b a _=>f l b a
 |_=>false
noncomputable def nZ(f:Expr->List Expr->Bool->Pos->Bool):Expr->Bool
 |.Call g es a p=>f g es a.isEmpty p
 |_=>false
noncomputable def sP(f:Expr->Str->Pos->Bool):Expr->Bool
 |.Attribute o m p=>f o m p
 |_=>false
noncomputable def oSl(f:Option Expr->Option Expr->Option Expr->Bool):Expr->Bool
 |.Slice l h t _=>f l h t
 |_=>false
noncomputable def oLC(f:Expr->List Comprehension->Scope->Bool):Expr->Bool
 |.ListComp x a s _=>f x a s
 |_=>false
noncomputable def F4(f:Operator->Expr->Expr->Bool):Expr->Bool
 |.BinOp l o r _=>f o l r
 |_=>false
noncomputable def Yw(f:UnaryOp->Expr->Bool):Expr->Bool
 |.UnaryOp o x _=>f o x
 |_=>false
noncomputable def F5(f:CmpOp->Expr->Expr->Bool):Expr->Bool:=W6 λl b a=>o1 (λo=>o1 (λr=>f o l r) a) b
noncomputable def o2{α:Type}(f:α->α->Bool):List α->Bool
 |a::l=>o1 (f a) l
 |_=>false
noncomputable def o3{α:Type}(f:α->α->α->Bool):List α->Bool
 |a::l=>o2 (f a) l
 |_=>false
noncomputable def Rb(f:BoolOp->List Expr->Bool):Expr->Bool
 |.BoolOp o es _=>f o es
 |_=>false
noncomputable def mIf(f:Expr->Expr->Expr->Bool):Expr->Bool
 |.IfExp t x y _=>f t x y
 |_=>false
noncomputable def ze(f:List Expr->Bool):Expr->Bool
 |.Tuple es _ _=>f es
 |_=>false
noncomputable def Rc(f:List Expr->Bool):Expr->Bool
 |.List es _=>f es
 |_=>false
noncomputable def F6(f:Expr->Expr->Bool):Expr->Bool
 |.Subscript v s _=>f v s
 |_=>false
noncomputable def mSl(f:Expr->Option Expr->Option Expr->Bool):Expr->Bool:=F6 λv s=>oSl (λl h t=>t.isNone&&f v l h) s
noncomputable def ja(f:Str->List Expr->Bool):Expr->Bool:=nZ λg a k _=>k&&kj (λx=>f x a) g
noncomputable def zg(f:Expr->Str->Pos->Pos->Bool):Expr->Bool:=nZ λg b k c=>k&&b.isEmpty&&sP (λo m a=>f o m a c) g
noncomputable def M9(f:Expr->Expr->Expr->List Expr->Scope->Bool):Expr->Bool:=oLC λx a s=>o1 (λg=>decide (g.is_async=0)&&f x g.target g.iter g.ifs s) a
private theorem iT(h:mC f e=true):∃c k p,e=.Constant c k p/\f c=true:=by cases e<;>first|exact⟨_,_,_,rfl,h⟩|exact ff h
private theorem AL(h:oNm f e=true):∃x p,e=.Name x p/\f x p=true:=by cases e<;>first|exact⟨_,_,rfl,h⟩|exact ff h
private theorem F7(h:W6 f e=true):∃l b a p,e=.Compare l b a p/\f l b a=true:=by cases e<;>first|exact⟨_,_,_,_,rfl,h⟩|exact ff h
private theorem d7(h:nZ f e=true):∃g es a p,e=.Call g es a p/\f g es a.isEmpty p=true:=by cases e<;>first|exact⟨_,_,_,_,rfl,h⟩|exact ff h
private theorem cG(h:sP f e=true):∃o m p,e=.Attribute o m p/\f o m p=true:=by cases e<;>first|exact⟨_,_,_,rfl,h⟩|exact ff h
private theorem KC(h:oSl f e=true):∃l r t p,e=.Slice l r t p/\f l r t=true:=by cases e<;>first|exact⟨_,_,_,_,rfl,h⟩|exact ff h
private theorem KD(h:oLC f e=true):∃x a s p,e=.ListComp x a s p/\f x a s=true:=by cases e<;>first|exact⟨_,_,_,_,rfl,h⟩|exact ff h
private theorem cz(h:o1 f l=true):∃a,l=[a]/\f a=true:=by rcases l with _|⟨a,_|_⟩<;>first|exact⟨_,rfl,h⟩|exact ff h
private theorem zh(h:o2 f l=true):∃a b,l=[a,b]/\f a b=true:=by
 cases l with
 |nil=>exact ff h
 |cons a l=>obtain⟨b,rfl,c⟩:=cz h;exact⟨_,_,rfl,c⟩
private theorem bz(h:kj f e=true):∃x p,e=.Name x p/\f x=true:=AL h
private theorem ni(h:F4 f e=true):∃l o r p,e=.BinOp l o r p/\f o l r=true:=by cases e<;>first|exact⟨_,_,_,_,rfl,h⟩|exact ff h
private theorem l8(h:Yw f e=true):∃o x p,e=.UnaryOp o x p/\f o x=true:=by cases e<;>first|exact⟨_,_,_,rfl,h⟩|exact ff h
private theorem nj(h:F5 f e=true):∃l o r p,e=.Compare l [o] [r] p/\f o l r=true:=by obtain⟨l,g,d,p,rfl,c⟩:=F7 h;obtain⟨o,rfl,b⟩:=cz c;obtain⟨r,rfl,a⟩:=cz b;exact⟨_,_,_,_,rfl,a⟩
private theorem jS(h:Rb f e=true):∃o es p,e=.BoolOp o es p/\f o es=true:=by cases e<;>first|exact⟨_,_,_,rfl,h⟩|exact ff h
private theorem KG(h:mIf f e=true):∃t x y p,e=.IfExp t x y p/\f t x y=true:=by cases e<;>first|exact⟨_,_,_,_,rfl,h⟩|exact ff h
private theorem fJ(h:ze f e=true):∃es k p,e=.Tuple es k p/\f es=true:=by cases e<;>first|exact⟨_,_,_,rfl,h⟩|exact ff h
private theorem qN(h:Rc f e=true):∃es p,e=.List es p/\f es=true:=by cases e<;>first|exact⟨_,_,rfl,h⟩|exact ff h
private theorem gZ(h:F6 f e=true):∃v s p,e=.Subscript v s p/\f v s=true:=by cases e<;>first|exact⟨_,_,_,rfl,h⟩|exact ff h
private theorem pH(h:mSl f e=true):∃v l r q p,e=.Subscript v (.Slice l r none q) p/\f v l r=true:=by obtain⟨v,s,p,rfl,c⟩:=gZ h;obtain⟨l,r,t,q,rfl,b⟩:=KC c;obtain⟨k,a⟩:=a2 b;rw[Option.isNone_iff_eq_none.mp k];exact⟨_,_,_,_,_,rfl,a⟩
private theorem aJ(h:ja f e=true):∃x q es p,e=.Call (.Name x q) es [] p/\f x es=true:=by obtain⟨g,es,d,p,rfl,c⟩:=d7 h;obtain⟨k,b⟩:=a2 c;obtain⟨x,q,rfl,a⟩:=bz b;rw[Fm.mp k];exact⟨_,_,_,_,rfl,a⟩
private theorem kM(h:zg f e=true):∃o m a c,e=.Call (.Attribute o m a) [] [] c/\f o m a c=true:=by obtain⟨g,n,j,p,rfl,i⟩:=d7 h;obtain⟨⟨k,l⟩,d⟩:=a3 i;obtain⟨o,m,a,rfl,b⟩:=cG d;rw[Fm.mp k,Fm.mp l];exact⟨_,_,_,_,rfl,b⟩
noncomputable def F8(f:Expr->Str->Pos->Pos->Expr->Expr->Bool):Expr->Bool:=nZ λg b k c=>k&&o2 (λx y=>sP (λo m a=>f o m a c x y) g) b
private theorem qO(h:F8 f e=true):∃o m a c x y,e=.Call (.Attribute o m a) [x,y] [] c/\f o m a c x y=true:=by obtain⟨g,l,j,p,rfl,i⟩:=d7 h;obtain⟨k,b⟩:=a2 i;obtain⟨x,y,rfl,b⟩:=zh b;obtain⟨o,m,a,rfl,d⟩:=cG b;rw[Fm.mp k];exact⟨_,_,_,_,_,_,rfl,d⟩
private theorem ux(h:M9 f e=true):∃d tg b c a p,e=.ListComp d [⟨tg,b,c,0⟩] a p/\f d tg b c a=true:=by obtain⟨x,m,s,p,rfl,j⟩:=KD h;obtain⟨⟨tg,l,n,z⟩,rfl,i⟩:=cz j;obtain⟨k,g⟩:=a2 i;cases AN k;exact⟨_,_,_,_,_,_,rfl,g⟩
noncomputable def zj(f:Expr->Str->Pos->Pos->List Expr->Bool):Expr->Bool:=nZ λg b k c=>k&&sP (λo m a=>f o m a c b) g
private theorem d8(h:zj f e=true):∃o m a c es,e=.Call (.Attribute o m a) es [] c/\f o m a c es=true:=by obtain⟨g,es,j,p,rfl,i⟩:=d7 h;obtain⟨k,d⟩:=a2 i;obtain⟨o,m,a,rfl,b⟩:=cG d;rw[Fm.mp k];exact⟨_,_,_,_,_,rfl,b⟩
noncomputable def AM(S:SE)(i:Nat):List j5->Expr->Bool
 |[],e=>iS S i e
 |.fl _ x::π,e=>sP (λa f _=>decide (f=x)&&jR a&&AM S i π a) e
noncomputable def ko(S:SE)(m:Md->Bool)(i:Nat)(π:List j5)(e:Expr):Bool:=!π.isEmpty&&AM S i π.reverse e&&(match S.M.lookup i with
 |some a=>(match lS a π with
  |some k=>m k
  |none=>false)
 |none=>false)
noncomputable def gq(S:SE):CE->Expr->Bool
 |.var i,e=>iS S i e&&xo S.M i
 |.own i π,e=>ko S Ra i π e
 |_,_=>false
noncomputable def Yx:BI->Str
 |.len=>"len"
 |.abs=>"abs"
 |.max2=>"max"
 |.all=>"all"
 |.list=>"list"
 |.Cz=>"isinstance"
 |.int=>"int"
 |.str=>"str"
 |.dict=>"dict"
noncomputable def biA:BI->Nat->Bool
 |_,n=>0<n
noncomputable def DG:CE->Bool
 |.ite _ _ _=>false
 |.not a=>DG a
 |.and b=>F9 b
 |.or b=>F9 b
 |_=>true
where F9:List CE->Bool
 |[]=>true
 |a::b=>DG a&&F9 b
noncomputable def xr:Expr->Bool
 |.Slice _ _ _ _=>false
 |_=>true
noncomputable def vj:Expr->Bool
 |.Set _ _ _=>false
 |_=>true
noncomputable def Ih:List Expr->Option (List Str)
 |[]=>some []
 |.Name x _::es=>(Ih es).map λl=>x::l
 |_::_=>none
noncomputable def W7:Expr->Option (Bool×List Str)
 |.Name x _=>some (true,[x])
 |.Tuple es _ _=>(Ih es).map λl=>(false,l)
 |_=>none
noncomputable def mask(a:List Str)(N:List Str):List Str:=N.map λy=>if a.contains y then y++("!":Str)else y
noncomputable def SE.comp(S:SE)(a:Scope)(b:List Str):SE:=
 {S with N:=b++mask b S.N,nk:=a.names.map λp=>(p.1,if p.2=.free then .cell else p.2),M:=up S.M b.length}
noncomputable def SE.lend(S:SE)(a:List Nat):SE:={S with M:=S.M.filter (λx=>!a.contains x.1)}
noncomputable def W8:CE->Option String
 |.Dz n=>some n
 |_=>none
private theorem isTI{c:CE}{n:String}(h:W8 c=some n):c=.Dz n:=by
 cases c with
 |Dz m=>cases h;rfl
 |_=>exact nn h
noncomputable def Ga:CE->Bool
 |.yf _=>true
 |_=>false
noncomputable def Gb(n:Bool)(f:Expr->Bool):Option Expr->Bool
 |none=>n
 |some e=>!n&&f e
noncomputable def Na:CE->Bool
 |.bl b=>b
 |_=>false
private theorem isYI{c:CE}(h:Na c=true):c=.bl true:=by
 cases c with
 |bl b=>cases b;exact ff h;rfl
 |_=>exact ff h
noncomputable def W9:BI->List CE->Bool
 |.Cz,[_,c]=>(W8 c).isSome
 |.Cz,_=>false
 |_,_=>true
noncomputable def aaf(y:Bool)(f:Expr->Bool):List Expr->Bool
 |[]=>y
 |[e]=>f e
 |_=>false
noncomputable def AO(f:Expr->Bool)(g:List Expr->Bool):List Expr->Bool
 |e::es=>f e&&g es
 |[]=>false
noncomputable def Gd(f:Expr->Bool):List Expr->Bool:=o1 f
noncomputable def qP(S:SE)(h:List Nat)(d:Bool)(n:Nat)(g:Bool)(j:Expr->Bool)(k:SE->List Expr->Bool)(i:SE->Expr->Bool)(f tg b:Expr)(e:List Expr)(a:Scope):Bool:=
 match W7 tg with
 |some (o,c)=>(d==o)&&(n==c.length)&&(h==G2 n)&&dY a S.sc S.N (mask c S.N) c&&decide (c++mask c S.N).Nodup&&vj b&&(!g||!d)&&j b&&k (S.comp a c) e&&i (S.comp a c) f
 |none=>false
noncomputable def Nb:Expr->Bool
 |.Call _ (_::_) _ _=>true
 |_=>false
noncomputable def mJn(f:List Expr->Bool):Expr->Bool
 |.JoinedStr vs _=>f vs
 |_=>false
noncomputable def mFm(f:Expr->Bool):Expr->Bool
 |.FormattedValue v c none _=>decide (c= -1)&&f v
 |_=>false
noncomputable def iU(c:Nat->Md):CE->Bool
 |.lst _=>true
 |.comp _ _ _ _ _ _=>true
 |.blt .list _=>true
 |.Uj _=>true
 |.yR _ f _ _=>match c f with
  |.f=>true
  |_=>false
 |.sl _ _ _=>true
 |.bin .Add a b=>iU c a||iU c b
 |.bin .Mult a _=>iU c a
 |.call f _=>match c f with
  |.f=>true
  |_=>false
 |.ite _ a b=>iU c a&&iU c b
 |_=>false
noncomputable def mo(a:Nat->Md)(c:CE):Md:=if iU a c=true then .f else .s
noncomputable def Nc:Expr->Bool
 |.Name _ _=>true
 |_=>false
noncomputable def aag(b:List Str)(vs:List Int):Expr->Bool
 |.Dict a es _=>Ku b vs a es
 |_=>false
noncomputable def Nd(f:Expr->Expr->Bool):Expr->Bool
 |.Dict [some k] [v] _=>f k v
 |_=>false
private theorem uy(h:Nd f e=true):∃k v p,e=.Dict [some k] [v] p/\f k v=true:=by
 cases e with
 |Dict b a p=>rcases b with _|⟨_|k,_|⟨d,b⟩⟩<;>rcases a with _|⟨v,_|⟨c,a⟩⟩<;>first|exact⟨_,_,_,rfl,h⟩|exact ff h
 |_=>exact ff h
mutual
noncomputable def aE(S:SE)(F:Bool):CE->Expr->Bool
 |.var i,e=>iS S i e&&!nh S.M i
 |.int i,e=>mC (λc=>decide (c=.int i)) e
 |.bl b,e=>mC (λc=>decide (c=.bool b)) e
 |.str x,e=>mC (λc=>decide (c=.str x)) e
 |.aN,e=>mC (λc=>decide (c=.none)) e
 |.Dz n,e=>kj (λx=>decide (x=Str.ofString n)&&jx S x&&S.zn.contains x&&tys.contains n) e
 |.glob g,e=>kj (λx=>S.gn[g]?==some x&&jx S x) e
 |.bin op a b,e=>F4 (λo l r=>decide (op=o)&&(aE S false a l||gq S a l)&&(aE S false b r||gq S b r)) e
 |.neg a,e=>Yw (λo x=>decide (o=.USub)&&aE S false a x) e
 |.not a,e=>Yw (λo x=>decide (o=.Not)&&aE S false a x) e
 |.cmp op a b,e=>F5 (λo l r=>decide (op=o)&&vj r&&(aE S false a l||gq S a l)&&(aE S false b r||gq S b r)) e
 |.and d,e=>Rb (λo es=>decide (o=.And)&&!es.isEmpty&&fj S d es) e
 |.or d,e=>Rb (λo es=>decide (o=.Or)&&!es.isEmpty&&fj S d es) e
 |.ite c a b,e=>mIf (λt x y=>aE S false c t&&DG c&&aE S false a x&&aE S false b y) e
 |.tup d,e=>ze (λes=>fj S d es) e
 |.lst d,e=>Rc (λes=>fj S d es) e
 |.ix a i,e=>F6 (λv s=>xr s&&(aE S false a v||gq S a v)&&aE S false i s) e
 |.sl a B C,e=>mSl (λv l h=>(aE S false a v||gq S a v)&&Gb (i9 B) (λx=>aE S false B x) l&&Gb (i9 C) (λx=>aE S false C x) h) e
 |.call f d,e=>ja (λx es=>S.fn[f]?==some x&&jx S x&&!es.isEmpty&&!dG (eY S.md f)&&!S.mt.any (·.1==f)&&fj S d es) e
 |.blt b d,e=>ja (λx es=>decide (x=Yx b)&&jx S x&&S.zn.contains x&&biA b es.length&&W9 b d&&n6 S d es) e
 |.bits a,e=>zg (λo m A z=>decide (m=("bit_length":Str))&&(A.endLine==z.line)&&jR o&&aE S false a o) e
 |.comp H one n i c x,e=>M9 (λw tg j q p=>qP S H one n (Ga i) (λj=>aE S true i j||gq S i j) (λE q=>aaf (Na c) (λf=>aE E false c f&&DG c) q) (λE w=>aE E false x w) w tg j q p) e
 |.pT d,e=>ja (λx es=>F&&decide (x=("range":Str))&&jx S x&&S.zn.contains x&&(d.length==1||d.length==2||d.length==3)&&fj S d es) e
 |.yf a,e=>ja (λx es=>F&&decide (x=("enumerate":Str))&&jx S x&&S.zn.contains x&&Gd (λv=>aE S false a v) es) e
 |.pop _,_=>false
 |.own i π,e=>ko S KA i π e
 |.lD _ _ _ _,_=>false
 |.Ib _ _ _ _,_=>false
 |.JF _ _ _ _,_=>false
 |.fst d,e=>mJn (λes=>fj S d es) e
 |.fmt a,e=>mFm (λv=>aE S false a v) e
 |.slt a B C,e=>mSl (λv l h=>(aE S false a v||gq S a v)&&Gb (i9 B) (λx=>aE S false B x) l&&Gb (i9 C) (λx=>aE S false C x) h) e
 |.Ug a b c,e=>F8 (λo m A z u v=>decide (m=("startswith":Str))&&(A.endLine==z.line)&&jR o&&aE S false a o&&aE S false b u&&aE S false c v) e
 |.MO a _ x,e=>sP (λo f _=>decide (f=x)&&jR o&&aE S false a o) e
 |.Uh a b,e=>zj (λo m A z es=>decide (m=("get":Str))&&(A.endLine==z.line)&&jR o&&aE S false a o&&Gd (λu=>aE S false b u) es) e
 |.Ui x a,e=>Nd (λk v=>mC (λc=>decide (c=.str x)) k&&aE S false a v) e
 |.Uj i,e=>ja (λx es=>decide (x=("sorted":Str))&&jx S x&&S.zn.contains x&&Gd (λv=>y9 S.M i&&iS S i v) es) e
 |.Uk D vs k,e=>F6 (λv s=>xr s&&aag D vs v&&decide D.Nodup&&!D.isEmpty&&decide (D.length<=15)&&aE S false k s) e
 |.CA a g,e=>ja (λx es=>decide (x=("isinstance":Str))&&jx S x&&S.zn.contains x&&o2 (λu v=>aE S false a u&&kj (λy=>S.gn[g]?==some y&&jx S y) v) es) e
 |.Ul a,e=>ja (λx es=>decide (x=("isinstance":Str))&&jx S x&&S.zn.contains x&&o2 (λu v=>aE S false a u&&kj (λy=>decide (y=("ValueError":Str))&&jx S y&&S.zn.contains y) v) es) e
 |.yR g f a d,e=>zj (λo x A z es=>(A.endLine==z.line)&&(Nc o||Nb o)&&S.fn[f]?==some x&&S.mt.any (λy=>y.1==f&&y.2==g)&&!dG (eY S.md f)&&!es.isEmpty&&decide (es.length<30)&&aE S false a o&&fj S d es) e
noncomputable def fj(S:SE):List CE->List Expr->Bool
 |[],es=>es.isEmpty
 |a::b,es=>AO (λe=>aE S false a e) (λes=>fj S b es) es
noncomputable def n6(S:SE):List CE->List Expr->Bool
 |[],es=>es.isEmpty
 |a::b,es=>AO (λe=>aE S false a e||gq S a e) (λes=>n6 S b es) es
end
structure XOk(S:SE)(Φ:Nat->aT)(Ψ:Nat->Md)(G:Nat->W)(X:Cx):Prop where
 hN:X.N=S.N
 nd:X.N.Nodup
 calm:X.calm=true
 un:X.A.units+64<cLine
 nk:∀x,X.env.scope.names.lookup x=S.nk.lookup x
 fns:∀(j:Nat)(x:Str),S.fn[j]?=some x->S.mt.any (·.1==j)=false->∃fv n k,X.mg x=some fv/\bW X.prog X.w X.K X.mg X.base k fv n (nY X.K n (Ψ j) (Φ j))/\bZ k X.A/\∀ws P R,Φ j ws P R->ws.length=n
 Ge:∀(j g:Nat)(x:Str),S.fn[j]?=some x->(j,g)∈S.mt->∃f fd ps n k,(∀C,G g=.cls C->Meth X.K C x f)/\Binds X.K fd ps []/\bL X.prog X.w X.K X.mg X.base (eu X.prog X.w) k f fd ps (nY X.K n (Ψ j) (Φ j))/\bZ k X.A/\∀ws P R,Φ j ws P R->ws.length=n
 CN:Ψ=eY S.md
 DH:∀(j:Nat)(x:Str),S.gn[j]?=some x->∃u v,X.mg x=some u/\RelV v u/\∀B H,Rep X.K B H (G j) v
 xu:∀x∈S.zn,X.mg x=none
 kit:wW X.K
 j4:∀(g:Nat) st q x,S.gn[g]?=none->G g=.j4 st q x .aN->∃n k,lY X.prog X.w X.K X.mg X.base k st q x n (Φ S.fn.length)/\bZ k X.A/\∀ws P R,Φ S.fn.length ws P R->ws.length=n+1
section
variable{S:SE}{Φ:Nat->aT}{Ψ:Nat->Md}{G:Nat->W}{X:Cx}
private theorem XOk.Mx(h:XOk S Φ Ψ G X):XOk S Φ Ψ G X.Mx:=⟨h.hN,h.nd,h.calm,h.un,h.nk,h.fns,h.Ge,h.CN,h.DH,h.xu,h.kit,h.j4⟩
private theorem vm(h:okN x=true):(x==("__debug__":Str))=false/\(x==("__classdict__":Str))=false/\x≠"__name__":=by unfold okN at h;simp only[AC,X2]at h;exact⟨h.1.1,h.1.2,λz=>by rw[z]at h;exact absurd h.2 (by simp)⟩
private theorem bE(a:XOk S Φ Ψ G X)(h:jx S x=true):Gl X x/\(x==("__debug__":Str))=false/\x≠"__name__":=by unfold jx at h;rw[AC]at h;obtain⟨c,d,b⟩:=vm h.2;refine⟨?_,c,b⟩;show X.env.scope.names.lookup x=_;rw[a.nk];exact GT.mp h.1
private theorem cC(b:XOk S Φ Ψ G X)(h:iS S i e=true):PE X e (gI i):=by obtain⟨x,c,rfl,h⟩:=bz h;obtain⟨h,d⟩:=Jn.mp h;obtain⟨f,a⟩:=Jn.mp h;obtain⟨j,g,_⟩:=vm d;refine ym (by rw[b.hN];exact GT.mp f) ?_ j g;simp only[CM,UV,GT]at a;rw[<-b.nk]at a;exact a
noncomputable def noStar:Expr->Bool
 |.Starred _ _=>false
 |_=>true
private theorem aA(h:noStar e=true)(es:List Expr)(env:Env):starEach (e::es) env=(false,eval e env)::starEach es env:=by
 cases e<;>first|rfl|exact ff h
private theorem aY:∀{es:List Expr}(h:es.all noStar=true)(pos:Pos)(env:Env),(backTo pos (starEach es env)).any (·.1)=false
 |[],_,_,_=>rfl
 |e::es,h,pos,env=>by rw[Ai,AC]at h;rw[aA h.1];show(false||(backTo pos (starEach es env)).any (·.1))=false;rw[aY h.2];rfl
private theorem dj(h:ko S m i π e=true):
 (∃c k,π≠[]/\AM S i π.reverse e=true/\S.M.lookup i=some c/\lS c π=some k/\m k=true)/\(∃a f q,e=.Attribute a f q):=by
 unfold ko at h;rw[AC,AC]at h;obtain⟨⟨l,d⟩,b⟩:=h;have j:π≠[]:=λz=>by rw[z]at l;exact ff l
 constructor
 .split at b
  .rename_i c hl
   split at b
   .rename_i k hk
    exact⟨c,k,j,d,hl,hk,b⟩
   .cases b
  .cases b
 .cases g:π.reverse with
  |nil=>exact(j (by simpa using g)).elim
  |cons s r=>
   rw[g]at d;cases s with
   |fl n x=>obtain⟨o,m,p,rfl,t⟩:=cG d;exact⟨_,_,_,rfl⟩
private theorem qQ(h:ko S m i π (.Starred v p)=true):False:=by obtain⟨_,_,_,e⟩:=(dj h).2;cases e
private theorem aP(h:aE S a c e=true\/gq S c e=true):noStar e=true:=by
 cases e with
 |Starred v p=>
  rcases h with h|h
  .cases c with
   |own i b=>exact(qQ h).elim
   |_=>exact ff h
  .cases c<;>first|exact ff h|exact(qQ h).elim
 |_=>rfl
private theorem gv(h:(a||b)=true):a=true\/b=true:=by
 cases a
 .exact .inr h
 .exact .inl rfl
private theorem fu:∀{cs:List CE}{es:List Expr},fj S cs es=true->es.all noStar=true
 |[],es,h=>by
  cases es with
  |nil=>rfl
  |cons _ _=>exact ff h
 |c::cs,[],h=>by cases h
 |c::cs,e::es,h=>by have h:=a2 h;rw[Ai,aP (.inl h.1),fu h.2];rfl
private theorem qR:∀{cs:List CE}{es:List Expr},n6 S cs es=true->es.all noStar=true
 |[],es,h=>by
  cases es with
  |nil=>rfl
  |cons _ _=>exact ff h
 |c::cs,[],h=>by cases h
 |c::cs,e::es,h=>by have h:=a2 h;rw[Ai,aP (gv h.1),qR h.2];rfl
private theorem KH(h:xr b=true):uO b:=λo i=>by cases b<;>first|rfl|exact ff h
private theorem ia(h:jR a=true)(f:Str)(env:Env)(b:Sem Value):attributeBase a f env b=b:=by cases a<;>first|rfl|exact ff h
private theorem xw(b:XOk S Φ Ψ G X):∀(π:List j5)(e:Expr),AM S i π e=true->PE X e (qH X.K i π.reverse)
 |[],e,h=>FT (cC b h)
 |.fl n x::π,e,h=>by obtain⟨o,m,p,rfl,f⟩:=cG h;obtain⟨⟨a,d⟩,c⟩:=a3 f;have a:=AN a;subst a;rw[List.reverse_cons];exact FU (xw b π _ c) (ia d _ _ _)
private theorem vn(b:XOk S Φ Ψ G X)(h:ko S m i π e=true):∃a k,(i,a)∈S.M/\lS a π=some k/\m k=true/\PE X e (qH X.K i π):=by obtain⟨⟨a,k,_,g,f,d,c⟩,_⟩:=dj h;have:=xw b π.reverse e g;rw[List.reverse_reverse]at this;exact⟨a,k,fH f,d,c,this⟩
private theorem Xa(g:XOk S Φ Ψ G X)(h:ko S KA i π e=true)(R:Addr->Prop):VE X S.M R .s e (λa Q=>match look a i with|some w=>(match cD w π with|some u=>Q u|none=>False)|none=>False):=by
 obtain⟨j,k,d,c,f,b⟩:=vn g h;cases k<;>first|(cases f;done)|skip
 exact PR b d c
private theorem Nf(g:XOk S Φ Ψ G X)(h:ko S Ra i π e=true)(R:Addr->Prop):VB X S.M R e (λa Q=>match look a i with|some w=>(match cD w π with|some u=>Q u|none=>False)|none=>False):=by
 obtain⟨j,k,d,c,f,b⟩:=vn g h;cases k<;>first|(cases f;done)|skip
 exact PN b d c
end
structure bK(Φ:Nat->aT)(Ψ:Nat->Md)(G:Nat->W)(c:CE):Prop where
 e:∀{S:SE}{X:Cx},XOk S Φ Ψ G X->∀ex,aE S false c ex=true->∀R,VE X S.M R (mo Ψ c) ex (wE Φ G R c)
 t:∀{S:SE}{X:Cx},XOk S Φ Ψ G X->∀ex,aE S false c ex=true->DG c=true->∀R,VT X S.M R ex (wE Φ G R c)
 i:∀{S:SE}{X:Cx},XOk S Φ Ψ G X->∀tg br ex,(aE S true c ex||(br&&gq S c ex))=true->(Ga c=true->∃elts kk tp,tg=Expr.Tuple elts kk tp)->∀R,PI X tg ex (Ie X S.M R br (wE Φ G R c))
structure nq(Φ:Nat->aT)(Ψ:Nat->Md)(G:Nat->W)(cs:List CE):Prop where
 a:∀{S:SE}{X:Cx},XOk S Φ Ψ G X->∀es,fj S cs es=true->∀R,VA X S.M R es (wA Φ G R cs)
 b:∀{S:SE}{X:Cx},XOk S Φ Ψ G X->∀es,n6 S cs es=true->∀R,Uq X S.M R es (wA Φ G R cs)
 av:∀{S:SE}{X:Cx},XOk S Φ Ψ G X->∀es pos,es≠[]->fj S cs es=true->∀R,VE X S.M R .s (.BoolOp .And es pos) (BE Φ G R cs)
 ov:∀{S:SE}{X:Cx},XOk S Φ Ψ G X->∀es pos,es≠[]->fj S cs es=true->∀R,VE X S.M R .s (.BoolOp .Or es pos) (T7 Φ G R cs)
 «at»:∀{S:SE}{X:Cx},XOk S Φ Ψ G X->∀es pos,es≠[]->fj S cs es=true->DG.F9 cs=true->∀R,MY X S.M R (.BoolOp .And es pos) (BE Φ G R cs)
 ot:∀{S:SE}{X:Cx},XOk S Φ Ψ G X->∀es pos,es≠[]->fj S cs es=true->DG.F9 cs=true->∀R,MY X S.M R (.BoolOp .Or es pos) (T7 Φ G R cs)
section
variable{Φ:Nat->aT}{Ψ:Nat->Md}{G:Nat->W}
private theorem cL(h:iU Ψ c=false):mo Ψ c=.s:=by unfold mo;rw[h];rfl
private theorem je(h:iU Ψ c=true):mo Ψ c=.f:=by unfold mo;rw[h];rfl
private theorem bK.s(h:bK Φ Ψ G c)(a:XOk S Φ Ψ G X)(k:aE S false c ex=true)(R:Addr->Prop):VE X S.M R .s ex (wE Φ G R c):=CD (h.e a ex k R)
private theorem bK.b(h:bK Φ Ψ G c)(a:XOk S Φ Ψ G X)(k:(aE S false c ex||gq S c ex)=true)(R:Addr->Prop):VB X S.M R ex (wE Φ G R c):=by
 rcases gv k with k|k
 .exact WG (h.e a ex k R)
 .cases c with
  |var i=>have k:(iS S i ex&&xo S.M i)=true:=k;rw[AC]at k;exact Fq (cC a k.1) (xq k.2)
  |own i d=>exact Nf a k R
  |_=>exact ff k
private theorem bK.mk1(he:∀{S:SE}{X:Cx},XOk S Φ Ψ G X->∀ex,aE S false c ex=true->∀R,VE X S.M R (mo Ψ c) ex (wE Φ G R c))
 (e:∀{S:SE}{ex:Expr}(env:Env),aE S false c ex=true->∀a,isTrue ex env a=(do let v<-a;standAt ex.pos;holding [v] (truthy v)))
 (f:∀(S:SE)(ex:Expr),aE S true c ex=true->aE S false c ex=true)(d:∀(S:SE)(ex:Expr),gq S c ex=false):bK Φ Ψ G c:=
 ⟨he,λb ex k _ R=>yV (e _ k) (CD (he b ex k R)),λ{S X} b g br ex k _ R=>by rw[d,RF,QR]at k;exact gP (l6 (he b ex (f _ _ k) R))⟩
private theorem Rf(i:Nat):bK Φ Ψ G (.var i):=by
 have d:∀{S:SE}{X:Cx},XOk S Φ Ψ G X->∀ex,aE S false (.var i) ex=true->∀R,VE X S.M R (mo Ψ (.var i)) ex (wE Φ G R (.var i)):=λ{S X} a ex k R=>by have k:=a2 k;have e:¬aL S.M i:=eG (by simpa using k.2);rw[cL rfl];exact PM (cC a k.1) e
 refine⟨d,λ{S X} a ex k _ R=>yV (λc=>?_) (CD (d a ex k R)),λ{S X} a f br ex k _ R=>?_⟩
 .have k:=a2 k;cases ex<;>first|rfl|(have:=k.1;exact ff this)
 .rcases gv k with k|k
  .exact gP (l6 (d a ex (by exact k) R))
  .rw[AC]at k;obtain⟨rfl,b⟩:=k;have b:(iS S i ex&&xo S.M i)=true:=b;rw[AC]at b;exact gP (WQ (Fq (cC a b.1) (xq b.2)))
private theorem Rg(i:Nat)(π:List j5):bK Φ Ψ G (.own i π):=by
 have d:∀R,wE Φ G R (.own i π)=λe Q=>match look e i with|some w=>(match cD w π with|some u=>Q u|none=>False)|none=>False:=λR=>rfl
 have c:∀{S:SE}{X:Cx},XOk S Φ Ψ G X->∀ex,aE S false (.own i π) ex=true->∀R,VE X S.M R (mo Ψ (.own i π)) ex (wE Φ G R (.own i π)):=λ{S X} a ex k R=>by rw[cL rfl,d];exact Xa a k R
 refine⟨c,λ{S X} a ex k _ R=>yV (λb=>?_) (CD (c a ex k R)),λ{S X} a g br ex k _ R=>?_⟩
 .obtain⟨_,_,_,rfl⟩:=(dj k).2;rfl
 .rcases gv k with k|k
  .exact gP (l6 (c a ex (by exact k) R))
  .rw[AC]at k;obtain⟨rfl,f⟩:=k;rw[d];exact gP (WQ (Nf a f R))
private theorem Rh(i:Int):bK Φ Ψ G (.int i):=by
 refine .mk1 (λ{S X} d ex k R=>?_) (λ{S ex} b k a=>?_) (λS ex k=>by exact k) (λ_ _=>rfl)
 .obtain⟨c,q,p,rfl,k⟩:=iT k;cases AN k;rw[cL rfl];exact CF uK λ_ _=>gO _
 .obtain⟨c,q,p,rfl,k⟩:=iT k;rfl
private theorem Xb(i:Bool):bK Φ Ψ G (.bl i):=by
 refine .mk1 (λ{S X} d ex k R=>?_) (λ{S ex} b k a=>?_) (λS ex k=>by exact k) (λ_ _=>rfl)
 .obtain⟨c,q,p,rfl,k⟩:=iT k;cases AN k;rw[cL rfl];exact CF Vi λ_ _=>pD _
 .obtain⟨c,q,p,rfl,k⟩:=iT k;rfl
private theorem Ri(i:Str):bK Φ Ψ G (.str i):=by
 refine .mk1 (λ{S X} d ex k R=>?_) (λ{S ex} b k a=>?_) (λS ex k=>by exact k) (λ_ _=>rfl)
 .obtain⟨c,q,p,rfl,k⟩:=iT k;cases AN k;rw[cL rfl];exact CF yo λ_ _=>oA _
 .obtain⟨c,q,p,rfl,k⟩:=iT k;rfl
private theorem Rj:bK Φ Ψ G .aN:=by
 refine .mk1 (λ{S X} d ex k R=>?_) (λ{S ex} b k a=>?_) (λS ex k=>by exact k) (λ_ _=>rfl)
 .obtain⟨c,q,p,rfl,k⟩:=iT k;cases AN k;rw[cL rfl];exact CF Oh λ_ _=>PC
 .obtain⟨c,q,p,rfl,k⟩:=iT k;rfl
private theorem KI(h:tys.contains n=true):bootBuiltins (Str.ofString n)=some (.type n):=by
 have:n∈tys:=by simpa using h
 unfold tys at this;simp only[Do,TC,or_false]at this;rcases this with rfl|rfl|rfl<;>rfl
private theorem Rk(n:String):bK Φ Ψ G (.Dz n):=by
 refine .mk1 (λ{S X} d ex k R=>?_) (λ{S ex} l k a=>?_) (λS ex k=>by exact k) (λ_ _=>rfl)
 .obtain⟨x,q,rfl,b⟩:=bz k
  replace k:=b
  obtain⟨⟨⟨c,g⟩,f⟩,e⟩:=a4 k;obtain⟨j,i,h⟩:=bE d g;have c:=AN c;subst c;rw[cL rfl];exact CF (v:=.ty n) (Aa j (d.xu _ (by simpa using f)) (KI e) rfl h i) λ_ _=>rTy _
 .obtain⟨x,q,rfl,b⟩:=bz k
  replace k:=b
  rfl
private theorem AQ(g:Nat):bK Φ Ψ G (.glob g):=by
 refine .mk1 (λ{S X} c ex k R=>?_) (λ{S ex} m k a=>?_) (λS ex k=>by exact k) (λ_ _=>rfl)
 .obtain⟨x,q,rfl,b⟩:=bz k
  replace k:=b
  obtain⟨e,d⟩:=a2 k;obtain⟨l,j,n⟩:=bE c d;obtain⟨u,v,i,h,f⟩:=c.DH g _ (GT.mp e);rw[cL rfl];exact CF (IA l i h j) f
 .obtain⟨x,q,rfl,b⟩:=bz k
  replace k:=b
  rfl
private theorem zk{K:Frag}(h:dw K B H H' .f w v):MX w=true:=by obtain⟨a,p,b,rfl,_⟩:=h.MM;rfl
private theorem Gf(k:gq S a l=true)(z:iU Ψ a=true):False:=by cases a<;>first|exact ff k|exact ff z
private theorem Rl(op:Operator)(J:bK Φ Ψ G a)(I:bK Φ Ψ G b):bK Φ Ψ G (.bin op a b):=by
 refine .mk1 (λ{S X} n ex k R=>?_) (λ{S ex} P k s=>?_) (λS ex k=>by exact k) (λ_ _=>rfl)
 .obtain⟨l,o,r,t,rfl,u⟩:=ni k
  replace k:=u
  obtain⟨⟨A,i⟩,g⟩:=a3 k;have A:=AN A;subst A;show VE X S.M R _ _ λF Q=>wE Φ G R a F λx=>wE Φ G R b F λy=>gM op x y Q;have E:∀B H m w v,Dom B H->ρB X.K B H m w v->bC X.K B m w v:=λ_ _ _ _ _ _ h=>h;have D:∀B H m w v,Dom B H->MW X.K .f B H m w v->bC X.K B m w v:=λ_ _ _ _ _ d h=>(dw.rep d h).b;have p:=J.b n i R;have j:=I.b n g R;have L:iU Ψ a=true->VE X S.M R .f l (wE Φ G R a):=λz=>by
   rcases gv i with i|i
   .have:=J.e n l i R;rw[je z]at this;exact this
   .exact(Gf i z).elim
  have O:iU Ψ b=true->VE X S.M R .f r (wE Φ G R b):=λz=>by
   rcases gv g with g|g
   .have:=I.e n r g R;rw[je z]at this;exact this
   .exact(Gf g z).elim
  cases op with
  |Add=>
   by_cases c:iU Ψ a=true
   .rw[je (show iU Ψ (.bin .Add a b)=true by show(iU Ψ a||iU Ψ b)=true;rw[c];rfl)];exact yU (L c) j D E λ_ _ _ _ _ _ _ _ _ _ C _=>.inl ⟨rfl,.inl (zk C)⟩
   .by_cases q:iU Ψ b=true
    .rw[je (show iU Ψ (.bin .Add a b)=true by show(iU Ψ a||iU Ψ b)=true;rw[q,Bool.or_true])];exact yU p (O q) E D λ_ _ _ _ _ _ _ _ _ _ _ N=>.inl ⟨rfl,.inr (zk N)⟩
    .rw[cL (show iU Ψ (.bin .Add a b)=false by show(iU Ψ a||iU Ψ b)=false;rw[Sr _|>.mp c,Sr _|>.mp q];rfl)];exact Fv p j λ_ _=>.inr rfl
  |Mult=>
   by_cases c:iU Ψ a=true
   .rw[je (show iU Ψ (.bin .Mult a b)=true from c)];exact yU (L c) j D E λ_ _ _ _ _ _ _ _ _ _ C _=>.inr ⟨rfl,zk C⟩
   .rw[cL (show iU Ψ (.bin .Mult a b)=false from Sr _|>.mp c)];exact Fv p j λ_ _=>.inr rfl
  |_=>rw[cL rfl];exact Fv p j λ_ _=>.inr rfl
 .obtain⟨l,o,r,t,rfl,u⟩:=ni k
  replace k:=u
  rfl
private theorem Rm(e:bK Φ Ψ G a):bK Φ Ψ G (.neg a):=by
 refine .mk1 (λ{S X} f ex k R=>?_) (λ{S ex} g k b=>?_) (λS ex k=>by exact k) (λ_ _=>rfl)
 .obtain⟨o,x,c,rfl,d⟩:=l8 k
  replace k:=d
  rw[AC]at k;cases AN k.1;rw[cL rfl];exact PV (e.s f k.2 R)
 .obtain⟨o,x,c,rfl,d⟩:=l8 k
  replace k:=d
  rw[AC]at k;cases AN k.1;rfl
private theorem Rn(h:bK Φ Ψ G a):bK Φ Ψ G (.not a):=by
 have e:∀R,wE Φ G R (.not a)=λi Q=>wE Φ G R a i λx=>truth x λb=>Q (.bl (!b)):=λR=>rfl;have g:∀{S:SE}{X:Cx},XOk S Φ Ψ G X->∀ex,aE S false (.not a) ex=true->∀R,VE X S.M R (mo Ψ (.not a)) ex (wE Φ G R (.not a)):=λ{S X} c ex k R=>by
  obtain⟨o,x,d,rfl,f⟩:=l8 k
  replace k:=f
  rw[AC]at k;cases AN k.1;rw[cL rfl,e];exact PY (h.s c k.2 R)
 refine⟨g,λ{S X} c ex k j R=>?_,λ{S X} c m br ex k _ R=>?_⟩
 .obtain⟨o,x,d,rfl,f⟩:=l8 k
  replace k:=f
  rw[AC]at k;cases AN k.1;rw[e];exact P8 (h.t c _ k.2 (by exact j) R)
 .have l:gq S (.not a) ex=false:=rfl;rw[l,RF,QR]at k;exact gP (l6 (g c ex (by exact k) R))
private theorem Ro(op:CmpOp)(n:bK Φ Ψ G a)(m:bK Φ Ψ G b):bK Φ Ψ G (.cmp op a b):=by
 have e:∀R,wE Φ G R (.cmp op a b)=λg Q=>wE Φ G R a g λx=>wE Φ G R b g λy=>e9 op x y Q:=λR=>rfl;have f:∀{S:SE}{X:Cx},XOk S Φ Ψ G X->∀ex,aE S false (.cmp op a b) ex=true->∀R,VE X S.M R .s ex (wE Φ G R (.cmp op a b))/\VT X S.M R ex (wE Φ G R (.cmp op a b)):=λ{S X} c ex k R=>by
  obtain⟨l,o,r,p,rfl,q⟩:=nj k
  replace k:=q
  simp only[AC,X2]at k;obtain⟨⟨⟨d,t⟩,i⟩,h⟩:=k;have d:=AN d;subst d;have j:behindInMarks op r=false:=by cases r<;>first|rfl|exact ff t
  rw[e];exact⟨PZ c.un j (n.b c i R) (m.b c h R),P4 c.un j (n.b c i R) (m.b c h R)⟩
 refine⟨λc ex k R=>by rw[cL rfl];exact(f c ex k R).1,λc ex k _ R=>(f c ex k R).2,λ{S X} c v br ex k _ R=>?_⟩;have u:gq S (.cmp op a b) ex=false:=rfl;rw[u,RF,QR]at k;exact gP (l6 (f c ex (by exact k) R).1)
private theorem jT{es:List Expr}(h:(!es.isEmpty)=true):es≠[]:=by rintro rfl;cases h
private theorem Rp(g:nq Φ Ψ G b):bK Φ Ψ G (.and b):=by
 have e:∀R,wE Φ G R (.and b)=BE Φ G R b:=λR=>rfl;have f:∀{S:SE}{X:Cx},XOk S Φ Ψ G X->∀ex,aE S false (.and b) ex=true->∀R,VE X S.M R .s ex (wE Φ G R (.and b)):=λ{S X} a ex k R=>by
  obtain⟨o,j,c,rfl,d⟩:=jS k
  replace k:=d
  rw[AC,AC]at k;cases AN k.1.1;rw[e];exact g.av a _ _ (jT k.1.2) k.2 R
 refine⟨λa ex k R=>by rw[cL rfl];exact f a ex k R,λ{S X} a ex k h R=>?_,λ{S X} a l br ex k _ R=>?_⟩
 .obtain⟨o,j,c,rfl,d⟩:=jS k
  replace k:=d
  rw[AC,AC]at k;cases AN k.1.1;rw[e];exact(g.at a _ _ (jT k.1.2) k.2 (by exact h) R).pt
 .have i:gq S (.and b) ex=false:=rfl;rw[i,RF,QR]at k;exact gP (l6 (f a ex (by exact k) R))
private theorem Xd(g:nq Φ Ψ G b):bK Φ Ψ G (.or b):=by
 have e:∀R,wE Φ G R (.or b)=T7 Φ G R b:=λR=>rfl;have f:∀{S:SE}{X:Cx},XOk S Φ Ψ G X->∀ex,aE S false (.or b) ex=true->∀R,VE X S.M R .s ex (wE Φ G R (.or b)):=λ{S X} a ex k R=>by
  obtain⟨o,j,c,rfl,d⟩:=jS k
  replace k:=d
  rw[AC,AC]at k;cases AN k.1.1;rw[e];exact g.ov a _ _ (jT k.1.2) k.2 R
 refine⟨λa ex k R=>by rw[cL rfl];exact f a ex k R,λ{S X} a ex k h R=>?_,λ{S X} a l br ex k _ R=>?_⟩
 .obtain⟨o,j,c,rfl,d⟩:=jS k
  replace k:=d
  rw[AC,AC]at k;cases AN k.1.1;rw[e];exact(g.ot a _ _ (jT k.1.2) k.2 (by exact h) R).pt
 .have i:gq S (.or b) ex=false:=rfl;rw[i,RF,QR]at k;exact gP (l6 (f a ex (by exact k) R))
private theorem Ng(h:VE X M R m e t)(a:mo Ψ c=m\/mo Ψ c=.s):VE X M R (mo Ψ c) e t:=by
 rcases a with z|z
 .rw[z];exact h
 .rw[z];exact CD h
private theorem Rq(o:bK Φ Ψ G c)(r:bK Φ Ψ G a)(q:bK Φ Ψ G b):bK Φ Ψ G (.ite c a b):=by
 have e:∀R,wE Φ G R (.ite c a b)=λh Q=>wE Φ G R c h λx=>truth x λk=>if k=true then wE Φ G R a h Q else wE Φ G R b h Q:=λR=>rfl
 have n:∀{S:SE}{X:Cx},XOk S Φ Ψ G X->∀ex,aE S false (.ite c a b) ex=true->∀R,VE X S.M R (mo Ψ (.ite c a b)) ex (wE Φ G R (.ite c a b)):=λ{S X} d ex k R=>by
  obtain⟨t,x,y,p,rfl,v⟩:=KG k;obtain⟨⟨⟨m,l⟩,j⟩,i⟩:=a4 v;rw[e];by_cases z:iU Ψ a=true/\iU Ψ b=true
  .rw[je (show iU Ψ (.ite c a b)=true by show(iU Ψ a&&iU Ψ b)=true;rw[z.1,z.2];rfl)];have g:=r.e d x j R;have f:=q.e d y i R;rw[je z.1]at g;rw[je z.2]at f;exact Fw (o.t d t m l R) g f
  .rw[cL (show iU Ψ (.ite c a b)=false by
    show(iU Ψ a&&iU Ψ b)=false;cases g:iU Ψ a
    .rfl
    .cases f:iU Ψ b
     .rfl
     .exact absurd ⟨g,f⟩ z)]
   exact Fw (o.t d t m l R) (r.s d j R) (q.s d i R)
 refine⟨n,(λd ex k u R=>by exact ff u),λ{S X} d A br ex k _ R=>?_⟩;have w:gq S (.ite c a b) ex=false:=rfl;rw[w,RF,QR]at k;exact gP (l6 (n d ex (by exact k) R))
private theorem Rr(f:nq Φ Ψ G e):bK Φ Ψ G (.tup e):=by
 refine .mk1 (λ{S X} g ex k R=>?_) (λ{S ex} h k b=>?_) (λS ex k=>by exact k) (λ_ _=>rfl)
 .obtain⟨d,q,p,rfl,c⟩:=fJ k;rw[cL rfl];exact Qc (f.a g d c R)
 .obtain⟨d,q,p,rfl,c⟩:=fJ k;rfl
private theorem Rt(f:nq Φ Ψ G e):bK Φ Ψ G (.lst e):=by
 refine .mk1 (λ{S X} g ex k R=>?_) (λ{S ex} h k b=>?_) (λS ex k=>by exact k) (λ_ _=>rfl)
 .obtain⟨d,p,rfl,c⟩:=qN k;rw[je rfl];exact Qa (f.a g d c R)
 .obtain⟨d,p,rfl,c⟩:=qN k;rfl
private theorem Xe(g:bK Φ Ψ G a)(f:bK Φ Ψ G i):bK Φ Ψ G (.ix a i):=by
 refine .mk1 (λ{S X} e ex k R=>?_) (λ{S ex} h k d=>?_) (λS ex k=>by exact k) (λ_ _=>rfl)
 .obtain⟨v,s,p,rfl,c⟩:=gZ k;simp only[AC]at c;rw[cL rfl];exact WJ (by have:=e.un;lia) (KH c.1.1) (g.b e c.1.2 R) (f.s e c.2 R)
 .obtain⟨v,s,p,rfl,c⟩:=gZ k;rfl
private theorem AR(d:bK Φ Ψ G a)(f:XOk S Φ Ψ G X)(k:Gb (i9 a) (λx=>aE S false a x) l=true)(R:Addr->Prop):PO X l (Qd X S.M R λb Q=>wE Φ G R a b λy=>DC a y Q):=by
 cases l with
 |none=>
  have z:i9 a=true:=k;cases a with
  |aN=>exact JV
  |_=>exact ff z
 |some x=>
  have k:(!i9 a&&aE S false a x)=true:=k;rw[AC]at k;have e:(λ(b:Ev)(Q:Option Int->Prop)=>wE Φ G R a b λy=>DC a y Q)=λb Q=>wE Φ G R a b λy=>match y with|.int i=>Q (some i)|_=>False:=by
   have c:i9 a=false:=by simpa using k.1
   unfold DC;rw[c];funext b Q;congr 1;funext y;cases y<;>rfl
  rw[e];exact JW (d.s f k.2 R)
private theorem Xf(j:bK Φ Ψ G a)(h:bK Φ Ψ G f)(i:bK Φ Ψ G g):bK Φ Ψ G (.sl a f g):=by
 refine .mk1 (λ{S X} e ex k R=>?_) (λ{S ex} m k d=>?_) (λS ex k=>by exact k) (λ_ _=>rfl)
 .obtain⟨v,l,r,q,p,rfl,c⟩:=pH k;simp only[AC]at c;rw[je rfl];exact WK (j.b e c.1.1 R) (AR h e c.1.2 R) (AR i e c.2 R)
 .obtain⟨v,l,r,q,p,rfl,c⟩:=pH k;rfl
private theorem KJ(f:Nat)(C:nq Φ Ψ G l):bK Φ Ψ G (.call f l):=by
 refine .mk1 (λ{S X} b ex k R=>?_) (λ{S ex} I k c=>?_) (λS ex k=>by exact k) (λ_ _=>rfl)
 .obtain⟨x,q,j,p,rfl,m⟩:=aJ k;obtain⟨⟨⟨⟨⟨v,u⟩,t⟩,g⟩,s⟩,o⟩:=a6 m;obtain⟨E,D,J⟩:=bE b u;obtain⟨H,n,r,B,F,y,A⟩:=b.fns f x (GT.mp v) (by simpa using s);have F:bW X.prog X.w X.K X.mg X.base r H n (yW X.K n (Ψ f) (Φ f)):=by rw[<-b.CN]at g;cases i:Ψ f<;>rw[i]at g F<;>first|exact F|exact ff g
  have d:=fu o;cases j with
  |nil=>exact ff t
  |cons e j=>
   rw[Ai,AC]at d;have h:=AA (M:=S.M) (R:=R) (p:=q) (pos:=p) F y E B A (C.a b _ o R) D (aA d.1 _ _) (aY d.2 _ _);refine Ng h ?_;by_cases z:iU Ψ (.call f l)=true
   .rw[je z];left;have z:(match Ψ f with|.f=>true|_=>false)=true:=z;cases i:Ψ f<;>rw[i]at z<;>first|rfl|exact ff z
   .exact .inr (cL (by simpa using z))
 .obtain⟨x,q,j,p,rfl,m⟩:=aJ k;rfl
private theorem xx(c:X.calm=true):∀b:BI,b≠.Cz->(∃a,bootBuiltins (Yx b)=some (.builtin a)/\cj X (.builtin a) (Qe X.K b))\/(∃a,bootBuiltins (Yx b)=some (.type a)/\cj X (.type a) (Qe X.K b))
 |.len,_=>.inl ⟨"len",rfl,cw_len.r⟩
 |.abs,_=>.inl ⟨"abs",rfl,cw_abs.r⟩
 |.max2,_=>.inl ⟨"max",rfl,(cw_max c).r⟩
 |.all,_=>.inl ⟨"all",rfl,(cw_all c).r⟩
 |.list,_=>.inr ⟨"list",rfl,cw_list.r⟩
 |.int,_=>.inr ⟨"int",rfl,cw_int.r⟩
 |.str,_=>.inr ⟨"str",rfl,cw_str.r⟩
 |.dict,_=>.inr ⟨"dict",rfl,cw_dict.r⟩
 |.Cz,h=>absurd rfl h
private theorem fz(k:fj S (a::b) es=true):∃e r,es=e::r/\aE S false a e=true/\fj S b r=true:=by
 cases es with
 |nil=>exact ff k
 |cons e r=>exact⟨e,r,rfl,a2 k⟩
private theorem qS(k:fj S [] es=true):es=[]:=Fm.mp k
private theorem zl(k:n6 S (a::b) es=true):∃e r,es=e::r/\(aE S false a e||gq S a e)=true/\n6 S b r=true:=by
 cases es with
 |nil=>exact ff k
 |cons e r=>exact⟨e,r,rfl,a2 k⟩
private theorem CO(k:n6 S [] es=true):es=[]:=Fm.mp k
private theorem Ru(b:BI)(H:nq Φ Ψ G i)(g:∀c∈i,bK Φ Ψ G c):bK Φ Ψ G (.blt b i):=by
 refine .mk1 (λ{S X} h ex k R=>?_) (λ{S ex} Y k s=>?_) (λS ex k=>by exact k) (λ_ _=>rfl)
 .obtain⟨x,q,B,p,rfl,j⟩:=aJ k;simp only[AC]at j;obtain⟨⟨⟨⟨⟨l,O⟩,N⟩,L⟩,D⟩,o⟩:=j;have l:=AN l;obtain⟨A,w,v⟩:=bE h O;have hz:=h.xu x (by simpa using N);have f:=qR o;cases B with
  |nil=>cases b<;>exact ff L
  |cons e B=>
   rw[Ai,AC]at f;by_cases F:b=.Cz
   .subst F;rw[cL rfl];rcases i with _|⟨a,_|⟨c,_|⟨d,i⟩⟩⟩<;>try exact ff D
    obtain⟨n,E⟩:=Os.mp D;have Z:c=.Dz n:=isTI E
    subst Z;obtain⟨K,J⟩:=a2 o;obtain⟨e2,r,rfl,C,KL⟩:=zl J;cases CO KL;have st2:=f.2;rw[Ai,AC]at st2;have I:aE S false (.Dz n) e2=true:=by
     rcases gv C with z|z
     .exact z
     .exact ff z
    have t:n∈["int","bool","tuple"]:=by obtain⟨y,q2,rfl,j⟩:=bz I;have:=(a2 j).2;unfold tys at this;exact Y1.mp this
    have U:=(g a Ap).b h K R;have T:=(g (.Dz n) (AS _ Ap)).b h C R;have m:bootBuiltins x=some (.builtin "isinstance"):=by rw[l];rfl
    exact Qh (M:=S.M) (R:=R) (p:=q) (pos:=p) h.kit t A hz m U T v w (aA f.1 _ _) (aA st2.1 _ _) (aY f.2 _ _)
   .have Q:mo Ψ (.blt b i)=WL b:=by
     cases b<;>first|rfl|exact cL rfl|exact je rfl
    rw[Q];rcases xx h.calm b F with⟨P,m,u⟩|⟨P,m,u⟩
    .exact Qf u A hz (by rw[l];exact m) (H.b h _ o R) v w (aA f.1 _ _) (aY f.2 _ _)
    .exact Qg u A hz (by rw[l];exact m) (H.b h _ o R) v w (aA f.1 _ _) (aY f.2 _ _)
 .obtain⟨x,q,B,p,rfl,j⟩:=aJ k;rfl
private theorem KN(h:bK Φ Ψ G a):bK Φ Ψ G (.bits a):=by
 refine .mk1 (λ{S X} i ex k R=>?_) (λ{S ex} j k b=>?_) (λS ex k=>by exact k) (λ_ _=>rfl)
 .obtain⟨o,m,n,l,rfl,d⟩:=kM k;obtain⟨⟨⟨c,g⟩,e⟩,f⟩:=a4 d;have c:=AN c;subst c;rw[cL rfl];exact JX (h.s i f R) (ia e _ _ _) g
 .obtain⟨o,m,n,l,rfl,d⟩:=kM k;rfl
private theorem mh{S:SE}:∀x∈(S.lend a).M,x∈S.M:=λx b=>(P2.mp b).1
private theorem Rv(i g f:Nat)(c:List CE):bK Φ Ψ G (.lD i g f c):=.mk1 (λd ex k R=>by cases k) (λb k a=>by cases k) (λS ex k=>by cases k) (λ_ _=>rfl)
private theorem Rw(i:Nat):bK Φ Ψ G (.pop i):=.mk1 (λc ex k R=>by cases k) (λb k a=>by cases k) (λS ex k=>by cases k) (λ_ _=>rfl)
private theorem Rx(h:∀c∈o,bK Φ Ψ G c):bK Φ Ψ G (.pT o):=by
 refine⟨λ{S X} i ex k R=>?_,λ{S X} i ex k _ R=>?_,λ{S X} i tg br ex k _ R=>?_⟩
 .obtain⟨x,q,A,p,rfl,l⟩:=aJ k;simp at l
 .obtain⟨x,q,A,p,rfl,l⟩:=aJ k;simp at l
 .have E:gq S (.pT o) ex=false:=rfl;rw[E,RF,QR]at k;obtain⟨x,q,A,p,rfl,l⟩:=aJ k;obtain⟨⟨⟨⟨⟨_,w⟩,D⟩,C⟩,z⟩,u⟩:=a6 l;have w:=AN w;subst w;obtain⟨y,H,F⟩:=bE i D;have hz:=i.xu _ (by simpa using C);rcases o with _|⟨a,_|⟨b,_|⟨c,_|⟨d,o⟩⟩⟩⟩
  .simp at z
  .obtain⟨e,r,rfl,j,n⟩:=fz u;cases qS n;exact JZ (M:=S.M) (R:=R) (br:=br) (tg:=tg) (p:=q) (pos:=p) y hz ((h a Ap).s i j R) (aA (aP (.inl j)) _ _)
  .obtain⟨e,r,rfl,j,n⟩:=fz u;obtain⟨f,r,rfl,m,t⟩:=fz n;cases qS t;exact J0 (M:=S.M) (R:=R) (br:=br) (tg:=tg) (p:=q) (pos:=p) y hz ((h a (by simp)).s i j R) ((h b (by simp)).s i m R) (aA (aP (.inl j)) _ _) (aA (aP (.inl m)) _ _)
  .obtain⟨e,r,rfl,j,n⟩:=fz u;obtain⟨f,r,rfl,m,t⟩:=fz n;obtain⟨g,r,rfl,B,v⟩:=fz t;cases qS v;exact J1 (M:=S.M) (R:=R) (br:=br) (tg:=tg) (p:=q) (pos:=p) y hz ((h a (by simp)).s i j R) ((h b (by simp)).s i m R) ((h c (by simp)).s i B R) (aA (aP (.inl j)) _ _) (aA (aP (.inl m)) _ _) (aA (aP (.inl B)) _ _)
  .simp at z
private theorem xy(h:Gd f es=true):∃e,es=[e]/\f e=true:=cz h
private theorem Ry(n:bK Φ Ψ G a):bK Φ Ψ G (.yf a):=by
 refine⟨λ{S X} c ex k R=>?_,λ{S X} c ex k _ R=>?_,λ{S X} c s br ex k m R=>?_⟩
 .obtain⟨x,q,g,p,rfl,b⟩:=aJ k;simp at b
 .obtain⟨x,q,g,p,rfl,b⟩:=aJ k;simp at b
 .have l:gq S (.yf a) ex=false:=rfl;rw[l,RF,QR]at k;obtain⟨x,q,g,p,rfl,b⟩:=aJ k;obtain⟨⟨⟨⟨_,f⟩,j⟩,i⟩,d⟩:=a5 b;have f:=AN f;subst f;obtain⟨e,rfl,d⟩:=xy d;obtain⟨o,u,t⟩:=bE c j;obtain⟨h,b,r,rfl⟩:=m rfl;exact Qj o (c.xu _ (by simpa using i)) (l6 (n.e c e d R)) (aA (aP (.inl d)) _ _)
private theorem hu1{X:Cx}(h:X.A.units+64<cLine):X.A.units+1<cLine:=by lia
private theorem RA(j:bK Φ Ψ G a)(h:bK Φ Ψ G f)(i:bK Φ Ψ G g):bK Φ Ψ G (.slt a f g):=by
 refine .mk1 (λ{S X} e ex k R=>?_) (λ{S ex} m k d=>?_) (λS ex k=>by exact k) (λ_ _=>rfl)
 .obtain⟨v,l,r,q,p,rfl,c⟩:=pH k;simp only[AC]at c;rw[cL rfl];exact QL (j.b e c.1.1 R) (AR h e c.1.2 R) (AR i e c.2 R)
 .obtain⟨v,l,r,q,p,rfl,c⟩:=pH k;rfl
private theorem RB(r:bK Φ Ψ G a)(q:bK Φ Ψ G b)(p:bK Φ Ψ G c):bK Φ Ψ G (.Ug a b c):=by
 refine .mk1 (λ{S X} f ex k R=>?_) (λ{S ex} t k d=>?_) (λS ex k=>by exact k) (λ_ _=>rfl)
 .obtain⟨o,m,v,u,x,y,rfl,g⟩:=qO k;obtain⟨⟨⟨⟨⟨e,n⟩,l⟩,j⟩,i⟩,h⟩:=a6 g;have e:=AN e;subst e;rw[cL rfl];exact QM (r.s f j R) (q.s f i R) (p.s f h R) (ia l _ _ _) n (aA (aP (.inl i)) _ _) (aA (aP (.inl h)) _ _)
 .obtain⟨o,m,v,u,x,y,rfl,g⟩:=qO k;rfl
private theorem RC(n:Nat)(x:Str)(h:bK Φ Ψ G a):bK Φ Ψ G (.MO a n x):=by
 refine .mk1 (λ{S X} i ex k R=>?_) (λ{S ex} j k b=>?_) (λS ex k=>by exact k) (λ_ _=>rfl)
 .obtain⟨o,f,p,rfl,d⟩:=cG k;obtain⟨⟨c,g⟩,e⟩:=a3 d;have c:=AN c;subst c;rw[cL rfl];exact QN (h.s i e R) (ia g _ _ _)
 .obtain⟨o,f,p,rfl,d⟩:=cG k;rfl
private theorem jU(e:attributeBase o x env (eval o env)=eval o env)(b:(backTo pos (starEach es env)).any (·.1)=false)(d:es.length<30)(a:(apos.endLine==pos.line)=true):
 eval (.Call (.Attribute o x apos) es [] pos) env=(do
  let ov<-eval o env
  standAt apos.atName
  let(f,first)<-holding [ov] (getMethod ov x (do return (<-importBound o env).getD true))
  callWith pos f first (backTo pos (starEach es env)) (backToKw pos (keywordEach [] env))):=by
 have h:methodCallForm (es.length+([]:List Keyword).length) (backTo pos (starEach es env)) (backToKw pos (keywordEach [] env))=true:=by
  unfold methodCallForm;have g:(backTo pos (starEach es env)).all (λx=>!x.1)=true:=by rw[HI];intro z hz;rw[eQ]at b;simpa using b z hz
  rw[g];show(true&&true&&decide (es.length+0+0<30))=true;simpa using d
 have c:methodCallPos true o env apos pos=pure pos:=by unfold methodCallPos;simp[a]
 rw[arm_eval_Call,e];unfold methodCall;rw[h,c];rfl
private theorem zm{c:List (Nat×Nat)}(h:c.any (λy=>y.1==f&&y.2==g)=true):(f,g)∈c:=by obtain⟨⟨a,b⟩,d,e⟩:=Wf.mp h;rw[AC]at e;cases GT.mp e.1;cases GT.mp e.2;exact d
private theorem Nh(k2:(Nc o||Nb o)=true):attributeBase o x env (eval o env)=eval o env:=by
 cases o with
 |Name y b=>rfl
 |Call c a d p=>
  cases a with
  |nil=>exact ff k2
  |cons _ _=>cases c<;>rfl
 |_=>exact ff k2
private theorem Ni(d:XOk S Φ Ψ G X)(k5:(!dG (eY S.md f))=true)(F:bL X.prog X.w X.K X.mg X.base (eu X.prog X.w) k b a ps (nY X.K n (Ψ f) (Φ f))):bL X.prog X.w X.K X.mg X.base (eu X.prog X.w) k b a ps (yW X.K n (Ψ f) (Φ f)):=by rw[<-d.CN]at k5;cases c:Ψ f<;>rw[c]at k5 F<;>first|exact F|exact ff k5
private theorem Xh(c:XOk S Φ Ψ G X)(k5:(!dG (eY S.md f))=true)(F:bW X.prog X.w X.K X.mg X.base k a n (nY X.K n (Ψ f) (Φ f))):bW X.prog X.w X.K X.mg X.base k a n (yW X.K n (Ψ f) (Φ f)):=by rw[<-c.CN]at k5;cases b:Ψ f<;>rw[b]at k5 F<;>first|exact F|exact ff k5
private theorem RD(g f:Nat)(K:bK Φ Ψ G a)(D:nq Φ Ψ G l):bK Φ Ψ G (.yR g f a l):=by
 refine .mk1 (λ{S X} c ex k R=>?_) (λ{S ex} N k d=>?_) (λS ex k=>by exact k) (λ_ _=>rfl)
 .obtain⟨o,x,r,q,j,rfl,m⟩:=d8 k;obtain⟨⟨⟨⟨⟨⟨⟨⟨C,B⟩,A⟩,y⟩,w⟩,v⟩,u⟩,t⟩,p⟩:=a9 m;obtain⟨T,Q,O,n,P,L,J,F,E,I⟩:=c.Ge f g x (GT.mp A) (zm y);have b:=fu p;cases j with
  |nil=>exact ff v
  |cons e j=>
   have i:=b;rw[Ai,AC]at b;have h:=Q4 (G:=G g) (M:=S.M) (R:=R) (pos:=q) (apos:=r) L (Ni c w F) E J I (K.s c t R) (D.a c _ p R) (aA b.1 _ _) (aY b.2 _ _) (jU (Nh B) (aY i _ _) (AN u) C);refine Ng h ?_;by_cases z:iU Ψ (.yR g f a l)=true
   .rw[je z];left;have z:(match Ψ f with|.f=>true|_=>false)=true:=z;cases H:Ψ f<;>rw[H]at z<;>first|rfl|exact ff z
   .exact .inr (cL (by simpa using z))
 .obtain⟨o,x,r,q,j,rfl,m⟩:=d8 k;rfl
private theorem RE(g:Nat)(m:bK Φ Ψ G a):bK Φ Ψ G (.CA a g):=by
 refine .mk1 (λ{S X} c ex k R=>?_) (λ{S ex} w k d=>?_) (λS ex k=>by exact k) (λ_ _=>rfl)
 .obtain⟨x,q,t,p,rfl,f⟩:=aJ k;obtain⟨⟨⟨l,j⟩,i⟩,b⟩:=a4 f;obtain⟨u,v,rfl,b⟩:=zh b;have b:=a2 b;obtain⟨y,q,rfl,z⟩:=bz b.2;cases AN l;obtain⟨r,o,n⟩:=bE c j;rw[cL rfl];have h:=aP (.inl b.1);exact Q2 (m.s c b.1 R) (CD ((AQ g).e c _ b.2 R)) r (c.xu _ (by simpa using i)) rfl n o (aA h _ _) rfl rfl
 .obtain⟨x,q,t,p,rfl,f⟩:=aJ k;rfl
private theorem RG(l:bK Φ Ψ G a):bK Φ Ψ G (.Ul a):=by
 refine .mk1 (λ{S X} d ex k R=>?_) (λ{S ex} A k e=>?_) (λS ex k=>by exact k) (λ_ _=>rfl)
 .obtain⟨x,q,z,p,rfl,f⟩:=aJ k;obtain⟨⟨⟨j,i⟩,h⟩,b⟩:=a4 f;obtain⟨u,v,rfl,b⟩:=zh b;have b:=a2 b;obtain⟨y,q,rfl,c⟩:=bz b.2;have c:=a3 c;cases AN j;cases AN c.1.1;obtain⟨w,t,r⟩:=bE d i;obtain⟨o,n,m⟩:=bE d c.1.2;rw[cL rfl];have g:=aP (.inl b.1);exact Q3 (l.s d b.1 R) (Aa o (d.xu _ (by simpa using c.2)) rfl rfl m n) w (d.xu _ (by simpa using h)) rfl r t (aA g _ _) rfl rfl
 .obtain⟨x,q,z,p,rfl,f⟩:=aJ k;rfl
private theorem KO(b:XOk S Φ Ψ G X)(f:Nat)(t:nq Φ Ψ G d)(k:aE S false (.call f d) ex=true):VX X S.M ex (λR i Q=>wA Φ G (λ_=>False) d i λws=>Φ f ws Q R):=by
 obtain⟨x,q,h,p,rfl,j⟩:=aJ k;obtain⟨⟨⟨⟨⟨s,r⟩,o⟩,m⟩,l⟩,g⟩:=a6 j;obtain⟨z,y,B⟩:=bE b r;obtain⟨C,n,A,w,F,u,v⟩:=b.fns f x (GT.mp s) (by simpa using l);have c:=fu g;cases h with
 |nil=>exact ff o
 |cons e h=>rw[Ai,AC]at c;exact Ky (Xh b m F) u z w v (t.a b.Mx _ g _) y (aA c.1 _ _) (aY c.2 _ _)
private theorem RH(c:XOk S Φ Ψ G X)(g f:Nat)(E:bK Φ Ψ G a)(A:nq Φ Ψ G h)(k:aE S false (.yR g f a h) ex=true):VX X S.M ex (λR i Q=>wE Φ G (λ_=>False) a i λx=>MT x (G g) λy=>wA Φ G (λ_=>False) h i λws=>Φ f (y::ws) Q R):=by
 obtain⟨o,x,O,N,l,rfl,m⟩:=d8 k;obtain⟨⟨⟨⟨⟨⟨⟨⟨z,w⟩,v⟩,u⟩,t⟩,r⟩,q⟩,p⟩,j⟩:=a9 m;obtain⟨L,K,I,n,J,H,D,F,B,C⟩:=c.Ge f g x (GT.mp v) (zm u);have b:=fu j;cases l with
 |nil=>exact ff r
 |cons e l=>have d:=b;rw[Ai,AC]at b;exact Q5 H (Ni c t F) B D C (E.s c.Mx p _) (A.a c.Mx _ j _) (aA b.1 _ _) (aY b.2 _ _) (jU (Nh w) (aY d _ _) (AN q) z)
private theorem RI(r:bK Φ Ψ G a)(q:bK Φ Ψ G b):bK Φ Ψ G (.Uh a b):=by
 refine .mk1 (λ{S X} f ex k R=>?_) (λ{S ex} env k d=>?_) (λS ex k=>by exact k) (λ_ _=>rfl)
 .obtain⟨o,m,v,i,t,rfl,h⟩:=d8 k;obtain⟨⟨⟨⟨e,p⟩,n⟩,l⟩,c⟩:=a5 h;have e:=AN e;subst e;obtain⟨u,rfl,c⟩:=xy c;rw[cL rfl];have j:=aA (aP (.inl c)) [] X.env;have g:backTo i (starEach [u] X.env)=[(false,eval u X.env)]:=by rw[j];rfl
  exact Q7 (hu1 f.un) (r.s f l R) (q.s f c R) ⟨ia n _ _ _,by rw[g];rfl,p,g⟩
 .obtain⟨o,m,v,i,t,rfl,h⟩:=d8 k;rfl
private theorem RJ(x:Str)(g:bK Φ Ψ G a):bK Φ Ψ G (.Ui x a):=by
 refine .mk1 (λ{S X} h ex k R=>?_) (λ{S ex} i k b=>?_) (λS ex k=>by exact k) (λ_ _=>rfl)
 .obtain⟨u,v,p,rfl,e⟩:=uy k;obtain⟨d,f⟩:=a2 e;obtain⟨c,j,q,rfl,d⟩:=iT d;cases AN d;rw[cL rfl];exact Q8 (g.s h f R)
 .obtain⟨u,v,p,rfl,e⟩:=uy k;rfl
private theorem RK(i:Nat):bK Φ Ψ G (.Uj i):=by
 refine .mk1 (λ{S X} b ex k R=>?_) (λ{S ex} l k c=>?_) (λS ex k=>by exact k) (λ_ _=>rfl)
 .obtain⟨x,q,j,p,rfl,e⟩:=aJ k;obtain⟨⟨⟨d,g⟩,f⟩,a⟩:=a4 e;have d:=AN d;subst d;obtain⟨v,rfl,a⟩:=cz a;have a:(y9 S.M i&&iS S i v)=true:=a;rw[AC]at a;rw[je rfl];obtain⟨h,_,_⟩:=bE b g;exact QS b.calm (pG a.1) (cC b a.2) h (b.xu _ (by simpa using f)) (by obtain⟨y,z,rfl,_⟩:=bz a.2;rfl)
 .obtain⟨x,q,j,p,rfl,e⟩:=aJ k;rfl
private theorem RM(i g f:Nat)(c:List CE):bK Φ Ψ G (.JF i g f c):=.mk1 (λd ex k R=>by cases k) (λb k a=>by cases k) (λS ex k=>by cases k) (λ_ _=>rfl)
private theorem RN(i g f:Nat)(c:List CE):bK Φ Ψ G (.Ib i g f c):=.mk1 (λd ex k R=>by cases k) (λb k a=>by cases k) (λS ex k=>by cases k) (λ_ _=>rfl)
private theorem AU(h:mFm f e=true):∃v p,e=.FormattedValue v (-1) none p/\f v=true:=by
 cases e with
 |FormattedValue v c a p=>
  cases a with
  |none=>obtain⟨d,b⟩:=a2 h;rw[AN d];exact⟨v,p,rfl,b⟩
  |some _=>exact ff h
 |_=>exact ff h
private theorem AV(h:mJn f e=true):∃vs p,e=.JoinedStr vs p/\f vs=true:=by
 cases e with
 |JoinedStr vs p=>exact⟨vs,p,rfl,h⟩
 |_=>exact ff h
private theorem RO(d:bK Φ Ψ G a):bK Φ Ψ G (.fmt a):=by
 refine .mk1 (λ{S X} e ex k R=>?_) (λ{S ex} f k b=>?_) (λS ex k=>by exact k) (λ_ _=>rfl)
 .obtain⟨v,p,rfl,c⟩:=AU k;rw[cL rfl];exact QT (d.s e c R)
 .obtain⟨v,p,rfl,c⟩:=AU k;rfl
private theorem Gg(D:XOk S Φ Ψ G X)(R:Addr->Prop):∀(g:List CE)(es:List Expr),(∀c∈g,bK Φ Ψ G c)->fj S g es=true->∀(b:List Nat){d:List (Addr×Obj)}{s:Shared}{f:St}{H:Hp}{Q:VK}{A:Fz}{l:Hp}{i:Ev}{P:W->Prop},Inv X d f H s->SR X.K S.M A l f H i->ER X l R->b.length<=2000->UA Φ G R g b i P->(∀w v H',P w->aq H H'->Rep X.K (FB A S.M f) H' w v->Q v H')->wpAny (model X.prog X.w) X.A (joinParts (tx b) (evalEach es X.env)) (EP X d f Q) X.xe s
 |[],es,_,k,b,d,s,f,H,Q,A,l,i,P,I,SS,o,B,h,c=>by rw[Fm.mp k];exact joinParts_nil ⟨.str (tx b),H,I.tok _,⟨_,rfl⟩,c _ _ H h (aq.refl H) (oA _)⟩ (FV B (by decide))
 |a::g,[],_,k,_,_,_,_,_,_,_,_,_,_,_,_,_,_,_,_=>ff k
 |a::g,e::es,C,k,b,d,s,f,H,Q,A,l,i,P,I,SS,o,B,h,c=>by
  obtain⟨k1,k2⟩:=a2 k;refine joinParts_cons (bF ((C a Ap).s D k1 R d s f H (λv m=>∃w,(match w with|.str y=>b.length+y.length<=2000/\UA Φ G R g (b++y.cps.toList) i P|_=>False)/\aq H m/\Rep X.K (FB A S.M f) m w v) I ⟨A,l,i,_,SS,o,h,λw v m j q n=>⟨w,j,q,n.aM⟩⟩) λu q ⟨F,m,O,L,w,j,sm,n⟩=>?_);cases w with
  |str y=>
   have N:F=.str y:=n;subst N;obtain⟨t,rfl⟩:=L;have E:tx b++y=tx (b++y.cps.toList):=by rw[<-eX,kJ]
   have x:(b++y.cps.toList).length<=2000:=by rw[DL,<-m7];exact j.1
   refine⟨by rw[E];exact FV x (by decide),?_⟩;rw[E];exact Gg D R g es (λz hz=>C z (AS _ hz)) k2 _ O (SS.same sm) o x j.2 λw v H' p J r=>c w v H' p (sm.trans J) r
  |_=>exact j.elim
private theorem RP(i:∀c∈g,bK Φ Ψ G c):bK Φ Ψ G (.fst g):=by
 refine .mk1 (λ{S X} o ex k R=>?_) (λ{S ex} E k l=>?_) (λS ex k=>by exact k) (λ_ _=>rfl)
 .obtain⟨m,p,rfl,f⟩:=AV k;rw[cL rfl];rintro j s u H Q I ⟨A,J,x,P,SS,t,h,c⟩;have d:=Gg o R g m i f [] I SS t (OF _) h λw v K p B r=>c w v K p B (.of r)
  match m,g,f,i,h,d with
  |[],g,f,i,h,d=>exact d
  |e1::L::rest,g,f,i,h,d=>exact JoinedStr_many d
  |[e],[],f,_,_,_=>exact ff f
  |[e],[a],f,i,h,d=>
   obtain⟨D,_⟩:=a2 f;refine JoinedStr_one ((i a Ap).s o D R j s u H Q I ⟨A,J,x,_,SS,t,h,λw v F n z C=>?_⟩);cases w with
   |str y=>have q:P (.str (tx ([]++y.cps.toList))):=n.2;rw[MF,kJ]at q;exact c _ v F q z C
   |_=>exact n.elim
  |[e],a::b::g,f,_,_,_=>exact ff (a2 f).2
 .obtain⟨m,p,rfl,f⟩:=AV k;rfl
private theorem RQ(f:List Str)(vs:List Int)(m:bK Φ Ψ G a):bK Φ Ψ G (.Uk f vs a):=by
 refine .mk1 (λ{S X} e ex k R=>?_) (λ{S ex} n k b=>?_) (λS ex k=>by exact k) (λ_ _=>rfl)
 .obtain⟨v,s,p,rfl,c⟩:=gZ k;obtain⟨⟨⟨⟨⟨l,d⟩,j⟩,i⟩,h⟩,g⟩:=a6 c;cases v with
  |Dict o r q=>rw[cL rfl];exact QO (hu1 e.un) d (AN j) (by rintro rfl;cases i) (AN h) (m.s e g R) λ_ _=>by cases s<;>first|rfl|exact ff l
  |_=>exact ff d
 .obtain⟨v,s,p,rfl,c⟩:=gZ k;rfl
private theorem qT{f:NameKind->NameKind}:∀(l:List (Str×NameKind))(y:Str),(l.map λp=>(p.1,f p.2)).lookup y=(l.lookup y).map f
 |[],_=>rfl
 |(n,k)::r,y=>by
  rw[Fh,DK,DK];by_cases e:(y==n)=true
  .rw[e];rfl
  .rw[Sr]at e;rw[e];exact qT r y
private theorem vo(h:∀x,a.names.lookup x=b.names.lookup x):dY sc a N d c=dY sc b N d c:=by unfold dY;simp only[h]
private theorem KQ(a:XOk S Φ Ψ G X)(g:dY scope X.env.scope X.N (mask b S.N) b=true)(h:(b++mask b S.N).Nodup){d:St}{H:Hp}{s:Shared}(I:Inv X c d H s)(C:Addr)(e:Shared)(j:Hp)(i:List Addr):
 XOk (S.comp scope b) Φ Ψ G (aX X scope C b (mask b S.N) e j i):=by
 refine⟨rfl,h,a.calm,a.un,λx=>?_,a.fns,a.Ge,a.CN,a.DH,a.xu,a.kit,a.j4⟩;show(relabel scope X.env).names.lookup x=_;rw[gW I (gJ.of g)];show _=(scope.names.map λp=>(p.1,if p.2=.free then NameKind.cell else p.2)).lookup x;rw[qT (f:=λk=>if k=.free then NameKind.cell else k)]
def kN(X:Cx)(i:Nat)(x:Str):Prop:=X.N[i]?=some x/\Loc X.env.scope x/\(X.fn x=true\/X.env.scope.names.lookup x=some .local)
noncomputable def fk(X:Cx):List Nat->List Str->Prop
 |[],a=>a=[]
 |i::b,a=>∃x r,a=x::r/\kN X i x/\fk X b r
private theorem Nj(a:X.N.Nodup)(h:kN X i x):PG X (.Name x p) (gR i):=IC a h.1 h.2.1 h.2.2
private theorem Gh(d:X.N.Nodup):∀(es:List Expr)(b:List Str)(a:List Nat),Ih es=some b->fk X a b->Vo X es (WR a)/\(assignEach es X.env).length=a.length/\(assignEach es X.env).findIdx? (·.1)=none
 |[],b,a,h,k=>by
  cases h;cases a with
  |nil=>exact⟨ID,rfl,rfl⟩
  |cons i c=>obtain⟨x,r,e,_⟩:=k;cases e
 |e::es,b,a,h,k=>by
  cases e with
  |Name x p=>
   obtain⟨l,m,rfl⟩:=He.mp h;cases a with
   |nil=>cases k
   |cons i c=>obtain⟨q,r,e,o,n⟩:=k;cases e;obtain⟨j,g,f⟩:=Gh d es l c m n;have e:assignEach (.Name x p::es) X.env=(false,assign (.Name x p) X.env)::assignEach es X.env:=rfl;refine⟨Ea (Nj d o) j rfl,by rw[e,Ar,g,Ar],?_⟩;rw[e,List.findIdx?_cons,f];rfl
  |_=>exact nn h
private theorem RS(s:X.calm=true)(d:X.N.Nodup)(h:W7 tg=some (b,c))(k:fk X a c):PG X tg (gT X.K b a):=by
 cases tg with
 |Name x p=>
  cases h
  match a,k with
  |[i],k=>obtain⟨j,r,e,g,f⟩:=k;cases e;exact Nj d g
  |[],k=>cases k
  |_::_::_,k=>obtain⟨j,r,e,g,f⟩:=k;cases e;obtain⟨v,w,u,_⟩:=f;cases u
 |Tuple t y p=>
  dsimp only[W7]at h;obtain⟨l,q,e⟩:=He.mp h;cases e;obtain⟨o,n,m⟩:=Gh d t c a q k;have:gT X.K false a=Oq X.K a.length (WR a):=by cases a<;>rfl
  rw[this];exact Ot s o n m
 |_=>exact nn h
private theorem n8:∀(a:List Str)(n:Nat),(∀k x,a[k]?=some x->kN X (n+k) x)->fk X ((G2 a.length).map (n+·)) a
 |[],n,_=>rfl
 |x::a,n,h=>by
  rw[Ar,Z4,Fh];refine⟨x,a,rfl,h 0 x rfl,?_⟩;have:=n8 a (n+1) λk y b=>by have:=h (k+1) y (by simpa using b);rw[show n+1+k=n+(k+1) by lia];exact this
  rw[Oz];have e:(G2 a.length).map (n+1+·)=(G2 a.length).map ((n+·)∘lb):=Nt λk _=>by show n+1+k=n+(k+1);lia
  rw[<-e];exact this
private theorem xA(h:vj a=true)(env:Env)(x:Value):foldedSetIterable a env x=pure x:=by
 cases a<;>first|rfl|exact ff h
private theorem AW:wE Φ G R (.comp e b n i c x)=λd Q=>wE Φ G R i d λz=>items z λws=>qx (λw K=>wT b e w (A0 n none++d) λa=>wE Φ G (λ_=>False) c a λf=>truth f λk=>if k=true then wE Φ G (λ_=>False) x a λy=>K (some y)else K none) ws [] λl=>Q (.lst l):=rfl
private theorem CP(A:XOk S Φ Ψ G X)(i:qP S q e n en L M J m tg c l scope=true):
 ∃a,n=a.length/\(∀j∈q,j<a.length)/\dY scope X.env.scope X.N (mask a S.N) a=true/\(∀z,foldedSetIterable c X.env z=pure z)/\(en=true->∃es k p,tg=Expr.Tuple es k p)/\L c=true/\M (S.comp scope a) l=true/\J (S.comp scope a) m=true/\
  ∀d s D H,Inv X d D H s->∀C f h g,PG (aX X scope C a (mask a S.N) f h g) tg (gT X.K e q)/\XOk (S.comp scope a) Φ Ψ G (aX X scope C a (mask a S.N) f h g):=by
 unfold qP at i;split at i;rotate_left
 .cases i
 rename_i o a RT
 obtain⟨⟨⟨⟨⟨⟨⟨⟨⟨u,t⟩,r⟩,U⟩,T⟩,R⟩,F⟩,Q⟩,P⟩,KL⟩:=a10 i;have u:=GT.mp u;have t:=GT.mp t;have r:=GT.mp r;subst u t r;have x:=AN T;have w:dY scope X.env.scope X.N (mask a S.N) a=true:=by rw[A.hN,vo (b:=S.sc) λy=>A.nk y];exact U
 have O:=gJ.of w;refine⟨a,rfl,λj Z=>eD.mp Z,w,xA R _,λz=>?_,Q,P,KL,λd s D H I C f h g=>?_⟩
 .have:e=false:=by rw[z]at F;simpa using F
  subst this;cases tg with
  |Tuple es i p=>exact⟨_,_,_,rfl⟩
  |Name y p=>cases RT
  |_=>exact nn RT
 .have B:=KQ A w x I C f h g;refine⟨RS B.calm B.nd RT ?_,B⟩;have:=n8 (X:=aX X scope C a (mask a S.N) f h g) a 0 λk y v=>?_
  .simpa using this
  .have Y:y∈a:=KM v;have E:(aX X scope C a (mask a S.N) f h g).env.scope.names.lookup y=some .local:=by show(relabel scope X.env).names.lookup y=_;rw[gW I O,(O.own y Y).1];rfl
   refine⟨?_,.inl E,.inr E⟩;show(a++mask a S.N)[0+k]?=some y;rw[hU,L9 (Fk.mp v).1];exact v
private theorem qU(hi:bK Φ Ψ G i)(hc:bK Φ Ψ G c)(hx:bK Φ Ψ G x)(hX:XOk S Φ Ψ G X)(k:aE S false (.comp O E n i c x) ex=true)(R:Addr->Prop):
 ∃B tg a y scope p d,ex=.ListComp B [⟨tg,a,y,0⟩] scope p/\n=d.length/\(∀j∈O,j<d.length)/\dY scope X.env.scope X.N (mask d S.N) d=true/\(∀z,foldedSetIterable a X.env z=pure z)/\PI X tg a (Ie X S.M R true (wE Φ G R i))/\
  ∀g s D H,Inv X g D H s->(∀C o l u,PG (aX X scope C d (mask d S.N) o l u) tg (gT X.K E O))/\(∀C o l u,PF (aX X scope C d (mask d S.N) o l u) y (Z1 X.K (up S.M d.length) (wE Φ G (λ_=>False) c)))/\
   ∀C o l u,(XOk (S.comp scope d) Φ Ψ G (aX X scope C d (mask d S.N) o l u)/\aE (S.comp scope d) false x B=true)/\PE (aX X scope C d (mask d S.N) o l u) B (Z0 X.K (up S.M d.length) (wE Φ G (λ_=>False) x)):=by
 obtain⟨B,tg,a,y,scope,p,rfl,kk⟩:=ux k;obtain⟨d,rfl,U,ho,Y,Z,k8,m,KL,T⟩:=CP hX kk;refine⟨B,tg,a,y,scope,p,d,rfl,rfl,U,ho,Y,hi.i hX tg true a (by rw[Yp];exact k8) Z R,λg s D H I=>⟨λC o l u=>(T g s D H I C o l u).1,λC o l u=>?_,λC o l u=>?_⟩⟩
 .have L:=(T g s D H I C o l u).2
  match y,m with
  |[],m=>
   have m:Na c=true:=m;obtain rfl:=isYI m;refine PF.imp O5 ?_;rintro D H Q ⟨A,l,F,P,J,h,k⟩;obtain⟨b,e,q⟩:=k _ H h (aq.refl H);cases e;exact q
  |[f],m=>have m:(aE (S.comp scope d) false c f&&DG c)=true:=m;rw[AC]at m;exact PF.imp (O6 (hc.t L f m.1 m.2 λ_=>False))<|by rintro D H Q ⟨A,l,F,P,J,h,k⟩;exact⟨A,l,F,P,J,.none,h,k⟩
  |_::_::_,m=>exact ff m
 .have L:=(T g s D H I C o l u).2;refine⟨⟨L,KL⟩,?_⟩;exact PE.imp (hx.s L KL λ_=>False)<|by rintro D H Q ⟨A,l,F,P,J,h,k⟩;exact⟨A,l,F,P,J,.none,h,λw v H' pw s r=>k w v H' pw s r.aM⟩
private theorem KR(q:List Nat)(f:Bool)(n:Nat)(D:bK Φ Ψ G i)(E:bK Φ Ψ G c)(y:bK Φ Ψ G x):bK Φ Ψ G (.comp q f n i c x):=by
 refine .mk1 (λ{S X} o ex k R=>?_) (λ{S ex} J k e=>?_) (λS ex k=>by exact k) (λ_ _=>rfl)
 .obtain⟨l,r,d,g,b,p,M,rfl,rfl,h,B,j,K,A⟩:=qU D E y o k R;rw[je rfl];rw[AW];intro a s m H Q I z;obtain⟨w,v,u⟩:=A a s m H I;exact J2 o.calm B h K w v (λC t L F=>(u C t L F).2) j a s m H Q I z
 .obtain⟨l,r,d,g,b,p,rfl,N⟩:=ux k;rfl
private theorem RU:nq Φ Ψ G []:=by
 have en:∀{S:SE}{a:List Expr},fj S [] a=true->a=[]:=λ{S a} h=>by exact Fm.mp h
 have e:∀{S:SE}{a:List Expr},n6 S [] a=true->a=[]:=λ{S a} h=>by exact Fm.mp h
 refine⟨λd a k R=>?_,λd a k R=>?_,λd a b c k R=>absurd (en k) c,λd a b c k R=>absurd (en k) c,λd a b c k _ R=>absurd (en k) c,λd a b c k _ R=>absurd (en k) c⟩
 .rw[en k];exact P9
 .rw[e k];exact JT
private theorem KU(l:bK Φ Ψ G a)(o:nq Φ Ψ G m):nq Φ Ψ G (a::m):=by
 have p:∀{S:SE}{j:List Expr},fj S (a::m) j=true->∃e r,j=e::r/\aE S false a e=true/\fj S m r=true:=λ{S j} h=>by
  cases j with
  |nil=>exact ff h
  |cons e r=>have h:=Jn.mp h;exact⟨e,r,rfl,h.1,h.2⟩
 have w:∀R,wA Φ G R (a::m)=λv Q=>wE Φ G R a v λx=>wA Φ G R m v λy=>Q (x::y):=λR=>rfl;refine⟨λc j k R=>?_,λ{S X} c j k R=>?_,λ{S X} c j f q k R=>?_,λ{S X} c j f q k R=>?_,λ{S X} c j f q k i R=>?_,λ{S X} c j f q k i R=>?_⟩
 .obtain⟨e,r,rfl,g,d⟩:=p k;rw[w];exact JS (aA (aP (.inl g)) _ _) (l.s c g R) (o.a c r d R)
 .cases j with
  |nil=>exact ff k
  |cons e r=>have k:=Jn.mp k;rw[w];exact Fx (aA (aP (gv k.1)) _ _) (l.b c k.1 R) (o.b c r k.2 R)
 .obtain⟨e,r,rfl,g,d⟩:=p k;cases m with
  |nil=>
   have:r=[]:=by exact Fm.mp d
   subst this;exact DY (l.s c g R)
  |cons b u=>
   cases r with
   |nil=>exact ff d
   |cons n r=>exact P5 (l.s c g R) (o.av c (n::r) f (by simp) d R)
 .obtain⟨e,r,rfl,g,d⟩:=p k;cases m with
  |nil=>
   have:r=[]:=by exact Fm.mp d
   subst this;exact DY (l.s c g R)
  |cons b u=>
   cases r with
   |nil=>exact ff d
   |cons n r=>exact WH (l.s c g R) (o.ov c (n::r) f (by simp) d R)
 .obtain⟨e,r,rfl,g,d⟩:=p k;have i:=a2 i;cases m with
  |nil=>
   have:r=[]:=by exact Fm.mp d
   subst this;exact JR (l.t c e g i.1 R)
  |cons b u=>
   cases r with
   |nil=>exact ff d
   |cons n r=>exact P7 (l.t c e g i.1 R) (o.at c (n::r) f (by simp) d i.2 R)
 .obtain⟨e,r,rfl,g,d⟩:=p k;have i:=a2 i;cases m with
  |nil=>
   have:r=[]:=by exact Fm.mp d
   subst this;exact P6 (l.t c e g i.1 R)
  |cons b u=>
   cases r with
   |nil=>exact ff d
   |cons n r=>exact WI (l.t c e g i.1 R) (o.ot c (n::r) f (by simp) d i.2 R)
variable(Φ Ψ G)
mutual
theorem snd:∀c:CE,bK Φ Ψ G c
 |.var i=>Rf i
 |.int i=>Rh i
 |.bl b=>Xb b
 |.str x=>Ri x
 |.aN=>Rj
 |.Dz n=>Rk n
 |.glob g=>AQ g
 |.bin op a b=>Rl op (snd a) (snd b)
 |.neg a=>Rm (snd a)
 |.not a=>Rn (snd a)
 |.cmp op a b=>Ro op (snd a) (snd b)
 |.and d=>Rp (jy d).1
 |.or d=>Xd (jy d).1
 |.ite c a b=>Rq (snd c) (snd a) (snd b)
 |.tup d=>Rr (jy d).1
 |.lst d=>Rt (jy d).1
 |.ix a i=>Xe (snd a) (snd i)
 |.sl a e h=>Xf (snd a) (snd e) (snd h)
 |.call f d=>KJ f (jy d).1
 |.blt b d=>Ru b (jy d).1 (jy d).2
 |.bits a=>KN (snd a)
 |.comp j one n i c x=>KR j one n (snd i) (snd c) (snd x)
 |.pT d=>Rx (jy d).2
 |.yf a=>Ry (snd a)
 |.pop i=>Rw i
 |.own i π=>Rg i π
 |.lD i g f d=>Rv i g f d
 |.slt a e h=>RA (snd a) (snd e) (snd h)
 |.Ug a b c=>RB (snd a) (snd b) (snd c)
 |.MO a n x=>RC n x (snd a)
 |.Uj i=>RK i
 |.Uh a b=>RI (snd a) (snd b)
 |.Ui x a=>RJ x (snd a)
 |.Uk l vs k=>RQ l vs (snd k)
 |.CA a g=>RE g (snd a)
 |.Ul a=>RG (snd a)
 |.yR g f a d=>RD g f (snd a) (jy d).1
 |.Ib i g f d=>RN i g f d
 |.JF i g f d=>RM i g f d
 |.fst d=>RP (jy d).2
 |.fmt a=>RO (snd a)
theorem jy:∀cs:List CE,nq Φ Ψ G cs/\∀c∈cs,bK Φ Ψ G c
 |[]=>⟨RU,by simp⟩
 |c::cs=>⟨KU (snd c) (jy cs).1,λd hd=>by
  rcases Do.mp hd with e|h
  .rw[e];exact snd c
  .exact(jy cs).2 d h⟩
end
end
noncomputable def Ii(S:SE)(i:Nat)(x:Str):Bool:=S.N[i]?==some x&&(S.nk.lookup x==some .local||S.nk.lookup x==some .cell)
noncomputable def CQ(S:SE):List Nat->List Str->Bool
 |[],a=>a.isEmpty
 |i::b,a=>match a with
  |x::r=>Ii S i x&&CQ S b r
  |[]=>false
noncomputable def KW(S:SE)(a:List Nat):Bool:=a.all λi=>!nh S.M i
noncomputable def SE.less(S:SE)(i:Nat):SE:={S with M:=S.M.filter (·.1 !=i)}
noncomputable def SE.bare(S:SE):SE:={S with M:=[]}
noncomputable def Gi:Expr->Bool
 |.Tuple _ _ _=>false
 |_=>true
noncomputable def Gj:Expr->Bool
 |.ListComp _ _ _ _=>false
 |_=>true
noncomputable def Us(S:SE)(b vs:List Expr):Option (Option (List Str)):=
 if !(b.length==2||b.length==3)||vs.length !=b.length then some none
 else if vs.any λ|.Starred ..=>true|_=>false then some none
 else
  let line:=(b.head?.map (·.pos.line)).getD 0
  let a:=b.filterMap λ
   |.Name c pos=>if S.nk.lookup c==some .local&&pos.line==line then some c else none
   |_=>none
  if a.length !=b.length||a.eraseDups.length !=a.length then some none
  else if vs.all (foldedForSure 8)then some none
  else if vs.all (constantsAlone 8)then none
  else some (some a)
noncomputable def CT(f:List Expr->Expr->Bool):Stmt->Bool
 |.Assign a v _=>f a v
 |_=>false
noncomputable def oWh(f:Expr->List Stmt->List Stmt->Bool):Stmt->Bool
 |.While c a b _=>f c a b
 |_=>false
noncomputable def oFr(f:Expr->Expr->List Stmt->List Stmt->Bool):Stmt->Bool
 |.For t i a b _=>f t i a b
 |_=>false
noncomputable def oRs(f:Expr->Bool):Stmt->Bool
 |.Raise (some x) none _=>f x
 |_=>false
noncomputable def RV(f:Expr->Bool):Stmt->Bool
 |.Expr v _=>f v
 |_=>false
noncomputable def oTr(f:List Stmt->List ExceptHandler->Bool):Stmt->Bool
 |.Try b h o z _=>o.isEmpty&&z.isEmpty&&f b h
 |_=>false
noncomputable def oHd(f:Option Expr->Option Str->List Stmt->Bool):ExceptHandler->Bool
 |.ExceptHandler c n b _=>f c n b
noncomputable def oSm{α:Type}(f:α->Bool):Option α->Bool
 |some a=>f a
 |none=>false
noncomputable def uz(f:Str->Pos->Expr->Bool):Stmt->Bool:=CT λa v=>o1 (oNm λx p=>f x p v) a
noncomputable def Nl(f:List Expr->Expr->Bool):Stmt->Bool:=CT λa v=>o1 (ze λb=>f b v) a
noncomputable def Nm(f:List Expr->List Expr->Bool):Stmt->Bool:=CT λb v=>o1 (ze λc=>ze (λa=>f c a) v) b
noncomputable def Gk(f:Expr->Expr->Expr->Bool):Stmt->Bool:=CT λa v=>o1 (F6 λo k=>f o k v) a
noncomputable def zo(f:Expr->Str->Pos->Pos->Expr->Bool):Stmt->Bool:=RV (nZ λg b k c=>k&&o1 (λv=>sP (λo m a=>f o m a c v) g) b)
noncomputable def KY(n:Bool)(f:Expr->Bool):Stmt->Bool
 |.Return (some v) _=>f v
 |.Return none _=>n
 |_=>false
noncomputable def KZ(f:Expr->List Stmt->List Stmt->Bool):Stmt->Bool
 |.If c a b _=>f c a b
 |_=>false
noncomputable def RW(f:Expr->List Stmt->Bool):Stmt->Bool:=oWh λc a b=>b.isEmpty&&f c a
noncomputable def Xi(f:Expr->Expr->List Stmt->Bool):Stmt->Bool:=oFr λt i a b=>b.isEmpty&&f t i a
noncomputable def aah:Stmt->Bool
 |.Break _=>true
 |_=>false
noncomputable def Gm(f:Str->Expr->Bool):Stmt->Bool:=oRs (nZ λg a k _=>k&&o1 (λe=>kj (λx=>f x e) g) a)
noncomputable def Gp:Expr->Bool
 |.Dict [] [] _=>true
 |_=>false
private theorem zp(h:Gp e=true):∃p,e=.Dict [] [] p:=by
 cases e with
 |Dict a b p=>
  cases a with
  |nil=>
   cases b with
   |nil=>exact⟨p,rfl⟩
   |cons _ _=>exact ff h
  |cons _ _=>exact ff h
 |_=>exact ff h
noncomputable def Gq(f:Stmt->Bool)(g:List Stmt->Bool):List Stmt->Bool
 |e::es=>f e&&g es
 |[]=>false
mutual
noncomputable def Xj:Md->Md->Bool
 |.s,m=>KA m
 |.f,m=>Ra m
 |.o e a,m=>match m with
  |.o c b=>decide (e=c)&&RX a b
  |_=>false
 |.io a,m=>match m with
  |.io b=>Xj a b
  |_=>false
 |.d,m=>W5 m
noncomputable def RX:List Md->List Md->Bool
 |[],l=>l.isEmpty
 |a::c,l=>match l with
  |b::bs=>Xj a b&&RX c bs
  |[]=>false
end
mutual
theorem qV:∀{a b:Md},Xj a b=true->a=b
 |.s,m,h=>by cases m<;>first|rfl|exact ff h
 |.f,m,h=>by cases m<;>first|rfl|exact ff h
 |.o e a,m,h=>by
  cases m with
  |o c b=>have h:=Jn.mp h;rw[AN h.1,AX h.2]
  |_=>exact ff h
 |.io a,m,h=>by
  cases m with
  |io b=>exact IR _ (qV h)
  |_=>exact ff h
 |.d,m,h=>by cases m<;>first|rfl|exact ff h
theorem AX:∀{a b:List Md},RX a b=true->a=b
 |[],l,h=>by
  cases l with
  |nil=>rfl
  |cons b bs=>exact ff h
 |a::c,l,h=>by
  cases l with
  |nil=>exact ff h
  |cons b bs=>have h:=Jn.mp h;rw[qV h.1,AX h.2]
end
noncomputable def hasB(M:Ms)(i:Nat)(m:Md):Bool:=match M.lookup i with
 |some k=>Xj k m
 |none=>false
private theorem jV(h:hasB M i m=true):(i,m)∈M:=by
 unfold hasB at h;cases e:M.lookup i with
 |none=>rw[e]at h;exact ff h
 |some k=>rw[e]at h;rw[<-qV h];exact fH e
noncomputable def Nn(f:Expr->Str->List Expr->Bool):Expr->Bool:=nZ λg b k c=>k&&sP (λo m a=>(a.endLine==c.line)&&decide (b.length<30)&&f o m b) g
mutual
noncomputable def ic(S:SE):CE->Expr->Bool
 |.pop i,e=>zg (λo m n k=>decide (m=("pop":Str))&&(n.endLine==k.line)&&zd S.M i&&iS S i o) e
 |.JF i g f d,e=>ja (λx es=>(S.N[i]?==some x&&CM S x&&okN x)&&!nh S.M i&&(S.gn[g]?).isNone&&decide (f=S.fn.length)&&!es.isEmpty&&kq S d es) e
 |.Ib i g f d,e=>ja (λx es=>(S.N[i]?==some x&&CM S x&&okN x)&&!nh S.M i&&(match S.fn[f]?,S.gn[g]? with
  |some y,some z=>decide (y=z)
  |_,_=>false)&&!es.isEmpty&&!dG (eY S.md f)&&!S.mt.any (·.1==f)&&kq S d es) e
 |.lD i g f d,e=>Nn (λo x es=>S.fn[f]?==some x&&S.mt.any (λy=>y.1==f&&y.2==g)&&(match eY S.md f with
  |.io (.o h j)=>hasB S.M i (.o h j)&&!h.contains x
  |_=>false)&&iS S i o&&kq S d es) e
 |.bin op a b,e=>F4 (λo l r=>decide (op=o)&&ic S a l&&ic S b r) e
 |.cmp op a b,e=>F5 (λo l r=>decide (op=o)&&!decide (op=.In)&&!decide (op=.NotIn)&&ic S a l&&ic S b r) e
 |.call f d,e=>ja (λx es=>S.fn[f]?==some x&&jx S x&&!es.isEmpty&&!dG (eY S.md f)&&!S.mt.any (·.1==f)&&kq S d es) e
 |.blt b d,e=>ja (λx es=>decide (x=Yx b)&&jx S x&&S.zn.contains x&&biA b es.length&&!decide (b=.Cz)&&!es.isEmpty&&kq S d es) e
 |.lst d,e=>Rc (λes=>kq S d es) e
 |.tup d,e=>ze (λes=>kq S d es) e
 |.and _,_=>false
 |.or _,_=>false
 |c,e=>aE S false c e
noncomputable def kq(S:SE):List CE->List Expr->Bool
 |[],es=>es.isEmpty
 |a::b,es=>AO (λe=>ic S a e) (λes=>kq S b es) es
end
noncomputable def n9(S:SE):CE->Expr->Bool
 |.cmp op a b,e=>ic S (.cmp op a b) e
 |.lD i g f d,e=>ic S (.lD i g f d) e
 |.call f d,e=>ic S (.call f d) e
 |.pop _,_=>false
 |.bin _ _ _,_=>false
 |.blt _ _,_=>false
 |.ix _ _,_=>false
 |.lst _,_=>false
 |.tup _,_=>false
 |.and _,_=>false
 |.or _,_=>false
 |c,e=>aE S false c e&&DG c
noncomputable def mj(S:SE):List CE->List Expr->Bool
 |[],_=>false
 |a::c,es=>match c with
  |[]=>Gd (λe=>n9 S a e) es
  |b::bs=>AO (λe=>n9 S a e) (λes=>mj S (b::bs) es) es
noncomputable def AY(S:SE):CE->Expr->Bool
 |.and a,e=>Rb (λo es=>decide (o=.And)&&mj S a es) e
 |.or a,e=>Rb (λo es=>decide (o=.Or)&&mj S a es) e
 |c,e=>n9 S c e
noncomputable def isS:Md->Bool
 |.s=>true
 |_=>false
noncomputable def rmd(a:Nat->Md):CE->Md
 |.call f _=>a f
 |c=>mo a c
noncomputable def isVar:CE->Option Nat
 |.var i=>some i
 |_=>none
noncomputable def Xk(S:SE)(m:Md)(e:CE)(v:Expr):Bool:=match isVar e with
 |some i=>hasB S.M i m&&iS S i v
 |none=>false
noncomputable def Xl(S:SE)(a:Nat->Md)(m:Md)(e:CE)(v:Expr):Bool:=
 !dG m&&((isS m&&(aE S.bare false e v||aE S false e v))||(Xj (rmd a e) m&&(aE S.bare false e v||aE S false e v))||Xk S m e v)
noncomputable def RY(S:SE)(m:Md):Bool:=match m with
 |.io k=>hasB S.M 0 k
 |_=>false
noncomputable def Np(f:Expr->Str->Expr->Bool):Stmt->Bool:=CT λa v=>o1 (sP λo x _=>f o x v) a
noncomputable def isCall:CE->Bool
 |.call _ _=>true
 |_=>false
noncomputable def RZ(S:SE)(i n:Nat)(x:Str):Bool:=match S.M.lookup i with
 |some (.o b a)=>b[n]?==some x&&(match a[n]? with
  |some k=>KA k
  |none=>false)
 |_=>false
noncomputable def frB(S:SE)(c:List Nat)(a e:Bool)(g:Expr->Bool)(h:List Stmt->Bool)(tg d:Expr)(b:List Stmt):Bool:=
 match W7 tg with
 |some (o,f)=>(a==o)&&CQ S c f&&KW S c&&vj d&&(!e||!a)&&g d&&h b
 |none=>false
noncomputable def zq:Expr->Bool
 |.SetComp _ _ _ _=>false
 |.DictComp _ _ _ _ _=>false
 |_=>true
noncomputable def vwF(M:Ms)(i n:Nat):Option Str:=match M.lookup i with
 |some (.o a _)=>a[n]?
 |_=>none
noncomputable def Xm(M:Ms)(i n:Nat):Bool:=match M.lookup i with
 |some (.o _ a)=>(match a[n]? with
  |some .f=>true
  |_=>false)
 |_=>false
noncomputable def AZ:Expr->Bool
 |.Starred _ _=>false
 |_=>true
noncomputable def R0(S:SE):CE->Expr->Bool
 |.call f b,e=>aE S false (.call f b) e
 |.yR g f a b,e=>aE S false (.yR g f a b) e
 |_,_=>false
noncomputable def Xn(S:SE)(j i g y:Nat)(a n z:Str):Bool:=Ii S j a&&Ii S i n&&Ii S y z&&(S.nk.lookup n==some .local)&&okN n&&!(i==y)&&!nh S.M j&&!nh S.M i&&!nh S.M y
def taZ(S:SE)(j i g y:Nat)(e:CE)(a:Str)(ex:Expr)(n z:Str)(v:Expr):Bool:=Xn S j i g y a n z&&R0 S e ex&&kj (λb=>decide (b=n)) v
def taC(S:SE)(j i g y:Nat)(e:CE)(a:Str)(ex:Expr)(b:List Stmt)(c:Expr)(n:Str):Bool:=o1 (uz λz _ v=>taZ S j i g y e a ex n z v) b&&kj (λx=>S.gn[g]?==some x&&jx S x) c
def taA(S:SE)(j i g y:Nat)(e:CE)(a:Str)(ex:Expr)(c:Option Expr)(n:Option Str)(b:List Stmt):Bool:=oSm (λc=>oSm (λn=>taC S j i g y e a ex b c n) n) c
def taX(S:SE)(j i g y:Nat)(e:CE)(h:List ExceptHandler)(a:Str)(ex:Expr):Bool:=o1 (oHd λc n b=>taA S j i g y e a ex c n b) h
mutual
noncomputable def K0(S:SE)(d:Nat->Md)(m:Md):CS->Stmt->Bool
 |.set i e,st=>uz (λx _ v=>Ii S i x&&(if nh S.M i=true then(!dG m||!(i==0))&&((zd S.M i&&iU d e)||(isCall e&&hasB S.M i (rmd d e)))&&aE (S.less i) false e v else aE S false e v)) st
 |.DA q e,st=>Nl (λes v=>(match Ih es with|some r=>CQ S q r|none=>false)&&KW S q&&aE S false e v&&(Gi v||ze (λvs=>decide (Us S es vs=some none)) v)) st
 |.par q es,st=>Nm (λtg vs=>(match Ih tg with|some r=>CQ S q r&&decide (Us S tg vs=some (some r))&&decide r.Nodup&&r.all (λx=>S.nk.lookup x==some .local)|none=>false)&&KW S q&&fj S es vs&&decide (vs.length=2)) st
 |.app i e,st=>zo (λo f p l v=>decide (f=("append":Str))&&(p.endLine==l.line)&&zd S.M i&&iS S i o&&aE S false e v) st
 |.put i k e,st=>Gk (λo j v=>zd S.M i&&iS S i o&&xr j&&aE S false k j&&aE S false e v) st
 |.sN j e,st=>uz (λx _ v=>Ii S j x&&!nh S.M j&&Gj v&&zq v&&ic S e v) st
 |.ret e,st=>KY (i9 e&&isS m) (λv=>Xl S d m e v) st
 |.iff c a b,st=>KZ (λt x y=>aE S false c t&&DG c&&cN S d m a x&&cN S d m b y) st
 |.Ic c b,st=>RW (λt x=>aE S false c t&&DG c&&cN S d m b x) st
 |.fr q one s b,st=>Xi (λtg i x=>frB S q one (Ga s) (λi=>aE S true s i) (λx=>cN S d m b x) tg i x) st
 |.brk,st=>aah st
 |.raise g e,st=>Gm (λx v=>S.gn[g]?==some x&&jx S x&&aE S false e v) st
 |.MP i π e,st=>zo (λo f p l v=>decide (f=("append":Str))&&(p.endLine==l.line)&&ko S Ra i π o&&aE S false e v) st
 |.Fg i n e,st=>Np (λo x v=>RZ S i n x&&iS S i o&&aE S false e v) st
 |.MQ e,st=>KY (i9 e&&RY S m) (λv=>RY S m&&aE S false e v) st
 |.DB e,st=>RV (λv=>Gj v&&zq v&&ic S e v) st
 |.Um c a b,st=>KZ (λt x y=>AY S c t&&cN S d m a x&&cN S d m b y) st
 |.Wl c b,st=>RW (λt x=>AY S c t&&cN S d m b x) st
 |.Pu i e,st=>zo (λo f p l v=>decide (f=("append":Str))&&(p.endLine==l.line)&&zd S.M i&&iS S i o&&AZ v&&ic S e v) st
 |.Aw,_=>true
 |.Wm i,st=>uz (λx _ v=>Ii S i x&&(!dG m||!(i==0))&&y9 S.M i&&Gp v) st
 |.Wr j i g y e,st=>oTr (λb h=>o1 (uz λa _ ex=>taX S j i g y e h a ex) b) st
 |.Uo i k e,st=>Gk (λo j v=>y9 S.M i&&iS S i o&&xr j&&aE S false k j&&aE S false e v) st
 |.OW i π e,st=>zo (λo f p l v=>decide (f=("extend":Str))&&(p.endLine==l.line)&&ko S Ra i π o&&iU d e&&aE S false e v) st
 |.Wq e,st=>KY false (λv=>isS m&&ic S e v) st
 |.Wo c a b,st=>KZ (λt x y=>Yw (λo z=>decide (o=.Not)&&AY S c z) t&&cN S d m a x&&cN S d m b y) st
 |.Wn i n e,st=>zo (λo f p l v=>decide (f=("append":Str))&&(p.endLine==l.line)&&Xm S.M i n&&sP (λa x _=>decide (vwF S.M i n=some x)&&iS S i a) o&&AZ v&&ic {S with M:=Ig S.M i n} e v) st
 |.Ws i k,st=>zo (λo f p l v=>decide (f=("pop":Str))&&(p.endLine==l.line)&&y9 S.M i&&iS S i o&&aE S false k v) st
 |.Px _ _,_=>false
 |.Pw _ _,_=>false
noncomputable def cN(S:SE)(d:Nat->Md)(m:Md):List CS->List Stmt->Bool
 |[],es=>es.isEmpty
 |a::f,es=>match a with
  |.Pw c b=>f.isEmpty&&(!dG m||!c.contains 0)&&cN (S.lend c) d m b es
  |.Px c b=>f.isEmpty&&(!dG m||!c.contains 0)&&cN (S.lend c) d m b es
  |a=>Gq (λe=>K0 S d m a e) (λes=>cN S d m f es) es
end
structure DI(S:SE)(Φ:Nat->aT)(Ψ:Nat->Md)(G:Nat->W)(X:Cx):Prop extends XOk S Φ Ψ G X where
 bk:X.env.blockKind=.function
 M8:∀x,X.fn x=true
 Ut:∀j x C,S.gn[j]?=some x->G j=.cls C->qe X.K C
 own:PassesOwn (model X.prog X.w) X.A X.env X.xe
 stk:X.stack=X.env::X.outer/\X.env.frame=some X.env.locals
 Nq:∀i m m',(i,m)∈S.M->(i,m')∈S.M->m=m'
section
variable{S:SE}{Φ:Nat->aT}{Ψ:Nat->Md}{G:Nat->W}{X:Cx}
private theorem XOk.R1(h:XOk S Φ Ψ G X)(M:Ms):XOk {S with M:=M} Φ Ψ G X:=⟨h.hN,h.nd,h.calm,h.un,h.nk,h.fns,h.Ge,h.CN,h.DH,h.xu,h.kit,h.j4⟩
private theorem jz(h:DI S Φ Ψ G X)(k:Ii S i x=true):kN X i x:=by unfold Ii at k;simp only[AC,UV,GT]at k;refine⟨by rw[h.hN];exact k.1,?_,.inl (h.M8 x)⟩;unfold L2.Loc;rw[h.nk];exact k.2
private theorem pI(h:DI S Φ Ψ G X):∀{b:List Nat}{a:List Str},CQ S b a=true->fk X b a
 |[],a,k=>Fm.mp k
 |i::c,[],k=>by cases k
 |i::c,x::r,k=>by rw[CQ,AC]at k;exact⟨x,r,rfl,jz h k.1,pI h k.2⟩
private theorem vp(h:KW S a=true):∀i∈a,¬aL S.M i:=λi b=>eG (by simpa using HI.mp h i b)
private theorem xB(f:(i,m)∈S.M)(d:∀c,(i,c)∈S.M->c=m):x∈S.M↔x=(i,m)\/x∈(S.less i).M:=by
 show _↔_\/x∈S.M.filter (·.1 !=i);rw[P2,bne_iff_ne];obtain⟨a,b⟩:=x;constructor
 .intro h;by_cases e:a=i
  .subst e;rw[d b h];exact .inl rfl
  .exact .inr ⟨h,e⟩
 .rintro(e|h)
  .cases e;exact f
  .exact h.1
private theorem xC:¬aL (S.less i).M i:=by rintro⟨m,h⟩;have h:(i,m)∈S.M.filter (·.1 !=i):=h;rw[P2,bne_iff_ne]at h;exact h.2 rfl
noncomputable def A3:Expr->Bool
 |.SetComp _ _ _ _=>false
 |.DictComp _ _ _ _ _=>false
 |_=>true
private theorem R3(h:aE S b c e=true):A3 e=true:=by
 cases e with
 |SetComp _ _ _ _=>
  cases c with
  |own i a=>obtain⟨_,_,_,e⟩:=(dj h).2;cases e
  |_=>exact ff h
 |DictComp _ _ _ _ _=>
  cases c with
  |own i a=>obtain⟨_,_,_,e⟩:=(dj h).2;cases e
  |_=>exact ff h
 |_=>rfl
noncomputable def swB(S:SE)(x:Str)(p:Pos):Expr->Bool
 |.ListComp _ _ scope q=>(S.nk.lookup x==some .local)&&(p.line==q.line)&&!(scope.names.any λ(n,k)=>n==x&&(k==.local||k==.cell))
 |_=>false
private theorem Xo(h:DI S Φ Ψ G X)(he:A3 e=true)(x:Str)(p:Pos)(l:Nat):swapsWith e (some (.Name x p)) l X.env=pure (swB S x p e):=by
 cases e with
 |ListComp a b scope q=>show(pure _:Sem Bool)=pure _;rw[h.bk];show(pure (true&&(X.env.scope.names.lookup x==some .local)&&(p.line==q.line)&&_):Sem Bool)=_;rw[h.nk,Yp];rfl
 |SetComp _ _ _ _=>exact ff he
 |DictComp _ _ _ _ _=>exact ff he
 |_=>rfl
private theorem K1(l:Nat)(env:Env):swapsWithSole [.Tuple es k p] e l env=pure false:=by
 cases e<;>rfl
private theorem xD(l:Nat)(env:Env):swapsWithSole [.Subscript o i p] e l env=pure false:=by
 cases e<;>rfl
private theorem K2(he:Gi e=true)(es:List Expr)(k:Nat)(p:Pos)(env:Env):swappedStores [.Tuple es k p] e env=pure none:=by
 cases e<;>first|rfl|exact ff he
private theorem xE(env:Env):swappedStores [.Subscript o i p] e env=pure none:=by
 cases e<;>rfl
private theorem Gr(h:DI S Φ Ψ G X)(e:Us S a vs=some o):swappedStores [.Tuple a k p] (.Tuple vs k2 p2) X.env=pure o:=by
 delta swappedStores
 unfold Us at e;have b:∀x,X.env.kindOf x=S.nk.lookup x:=λx=>h.nk x;simp only[b,h.bk,bne_self_eq_false,QR];dsimp only at e;split at e
 .rename_i c
  cases e;exact BM c
 rename_i c1
 refine(B1 c1).trans ?_;split at e
 .rename_i c
  cases e;exact BM c
 rename_i c2
 refine(B1 c2).trans ?_;split at e
 .rename_i c
  cases e;exact BM c
 rename_i c3
 refine(B1 c3).trans ?_;split at e
 .rename_i c
  cases e;exact BM c
 rename_i c4
 refine(B1 c4).trans ?_;split at e
 .cases e
 rename_i c5
 cases e;exact B1 c5
end
private theorem jA(h:CT f e=true):∃a v q,e=.Assign a v q/\f a v=true:=by cases e<;>first|exact⟨_,_,_,rfl,h⟩|exact ff h
private theorem K3(h:oWh f e=true):∃c a b q,e=.While c a b q/\f c a b=true:=by cases e<;>first|exact⟨_,_,_,_,rfl,h⟩|exact ff h
private theorem K4(h:oFr f e=true):∃t i a b q,e=.For t i a b q/\f t i a b=true:=by cases e<;>first|exact⟨_,_,_,_,_,rfl,h⟩|exact ff h
private theorem K5(h:oRs f e=true):∃x q,e=.Raise (some x) none q/\f x=true:=by
 cases e<;>try exact ff h
 rename_i x y q
 cases x<;>cases y<;>first|exact⟨_,_,rfl,h⟩|exact ff h
private theorem xF{st:Stmt}(h:RV f st=true):∃v q,st=.Expr v q/\f v=true:=by cases st<;>first|exact⟨_,_,rfl,h⟩|exact ff h
private theorem ie{st:Stmt}(h:uz f st=true):∃x p v q,st=.Assign [.Name x p] v q/\f x p v=true:=by obtain⟨d,v,q,rfl,c⟩:=jA h;obtain⟨t,rfl,b⟩:=cz c;obtain⟨x,p,rfl,a⟩:=AL b;exact⟨_,_,_,_,rfl,a⟩
private theorem CU{st:Stmt}(h:Nl f st=true):∃es k p v q,st=.Assign [.Tuple es k p] v q/\f es v=true:=by obtain⟨d,v,q,rfl,c⟩:=jA h;obtain⟨t,rfl,b⟩:=cz c;obtain⟨es,k,p,rfl,a⟩:=fJ b;exact⟨_,_,_,_,_,rfl,a⟩
private theorem CV{st:Stmt}(h:Nm f st=true):∃es k p vs b a q,st=.Assign [.Tuple es k p] (.Tuple vs b a) q/\f es vs=true:=by obtain⟨i,v,q,rfl,g⟩:=jA h;obtain⟨t,rfl,e⟩:=cz g;obtain⟨es,k,p,rfl,d⟩:=fJ e;obtain⟨vs,b,a,rfl,c⟩:=fJ d;exact⟨_,_,_,_,_,_,_,rfl,c⟩
private theorem uA{st:Stmt}(h:Gk f st=true):∃o k p v q,st=.Assign [.Subscript o k p] v q/\f o k v=true:=by obtain⟨d,v,q,rfl,c⟩:=jA h;obtain⟨t,rfl,b⟩:=cz c;obtain⟨o,k,p,rfl,a⟩:=gZ b;exact⟨_,_,_,_,_,rfl,a⟩
private theorem ig{st:Stmt}(h:zo f st=true):∃o m c v b q,st=.Expr (.Call (.Attribute o m c) [v] [] b) q/\f o m c b v=true:=by obtain⟨v,q,rfl,n⟩:=xF h;obtain⟨g,s,r,p,rfl,l⟩:=d7 n;obtain⟨k,j⟩:=a2 l;obtain⟨e,rfl,i⟩:=cz j;obtain⟨o,m,a,rfl,d⟩:=cG i;rw[Fm.mp k];exact⟨_,_,_,_,_,_,rfl,d⟩
private theorem qW{st:Stmt}(h:KY n f st=true):(∃v q,st=.Return (some v) q/\f v=true)\/∃q,st=.Return none q/\n=true:=by
 cases st<;>try exact ff h
 rename_i v q
 cases v
 .exact .inr ⟨_,rfl,h⟩
 .exact .inl ⟨_,_,rfl,h⟩
private theorem qX{st:Stmt}(h:KZ f st=true):∃c a b q,st=.If c a b q/\f c a b=true:=by
 cases st<;>try exact ff h
 exact⟨_,_,_,_,rfl,h⟩
private theorem xG{st:Stmt}(h:RW f st=true):∃c a q,st=.While c a [] q/\f c a=true:=by obtain⟨c,a,b,q,rfl,e⟩:=K3 h;obtain⟨k,d⟩:=a2 e;rw[Fm.mp k];exact⟨_,_,_,rfl,d⟩
private theorem Gu{st:Stmt}(h:Xi f st=true):∃tg c a q,st=.For tg c a [] q/\f tg c a=true:=by obtain⟨t,i,a,b,q,rfl,e⟩:=K4 h;obtain⟨k,d⟩:=a2 e;rw[Fm.mp k];exact⟨_,_,_,_,rfl,d⟩
private theorem zu{st:Stmt}(h:Gm f st=true):∃x np e j q,st=.Raise (some (.Call (.Name x np) [e] [] j)) none q/\f x e=true:=by obtain⟨x,q,rfl,i⟩:=K5 h;obtain⟨g,m,l,p,rfl,d⟩:=d7 i;obtain⟨k,c⟩:=a2 d;obtain⟨e,rfl,b⟩:=cz c;obtain⟨y,np,rfl,a⟩:=bz b;rw[Fm.mp k];exact⟨_,_,_,_,_,rfl,a⟩
section
variable{X:Cx}{M:Ms}{m:Md}{st:Stmt}{i j k:Nat}{e:Expr}{te:(Addr->Prop)->WT}{M':Ms}{m0:Md}
private theorem K6(c:∀R,PS X st (om (tV X M R (MW X.K .s) (te R)) (gR i)))(n:¬aL M i):VS X M m st (λd b=>te d.ex b λw=>d.nx (b.set i (some w))):=by rintro a s f H D I ⟨A,q,b,d,S,o,hz,h,k⟩;refine c d.ex a s f H D I ⟨A,q,b,_,S,o,h,λw v p l g r=>?_⟩;exact k.nx A _ _ p rfl rfl l ((S.same g).set n r.aM)
private theorem Gv(c:∀R,PS X st (om (tV X M' R (MW X.K m0) (te R)) (gR i)))(g:∀x,x∈M↔x=(i,m0)\/x∈M')(y:¬aL M' i)(f:dG m=true->i≠0):VS X M m st (λd b=>te d.ex b λw=>d.nx (b.set i (some w))):=by
 rintro a s n H D I ⟨A,Q,b,d,S,E,hz,h,k⟩;have C:∀v,A.s0=some v->A.s0=some v/\aL M' 0:=λv e=>by
  refine⟨e,?_⟩;have u:dG m=true:=by rw[<-hz,e];rfl
  obtain⟨p,B⟩:=(S.sl v e).2;rcases(g _).mp B with z|z
  .cases z;exact(f u rfl).elim
  .exact⟨p,z⟩
 obtain⟨U,J,F,Y,l⟩:=S.sub (M':=M') (λx q=>(g x).mpr (.inr q)) A.s0 C;refine c d.ex a s n H D I ⟨U,Q,b,_,l,E,h,λw v P t o r=>?_⟩;obtain⟨T,N,L,_,O⟩:=l.own g y o r;exact k.nx T _ _ P (N.trans J) (L.trans F) t O
private theorem K7:VS X M .s (.Return none pos) (λd c=>d.rt .aN):=by rintro a s b H D I ⟨A,g,c,d,S,f,hz,h,k⟩;exact Ac a s b H D I (k.rt _ _ H h S.sm (.of rfl (.of (by dsimp only[Rep]))))
private theorem Gw(y:X.calm=true)(u:Gl X x)(t:X.mg x=some (.ref C))(q:qe X.K C)(he:∀R,VE X M R .s e (te R))(f:starEach [e] X.env=[(false,eval e X.env)])(hd:(x==("__debug__":Str))=false):
 VS X M m (.Raise (some (.Call (.Name x np) [e] [] b)) none pos) (λd c=>te d.ex c λ_=>d.ex C):=by
 rintro a s l H D I ⟨A,B,c,d,S,⟨E,o,z,g⟩,hz,h,k⟩;exact ED g y u t q (aS (he d.ex) bV f) f hd a s l H D I ⟨A,B,c,_,S,⟨E,o,z,g⟩,h,λw v F p n r=>⟨by show 1<=sizeLine;decide,p,S.sm.trans n⟩⟩
end
private theorem uB(h:Nn f e=true):∃o m a es c,e=.Call (.Attribute o m a) es [] c/\f o m es=true/\(a.endLine==c.line)=true/\es.length<30:=by obtain⟨g,es,l,p,rfl,j⟩:=d7 h;obtain⟨k,i⟩:=a2 j;obtain⟨o,m,a,rfl,d⟩:=cG i;rw[Fm.mp k];have b:=a3 d;exact⟨_,_,_,_,_,rfl,b.2,b.1.1,AN b.1.2⟩
private theorem CW{st:Stmt}(h:Np f st=true):∃o x p v q,st=.Assign [.Attribute o x p] v q/\f o x v=true:=by obtain⟨d,v,q,rfl,c⟩:=jA h;obtain⟨t,rfl,b⟩:=cz c;obtain⟨o,x,p,rfl,a⟩:=cG b;exact⟨_,_,_,_,_,rfl,a⟩
section
variable{X:Cx}{M:Ms}{R:Addr->Prop}{a:Expr}{es:List Expr}{ta:WT}{m:Md}{ms:List Md}{pos:Pos}
end
def cS(b:Nat->aT)(a:Nat->Md)(G:Nat->W)(s:CS):Prop:=∀{S:SE}{X:Cx}{m:Md},DI S b a G X->∀c,K0 S a m s c=true->VS X S.M m c (wS b G s)
def eS(b:Nat->aT)(a:Nat->Md)(G:Nat->W)(s:List CS):Prop:=∀{S:SE}{X:Cx}{m:Md},DI S b a G X->∀c,cN S a m s c=true->xg X S.M m c (wSs b G s)
section
variable{Φ:Nat->aT}{Ψ:Nat->Md}{G:Nat->W}
private theorem DI.R1(h:DI S Φ Ψ G X)(M:Ms)(b:∀i m a,(i,m)∈M->(i,a)∈M->m=a):DI {S with M:=M} Φ Ψ G X:={toXOk:=h.toXOk.R1 M,bk:=h.bk,M8:=h.M8,Ut:=h.Ut,own:=h.own,stk:=h.stk,Nq:=b}
private theorem Gx(b:XOk S Φ Ψ G X)(k:aE S false (.call f h) v=true)(R:Addr->Prop):VE X S.M R (Ψ f) v (wE Φ G R (.call f h))/\∃g es p,v=.Call g es [] p:=by
 obtain⟨x,q,es,p,rfl,l⟩:=aJ k;obtain⟨⟨⟨⟨⟨s,r⟩,o⟩,d⟩,m⟩,i⟩:=a6 l;obtain⟨B,A,D⟩:=bE b r;obtain⟨C,n,j,z,F,t,y⟩:=b.fns f x (GT.mp s) (by simpa using m);have F:bW X.prog X.w X.K X.mg X.base j C n (yW X.K n (Ψ f) (Φ f)):=by rw[<-b.CN]at d;cases u:Ψ f<;>rw[u]at d F<;>first|exact F|exact ff d
 have c:=fu i;cases es with
 |nil=>exact ff o
 |cons e es=>rw[Ai,AC]at c;refine⟨?_,_,_,_,rfl⟩;exact AA (M:=S.M) (R:=R) (p:=q) (pos:=p) F t B z y ((jy Φ Ψ G h).1.a b _ i R) A (aA c.1 _ _) (aY c.2 _ _)
private theorem Gy(a:XOk S Φ Ψ G X)(k:aE S false e v=true)(R:Addr->Prop):VE X S.M R (rmd Ψ e) v (wE Φ G R e):=by
 cases e with
 |call f b=>exact(Gx a k R).1
 |_=>exact(snd Φ Ψ G _).e a v k R
private theorem zv(h:isCall e=true):∃f a,e=.call f a:=by cases e<;>first|exact⟨_,_,rfl⟩|exact ff h
private theorem uC(h:i9 e=true):e=.aN:=by cases e<;>first|rfl|exact ff h
private theorem CY(h:isVar e=some i):e=.var i:=by cases e<;>first|(cases h;rfl)|exact nn h
private theorem K8(h:swB S x p v=true):∃a b c d,v=.ListComp a b c d:=by cases v<;>first|exact⟨_,_,_,_,rfl⟩|exact ff h
private theorem R4(k:aE S false e (.ListComp a b c d)=true):∃g f n i c x,e=.comp g f n i c x:=by
 cases e with
 |comp g f n i c x=>exact⟨_,_,_,_,_,_,rfl⟩
 |own i h=>obtain⟨_,_,_,e⟩:=(dj k).2;cases e
 |_=>exact ff k
private theorem A4(d:DI S Φ Ψ G X)(P:Ii S i x=true)(k:aE S false e v=true)(R:Addr->Prop):
 PS X (.Assign [.Name x p] v q) (om (tV X S.M R (MW X.K (mo Ψ e)) (wE Φ G R e)) (gR i)):=by
 have n:=jz d P;have a:=Xo d (R3 k) x p q.line;cases m:swB S x p v with
 |false=>rw[m]at a;exact pX d.nd n.1 n.2.1 ((snd Φ Ψ G e).e d.toXOk v k R) a n.2.2
 |true=>rw[m]at a;obtain⟨T,gs,h,pp,rfl⟩:=K8 m;obtain⟨ts,B,n',E,c,y,rfl⟩:=R4 k;obtain⟨t,tg,r,F,f,p',o,U,rfl,j,O,l,Y,L⟩:=qU (snd Φ Ψ G E) (snd Φ Ψ G c) (snd Φ Ψ G y) d.toXOk k R;cases U;rw[je rfl,AW];intro b s g H D I J;obtain⟨A,z,w⟩:=L b s g H I;exact Js o (mask o S.N) d.nd n.1 n.2.1 d.calm O Y A z (λC u Z Q=>(w C u Z Q).2) a l n.2.2 b s g H D I (w6 j g H _ J)
private theorem R5(i:Nat)(e:CE):cS Φ Ψ G (.set i e):=by
 intro S X m l st k;obtain⟨x,p,v,q,rfl,h⟩:=ie k;rw[AC]at h;by_cases y:nh S.M i=true
 .rw[BM y]at h;simp only[AC]at h;obtain⟨F,⟨E,d⟩,C⟩:=h;have u:dG m=true->i≠0:=λz e=>by rw[z,e]at E;cases E
  have L:∀{t:Md},(i,t)∈S.M->(∀R,PS X (.Assign [.Name x p] v q) (om (tV X (S.less i).M R (MW X.K t) (wE Φ G R e)) (gR i)))->VS X S.M m (.Assign [.Name x p] v q) (λD o=>wE Φ G D.ex e o λw=>D.nx (o.set i (some w))):=λ{t} I O=>Gv (M':=(S.less i).M) (te:=λR=>wE Φ G R e) O (λj=>xB I (λm' T=>l.Nq i _ _ T I)) xC u;have J:DI (S.less i) Φ Ψ G X:=l.R1 (S.less i).M λa b c B Q=>l.Nq a b c (P2.mp B).1 (P2.mp Q).1;rcases gv d with d|d
  .rw[AC]at d;refine L (l7 d.1) λR=>?_;have:=A4 J (p:=p) (q:=q) F C R;rw[je d.2]at this;exact this
  .rw[AC]at d;refine L (jV d.2) λR=>?_;obtain⟨f,as,rfl⟩:=zv d.1;obtain⟨B,g,es,pp,rfl⟩:=Gx J.toXOk C R;have n:=jz l F;exact pX l.nd n.1 n.2.1 B rfl n.2.2
 .rw[B1 y]at h;refine K6 (te:=λR=>wE Φ G R e) (λR=>?_) (eG (by simpa using y));refine PS.imp (A4 l (p:=p) (q:=q) h.1 h.2 R)<|by rintro D σ H ⟨A,Y,o,P,S,U,p,k⟩;exact⟨A,Y,o,P,S,U,p,λw v Z N s r=>k w v Z N s (r.s S.dom)⟩
private theorem R6(f:List Nat)(e:CE):cS Φ Ψ G (.DA f e):=by
 intro S X m b u k;obtain⟨h,kd,p,v,q,rfl,i⟩:=CU k;obtain⟨⟨⟨c,g⟩,l⟩,a⟩:=a4 i;split at c;rotate_left
 .cases c
 rename_i xs hxs
 have o:PG X (.Tuple h kd p) (gT X.K false f):=RS b.calm b.nd (by dsimp only[W7];rw[hxs];rfl) (pI b c);have d:swappedStores [.Tuple h kd p] v X.env=pure none:=by
  rcases gv a with a|a
  .exact K2 a _ _ _ _
  .obtain⟨r,g,w,rfl,j⟩:=fJ a;exact Gr b (AN j)
 exact Ql (te:=λR=>wE Φ G R e) (λ{t} n=>yp n o (K1 _ _) d rfl) (vp g) λR=>(snd Φ Ψ G e).s b.toXOk l R
private theorem xH(h:fk X a (x::b)):∃i r,a=i::r/\kN X i x/\fk X r b:=by
 cases a with
 |nil=>cases h
 |cons i r=>obtain⟨_,_,e,d,c⟩:=h;cases e;exact⟨i,r,rfl,d,c⟩
private theorem K9(h:fk X a []):a=[]:=by
 cases a with
 |nil=>rfl
 |cons i r=>obtain⟨_,_,e,_⟩:=h;cases e
private theorem La(h:fk X a [x,y]):∃i j,a=[i,j]/\kN X i x/\kN X j y:=by obtain⟨i,r,rfl,e,d⟩:=xH h;obtain⟨j,r,rfl,c,b⟩:=xH d;cases K9 b;exact⟨i,j,rfl,e,c⟩
private theorem R7{α:Type}{l:List α}(h:l.length=2):∃a b,l=[a,b]:=by rcases l with _|⟨a,_|⟨b,_|_⟩⟩<;>first|exact⟨_,_,rfl⟩|(simp at h;done)
private theorem qY(h:Ih es=some (x::b)):∃p r,es=.Name x p::r/\Ih r=some b:=by
 cases es with
 |nil=>cases h
 |cons e es=>
  cases e with
  |Name a p=>obtain⟨l,c,e⟩:=He.mp h;cases e;exact⟨_,_,rfl,c⟩
  |_=>exact nn h
private theorem A5(h:Ih es=some []):es=[]:=by
 cases es with
 |nil=>rfl
 |cons e es=>
  cases e with
  |Name a p=>obtain⟨l,b,e⟩:=He.mp h;cases e
  |_=>exact nn h
private theorem Lb(h:Ih es=some [x,y]):∃p q,es=[.Name x p,.Name y q]:=by obtain⟨p,r,rfl,b⟩:=qY h;obtain⟨q,r,rfl,a⟩:=qY b;rw[A5 a];exact⟨_,_,rfl⟩
private theorem Lc(h:Us S a vs=some (some b)):(a.length=2\/a.length=3)/\vs.length=a.length:=by
 unfold Us at h;split at h
 .cases h
 .rename_i c
  simp only[UV,X2,bne_iff_ne,not_or,Bool.not_eq_false,GT,ne_eq,lr]at c;exact c
private theorem Ld(h:Ih es=some a):es.length=a.length:=by
 induction a generalizing es with
 |nil=>rw[A5 h];rfl
 |cons x a b=>obtain⟨p,r,rfl,c⟩:=qY h;rw[Ar,Ar,b c]
private theorem R8(F:List Nat)(es:List CE):cS Φ Ψ G (.par F es):=by
 intro S X m g Z k;obtain⟨Y,kd,p,d,u,I,q,rfl,J⟩:=CV k;obtain⟨⟨⟨l,k2⟩,M⟩,K⟩:=a4 J;split at l;rotate_left
 .cases l
 rename_i xs hxs
 obtain⟨⟨⟨l,r⟩,z⟩,L⟩:=a4 l;have r:=AN r;have z:=AN z;obtain⟨f,E⟩:=Lc r;have P:=Gr g (k:=kd) (k2:=u) (p:=p) (p2:=I) r;have c:∀x∈xs,X.env.scope.names.lookup x=some .local:=λx O=>by rw[g.nk];exact GT.mp (HI.mp L x O)
 have Q:=pI g l;refine Qm (ta:=λR=>wA Φ G R es) (λ{U} T=>?_) (vp k2) λR=>(jy Φ Ψ G es).1.a g.toXOk d M R;have hd:∀{a b:Nat}{x y:Str},x≠y->X.N[a]?=some x->X.N[b]?=some y->a≠b:=λn s o e=>by rw[e,o]at s;exact n (Fs s).symm
 rcases f with f|f
 .obtain⟨x,y,rfl⟩:=R7 ((Ld hxs).symm.trans f);obtain⟨p1,p2,rfl⟩:=Lb hxs;obtain⟨i,j,rfl,C,B⟩:=La Q;obtain⟨a,b,rfl⟩:=R7 (E.trans f);refine PS.imp (Ov g.calm g.nd C.1 B.1 (hd (by simpa using z) C.1 B.1) (c x (by simp)) (c y (by simp)) T P) λD A H h=>?_;have e:(λ(d:List V) t=>d.length=[i,j].length/\D.nx (dF A [i,j] d) t)=λd t=>∃v w,d=[v,w]/\D.nx ((A.set i (some v)).set j (some w)) t:=by
   funext d t;refine propext ⟨?_,?_⟩
   .rintro⟨s,o⟩;obtain⟨v,w,rfl⟩:=R7 s;exact⟨v,w,rfl,o⟩
   .rintro⟨v,w,rfl,o⟩;exact⟨rfl,o⟩
  rw[e]at h;exact h
 .exact absurd ((AN K).symm.trans (E.trans f)) (by decide)
private theorem qZ(h:iS S i o=true)(nm:Str)(env:Env):attributeBase o nm env (eval o env)=eval o env:=by
 cases o with
 |Name x p=>rfl
 |_=>exact ff h
private theorem R9(i:Nat)(e:CE):cS Φ Ψ G (.app i e):=by intro S X m f p k;obtain⟨o,r,u,v,t,q,rfl,g⟩:=ig k;obtain⟨⟨⟨⟨a,j⟩,h⟩,d⟩,c⟩:=a5 g;have a:=AN a;subst a;have b:=aA (aP (.inl c)) [] X.env;refine Qo (te:=λR=>wE Φ G R e) (λ{n} l=>?_) (l7 h) λR=>(snd Φ Ψ G e).s f.toXOk c R;exact iH (t6 Pv U2 Ts gU (cC f.toXOk d) (aS l bV b) (qZ d _ _) (by rw[b];rfl) j b rfl) rfl
private theorem Sa(i:Nat)(a e:CE):cS Φ Ψ G (.put i a e):=by
 intro S X m b y k;obtain⟨o,j,p,v,q,rfl,c⟩:=uA k;obtain⟨⟨⟨⟨l,h⟩,g⟩,f⟩,d⟩:=a5 c;have t:∀u,assign (.Subscript o j p) X.env u=(do
  let ov<-holding [u] (eval o X.env)
  let iv<-holding [u,ov] (eval j X.env)
  standAt p
  holding [u,ov,iv] (setItem ov iv u)
  release [u,ov,iv] []):=by
  intro u;cases j with
  |Slice _ _ _ _=>exact ff g
  |_=>rfl
 refine Qp (te:=λR=>wE Φ G R e) (t1:=λR=>wE Φ G R a) (λ{w x} n r=>?_) (l7 l) (λR=>(snd Φ Ψ G e).s b.toXOk d R) λR=>(snd Φ Ψ G a).s b.toXOk f R;exact yp (pos:=q) n (Eb (cC b.toXOk h) r set_list t) (xD _ _) (xE _) rfl
private theorem Sb(i:Nat):cS Φ Ψ G (.Wm i):=by
 intro S X m b u k;obtain⟨x,p,v,q,rfl,f⟩:=ie k;obtain⟨⟨⟨l,c⟩,h⟩,g⟩:=a4 f;obtain⟨w,rfl⟩:=zp g;have a:dG m=true->i≠0:=λz e=>by rw[z,e]at c;cases c
 have d:=pG h;have n:=jz b l;exact J7 (M':=(S.less i).M) (te:=λR s Q=>Q (.dct [] [])) (λ{t} o=>pX b.nd n.1 n.2.1 o rfl n.2.2) (λj=>xB d (λy r=>b.Nq i _ _ r d)) xC a λR=>QK
private theorem xJ:∀{S:SE}{c:CE}{e:Expr},ic S c e=true->noStar e=true:=λ{S c e} h=>by
 cases e with
 |Starred v p=>
  have f:aE S false c (.Starred v p)=true->False:=λz=>by have:=aP (.inl z);exact ff this
  cases c<;>first|exact ff h;done|exact(f h).elim
 |_=>rfl
private theorem jB:∀{b:List CE}{es:List Expr},kq S b es=true->es.all noStar=true
 |[],es,h=>by rw[Fm.mp h];rfl
 |a::b,[],h=>by cases h
 |a::b,e::es,h=>by have h:=a2 h;rw[Ai,xJ h.1,jB h.2];rfl
private theorem bR(b:XOk S Φ Ψ G X)(R:Addr->Prop)(e:ic S c v=aE S false c v)(d:wP Φ G R c=λa Q=>wE Φ G R c a λw=>Q w a)(k:ic S c v=true):VP X S.M R v (wP Φ G R c):=by rw[e]at k;rw[d];exact WY ((snd Φ Ψ G c).s b k R)
mutual
theorem cE(d:XOk S Φ Ψ G X)(R:Addr->Prop):∀(e:CE)(v:Expr),ic S e v=true->VP X S.M R v (wP Φ G R e)
 |.pop i,v,k=>by obtain⟨o,mt,ap,cp,rfl,E⟩:=kM k;obtain⟨⟨⟨m,L⟩,j⟩,J⟩:=a4 E;have m:=AN m;subst m;exact Qu (l7 j) (cC d J) (qZ J _ _) L
 |.lD i g f B,v,k=>by
  obtain⟨o,x,ap,C,p,rfl,E,kl1,kl2⟩:=uB k;obtain⟨⟨⟨⟨m,L⟩,j⟩,J⟩,t⟩:=a5 E;obtain⟨fa,fd,ps,n,kl,hG,hb,F,Y,Z⟩:=d.Ge f g x (GT.mp m) (zm L);rw[<-d.CN]at j;cases o with
  |Name y py=>
   cases hp:Ψ f with
   |io m0=>
    rw[hp]at j F;cases m0 with
    |o fs ms=>
     have j:(hasB S.M i (.o fs ms)&&!fs.contains x)=true:=j;rw[AC]at j;cases B with
     |nil=>
      have:C=[]:=by exact Fm.mp t
      subst this;exact Kq (G:=G g) hG F Y hb (jV j.1) (by simpa using j.2) Z (cC d J) (jU rfl (aY (jB t) _ _) kl2 kl1)
     |cons a B=>
      cases C with
      |nil=>exact ff t
      |cons e C=>have Yy:=t;have Yy:=a2 Yy;exact QG (G:=G g) hG F Y hb (jV j.1) (by simpa using j.2) Z (cC d J) (dI d R (a::B) (e::C) t) (aA (xJ Yy.1) _ _) (aY (jB Yy.2) _ _) (jU rfl (aY (jB t) _ _) kl2 kl1)
    |_=>exact ff j
   |_=>rw[hp]at j;exact ff j
  |_=>exact ff J
 |.bin op a b,v,k=>by obtain⟨l,o,r,p,rfl,E⟩:=ni k;obtain⟨⟨m,L⟩,j⟩:=a3 E;have m:=AN m;subst m;exact Qv (cE d R a l L) (cE d R b r j)
 |.cmp op a b,v,k=>by obtain⟨l,o,r,p,rfl,E⟩:=nj k;obtain⟨⟨⟨⟨m,J⟩,t⟩,L⟩,j⟩:=a5 E;have m:=AN m;subst m;exact Qw d.un (Eg r (op:=op) (by simpa using J) (by simpa using t)) (cE d R a l L) (cE d R b r j)
 |.call f B,v,k=>by
  obtain⟨x,q,C,p,rfl,E⟩:=aJ k;obtain⟨⟨⟨⟨⟨m,L⟩,j⟩,t⟩,k6⟩,J⟩:=a6 E;obtain⟨g1,g2,g3⟩:=bE d L;obtain⟨fv,n,kl,hm,F,Y,Z⟩:=d.fns f x (GT.mp m) (by simpa using k6);have F:bW X.prog X.w X.K X.mg X.base kl fv n (yW X.K n (Ψ f) (Φ f)):=by rw[<-d.CN]at t;cases hp:Ψ f<;>rw[hp]at t F<;>first|exact F|exact ff t
  have D:=jB J;cases C with
  |nil=>exact ff j
  |cons e C=>rw[Ai,AC]at D;exact Ko (p:=q) (pos:=p) F Y g1 hm Z (dI d R B _ J) g2 (aA D.1 _ _) (aY D.2 _ _)
 |.blt b B,v,k=>by
  obtain⟨x,q,C,p,rfl,E⟩:=aJ k;obtain⟨⟨⟨⟨⟨⟨m,L⟩,j⟩,J⟩,t⟩,k9⟩,k6⟩:=a7 E;have m:=AN m;obtain⟨g1,g2,g3⟩:=bE d L;have hz:=d.xu x (Y1.mp j);have D:=jB k6;cases C with
  |nil=>exact ff k9
  |cons e C=>
   rw[Ai,AC]at D;rcases xx d.calm b (by simpa using t)with⟨id,hv,hc⟩|⟨id,hv,hc⟩
   .exact Qy hc g1 hz (by rw[m];exact hv) (dI d R B _ k6) g3 g2 (aA D.1 _ _) (aY D.2 _ _)
   .exact Qz hc g1 hz (by rw[m];exact hv) (dI d R B _ k6) g3 g2 (aA D.1 _ _) (aY D.2 _ _)
 |.ix a b,v,k=>bR d R rfl rfl k
 |.lst B,v,k=>by obtain⟨C,p,rfl,E⟩:=qN k;exact QI (dI d R B C E)
 |.tup B,v,k=>by obtain⟨C,kd,p,rfl,E⟩:=fJ k;exact QJ (dI d R B C E)
 |.and _,v,k=>by cases k
 |.or _,v,k=>by cases k
 |.var i,v,k=>bR d R rfl rfl k
 |.int i,v,k=>bR d R rfl rfl k
 |.bl i,v,k=>bR d R rfl rfl k
 |.str i,v,k=>bR d R rfl rfl k
 |.aN,v,k=>bR d R rfl rfl k
 |.Dz n,v,k=>bR d R rfl rfl k
 |.glob g,v,k=>bR d R rfl rfl k
 |.neg a,v,k=>bR d R rfl rfl k
 |.not a,v,k=>bR d R rfl rfl k
 |.ite c a b,v,k=>bR d R rfl rfl k
 |.sl a b c,v,k=>bR d R rfl rfl k
 |.bits a,v,k=>bR d R rfl rfl k
 |.comp ts one n i c x,v,k=>bR d R rfl rfl k
 |.pT B,v,k=>bR d R rfl rfl k
 |.yf a,v,k=>bR d R rfl rfl k
 |.own i π,v,k=>bR d R rfl rfl k
 |.slt a b c,v,k=>bR d R rfl rfl k
 |.Ug a b c,v,k=>bR d R rfl rfl k
 |.MO a n x,v,k=>bR d R rfl rfl k
 |.Uj i,v,k=>bR d R rfl rfl k
 |.Uh a b,v,k=>bR d R rfl rfl k
 |.Ui x a,v,k=>bR d R rfl rfl k
 |.Uk a b c,v,k=>bR d R rfl rfl k
 |.CA a g,v,k=>bR d R rfl rfl k
 |.Ul a,v,k=>bR d R rfl rfl k
 |.yR g f a B,v,k=>bR d R rfl rfl k
 |.JF i g f B,v,k=>by
  obtain⟨x,q,C,p,rfl,E⟩:=aJ k;obtain⟨⟨⟨⟨⟨⟨⟨k0,m⟩,L⟩,k7⟩,U⟩,t⟩,j⟩,J⟩:=a8 E;have t:=AN t;subst t;have D:=jB J;cases C with
  |nil=>exact ff j
  |cons e C=>
   rw[Ai,AC]at D;have hv:PE X (.Name x q) (gI i):=cC d (by show(S.N[i]?==some x&&CM S x&&okN x)=true;simp only[AC];exact⟨⟨k0,m⟩,L⟩);rintro pins s σ H Q I ⟨A,H0,T,P,SS,er,h,c⟩;have h:(match look T i with|some (.j4 D q x w)=>G g=.j4 D q x .aN/\(BF Φ G R B T λws O=>Φ S.fn.length (w::ws) (λw=>P w O) R)|_=>False):=h;cases hl:look T i with
   |none=>rw[hl]at h;exact h.elim
   |some w0=>
    rw[hl]at h;cases w0 with
    |j4 st2 q2 x2 w=>obtain⟨n,kl,F,Y,Z⟩:=d.j4 g _ _ _ (by simpa using U) h.1;exact QW (p:=q) (pos:=p) F Y hv (eG (by simpa using k7)) Z (dI d R B _ J) (aA D.1 _ _) (aY D.2 _ _) pins s σ H Q I ⟨A,H0,T,P,SS,er,⟨w,hl,h.2⟩,c⟩
    |_=>exact h.elim
 |.Ib i g f B,v,k=>by
  obtain⟨x,q,C,p,rfl,E⟩:=aJ k;obtain⟨⟨⟨⟨⟨⟨⟨⟨k0,m⟩,L⟩,k7⟩,U⟩,j⟩,t⟩,k6⟩,J⟩:=a9 E;cases hf:S.fn[f]? with
  |none=>rw[hf]at U;exact ff U
  |some y=>
   cases hg:S.gn[g]? with
   |none=>rw[hf,hg]at U;exact ff U
   |some z=>
    rw[hf,hg]at U;have e1:=AN U;subst e1;obtain⟨fv,n,kl,hm,F,Y,Z⟩:=d.fns f y hf (by simpa using k6);obtain⟨u,v0,hm2,rv,rg⟩:=d.DH g y hg;have F:bW X.prog X.w X.K X.mg X.base kl fv n (yW X.K n (Ψ f) (Φ f)):=by rw[<-d.CN]at t;cases hp:Ψ f<;>rw[hp]at t F<;>first|exact F|exact ff t
    have D:=jB J;cases C with
    |nil=>exact ff j
    |cons e C=>
     rw[Ai,AC]at D;have hv:PE X (.Name x q) (gI i):=cC d (by show(S.N[i]?==some x&&CM S x&&okN x)=true;simp only[AC];exact⟨⟨k0,m⟩,L⟩);refine PE.imp (QX (p:=q) (pos:=p) F Y hv (eG (by simpa using k7)) Z (dI d R B _ J) (aA D.1 _ _) (aY D.2 _ _)) ?_;rintro σ H Q ⟨A,H0,T,P,SS,er,h,c⟩;refine⟨A,H0,T,P,SS,er,?_,c⟩;have h:(match look T i with|some (.fn a)=>G g=.fn a/\(BF Φ G R B T λws O=>Φ f ws (λw=>P w O) R)|_=>False):=h;show(match look T i with|some (.fn a)=>fv=Value.ref a/\(BF Φ G R B T λws O=>Φ f ws (λw=>P w O) R)|_=>False);cases hl:look T i with
     |none=>rw[hl]at h;exact h.elim
     |some w0=>
      rw[hl]at h;cases w0 with
      |fn a=>show fv=.ref a/\_;refine⟨?_,h.2⟩;have:=rg (λ_=>False) H;rw[h.1]at this;have this:v0=.ref a:=this;subst this;have ru:u=.ref a:=rv;rw[hm2]at hm;rw[<-Fs hm,ru]
      |_=>exact h.elim
 |.fst a,v,k=>bR d R rfl rfl k
 |.fmt a,v,k=>bR d R rfl rfl k
theorem dI(c:XOk S Φ Ψ G X)(R:Addr->Prop):∀(b:List CE)(es:List Expr),kq S b es=true->DF X S.M R es (BF Φ G R b)
 |[],es,k=>by rw[Fm.mp k];exact Kl
 |a::b,[],k=>by cases k
 |a::b,e::es,k=>by have k:=a2 k;exact FN (aA (xJ k.1) _ _) (cE c R a e k.1) (dI c R b es k.2)
end
private theorem A6(a:A3 v=true)(b:Gj v=true)(t:Option Expr)(l:Nat)(env:Env):swapsWith v t l env=pure false:=by
 cases v with
 |ListComp _ _ _ _=>exact ff b
 |SetComp _ _ _ _=>exact ff a
 |DictComp _ _ _ _ _=>exact ff a
 |_=>rfl
private theorem nsc(h:zq v=true):A3 v=true:=by cases v<;>first|rfl|exact ff h
private theorem Sd(e:CE):cS Φ Ψ G (.DB e):=by intro S X m f g k;obtain⟨v,q,rfl,a⟩:=xF k;obtain⟨⟨d,c⟩,b⟩:=a3 a;exact Kn (tt:=λR=>wP Φ G R e) λR=>iH (cE f.toXOk R _ v b) (A6 (nsc c) d _ _ _)
private theorem Le(j:Nat)(e:CE):cS Φ Ψ G (.sN j e):=by intro S X m a o k;obtain⟨x,p,v,q,rfl,b⟩:=ie k;obtain⟨⟨⟨⟨h,g⟩,d⟩,c⟩,f⟩:=a5 b;have n:=jz a h;exact Km (tt:=λR=>wP Φ G R e) (λ{l} i=>pX a.nd n.1 n.2.1 i (A6 (nsc c) d _ _ _) n.2.2) (eG (by simpa using g)) λR=>cE a.toXOk R _ v f
private theorem Se(e:CE):cS Φ Ψ G (.ret e):=by
 intro S X m d h k;rcases qW k with⟨v,q,rfl,a⟩|⟨q,rfl,a⟩
 .unfold Xl at a;rw[AC]at a;obtain⟨c,a⟩:=a;have c:dG m=false:=by simpa using c
  rcases gv a with a|f
  .rcases gv a with a|a
   .rw[AC]at a;have g:m=.s:=by cases m<;>first|rfl|exact ff a.1
    rcases gv a.2 with b|b
    .exact FJ (te:=λR=>wE Φ G R e) (λR=>(snd Φ Ψ G e).e (d.toXOk.R1 []) v b R) (.inr g) c
    .subst g;exact Kc (te:=λR=>wE Φ G R e) λR=>(snd Φ Ψ G e).s d.toXOk b R
   .rw[AC]at a;rcases gv a.2 with b|b
    .exact FJ (te:=λR=>wE Φ G R e) (λR=>Gy (d.toXOk.R1 []) b R) (.inl (qV a.1)) c
    .exact Kd (te:=λR=>wE Φ G R e) (λR=>by rw[<-qV a.1];exact Gy d.toXOk b R) c
  .unfold Xk at f;split at f
   .rename_i i hv
    obtain rfl:=CY hv;have b:=a2 f;exact Ke (cC d.toXOk b.2) (jV b.1) c
   .exact ff f
 .rw[AC]at a;obtain rfl:=uC a.1;cases m<;>try exact ff a.2
  exact K7
private theorem A7(h:RY S m=true):∃k,m=.io k/\(0,k)∈S.M:=by
 cases m with
 |io k=>exact⟨k,rfl,jV h⟩
 |_=>exact ff h
private theorem Sg(e:CE):cS Φ Ψ G (.MQ e):=by
 intro S X m d f k;rcases qW k with⟨v,q,rfl,a⟩|⟨q,rfl,a⟩
 .rw[AC]at a;obtain⟨c,rfl,b⟩:=A7 a.1;exact QC (te:=λR=>wE Φ G R e) (λR=>(snd Φ Ψ G e).s d.toXOk a.2 R) b
 .rw[AC]at a;obtain⟨c,rfl,b⟩:=A7 a.2;obtain rfl:=uC a.1;exact QD b
private theorem jC(e:XOk S Φ Ψ G X)(R:Addr->Prop)(c:CE)(v:Expr)(k:n9 S c v=true):AD X S.M R v (wP Φ G R c):=by
 have fall:∀{c:CE},n9 S c v=(aE S false c v&&DG c)->(wP Φ G R c=λm Q=>wE Φ G R c m λw=>Q w m)->n9 S c v=true->AD X S.M R v (wP Φ G R c):=λ{c} C B k=>by rw[C,AC]at k;rw[B];exact Qt ((snd Φ Ψ G c).t e v k.1 k.2 R)
 cases c with
 |cmp op a b=>have k:ic S (.cmp op a b) v=true:=k;obtain⟨l,o,r,p,rfl,n⟩:=nj k;obtain⟨⟨⟨⟨j,u⟩,s⟩,z⟩,y⟩:=a5 n;have j:=AN j;subst j;exact Kf e.un (Eg r (op:=op) (by simpa using u) (by simpa using s)) (cE e R a l z) (cE e R b r y)
 |lD i g f d=>have k:ic S (.lD i g f d) v=true:=k;have h:=cE e R _ v k;obtain⟨o,x,D,A,p,rfl,_⟩:=uB k;exact AE (λ_=>rfl) h
 |call f d=>have k:ic S (.call f d) v=true:=k;have h:=cE e R _ v k;obtain⟨x,q,A,p,rfl,_⟩:=aJ k;exact AE (λ_=>rfl) h
 |pop i=>exact ff k
 |Ib i g f d=>exact ff k
 |JF i g f d=>exact ff k
 |bin op a b=>exact ff k
 |blt b d=>exact ff k
 |ix a b=>exact ff k
 |lst d=>exact ff k
 |tup d=>exact ff k
 |and d=>exact ff k
 |or d=>exact ff k
 |_=>exact fall rfl rfl k
private theorem xK(c:XOk S Φ Ψ G X)(R:Addr->Prop):∀(f:List CE)(es:List Expr),mj S f es=true->M4 X S.M R (.BoolOp .And es pos) (z7 Φ G R f)
 |[],es,k=>by cases k
 |[a],es,k=>by obtain⟨e,rfl,k⟩:=cz k;exact FL (jC c R a e k)
 |a::b::d,es,k=>by
  cases es with
  |nil=>exact ff k
  |cons e es=>
   have k:n9 S a e=true/\mj S (b::d) es=true:=a2 k;have h:=xK c R (pos:=pos) (b::d) es k.2;cases es with
   |nil=>cases d<;>exact ff k.2
   |cons g es=>exact Kg (jC c R a e k.1) h
private theorem xM(c:XOk S Φ Ψ G X)(R:Addr->Prop):∀(f:List CE)(es:List Expr),mj S f es=true->M4 X S.M R (.BoolOp .Or es pos) (Im Φ G R f)
 |[],es,k=>by cases k
 |[a],es,k=>by obtain⟨e,rfl,k⟩:=cz k;exact Kh (jC c R a e k)
 |a::b::d,es,k=>by
  cases es with
  |nil=>exact ff k
  |cons e es=>
   have k:n9 S a e=true/\mj S (b::d) es=true:=a2 k;have h:=xM c R (pos:=pos) (b::d) es k.2;cases es with
   |nil=>cases d<;>exact ff k.2
   |cons g es=>exact Qx (jC c R a e k.1) h
private theorem rj(f:XOk S Φ Ψ G X)(R:Addr->Prop)(c:CE)(v:Expr)(k:AY S c v=true):AD X S.M R v (wP Φ G R c):=by
 cases c with
 |and d=>have k:Rb (λo b=>decide (o=.And)&&mj S d b) v=true:=k;obtain⟨o,b,p,rfl,a⟩:=jS k;rw[AC]at a;have e:=AN a.1;subst e;exact PW.pt (xK f R d b a.2)
 |or d=>have k:Rb (λo b=>decide (o=.Or)&&mj S d b) v=true:=k;obtain⟨o,b,p,rfl,a⟩:=jS k;rw[AC]at a;have e:=AN a.1;subst e;exact PW.pt (xM f R d b a.2)
 |_=>exact jC f R _ v k
private theorem Sh(c:CE)(j:eS Φ Ψ G a)(i:eS Φ Ψ G b):cS Φ Ψ G (.Um c a b):=by intro S X m d l k;obtain⟨t,x,y,q,rfl,e⟩:=qX k;obtain⟨⟨h,g⟩,f⟩:=a3 e;exact FO (tt:=λR=>wP Φ G R c) (λR=>rj d.toXOk R c t h) (j d x g) (i d y f)
private theorem Si(c:CE)(e:eS Φ Ψ G b):cS Φ Ψ G (.Wl c b):=by intro S X m d f k;obtain⟨t,x,q,rfl,a⟩:=xG k;simp only[AC]at a;exact QA d.own (λR=>rj d.toXOk R c t a.1) (e d x a.2)
private theorem Sj(i:Nat)(e:CE):cS Φ Ψ G (.Pu i e):=by intro S X m f p k;obtain⟨o,r,u,v,t,q,rfl,g⟩:=ig k;obtain⟨⟨⟨⟨⟨a,j⟩,h⟩,d⟩,s⟩,c⟩:=a6 g;have a:=AN a;subst a;have b:=aA (xJ c) [] X.env;refine QB (tt:=λR=>wP Φ G R e) (λ{n} l=>?_) (l7 h) λR=>cE f.toXOk R e v c;exact iH (t6 Pv U2 Ts gU (cC f.toXOk d) (aS l bV b) (qZ d _ _) (by rw[b];rfl) j b rfl) rfl
private theorem Lf(h:RZ S i n x=true):∃b a,(i,.o b a)∈S.M/\b[n]?=some x/\a[n]?=some .s:=by
 unfold RZ at h;split at h
 .rename_i b a hl
  rw[AC]at h;obtain⟨d,c⟩:=h;split at c
  .rename_i k hk
   have:k=.s:=by cases k<;>first|rfl|exact ff c
   subst this;exact⟨b,a,fH hl,GT.mp d,hk⟩
  .cases c
 .cases h
private theorem Sk(i n:Nat)(e:CE):cS Φ Ψ G (.Fg i n e):=by intro S X m a t k;obtain⟨o,x,p,v,q,rfl,b⟩:=CW k;obtain⟨⟨f,d⟩,c⟩:=a3 b;obtain⟨w,u,l,j,h⟩:=Lf f;exact QH (te:=λR=>wE Φ G R e) (λ{r} g=>mT (cC a.toXOk d) g (by cases v<;>rfl)) l j h λR=>(snd Φ Ψ G e).s a.toXOk c R
private theorem Sl(i:Nat)(π:List j5)(e:CE):cS Φ Ψ G (.MP i π e):=by
 intro S X m g w k;obtain⟨o,x,A,v,z,q,rfl,j⟩:=ig k;obtain⟨⟨⟨a,l⟩,d⟩,c⟩:=a4 j;have a:=AN a;subst a;have b:=aA (aP (.inl c)) [] X.env;obtain⟨y,k,r,p,t,h⟩:=vn g.toXOk d;have:k=.f:=by cases k<;>first|rfl|exact ff t
 subst this;refine Qn (te:=λR=>wE Φ G R e) (λ{u} n=>?_) r p λR=>(snd Φ Ψ G e).s g.toXOk c R;exact iH (t6 Pv U2 Ts gU h (aS n bV b) (by obtain⟨_,_,_,rfl⟩:=(dj d).2;rfl) (by rw[b];rfl) l b rfl) rfl
private theorem Sm(i:Nat)(b e:CE):cS Φ Ψ G (.Uo i b e):=by
 intro S X m a y k;obtain⟨o,j,p,v,q,rfl,c⟩:=uA k;obtain⟨⟨⟨⟨l,h⟩,g⟩,f⟩,d⟩:=a5 c;have t:∀u,assign (.Subscript o j p) X.env u=(do
  let ov<-holding [u] (eval o X.env)
  let iv<-holding [u,ov] (eval j X.env)
  standAt p
  holding [u,ov,iv] (setItem ov iv u)
  release [u,ov,iv] []):=by
  intro u;cases j with
  |Slice _ _ _ _=>exact ff g
  |_=>rfl
 refine QV (te:=λR=>wE Φ G R e) (t1:=λR=>wE Φ G R b) (λ{w x} n r=>?_) (pG l) (λR=>(snd Φ Ψ G e).s a.toXOk d R) λR=>(snd Φ Ψ G b).s a.toXOk f R;exact yp (pos:=q) n (Eb (cC a.toXOk h) r (set_dict (hu1 a.un)) t) (xD _ _) (xE _) rfl
private theorem Sn(i:Nat)(a:CE):cS Φ Ψ G (.Ws i a):=by
 intro S X m f t k;obtain⟨o,u,w,v,n,q,rfl,h⟩:=ig k;obtain⟨⟨⟨⟨b,l⟩,j⟩,e⟩,d⟩:=a5 h;have b:=AN b;subst b;have g:=aA (aP (.inl d)) [] X.env;have c:backTo n (starEach [v] X.env)=[(false,eval v X.env)]:=by rw[g];rfl
 exact Q9 (t1:=λR=>wE Φ G R a) (pG j) (cC f.toXOk e) (λR=>(snd Φ Ψ G a).s f.toXOk d R) ⟨by obtain⟨r,p,rfl,_⟩:=bz e;rfl,by rw[c];rfl,l,c⟩
private theorem So(i:Nat)(π:List j5)(e:CE):cS Φ Ψ G (.OW i π e):=by
 intro S X m g x k;obtain⟨o,y,B,v,A,q,rfl,l⟩:=ig k;obtain⟨⟨⟨⟨a,p⟩,d⟩,n⟩,c⟩:=a5 l;have a:=AN a;subst a;have b:=aA (aP (.inl c)) [] X.env;obtain⟨z,k,t,s,u,j⟩:=vn g.toXOk d;have:k=.f:=by cases k<;>first|rfl|exact ff u
 subst this;refine QU (e:=v) (te:=λR=>wE Φ G R e) (λ{w} r=>?_) t s λR=>?_
 .exact iH (t6 Pv PySem.F.slot_list_extend PySem.F.type_list_extend Ca j (aS r bV b) (by obtain⟨_,_,_,rfl⟩:=(dj d).2;rfl) (by rw[b];rfl) p b rfl) rfl
 .have h:=(snd Φ Ψ G e).e g.toXOk v c R;rw[je n]at h;exact h
private theorem Sq(i n:Nat)(e:CE):cS Φ Ψ G (.Wn i n e):=by
 intro S X m l H k;obtain⟨o,I,O,v,N,q,rfl,B⟩:=ig k;obtain⟨⟨⟨⟨⟨h,C⟩,b⟩,g⟩,J⟩,t⟩:=a6 B;have h:=AN h;subst h;obtain⟨a,x,p,rfl,g⟩:=cG g;obtain⟨c,s⟩:=a2 g;have c:=AN c;unfold Xm at b;unfold vwF at c;cases r:S.M.lookup i with
 |none=>rw[r]at b;exact ff b
 |some A=>
  rw[r]at b c;cases A with
  |o L d=>
   have b:(match d[n]? with|some .f=>true|_=>false)=true:=b;have E:d[n]?=some .f:=by
    cases u:d[n]? with
    |none=>rw[u]at b;exact ff b
    |some z=>rw[u]at b;cases z<;>first|rfl|exact ff b
   have j:=aA (xJ t) [] X.env;have w:PE X (.Attribute a x p) (qH X.K i [.fl n x]):=FU (n:=n) (π:=[]) (FT (cC l.toXOk s)) (by obtain⟨y,z,rfl,_⟩:=bz s;rfl);refine Q0 (tt:=λR=>wP Φ G R e) (λ{F} D=>?_) (fH r) c E l.Nq λR=>cE (l.toXOk.R1 (Ig S.M i n)) R e v t;exact iH (t6 Pv U2 Ts gU w (aS D bV j) rfl (by rw[j];rfl) C j rfl) rfl
  |_=>exact ff b
private theorem Su(c:CE)(s:eS Φ Ψ G a)(r:eS Φ Ψ G b):cS Φ Ψ G (.Wo c a b):=by intro S X m f u k;obtain⟨t,x,y,p,rfl,h⟩:=qX k;obtain⟨⟨e,n⟩,l⟩:=a3 h;obtain⟨o,z,q,rfl,e⟩:=l8 e;obtain⟨j,i⟩:=a2 e;cases AN j;exact FO (tt:=λR g Q=>wP Φ G R c g λx d=>truth x λb=>Q (.bl (!b)) d) (λR=>Kv (rj f.toXOk R c z i)) (s f x n) (r f y l)
private theorem Sv(e:CE):cS Φ Ψ G (.Wq e):=by
 intro S X m c d k;rcases qW k with⟨v,q,rfl,a⟩|⟨q,rfl,a⟩
 .rw[AC]at a;have b:m=.s:=by cases m<;>first|rfl|exact ff a.1
  subst b;exact QY (tt:=λR=>wP Φ G R e) λR=>cE c.toXOk R e v a.2
 .exact ff a
private theorem Sw:cS Φ Ψ G .brk:=by
 intro S X m b a k;cases a with
 |Break _=>exact Qk
 |_=>exact ff k
private theorem Gz(g:Nat)(e:CE):cS Φ Ψ G (.raise g e):=by
 intro S X m b E k;obtain⟨x,F,v,L,q,rfl,o⟩:=zu k;obtain⟨⟨f,p⟩,l⟩:=a3 o;have f:=GT.mp f;show VS X S.M m _ (λD i=>match G g with|.cls C=>wE Φ G D.ex e i λ_=>D.ex C|_=>False);obtain⟨u,z,t,r,a⟩:=b.DH g x f;obtain⟨y,w,J⟩:=bE b.toXOk p;by_cases n:∃C,G g=.cls C
 .obtain⟨C,c⟩:=n;rw[c]at a⊢;have hz:=a (λ_=>False) (λ_=>none);dsimp only[Rep]at hz;subst hz;cases r;exact Gw (te:=λR=>wE Φ G R e) b.calm y t (b.Ut g x C f c) (λR=>(snd Φ Ψ G e).s b.toXOk l R) (aA (aP (.inl l)) [] X.env) w
 .rintro j s B H D I ⟨A,N,i,d,S,K,hz,h,_⟩;cases c:G g<;>rw[c]at h<;>first|exact h.elim|exact(n ⟨_,c⟩).elim
private theorem GA(k:R0 S e ex=true):(∃f b,e=.call f b)\/∃g f a b,e=.yR g f a b:=by
 cases e with
 |call f b=>exact .inl ⟨_,_,rfl⟩
 |yR g f a b=>exact .inr ⟨_,_,_,_,rfl⟩
 |_=>exact ff k
private theorem Lg(c:XOk S Φ Ψ G X)(e:CE)(ex:Expr)(k:R0 S e ex=true):VX X S.M ex (λR=>WA Φ G R e)/\∃g es p,ex=.Call g es [] p:=by
 rcases GA k with⟨f,b,rfl⟩|⟨g,f,a,b,rfl⟩
 .exact⟨KO c f (jy Φ Ψ G b).1 k,by obtain⟨x,q,es,p,rfl,_⟩:=aJ k;exact⟨_,_,_,rfl⟩⟩
 .exact⟨RH c g f (snd Φ Ψ G a) (jy Φ Ψ G b).1 k,by obtain⟨o,x,h,d,es,rfl,_⟩:=d8 k;exact⟨_,_,_,rfl⟩⟩
private theorem Lh(h:ZT w f):∃D a b,w=.gu D a b/\a≠[]:=by cases w<;>first|exact⟨_,_,_,rfl,h.1⟩|exact h.elim
private theorem Sx(j i g y:Nat)(e:CE):cS Φ Ψ G (.Wr j i g y e):=by
 intro S X m l st k;cases st<;>try exact ff k
 rename_i b h o z p
 obtain⟨⟨Z,Y⟩,k0⟩:=a3 k;rw[Fm.mp Z,Fm.mp Y];clear k Z Y;obtain⟨b1,rfl,T⟩:=cz k0;obtain⟨a,pa,ex,q1,rfl,Q⟩:=ie T;clear k0 T;obtain⟨⟨c,n,b2,p2⟩,rfl,F⟩:=cz Q;clear Q;cases c with
 |none=>exact ff F
 |some c=>
  cases n with
  |none=>exact ff F
  |some n=>
   obtain⟨E,B⟩:=a2 (show taC S j i g y e a ex b2 c n=true from F);obtain⟨b3,rfl,E⟩:=cz E;obtain⟨zz,pz,v,q3,rfl,E⟩:=ie E;obtain⟨⟨U,k6⟩,J⟩:=a3 E;obtain⟨O,pn,rfl,J⟩:=bz J;cases AN J;obtain⟨x,px,rfl,B⟩:=bz B;obtain⟨g0,B⟩:=a2 B;obtain⟨g1,g2,g3⟩:=bE l.toXOk B;unfold Xn at U;obtain⟨⟨⟨⟨⟨⟨⟨⟨c1,c2⟩,c3⟩,c4⟩,c5⟩,c6⟩,c7⟩,c8⟩,c9⟩:=a9 U;obtain⟨d1,d2,_⟩:=vm c5;obtain⟨u,w,hm,hr,q⟩:=l.DH g x (GT.mp g0);show VS X S.M m _ (λD f=>ZT (G g) λr=>WA Φ G (λC=>C∈r/\D.nx ((f.set y (some (.err C))).set i none)) e f λw=>D.nx (f.set j (some w)));by_cases hw:∃D r L,G g=.gu D r L/\r≠[]
   .obtain⟨D,r,L,hG,ye⟩:=hw;rw[hG]at q⊢;obtain⟨rfl,hD⟩:=q (λ_=>False) (λ_=>none);cases hr;obtain⟨vx,_,_,_,rfl⟩:=Lg l.toXOk e ex k6;have P:=jz l c1;have O:=jz l c2;have N:=jz l c3;refine PS.imp (t:=sV X S.M m λD f=>WA Φ G (λC=>C∈r/\D.nx ((f.set y (some (.err C))).set i none)) e f λw=>D.nx (f.set j (some w))) (Q6 (m:=m) (t:=λR=>WA Φ G R e) l.stk l.nd P.1 P.2.1 O.1 (by rw[l.nk];exact GT.mp c4) N.1 N.2.1 (by simpa using c6) g1 hm hD ye l.M8 (eG (by simpa using c7)) (eG (by simpa using c8)) (eG (by simpa using c9)) vx rfl rfl g2 d1 d2) ?_;rintro D σ H ⟨A,H0,f,d,S,er,hz,h,k⟩;exact⟨A,H0,f,d,S,er,hz,h.2,k⟩
   .rintro K s σ H D I ⟨A,H0,f,d,S,er,hz,h,_⟩;exact(hw (Lh h)).elim
private theorem Xp(c:CE)(l:eS Φ Ψ G a)(j:eS Φ Ψ G b):cS Φ Ψ G (.iff c a b):=by intro S X m d n k;obtain⟨t,x,y,q,rfl,e⟩:=qX k;obtain⟨⟨⟨i,h⟩,g⟩,f⟩:=a4 e;exact WX (tc:=λR=>wE Φ G R c) (λR=>(snd Φ Ψ G c).t d.toXOk t i h R) (l d x g) (j d y f)
private theorem Sy(c:CE)(h:eS Φ Ψ G b):cS Φ Ψ G (.Ic c b):=by intro S X m a i k;obtain⟨t,x,q,rfl,d⟩:=xG k;obtain⟨⟨g,f⟩,e⟩:=a3 d;exact Qq a.own (λR=>(snd Φ Ψ G c).t a.toXOk t g f R) (h a x e)
private theorem Sz(j:List Nat)(d:Bool)(f:CE)(u:eS Φ Ψ G b):cS Φ Ψ G (.fr j d f b):=by
 intro S X m a v k;obtain⟨g,i,x,q,rfl,c⟩:=Gu k;unfold frB at c;split at c;rotate_left
 .cases c
 rename_i o xs RT
 simp only[AC]at c;obtain⟨⟨⟨⟨⟨⟨e,t⟩,s⟩,r⟩,h⟩,n⟩,l⟩:=c;have e:=GT.mp e;subst e;refine QF (ti:=λR=>wE Φ G R f) a.calm (vp s) a.own (λR=>(snd Φ Ψ G f).i a.toXOk g false i (by rw[n];rfl) (λz=>?_) R) (RS (X:=X) a.calm a.nd RT (pI a t)) (u a x l) (xA r _);have:d=false:=by rw[z]at h;simpa using h
 subst this;cases g with
 |Tuple w c p=>exact⟨_,_,_,rfl⟩
 |Name y p=>cases RT
 |_=>exact nn RT
private theorem Li:eS Φ Ψ G []:=by intro S X m b a k;rw[Fm.mp k];exact J3
def Nr(Φ:Nat->aT)(Ψ:Nat->Md)(G:Nat->W):CS->Prop
 |.Pw _ b=>eS Φ Ψ G b
 |.Px _ b=>eS Φ Ψ G b
 |_=>True
private theorem Lj{st:List Stmt}(k:cN S Ψ m (s::c) st=true):(∃a b,(s=.Pw a b\/s=.Px a b)/\(c.isEmpty&&(!dG m||!a.contains 0)&&cN (S.lend a) Ψ m b st)=true)\/Gq (λe=>K0 S Ψ m s e) (λes=>cN S Ψ m c es) st=true:=by
 cases s<;>first|exact .inr k|exact .inl ⟨_,_,.inl rfl,k⟩|exact .inl ⟨_,_,.inr rfl,k⟩
private theorem GB(h:cS Φ Ψ G s/\Nr Φ Ψ G s)(A:eS Φ Ψ G c):eS Φ Ψ G (s::c):=by
 intro S X m a d k;rcases Lj k with⟨f,b,B,y⟩|k
 .obtain⟨w,n⟩:=a2 y;obtain⟨v,l⟩:=a2 w;cases Fm.mp v;have o:dG m=true->aL S.M 0->aL (S.lend f).M 0:=by rintro e ⟨q,E⟩;rw[e]at l;exact⟨q,P2.mpr ⟨E,l⟩⟩
  have p:=a.R1 (S.lend f).M λi m u D C=>a.Nq i m u (mh _ D) (mh _ C);rcases B with rfl|rfl
  .have j:eS Φ Ψ G b:=h.2;exact J6 (j p d n) mh o
  .have j:eS Φ Ψ G b:=h.2;refine Kz (j p d n) (λx g=>?_) mh (λx g z=>?_) a.Nq o
   .cases e:f.contains x.1 with
    |true=>exact .inr (Y1.mp e)
    |false=>exact .inl (P2.mpr ⟨g,by rw[e];rfl⟩)
   .have:=(P2.mp g).2;rw[Y1.mpr z]at this;cases this
 have h:cS Φ Ψ G s:=h.1;cases d with
 |nil=>exact ff k
 |cons e r=>
  have k:K0 S Ψ m s e=true/\cN S Ψ m c r=true:=a2 k;cases c with
  |nil=>
   have:r=[]:=by have:=k.2;exact Fm.mp this
   subst this;exact J5 (h a e k.1)
  |cons t F=>have z:=FG (h a e k.1) (A a r k.2);exact z
private theorem SA:cS Φ Ψ G .Aw:=by rintro S X m g e k a s b H D I ⟨A,j,c,d,S,i,hz,h,f⟩;exact DN h
variable(Φ Ψ G)
mutual
theorem aal:∀s:CS,cS Φ Ψ G s/\Nr Φ Ψ G s
 |.set i e=>⟨R5 i e,trivial⟩
 |.DA d e=>⟨R6 d e,trivial⟩
 |.par d es=>⟨R8 d es,trivial⟩
 |.app i e=>⟨R9 i e,trivial⟩
 |.put i k e=>⟨Sa i k e,trivial⟩
 |.sN j e=>⟨Le j e,trivial⟩
 |.ret e=>⟨Se e,trivial⟩
 |.iff c a b=>⟨Xp c (gw a) (gw b),trivial⟩
 |.Ic c b=>⟨Sy c (gw b),trivial⟩
 |.fr d one f b=>⟨Sz d one f (gw b),trivial⟩
 |.brk=>⟨Sw,trivial⟩
 |.raise g e=>⟨Gz g e,trivial⟩
 |.MP i π e=>⟨Sl i π e,trivial⟩
 |.Fg i n e=>⟨Sk i n e,trivial⟩
 |.MQ e=>⟨Sg e,trivial⟩
 |.DB e=>⟨Sd e,trivial⟩
 |.Um c a b=>⟨Sh c (gw a) (gw b),trivial⟩
 |.Wl c b=>⟨Si c (gw b),trivial⟩
 |.Pu i e=>⟨Sj i e,trivial⟩
 |.Aw=>⟨SA,trivial⟩
 |.Wm i=>⟨Sb i,trivial⟩
 |.Uo i k e=>⟨Sm i k e,trivial⟩
 |.Ws i k=>⟨Sn i k,trivial⟩
 |.Wr j i g y e=>⟨Sx j i g y e,trivial⟩
 |.Wq e=>⟨Sv e,trivial⟩
 |.OW i π e=>⟨So i π e,trivial⟩
 |.Wn i n e=>⟨Sq i n e,trivial⟩
 |.Wo c a b=>⟨Su c (gw a) (gw b),trivial⟩
 |.Pw h b=>⟨λ_ _ k=>(by cases k),gw b⟩
 |.Px h b=>⟨λ_ _ k=>(by cases k),gw b⟩
theorem gw:∀a:List CS,eS Φ Ψ G a
 |[]=>Li
 |s::a=>GB (aal s) (gw a)
end
end
structure Tab(P:Program)(w:World)(K:Frag)(mg:Str->Option Value)(base:Heap)(fn gn zn:List Str)(md:List Md)(mt:List (Nat×Nat))(Φ:Nat->aT)(G:Nat->W)(k:Nat):Prop where
 fns:∀(j:Nat)(x:Str),fn[j]?=some x->mt.any (·.1==j)=false->∃fv n k',mg x=some fv/\bW P w K mg base k' fv n (nY K n (eY md j) (Φ j))/\k'<=k/\∀ws P R,Φ j ws P R->ws.length=n
 Ge:∀(j g:Nat)(x:Str),fn[j]?=some x->(j,g)∈mt->∃f fd ps n k',(∀C,G g=.cls C->Meth K C x f)/\Binds K fd ps []/\bL P w K mg base (eu P w) k' f fd ps (nY K n (eY md j) (Φ j))/\k'<=k/\∀ws P R,Φ j ws P R->ws.length=n
 DH:∀(j:Nat)(x:Str),gn[j]?=some x->∃u v,mg x=some u/\RelV v u/\∀B H,Rep K B H (G j) v
 xu:∀x∈zn,mg x=none
 kit:wW K
 Ut:∀j x C,gn[j]?=some x->G j=.cls C->qe K C
 j4:∀(g:Nat) st q x,gn[g]?=none->G g=.j4 st q x .aN->∃n k',lY P w K mg base k' st q x n (Φ fn.length)/\k'<=k/\∀ws P R,Φ fn.length ws P R->ws.length=n+1
noncomputable def au(n:Nat)(ws:List W):Ev:=ws.map some++A0 (n -ws.length) none
def fall:Md->(W->Prop)->Ev->Prop
 |.s,P,_=>P .aN
 |.io _,P,a=>match look a 0 with
  |some b=>P (.tup [.aN,b])
  |none=>False
 |_,_,_=>False
section
variable{K:Frag}{A:Addr->Prop}{H:Hp}{N:List Str}{ws:List W}{vs:List V}{M:Ms}
private theorem kO(a:ws.length<=i)(e:look (au N.length ws) i=some w):False:=by
 rw[bq]at e;unfold au at e;rw[Hn (by simp;omega),d6]at e;split at e
 .cases e
 .cases e
private theorem uD(h:ai K A H ws vs)(e:look (au N.length ws) i=some w):∃v,(start N vs)[i]?=some (some v)/\Rep K A H w v:=by
 have f:=h.len;by_cases a:i<ws.length
 .rw[bq]at e;unfold au at e;rw[L9 (by simpa using a),GM]at e;obtain⟨d,c,b⟩:=He.mp e;cases b;obtain⟨v,b,r⟩:=h.get c;refine⟨v,?_,r⟩;unfold L2.start;rw[L9 (by simp;lia),GM,b];rfl
 .exact(kO (by lia) e).elim
private theorem rm(h:ai K A H ws vs)(d:Dom A H)(g:∀i m,(i,m)∈M->ws.length<=i)(b:∀i m a,(i,m)∈M->(i,a)∈M->m=a):SR K M ⟨A,A,none⟩ H (start N vs) H (au N.length ws):=by have f:=h.len;refine⟨by simp[L2.start,au,f],λi w k e=>uD h e,aq.refl _,d,(λv e=>by cases e),λ_=>[],⟨b,λi m w c e=>(kO (g i m c) e).elim,λ_ _ _=>rfl,λ_ _=>bp,(λi j p _ _ z=>by cases z),(λi p _ z=>by cases z),(λi p _ z=>by cases z),λp=>⟨.inl,λz=>z.elim id<|by rintro⟨_,_,z⟩;cases z⟩⟩⟩
open Classical in
noncomputable def era(F:List Addr)(H:Hp):Hp:=λp=>if p∈F then none else H p
private theorem GC(h:era F H p=some o):p∉F/\H p=some o:=by
 unfold era at h;split at h
 .cases h
 .exact⟨by assumption,h⟩
private theorem GD(h:era F H p=none):p∈F\/H p=none:=by
 unfold era at h;split at h
 .exact .inl (by assumption)
 .exact .inr h
private theorem SD(h:p∈F):era F H p=none:=by unfold era;rw[BM h]
private theorem Lk(h:p∉F):era F H p=H p:=by unfold era;rw[B1 h]
private theorem GF(D:F.Nodup)(E:∀p∈F,¬A p)(d:Dom A H)(P:Fp K (λp=>A p\/p∈F) H q k l F)(h:ai K (λp=>A p\/p∈F) H ws vs)
 (s:(0,q)∈M)(O:∀i m,(i,m)∈M->i=0\/ws.length+1<=i)(y:∀i m B,(i,m)∈M->(i,B)∈M->m=B)(L:0<N.length):
 SR K M ⟨A,λp=>A p\/p∈F,some l⟩ (era F H) (start N (l::vs)) H (au N.length (k::ws)):=by
 have I:=h.len;have C:look (au N.length (k::ws)) 0=some k:=rfl;have CZ:(start N (l::vs))[0]?=some (some l):=rfl;have u:∀i,aL M i->i≠0->∀w,look (au N.length (k::ws)) i=some w->False:=λi ⟨m,r⟩ n w e=>kO (by rcases O i m r with z|z;exact(n z).elim;simpa using z) e;refine⟨by simp[L2.start,au,I],λi w g e=>?_,λp o e=>(GC e).2,d,λv e=>?_,λi=>if i=0 then F else[],⟨y,λi m w r e=>?_,λi g e=>?_,λi g=>?_,λi j p g R a b=>?_,λi p g c=>?_,λi p g c=>?_,λp=>?_⟩⟩
 .cases i with
  |zero=>exact(g ⟨q,s⟩).elim
  |succ i=>
   have Q:look (ws.map some++A0 (N.length -(k::ws).length) none) i=some w:=e;have:look (au (N.length -1) ws) i=some w:=by unfold au;rw[show N.length -1 -ws.length=N.length -(k::ws).length by simp;lia];exact Q
   cases N with
   |nil=>cases L
   |cons x N=>obtain⟨v,f,t⟩:=uD (N:=N) h this;refine⟨v,?_,t⟩;unfold L2.start at f⊢;rw[Fh,List.cons_append,List.getElem?_cons_succ,show(x::N).length -(l::vs).length=N.length -vs.length by simp];exact f
 .cases e;exact⟨CZ,q,s⟩
 .rcases P3 i with rfl|g
  .have:=y 0 m q r s;subst this;rw[C]at e;cases e;exact⟨l,CZ,by rw[BM rfl];exact P⟩
  .exact(u i ⟨m,r⟩ (by lia) w e).elim
 .rcases P3 i with rfl|J
  .rw[C]at e;cases e
  .rw[B1 (by lia)]
 .split
  .exact D
  .exact bp
 .by_cases f:i=0
  .by_cases t:j=0
   .rw[f,t]
   .rw[B1 t]at b;cases b
  .rw[B1 f]at a;cases a
 .by_cases f:i=0
  .rw[BM f]at c;exact SD c
  .rw[B1 f]at c;cases c
 .by_cases f:i=0
  .rw[BM f]at c;exact E p c
  .rw[B1 f]at c;cases c
 .constructor
  .rintro(z|z)
   .exact .inl z
   .exact .inr ⟨0,⟨q,s⟩,by rw[BM rfl];exact z⟩
  .rintro(z|⟨i,g,c⟩)
   .exact .inl z
   .by_cases f:i=0
    .rw[BM f]at c;exact .inr c
    .rw[B1 f]at c;cases c
end
private theorem Nu{M:Ms}(h:(M.map (·.1)).Nodup):∀i m c,(i,m)∈M->(i,c)∈M->m=c:=by
 induction M with
 |nil=>intro i m c a;cases a
 |cons x M d=>
  obtain⟨j,k⟩:=x;rw[Fh,Ha]at h;intro i m c a b;rcases Do.mp a with a|a
  .rcases Do.mp b with b|b
   .cases a;cases b;rfl
   .cases a;exact(h.1 (IH.mpr ⟨_,b,rfl⟩)).elim
  .rcases Do.mp b with b|b
   .cases b;exact(h.1 (IH.mpr ⟨_,a,rfl⟩)).elim
   .exact d h.2 i m c a b
section
variable{P:Program}{w:World}{K:Frag}{mg:Str->Option Value}{base:Heap}{x qual:Str}{st:Stmt}{f:Addr}{fd:FuncData}{N ps:List Str}{k:Nat}{fn gn zn:List Str}{md:List Md}{mt:List (Nat×Nat)}{Φ:Nat->aT}{G:Nat->W}
private theorem GG(u:ee N ps (af st))(T:Tab P w K mg base fn gn zn md mt Φ G k)(p:bZ k (OU P w K mg base N qual (af st) f o A a s H E).A)(un:∀i m t,(i,m)∈M->(i,t)∈M->m=t):
 DI ⟨N,(af st).names,M,fn,gn,zn,md,mt⟩ Φ (eY md) G (OU P w K mg base N qual (af st) f o A a s H E):=
 {hN:=rfl,nd:=u.nd,calm:=rfl,un:=p.units,nk:=λ_=>rfl,
  fns:=λj x e h=>by obtain⟨B,n,l,d,c,b,r⟩:=T.fns j x e h;exact⟨B,n,l,d,c,p.mono b,r⟩
  Ge:=λj g x e h=>by obtain⟨f,fd,ps,n,l,d,c,b,r,v⟩:=T.Ge j g x e h;exact⟨f,fd,ps,n,l,d,c,b,p.mono r,v⟩
  CN:=rfl,DH:=T.DH,xu:=T.xu,kit:=T.kit,
  j4:=λg st q x z y=>by obtain⟨n,l,d,c,b⟩:=T.j4 g st q x z y;exact⟨n,l,d,p.mono c,b⟩
  bk:=by show(if(af st).kind.isAnnotationScope then ScopeKind.function else(af st).kind)=_;rw[u.kind];rfl
  M8:=λ_=>rfl,Ut:=T.Ut,own:=.leaving,stk:=⟨rfl,rfl⟩,Nq:=un}
private theorem GH(F:Ez K x qual st f fd)(L:ee N ps (af st))(T:Tab P w K mg base fn gn zn md mt Φ G k)(b:List CS)(M:Ms)(m:Md)(p:aT)(hM:M.all (λi=>decide (ps.length<=i.1))=true)(hu:(M.map (·.1)).Nodup)(c:dG m=false)
 (e:cN ⟨N,(af st).names,M,fn,gn,zn,md,mt⟩ (eY md) m b (aF st)=true)(y:∀ws P R,p ws P R->ws.length=ps.length)
 (hp:∀ws P R,p ws P R->wSs Φ G b ⟨fall m P,P,λ_=>False,λ_=>False,R⟩ (au N.length ws)):bL P w K mg base (eu P w) (k+1) f fd ps (yW K ps.length m p):=by
 refine Ez.Yl F L (by rintro Z H Q E ⟨A,ws,P,R,o,n,_⟩;rw[n.len,o]) λcdv A l s H Z Q E hr hz=>?_;obtain⟨S,ws,t,R,o,n,h3,h4,J,D⟩:=hz;have u:=Nu hu;refine⟨_,gw Φ (eY md) G b (GG L T hr u) (aF st) e,⟨S,S,none⟩,H,au N.length ws,⟨fall m t,t,λ_=>False,λ_=>False,R⟩,rm n h3 (λi m hi=>?_) u,⟨E,EC,λC h rc j=>D C h rc j,λd X O s1 h' a C g I hx q=>Ao d X O s1 h' a C g I hx (D C O q.1 q.2)⟩,(by rw[c];rfl),hp ws t R h4,⟨λA' Y U h ea eb B S'=>?_,λw v h hw j r=>?_,λ_ _ _ _ _ _ z=>z.elim,λ_ _ _ _ _ _ z=>z.elim⟩⟩
 .rw[o];exact AN (HI.mp hM (i,m) hi)
 .cases m with
  |s=>exact J .aN .aN h B S'.sm (.of (by dsimp only[Rep]))
  |io _=>cases c
  |_=>exact B.elim
 .cases m with
  |io _=>cases c
  |_=>exact J w v h hw j r
private theorem Ll(F:Ez K x qual st f fd)(Sc:ee N ps (af st))(T:Tab P w K mg base fn gn zn md mt Φ G k)(b:List CS)(M:Ms)(j:Md)(Sf:aT)(hM:M.all (λi=>i.1==0||decide (ps.length<=i.1))=true)(hu:(M.map (·.1)).Nodup)(U:hasB M 0 j=true)(hN:0<N.length)
 (J:cN ⟨N,(af st).names,M,fn,gn,zn,md,mt⟩ (eY md) (.io j) b (aF st)=true)(hlen:∀ws P R,Sf ws P R->ws.length=ps.length)
 (D:∀ws P R,Sf ws P R->wSs Φ G b ⟨fall (.io j) P,P,λ_=>False,λ_=>False,R⟩ (au N.length ws)):bL P w K mg base (eu P w) (k+1) f fd ps (WM K ps.length j Sf):=by
 refine Ez.Yl F Sc (by rintro vs H Q E ⟨ab,F,O,v0,ws,vs',P,R,e,h1,_,_,_,_,h2,_⟩;rw[e,Ar,h2.len,h1]) λcdv A outer s H vs Q E hr hz=>?_;obtain⟨ab,F,O,v0,ws,vs',Z,R,e,h1,nd,na,d,fp,h2,h4,h5,h6⟩:=hz;subst e;have un:=Nu hu;have U:=jV U;have ch:∀{c},aq (era F H) c->sL (·∈F) H c:=λ{c} t p o e=>by
  by_cases J8:p∈F
  .obtain⟨o',e',hm⟩:=Fp.mu j fp p J8;rw[e]at e';cases e';exact .inl ⟨hm,J8⟩
  .exact .inr (t p o (by rw[Lk J8];exact e))
 refine⟨_,gw Φ (eY md) G b (GG Sc T hr un) (aF st) J,⟨ab,λp=>ab p\/p∈F,some v0⟩,era F H,au N.length (O::ws),⟨fall (.io j) Z,Z,λ_=>False,λ_=>False,R⟩,GF nd na d fp h2 U (λi m hi=>?_) un hN,⟨E,EC,λC c rc t=>h6 C c rc (ch t),λu σ H1 s1 h' a C L I hx q=>Ao u σ H1 s1 h' a C L I hx (h6 C H1 q.1 (ch q.2))⟩,rfl,D _ Z R h4,⟨λA' n σ' c ea eb l S'=>?_,λw v c hw t r=>?_,λ_ _ _ _ _ _ z=>z.elim,λ_ _ _ _ _ _ z=>z.elim⟩⟩
 .have:=HI.mp hM (i,m) hi;rw[UV]at this;rcases this with z|z
  .exact .inl (GT.mp z)
  .exact .inr (by rw[h1];exact AN z)
 .have l:(match look n 0 with|some O=>Z (.tup [.aN,O])|none=>False):=l;cases hl:look n 0 with
  |none=>rw[hl]at l;exact l.elim
  |some y=>rw[hl]at l;obtain⟨wr,y',v0',F',e1,X,h,Y,g,S⟩:=vg (v:=.aN) S' U hl ⟨v0,eb⟩ (by dsimp only[Rep]:Rep K A'.B c .aN .aN);cases e1;rw[eb]at X;cases X;rw[ea]at g S Y;exact h5 .aN y .aN F' c l (ch S'.sm) h (λp D=>GD (Y p D).1) g S
 .obtain⟨wr,y,v0',F',rfl,X,h,Y,g,S⟩:=r;cases X;exact h5 wr y v F' c hw (ch t) h (λp D=>GD (Y p D).1) g S
end
end VL
namespace L2
open PySem PySem.Spec PyProof.Rows
abbrev rv(as:List (Addr×Rat)):List V:=as.map λx=>V.ref x.1
section
variable{X:Cx}{H:Hp}
end
end L2
namespace VL
open PySem PySem.Spec
open PyProof.Rows hiding St
open L2
noncomputable def wq(r:Rat):W:=.tup [.int r.num,.int r.den]
section
variable{K:Frag}{A:Addr->Prop}{H H':Hp}{v:V}{p:Addr}{r:Rat}{rs:List Rat}
end
def bg:List aT->Nat->aT
 |[],_=>λ_ _ _=>False
 |x::_,0=>x
 |_::l,n+1=>bg l n
noncomputable def bI:List W->Nat->W
 |[],_=>.aN
 |x::_,0=>x
 |_::l,n+1=>bI l n
section
variable{Q:W->Prop}{l a b:List W}{i j:Int}{x y:Str}{p q:Bool}
private theorem x_len:sE .len [.lst l] Q=Q (.int l.length):=rfl
private theorem NU:sE .len [.eE c] Q=Q (.int c.length):=rfl
private theorem NT:sE .len [.tup l] Q=Q (.int l.length):=rfl
private theorem UB:sE .abs [.int i] Q=Q (.int (if i<0 then-i else i)):=rfl
private theorem UC:sE .max2 [.int i,.int j] Q=Q (.int (if j>i then j else i)):=rfl
private theorem NV:sE .list [.lst l] Q=Q (.lst l):=rfl
private theorem Io:sE .list [.tup l] Q=Q (.lst l):=rfl
private theorem UD:sE .int [.bl p] Q=Q (.int (if p then 1 else 0)):=rfl
private theorem UE:gM .Add (.int i) (.int j) Q=Q (.int (i+j)):=rfl
private theorem UG:gM .Add (.lst a) (.lst b) Q=(a.length+b.length<=sizeLine/\Q (.lst (a++b))):=rfl
private theorem UH:gM .Sub (.int i) (.int j) Q=Q (.int (i -j)):=rfl
private theorem UI:gM .Mult (.int i) (.int j) Q=(IntMulOk i j/\Q (.int (i*j))):=rfl
private theorem UJ:gM .Mult (.lst a) (.int j) Q=(-(2^63)<=j/\j<2^63/\a.length*j.toNat<=sizeLine/\Q (.lst (A0 j.toNat a).flatten)):=rfl
private theorem NW:gM .FloorDiv (.int i) (.int j) Q=(i7 i j/\Q (.int (i.fdiv j))):=rfl
private theorem UK:gM .Mod (.int i) (.int j) Q=(j≠0/\Q (.int (i.fmod j))):=rfl
private theorem UL:gM .Pow (.int i) (.int j) Q=(Ed i j/\Q (.int (i^j.toNat))):=rfl
private theorem YM:e9 .Eq (.int i) (.int j) Q=Q (.bl (decide (i=j))):=rfl
private theorem YN:e9 .NotEq (.int i) (.int j) Q=Q (.bl (!decide (i=j))):=rfl
private theorem x_lt:e9 .Lt (.int i) (.int j) Q=Q (.bl (decide (i<j))):=rfl
private theorem YO:e9 .LtE (.int i) (.int j) Q=Q (.bl (decide (i<=j))):=rfl
private theorem YQ:e9 .Gt (.int i) (.int j) Q=Q (.bl (decide (j<i))):=rfl
private theorem YR:e9 .GtE (.int i) (.int j) Q=Q (.bl (decide (j<=i))):=rfl
private theorem UM:MS .Lt (.int i) (.int j) Q=Q (.bl (decide (i<j))):=rfl
private theorem UN:MS .LtE (.int i) (.int j) Q=Q (.bl (decide (i<=j))):=rfl
private theorem Ip{Q:Bool->Prop}:truth (.bl p) Q=Q p:=rfl
private theorem YS:Up (.lst l) (.int i) Q=∃w,jg l i=some w/\Q w:=rfl
private theorem UP:Up (.eE c) (.int i) Q=∃n,jg c i=some n/\Q (.int n):=rfl
private theorem UQ:Ys (.eE c) d e Q=Q (.lst (m8 (c.map W.int) d e)):=rfl
private theorem UO:Up (.tup l) (.int i) Q=∃w,jg l i=some w/\Q w:=rfl
private theorem YT:Ys (.lst l) c d Q=Q (.lst (m8 l c d)):=rfl
private theorem UR{Q:Option Int->Prop}:DC .aN w Q=Q none:=rfl
private theorem US{Q:Option Int->Prop}:DC (.int n) (.int i) Q=Q (some i):=rfl
private theorem UT{Q:Option Int->Prop}:DC (.var n) (.int i) Q=Q (some i):=rfl
private theorem UU{Q:Option Int->Prop}:DC (.bin o c d) (.int i) Q=Q (some i):=rfl
private theorem Iq{Q:List W->Prop}:items (.lst l) Q=Q l:=rfl
private theorem DP{Q:List W->Prop}:items (.tup l) Q=Q l:=rfl
private theorem UW{Q:Ev->Prop}:wT true [n] w c Q=Q (c.set n (some w)):=rfl
private theorem YU{Q:Ev->Prop}:wT false c (.tup l) d Q=(l.length=c.length/\Q (cF d c l)):=by
 cases c<;>rfl
private theorem UX{i j:Nat}{Q:Ev->Prop}:wT false [i,j] (.tup l) c Q=(l.length=2/\Q (cF c [i,j] l)):=rfl
private theorem UY{i j k:Nat}{Q:Ev->Prop}:wT false [i,j,k] (.tup l) c Q=(l.length=3/\Q (cF c [i,j,k] l)):=rfl
private theorem NX:sE .len [.str x] Q=(x.length<=sizeLine/\Q (.int x.length)):=rfl
private theorem NY:sE .int [.str x] Q=∃n,PySem.intText? x=some n/\x.length<=640/\Q (.int n):=rfl
private theorem NZ:sE .str [.int i] Q=(i.natAbs.log2<1920/\Q (.str (toString i))):=rfl
private theorem N4:sE .str [.str x] Q=Q (.str x):=rfl
private theorem N5:gM .Add (.str x) (.str y) Q=(x.length+y.length<=sizeLine/\Q (.str (x++y))):=rfl
private theorem N6:gM .Mult (.str x) (.int i) Q=((0<=i/\i<=1000)/\x.length<=1000/\Q (.str (tx (A0 i.toNat x.cps.toList).flatten))):=rfl
private theorem UZ:e9 .Eq (.str x) (.str y) Q=Q (.bl (decide (x=y))):=rfl
private theorem U0:e9 .NotEq (.str x) (.str y) Q=Q (.bl (!decide (x=y))):=rfl
private theorem U1:e9 .In (.str x) (.str y) Q=∃c,x=tx [c]/\Q (.bl (decide (c∈y.cps.toList))):=rfl
private theorem U3:e9 .In (.str x) (.lst l) Q=∃c:List Str,l=c.map W.str/\Q (.bl (decide (x∈c))):=rfl
private theorem U4:Up (.str x) (.int i) Q=(x.length<=sizeLine/\∃c,jg x.cps.toList i=some c/\Q (.str (tx [c]))):=rfl
private theorem U5:JG (.str x) c d Q=(x.length<=sizeLine/\Q (.str (tx (sM x.cps.toList c d)))):=rfl
private theorem U6:JG (.tup l) c d Q=(¬(HT.cy l.length 0 c=0/\HT.cy l.length l.length d=l.length)/\Q (.tup (m8 l c d))):=rfl
private theorem U7:Py (.str x) (.str y) (.int i) Q=(0<=i/\i<=x.length/\Q (.bl (y.cps.toList.isPrefixOf (x.cps.toList.drop i.toNat)))):=rfl
private theorem U8:Pz n x (.obj C c l) Q=(c[n]?=some x/\∃w,l[n]?=some w/\Q w):=rfl
private theorem Va:Fj (.str x) Q=(x.length<=1000/\Q (.str x)):=rfl
private theorem Vb:Fj (.int i) Q=(i.natAbs.log2<1920/\Q (.str (toString i))):=rfl
private theorem U9{Q:Option Int->Prop}:DC (.own k π) (.int i) Q=Q (some i):=rfl
private theorem N7{A B:Prop}:(if true=true then A else B)=A:=rfl
private theorem Ir{A B:Prop}:(if false=true then A else B)=B:=rfl
end
def Uu(d:Nat->aT)(G:Nat->W)(c:Bool)(e:List Nat)(b:List CS):W->Dn->Ev->Prop:=λw g a=>wT c e w a λf=>wSs d G b g f
private theorem Uz:wS d G (.fr e a f b) D c=wE d G D.ex f c λz=>items z λws=>iQ (Uu d G a e b) D ws c:=rfl
private theorem Mr:Uu d G a e b w D c=wT a e w c λf=>wSs d G b D f:=rfl
def WN{α:Type}(S:α->Ev)(J:α->Prop)(c:α->Nat)(s:α):Ev->Prop:=λa=>∃b,a=S b/\J b/\c b<c s
def wgo{α:Type}(S:α->Ev)(J:α->Prop)(d:α->Nat)(b:Dn->Ev->Prop)(D:Dn)(s:α)(k:Bool):Prop:=
 if k=true then∃N:Ev->Prop,(∀a,N a->∃e,e<d s/\∃c,a=S c/\e=d c/\J c)/\b {nx:=N,rt:=D.rt,bk:=D.nx,ct:=N,ex:=D.ex} (S s)else D.nx (S s)
private theorem jD(g:k=true->b {nx:=WN S J a s,rt:=D.rt,bk:=D.nx,ct:=WN S J a s,ex:=D.ex} (S s))(f:k=false->D.nx (S s)):wgo S J a b D s k:=by
 unfold wgo;cases k with
 |true=>exact⟨_,by rintro c ⟨d,e,j,l⟩;exact⟨_,l,d,e,rfl,j⟩,g rfl⟩
 |false=>exact f rfl
private theorem nt(S:α->Ev)(J:α->Prop)(e:α->Nat)(d:α)(h:a=S d)(g:J d)(f:∀s,J s->c (S s) (wgo S J e b D s)):PB c b D a:=by refine⟨λm a=>∃s,a=S s/\m=e s/\J s,⟨_,d,h,rfl,g⟩,?_⟩;rintro m _ ⟨s,rfl,rfl,j⟩;exact f s j
private theorem xN{α:Type}(x:α):∀n,(A0 n [x]).flatten=A0 n x
 |0=>rfl
 |n+1=>by rw[Et,JD,xN x n];rfl
private theorem ay(h:n<=1000):n<=sizeLine:=FV h (by decide)
private theorem rq(K:Frag):wW K:=by intro a d b c;simp only[Do,TC,or_false]at d c;rcases d with rfl|rfl<;>rcases c with rfl|rfl|rfl<;>rfl
def Hd(K:Frag)(x:Str)(st:Stmt):Prop:=∃(f:Addr)(d i:Option Addr)(b:Array (Option Value))(e kV g c a h:Value),
 nsIn K mainGlobals x=some (some (.ref f))/\K.lookup f=some ⟨e,d,.func (fnOf x x (aV st) (aF st) (af st) .none kV g c i a h),b⟩/\codeIn K a x=true/\keepIn K (.ref f)=true
def Hm(K:Frag)(C:Addr)(x q:Str)(st:Stmt):Prop:=∃(f:Addr)(d i:Option Addr)(b:Array (Option Value))(e kV g c a h:Value),
 findIn K (.ref C) x=some (some (.ref f))/\isFn K (.ref f)=true/\K.lookup f=some ⟨e,d,.func (fnOf x q (aV st) (aF st) (af st) .none kV g c i a h),b⟩/\codeIn K a q=true/\keepIn K (.ref f)=true
structure Df(K:Frag)(mg:Str->Option Value)(x:Str)(st:Stmt)(ps:List Str)(f:Addr)(fd:FuncData):Prop where
 F:Ez K x x st f fd
 m:mg x=some (.ref f)
 b:Binds K fd ps []
 bt:∀(s:Shared)(us:List Value),us.length=ps.length->BindsTo s fd ⟨us,[]⟩ (ps.zip us)
structure Dm(K:Frag)(C:Addr)(x q:Str)(st:Stmt)(ps:List Str)(f:Addr)(fd:FuncData):Prop where
 F:Ez K x q st f fd
 M:Meth K C x f
 b:Binds K fd ps []
abbrev gx(x q:Str)(st:Stmt)(ps:List Str):Prop:=∀(kV doc pm:Value)(an:Option Addr)(cdv ct:Value)(us:List Value),us.length=ps.length->bindArgs (fnOf x q (aV st) (aF st) (af st) .none kV doc pm an cdv ct) ⟨us,[]⟩=pure (ps.zip us)
private theorem oB{α:Type}{l:List α}(h:l.length=n+1):∃a r,l=a::r/\r.length=n:=by
 cases l with
 |nil=>cases h
 |cons a r=>exact⟨a,r,rfl,Nat.succ.inj h⟩
private theorem Xq{K:Frag}{st:Stmt}(X:K.In h)(G:h.Ns mainGlobals mg)(hd:Hd K x st)(b:gx x x st ps):∃f i,Df K mg x st ps f i:=by obtain⟨f,q,o,p,r,kV,j,e,n,m,a,l,c,k⟩:=hd;have F:=yI (st:=st) l c k;exact⟨f,_,F,KE X G a,F.binds b,λs d g=>.of_eq (b kV j e o n m d g)⟩
private theorem jE{K:Frag}{st:Stmt}(hd:Hm K C x q st)(b:gx x q st ps):∃f d,Dm K C x q st ps f d:=by obtain⟨f,h,p,e,j,kV,m,g,o,n,a,i,l,c,k⟩:=hd;have F:=yI (st:=st) l c k;exact⟨f,_,F,⟨a,i,k⟩,F.binds b⟩
structure Hc(K:Frag)(mg:Str->Option Value)(x:Str)(C:Addr)(fs:List Str):Prop where
 c:mg x=some (.ref C)
 ok:sJ K C fs
 mks:makesIn K C=true
 kp:keepIn K (.ref C)=true
private theorem zw{K:Frag}(d:Eu H)(c:kC K H a (b.map V.int)):Rep K (λ_=>False) H (.eE b) (.ref a):=by
 refine⟨a,rfl,?_⟩;rcases c with(h|⟨o,h⟩)|h
 .rcases d a with z|⟨o,e,z⟩|⟨_,_,_,z⟩
  .rw[z]at h;cases h
  .rw[z]at h;cases h
  .rw[z]at h;cases h
 .exact .inl ⟨o,h⟩
 .exact .inr (.inr h)
def SG:aT:=λb Q _=>∃a:List Int,b=[.eE a]/\a.length<=63/\Q (.bl true)
def A8(K:Frag):Sp:=λc H Q _=>∃(a:Addr)(b:List Int),c=[.ref a]/\Eu H/\kC K H a (b.map V.int)/\b.length<=63/\∀d,Q (.bl true) d
private theorem SH{K:Frag}{f:Addr}{d:FuncData}{x:Str}(F:bL P w K mg b (eu P w) k f d [x] (yW K 1 .s SG)):bL P w K mg b VZ k f d [x] (A8 K):=by refine(bL.V1 F).imp λm H Q E ⟨a,c,e,j,i,h,q⟩=>?_;subst e;refine⟨λ_=>False,[.eE c],λw=>w=.bl true,λ_=>False,rfl,.cons (zw j i) .nil,λ_ z=>z.elim,⟨c,rfl,h,rfl⟩,λw v l g _ r=>?_,λ_ _ z=>z.elim⟩;subst g;have r:=r.aM;dsimp only[Rep]at r;subst r;exact q l
private theorem walk{l:PySem.W.OpenLaw}{K:Params->Frag}{k:Nat}{m:List Addr}(v:l.most=some 63)(i:d.params.defaults=[])(t:bZ k callerA)(D:importsNone q=true)(e:l.prog.given.tree=none)
 (A:∀(w:World)(h:Heap),j w h->(K w.params).In h)(H:∀(w:World)(h:Heap),j w h->∀P∈m,h.get? P=some (tabObj #[]))(g:∀w:World,tabsOk (K w.params) m=true)
 (F:∀(w:World)(mg:Str->Option Value)(p:Addr)(h:Heap),(K w.params).In h->h.Ns mainGlobals mg->mg d.name=some (.ref p)->
   ∃o:FuncData,(∀(s:Shared)(u:Value),BindsTo s o ⟨[u],[]⟩ [("_law_script",u)])/\∀b:Heap,(K w.params).In b->b.Ns mainGlobals mg->bL l.prog w (K w.params) mg b VZ k p o ["_law_script"] (A8 (K w.params))):
 PySem.W.WalkO q c E j l.row.toRowW d [] (λf us=>PySem.call f us):=
 L2.Jg (n:=63) (k:=k) (x:="_law_script") (CX:=λ_=>VZ) (sp:=λw=>A8 (K w.params)) v (by decide) i t D e A H g F (λ_ _ a r y C B=>⟨a,r,rfl,C,B,y,λ_=>rfl⟩) λ_ _ _ _ _ z=>z
def SI:aT:=λ_ _ _=>False
private theorem Xr{K:Frag}{f:Addr}{e:FuncData}{ps:List Str}:bL P w K mg a (eu P w) k f e ps (nY K n .s SI):=
 ⟨by rintro d H Q E ⟨_,_,_,_,_,_,_,z,_⟩;exact z.elim,by rintro A b s H c g d Q E h j i r ⟨_,_,_,_,_,_,_,z,_⟩;exact z.elim⟩
private theorem Df.kP{K:Frag}{st:Stmt}{ps:List Str}{f:Addr}{g:FuncData}{k n:Nat}{m:Md}{sp:aT}(D:Df K mg x st ps f g)(F:bL P w K mg a (eu P w) k f g ps (nY K n m sp))(i:n=ps.length)(h:∀ws P R,sp ws P R->ws.length=n){d:Nat}(j:k<=d):
 ∃e n c,mg x=some e/\bW P w K mg a c e n (nY K n m sp)/\c<=d/\∀ws P R,sp ws P R->ws.length=n:=by
 subst i;exact⟨_,_,k,D.m,.fn D.F.kp D.b F,j,h⟩
end VL
namespace VL
open PySem PySem.Spec
open PyProof.Rows hiding St
open L2 Num
abbrev aU(m:Md)(P:W->Prop)(R:Addr->Prop):Dn:=⟨fall m P,P,λ_=>False,λ_=>False,R⟩
noncomputable def wI(a:List Int):W:=.lst (a.map W.int)
private theorem gy(J:Nat->Ev->Prop)(l:J 0 a)(h:∀i w a N,ws[i]?=some w->J i a->(∀c,J (i+1) c->N c)->b w ⟨N,D.rt,D.nx,N,D.ex⟩ a)(he:∀a,J ws.length a->D.nx a):iQ b D ws a:=by
 have:∀k i a,i+k=ws.length->J i a->iQ b D (ws.drop i) a:=by
  intro k
  induction k with
  |zero=>intro i a e j;rw[List.drop_of_length_le (by lia),iQ];exact he a (by rw[<-e];exact j)
  |succ k g=>
   intro i a e j;have d:i<ws.length:=by lia
   rw[cc d,iQ];exact h i _ a _ (Da d) j λc f=>g (i+1) c (by lia) f
 exact this ws.length 0 a (by lia) l
private theorem aZ(h:x.natAbs<2^n)(b:y.natAbs<2^m)(a:n+m<=134217728):IntMulOk x y:=yJ (FV (Nat.add_le_add (bits_le h) (bits_le b)) a)
private theorem eZ{y:Int}(h:y.natAbs<2^n)(a:n<=8000):y.natAbs.log2<1000000000:=by
 rcases P3 y.natAbs with e|e
 .rw[e];decide
 .have:=(eC (aw e)).mpr h;lia
private theorem GI{y:Int}(h:y.natAbs<2^n)(a:n<=100000000):y.natAbs.log2<1000000000:=by
 rcases P3 y.natAbs with e|e
 .rw[e];decide
 .have:=(eC (aw e)).mpr h;lia
private theorem rA(r:Rat):(r.den:Int)≠0:=by have:=r.den_pos;lia
private theorem Xs(a b:Rat):As (a.num*b.den+b.num*a.den) (a.den*b.den)=a+b:=by
 conv=>rhs;rw[<-IS a,<-IS b]
 exact(ba _ _ (rA a) (rA b)).symm
private theorem SJ(a b:Rat):As (a.num*b.num) (a.den*b.den)=a*b:=by
 conv=>rhs;rw[<-IS a,<-IS b]
 exact(dt _ _).symm
private theorem zx(h:(fh 0 1 n)[i]?=some w):i<n/\w=.int i:=by unfold fh at h;rw[GM]at h;obtain⟨j,e,rfl⟩:=He.mp h;obtain⟨b,a⟩:=Fk.mp e;rw[List.getElem_range]at a;rw[eP]at b;refine⟨b,?_⟩;rw[<-a];simp
private theorem Lm(n:Nat):(fh 0 1 n).length=n:=by unfold fh;simp
private theorem fm{x:Int}(a:0<n):0<=x.fmod n/\x.fmod n<n:=⟨Int.fmod_nonneg_of_pos x a,Int.fmod_lt_of_pos x a⟩
private theorem aH(J:Ev->Prop)(f:∀N:Ev->Prop,(∀a,J a->N a)->wS b G s {D with nx:=N} c)(e:∀a,J a->wSs b G (t::d) D a):wSs b G (s::t::d) D c:=f _ e
noncomputable def rB:List CS:=[.set 2 (.int 1),.Ic (.cmp .Gt (.var 1) (.int 0)) [.iff (.cmp .Eq (.bin .Mod (.var 1) (.int 2)) (.int 1)) [.set 2 (.bin .Mult (.var 2) (.var 0))] [],.set 1 (.bin .FloorDiv (.var 1) (.int 2)),.iff (.cmp .Gt (.var 1) (.int 0)) [.set 0 (.bin .Mult (.var 0) (.var 0))] []],.ret (.var 2)]
def vq:aT:=λa Q _=>∃(x:Int)(e n:Nat),a=[.int x,.int e]/\x.natAbs<2^n/\n*(e+1)<=130000000/\Q (.int (x^e))
private theorem Xu{x:Int}(h:x.natAbs<2^n)(e:Nat):(x^e).natAbs<2^(n*e+1):=by rw[h8];have:x.natAbs^e<=(2^n)^e:=Nat.pow_le_pow_left (SF h) e;rw[<-kf]at this;rw[Zb];have:=d5 (n:=n*e) (show 0<2 by decide);lia
private theorem GJ(ws:List W)(Q:W->Prop)(R:Addr->Prop)(h:vq ws Q R):wSs k G rB (aU m Q R) (au 3 ws):=by
 obtain⟨x,e,n,rfl,g,D,u⟩:=h;show wSs _ _ rB _ [some (.int x),some (.int e),none];unfold rB;fin2;refine nt (α:=Nat×Nat×Nat) (λs=>[some (.int (x^s.1)),some (.int s.2.1),some (.int (x^s.2.2))]) (λs=>s.1*s.2.1+s.2.2=e/\(0<s.2.1->0<s.1)) (λs=>s.2.1) (1,e,0) (by show _=[some (W.int (x^1)),some (W.int (e:Int)),some (W.int (x^0))];rw[ib,Int.pow_zero,kv]) ⟨by show 1*e+0=e;lia,λ_=>by show 0<1;decide⟩ ?_;rintro⟨a,d,p⟩ ⟨t,i⟩;dsimp only at t i;fin2;refine jD (λz=>?_) (λz=>?_)
 .have c:0<d:=by have:=AN z;lia
  have C:=i c;have E:a<=e:=by have:a*1<=a*d:=QP a c;lia
  have B:p+a<=e:=by have:a*1<=a*d:=QP a c;lia
  have a2:2<=d->a+a<=e:=λh=>by have:a*2<=a*d:=QP a h;lia
  have mo:∀q r,q+r<=e->IntMulOk (x^q) (x^r):=λq r h=>aZ (Xu g q) (Xu g r) (by have v:=QP n h;rw[kn]at v;have f:n*e<=n*(e+1):=QP n (cq e);lia);have A:(d:Int).fmod 2=((d%2:Nat):Int):=by rw[Int.fmod_eq_emod_of_nonneg _ (by decide)];lia
  have y:(d:Int).fdiv 2=((d/2:Nat):Int):=by rw[PQ _ (by decide)];lia
  have j:i7 (d:Int) 2:=⟨by decide,by decide⟩;fin2;rw[A,y];refine⟨by decide,?_⟩;have hd:a*d=a*(2*(d/2))+a*(d%2):=by rw[<-kn,gL]
  have w:a*(2*(d/2))=2*a*(d/2):=by rw[T8 2 a,Nat.mul_assoc]
  split
  .rename_i h
   have h:=AN h;have o:d%2=1:=by lia
   rw[o,Nat.mul_one]at hd;refine⟨mo p a B,j,?_⟩;split
   .rename_i b
    have b:=AN b;refine⟨mo a a (a2 (by lia)),(2*a,d/2,p+a),?_,⟨?_,λ_=>?_⟩,?_⟩
    .show[some (W.int (x^a*x^a)),some (W.int ((d/2:Nat):Int)),some (W.int (x^p*x^a))]=[some (W.int (x^(2*a))),some (W.int ((d/2:Nat):Int)),some (W.int (x^(p+a)))];rw[YD,kb,YD]
    .show 2*a*(d/2)+(p+a)=e;lia
    .show 0<2*a;lia
    .show d/2<d;lia
   .rename_i f
    rw[Gc]at f;refine⟨(a,d/2,p+a),?_,⟨?_,λz=>?_⟩,?_⟩
    .show[some (W.int (x^a)),some (W.int ((d/2:Nat):Int)),some (W.int (x^p*x^a))]=[some (W.int (x^a)),some (W.int ((d/2:Nat):Int)),some (W.int (x^(p+a)))];rw[YD]
    .show a*(d/2)+(p+a)=e;have l:d/2=0:=by lia
     rw[l]at hd w⊢;lia
    .exact C
    .show d/2<d;lia
  .rename_i h
   rw[Gc]at h;have o:d%2=0:=by lia
   rw[o,Nat.mul_zero]at hd;refine⟨j,?_⟩;split
   .rename_i b
    have b:=AN b;refine⟨mo a a (a2 (by lia)),(2*a,d/2,p),?_,⟨?_,λ_=>?_⟩,?_⟩
    .show[some (W.int (x^a*x^a)),some (W.int ((d/2:Nat):Int)),some (W.int (x^p))]=[some (W.int (x^(2*a))),some (W.int ((d/2:Nat):Int)),some (W.int (x^p))];rw[kb,YD]
    .show 2*a*(d/2)+p=e;lia
    .show 0<2*a;lia
    .show d/2<d;lia
   .rename_i f
    rw[Gc]at f;lia
 .have c:d=0:=by have:=of_decide_eq_false z;lia
  subst c;fin2;have:p=e:=by lia
  rw[this];exact u
noncomputable def GK:List CS:=[.par [0,1] [(.blt .abs [(.var 0)]),(.blt .abs [(.var 1)])],.Ic (.cmp .Gt (.bits (.var 1)) (.glob 0)) [.par [0,1] [(.var 1),(.bin .Mod (.var 0) (.var 1))],.DA [0,1] (.call 0 [(.call 1 [(.var 0),(.var 1)]),(.var 0),(.var 1)]),.par [0,1] [(.blt .abs [(.var 0)]),(.blt .abs [(.var 1)])]],.Ic (.cmp .NotEq (.var 1) (.int 0)) [.par [0,1] [(.var 1),(.bin .Mod (.var 0) (.var 1))]],.ret (.var 0)]
def Ln:aT:=λc Q _=>∃(a b:Int)(n:Nat),c=[.int a,.int b]/\b.natAbs<2^n/\n<=6000/\Q (.int (A9 a b:Nat))
private theorem Xv(ws:List W)(Q:W->Prop)(R:Addr->Prop)(h:Ln ws Q R):wSs q (bI [.int 6000]) GK (aU m Q R) (au 2 ws):=by
 obtain⟨a,b,n,rfl,u,A,s⟩:=h;show wSs _ _ GK _ [some (.int a),some (.int b)];unfold GK;have w:(if a<0 then-a else a)=(a.natAbs:Int):=by split<;>lia
 have v:(if b<0 then-b else b)=(b.natAbs:Int):=by split<;>lia
 have t:A9 (a.natAbs:Int) (b.natAbs:Int)=A9 a b:=rfl;refine aH (λc=>c=[some (.int (a.natAbs:Int)),some (.int (b.natAbs:Int))]) (λN k=>?_) ?_
 .fin2;rw[w,v];exact⟨rfl,k _ rfl⟩
 rintro _ rfl;have p:Builtin.Int.intBits (b.natAbs:Int)<=n:=bits_le (by rw[Cg];exact u);refine aH (λc=>c=[some (.int (a.natAbs:Int)),some (.int (b.natAbs:Int))]) (λN k=>?_) ?_
 .dsimp only[wS];refine nt (α:=Unit) (λ_=>[some (.int (a.natAbs:Int)),some (.int (b.natAbs:Int))]) (λ_=>True) (λ_=>0) () rfl trivial ?_;rintro _ _;fin2;refine jD (λz=>?_) (λ_=>k _ rfl);have:=AN z;lia
 rintro _ rfl;fin2;refine nt (α:=Int×Int) (λx=>[some (.int x.1),some (.int x.2)]) (λx=>A9 x.1 x.2=A9 a b/\0<=x.1/\0<=x.2) (λx=>x.2.natAbs) (a.natAbs,b.natAbs) rfl ⟨t,eR _,eR _⟩ ?_;rintro⟨x,y⟩ ⟨i,r,d⟩;dsimp only at i r d;fin2;refine jD (λj=>?_) (λj=>?_)
 .have g:y≠0:=by simpa using j
  have o:=qk x y (x.fdiv y);have l:=EU x y g;have f:=fm (x:=x) (n:=y) (by clear l o g;lia);rw[<-Num.fmod_eq]at o l;fin2;exact⟨g,rfl,(y,x.fmod y),rfl,⟨o.trans i,d,f.1⟩,l⟩
 .have g:y=0:=by simpa using j
  subst g;fin2;have e:x=((A9 a b:Nat):Int):=by rw[<-i,eg];lia
  rw[e];exact s
end VL
namespace L2
open PySem
end L2
namespace VL
open PySem PySem.Spec
open PyProof.Rows hiding St
open L2 Num
private theorem Lo(a st:Int)(n:Nat):(fh a st n).length=n:=by unfold fh;simp
end VL
namespace L2
open PySem
end L2
namespace VL
open PySem PySem.Spec
open PyProof.Rows hiding St
open L2 Num
noncomputable def vt:List CS:=[.DA [2,3] (.var 0),.DA [4,5] (.var 1),.set 6 (.call 0 [(.var 2),(.var 5)]),.set 7 (.call 0 [(.var 4),(.var 3)]),.ret (.tup [(.bin .Mult (.bin .FloorDiv (.var 2) (.var 6)) (.bin .FloorDiv (.var 4) (.var 7))),(.bin .Mult (.bin .FloorDiv (.var 3) (.var 7)) (.bin .FloorDiv (.var 5) (.var 6)))])]
def rC:aT:=λe Q _=>∃(a b:Rat)(d c n m:Nat),e=[wq a,wq b]/\(Ud d n a/\Ud c m b/\d<=1000000/\c<=1000000/\n<=6000/\m<=6000)/\Q (wq (a*b))
private theorem Lp(ws:List W)(Q:W->Prop)(R:Addr->Prop)(h:rC ws Q R):wSs (bg [Ln]) G vt (aU m Q R) (au 8 ws):=by
 obtain⟨a,b,B,A,n,m,rfl,⟨e,d,C,F,D,E⟩,q⟩:=h;show wSs _ _ vt _ [some (wq a),some (wq b),none,none,none,none,none,none];unfold vt wq;unfold wq at q;have z:=e.1;have j:(a.den:Int).natAbs<2^n:=by rw[Cg];exact e.2
 have y:=d.1;have k:(b.den:Int).natAbs<2^m:=by rw[Cg];exact d.2
 obtain⟨r,p,t,s⟩:=EV a b;have o:((A9 a.num b.den:Nat):Int).natAbs<2^m:=by have:((A9 a.num b.den:Nat):Int)<=b.den:=cw (dpos b) (PP ..);lia
 have l:((A9 b.num a.den:Nat):Int).natAbs<2^n:=by have:((A9 b.num a.den:Nat):Int)<=a.den:=cw (dpos a) (PP ..);lia
 fin2;refine⟨rfl,?_⟩;fin2;refine⟨rfl,?_⟩;fin2;refine⟨a.num,b.den,m,rfl,k,by lia,?_⟩;refine⟨b.num,a.den,n,rfl,j,by lia,?_⟩;generalize((A9 a.num b.den:Nat):Int)=f at*;generalize((A9 b.num a.den:Nat):Int)=g at*;have cf:∀i:Int,i7 i f:=λi=>⟨by lia,eZ o (by lia)⟩;have c:∀i:Int,i7 i g:=λi=>⟨by lia,eZ l (by lia)⟩;have x:(a.num/f).natAbs<2^B:=Kj (Re ..) z;have w:(b.num/g).natAbs<2^A:=Kj (Re ..) y;have v:((a.den:Int)/g).natAbs<2^n:=Kj (Re ..) j;have u:((b.den:Int)/f).natAbs<2^m:=Kj (Re ..) k;fin2;simp only[PQ _ (Ta r),PQ _ (Ta p)];refine⟨cf _,c _,aZ x w (by lia),c _,cf _,aZ v u (by lia),ay (by simp),?_⟩;rw[t,s]at q;exact q
noncomputable def zA:List CS:=[.DA [2,3] (.var 1),.iff (.cmp .Eq (.var 2) (.int 0)) [.Aw] [],.iff (.cmp .Lt (.var 2) (.int 0)) [.ret (.call 0 [(.var 0),(.tup [(.neg (.var 3)),(.neg (.var 2))])])] [],.ret (.call 0 [(.var 0),(.tup [(.var 3),(.var 2)])])]
def GL:aT:=λe Q R=>∃(a b:Rat)(d c n:Nat),e=[wq a,wq b]/\(Ud d n a/\Ud c c b/\d<=1000000/\c<=6000/\n<=6000)/\(b=0->False)/\(b≠0->Q (wq (a*b⁻¹)))
private theorem SM(ws:List W)(Q:W->Prop)(R:Addr->Prop)(h:GL ws Q R):wSs (bg [rC]) G zA (aU m Q R) (au 4 ws):=by
 obtain⟨a,b,o,g,n,rfl,⟨l,k,i,p,c⟩,j,q⟩:=h;show wSs _ _ zA _ [some (wq a),some (wq b),none,none];unfold zA
 conv=>arg 5;arg 2;arg 1;unfold wq
 fin2;refine⟨rfl,?_⟩;fin2;by_cases hz:b.num=0
 .rw[BM (Bz hz)];exact j (dk.mp hz)
 have q:=q λz=>hz (by rw[z];rfl);rw[B1 (by rw[Gc];exact hz)];have bi:Ud g g b⁻¹:=E2 (n:=g) k hz;have d:∀t u:Int,b⁻¹.num=t->(b⁻¹.den:Int)=u->bg [rC] 0 [wq a,.tup [.int t,.int u]] Q R:=λt u f e=>by refine⟨a,b⁻¹,o,g,n,g,?_,⟨l,bi,i,by lia,c,p⟩,q⟩;rw[<-f,<-e];rfl
 by_cases c:b.num<0
 .rw[BM (Bz c)];obtain⟨f,e⟩:=inv_neg b c;exact⟨ay (by simp),d _ _ f e⟩
 .rw[B1 (by rw[Gc];exact c)];obtain⟨f,e⟩:=inv_pos b (by lia);exact⟨ay (by simp),d _ _ f e⟩
structure acR(A B fA fB:List Int)(ld h:Int)(N E:Nat):Prop where
 l2:2<=B.length
 lab:B.length<=A.length
 l15:A.length<=15
 lf:fA.length<=40
 lf2:fB.length<=40
 bA:∀x∈A,x.natAbs<2^N
 bB:∀x∈B,x.natAbs<2^N
 bfA:∀x∈fA,x.natAbs<2^N
 bfB:∀x∈fB,x.natAbs<2^N
 bl:ld.natAbs<2^N
 bh:h.natAbs<2^N
 hN:N<=5000
 hE:E<=12000
 k0:ld*h^(A.length -B.length)≠0
 kE:(ld*h^(A.length -B.length)).natAbs<=2^E
 h0:0<A.length -B.length->h^(A.length -B.length -1)≠0/\(h^(A.length -B.length -1)).natAbs<=2^E
def Nv(x:Addr)(H H':Hp):Prop:=∀b o,b≠x->H b=some o->H' b=some o
private theorem Ba{K:Frag}(i:Int):Rep K A H (.int i) (.int i):=by dsimp only[Rep]
noncomputable def zB:List CS:=[.DA [2,3] (.var 0),.DA [4,5] (.var 1),.set 6 (.call 0 [(.var 3),(.var 5)]),.iff (.cmp .Eq (.var 6) (.int 1)) [.ret (.tup [(.bin .Add (.bin .Mult (.var 2) (.var 5)) (.bin .Mult (.var 4) (.var 3))),(.bin .Mult (.var 3) (.var 5))])] [],.set 3 (.bin .FloorDiv (.var 3) (.var 6)),.set 7 (.bin .Add (.bin .Mult (.var 2) (.bin .FloorDiv (.var 5) (.var 6))) (.bin .Mult (.var 4) (.var 3))),.set 8 (.call 0 [(.var 7),(.var 6)]),.ret (.tup [(.bin .FloorDiv (.var 7) (.var 8)),(.bin .Mult (.var 3) (.bin .FloorDiv (.var 5) (.var 8)))])]
def Bb:aT:=λc Q _=>∃(a b:Rat)(n m:Nat),c=[wq a,wq b]/\(Bd n a/\Bd m b/\n<=6000/\m<=6000)/\Q (wq (a+b))
private theorem SN(ws:List W)(Q:W->Prop)(R:Addr->Prop)(h:Bb ws Q R):wSs (bg [Ln]) G zB (aU x Q R) (au 9 ws):=by
 obtain⟨a,b,n,m,rfl,⟨t,s,F,H⟩,q⟩:=h;show wSs _ _ zB _ [some (wq a),some (wq b),none,none,none,none,none,none,none];unfold zB;unfold wq at q⊢;have v:=t.1;have w:(a.den:Int).natAbs<2^n:=by rw[Cg];exact t.2
 have u:=s.1;have k:(b.den:Int).natAbs<2^m:=by rw[Cg];exact s.2
 fin2;refine⟨rfl,?_⟩;fin2;refine⟨rfl,?_⟩;fin2;refine⟨a.den,b.den,m,rfl,k,by lia,?_⟩;fin2;by_cases h:((A9 a.den b.den:Nat):Int)=1
 .rw[BM (Bz h)];obtain⟨j,e⟩:=Jx a b (by lia);fin2;refine⟨aZ v k (by lia),aZ u w (by lia),aZ w k (by lia),ay (by simp),?_⟩;rw[j,e]at q;exact q
 .rw[B1 (by rw[Gc];exact h)];obtain⟨_,_,rfl,rfl,p,C,B,E,D,l,j,e⟩:=Jw a b;have c:((A9 a.den b.den:Nat):Int).natAbs<2^m:=by have:((A9 a.den b.den:Nat):Int)<=b.den:=cw (dpos b) (PP ..);lia
  generalize((A9 a.den b.den:Nat):Int)=g at*;have r:∀i:Int,i7 i g:=λi=>⟨by lia,eZ c (by lia)⟩;have d:((a.den:Int)/g).natAbs<2^n:=by clear j e l;generalize(a.den:Int)/g=z at*;lia
  have o:((b.den:Int)/g).natAbs<2^m:=by clear j e l;generalize(b.den:Int)/g=z at*;lia
  fin2;simp only[PQ _ (Ta p)];refine⟨r _,r _,aZ v o (by lia),aZ u d (by lia),?_⟩;fin2;refine⟨_,g,m,rfl,c,by lia,?_⟩;have y:((A9 (a.num*((b.den:Int)/g)+b.num*((a.den:Int)/g)) g:Nat):Int)<=g:=cw p (PP ..);generalize((A9 (a.num*((b.den:Int)/g)+b.num*((a.den:Int)/g)) g:Nat):Int)=f at*;have cf:∀i:Int,i7 i f:=λi=>⟨by lia,eZ (n:=m) (by lia) (by lia)⟩;have A:((b.den:Int)/f).natAbs<2^m:=Kj (Re ..) k;fin2;simp only[PQ _ (Ta l)];refine⟨cf _,cf _,aZ d A (by lia),ay (by simp),?_⟩;rw[j,e]at q;exact q
end VL
namespace VL
open PySem PySem.Spec
open PyProof.Rows hiding St
open L2
def Fns(P:Program)(w:World)(K:Frag)(mg:Str->Option Value)(a:Heap)(k:Nat):List Str->List Md->List aT->Prop
 |x::fn,m::d,S::Ss=>(∃c n b,mg x=some c/\bW P w K mg a b c n (nY K n m S)/\b<=k/\∀ws P R,S ws P R->ws.length=n)/\Fns P w K mg a k fn d Ss
 |[],_,_=>True
 |_,_,_=>False
private theorem GN{K:Frag}:∀{fn:List Str}{b:List Md}{Ss:List aT},Fns P w K mg a k fn b Ss->∀(j:Nat)(x:Str),fn[j]?=some x->∃d n c,mg x=some d/\bW P w K mg a c d n (nY K n (eY b j) (bg Ss j))/\c<=k/\∀ws P R,bg Ss j ws P R->ws.length=n
 |y::fn,m::b,S::Ss,h,0,x,e=>by
  cases e;exact h.1
 |y::fn,m::b,S::Ss,h,j+1,x,e=>GN (fn:=fn) h.2 j x e
 |[],_,_,_,j,x,e=>by cases e
 |_::_,[],_,h,_,_,_=>h.elim
 |_::_,_::_,[],h,_,_,_=>h.elim
end VL
namespace VL
open PySem PySem.Spec
open PyProof.Rows hiding St
open L2 Num
private theorem aap{x y:W}:jg [x,y] 0=some x:=rfl
private theorem aaq{x y:W}:jg [x,y] 1=some y:=rfl
noncomputable def bt(X:Nat):Nat->Nat
 |0=>X
 |s+1=>2*bt X s+2*X+2
end VL
namespace Num
open Sub VL
end Num
namespace VL
open PySem PySem.Spec
open PyProof.Rows hiding St
open L2 Num
private theorem SQ(x:Rat):W.tup [.int (0 -x.num),.int x.den]=wq (-x):=by unfold wq;rw[YA,YB,W0]
noncomputable def nv:List CS:=[.ret (.tup [(.neg (.ix (.var 0) (.int 0))),(.ix (.var 0) (.int 1))])]
def mq:aT:=λa Q _=>∃x:Rat,a=[wq x]/\Q (wq (-x))
private theorem C0(ws:List W)(Q:W->Prop)(R:Addr->Prop)(h:mq ws Q R):wSs a G nv (aU m Q R) (au 1 ws):=by obtain⟨x,rfl,b⟩:=h;show wSs _ _ nv _ [some (wq x)];unfold nv wq;fin2;refine⟨_,aap,_,aaq,ay (by simp),?_⟩;have:=SQ x;rw[W0]at this;rw[this];exact b
end VL
namespace sF
open L2 PySem
noncomputable def dg(m:Nat):List Nat:=(NJ 10 m).map Char.toNat
private theorem GO(m:Nat):(Str.ofString (toString ((m:Nat):Int)))=tx (dg m):=by have h:=PySem.W.KIN.signs_num m;have:tx (Str.ofString (toString ((m:Nat):Int))).cps.toList=Str.ofString (toString ((m:Nat):Int)):=kJ _;rw[<-this,h];rfl
private theorem rD(m:Nat):∀c∈dg m,48<=c/\c<=57:=by intro c b;obtain⟨ch,a,e⟩:=IH.mp b;have r:=kA (Nat.isDigit_of_mem_toDigits (by decide) (by decide) a);rw[<-e];exact r
private theorem zC(m:Nat):PySem.NumText.digitsVal (dg m)=m:=PySem.W.KIN.val_back m
private theorem uE(m:Nat):dg m≠[]:=by
 intro h;have:=zC m;have b:(NJ 10 m).length=0:=by have:=IR J9 h;unfold dg at this;rw[FK]at this;exact this
 have a:=ip 10 m;lia
private theorem vv(a:1<=k)(h:m<10^k):(dg m).length<=k:=by unfold dg;rw[FK];exact js a h
private theorem GP(h:m<10):dg m=[m+48]:=by
 have:∀m,m<10->dg m=[m+48]:=by decide
 exact this m h
private theorem SV(h:10<=m):dg m=dg (m/10)++dg (m%10):=by have t:NJ 10 (m/10)++NJ 10 (m%10)=NJ 10 (10*(m/10)+m%10):=Nat.toDigits_append_toDigits (by decide) (by lia) (Nat.mod_lt _ (by decide));rw[gL]at t;unfold dg;rw[<-t,Kk]
private theorem Lq(m:Nat):∀c r,dg m=c::r->c=48->r=[]:=by
 induction m using Nat.strongRecOn with
 |ind m f=>
  intro c r e b;rcases V0 m 10 with h|h
  .rw[GP h]at e;cases e;rfl
  .rw[SV h]at e;cases hd:dg (m/10)with
   |nil=>exact absurd hd (uE _)
   |cons a s=>
    rw[hd]at e;have d:a=c:=by have:=OR e;exact this.1
    have:=f (m/10) (by lia) a s hd (d.trans b);subst this;have v:=zC (m/10);rw[hd,d,b]at v;have:PySem.NumText.digitsVal [48]=0:=rfl;lia
end sF
namespace sF
open L2 PySem VL
noncomputable def GQ(x:List Nat):W:=.tup [.str "name",.str (tx x)]
noncomputable def GR(n:Nat):W:=.tup [.str "number",.int n]
noncomputable def xO(n:Nat):W:=.tup [.str "power",.int n]
noncomputable def sQ:W:=.tup [.str "minus",.int 0]
noncomputable def Bc(o:Nat):W:=.tup [.str (tx [o]),.int 0]
def isLet(c:Nat):Prop:=97<=c/\c<=122
def kr(c:Nat):Prop:=48<=c/\c<=57
inductive G:Nat->Nat->List Nat->List W->Prop where
 |sum {d:Nat} {a r:List Nat} {sa sr:List W} (h:G 1 d a sa) (k:G 4 d r sr):G 0 d (a++r) (sa++sr)
 |term {d:Nat} {a r:List Nat} {sa sr:List W} (h:G 2 d a sa) (k:G 5 d r sr):G 1 d (a++r) (sa++sr)
 |n4 {d:Nat}:G 4 d [] []
 |n5 {d:Nat}:G 5 d [] []
 |c4 {d o:Nat} {a r:List Nat} {sa sr:List W} (ho:o=43\/o=45) (h:G 1 d a sa) (k:G 4 d r sr):G 4 d (32::o::32::(a++r)) (sa++(Bc o::sr))
 |c5 {d o:Nat} {a r:List Nat} {sa sr:List W} (ho:o=42\/o=47) (h:G 2 d a sa) (k:G 5 d r sr):G 5 d (32::o::32::(a++r)) (sa++(Bc o::sr))
 |Uv {d k:Nat} {a:List Nat} {sa:List W} (hk:k<=30) (h:G 3 d a sa):G 2 d (A0 k 45++a) (sa++A0 k sQ)
 |GS {d k e:Nat} {a:List Nat} {sa:List W} (hk:k<=30) (he:e<=12) (h:G 3 d a sa):G 2 d (A0 k 45++(a++94::dg e)) (sa++xO e::A0 k sQ)
 |name {d:Nat} {x:List Nat} (h1:x≠[]) (h2:x.length<=8) (h3:∀c∈x,isLet c):G 3 d x [GQ x]
 |num {d n:Nat} (h:n<10^30):G 3 d (dg n) [GR n]
 |brk {d d':Nat} {a:List Nat} {sa:List W} (h:G 0 d a sa) (hd:d<d'):G 3 d' (40::(a++[41])) sa
private theorem G.head(h:G l d s st):(l=3->∃c r,s=c::r/\(isLet c\/kr c\/c=40)):=by
 induction h with
 |name b f a=>
  rename_i d x
  intro _;cases x with
  |nil=>exact absurd rfl b
  |cons c r=>exact⟨c,r,rfl,.inl (a c Ap)⟩
 |num h=>
  rename_i d n
  intro _;cases e:dg n with
  |nil=>exact absurd e (uE n)
  |cons c r=>exact⟨c,r,rfl,.inr (.inl (rD n c (by rw[e];exact Ap)))⟩
 |brk h hd=>exact λ_=>⟨_,_,rfl,.inr (.inr rfl)⟩
 |_=>intro z;cases z
private theorem G.mono(h:G l d s st):∀{d':Nat},d<=d'->G l d' s st:=by
 induction h with
 |sum _ _ i j=>exact λq=>.sum (i q) (j q)
 |term _ _ i j=>exact λq=>.term (i q) (j q)
 |n4=>exact λ_=>.n4
 |n5=>exact λ_=>.n5
 |c4 a _ _ i j=>exact λq=>.c4 a (i q) (j q)
 |c5 a _ _ i j=>exact λq=>.c5 a (i q) (j q)
 |Uv b _ i=>exact λq=>.Uv b (i q)
 |GS b c _ i=>exact λq=>.GS b c (i q)
 |name g f e=>exact λ_=>.name g f e
 |num h=>exact λ_=>.num h
 |brk h hd _=>exact λq=>.brk h (Bn hd q)
private theorem G.Nx(k:o=43\/o=45)(g:G 1 d b e)(h:G 4 d r c):G 4 d (r++(32::o::32::b)) (c++(e++[Bc o])):=by
 generalize f:4=l at h
 induction h with
 |n4=>have:=G.c4 k g .n4;rw[Kx]at this;exact this
 |c4 a m n i j=>have:=G.c4 a m (j g f);simpa using this
 |_=>cases f
private theorem G.Xx(k:o=42\/o=47)(g:G 2 d b e)(h:G 5 d r c):G 5 d (r++(32::o::32::b)) (c++(e++[Bc o])):=by
 generalize f:5=l at h
 induction h with
 |n5=>have:=G.c5 k g .n5;rw[Kx]at this;exact this
 |c5 a m n i j=>have:=G.c5 a m (j g f);simpa using this
 |_=>cases f
private theorem G.SW(h:G 3 d s st):G 2 d s st:=by simpa using G.Uv (k:=0) (by omega) h
private theorem G.GU(h:G 2 d s st):G 1 d s st:=by simpa using G.term h .n5
private theorem G.up1(h:G 1 d s st):G 0 d s st:=by simpa using G.sum h .n4
end sF
namespace VL
open PySem PySem.Spec
open PyProof.Rows hiding St
open L2
noncomputable def kQ(st:Stmt):List Str:=(aV st).args.map (·.arg)
noncomputable def aar:NameKind->Bool
 |.local=>true
 |.cell=>true
 |_=>false
noncomputable def Ny(st:Stmt):List Str:=((af st).names.filter λy=>aar y.2).map (·.1)
abbrev DT:=List (Str×Nat)
noncomputable def yj(DD:DT)(j:Nat):Str:=match DD[j]? with
 |some y=>y.1
 |none=>""
def Lr(K:Frag)(a:Nat->Stmt):DT->Prop
 |[]=>True
 |(x,i)::l=>(Hd K x (a i)/\gx x x (a i) (kQ (a i)))/\Lr K a l
def Lu(K:Frag):List Str->Prop
 |[]=>True
 |x::l=>nsIn K mainGlobals x=some none/\Lu K l
structure TT(K:Frag)(mg:Str->Option Value)(tp:Nat->Stmt)(DD:DT)(ZZ:List Str)where
 f:Nat->Addr
 d:Nat->FuncData
 D:∀{j:Nat}{x:Str}{i:Nat},DD[j]?=some (x,i)->Df K mg x (tp i) (kQ (tp i)) (f j) (d j)
 Z:∀x∈ZZ,mg x=none
section
variable{P:Program}{w:World}{K:Frag}{mg:Str->Option Value}{base:Heap}{tp:Nat->Stmt}{DD:DT}{ZZ:List Str}
private theorem Be(X:K.In h)(G:h.Ns mainGlobals mg):∀{DD:DT}{j:Nat}{x:Str}{i:Nat},Lr K tp DD->DD[j]?=some (x,i)->∃f a,Df K mg x (tp i) (kQ (tp i)) f a
 |(y,n)::DD,0,x,i,h,e=>by
  cases e;exact Xq X G h.1.1 h.1.2
 |(y,n)::DD,j+1,x,i,h,e=>Be X G (DD:=DD) h.2 e
private theorem Bf(X:K.In h)(G:h.Ns mainGlobals mg):∀{ZZ:List Str},Lu K ZZ->∀x∈ZZ,mg x=none
 |y::ZZ,h,x,a=>by
  rcases Do.mp a with e|a
  .rw[e];exact PySem.W.mg_none_of X G h.1
  .exact Bf X G h.2 x a
open Classical in
private theorem Xy(X:K.In h)(G:h.Ns mainGlobals mg)(a:Lr K tp DD)(z:Lu K ZZ):Nonempty (TT K mg tp DD ZZ):=by
 have H:∀j:Nat,∃f b,∀x i,DD[j]?=some (x,i)->Df K mg x (tp i) (kQ (tp i)) f b:=λj=>by
  cases e:DD[j]? with
  |none=>exact⟨0,fnOf "" "" (aV (tp 0)) (aF (tp 0)) (af (tp 0)) .none .none .none .none none .none .none,λx i q=>nn q⟩
  |some y=>obtain⟨f,b,D⟩:=Be X G a e;exact⟨f,b,λx i q=>by cases q;exact D⟩
 exact⟨⟨λj=>choose (H j),λj=>choose (choose_spec (H j)),λ{j x i} e=>choose_spec (choose_spec (H j)) x i e,Bf X G z⟩⟩
def Cl(P:Program)(w:World)(K:Frag)(mg:Str->Option Value)(base:Heap)(DD:DT)(k j:Nat)(m:Md)(S:aT):Prop:=∃c n b,mg (yj DD j)=some c/\bW P w K mg base b c n (nY K n m S)/\b<=k/\∀a P R,S a P R->a.length=n
def C1(P:Program)(w:World)(K:Frag)(mg:Str->Option Value)(base:Heap)(DD:DT):List (Nat×Md×Nat)->List aT->Prop
 |(j,m,k)::kP,S::Ss=>Cl P w K mg base DD k j m S/\C1 P w K mg base DD kP Ss
 |[],_=>True
 |_::_,[]=>False
private theorem Bg:∀{a:List (Nat×Md×Nat)}{Ss:List aT},C1 P w K mg base DD a Ss->a.all (λy=>decide (y.2.2<=k))=true->Fns P w K mg base k (a.map λy=>yj DD y.1) (a.map (·.2.1)) Ss
 |(j,m,k')::a,S::Ss,h,hk=>by rw[Ai,AC]at hk;obtain⟨f,n,k2,e,d,c,b⟩:=h.1;exact⟨⟨f,n,k2,e,d,FV c (AN hk.1),b⟩,Bg h.2 hk.2⟩
 |[],_,_,_=>trivial
 |_::_,[],h,_=>h.elim
def Gn(K:Frag)(mg:Str->Option Value)(x:Str)(u:W):Prop:=(∃v z,mg x=some v/\RelV z v/\∀B H,Rep K B H u z)/\∀C,u=.cls C->qe K C
def Ij(K:Frag)(mg:Str->Option Value):List Str->List W->Prop
 |x::gn,u::Gs=>Gn K mg x u/\Ij K mg gn Gs
 |[],[]=>True
 |[],_::_=>False
 |_::_,[]=>False
private theorem vA:∀{gn:List Str}{Gs:List W},Ij K mg gn Gs->∀(j:Nat),gn[j]?=none->bI Gs j=.aN
 |_::_,_::_,_,0,e=>by cases e
 |_::gn,_::_,h,j+1,e=>vA (gn:=gn) h.2 j e
 |_::_,[],h,_,_=>h.elim
 |[],[],_,_,_=>rfl
 |[],_::_,h,_,_=>h.elim
private theorem SX(h:∃u,mg x=some u/\RelV (.int i) u):Gn K mg x (.int i):=by obtain⟨u,b,a⟩:=h;exact⟨⟨u,_,b,a,λ_ _=>by dsimp only[Rep]⟩,λC e=>by cases e⟩
private theorem GV(h:mg x=some (.ref C))(e:qe K C):Gn K mg x (.cls C):=
 ⟨⟨_,.ref C,h,rfl,λ_ _=>by dsimp only[Rep]⟩,λa q=>by cases q;exact e⟩
private theorem jF:∀{gn:List Str}{Gs:List W},Ij K mg gn Gs->∀(j:Nat)(x:Str),gn[j]?=some x->Gn K mg x (bI Gs j)
 |y::gn,u::Gs,h,0,x,e=>by
  cases e;exact h.1
 |y::gn,u::Gs,h,j+1,x,e=>jF (gn:=gn) h.2 j x e
 |_::_,[],h,_,_,_=>h.elim
 |[],_,_,_,_,e=>by cases e
private theorem Xz(T:TT K mg tp DD ZZ)(h:C1 P w K mg base DD a Ss)(b:a.all (λy=>decide (y.2.2<=k))=true)(g:Ij K mg gn Gs):Tab P w K mg base (a.map λy=>yj DD y.1) gn ZZ (a.map (·.2.1)) [] (bg Ss) (bI Gs) k:=
 ⟨λj x e _=>GN (Bg h b) j x e,λ_ _ _ _ h=>(by cases h),λj x e=>(jF g j x e).1,T.Z,rq K,λj x C e q=>(jF g j x e).2 C q,λj c q x e z=>by rw[vA g j e]at z;cases z⟩
noncomputable def C2(ZZ:List Str)(st:Stmt)(np n:Nat)(M:Ms)(fn gn:List Str)(a:List Md)(b:List (Nat×Nat))(m:Md)(c:List CS):Bool:=
 decide (((af st).kind=.function/\(af st).isCoroutine=false/\(af st).isGenerator=false/\(Ny st).Nodup/\(Ny st).take (kQ st).length=kQ st)/\(∀x∈kQ st,(af st).names.lookup x=some .local\/(af st).names.lookup x=some .cell)/\(∀y∈(af st).names,y.2≠.free)/\(kQ st).length=np/\(Ny st).length=n/\(M.map (·.1)).Nodup)&&(M.all (λi=>decide (np<=i.1))&&!dG m&&cN ⟨Ny st,(af st).names,M,fn,gn,ZZ,a,b⟩ (eY a) m c (aF st))
private theorem SY(T:TT K mg tp DD ZZ)(q:DD[j]?=some (x,i))(b:C2 ZZ (tp i) np n M fn gn h g m c=true)(l:Tab P w K mg base fn gn ZZ h g e G k)(o:∀ws P R,S ws P R->ws.length=np)(p:∀ws Q R,S ws Q R->wSs e G c (aU m Q R) (au n ws)):
 bL P w K mg base (eu P w) (k+1) (T.f j) (T.d j) (kQ (tp i)) (nY K np m S):=by
 unfold C2 at b;rw[AC,AC,AC]at b;obtain⟨u,⟨t,s⟩,r⟩:=b;obtain⟨⟨z,a2,a3,a4,a5⟩,a6,a7,y,v,a8⟩:=AN u;have a:dG m=false:=by simpa using s
 subst y v;have:=GH (T.D q).F ⟨z,a2,a3,a4,a5,a6,a7⟩ l c M m S t a8 a r o p;cases m<;>first|exact this|cases a
private theorem Bh(T:TT K mg tp DD ZZ)(a:DD[j]?=some (x,i))(b:np=(kQ (tp i)).length)(F:bL P w K mg base (eu P w) k (T.f j) (T.d j) (kQ (tp i)) (nY K np m S))(c:∀ws P R,S ws P R->ws.length=np):Cl P w K mg base DD k j m S:=by
 have e:yj DD j=x:=by unfold yj;rw[a]
 unfold Cl;rw[e];exact(T.D a).kP F b c (BY k)
private theorem zD{st:Stmt}{m:Md}{c:List CS}(h:C2 ZZ st np n M fn gn b a m c=true):np=(kQ st).length:=by unfold C2 at h;rw[AC]at h;exact(AN h.1).2.2.2.1.symm
private theorem aas(T:TT K mg tp DD ZZ)(l:DD[j]?=some (x,i))(np:Nat)(M:Ms)(a:List (Nat×Md×Nat))(gn:List Str)(p:∀ws Q R,S ws Q R->wSs (bg Ss) (bI Gs) c (aU m Q R) (au n ws))(h:C1 P w K mg base DD a Ss)(g:Ij K mg gn Gs)(b:(a.all (λy=>decide (y.2.2<=k))&&C2 ZZ (tp i) np n M (a.map λy=>yj DD y.1) gn (a.map (·.2.1)) [] m c)=true)(e:∀ws P R,S ws P R->ws.length=np):bL P w K mg base (eu P w) (k+1) (T.f j) (T.d j) (kQ (tp i)) (nY K np m S):=by rw[AC]at b;exact SY T l b.2 (Xz T h b.1 g) e p
private theorem zE(T:TT K mg tp DD ZZ)(e:DD[j]?=some (x,i))(np:Nat)(M:Ms)(a:List (Nat×Md×Nat))(gn:List Str)(p:∀ws Q R,S ws Q R->wSs (bg Ss) (bI Gs) c (aU m Q R) (au n ws))(h:C1 P w K mg base DD a Ss)(g:Ij K mg gn Gs)(b:(a.all (λy=>decide (y.2.2<=k))&&C2 ZZ (tp i) np n M (a.map λy=>yj DD y.1) gn (a.map (·.2.1)) [] m c)=true)(d:∀ws P R,S ws P R->ws.length=np):Cl P w K mg base DD (k+1) j m S:=by have F:=aas T e np M a gn p h g b d;rw[AC]at b;exact Bh T e (zD b.2) F d
private theorem ny(T:TT K mg tp DD ZZ)(e:DD[j]?=some (x,i))(np:Nat)(M:Ms)(a:List (Nat×Md×Nat))(p:∀ws Q R,S ws Q R->wSs (bg Ss) (bI []) c (aU m Q R) (au n ws))(h:C1 P w K mg base DD a Ss)(d:(a.all (λy=>decide (y.2.2<=k))&&C2 ZZ (tp i) np n M (a.map λy=>yj DD y.1) [] (a.map (·.2.1)) [] m c)=true)(b:∀ws P R,S ws P R->ws.length=np):Cl P w K mg base DD (k+1) j m S:=zE T e np M a [] p h trivial d b
private theorem rE(T:TT K mg tp DD ZZ)(d:DD[j]?=some (x,i))(np:Nat)(M:Ms)(p:∀ws Q R,S ws Q R->wSs (bg []) (bI []) c (aU m Q R) (au n ws))(b:C2 ZZ (tp i) np n M [] [] [] [] m c=true)(a:∀ws P R,S ws P R->ws.length=np):Cl P w K mg base DD 1 j m S:=zE (k:=0) T d np M [] [] p trivial trivial b a
private theorem GW(T:TT K mg tp DD ZZ)(b:DD[j]?=some (x,i))(a:np=(kQ (tp i)).length):Cl P w K mg base DD k j .s SI:=Bh T b a Xr λ_ _ _ z=>z.elim
end
end VL
namespace VL
open PySem PySem.Spec
open PyProof.Rows hiding St
open L2 sF
abbrev FS:List Str:=["text","place","brackets","steps"]
abbrev Bj:Md:=.o FS [.s,.s,.s,.f]
abbrev RDs:Md:=.o FS [.s,.s,.s,.s]
abbrev Ob(C:Addr)(t:List Nat)(p b:Nat)(w:W):W:=.obj C FS [.str (tx t),.int (p:Nat),.int (b:Nat),w]
abbrev cText:CE:=.own 0 [.fl 0 "text"]
abbrev fK:CE:=.own 0 [.fl 1 "place"]
abbrev S5:CE:=.own 0 [.fl 2 "brackets"]
abbrev rF:List j5:=[.fl 3 "steps"]
def bS(C:Addr):aT:=λa Q _=>∃(t y:List Nat)(p b:Nat)(w:W),a=[Ob C t p b w,.str (tx y)]/\p<=t.length/\Q (.tup [.bl (y.isPrefixOf (t.drop p)),Ob C t p b w])
noncomputable def jW:List CS:=[.MQ (.Ug cText (.var 1) fK)]
private theorem C3{G:Nat->W}(ws:List W)(Q:W->Prop)(R:Addr->Prop)(h:bS C ws Q R):wSs a G jW (aU m Q R) (au 2 ws):=by obtain⟨t,y,p,b,w,rfl,d,c⟩:=h;show wSs _ _ jW _ [some _,some _];unfold jW;fin2;refine⟨rfl,by lia,by lia,?_⟩;exact c
def cH(C:Addr):aT:=λf Q _=>∃(d e:List Nat)(a o c b:Nat)(w:W),f=[Ob C (d++a::o::c::e) d.length b w]/\(d++a::o::c::e).length<=1000/\Q (.tup [.str (tx [o]),Ob C (d++a::o::c::e) (d.length+3) b w])
noncomputable def gA:List CS:=[.set 1 (.ix cText (.bin .Add fK (.int 1))),.Fg 0 1 (.bin .Add fK (.int 3)),.MQ (.var 1)]
private theorem cU{n:Nat}(h:l[n]?=some x):jg l (n:Int)=some x:=by
 have a:=(Fk.mp h).1;unfold jg;have:Aj l.length (n:Int)=some n:=by unfold Aj;simp;omega
 rw[this];exact h
private theorem xP{G:Nat->W}(ws:List W)(Q:W->Prop)(R:Addr->Prop)(h:cH C ws Q R):wSs f G gA (aU m Q R) (au 2 ws):=by
 obtain⟨d,e,a,o,c,b,w,rfl,i,g⟩:=h;show wSs _ _ gA _ [some _,none];unfold gA;fin2;refine⟨ay i,o,?_,?_⟩
 .exact cU (n:=d.length+1) (by rw[Hn (by lia)];simp)
 .fin2;refine⟨by simp,?_⟩;exact g
def bU:aT:=λa Q _=>∃(n m:Nat),a=[.str (tx (dg n)),.int m]/\(dg n).length<=m/\m<=30/\Q (.int n)
noncomputable def fL:List CS:=[.iff (.or [.cmp .Eq (.var 0) (.str ""),.cmp .Gt (.blt .len [.var 0]) (.var 1)]) [.Aw] [],.iff (.and [.cmp .Eq (.ix (.var 0) (.int 0)) (.str "0"),.cmp .NotEq (.var 0) (.str "0")]) [.Aw] [],.ret (.blt .int [.var 0])]
private theorem Bk:("":Str)=tx []:=by decide+kernel
private theorem t_0:("0":Str)=tx [48]:=by decide+kernel
private theorem rG(a b:List Nat):decide (tx a=tx b)=decide (a=b):=Qb.mpr ⟨kK,λe=>by rw[e]⟩
private theorem rH{G:Nat->W}(ws:List W)(Q:W->Prop)(R:Addr->Prop)(h:bU ws Q R):wSs f G fL (aU m Q R) (au 2 ws):=by
 obtain⟨n,m,rfl,i,j,g⟩:=h;show wSs _ _ fL _ [some _,some _];unfold fL;fin2;rw[Bk,rG,Ee (uE n)];fin2;refine⟨ay (by lia),?_⟩;rw[Ee (by lia)];fin2;cases e:dg n with
 |nil=>exact absurd e (uE n)
 |cons c r=>
  refine⟨ay (by rw[e]at i;lia),c,cU (n:=0) rfl,?_⟩;rw[t_0,rG,rG];have b:∃a,intText? (tx (c::r))=some a/\(tx (c::r)).length<=640/\Q (.int a):=by
   refine⟨n,?_,by rw[<-e,yk];lia,g⟩;have hd:NumText.AllDigits (tx (c::r)).cps.toList:=by rw[pR,<-e];exact rD n
   have:=PySem.intText_digits hd (by rw[pR];exact fI _ _) (by rw[<-e,yk];lia);rw[pR,<-e,zC]at this;rw[<-e];exact this
  by_cases d:c=48
  .have:=Lq n c r e d;subst this;subst d;rw[Bz rfl];fin2;exact b
  .rw[Ee (λz=>d (by cases z;rfl))];fin2;exact b
def bX(C:Addr):aT:=λf Q _=>∃(e d a sg:List Nat)(b:Nat)(w:W),f=[Ob C (e++(d++a)) e.length b w,.str (tx sg)]/\(∀c∈d,c∈sg)/\(∀c r,a=c::r->c∉sg)/\(e++(d++a)).length<=1000/\Q (.tup [.str (tx d),Ob C (e++(d++a)) (e.length+d.length) b w])
noncomputable def fM:List CS:=[.set 2 fK,.Ic (.and [.cmp .Lt fK (.blt .len [cText]),.cmp .In (.ix cText fK) (.var 1)]) [.Fg 0 1 (.bin .Add fK (.int 1))],.MQ (.slt cText (.var 2) fK)]
private theorem Lv(a b c:List Nat):sM (a++(b++c)) (some (a.length:Int)) (some ((a.length+b.length:Nat):Int))=b:=by
 unfold sM;have e:HT.cy (a++(b++c)).length 0 (some (a.length:Int))=a.length:=by unfold HT.cy;simp;omega
 have f:(a++(b++c)).length=a.length+(b.length+c.length):=by simp
 have d:HT.cy (a++(b++c)).length (a++(b++c)).length (some ((a.length+b.length:Nat):Int))=a.length+b.length:=by unfold HT.cy;dsimp only;rw[B1 (by lia),LA];lia
 rw[e,d,cb,d4,gb]
private theorem rJ{G:Nat->W}(ws:List W)(Q:W->Prop)(R:Addr->Prop)(h:bX C ws Q R):wSs p G fM (aU m Q R) (au 3 ws):=by
 obtain⟨f,a,d,sg,b,w,rfl,s,u,j,t⟩:=h;show wSs _ _ fM _ [some _,some _,none];unfold fM;fin2;have o:(f++(a++d)).length=f.length+(a.length+d.length):=by simp
 refine nt (α:=Nat) (λk=>[some (Ob C (f++(a++d)) (f.length+k) b w),some (.str (tx sg)),some (.int (f.length:Nat))]) (λk=>k<=a.length) (λk=>a.length -k) 0 rfl (OF _) λk x=>?_;fin2;refine⟨ay j,?_⟩;have i:k=a.length->(aU m Q R).rt (.tup [.str (tx (sM (f++(a++d)) (some (f.length:Int)) (some ((f.length+k:Nat):Int)))),Ob C (f++(a++d)) (f.length+k) b w]):=λe=>by rw[e,Lv];exact t
 by_cases A:f.length+k<(f++(a++d)).length
 .rw[Bz (by omega)];fin2;have l:∃c,(a++d)[k]?=some c/\((k<a.length/\c∈sg)\/(k=a.length/\c∉sg)):=by
   rcases V0 k a.length with z|z
   .refine⟨a[k],?_,.inl ⟨z,s _ (Mo z)⟩⟩;rw[L9 z,Da z]
   .have e:k=a.length:=by lia
    cases g:d with
    |nil=>have:=IR J9 g;rw[Nk]at this;lia
    |cons c r=>refine⟨c,?_,.inr ⟨e,u c r g⟩⟩;rw[Hn z,e];simp
  obtain⟨c,v,n⟩:=l;refine⟨ay j,c,cU (by rw[Hn (by lia),d4];exact v),c,rfl,?_⟩;rcases n with⟨z,y⟩|⟨z,y⟩
  .refine jD (λ_=>?_) (λq=>absurd y (of_decide_eq_false q));fin2;exact⟨by simp,k+1,rfl,by lia,by show a.length -(k+1)<a.length -k;lia⟩
  .refine jD (λq=>absurd (AN q) y) (λ_=>?_);fin2;exact⟨ay j,i z⟩
 .rw[Ee (by omega)];fin2;refine jD (λz=>by cases z) (λ_=>?_);fin2;exact⟨ay j,i (by lia)⟩
def st3(p:List Nat):Prop:=∀c r,p=c::r->¬isLet c/\¬kr c
def st2(p:List Nat):Prop:=st3 p/\∀r,p≠94::r
def st1(p:List Nat):Prop:=st2 p/\∀r,p≠32::42::32::r/\p≠32::47::32::r
def CZ(p:List Nat):Prop:=st1 p/\∀r,p≠32::43::32::r/\p≠32::45::32::r
private theorem XA:∀{p:List Nat},(∀r,p≠a::b::c::r)->Dy [a,b,c] p=false:=λ{p} h=>by rw[S7];intro z;obtain⟨t,e⟩:=c0.mp z;exact h t e.symm
private theorem Lw:∀{p:List Nat},(∀r,p≠a::r)->Dy [a] p=false:=λ{p} h=>by rw[S7];intro z;obtain⟨t,e⟩:=c0.mp z;exact h t e.symm
def cu(i d:Nat)(f:List Nat->Prop)(C:Addr):aT:=λh Q _=>∃(c s a:List Nat)(b:Nat)(e g:List W),h=[Ob C (c++(s++a)) c.length b (.lst e)]/\sF.G i d s g/\f a/\b+d<=30/\(c++(s++a)).length<=1000/\e.length<=c.length/\Q (.tup [.aN,Ob C (c++(s++a)) (c.length+s.length) b (.lst (e++g))])
theorem _root_.sF.G.few{st:List W}(h:sF.G l d s st):st.length<=s.length:=by
 induction h with
 |sum _ _ i j=>simp;lia
 |term _ _ i j=>simp;omega
 |n4=>simp
 |n5=>simp
 |c4 a _ _ i j=>simp;lia
 |c5 a _ _ i j=>simp;omega
 |Uv b _ i=>simp;lia
 |GS b g _ i=>simp;lia
 |name f m k=>
  rename_i d x
  cases x with
  |nil=>exact absurd rfl f
  |cons c r=>simp
 |num h=>
  rename_i d n
  cases e:dg n with
  |nil=>exact absurd e (uE n)
  |cons c r=>simp
 |brk h hd i=>simp;lia
inductive TL(lv d o1 o2:Nat):List Nat->List W->Prop where
 |nil:TL lv d o1 o2 [] []
 |cons {o:Nat} {a r:List Nat} {sa sr:List W} (ho:o=o1\/o=o2) (h:sF.G lv d a sa) (k:TL lv d o1 o2 r sr):TL lv d o1 o2 (32::o::32::(a++r)) (sa++(Bc o::sr))
private theorem tl4(h:sF.G 4 d r a):TL 1 d 43 45 r a:=by
 generalize b:4=l at h
 induction h with
 |n4=>exact .nil
 |c4 c e _ _ j=>exact .cons c e (j b)
 |_=>cases b
private theorem tl5(h:sF.G 5 d r a):TL 2 d 42 47 r a:=by
 generalize b:5=l at h
 induction h with
 |n5=>exact .nil
 |c5 c e _ _ j=>exact .cons c e (j b)
 |_=>cases b
noncomputable def jX(a s2:Str):List CS:=[.DB (.lD 0 0 0 []),.Wl (.or [.lD 0 0 1 [.str a],.lD 0 0 1 [.str s2]]) [.sN 1 (.lD 0 0 2 []),.DB (.lD 0 0 0 []),.MP 0 rF (.tup [.var 1,.int 0])]]
private theorem Bl{t d o1 o2:Nat}(e1:s1=tx [32,o1,32])(e2:s2=tx [32,o2,32])(ne:o1≠o2)
 {b:Nat}{j y v:List W}{Q:W->Prop}{R:Addr->Prop}(ha:sF.G t d a y)(hr:TL t d o1 o2 r v)(h0:J c)(U:∀r,c≠32::o1::32::r)(T:∀r,c≠32::o2::32::r)(hs:∀o r,o=o1\/o=o2->J (32::o::32::r))
 (hb:b+d<=30)(M:(f++((a++r)++c)).length<=1000)(S:j.length<=f.length)(hq:Q (.tup [.aN,Ob C (f++((a++r)++c)) (f.length+(a++r).length) b (.lst (j++(y++v)))])):
 wSs (bg [cu t d J C,bS C,cH C]) (bI [.cls C]) (jX s1 s2) (aU (.io m) Q R) [some (Ob C (f++((a++r)++c)) f.length b (.lst j)),none]:=by
 have sz:∀n,n<=1000->n<=sizeLine:=λn h=>ay h;have B:∀{r v},TL t d o1 o2 r v->J (r++c):=λh=>by
  cases h with
  |nil=>exact h0
  |cons A _ _=>exact hs _ _ A
 generalize L:f++((a++r)++c)=e at M hq⊢;unfold jX;fin2;refine⟨rfl,f,a,r++c,b,j,y,?_,ha,B hr,hb,?_,S,_,_,rfl,?_⟩
 .rw[<-L,NO]
 .rw[<-NO a,L];exact M
 have ew:f++(a++(r++c))=e:=by rw[<-L,NO]
 rw[ew];have few:=ha.few;refine⟨λm K=>∃(g q:List Nat)(p x:List W)(s:Option W),g++(q++c)=e/\TL t d o1 o2 q x/\p++x=j++(y++v)/\p.length<=g.length/\m=q.length/\K=[some (Ob C e g.length b (.lst p)),s],⟨r.length,f++a,r,j++y,v,none,by rw[<-ew];simp,hr,by simp,by simp;lia,rfl,by rw[DL]⟩,?_⟩;rintro P K ⟨g,q,p,x,s,F,g2,X,g4,rfl,rfl⟩;have O:g.length<=e.length:=by rw[<-F,DL];lia
 have dr:e.drop g.length=q++c:=by rw[<-F,cb]
 fin2;refine⟨rfl,e,[32,o1,32],g.length,b,_,by rw[e1],O,_,_,rfl,?_⟩;rw[dr];fin2;have u:∀(o:Nat)(k l:List Nat)(i w:List W)(s:Option W)(N:Ev->Prop),o=o1\/o=o2->q=32::o::32::(k++l)->x=i++(Bc o::w)->sF.G t d k i->TL t d o1 o2 l w->
  N=(λK=>∃P,P<q.length/\∃(g q:List Nat)(p x:List W)(s:Option W),g++(q++c)=e/\TL t d o1 o2 q x/\p++x=j++(y++v)/\p.length<=g.length/\P=q.length/\K=[some (Ob C e g.length b (.lst p)),s])->
  wSs (bg [cu t d J C,bS C,cH C]) (bI [.cls C]) [.sN 1 (.lD 0 0 2 []),.DB (.lD 0 0 0 []),.MP 0 rF (.tup [.var 1,.int 0])] {nx:=N,rt:=(aU (.io m) Q R).rt,bk:=(aU (.io m) Q R).nx,ct:=N,ex:=(aU (.io m) Q R).ex} [some (Ob C e g.length b (.lst p)),s]:=λo k l i w s N A er es E D eN=>by
  subst er es eN;have I:g++(32::o::32::((k++l)++c))=e:=by rw[<-F];simp
  have H:(g++[32,o,32])++(k++(l++c))=e:=by rw[<-F];simp
  have aeH:=E.few;fin2;refine⟨rfl,g,_,32,o,32,b,_,by rw[I],by rw[I];exact M,_,_,rfl,?_⟩;rw[I];fin2;refine⟨rfl,g++[32,o,32],k,l++c,b,p,i,by rw[H];simp,E,B D,hb,by rw[H];exact M,by simp;lia,_,_,rfl,?_⟩;rw[H];fin2;have l2:(p++i).length<sizeLine:=by have Z:=IR J9 H;simp at Z;refine Bn (m:=1001) ?_ (by decide);rw[DL];lia
  refine⟨ay (by show 2<=1000;decide),l2,l.length,by simp;lia,g++(32::o::32::k),l,(p++i)++[Bc o],w,some (.str (tx [o])),by rw[<-H];simp,D,by rw[<-X];simp,by simp;lia,rfl,?_⟩;have e6:((g++[32,o,32]).length+k.length:Nat)=(g++(32::o::32::k)).length:=by simp;lia
  rw[e6];rfl
 cases g2 with
 |nil=>
  rw[MF,XA U];fin2;refine⟨rfl,e,[32,o2,32],g.length,b,_,by rw[e2],O,_,_,rfl,?_⟩;rw[dr,MF,XA T];fin2;have I:g.length=f.length+(a++r).length:=by have:=IR J9 (F.trans L.symm);simp at this⊢;lia
  rw[Kx]at X;rw[I,X];exact hq
 |cons A E D=>
  rename_i o k l i w
  by_cases Y:o=o1
  .have:Dy [32,o1,32] (32::o::32::(k++l)++c)=true:=by rw[Y];simp[Dy]
   rw[this];fin2;exact⟨_,λ_ z=>z,u o k l i w s _ A rfl rfl E D rfl⟩
  .have Z:o=o2:=A.resolve_left Y;have:Dy [32,o1,32] (32::o::32::(k++l)++c)=false:=by simp[Dy,Oy Y]
   rw[this];fin2;refine⟨rfl,e,[32,o2,32],g.length,b,_,by rw[e2],O,_,_,rfl,?_⟩;have:Dy [32,o2,32] (32::o::32::(k++l)++c)=true:=by rw[Z];simp[Dy]
   rw[dr,this];fin2;exact⟨_,λ_ z=>z,u o k l i w s _ A rfl rfl E D rfl⟩
private theorem Ly(o:Nat)(s:Str)(h:s=tx [32,o,32]:=by decide+kernel):s=tx [32,o,32]:=h
private theorem xQ:¬isLet 32/\¬kr 32:=by unfold isLet kr;lia
private theorem zF(ws:List W)(Q:W->Prop)(R:Addr->Prop)(h:cu 0 d CZ C ws Q R):wSs (bg [cu 1 d st1 C,bS C,cH C]) (bI [.cls C]) (jX " + " " - ") (aU (.io m) Q R) (au 2 ws):=by
 obtain⟨i,s,f,b,g,t,rfl,q,a,p,n,j,l⟩:=h;cases q with
 |sum h k=>
  refine Bl (Ly 43 _) (Ly 45 _) (by decide) h (tl4 k) a.1 (λr=>(a.2 r).1) (λr=>(a.2 r).2) (λo r u=>⟨⟨λc r e=>by cases e;exact xQ,λr e=>by cases e⟩,λr=>⟨λe=>?_,λe=>?_⟩⟩) p n j l
  .cases e;omega
  .cases e;omega
private theorem xR(ws:List W)(Q:W->Prop)(R:Addr->Prop)(h:cu 1 d st1 C ws Q R):wSs (bg [cu 2 d st2 C,bS C,cH C]) (bI [.cls C]) (jX " * " " / ") (aU (.io m) Q R) (au 2 ws):=by
 obtain⟨i,s,f,b,g,t,rfl,q,a,p,n,j,l⟩:=h;cases q with
 |term h k=>exact Bl (Ly 42 _) (Ly 47 _) (by decide) h (tl5 k) a.1 (λr=>(a.2 r).1) (λr=>(a.2 r).2) (λo r u=>⟨λc r e=>by cases e;exact xQ,λr e=>by cases e⟩) p n j l
private theorem aat(d:¬isLet c/\¬kr c)(b:c≠94)(a:c≠32):CZ (c::p):=by
 refine⟨⟨⟨λc r e=>?_,λr e=>?_⟩,λr=>⟨λe=>?_,λe=>?_⟩⟩,λr=>⟨λe=>?_,λe=>?_⟩⟩
 .cases e;exact d
 .cases e;exact b rfl
 .cases e;exact a rfl
 .cases e;exact a rfl
 .cases e;exact a rfl
 .cases e;exact a rfl
private theorem S8:CZ []:=by refine⟨⟨⟨λc r e=>?_,λr e=>?_⟩,λr=>⟨λe=>?_,λe=>?_⟩⟩,λr=>⟨λe=>?_,λe=>?_⟩⟩<;>cases e
noncomputable def cP:List CS:=[.Fg 0 2 (.bin .Add S5 (.int 1)),.iff (.cmp .Gt S5 (.glob 0)) [.Aw] [],.Fg 0 1 (.bin .Add fK (.int 1)),.DB (.lD 0 1 0 []),.Wo (.lD 0 1 1 [.str ")"]) [.Aw] [],.Fg 0 1 (.bin .Add fK (.int 1)),.Fg 0 2 (.bin .Sub S5 (.int 1))]
def S9(d:Nat)(C:Addr):aT:=λg Q _=>∃(a s c:List Nat)(b:Nat)(e f:List W),g=[Ob C (a++(40::(s++41::c))) a.length b (.lst e)]/\sF.G 0 d s f/\b+d<30/\(a++(40::(s++41::c))).length<=1000/\e.length<=a.length/\Q (.tup [.aN,Ob C (a++(40::(s++41::c))) (a.length+(s.length+2)) b (.lst (e++f))])
private theorem oF(ws:List W)(Q:W->Prop)(R:Addr->Prop)(h:S9 d C ws Q R):wSs (bg [cu 0 d CZ C,bS C]) (bI [.int 30,.cls C]) cP (aU (.io m) Q R) (au 1 ws):=by
 obtain⟨c,s,a,b,g,k,rfl,n,u,j,t,i⟩:=h;have f:(c++[40])++(s++41::a)=c++(40::(s++41::a)):=by simp
 generalize r:c++(40::(s++41::a))=e at j i f⊢;show wSs _ _ cP _ [some _];unfold cP;fin2;refine⟨by simp,?_⟩;rw[Ee (by lia)];fin2;refine⟨by simp,rfl,c++[40],s,41::a,b+1,g,k,by rw[f,DL];rfl,n,aat (by unfold isLet kr;lia) (by decide) (by decide),by lia,by rw[f];exact j,by simp;lia,_,_,rfl,?_⟩;rw[f];fin2;have q:e.drop ((c++[40]).length+s.length)=41::a:=by rw[<-f,<-NO,<-DL,cb]
 refine⟨rfl,e,[41],(c++[40]).length+s.length,b+1,_,by rw[show(")":Str)=tx [41] by decide+kernel],by rw[<-f];simp;lia,_,_,rfl,?_⟩;have l:Dy [41] (41::a)=true:=by simp[Dy]
 rw[q,l];fin2;rw[B1 (show¬(!true)=true by decide)];refine⟨by simp,by simp,?_⟩;have p:(((c++[40]).length+s.length+1:Nat))=c.length+(s.length+2):=by simp;lia
 have o:((b+1:Nat):Int) -1=(b:Nat):=by lia
 rw[<-p]at i;rw[o];exact i
noncomputable def cR:List CS:=[.sN 1 (.call 0 [.lD 0 3 1 [.glob 0],.glob 1]),.iff (.cmp .Gt (.var 1) (.glob 2)) [.Aw] [],.MP 0 rF (.tup [.str "power",.var 1])]
noncomputable def GX:List Nat:=[48,49,50,51,52,53,54,55,56,57]
noncomputable def lets:List Nat:=[97,98,99,100,101,102,103,104,105,106,107,108,109,110,111,112,113,114,115,116,117,118,119,120,121,122]
private theorem mw:c∈GX↔kr c:=by rw[show GX=Xg 48 10 from rfl,eM];unfold kr;lia
private theorem mz:c∈lets↔isLet c:=by rw[show lets=Xg 97 26 from rfl,eM];unfold isLet;lia
private theorem GY:("0123456789":Str)=tx GX:=by decide+kernel
private theorem nA:("abcdefghijklmnopqrstuvwxyz":Str)=tx lets:=by decide+kernel
def Lz(C:Addr):aT:=λf Q _=>∃(c a:List Nat)(b e:Nat)(d:List W),f=[Ob C (c++(dg e++a)) c.length b (.lst d)]/\e<=12/\st3 a/\(c++(dg e++a)).length<=1000/\d.length<=c.length/\Q (.tup [.aN,Ob C (c++(dg e++a)) (c.length+(dg e).length) b (.lst (d++[xO e]))])
private theorem oG(ws:List W)(Q:W->Prop)(R:Addr->Prop)(h:Lz C ws Q R):wSs (bg [bU,bX C]) (bI [.str "0123456789",.int 2,.int 12,.cls C]) cR (aU (.io m) Q R) (au 2 ws):=by
 obtain⟨a,d,b,e,g,rfl,p,j,f,o,i⟩:=h;show wSs _ _ cR _ [some _,none];unfold cR;fin2;refine⟨rfl,a,dg e,d,GX,b,_,by rw[GY],λc k=>mw.mpr (rD e c k),λc r q=>λz=>(j c r q).2 (mw.mp z),f,_,_,rfl,?_⟩;fin2;have l:(dg e).length<=2:=vv (by decide) (by lia);refine⟨e,2,rfl,l,by decide,?_⟩;fin2;rw[Ee (by lia)];fin2;have n:a.length<=1000:=by rw[DL]at f;lia
 exact⟨ay (by show 2<=1000;decide),Bn (m:=1001) (by lia) (by decide),i⟩
noncomputable def eK:List CS:=[.sN 1 (.blt .len [.lD 0 1 0 [.str "-"]]),.iff (.cmp .Gt (.var 1) (.glob 0)) [.Aw] [],.DB (.lD 0 1 1 []),.Um (.lD 0 1 2 [.str "^"]) [.Fg 0 1 (.bin .Add fK (.int 1)),.DB (.lD 0 1 3 [])] [],.OW 0 rF (.bin .Mult (.lst [.tup [.str "minus",.int 0]]) (.var 1))]
private theorem sR(ws:List W)(Q:W->Prop)(R:Addr->Prop)(h:cu 2 d st2 C ws Q R):wSs (bg [bX C,cu 3 d st3 C,bS C,Lz C]) (bI [.int 30,.cls C]) eK (aU (.io m) Q R) (au 2 ws):=by
 obtain⟨g,s,f,b,j,P,rfl,T,H,S,w,hs,O⟩:=h;obtain⟨k,a,x,o,u,y,K,rfl,rfl,N⟩:∃(k:Nat)(a x:List Nat)(o u:List W),k<=30/\sF.G 3 d a o/\s=A0 k 45++(a++x)/\P=o++(u++A0 k sQ)/\((x=[]/\u=[])\/∃e,e<=12/\x=94::dg e/\u=[xO e]):=by
  cases T with
  |Uv y h=>exact⟨_,_,[],_,[],y,h,by simp,by simp,.inl ⟨rfl,rfl⟩⟩
  |GS y I h=>exact⟨_,_,_,_,_,y,h,rfl,rfl,.inr ⟨_,I,rfl,rfl⟩⟩
 have few:=K.few;have A:g++(A0 k 45++((a++x)++f))=g++((A0 k 45++(a++x))++f):=by simp
 have t:(g++A0 k 45)++(a++(x++f))=g++((A0 k 45++(a++x))++f):=by simp
 generalize hw:g++((A0 k 45++(a++x))++f)=i at w O A t⊢;show wSs _ _ eK _ [some _,none];unfold eK;fin2;refine⟨rfl,g,A0 k 45,(a++x)++f,[45],b,_,by rw[A,show("-":Str)=tx [45] by decide+kernel],λc J=>by rw[(List.mem_replicate.mp J).2];exact Dx.mpr rfl,λc r e=>?_,by rw[A];exact w,_,_,rfl,?_⟩
 .obtain⟨c',r',Y,J⟩:=K.head rfl;rw[Y]at e;cases e;rw[Dx];unfold isLet kr at J;lia
 rw[A];fin2;rw[T1];refine⟨ay (by lia),?_⟩;rw[Ee (by lia)];fin2;have F:st3 (x++f):=by
  rcases N with⟨rfl,_⟩|⟨e,_,rfl,_⟩
  .exact H.1
  .intro c r q;cases q;unfold isLet kr;lia
 refine⟨rfl,g++A0 k 45,a,x++f,b,j,o,by rw[t];simp,K,F,S,by rw[t];exact w,by simp;lia,_,_,rfl,?_⟩;rw[t];fin2;have L:(g++A0 k 45).length+a.length=g.length+(k+a.length):=by simp;lia
 have Z:i.drop ((g++A0 k 45).length+a.length)=x++f:=by rw[<-t,<-NO,<-DL,cb]
 have lw:g.length+(k+(a.length+(x.length+f.length)))=i.length:=by rw[<-t];simp only[DL,T1];lia
 refine⟨rfl,i,[94],(g++A0 k 45).length+a.length,b,_,by rw[show("^":Str)=tx [94] by decide+kernel],by lia,_,_,rfl,?_⟩;rw[Z];have D:∀l:List W,List.flatten (A0 ((k:Int)).toNat [W.tup [W.str "minus",W.int 0]])=A0 k sQ:=λ_=>xN _ k;have v:∀(E:List W)(n:Nat),E=u->n=g.length+(A0 k 45++(a++x)).length->Q (.tup [.aN,Ob C i n b (.lst (j++o++E++A0 k sQ))]):=λE n X U=>by rw[X,U];simpa using O
 have z: -(2^63:Int)<=(k:Int)/\(k:Int)<2^63:=by lia
 have B:∀n,n<=2000->n<=sizeLine:=λn h=>FV h (by decide);rcases N with⟨rfl,rfl⟩|⟨e,I,rfl,rfl⟩
 .have:Dy [94] ([]++f)=false:=Lw H.2;rw[this];fin2;refine⟨ay (by show 2<=1000;decide),ay (by show 1<=1000;decide),z.1,z.2,B _ (by show 1*k<=2000;lia),B _ ?_,?_⟩
  .rw[D [],DL,T1];lia
  .have:=v [] ((g++A0 k 45).length+a.length) rfl (by rw[L];simp);rw[Kx]at this;rw[D []];exact this
 .have:Dy [94] (94::dg e++f)=true:=by simp[Dy]
  rw[this];fin2;have p:(g++A0 k 45++a++[94])++(dg e++f)=i:=by rw[<-t];simp
  have M:(g++A0 k 45++a++[94]).length=(g++A0 k 45).length+a.length+1:=by simp;lia
  refine⟨by simp,rfl,g++A0 k 45++a++[94],f,b,e,j++o,by rw[p,M];rfl,I,H.1,by rw[p];exact w,by simp;lia,_,_,rfl,?_⟩;rw[p];fin2;refine⟨ay (by show 2<=1000;decide),ay (by show 1<=1000;decide),z.1,z.2,B _ (by show 1*k<=2000;lia),B _ ?_,?_⟩
  .rw[D [],DL,DL,T1];show j.length+o.length+1+k<=2000;lia
  .have:=v [xO e] ((g++A0 k 45++a++[94]).length+(dg e).length) rfl (by rw[M,L];simp;lia);rw[D []];exact this
noncomputable def gB:List CS:=[.Um (.lD 0 4 0 [.str "("]) [.DB (.lD 0 4 1 []),.MQ .aN] [],.sN 1 (.lD 0 4 2 [.glob 0]),.iff (.cmp .Eq (.var 1) (.str "")) [.Wn 0 3 (.tup [.str "number",.call 3 [.lD 0 4 4 [.glob 1],.glob 2]])] [.iff (.cmp .LtE (.blt .len [.var 1]) (.glob 3)) [.MP 0 rF (.tup [.str "name",.var 1])] [.Aw]]]
def Td:Nat->Addr->aT
 |0,_=>SI
 |d+1,C=>S9 d C
private theorem xS(ws:List W)(Q:W->Prop)(R:Addr->Prop)(h:cu 3 d st3 C ws Q R):wSs (bg [bS C,Td d C,bX C,bU,bX C]) (bI [.str "abcdefghijklmnopqrstuvwxyz",.str "0123456789",.int 30,.int 8,.cls C]) gB (aU (.io m) Q R) (au 2 ws):=by
 obtain⟨g,s,f,b,j,E,rfl,x,w,O,k,I,o⟩:=h;have few:=x.few;show wSs _ _ gB _ [some _,none];have F:g.length<=(g++(s++f)).length:=by rw[DL];lia
 have K:(g++(s++f)).drop g.length=s++f:=cb;unfold gB;fin2;refine⟨rfl,_,[40],g.length,b,_,by rw[show("(":Str)=tx [40] by decide+kernel],F,_,_,rfl,?_⟩;rw[K];have N:g.length<=1000:=by rw[DL]at k;lia
 have L:∀c r,s=c::r->c≠40->Dy [40] (s++f)=false:=λc r e n=>Lw λp z=>by rw[e]at z;cases z;exact n rfl
 cases x with
 |brk h hd=>
  rename_i d0 a
  have:Dy [40] (40::(a++[41])++f)=true:=by simp[Dy]
  rw[this];fin2;have u:g++(40::(a++[41])++f)=g++(40::(a++41::f)):=by simp
  obtain⟨D,rfl⟩:∃D,d=D+1:=⟨d -1,by lia⟩;refine⟨rfl,g,a,f,b,j,E,by rw[<-u];rfl,h.mono (by lia),by lia,by rw[<-u];exact k,I,_,_,rfl,?_⟩;rw[<-u];fin2;have J:(40::(a++[41])).length=a.length+2:=by simp
  rw[J]at o;exact o
 |name A P y=>
  have t:∀c r,s=c::r->c≠40:=λc r e z=>by have:=y c (by rw[e];exact Ap);unfold isLet at this;lia
  have H:Dy [40] (s++f)=false:=Lw λp z=>by
   cases i:s with
   |nil=>exact A i
   |cons c r=>have:=t c r i;rw[i]at z;cases z;exact this rfl
  rw[H];fin2;refine⟨rfl,g,s,f,lets,b,_,by rw[nA],λc l=>mz.mpr (y c l),λc r q z=>(w c r q).1 (mz.mp z),k,_,_,rfl,?_⟩;fin2;rw[Bk,rG,Ee A];fin2;refine⟨ay (by lia),?_⟩;rw[Bz (by lia)];fin2;exact⟨ay (by show 2<=1000;decide),Bn (m:=1001) (by lia) (by decide),o⟩
 |num h=>
  rename_i n
  have B:∀c r,dg n++f=c::r->¬isLet c/\c≠40:=λc r e=>by
   cases v:dg n with
   |nil=>exact absurd v (uE n)
   |cons S p=>rw[v]at e;cases e;have:=rD n c (by rw[v];exact Ap);unfold isLet;lia
  have:Dy [40] (dg n++f)=false:=Lw λp z=>(B _ _ z).2 rfl;rw[this];fin2;refine⟨rfl,g,[],dg n++f,lets,b,_,by rw[nA];rfl,λc l=>(by cases l),λc r q z=>(B c r q).1 (mz.mp z),k,_,_,rfl,?_⟩;fin2;rw[Bk,rG,Bz rfl];fin2;refine⟨j,rfl,λM=>⟨rfl,g,dg n,f,GX,b,.cls M,by rw[GY];rfl,λc l=>mw.mpr (rD n c l),λc r q z=>(w c r q).2 (mw.mp z),k,_,_,rfl,?_⟩⟩;fin2;refine⟨n,30,rfl,vv (by decide) h,by decide,?_⟩;fin2;exact⟨ay (by show 2<=1000;decide),_,rfl,rfl,Bn (m:=1001) (by lia) (by decide),o⟩
def Nz(C:Addr):Sp:=λe H Q _=>∃(x d:Addr)(c:V),e=[.ref x,c]/\H x=some (.ins C d [])/\∀(b:Addr)(a:Hp),Nv x H a->H b=none->a b=some (.lst [])->a x=some (.ins C d (FS.zip [c,.int 0,.int 0,.ref b]))->Q .aN a
def pJ(C:Addr):aT:=λa Q _=>∃t,a=[.str (tx t)]/\Q (Ob C t 0 0 (.lst []))
private theorem xT{K:Frag}{C f:Addr}{u:FuncData}{ps:List Str}(N:sJ K C FS)(M:Mk K C f)(b:Binds K u ps [])(F:bL P w K mg g (eu P w) k f u ps (Nz C)):
 bW P w K mg g (k+1) (.ref C) 1 (nY K 1 Bj (pJ C)):=by
 refine .mk M b F λY H Q E hz x j q U D=>?_;obtain⟨A,X,P,R,l,r,d,⟨t,e,O⟩,c,Z⟩:=hz;subst e;obtain⟨B,_,rfl,m,r⟩:=r.cons_inv;cases r;have m:B=.str (tx t):=m;subst m;refine⟨x,j,_,rfl,az,λa y J h T ex=>⟨rfl,?_⟩⟩;have v:a≠x:=λe=>by rw[e,az]at h;cases h
 have n:a≠j:=λe=>by rw[e,ak D,az]at h;cases h
 have S:H a=none:=by rw[ak v,ak n]at h;exact h
 have sm:aq H y:=λb o i=>by
  have s:b≠x:=λe=>by rw[e,q]at i;cases i
  have I:b≠j:=λe=>by rw[e,U]at i;cases i
  exact J b o s (by rw[ak s,ak I];exact i)
 refine c _ (.ref x) y O sm ⟨[x,a],by simp[Oy v],λp L=>?_,?_⟩
 .rcases Do.mp L with z|z
  .rw[z];exact q
  .rw[Dx.mp z];exact S
 dsimp only[Fp];refine⟨C,j,_,x,[.str (tx t),.int 0,.int 0,.ref a],[a],rfl,rfl,rfl,ex,rfl,N,?_⟩;dsimp only[i8];refine⟨_,_,_,_,[],[a],rfl,rfl,rfl,?_,_,_,_,_,[],[a],rfl,rfl,rfl,?_,_,_,_,_,[],[a],rfl,rfl,rfl,?_,_,_,_,_,[a],[],rfl,rfl,rfl,?_,rfl,rfl,rfl⟩
 .dsimp only[Fp];exact⟨rfl,oA _⟩
 .dsimp only[Fp];exact⟨rfl,Ba _⟩
 .dsimp only[Fp];exact⟨rfl,Ba _⟩
 .dsimp only[Fp];exact⟨[],a,[],rfl,rfl,rfl,T,.nil⟩
abbrev FE:List Str:=["steps"]
abbrev Ex(C:Addr)(sts:List W):W:=.obj C FE [.tup sts]
def NB(C:Addr):Sp:=λe H Q _=>∃(x d p:Addr)(b:List V),e=[.ref x,.ref p]/\H x=some (.ins C d [])/\H p=some (.lst b)/\b.length<=sizeLine/\∀(c:Addr)(a:Hp),Nv x H a->H c=none->a c=some (.tup b)->a x=some (.ins C d (FE.zip [.ref c]))->Q .aN a
def Bm(C:Addr):aT:=λb Q _=>∃a:List W,b=[.lst a]/\a.length<=2000/\Q (Ex C a)
private theorem C4{K:Frag}{C f:Addr}{D:FuncData}{ps:List Str}(X:sJ K C FE)(M:Mk K C f)(b:Binds K D ps [])(F:bL P w K mg a (eu P w) k f D ps (NB C)):
 bW P w K mg a (k+1) (.ref C) 1 (nY K 1 .s (Bm C)):=by
 refine .mk M b F λvs H Q E hz x j n I S=>?_;obtain⟨A,ws,P,R,l,r,d,⟨N,e,v,Y⟩,c,er⟩:=hz;subst e;obtain⟨v1,_,rfl,O,r⟩:=r.cons_inv;cases r;obtain⟨p,L,rfl,hp,g,B⟩:=O;have g:=g.at;have q:p≠x:=λe=>by rw[e,n]at g;cases g
 have t:p≠j:=λe=>by rw[e,I]at g;cases g
 refine⟨x,j,p,L,rfl,az,by rw[ak q,ak t];exact g,by rw[B.len];exact FV v (by decide),λm J U h Z ex=>⟨rfl,?_⟩⟩;have YF:m≠x:=λe=>by rw[e,az]at h;cases h
 have u:m≠j:=λe=>by rw[e,ak S,az]at h;cases h
 have h4:H m=none:=by rw[ak YF,ak u]at h;exact h
 have sm:aq H J:=λb o i=>by
  have y:b≠x:=λe=>by rw[e,n]at i;cases i
  have T:b≠j:=λe=>by rw[e,I]at i;cases i
  exact U b o y (by rw[ak y,ak T];exact i)
 refine c _ (.ref x) J Y sm (.of ⟨x,j,[.ref m],rfl,λz=>?_,ex,rfl,X,.cons (yS Z (ai.same sm B)) .nil⟩);obtain⟨o,e⟩:=d x z;rw[n]at e;cases e
noncomputable def zG:List CS:=[.iff (.cmp .Gt (.blt .len [.var 0]) (.glob 0)) [.Aw] [],.set 1 (.call 0 [.var 0]),.DB (.lD 1 1 1 []),.iff (.cmp .Lt (.own 1 [.fl 1 "place"]) (.blt .len [.var 0])) [.Aw] [],.Pw [1] [.ret (.call 2 [.MO (.var 1) 3 "steps"])]]
def Bo(d:Nat)(CE:Addr):aT:=λb Q _=>∃(s:List Nat)(a:List W),b=[.str (tx s)]/\sF.G 0 d s a/\d<=30/\s.length<=1000/\Q (Ex CE a)
private theorem Te{C CE:Addr}(ws:List W)(Q:W->Prop)(R:Addr->Prop)(h:Bo d CE ws Q R):wSs (bg [pJ C,cu 0 d CZ C,Bm CE]) (bI [.int 1000,.cls C]) zG (aU m Q R) (au 2 ws):=by obtain⟨s,b,rfl,c,hd,a,e⟩:=h;have few:=c.few;show wSs _ _ zG _ [some _,none];unfold zG;fin2;refine⟨ay a,?_⟩;rw[Ee (by lia)];fin2;refine⟨s,rfl,?_⟩;fin2;refine⟨rfl,[],s,[],0,[],b,by simp,c,S8,by lia,by simpa using a,BY _,_,_,rfl,?_⟩;fin2;refine⟨ay a,?_⟩;rw[Ee (by simp)];fin2;exact⟨rfl,_,rfl,b,rfl,by lia,e⟩
end VL
namespace sF
open L2 PySem VL
inductive Tr where
 |nm (x:List Nat)|nu (n:Nat)|op (o:Nat) (a b:Tr)|pw (a:Tr) (e:Nat)|ls (a:Tr)
noncomputable def wt:Tr->W
 |.nm x=>.tup [.str "name",.str (tx x)]
 |.nu n=>.tup [.str "number",.int n]
 |.op o a b=>.tup [.str (tx [o]),wt a,wt b]
 |.pw a e=>.tup [.str "^",wt a,.int e]
 |.ls a=>.tup [.str "less",wt a]
def nB(x:List Nat):Prop:=x≠[]/\x.length<=8/\∀c∈x,isLet c
def pL:Tr->Prop
 |.nm x=>nB x
 |.nu n=>n<10^30
 |.op o a b=>(o=43\/o=45\/o=42\/o=47)/\pL a/\pL b
 |.pw a e=>e<=12/\pL a
 |.ls a=>pL a
noncomputable def sz:Tr->Nat
 |.nm _=>1
 |.nu _=>1
 |.op _ a b=>sz a+sz b+1
 |.pw a _=>sz a+1
 |.ls a=>sz a+1
noncomputable def bi:Tr->Nat
 |.nm _=>4
 |.nu _=>4
 |.op o _ _=>if o=43\/o=45 then 0 else 1
 |.pw _ _=>3
 |.ls _=>2
noncomputable def br(b l:Nat)(s:List Nat):List Nat:=if b<l then 40::(s++[41])else s
noncomputable def txt:Tr->List Nat
 |.nm x=>x
 |.nu n=>dg n
 |.op o a b=>br (bi a) (bi (.op o a b)) (txt a)++(32::o::32::br (bi b) (bi (.op o a b)+1) (txt b))
 |.pw a e=>br (bi a) 4 (txt a)++94::dg e
 |.ls a=>45::br (bi a) 2 (txt a)
noncomputable def stp:Tr->List W
 |.nm x=>[GQ x]
 |.nu n=>[GR n]
 |.op o a b=>stp a++(stp b++[Bc o])
 |.pw a e=>stp a++[xO e]
 |.ls a=>stp a++[sQ]
def Bp(d k:Nat)(s:List Nat)(st:List W):Prop:=∃(j:Nat)(a x:List Nat)(c b:List W),j<=k/\G 3 d a c/\s=A0 j 45++(a++x)/\st=c++(b++A0 j sQ)/\((x=[]/\b=[])\/∃e,e<=12/\x=94::dg e/\b=[xO e])
private theorem Bp.g(h:Bp d k s st)(m:k<=30):G 2 d s st:=by
 obtain⟨j,a,x,l,i,n,b,rfl,rfl,c⟩:=h;rcases c with⟨rfl,rfl⟩|⟨e,f,rfl,rfl⟩
 .simpa using G.Uv (k:=j) (by lia) b
 .simpa using G.GS (k:=j) (by lia) f b
private theorem Bp.of(h:G 3 d s st)(k:Nat):Bp d k s st:=⟨0,s,[],st,[],OF _,h,by simp,by simp,.inl ⟨rfl,rfl⟩⟩
private theorem Bp.less(h:Bp d k s st):Bp d (k+1) (45::s) (st++[sQ]):=by obtain⟨j,a,x,c,b,g,f,rfl,rfl,e⟩:=h;refine⟨j+1,a,x,c,b,by lia,f,rfl,?_,e⟩;rw[cg];simp
private theorem Bp.mono(h:Bp d k s st)(hd:d<=d')(g:k<=b):Bp d' b s st:=by obtain⟨j,a,x,e,c,i,f,r⟩:=h;exact⟨j,a,x,e,c,by lia,f.mono hd,r⟩
structure Rd(T:Tr):Prop where
 g0:G 0 (sz T) (txt T) (stp T)
 g1:1<=bi T->G 1 (sz T) (txt T) (stp T)
 f:2<=bi T->Bp (sz T) (sz T) (txt T) (stp T)
 g3:bi T=4->G 3 (sz T) (txt T) (stp T)
private theorem Rd.b(h:Rd T):G 3 (sz T+1) (40::(txt T++[41])) (stp T):=.brk h.g0 (Xc _)
private theorem Rd.i4(h:Rd T)(a:bi T<=4):G 3 (sz T+1) (br (bi T) 4 (txt T)) (stp T):=by
 unfold br;split
 .exact h.b
 .exact(h.g3 (by lia)).mono (cq _)
private theorem Rd.i2(h:Rd T):Bp (sz T+1) (sz T) (br (bi T) 2 (txt T)) (stp T):=by
 unfold br;split
 .exact .of h.b _
 .exact(h.f (by lia)).mono (cq _) (BY _)
private theorem Rd.i1(h:Rd T):G 1 (sz T+1) (br (bi T) 1 (txt T)) (stp T):=by
 unfold br;split
 .exact h.b.SW.GU
 .exact(h.g1 (by lia)).mono (cq _)
private theorem XC:∀T:Tr,bi T<=4
 |.nm _=>BY _
 |.nu _=>BY _
 |.op o _ _=>by show(if o=43\/o=45 then 0 else 1)<=4;split<;>omega
 |.pw _ _=>by show 3<=4;omega
 |.ls _=>by show 2<=4;omega
private theorem fN:∀T:Tr,1<=sz T
 |.nm _=>BY _
 |.nu _=>BY _
 |.op _ a b=>by show 1<=_+_+1;lia
 |.pw a _=>by show 1<=_+1;lia
 |.ls a=>by show 1<=_+1;omega
private theorem rd:∀T:Tr,pL T->sz T<=30->Rd T
 |.nm x,h,_=>by have g:G 3 1 x [GQ x]:=.name h.1 h.2.1 h.2.2;exact⟨g.SW.GU.up1,λ_=>g.SW.GU,λ_=>.of g _,λ_=>g⟩
 |.nu n,h,_=>by have g:G 3 1 (dg n) [GR n]:=.num h;exact⟨g.SW.GU.up1,λ_=>g.SW.GU,λ_=>.of g _,λ_=>g⟩
 |.pw a e,h,c=>by have c:sz a+1<=30:=c;have i:=rd a h.2 (by lia);have f:Bp (sz a+1) (sz a+1) (br (bi a) 4 (txt a)++94::dg e) (stp a++[xO e]):=⟨0,_,_,_,_,OF _,i.i4 (XC a),rfl,by simp,.inr ⟨e,h.1,rfl,rfl⟩⟩;have g:=f.g c;exact⟨g.GU.up1,λ_=>g.GU,λ_=>f,λz=>by cases z⟩
 |.ls a,h,c=>by have c:sz a+1<=30:=c;have i:=rd a h (by lia);have f:Bp (sz a+1) (sz a+1) (45::br (bi a) 2 (txt a)) (stp a++[sQ]):=i.i2.less;have g:=f.g c;exact⟨g.GU.up1,λ_=>g.GU,λ_=>f,λz=>by cases z⟩
 |.op o a b,h,c=>by
  have c:sz a+sz b+1<=30:=c;have A:=fN a;have y:=fN b;have i:=rd a h.2.1 (by lia);have u:=rd b h.2.2 (by lia);have w:sz a+1<=sz a+sz b+1:=by lia
  have t:sz b+1<=sz a+sz b+1:=by lia
  have j:sz a<=sz a+sz b+1:=by lia
  by_cases l:o=43\/o=45
  .have d:bi (.op o a b)=0:=BM l;have r:txt (.op o a b)=txt a++(32::o::32::br (bi b) 1 (txt b)):=by show br (bi a) (bi (.op o a b)) (txt a)++(32::o::32::br (bi b) (bi (.op o a b)+1) (txt b))=_;rw[d];rfl
   have g:G 0 (sz a+sz b+1) (txt a++(32::o::32::br (bi b) 1 (txt b))) (stp a++(stp b++[Bc o])):=by
    have g0:=i.g0.mono j;generalize txt a=s at g0⊢;generalize stp a=v at g0⊢;cases g0 with
    |sum p m=>have:=G.sum p (G.Nx l (u.i1.mono t) m);simpa using this
   rw[<-r]at g;exact⟨g,λz=>by rw[d]at z;omega,λz=>by rw[d]at z;omega,λz=>by rw[d]at z;omega⟩
  .have k:o=42\/o=47:=by have:=h.1;lia
   have d:bi (.op o a b)=1:=B1 l;have r:txt (.op o a b)=br (bi a) 1 (txt a)++(32::o::32::br (bi b) 2 (txt b)):=by show br (bi a) (bi (.op o a b)) (txt a)++(32::o::32::br (bi b) (bi (.op o a b)+1) (txt b))=_;rw[d]
   have g:G 1 (sz a+sz b+1) (br (bi a) 1 (txt a)++(32::o::32::br (bi b) 2 (txt b))) (stp a++(stp b++[Bc o])):=by
    have q:=i.i1.mono w;generalize br (bi a) 1 (txt a)=s at q⊢;generalize stp a=v at q⊢;cases q with
    |term p m=>have:=G.term p (G.Xx k ((u.i2.g (by lia)).mono t) m);simpa using this
   rw[<-r]at g;exact⟨g.up1,λ_=>g,λz=>by rw[d]at z;omega,λz=>by rw[d]at z;omega⟩
private theorem vB(b l:Nat)(s:List Nat):(br b l s).length<=s.length+2:=by
 unfold br;split
 .simp
 .lia
private theorem iV:∀T:Tr,pL T->(txt T).length+7<=37*sz T
 |.nm x,h=>by have:=h.2.1;show x.length+7<=37*1;lia
 |.nu n,h=>by have:=vv (k:=30) (by decide) h;show(dg n).length+7<=37*1;lia
 |.op o a b,h=>by have d:=iV a h.2.1;have g:=iV b h.2.2;have c:=vB (bi a) (bi (.op o a b)) (txt a);have f:=vB (bi b) (bi (.op o a b)+1) (txt b);show(br (bi a) (bi (.op o a b)) (txt a)++(32::o::32::br (bi b) (bi (.op o a b)+1) (txt b))).length+7<=37*(sz a+sz b+1);simp only[DL,Ar];lia
 |.pw a e,h=>by have d:=iV a h.2;have c:=vB (bi a) 4 (txt a);have f:=vv (m:=e) (k:=2) (by decide) (by have:=h.1;lia);show(br (bi a) 4 (txt a)++94::dg e).length+7<=37*(sz a+1);simp only[DL,Ar];lia
 |.ls a,h=>by have d:=iV a h;have c:=vB (bi a) 2 (txt a);show(45::br (bi a) 2 (txt a)).length+7<=37*(sz a+1);simp only[Ar];lia
end sF
namespace VL
open PySem PySem.Spec
open PyProof.Rows hiding St
open L2 Num sF
private theorem rK{G:Nat->W}{b:List CS}{l:List W}(he:∀Q:W->Prop,Q (.lst l)->wE d G D.ex e c Q)(h:iQ (λw f a=>wSs d G b f (a.set i (some w))) D l c):wS d G (.fr [i] true e b) D c:=he _ h
noncomputable def NC:List CS:=[.set 5 (.bin .Mod (.bin .Add (.bin .Add (.bin .Mult (.var 5) (.int 39373)) (.bin .Mult (.bin .Mult (.int 7561) (.var 7)) (.var 7))) (.int 1013904223)) (.int 2147483647)),.iff (.cmp .Gt (.var 4) (.int 0)) [.app 6 (.bin .Mod (.var 4) (.bin .Pow (.int 10) (.int 6))),.set 4 (.bin .FloorDiv (.var 4) (.bin .Pow (.int 10) (.int 6)))] [.app 6 (.bin .Mod (.bin .Mod (.bin .Mult (.var 5) (.int 65539)) (.int 998244353)) (.bin .Pow (.int 10) (.int 6)))]]
noncomputable def GZ:List CS:=[.set 3 (.int 0),.iff (.cmp .Lt (.var 1) (.blt .len [(.var 0)])) [.set 3 (.ix (.var 0) (.var 1))] [],.set 4 (.int 0),.iff (.or [(.cmp .Lt (.var 3) (.int 0)),(.cmp .GtE (.var 3) (.bin .Pow (.int 10) (.int 18)))]) [.set 4 (.blt .abs [(.var 3)])] [],.set 5 (.bin .Mod (.var 3) (.int 2147483647)),.set 6 (.lst []),.fr [7] true (.pT [(.var 2)]) NC,.ret (.var 6)]
def LC:aT:=λb Q _=>∃(c:List Int)(k n:Nat),b=[.eE c,.int k,.int n]/\n<=60/\∀a:List Int,a.length=n->(∀x∈a,0<=x/\x<1000000)->Q (wI a)
private theorem XD{G:Nat->W}(ws:List W)(Q:W->Prop)(R:Addr->Prop)(h:LC ws Q R):wSs J G GZ (aU m Q R) (au 8 ws):=by
 obtain⟨e,k,n,rfl,H,E⟩:=h;show wSs _ _ GZ _ [some (.eE e),some (.int k),some (.int n),none,none,none,none,none];unfold GZ;have A:((10:Int)^(6:Int).toNat).natAbs.log2<1000000000:=eZ (n:=31) (by decide) (by decide);have t:((10:Int)^(6:Int).toNat)=1000000:=by decide
 refine aH (λa=>∃c:Int,a=[some (.eE e),some (.int k),some (.int n),some (.int c),none,none,none,none]) (λN d=>?_) ?_
 .fin2;exact d _ ⟨_,rfl⟩
 rintro _ ⟨c,rfl⟩;refine aH (λa=>∃c:Int,a=[some (.eE e),some (.int k),some (.int n),some (.int c),none,none,none,none]) (λN d=>?_) ?_
 .fin2;by_cases O:k<e.length
  .rw[BM (Bz (by lia))];exact⟨_,L2.IZ (Da O),d _ ⟨_,rfl⟩⟩
  .rw[B1 (by rw[Gc];lia)];exact d _ ⟨_,rfl⟩
 rintro _ ⟨c,rfl⟩;refine aH (λa=>a=[some (.eE e),some (.int k),some (.int n),some (.int c),some (.int 0),none,none,none]) (λN d=>?_) ?_
 .fin2;exact d _ rfl
 rintro _ rfl;refine aH (λa=>∃r:Int,a=[some (.eE e),some (.int k),some (.int n),some (.int c),some (.int r),none,none,none]) (λN d=>?_) ?_
 .fin2;split
  .exact d _ ⟨_,rfl⟩
  .refine⟨fE (by decide) (by decide) (by decide),?_⟩;split
   .exact d _ ⟨_,rfl⟩
   .exact d _ ⟨_,rfl⟩
 rintro _ ⟨r,rfl⟩;refine aH (λa=>∃x:Int,(0<=x/\x<2^31)/\a=[some (.eE e),some (.int k),some (.int n),some (.int c),some (.int r),some (.int x),none,none]) (λN d=>?_) ?_
 .have f:=fm (x:=c) (n:=2147483647) (by decide);fin2;exact⟨by decide,d _ ⟨_,⟨f.1,by clear f t A H;lia⟩,rfl⟩⟩
 rintro _ ⟨x,⟨C,B⟩,rfl⟩;refine aH (λa=>a=[some (.eE e),some (.int k),some (.int n),some (.int c),some (.int r),some (.int x),some (wI []),none]) (λN d=>?_) ?_
 .fin2;exact⟨ay (by simp),d _ rfl⟩
 rintro _ rfl;refine aH (λa=>∃(r x:Int)(b:List Int)(j:Option W),(b.length=n/\∀x∈b,0<=x/\x<1000000)/\a=[some (.eE e),some (.int k),some (.int n),some (.int c),some (.int r),some (.int x),some (wI b),j]) (λN d=>?_) ?_
 .refine rK (l:=fh 0 1 n) (λQ E=>?_) ?_
  .fin2;exact⟨by lia,by lia,by rw[LA];exact E⟩
  refine gy (λi I=>∃(r x:Int)(b:List Int)(j:Option W),((0<=x/\x<2^31)/\b.length=i/\∀x∈b,0<=x/\x<1000000)/\I=[some (.eE e),some (.int k),some (.int n),some (.int c),some (.int r),some (.int x),some (wI b),j]) ⟨r,x,[],none,⟨⟨C,B⟩,rfl,λx D=>by cases D⟩,rfl⟩ ?_ ?_
  .rintro i w _ S F ⟨r,x,b,j,⟨⟨C,B⟩,o,s⟩,rfl⟩ K;obtain⟨P,rfl⟩:=zx F;have v:∀(r x y:Int),(0<=x/\x<2^31)->0<=y->y<1000000->S [some (.eE e),some (.int k),some (.int n),some (.int c),some (.int r),some (.int x),some (.lst (b.map W.int++[.int y])),some (.int i)]:=λr x y D M L=>by
    have p:=K [some (.eE e),some (.int k),some (.int n),some (.int c),some (.int r),some (.int x),some (wI (b++[y])),some (.int i)] ⟨r,x,b++[y],some (.int i),⟨D,by rw[DL,o];rfl,λz hz=>?_⟩,rfl⟩
    .unfold wI at p;rw[Kk]at p;exact p
    .rcases Fu.mp hz with hz|hz
     .exact s z hz
     .rw[Dx.mp hz];exact⟨M,L⟩
   unfold NC;refine aH (λa=>∃q:Int,(0<=q/\q<2^31)/\a=[some (.eE e),some (.int k),some (.int n),some (.int c),some (.int r),some (.int q),some (wI b),some (.int i)]) (λU T=>?_) ?_
   .have f:=fm (x:=x*39373+7561*(i:Int)*(i:Int)+1013904223) (n:=2147483647) (by decide);fin2;exact⟨aZ (n:=31) (m:=16) (by lia) (by decide) (by decide),aZ (n:=13) (m:=6) (by decide) (by lia) (by decide),aZ (n:=19) (m:=6) (by lia) (by lia) (by decide),by decide,T _ ⟨_,⟨f.1,by clear f F P o B C t A H;lia⟩,rfl⟩⟩
   rintro _ ⟨q,u,rfl⟩;have g:(b.map W.int).length<sizeLine:=by rw[FK];exact Bn (m:=100) (by lia) (by decide)
   fin2;split
   .have f:=fm (x:=r) (n:=(10:Int)^(6:Int).toNat) (by decide);rw[t]at f⊢;exact⟨fE (by decide) (by decide) (by decide),by decide,g,fE (by decide) (by decide) (by decide),⟨by decide,by rw[t]at A;exact A⟩,v _ _ _ u f.1 f.2⟩
   .have f:=fm (x:=(q*65539).fmod 998244353) (n:=(10:Int)^(6:Int).toNat) (by decide);rw[t]at f⊢;exact⟨aZ (n:=31) (m:=17) (by lia) (by decide) (by decide),by decide,fE (by decide) (by decide) (by decide),by decide,g,v _ _ _ u f.1 f.2⟩
  .rintro _ ⟨r,x,b,j,⟨_,o,s⟩,rfl⟩;rw[Lm]at o;exact d _ ⟨r,x,b,j,⟨o,s⟩,rfl⟩
 rintro _ ⟨r,x,b,j,⟨o,s⟩,rfl⟩;exact E b o s
abbrev wX(x:List Nat):W:=.str (tx x)
noncomputable def G0:List CS:=[.set 4 (.bin .Add (.var 4) (.ix (.var 1) (.bin .Mod (.bin .FloorDiv (.var 3) (.var 5)) (.int 26))))]
noncomputable def G3:List CS:=[.set 4 (.str ""),.fr [5] true (.lst [(.int 8),(.int 208),(.int 5408)]) G0,.set 4 (.slt (.bin .Mult (.var 4) (.int 3)) .aN (.bin .Add (.int 1) (.bin .Mod (.var 3) (.int 8)))),.set 6 (.int 0),.Ic (.cmp .In (.var 4) (.var 2)) [.set 4 (.ix (.var 1) (.var 6)),.set 6 (.bin .Add (.var 6) (.int 1))],.app 2 (.var 4)]
noncomputable def G4:List CS:=[.set 1 (.str "abcdefghijklmnopqrstuvwxyz"),.set 2 (.lst []),.fr [3] true (.var 0) G3,.ret (.var 2)]
def LD:aT:=λc Q _=>∃a:List Int,c=[wI a]/\a.length<=3/\(∀x∈a,0<=x/\x<1000000)/\∀b:List (List Nat),b.length=a.length->(∀x∈b,nB x)->Q (.lst (b.map wX))
private theorem LF(b:0<=r)(d:r<26):∃c,jg lets r=some c/\isLet c:=by
 obtain⟨n,rfl⟩:=Ki b;have a:n<lets.length:=by show n<26;omega
 exact⟨lets[n],cU (Da a),mz.mp (Mo a)⟩
private theorem pig{e:List (List Nat)}(h:e.length<=2)(f:[97]∈e)(c:[98]∈e)(d:[99]∈e):False:=by
 match e,h with
 |[],_=>cases f
 |[x],_=>have a:=Dx.mp f;have b:=Dx.mp c;rw[<-a]at b;cases b
 |[x,y],_=>simp only[Do,TC,or_false]at f c d;rcases f with rfl|rfl<;>rcases c with c|c<;>rcases d with d|d<;>first|(cases c;done)|(cases d;done)|(subst c;cases d;done)
 |_::_::_::_,h=>simp at h
private theorem Tf(w:List Nat)(a:List (List Nat)):decide (tx w∈a.map tx)=decide (w∈a):=Qb.mpr ⟨λh=>by obtain⟨y,b,e⟩:=IH.mp h;rw[<-kK e];exact b,λh=>IH.mpr ⟨w,h,rfl⟩⟩
private theorem Tg(l:List Nat)(k:Nat):sM l none (some (k:Int))=l.take k:=by
 unfold sM;have b:HT.cy l.length 0 none=0:=rfl;have a:HT.cy l.length l.length (some (k:Int))=min k l.length:=by unfold HT.cy;dsimp only;rw[B1 (by lia),LA]
 rw[b,a,YP,ZY,<-List.take_eq_take_min]
private theorem XE{G:Nat->W}(ws:List W)(Q:W->Prop)(R:Addr->Prop)(h:LD ws Q R):wSs X G G4 (aU m Q R) (au 7 ws):=by
 obtain⟨g,rfl,hl,hm,L⟩:=h;show wSs _ _ G4 _ [some (wI g),none,none,none,none,none,none];unfold G4;fin2;refine⟨ay (by simp),?_⟩;show iQ _ _ (g.map W.int) _;refine gy (λi F=>∃(d:List (List Nat))(o3 I b o:Option W),(d.length=i/\∀x∈d,nB x)/\F=[some (wI g),some (.str "abcdefghijklmnopqrstuvwxyz"),some (.lst (d.map wX)),o3,I,b,o]) ⟨[],none,none,none,none,⟨rfl,λx hx=>by cases hx⟩,rfl⟩ ?_ ?_
 .rintro i w _ N e ⟨d,o3,I,b,o,⟨C,H⟩,rfl⟩ hN;obtain⟨n,T,rfl⟩:∃n,g[i]?=some n/\w=.int n:=by rw[GM]at e;obtain⟨n,e1,e2⟩:=He.mp e;exact⟨n,e1,e2.symm⟩
  have li:=(Fk.mp T).1;have⟨n0,n1⟩:=hm n (KM T);dsimp only[Mr,UW,List.set];unfold G3;refine aH (λa=>a=[some (wI g),some (.str "abcdefghijklmnopqrstuvwxyz"),some (.lst (d.map wX)),some (.int n),some (wX []),b,o]) (λE p=>?_) ?_
  .fin2;rw[Bk];exact p _ rfl
  rintro _ rfl;refine aH (λa=>∃(u:List Nat)(b:Option W),(u.length=3/\∀c∈u,isLet c)/\a=[some (wI g),some (.str "abcdefghijklmnopqrstuvwxyz"),some (.lst (d.map wX)),some (.int n),some (wX u),b,o]) (λE p=>?_) ?_
  .refine rK (l:=[.int 8,.int 208,.int 5408]) (λQ L=>?_) ?_
   .fin2;exact⟨ay (by show 3<=1000;decide),L⟩
   refine gy (λi F=>∃(u:List Nat)(b:Option W),(u.length=i/\∀c∈u,isLet c)/\F=[some (wI g),some (.str "abcdefghijklmnopqrstuvwxyz"),some (.lst (d.map wX)),some (.int n),some (wX u),b,o]) ⟨[],b,⟨rfl,λc t=>by cases t⟩,rfl⟩ ?_ ?_
   .rintro j w _ N3 e ⟨u,b,⟨A,v⟩,rfl⟩ M;have⟨s,es,s0,s1⟩:∃s:Int,w=.int s/\0<s/\s<10000:=by
     match j,e with
     |0,e=>cases e;exact⟨8,rfl,by decide,by decide⟩
     |1,e=>cases e;exact⟨208,rfl,by decide,by decide⟩
     |2,e=>cases e;exact⟨5408,rfl,by decide,by decide⟩
     |j+3,e=>cases e
    subst es;have f:=fm (x:=n.fdiv s) (n:=26) (by decide);obtain⟨c,t,Z⟩:=LF f.1 f.2;unfold G0;fin2;have lj:j<3:=(Fk.mp e).1;refine⟨⟨by lia,eZ (n:=14) (by omega) (by decide)⟩,by decide,ay (by rw[nA];show 26<=1000;decide),c,by rw[nA];exact t,ay (by show u.length+1<=1000;lia),?_⟩;rw[eX];exact M _ ⟨u++[c],_,⟨by simp[A],λz hz=>by
     rcases Fu.mp hz with hz|hz
     .exact v z hz
     .rw[Dx.mp hz];exact Z⟩,rfl⟩
   .rintro _ ⟨u,b,⟨A,v⟩,rfl⟩;exact p _ ⟨u,b,⟨A,v⟩,rfl⟩
  rintro _ ⟨u,b,⟨A,v⟩,rfl⟩;refine aH (λa=>∃u:List Nat,nB u/\a=[some (wI g),some (.str "abcdefghijklmnopqrstuvwxyz"),some (.lst (d.map wX)),some (.int n),some (wX u),b,o]) (λE p=>?_) ?_
  .have f:=fm (x:=n) (n:=8) (by decide);fin2;obtain⟨q,K⟩:=Ki f.1;have S:(u++u++u).length=9:=by simp[A]
   rw[show(A0 (3:Int).toNat u).flatten=u++u++u by show u++(u++(u++[]))=_;simp];refine⟨by decide,by lia,by decide,ay (by lia),p _ ⟨(u++u++u).take (1+q),⟨λz=>?_,?_,λc t=>?_⟩,?_⟩⟩
   .have:=IR J9 z;rw[TK,S,Nk]at this;omega
   .rw[TK,S];omega
   .have:=List.mem_of_mem_take t;simp only[Fu,or_self]at this;exact v c this
   .rw[K,show((1:Int)+(q:Nat))=((1+q:Nat):Int) by lia,Tg]
  rintro _ ⟨u,J,rfl⟩;refine aH (λa=>a=[some (wI g),some (.str "abcdefghijklmnopqrstuvwxyz"),some (.lst (d.map wX)),some (.int n),some (wX u),b,some (.int 0)]) (λE p=>?_) ?_
  .fin2;exact p _ rfl
  rintro _ rfl;refine aH (λa=>∃(u:List Nat)(o:Option W),nB u/\a=[some (wI g),some (.str "abcdefghijklmnopqrstuvwxyz"),some (.lst (d.map wX)),some (.int n),some (wX u),b,o]) (λE p=>?_) ?_
  .fin2;refine nt (α:=List Nat×Nat) (λs=>[some (wI g),some (.str "abcdefghijklmnopqrstuvwxyz"),some (.lst (d.map wX)),some (.int n),some (wX s.1),b,some (.int (s.2:Nat))]) (λs=>nB s.1/\s.2<=3/\(∀j,j+1<s.2->[97+j]∈d)/\(1<=s.2->s.1=[97+(s.2 -1)])) (λs=>3 -s.2) (u,0) rfl ⟨J,by show 0<=3;decide,λj z=>by simp at z,λz=>by simp at z⟩ ?_;rintro⟨u,k⟩ ⟨U,h2,D,O⟩;dsimp only at U h2 D O⊢;fin2;refine⟨d.map tx,by rw[Oz];rfl,?_⟩;rw[Tf];refine jD (λq=>?_) (λ_=>p _ ⟨u,_,U,rfl⟩);have r:=AN q;have k2:k<=2:=by
    rcases V0 k 3 with z|z
    .lia
    .have ek:k=3:=by lia
     subst ek;have:=O (by decide);rw[this]at r;exact(pig (by lia) (D 0 (by decide)) (D 1 (by decide)) r).elim
   fin2;have Y:k<lets.length:=by show k<26;lia
   have P:lets[k]=97+k:=by
    match k,k2 with
    |0,_=>rfl
    |1,_=>rfl
    |2,_=>rfl
    |k+3,z=>lia
   refine⟨ay (by rw[nA];show 26<=1000;decide),97+k,by rw[nA];exact cU (by rw[pR,Da Y,P]),([97+k],k+1),rfl,⟨⟨by simp,by simp,λc t=>by rw[Dx.mp t];unfold isLet;lia⟩,by show k+1<=3;lia,λj z=>?_,λ_=>rfl⟩,by show 3 -(k+1)<3 -k;lia⟩;have z:j+1<k+1:=z;rcases V0 (j+1) k with y|y
   .exact D j y
   .have:j=k -1:=by lia
    rw[this,<-O (by lia)];exact r
  rintro _ ⟨u,o,J,rfl⟩;fin2;have B:=hN [some (wI g),some (.str "abcdefghijklmnopqrstuvwxyz"),some (.lst ((d++[u]).map wX)),some (.int n),some (wX u),b,o] ⟨d++[u],_,_,_,_,⟨by simp[C],λz hz=>?_⟩,rfl⟩
  .rw[Kk]at B;exact⟨Bn (m:=100) (by rw[FK];lia) (by decide),B⟩
  .rcases Fu.mp hz with hz|hz
   .exact H z hz
   .rw[Dx.mp hz];exact J
 .rintro _ ⟨d,o3,I,b,o,⟨C,H⟩,rfl⟩;rw[FK]at C;exact L d C H
end VL
namespace sF
open L2 PySem VL Num
abbrev Pt:=List (List Nat×Rat)
noncomputable def v7(l:Pt)(x:List Nat):Option Rat:=(l.find? λp=>decide (p.1=x)).map (·.2)
noncomputable def jn(o:Nat)(x y:Rat):Option Rat:=if o=43 then some (x+y)else if o=45 then some (x -y)else if o=42 then some (x*y)else if y=0 then none else some (x*y⁻¹)
noncomputable def vT(l:Pt):Tr->Option Rat
 |.nm x=>v7 l x
 |.nu n=>some (n:Rat)
 |.op o a b=>(vT l a).bind λx=>(vT l b).bind λy=>jn o x y
 |.pw a e=>(vT l a).map λx=>x^e
 |.ls a=>(vT l a).map λx=> -x
noncomputable def Bq(o:Nat):Nat:=if o=43\/o=45 then 1 else 0
noncomputable def jf:Tr->Nat
 |.nm _=>21
 |.nu n=>n.log2+1
 |.op o a b=>jf a+jf b+Bq o
 |.pw a e=>jf a*max 1 e
 |.ls a=>jf a
private theorem pM:∀T:Tr,1<=jf T
 |.nm _=>by show 1<=21;decide
 |.nu _=>fy _ _
 |.op o a b=>by have:=pM a;show 1<=jf a+jf b+Bq o;lia
 |.pw a e=>km (pM a) (by lia)
 |.ls a=>pM a
private theorem rL(h:x<2^n)(he:1<=e):x^e<2^(n*e):=by rw[kf];exact Nat.pow_lt_pow_left h (by lia)
private theorem G5(c:1<=n)(h:Bd n x)(e:Nat):Bd (n*max 1 e) (x^e):=by
 have a:1<2^(n*1):=eJ (by lia);rcases P3 e with rfl|b
 .rw[hL];exact⟨a,a⟩
 .rw[show max 1 e=e by lia];refine⟨?_,?_⟩
  .rw[Xw,h8];exact rL h.1 b
  .rw[YC];exact rL h.2 b
private theorem Th(n:Nat):Bd (n.log2+1) (n:Rat):=⟨by show((n:Int)).natAbs<_;rw[Cg];exact Nat.lt_log2_self,eJ (by lia)⟩
private theorem Ti(d:Bd n a)(c:Bd m b):Bd (n+m+1) (a -b):=by rw[OV];exact EX d (uU c)
private theorem XF{y:Rat}(h:y≠0):y.num≠0:=λe=>h (dk.mp e)
private theorem XG(b:Bd n x)(a:Bd m y)(h:jn o x y=some q):Bd (n+m+Bq o) q:=by
 unfold jn at h;unfold Bq;by_cases e:o=43
 .rw[BM e]at h;cases h;rw[BM (.inl e)];exact EX b a
 rw[B1 e]at h;by_cases d:o=45
 .rw[BM d]at h;cases h;rw[BM (.inr d)];exact Ti b a
 rw[B1 d]at h;rw[B1 (by lia),hY];by_cases f:o=42
 .rw[BM f]at h;cases h;exact EY b a
 rw[B1 f]at h;by_cases c:y=0
 .rw[BM c]at h;cases h
 .rw[B1 c]at h;cases h;exact EY b (E2 a (XF c))
def rM(l:Pt):Prop:=∀p∈l,Bd 21 p.2
private theorem rM.v(h:rM l)(e:v7 l x=some q):Bd 21 q:=by unfold v7 at e;obtain⟨p,a,rfl⟩:=He.mp e;exact h p (YZ a)
private theorem rN(h:rM l):∀(T:Tr){q:Rat},vT l T=some q->Bd (jf T) q
 |.nm x,q,e=>h.v e
 |.nu n,q,e=>by
  cases e;exact Th n
 |.op o a b,q,e=>by obtain⟨x,c,e⟩:=YW.mp (show((vT l a).bind λx=>(vT l b).bind λy=>jn o x y)=some q from e);obtain⟨y,d,e⟩:=YW.mp e;exact XG (rN h a c) (rN h b d) e
 |.pw a e,q,z=>by obtain⟨x,c,rfl⟩:=He.mp (show(vT l a).map (λx=>x^e)=some q from z);exact G5 (pM a) (rN h a c) e
 |.ls a,q,z=>by obtain⟨x,c,rfl⟩:=He.mp (show(vT l a).map (λx=> -x)=some q from z);exact uU (rN h a c)
noncomputable def pK(l:Pt):List W:=l.map λp=>.str (tx p.1)
noncomputable def pW(l:Pt):List W:=l.map λp=>wq p.2
abbrev dJ(l:Pt):W:=.dct (pK l) (pW l)
noncomputable def oq:Option Rat->W
 |some q=>wq q
 |none=>.aN
private theorem jY(x:List Nat):∀l:Pt,dH (tx x) (pK l) (pW l)=(v7 l x).map wq
 |[]=>rfl
 |p::l=>by
  show(if v5 (tx x) (.str (tx p.1))=true then some (wq p.2)else dH (tx x) (pK l) (pW l))=_;rw[jY x l];show(if decide (tx p.1=tx x)=true then _ else _)=_;unfold v7;rw[I0];by_cases e:p.1=x
  .rw[Bz (IR tx e),BM rfl,Bz e];rfl
  .rw[Ee (λz=>e (kK z)),B1 (by decide),Ee e]
noncomputable def Ik(l:Pt)(x:List Nat)(q:Rat):Pt:=if l.any (λp=>decide (p.1=x))=true then l.map λp=>if p.1=x then(p.1,q)else p else l++[(x,q)]
private theorem G6(x:List Nat):∀l:Pt,(pK l).any (v5 (tx x))=l.any λp=>decide (p.1=x)
 |[]=>rfl
 |p::l=>by show(decide (tx p.1=tx x)||(pK l).any (v5 (tx x)))=(decide (p.1=x)||l.any λp=>decide (p.1=x));rw[G6 x l];congr 1;exact Qb.mpr ⟨kK,IR tx⟩
private theorem G7(l:Pt)(x:List Nat)(q:Rat):qv (tx x) (pK l)=pK (Ik l x q)/\qw (tx x) (wq q) (pK l) (pW l)=pW (Ik l x q):=by
 unfold qv qw Ik;rw[G6];by_cases e:l.any (λp=>decide (p.1=x))=true
 .rw[BM e,BM e,BM e];clear e;constructor
  .unfold pK;rw[Oz];exact Nt λp _=>by show _=W.str (tx (if p.1=x then(p.1,q)else p).1);split<;>rfl
  .induction l with
   |nil=>rfl
   |cons p l a=>
    show(if decide (tx p.1=tx x)=true then wq q else wq p.2)::N2 _ (pK l) (pW l)=wq (if p.1=x then(p.1,q)else p).2::_;rw[a];by_cases e:p.1=x
    .rw[BM (Bz (IR tx e)),BM e];rfl
    .rw[B1 (by rw[Gc];exact λz=>e (kK z)),B1 e];rfl
 .rw[B1 e,B1 e,B1 e];unfold pK pW;rw[Kk,Kk];exact⟨rfl,rfl⟩
private theorem G8(x:List Nat):∀l:Pt,nW (tx x) (pK l)=pK (l.filter λp=>decide (p.1≠x))/\lV (tx x) (pK l) (pW l)=pW (l.filter λp=>decide (p.1≠x))
 |[]=>⟨rfl,rfl⟩
 |p::l=>by
  obtain⟨b,a⟩:=G8 x l;have f:lV (tx x) (pK (p::l)) (pW (p::l))=if v5 (tx x) (.str (tx p.1))=true then lV (tx x) (pK l) (pW l)else wq p.2::lV (tx x) (pK l) (pW l):=rfl
  have d:nW (tx x) (pK (p::l))=if(!v5 (tx x) (.str (tx p.1)))=true then W.str (tx p.1)::nW (tx x) (pK l)else nW (tx x) (pK l):=SZ
  rw[f,d,b,a,SZ];have c:v5 (tx x) (.str (tx p.1))=decide (p.1=x):=Qb.mpr ⟨kK,IR tx⟩;rw[c];by_cases e:p.1=x
  .rw[Bz e,BM rfl,B1 (show¬((!true)=true) by decide),B1 (show¬(decide (p.1≠x)=true) by simp[e])];exact⟨rfl,rfl⟩
  .rw[Ee e,B1 (show¬(false=true) by decide),BM (show(!false)=true from rfl),BM (show decide (p.1≠x)=true by simp[e])];exact⟨rfl,rfl⟩
private theorem rM.put(h:rM l)(b:Bd 21 q):rM (Ik l x q):=by
 unfold Ik;split
 .intro p a;obtain⟨c,d,rfl⟩:=IH.mp a;split
  .exact b
  .exact h c d
 .intro p a;rcases Fu.mp a with a|a
  .exact h p a
  .rw[Dx.mp a];exact b
private theorem LG(l:Pt)(x:List Nat)(q:Rat):(Ik l x q).length<=l.length+1:=by unfold Ik;split<;>simp
private theorem LH(l:Pt)(x:List Nat)(q:Rat):∀y,(y=x\/∃p∈l,p.1=y)->∃p∈Ik l x q,p.1=y:=by
 unfold Ik;intro y i;split
 .rename_i h
  obtain⟨p,b,e⟩:=Wf.mp h;have e:=AN e;have j:∀p∈l,∃a∈l.map (λp=>if p.1=x then(p.1,q)else p),a.1=p.1:=λp b=>⟨_,IH.mpr ⟨p,b,rfl⟩,by split<;>rfl⟩;rcases i with rfl|⟨a,g,f⟩
  .obtain⟨r,d,c⟩:=j p b;exact⟨r,d,c.trans e⟩
  .obtain⟨r,d,c⟩:=j a g;exact⟨r,d,c.trans f⟩
 .rcases i with rfl|⟨a,g,f⟩
  .exact⟨(y,q),by simp,rfl⟩
  .exact⟨a,by simp[g],f⟩
private theorem LI(h:∃p∈l,p.1=x):∃q,v7 l x=some q:=by
 unfold v7;cases e:l.find? λp=>decide (p.1=x)with
 |some p=>exact⟨_,rfl⟩
 |none=>obtain⟨p,a,b⟩:=h;have:=OK.mp e p a;rw[b]at this;simp at this
end sF
namespace VL
open PySem PySem.Spec
open PyProof.Rows hiding St
open L2 Num sF
abbrev It:=Tr×Int×Int×Int
noncomputable def iW(x:It):W:=.tup [wt x.1,.int x.2.1,.int x.2.2.1,.int x.2.2.2]
def ir(x:Int):Prop:=0<=x/\x<=150
def LJ(x:It):Prop:=(pL x.1/\(jf x.1:Int)<=21*x.2.2.2)/\ir x.2.1/\ir x.2.2.1/\ir x.2.2.2
private theorem xU(h:∀c∈x,c<1114112):PyData.strOk (tx x)=true:=by unfold PyData.strOk;rw[<-Array.all_toList,HI];intro c a;exact Bz (h c a)
private theorem plX(h:nB x)(n:Nat):lE n (wX x)=true:=by
 have:PyData.strOk (tx x)=true:=xU λc a=>by have:=h.2.2 c a;unfold isLet at this;lia
 cases n<;>exact this
private theorem XH{a:List (List Nat)}(h:∀x∈a,nB x):lE 9 (.lst (a.map wX))=true:=HI.mpr λw c=>by obtain⟨x,b,rfl⟩:=IH.mp c;exact plX (h x b) 8
noncomputable def zH:List CS:=[.iff (.and [(.cmp .Lt (.bin .Mod (.var 0) (.int 5)) (.int 3)),(.cmp .NotEq (.var 1) (.lst []))]) [.ret (.tup [(.tup [(.str "name"),(.ix (.var 1) (.bin .Mod (.bin .FloorDiv (.var 0) (.int 5)) (.blt .len [(.var 1)])))]),(.int 1),(.int 0),(.int 1)])] [],.iff (.and [(.cmp .Eq (.bin .Mod (.var 0) (.int 5)) (.int 4)),(.cmp .Eq (.bin .Mod (.bin .FloorDiv (.var 0) (.int 5)) (.int 8)) (.int 0))]) [.set 2 (.bin .Add (.bin .Mult (.bin .Add (.var 0) (.int 1)) (.bin .Pow (.int 10) (.int 20))) (.bin .Mult (.var 0) (.int 7919))),.ret (.tup [(.tup [(.str "number"),(.var 2)]),(.int 0),(.int 0),(.int 30)])] [],.ret (.tup [(.tup [(.str "number"),(.bin .Mod (.bin .FloorDiv (.var 0) (.int 5)) (.ix (.lst [(.int 13),(.int 3),(.int 1000)]) (.bin .Mod (.bin .FloorDiv (.var 0) (.int 200)) (.int 3))))]),(.int 0),(.int 0),(.int 3)])]
def G9:aT:=λb Q _=>∃(n:Int)(a:List (List Nat)),b=[.int n,.lst (a.map wX)]/\(0<=n/\n<125000)/\a.length<=3/\(∀x∈a,nB x)/\∀x:It,LJ x->sz x.1=1->Q (iW x)
private theorem XI(a:1<=n)(h:k<2^n):k.log2+1<=n:=by
 rcases P3 k with e|e
 .rw[e];exact a
 .exact(eC (aw e)).mpr h
private theorem at3(x:Int):∃k:Int,(1<=k/\k<=1000)/\jg [W.int 13,.int 3,.int 1000] (x.fmod 3)=some (.int k):=by
 have f:=fm (x:=x) (n:=3) (by decide);have:x.fmod 3=0\/x.fmod 3=1\/x.fmod 3=2:=by clear f;lia
 rcases this with e|e|e<;>rw[e]
 .exact⟨13,by omega,rfl⟩
 .exact⟨3,by omega,rfl⟩
 .exact⟨1000,by omega,rfl⟩
private theorem s2{a b:W}:[a,b].length<=sizeLine:=ay (by show 2<=1000;decide)
private theorem s3{a b c:W}:[a,b,c].length<=sizeLine:=ay (by show 3<=1000;decide)
private theorem s4{a b c d:W}:[a,b,c,d].length<=sizeLine:=ay (by show 4<=1000;decide)
private theorem i0:ir 0:=by unfold ir;omega
private theorem i1:ir 1:=by unfold ir;omega
private theorem i3:ir 3:=by unfold ir;omega
private theorem i30:ir 30:=by unfold ir;omega
private theorem Tj{G:Nat->W}(ws:List W)(Q:W->Prop)(R:Addr->Prop)(h:G9 ws Q R):wSs o G zH (aU m Q R) (au 3 ws):=by
 obtain⟨n,a,rfl,⟨F,K⟩,L,u,y⟩:=h;have r:i7 n 5:=⟨by decide,eZ (n:=14) (by decide) (by decide)⟩;have t:i7 n 200:=⟨by decide,eZ (n:=14) (by decide) (by decide)⟩;have T:∀s:Int,0<s->0<=n.fdiv s:=λs S=>gg F (by lia);have d:wSs o G [.iff (.and [(.cmp .Eq (.bin .Mod (.var 0) (.int 5)) (.int 4)),(.cmp .Eq (.bin .Mod (.bin .FloorDiv (.var 0) (.int 5)) (.int 8)) (.int 0))]) [.set 2 (.bin .Add (.bin .Mult (.bin .Add (.var 0) (.int 1)) (.bin .Pow (.int 10) (.int 20))) (.bin .Mult (.var 0) (.int 7919))),.ret (.tup [(.tup [(.str "number"),(.var 2)]),(.int 0),(.int 0),(.int 30)])] [],.ret (.tup [(.tup [(.str "number"),(.bin .Mod (.bin .FloorDiv (.var 0) (.int 5)) (.ix (.lst [(.int 13),(.int 3),(.int 1000)]) (.bin .Mod (.bin .FloorDiv (.var 0) (.int 200)) (.int 3))))]),(.int 0),(.int 0),(.int 3)])] (aU m Q R) [some (.int n),some (.lst (a.map wX)),none]:=by
  have e:∀(v c:Int),0<=v->v<10^30->ir c->(∃n:Nat,v<2^n/\1<=n/\(n:Int)<=21*c)->Q (.tup [.tup [.str "number",.int v],.int 0,.int 0,.int c]):=λv c B I H ⟨n,D,C,J⟩=>by obtain⟨k,rfl⟩:=Ki B;refine y (.nu k,0,0,c) ⟨⟨by show k<10^30;lia,?_⟩,i0,i0,H⟩ rfl;have:=XI (k:=k) (n:=n) C (by rw[<-Int.ofNat_lt,gd];exact D);show((k.log2+1:Nat):Int)<=21*c;lia
  have g:wSs o G [.ret (.tup [(.tup [(.str "number"),(.bin .Mod (.bin .FloorDiv (.var 0) (.int 5)) (.ix (.lst [(.int 13),(.int 3),(.int 1000)]) (.bin .Mod (.bin .FloorDiv (.var 0) (.int 200)) (.int 3))))]),(.int 0),(.int 0),(.int 3)])] (aU m Q R) [some (.int n),some (.lst (a.map wX)),none]:=by fin2;obtain⟨k,⟨P,O⟩,l⟩:=at3 (n.fdiv 200);have f:=fm (x:=n.fdiv 5) (n:=k) (by lia);exact⟨r,s3,t,by decide,_,l,by lia,s2,s4,e _ _ f.1 (ed f.2 (by lia)) i3 ⟨10,ed f.2 (by lia),by decide,by decide⟩⟩
  refine aH (λb=>b=[some (.int n),some (.lst (a.map wX)),none]) (λN i=>?_) (by rintro _ rfl;exact g);fin2;refine⟨by decide,?_⟩;have p:Ed 10 20/\IntMulOk (n+1) (10^(20:Int).toNat)/\IntMulOk n 7919/\[W.str "number",W.int ((n+1)*10^(20:Int).toNat+n*7919)].length<=sizeLine/\[W.tup [W.str "number",W.int ((n+1)*10^(20:Int).toNat+n*7919)],W.int 0,W.int 0,W.int 30].length<=sizeLine/\Q (.tup [.tup [.str "number",.int ((n+1)*10^(20:Int).toNat+n*7919)],.int 0,.int 0,.int 30]):=by
   have q:((10:Int)^(20:Int).toNat)=100000000000000000000:=by decide
   rw[q];refine⟨fE (by decide) (by decide) (by decide),aZ (n:=20) (m:=70) (by omega) (by decide) (by decide),aZ (n:=20) (m:=14) (by lia) (by decide) (by decide),s2,s4,e _ _ (by lia) (by lia) i30 ⟨100,by lia,by decide,by decide⟩⟩
  split
  .refine⟨r,by decide,?_⟩;split
   .exact p
   .exact i _ rfl
  .exact i _ rfl
 show wSs _ _ zH _ [some (.int n),some (.lst (a.map wX)),none];unfold zH;refine aH (λb=>b=[some (.int n),some (.lst (a.map wX)),none]) (λN i=>?_) (by rintro _ rfl;exact d);fin2;refine⟨by decide,?_⟩;split
 .refine⟨ay (by show 0<=1000;decide),.inl ⟨XH u,rfl⟩,λk l=>?_⟩;cases k with
  |true=>exact i _ rfl
  |false=>
   have E:a≠[]:=λz=>by rw[z]at l;have:=l.mpr rfl;cases this
   have M:0<a.length:=Tb.mpr E;have f:=fm (x:=n.fdiv 5) (n:=((a.map wX).length:Nat)) (by rw[FK];lia);obtain⟨j,A⟩:=Ki f.1;have w:j<a.length:=by have:=f.2;rw[A,FK]at this;omega
   refine⟨r,by rw[FK];lia,wX a[j],?_,s2,s4,y (.nm a[j],1,0,1) ⟨⟨u _ (Mo w),by show((21:Nat):Int)<=21*1;decide⟩,i1,i0,i1⟩ rfl⟩;rw[A];exact cU (by rw[GM,Da w];rfl)
 .exact i _ rfl
noncomputable def rO:List CS:=[.iff (.or [(.cmp .Eq (.var 0) (.str "+")),(.cmp .Eq (.var 0) (.str "-"))]) [.set 3 (.blt .max2 [(.bin .Add (.ix (.var 1) (.int 1)) (.ix (.var 2) (.int 2))),(.bin .Add (.ix (.var 2) (.int 1)) (.ix (.var 1) (.int 2)))]),.ret (.tup [(.tup [(.var 0),(.ix (.var 1) (.int 0)),(.ix (.var 2) (.int 0))]),(.var 3),(.bin .Add (.ix (.var 1) (.int 2)) (.ix (.var 2) (.int 2))),(.bin .Add (.bin .Add (.ix (.var 1) (.int 3)) (.ix (.var 2) (.int 3))) (.int 1))])] [],.iff (.cmp .Eq (.var 0) (.str "*")) [.ret (.tup [(.tup [(.var 0),(.ix (.var 1) (.int 0)),(.ix (.var 2) (.int 0))]),(.bin .Add (.ix (.var 1) (.int 1)) (.ix (.var 2) (.int 1))),(.bin .Add (.ix (.var 1) (.int 2)) (.ix (.var 2) (.int 2))),(.bin .Add (.ix (.var 1) (.int 3)) (.ix (.var 2) (.int 3)))])] [],.ret (.tup [(.tup [(.var 0),(.ix (.var 1) (.int 0)),(.ix (.var 2) (.int 0))]),(.bin .Add (.ix (.var 1) (.int 1)) (.ix (.var 2) (.int 2))),(.bin .Add (.ix (.var 1) (.int 2)) (.ix (.var 2) (.int 1))),(.bin .Add (.ix (.var 1) (.int 3)) (.ix (.var 2) (.int 3)))])]
def LK(x:It):Prop:=0<=x.2.1/\0<=x.2.2.1/\0<=x.2.2.2
def pN:aT:=λd Q _=>∃(o:Nat)(x y:It),d=[.str (tx [o]),iW x,iW y]/\LK x/\LK y/\∀a b c:Int,LK (.op o x.1 y.1,a,b,c)->x.2.2.2+y.2.2.2+(Bq o:Nat)<=c->Q (iW (.op o x.1 y.1,a,b,c))
private theorem Hf{G:Nat->W}(ws:List W)(Q:W->Prop)(R:Addr->Prop)(h:pN ws Q R):wSs e G rO (aU m Q R) (au 4 ws):=by
 obtain⟨o,x,y,rfl,⟨n,l,k⟩,⟨j,i,g⟩,c⟩:=h;show wSs _ _ rO _ [some _,some _,some _,none];unfold rO iW;fin2;have d:∀a b:Int,0<=a->0<=(if b>a then b else a):=λa b h=>by split<;>lia
 have p:(Bq o:Int)<=1:=by unfold Bq;split<;>decide
 split
 .exact⟨_,rfl,_,rfl,_,rfl,_,rfl,_,rfl,_,rfl,s3,_,rfl,_,rfl,_,rfl,_,rfl,s4,c _ _ _ ⟨d _ _ (by lia),by show 0<=_+_;lia,by show 0<=_+_+1;lia⟩ (by lia)⟩
 .rename_i n1
  split
  .exact⟨_,rfl,_,rfl,_,rfl,_,rfl,_,rfl,_,rfl,s3,_,rfl,_,rfl,_,rfl,_,rfl,s4,c _ _ _ ⟨d _ _ (by omega),by show 0<=_+_;omega,by show 0<=_+_+1;omega⟩ (by omega)⟩
  .rename_i n2
   have f:Bq o=0:=B1 λz=>by
    rcases z with z|z
    .exact n1 (Bz (by rw[z];decide+kernel))
    .exact n2 (Bz (by rw[z];decide+kernel))
   rw[f]at c;split
   .exact⟨_,rfl,_,rfl,s3,_,rfl,_,rfl,_,rfl,_,rfl,_,rfl,_,rfl,s4,c _ _ _ ⟨by show 0<=_+_;lia,by show 0<=_+_;omega,by show 0<=_+_;lia⟩ (by lia)⟩
   .exact⟨_,rfl,_,rfl,s3,_,rfl,_,rfl,_,rfl,_,rfl,_,rfl,_,rfl,s4,c _ _ _ ⟨by show 0<=_+_;omega,by show 0<=_+_;lia,by show 0<=_+_;omega⟩ (by omega)⟩
noncomputable def zI:List CS:=[.ret (.and [(.cmp .LtE (.blt .max2 [(.ix (.var 0) (.int 1)),(.ix (.var 0) (.int 2))]) (.var 1)),(.cmp .LtE (.ix (.var 0) (.int 3)) (.int 150))])]
def Br:aT:=λa Q _=>∃(x:It)(k:Int),a=[iW x,.int k]/\∀b:Bool,(b=true->x.2.1<=k/\x.2.2.1<=k/\x.2.2.2<=150)->Q (.bl b)
private theorem Tn{G:Nat->W}(ws:List W)(Q:W->Prop)(R:Addr->Prop)(h:Br ws Q R):wSs c G zI (aU m Q R) (au 2 ws):=by
 obtain⟨x,k,rfl,b⟩:=h;show wSs _ _ zI _ [some _,some _];unfold zI iW;fin2;refine⟨_,rfl,_,rfl,?_⟩;fin2;by_cases a:(if x.2.2.1>x.2.1 then x.2.2.1 else x.2.1)<=k
 .rw[BM (Bz a)];refine⟨_,rfl,b _ λz=>?_⟩;have z:=AN z;split at a<;>exact⟨by lia,by lia,z⟩
 .rw[B1 (by rw[Gc];exact a)];exact b _ λz=>by cases z
private theorem vC(l r:List α)(x:α)(a:i= -((r.length+1:Nat):Int)):jg (l++x::r) i=some x:=by
 unfold jg Aj;rw[B1 (by omega),BM (by simp;lia)];have:(i+((l++x::r).length:Nat)).toNat=l.length:=by simp;lia
 rw[this];show(l++x::r)[l.length]?=some x;rw[Hn (BY _),hV];rfl
private theorem vD(l r:List W){i:Int}(a:r≠[])(e:i= -(r.length:Nat)):m8 (l++r) none (some i)=l:=by
 have d:0<r.length:=Tb.mpr a;unfold m8;have c:HT.cy (l++r).length 0 none=0:=rfl;have b:HT.cy (l++r).length (l++r).length (some i)=l.length:=by show(if i<0 then(i+((l++r).length:Nat)).toNat else min i.toNat (l++r).length)=_;rw[BM (by omega),DL];lia
 rw[c,b,YP,ZY,gb]
private theorem YH(n:Nat)(h:PyData.strOk s=true):lE n (.str s)=true:=by cases n<;>exact h
private theorem plZ(n:Nat)(i:Int):lE n (.int i)=true:=by cases n<;>rfl
private theorem XJ:∀(T:Tr)(n:Nat),pL T->sz T<=n->lE n (wt T)=true
 |.nm x,n+1,h,_=>by show[W.str "name",wX x].all (lE n)=true;rw[Ai,Ai,plX h n,YH n (by decide+kernel)];rfl
 |.nu k,n+1,h,_=>by show[W.str "number",W.int k].all (lE n)=true;rw[Ai,Ai,plZ,YH n (by decide+kernel)];rfl
 |.op o a b,n+1,h,d=>by
  have d:sz a+sz b+1<=n+1:=d;show[W.str (tx [o]),wt a,wt b].all (lE n)=true;rw[Ai,Ai,Ai,XJ a n h.2.1 (by lia),XJ b n h.2.2 (by lia)];have:PyData.strOk (tx [o])=true:=xU λc f=>by rw[Dx.mp f];have:=h.1;lia
  have:lE n (.str (tx [o]))=true:=by cases n<;>exact this
  rw[this];rfl
 |.pw a e,n+1,h,d=>by have d:sz a+1<=n+1:=d;show[W.str "^",wt a,W.int e].all (lE n)=true;rw[Ai,Ai,Ai,XJ a n h.2 (by lia),plZ,YH n (by decide+kernel)];rfl
 |.ls a,n+1,h,d=>by have d:sz a+1<=n+1:=d;show[W.str "less",wt a].all (lE n)=true;rw[Ai,Ai,XJ a n h (by lia),YH n (by decide+kernel)];rfl
 |T,0,_,d=>by have:=fN T;lia
noncomputable def j6(L:List It):Nat:=(L.map λx=>sz x.1).sum
private theorem jZ(a b:List It):j6 (a++b)=j6 a+j6 b:=by unfold j6;rw[Kk,List.sum_append]
private theorem LL(h:x∈L):sz x.1<=j6 L:=by obtain⟨a,b,rfl⟩:=List.append_of_mem h;rw[jZ];show _<=_+((x::b).map λx=>sz x.1).sum;rw[Fh,gp];lia
private theorem plL(h:∀x∈L,LJ x)(c:j6 L<=50):lE 60 (.lst (L.map iW))=true:=HI.mpr λw b=>by obtain⟨x,a,rfl⟩:=IH.mp b;have:=LL a;show[wt x.1,W.int x.2.1,.int x.2.2.1,.int x.2.2.2].all (lE 58)=true;rw[Ai,XJ x.1 58 (h x a).1.1 (by lia)];rfl
noncomputable def ND:CS:=.iff (.and [(.cmp .Gt (.var 4) (.int 2)),(.cmp .Lt (.var 4) (.int 6)),(.cmp .Gt (.blt .len [(.var 0)]) (.int 1))]) [.set 6 (.call 0 [(.ix (.str "+-*/") (.bin .Mod (.var 5) (.int 4))),(.ix (.var 0) (.neg (.int 2))),(.ix (.var 0) (.neg (.int 1)))]),.iff (.call 1 [(.var 6),(.var 3)]) [.ret (.bin .Add (.sl (.var 0) .aN (.neg (.int 2))) (.lst [(.var 6)]))] []] []
noncomputable def NF:CS:=.iff (.and [(.cmp .Eq (.var 4) (.int 6)),(.cmp .NotEq (.var 0) (.lst []))]) [.DA [7,8,9,10] (.ix (.var 0) (.neg (.int 1))),.set 11 (.ix (.lst [(.int 2),(.int 3),(.int 0),(.int 1),(.bin .Mod (.bin .FloorDiv (.var 5) (.int 5)) (.int 13))]) (.bin .Mod (.var 5) (.int 5))),.set 6 (.tup [(.tup [(.str "^"),(.var 7),(.var 11)]),(.bin .Mult (.var 8) (.var 11)),(.bin .Mult (.var 9) (.var 11)),(.bin .Mult (.var 10) (.blt .max2 [(.int 1),(.var 11)]))]),.iff (.call 1 [(.var 6),(.var 3)]) [.ret (.bin .Add (.sl (.var 0) .aN (.neg (.int 1))) (.lst [(.var 6)]))] []] []
noncomputable def NG:CS:=.iff (.and [(.cmp .Eq (.var 4) (.int 7)),(.cmp .NotEq (.var 0) (.lst []))]) [.ret (.bin .Add (.sl (.var 0) .aN (.neg (.int 1))) (.lst [(.bin .Add (.tup [(.tup [(.str "less"),(.ix (.ix (.var 0) (.neg (.int 1))) (.int 0))])]) (.slt (.ix (.var 0) (.neg (.int 1))) (.int 1) .aN))]))] []
noncomputable def rP:List CS:=[.set 4 (.bin .Mod (.var 1) (.int 8)),.set 5 (.bin .FloorDiv (.var 1) (.int 8)),ND,NF,NG,.ret (.bin .Add (.var 0) (.lst [(.call 2 [(.var 5),(.var 2)])]))]
def vE:aT:=λc Q _=>∃(L:List It)(n k:Int)(b:List (List Nat)),c=[.lst (L.map iW),.int n,.lst (b.map wX),.int k]/\(∀x∈L,LJ x)/\j6 L<=20/\(0<=n/\n<1000000)/\b.length<=3/\(∀x∈b,nB x)/\(0<=k/\k<=12)/\∀a:List It,(∀x∈a,LJ x)->a≠[]->j6 a<=j6 L+1->Q (.lst (a.map iW))
private theorem pO:∀L:List It,L.length<=j6 L
 |[]=>BY _
 |x::L=>by have:=pO L;have:=fN x.1;show L.length+1<=((x::L).map λx=>sz x.1).sum;rw[Fh,gp];show L.length+1<=sz x.1+j6 L;lia
private theorem Hg(r:Int):∃o,(o=43\/o=45\/o=42\/o=47)/\jg ("+-*/":Str).cps.toList (r.fmod 4)=some o:=by
 have f:=fm (x:=r) (n:=4) (by decide);have e:("+-*/":Str).cps.toList=[43,45,42,47]:=by decide+kernel
 rw[e];have:r.fmod 4=0\/r.fmod 4=1\/r.fmod 4=2\/r.fmod 4=3:=by clear e f;lia
 rcases this with h|h|h|h<;>rw[h]
 .exact⟨43,by lia,rfl⟩
 .exact⟨45,by lia,rfl⟩
 .exact⟨42,by lia,rfl⟩
 .exact⟨47,by omega,rfl⟩
private theorem at5(r x:Int)(a:0<=x)(b:x<13):∃e:Nat,e<=12/\jg [W.int 2,.int 3,.int 0,.int 1,.int x] (r.fmod 5)=some (.int e):=by
 have f:=fm (x:=r) (n:=5) (by decide);have:r.fmod 5=0\/r.fmod 5=1\/r.fmod 5=2\/r.fmod 5=3\/r.fmod 5=4:=by clear f b a;lia
 obtain⟨j,rfl⟩:=Ki a;rcases this with h|h|h|h|h<;>rw[h]
 .exact⟨2,by omega,rfl⟩
 .exact⟨3,by omega,rfl⟩
 .exact⟨0,by omega,rfl⟩
 .exact⟨1,by omega,rfl⟩
 .exact⟨j,by lia,rfl⟩
private theorem Hh{G:Nat->W}(ws:List W)(Q:W->Prop)(R:Addr->Prop)(h:vE ws Q R):wSs (bg [pN,Br,G9]) G rP (aU m Q R) (au 12 ws):=by
 obtain⟨L,n,k,s,rfl,u,hz,⟨n0,n1⟩,lx,px,⟨k0,k1⟩,hq⟩:=h;have ln:=pO L;show wSs _ _ rP _ [some (.lst (L.map iW)),some (.int n),some (.lst (s.map wX)),some (.int k),none,none,none,none,none,none,none,none];unfold rP;refine aH (λj=>∃w:Int,j=[some (.lst (L.map iW)),some (.int n),some (.lst (s.map wX)),some (.int k),some (.int w),none,none,none,none,none,none,none]) (λN p=>?_) ?_
 .fin2;exact⟨by decide,p _ ⟨_,rfl⟩⟩
 rintro _ ⟨w,rfl⟩;refine aH (λj=>∃r:Int,(0<=r/\r<125000)/\j=[some (.lst (L.map iW)),some (.int n),some (.lst (s.map wX)),some (.int k),some (.int w),some (.int r),none,none,none,none,none,none]) (λN p=>?_) ?_
 .fin2;refine⟨⟨by decide,eZ (n:=14) (by decide) (by decide)⟩,p _ ⟨_,⟨gg n0 (by decide),?_⟩,rfl⟩⟩;rw[PQ _ (by decide)];lia
 rintro _ ⟨r,⟨r0,r1⟩,rfl⟩;have D:∀{Q:W->Prop},(∀b:Bool,(b=true->∃g y,L=g++[y])->Q (.bl b))->e9 .NotEq (.lst (L.map iW)) (.lst []) Q:=λ{Q} hQ=>by
  refine⟨.inr (.inr ⟨plL u (by lia),rfl⟩),λb hb=>hQ (!b) λz=>?_⟩;have bf:b=false:=by cases b;rfl;cases z
  rcases eA L with e|⟨g,y,e⟩
  .rw[e]at hb;rw[hb.mpr rfl]at bf;cases bf
  .exact⟨g,y,by rw[e,List.concat_eq_append]⟩
 have q:∀(g:List It)(x:It),j6 g+sz x.1<=j6 L+1->(∀y∈g,LJ y)->LJ x->(g.map iW).length+[iW x].length<=sizeLine/\Q (.lst (g.map iW++[iW x])):=λg x hs h0 X=>by
  have l0:=pO g;refine⟨ay (by rw[FK];show g.length+1<=1000;lia),?_⟩;have:=hq (g++[x]) (λy E=>by
   rcases Fu.mp E with E|E
   .exact h0 y E
   .rw[Dx.mp E];exact X) (by simp) (by rw[jZ];unfold j6 at hs⊢;simpa using hs)
  rw[Kk]at this;exact this
 refine aH (λj=>∃C,j=[some (.lst (L.map iW)),some (.int n),some (.lst (s.map wX)),some (.int k),some (.int w),some (.int r),C,none,none,none,none,none]) (λN p=>?_) ?_
 .unfold ND;fin2;split;rotate_left
  .exact p _ ⟨_,rfl⟩
  split;rotate_left
  .exact p _ ⟨_,rfl⟩
  split;rotate_left
  .exact p _ ⟨_,rfl⟩
  rename_i v
  have v:=AN v;obtain⟨g,x,y,rfl⟩:∃g x y,L=g++[x,y]:=by
   rw[FK]at v;rcases eA L with e|⟨L1,y,e⟩
   .rw[e]at v;simp at v
   .rcases eA L1 with e1|⟨g,x,e1⟩
    .rw[e,e1]at v;simp at v
    .exact⟨g,x,y,by rw[e,e1];simp⟩
  obtain⟨o,ho,t⟩:=Hg r;have M:∀z∈g++[x,y],LJ z:=u;have I:=M x (by simp);have l:=M y (by simp);have K:j6 (g++[x,y])=j6 g+(sz x.1+sz y.1):=by rw[jZ];unfold j6;simp
  refine⟨by decide,ay (by decide+kernel),o,t,iW x,by rw[Kk];exact vC (g.map iW) [iW y] _ rfl,iW y,by rw[Kk];have:=vC (g.map iW++[iW x]) [] (iW y) (i:= -1) rfl;simpa using this,o,x,y,rfl,⟨I.2.1.1,I.2.2.1.1,I.2.2.2.1⟩,⟨l.2.1.1,l.2.2.1.1,l.2.2.2.1⟩,λa b c Y hc=>⟨(.op o x.1 y.1,a,b,c),k,rfl,λA B=>?_⟩⟩;cases A with
  |false=>exact p _ ⟨_,rfl⟩
  |true=>obtain⟨H,F,Z⟩:=B rfl;have H:a<=k:=H;have F:b<=k:=F;have d:=q g (.op o x.1 y.1,a,b,c) (by rw[K];show j6 g+(sz x.1+sz y.1+1)<=_;lia) (λz hz=>M z (by simp[hz])) ⟨⟨⟨ho,I.1.1,l.1.1⟩,by have:=I.1.2;have:=l.1.2;show((jf x.1+jf y.1+Bq o:Nat):Int)<=21*c;lia⟩,⟨Y.1,by show a<=150;lia⟩,⟨Y.2.1,by show b<=150;lia⟩,⟨Y.2.2,Z⟩⟩;show[iW _].length<=sizeLine/\_;refine⟨ay (by show 1<=1000;decide),?_⟩;rw[Kk,show m8 (g.map iW++[x,y].map iW) none (some (-2))=g.map iW from vD _ _ (by simp) rfl];exact d
 rintro _ ⟨C,rfl⟩;refine aH (λj=>∃C U T S P O,j=[some (.lst (L.map iW)),some (.int n),some (.lst (s.map wX)),some (.int k),some (.int w),some (.int r),C,U,T,S,P,O]) (λN p=>?_) ?_
 .unfold NF;fin2;split;rotate_left
  .exact p _ ⟨_,_,_,_,_,_,rfl⟩
  refine⟨ay (by show 0<=1000;decide),D λA B=>?_⟩;cases A with
  |false=>exact p _ ⟨_,_,_,_,_,_,rfl⟩
  |true=>
   obtain⟨g,y,rfl⟩:=B rfl;have l:=u y (by simp);have J:j6 (g++[y])=j6 g+sz y.1:=by rw[jZ];unfold j6;simp
   refine⟨iW y,by rw[Kk];exact vC (g.map iW) [] _ rfl,rfl,?_⟩;fin2;have f:=fm (x:=r.fdiv 5) (n:=13) (by decide);obtain⟨e,he,t⟩:=at5 r _ f.1 f.2;have mk:∀z:Int,ir z->IntMulOk z e:=λz hz=>aZ (n:=8) (m:=4) (by have:=hz.1;have:=hz.2;lia) (by omega) (by decide);refine⟨⟨by decide,eZ (n:=14) (by decide) (by decide)⟩,by decide,ay (by show 5<=1000;decide),by decide,_,t,?_⟩;fin2;have mx:(if(e:Int)>1 then(e:Int)else 1)=((max 1 e:Nat):Int):=by split<;>lia
   refine⟨s3,mk _ l.2.1,mk _ l.2.2.1,?_⟩;rw[mx];refine⟨aZ (n:=8) (m:=4) (by have:=l.2.2.2.1;have:=l.2.2.2.2;lia) (by omega) (by decide),s4,(.pw y.1 e,y.2.1*e,y.2.2.1*e,y.2.2.2*(max 1 e:Nat)),k,rfl,λA B=>?_⟩;cases A with
   |false=>exact p _ ⟨_,_,_,_,_,_,rfl⟩
   |true=>obtain⟨H,F,Z⟩:=B rfl;have H:y.2.1*e<=k:=H;have F:y.2.2.1*e<=k:=F;have d:=q g (.pw y.1 e,y.2.1*e,y.2.2.1*e,y.2.2.2*(max 1 e:Nat)) (by rw[J];show j6 g+(sz y.1+1)<=_;lia) (λz hz=>u z (by simp[hz])) ⟨⟨⟨he,l.1.1⟩,by have em:=Y2 l.1.2 (show(0:Int)<=((max 1 e:Nat):Int) by lia);show((jf y.1*max 1 e:Nat):Int)<=21*(y.2.2.2*((max 1 e:Nat):Int));rw[YG,<-Int.mul_assoc];exact em⟩,⟨eI l.2.1.1 (by lia),by show y.2.1*e<=150;omega⟩,⟨eI l.2.2.1.1 (by omega),by show y.2.2.1*e<=150;omega⟩,⟨eI l.2.2.2.1 (by omega),Z⟩⟩;refine⟨ay (by show 1<=1000;decide),?_⟩;rw[Kk,show m8 (g.map iW++[y].map iW) none (some (-1))=g.map iW from vD _ _ (by simp) rfl];exact d
 rintro _ ⟨C,U,T,S,P,O,rfl⟩;refine aH (λj=>j=[some (.lst (L.map iW)),some (.int n),some (.lst (s.map wX)),some (.int k),some (.int w),some (.int r),C,U,T,S,P,O]) (λN p=>?_) ?_
 .unfold NG;fin2;split;rotate_left
  .exact p _ rfl
  refine⟨ay (by show 0<=1000;decide),D λA B=>?_⟩;cases A with
  |false=>exact p _ rfl
  |true=>
   obtain⟨g,y,rfl⟩:=B rfl;have l:=u y (by simp);have J:j6 (g++[y])=j6 g+sz y.1:=by rw[jZ];unfold j6;simp
   have a1:jg ((g++[y]).map iW) (-1)=some (iW y):=by rw[Kk];exact vC (g.map iW) [] _ rfl
   have d:=q g (.ls y.1,y.2.1,y.2.2.1,y.2.2.2) (by rw[J];show j6 g+(sz y.1+1)<=_;lia) (λz hz=>u z (by simp[hz])) ⟨l.1,l.2⟩;refine⟨iW y,a1,_,rfl,s2,ay (by show 1<=1000;decide),iW y,a1,(by show¬(1=0/\_);lia),(by simp),(by show 1+3<=sizeLine;exact ay (by decide)),ay (by show 1<=1000;decide),?_⟩;rw[Kk,show m8 (g.map iW++[y].map iW) none (some (-1))=g.map iW from vD _ _ (by simp) rfl];exact d
 rintro _ rfl;fin2;refine⟨r,s,rfl,⟨r0,r1⟩,lx,px,λx X sx=>?_⟩;exact⟨ay (by show 1<=1000;decide),q L x (by lia) u X⟩
noncomputable def NH:List CS:=[.set 3 (.call 0 [(.var 3),(.var 4),(.var 1),(.var 2)])]
noncomputable def NI:List CS:=[.set 7 (.call 1 [(.ix (.str "+-*/") (.bin .Mod (.bin .Add (.blt .len [(.var 0)]) (.var 6)) (.int 4))),(.var 5),(.ix (.var 3) (.var 6))]),.iff (.call 2 [(.var 7),(.var 2)]) [.set 5 (.var 7)] []]
noncomputable def vF:List CS:=[.set 3 (.lst []),.fr [4] true (.var 0) NH,.set 5 (.ix (.var 3) (.int 0)),.fr [6] true (.pT [(.int 1),(.blt .len [(.var 3)])]) NI,.ret (.ix (.var 5) (.int 0))]
def vG:aT:=λc Q _=>∃(a:List Int)(b:List (List Nat))(k:Int),c=[wI a,.lst (b.map wX),.int k]/\(1<=a.length/\a.length<=14)/\(∀x∈a,0<=x/\x<1000000)/\b.length<=3/\(∀x∈b,nB x)/\(0<=k/\k<=12)/\∀T:Tr,pL T->sz T<=27->jf T<=3150->Q (wt T)
def okB(x:It):Prop:=pL x.1/\(jf x.1:Int)<=21*x.2.2.2/\x.2.2.2<=150
private theorem xV(L:List It)(i:Nat)(h:i<L.length):j6 (L.take (i+1))=j6 (L.take i)+sz L[i].1:=by rw[gN,Da h,jZ];unfold j6;simp
private theorem xW(n:Nat):(fh a b n).length=n:=by unfold fh;simp
private theorem LM{G:Nat->W}(ws:List W)(Q:W->Prop)(R:Addr->Prop)(h:vG ws Q R):wSs (bg [vE,pN,Br]) G vF (aU m Q R) (au 8 ws):=by
 obtain⟨g,q,k,rfl,⟨m1,O⟩,Z,P,K,⟨T,S⟩,B⟩:=h;show wSs _ _ vF _ [some (wI g),some (.lst (q.map wX)),some (.int k),none,none,none,none,none];unfold vF;refine aH (λd=>d=[some (wI g),some (.lst (q.map wX)),some (.int k),some (.lst []),none,none,none,none]) (λN u=>?_) ?_
 .fin2;exact⟨ay (by show 0<=1000;decide),u _ rfl⟩
 rintro _ rfl;refine aH (λd=>∃(L:List It)(f:Option W),((∀x∈L,LJ x)/\L≠[]/\j6 L<=14)/\d=[some (wI g),some (.lst (q.map wX)),some (.int k),some (.lst (L.map iW)),f,none,none,none]) (λN u=>?_) ?_
 .refine rK (l:=g.map W.int) (λQ B=>?_) ?_
  .fin2;exact B
  refine gy (λi D=>∃(L:List It)(f:Option W),((∀x∈L,LJ x)/\(0<i->L≠[])/\j6 L<=i)/\D=[some (wI g),some (.lst (q.map wX)),some (.int k),some (.lst (L.map iW)),f,none,none,none]) ⟨[],none,⟨(λx U=>by cases U),(λz=>by omega),BY _⟩,rfl⟩ ?_ ?_
  .rintro i w _ N1 j ⟨L,f,⟨e,p,y⟩,rfl⟩ C;obtain⟨n,J,rfl⟩:∃n,g[i]?=some n/\w=.int n:=by rw[GM]at j;obtain⟨n,e1,e2⟩:=He.mp j;exact⟨n,e1,e2.symm⟩
   have E:=(Fk.mp J).1;unfold NH;fin2;exact⟨L,n,k,q,rfl,e,by lia,Z n (KM J),P,K,⟨T,S⟩,λL' a b c=>C _ ⟨L',_,⟨a,λ_=>b,by lia⟩,rfl⟩⟩
  .rintro _ ⟨L,f,⟨e,p,y⟩,rfl⟩;rw[FK]at p y;exact u _ ⟨L,f,⟨e,p (by lia),by lia⟩,rfl⟩
 rintro _ ⟨L,f,⟨v,M,hz⟩,rfl⟩;have r:0<L.length:=Tb.mpr M;have ll:=pO L;refine aH (λd=>d=[some (wI g),some (.lst (q.map wX)),some (.int k),some (.lst (L.map iW)),f,some (iW L[0]),none,none]) (λN u=>?_) ?_
 .fin2;exact⟨_,cU (n:=0) (by rw[GM,Da r];rfl),u _ rfl⟩
 rintro _ rfl;refine aH (λd=>∃(x:It)(t s:Option W),(okB x/\sz x.1<=27)/\d=[some (wI g),some (.lst (q.map wX)),some (.int k),some (.lst (L.map iW)),f,some (iW x),t,s]) (λN u=>?_) ?_
 .refine rK (l:=fh 1 1 (L.length -1)) (λQ B=>?_) ?_
  .fin2;refine⟨⟨by decide,by decide,by lia,by rw[FK];lia⟩,?_⟩;rw[show(((L.map iW).length:Nat) -1:Int).toNat=L.length -1 by rw[FK];lia];exact B
  refine gy (λi D=>∃(x:It)(t s:Option W),((okB x/\LK x)/\sz x.1<=j6 (L.take (i+1))+i)/\D=[some (wI g),some (.lst (q.map wX)),some (.int k),some (.lst (L.map iW)),f,some (iW x),t,s]) ⟨L[0],none,none,⟨⟨⟨(v _ (Mo r)).1.1,(v _ (Mo r)).1.2,(v _ (Mo r)).2.2.2.2⟩,(v _ (Mo r)).2.1.1,(v _ (Mo r)).2.2.1.1,(v _ (Mo r)).2.2.2.1⟩,by rw[xV L 0 r];show _<=j6 []+_+0;lia⟩,rfl⟩ ?_ ?_
  .rintro i w _ N1 j ⟨x,t,s,⟨⟨e,p⟩,y⟩,rfl⟩ C;have E:=(Fk.mp j).1;rw[xW]at E;obtain rfl:w=.int ((i+1:Nat):Int):=by unfold fh at j;rw[GM,ar E]at j;have j:some (W.int (1+(i:Int)*1))=some w:=j;rw[<-Fs j,show(1+(i:Int)*1)=((i+1:Nat):Int) by lia]
   have F:i+1<L.length:=by omega
   have A:=v _ (Mo F);obtain⟨o,Y,H⟩:=Hg (((g.map W.int).length:Int)+((i+1:Nat):Int));unfold NI;fin2;refine⟨(by show(4:Int)≠0;decide),ay (by decide+kernel),o,H,iW L[i+1],cU (by rw[GM,Da F];rfl),o,x,L[i+1],rfl,p,⟨A.2.1.1,A.2.2.1.1,A.2.2.2.1⟩,λa b c X hc=>⟨(.op o x.1 L[i+1].1,a,b,c),k,rfl,λbb Ey=>?_⟩⟩;have I:=xV L (i+1) F;cases bb with
   |false=>exact C _ ⟨x,_,_,⟨⟨e,p⟩,by rw[I];lia⟩,rfl⟩
   |true=>exact C _ ⟨(.op o x.1 L[i+1].1,a,b,c),_,_,⟨⟨⟨⟨Y,e.1,A.1.1⟩,by have:=e.2.1;have:=A.1.2;show((jf x.1+jf L[i+1].1+Bq o:Nat):Int)<=21*c;lia,(Ey rfl).2.2⟩,X⟩,by rw[I];show sz x.1+sz L[i+1].1+1<=_;lia⟩,rfl⟩
  .rintro _ ⟨x,t,s,⟨⟨e,p⟩,y⟩,rfl⟩;rw[xW]at y;refine u _ ⟨x,t,s,⟨e,?_⟩,rfl⟩;rw[show L.length -1+1=L.length by lia,et]at y;lia
 rintro _ ⟨x,t,s,⟨e,p⟩,rfl⟩;unfold iW;fin2;exact⟨_,rfl,B _ e.1 p (by have:=e.2.1;have:=e.2.2;lia)⟩
noncomputable def vH:List CS:=[.iff (.or [(.cmp .Eq (.ix (.var 0) (.int 0)) (.str "+")),(.cmp .Eq (.ix (.var 0) (.int 0)) (.str "-"))]) [.ret (.int 0)] [],.iff (.or [(.cmp .Eq (.ix (.var 0) (.int 0)) (.str "*")),(.cmp .Eq (.ix (.var 0) (.int 0)) (.str "/"))]) [.ret (.int 1)] [],.ret (.Uk ["less","^","name","number"] [2,3,4,4] (.ix (.var 0) (.int 0)))]
def kR:aT:=λa Q _=>∃T:Tr,a=[wt T]/\pL T/\Q (.int (bi T))
noncomputable def hd:Tr->Str
 |.nm _=>"name"
 |.nu _=>"number"
 |.op o _ _=>tx [o]
 |.pw _ _=>"^"
 |.ls _=>"less"
noncomputable def tl:Tr->List W
 |.nm x=>[wX x]
 |.nu n=>[.int n]
 |.op _ a b=>[wt a,wt b]
 |.pw a e=>[wt a,.int e]
 |.ls a=>[wt a]
private theorem bY(T:Tr):wt T=.tup (.str (hd T)::tl T):=by cases T<;>rfl
private theorem fq{l:List W}:jg (w::l) 0=some w:=cU (n:=0) rfl
private theorem Hi:("+":Str)=tx [43]:=by decide+kernel
private theorem Bs:("-":Str)=tx [45]:=by decide+kernel
private theorem Bt:("*":Str)=tx [42]:=by decide+kernel
private theorem zJ:("/":Str)=tx [47]:=by decide+kernel
noncomputable def rQ(T:Tr)(o:Nat):Bool:=match T with
 |.op p _ _=>decide (p=o)
 |_=>false
private theorem rR(T:Tr)(o:Nat)(d:autoParam (o≠94) dB._auto_1):decide (hd T=tx [o])=rQ T o:=by
 have c:∀l:List Nat,l.length≠1->decide (tx l=tx [o])=false:=λl h=>Ee λe=>h (by rw[kK e];rfl);cases T with
 |op p a b=>show decide (tx [p]=tx [o])=decide (p=o);rw[rG];exact Qb.mpr ⟨λh=>(OR h).1,λh=>by rw[h]⟩
 |nm x=>rw[show hd (.nm x)=tx [110,97,109,101] by show("name":Str)=_;decide+kernel];exact c _ (by decide)
 |nu x=>rw[show hd (.nu x)=tx [110,117,109,98,101,114] by show("number":Str)=_;decide+kernel];exact c _ (by decide)
 |ls x=>rw[show hd (.ls x)=tx [108,101,115,115] by show("less":Str)=_;decide+kernel];exact c _ (by decide)
 |pw x e=>rw[show hd (.pw x e)=tx [94] by show("^":Str)=_;decide+kernel,rG];exact Ee λh=>d (OR h).1.symm
private theorem LN{G:Nat->W}(ws:List W)(Q:W->Prop)(R:Addr->Prop)(h:kR ws Q R):wSs l G vH (aU m Q R) (au 1 ws):=by
 obtain⟨T,rfl,p,c⟩:=h;have k:(rQ T 43=true\/rQ T 45=true)->bi T=0:=λh=>by
  cases T with
  |op o a b=>exact BM (h.imp AN AN)
  |_=>rcases h with h|h<;>cases h
 have d:¬(rQ T 43=true\/rQ T 45=true)->(rQ T 42=true\/rQ T 47=true)->bi T=1:=λn h=>by
  cases T with
  |op o a b=>exact B1 λz=>n (z.imp Bz Bz)
  |_=>rcases h with h|h<;>cases h
 show wSs _ _ vH _ [some (wt T)];rw[bY];unfold vH;fin2;refine⟨_,fq,?_⟩;fin2;rw[Hi,rR T 43];by_cases j:rQ T 43=true
 .rw[BM j];rw[k (.inl j)]at c;exact c
 rw[B1 j];refine⟨_,fq,?_⟩;fin2;rw[Bs,rR T 45];by_cases i:rQ T 45=true
 .rw[BM i];rw[k (.inr i)]at c;exact c
 rw[B1 i];refine⟨_,fq,?_⟩;fin2;rw[Bt,rR T 42];by_cases g:rQ T 42=true
 .rw[BM g];rw[d (by rintro(z|z)<;>contradiction) (.inl g)]at c;exact c
 rw[B1 g];refine⟨_,fq,?_⟩;fin2;rw[zJ,rR T 47];by_cases f:rQ T 47=true
 .rw[BM f];rw[d (by rintro(z|z)<;>contradiction) (.inr f)]at c;exact c
 rw[B1 f];refine⟨_,fq,?_⟩;fin2;cases T with
 |nm x=>exact⟨4,by show lW "name" _ _=_;decide+kernel,c⟩
 |nu x=>exact⟨4,by show lW "number" _ _=_;decide+kernel,c⟩
 |ls x=>exact⟨2,by show lW "less" _ _=_;decide+kernel,c⟩
 |pw x e=>exact⟨3,by show lW "^" _ _=_;decide+kernel,c⟩
 |op o a b=>
  rcases p.1 with e|e|e|e
  .exact absurd (Bz e) j
  .exact absurd (Bz e) i
  .exact absurd (Bz e) g
  .exact absurd (Bz e) f
noncomputable def pP:List CS:=[.iff (.cmp .Lt (.call 0 [(.var 0)]) (.var 1)) [.ret (.bin .Add (.bin .Add (.str "(") (.call 1 [(.var 0)])) (.str ")"))] [],.ret (.call 1 [(.var 0)])]
noncomputable def vI:List CS:=[.iff (.or [(.cmp .Eq (.ix (.var 0) (.int 0)) (.str "name")),(.cmp .Eq (.ix (.var 0) (.int 0)) (.str "number"))]) [.ret (.blt .str [(.ix (.var 0) (.int 1))])] [],.iff (.cmp .Eq (.ix (.var 0) (.int 0)) (.str "less")) [.ret (.bin .Add (.str "-") (.call 0 [(.ix (.var 0) (.int 1)),(.int 2)]))] [],.iff (.cmp .Eq (.ix (.var 0) (.int 0)) (.str "^")) [.ret (.bin .Add (.bin .Add (.call 0 [(.ix (.var 0) (.int 1)),(.int 4)]) (.str "^")) (.blt .str [(.ix (.var 0) (.int 2))]))] [],.set 1 (.call 1 [(.var 0)]),.ret (.bin .Add (.bin .Add (.bin .Add (.bin .Add (.call 0 [(.ix (.var 0) (.int 1)),(.var 1)]) (.str " ")) (.ix (.var 0) (.int 0))) (.str " ")) (.call 0 [(.ix (.var 0) (.int 2)),(.bin .Add (.var 1) (.int 1))]))]
def zK(n:Nat):aT:=λa Q _=>∃T:Tr,a=[wt T]/\pL T/\sz T<=n/\sz T<=27/\Q (wX (txt T))
def LO(n:Nat):aT:=λa Q _=>∃(T:Tr)(l:Nat),a=[wt T,.int l]/\pL T/\sz T<=n/\sz T<=27/\Q (wX (br (bi T) l (txt T)))
private theorem XN:("(":Str)=tx [40]:=by decide+kernel
private theorem XO:(")":Str)=tx [41]:=by decide+kernel
private theorem LP{G:Nat->W}(ws:List W)(Q:W->Prop)(R:Addr->Prop)(h:LO n ws Q R):wSs (bg [kR,zK n]) G pP (aU m Q R) (au 2 ws):=by
 obtain⟨T,l,rfl,b,c,d,a⟩:=h;have tl:=iV T b;show wSs _ _ pP _ [some (wt T),some (.int l)];unfold pP;fin2;refine⟨T,rfl,b,?_⟩;fin2;unfold br at a;by_cases h:bi T<l
 .rw[BM (Bz (by lia))];rw[BM h]at a;refine⟨T,rfl,b,c,d,?_⟩;rw[XN,XO];refine⟨ay (by show 1+(txt T).length<=1000;lia),?_⟩;rw[eX];refine⟨ay (by show(40::txt T).length+1<=1000;simp;lia),?_⟩;rw[eX];exact a
 .rw[B1 (by rw[Gc];lia)];rw[B1 h]at a;exact⟨T,rfl,b,c,d,a⟩
private theorem xX{l:List W}:jg (w::x::l) 1=some x:=cU (n:=1) rfl
private theorem LQ{l:List W}:jg (w::x::y::l) 2=some y:=cU (n:=2) rfl
noncomputable def kd:Tr->Nat
 |.nm _=>0
 |.nu _=>1
 |.op _ _ _=>4
 |.pw _ _=>3
 |.ls _=>2
private theorem XQ(T:Tr)(c:pL T):decide (hd T="name")=(kd T==0)/\decide (hd T="number")=(kd T==1)/\decide (hd T="less")=(kd T==2)/\decide (hd T="^")=(kd T==3):=by
 cases T with
 |nm x=>show decide (("name":Str)="name")=true/\decide (("name":Str)="number")=false/\decide (("name":Str)="less")=false/\decide (("name":Str)="^")=false;decide+kernel
 |nu x=>show decide (("number":Str)="name")=false/\decide (("number":Str)="number")=true/\decide (("number":Str)="less")=false/\decide (("number":Str)="^")=false;decide+kernel
 |ls x=>show decide (("less":Str)="name")=false/\decide (("less":Str)="number")=false/\decide (("less":Str)="less")=true/\decide (("less":Str)="^")=false;decide+kernel
 |pw x e=>show decide (("^":Str)="name")=false/\decide (("^":Str)="number")=false/\decide (("^":Str)="less")=false/\decide (("^":Str)="^")=true;decide+kernel
 |op o a b=>show decide (tx [o]="name")=false/\decide (tx [o]="number")=false/\decide (tx [o]="less")=false/\decide (tx [o]="^")=false;rcases c.1 with rfl|rfl|rfl|rfl<;>decide+kernel
private theorem Bv{n:Nat}(h:n<10^30):((n:Int)).natAbs.log2<1920:=by
 rcases P3 n with e|e
 .rw[e];decide
 .rw[Cg];exact Bn ((eC (k:=100) (by lia)).mpr (Bn h (by decide))) (by decide)
private theorem To{G:Nat->W}(ws:List W)(Q:W->Prop)(R:Addr->Prop)(h:zK (n+1) ws Q R):wSs (bg [LO n,kR]) G vI (aU m Q R) (au 2 ws):=by
 obtain⟨T,rfl,f,i,p,g⟩:=h;obtain⟨y,s,w,v⟩:=XQ T f;have d:=iV T f;show wSs _ _ vI _ [some (wt T),none];unfold vI;refine aH (λc=>c=[some (wt T),none]/\2<=kd T) (λN j=>?_) ?_
 .rw[bY];fin2;refine⟨_,fq,?_⟩;fin2;rw[y];cases T with
  |nm x=>exact⟨_,xX,g⟩
  |nu k=>refine⟨_,fq,?_⟩;fin2;rw[s];refine⟨_,xX,?_⟩;refine⟨Bv f,?_⟩;rw[GO];exact g
  |_=>refine⟨_,fq,?_⟩;fin2;rw[s];exact j _ ⟨by rw[bY],by show 2<=_;first|exact(by decide:2<=4)|exact(by decide:2<=3)|exact(by decide:2<=2)⟩
 rintro _ ⟨rfl,t⟩;refine aH (λc=>c=[some (wt T),none]/\3<=kd T) (λN j=>?_) ?_
 .rw[bY];fin2;refine⟨_,fq,?_⟩;fin2;rw[w];cases T with
  |nm x=>cases t
  |nu k=>exact absurd t (by show¬2<=1;decide)
  |ls a=>have i:sz a+1<=n+1:=i;have p:sz a+1<=27:=p;have d:(45::br (bi a) 2 (txt a)).length+7<=37*(sz a+1):=d;rw[Ar]at d;refine⟨_,xX,a,2,rfl,f,by lia,by lia,?_⟩;rw[Bs];refine⟨ay (by show 1+(br (bi a) 2 (txt a)).length<=1000;lia),?_⟩;rw[eX];exact g
  |pw a e=>exact j _ ⟨by rw[bY],by show 3<=3;decide⟩
  |op o a b=>exact j _ ⟨by rw[bY],by show 3<=4;decide⟩
 rintro _ ⟨rfl,r⟩;refine aH (λc=>c=[some (wt T),none]/\4<=kd T) (λN j=>?_) ?_
 .rw[bY];fin2;refine⟨_,fq,?_⟩;fin2;rw[v];cases T with
  |nm x=>cases r
  |nu k=>exact absurd r (by show¬3<=1;decide)
  |ls a=>exact absurd r (by show¬3<=2;decide)
  |pw a e=>
   have i:sz a+1<=n+1:=i;have p:sz a+1<=27:=p;have d:(br (bi a) 4 (txt a)++94::dg e).length+7<=37*(sz a+1):=d;rw[DL,Ar]at d;refine⟨_,xX,a,4,rfl,f.2,by lia,by lia,?_⟩;rw[show("^":Str)=tx [94] by decide+kernel];refine⟨ay (by show(br (bi a) 4 (txt a)).length+1<=1000;lia),?_⟩;rw[eX];refine⟨_,LQ,Bv (Kj f.1 (by decide)),?_⟩;rw[GO];refine⟨ay (by show(br (bi a) 4 (txt a)++[94]).length+(dg e).length<=1000;rw[DL];show _+1+_<=1000;lia),?_⟩;rw[eX];have:txt (.pw a e)=br (bi a) 4 (txt a)++[94]++dg e:=by show br (bi a) 4 (txt a)++94::dg e=_;simp
   rw[this]at g;exact g
  |op o a b=>exact j _ ⟨by rw[bY],by show 4<=4;decide⟩
 rintro _ ⟨rfl,q⟩;cases T with
 |op o a b=>
  have i:sz a+sz b+1<=n+1:=i;have p:sz a+sz b+1<=27:=p;have B:=fN a;have A:=fN b;generalize u:bi (.op o a b)=l;have z:txt (.op o a b)=br (bi a) l (txt a)++[32]++[o]++[32]++br (bi b) (l+1) (txt b):=by show br (bi a) (bi (.op o a b)) (txt a)++(32::o::32::br (bi b) (bi (.op o a b)+1) (txt b))=_;rw[u];simp
  rw[z]at d g;simp only[DL,L0]at d;have d:(br (bi a) l (txt a)).length+1+1+1+(br (bi b) (l+1) (txt b)).length+7<=37*(sz a+sz b+1):=d;fin2;refine⟨.op o a b,rfl,f,?_⟩;rw[u,bY];fin2;refine⟨_,xX,a,l,rfl,f.2.1,by lia,by lia,?_⟩;rw[show(" ":Str)=tx [32] by decide+kernel];refine⟨ay (by show(br (bi a) l (txt a)).length+1<=1000;lia),_,fq,?_⟩;rw[eX];refine⟨ay (by show(br (bi a) l (txt a)++[32]).length+1<=1000;simp only[DL,L0];lia),?_⟩;rw[show hd (.op o a b)=tx [o]from rfl,eX];refine⟨ay (by show(br (bi a) l (txt a)++[32]++[o]).length+1<=1000;simp only[DL,L0];lia),_,LQ,?_⟩;rw[eX];refine⟨b,l+1,rfl,f.2.2,by lia,by lia,?_⟩;refine⟨ay (by show(br (bi a) l (txt a)++[32]++[o]++[32]).length+(br (bi b) (l+1) (txt b)).length<=1000;simp only[DL,L0];lia),?_⟩;rw[eX];exact g
 |nm x=>cases q
 |nu k=>exact absurd q (by show¬4<=1;decide)
 |ls a=>exact absurd q (by show¬4<=2;decide)
 |pw a e=>exact absurd q (by show¬4<=3;decide)
noncomputable def jG:List CS:=[.iff (.cmp .NotIn (.var 0) (.var 1)) [.raise 0 (.fst [(.str "the point has no "),(.fmt (.var 0))])] [],.ret (.ix (.var 1) (.var 0))]
def zL(E:Addr):aT:=λa Q R=>∃(x:List Nat)(l:Pt),a=[wX x,dJ l]/\x.length<=8/\(v7 l x=none->R E)/\∀q,v7 l x=some q->Q (wq q)
private theorem xY(ws:List W)(Q:W->Prop)(R:Addr->Prop)(h:zL E ws Q R):wSs a (bI [.cls E]) jG (aU m Q R) (au 2 ws):=by
 obtain⟨x,l,rfl,b,d,c⟩:=h;have hd:=jY x l;show wSs _ _ jG _ [some (wX x),some (dJ l)];unfold jG;fin2;show(if(!(dH (tx x) (pK l) (pW l)).isSome)=true then _ else _);rw[hd];cases e:v7 l x with
 |none=>rw[BM (show(!(bx wq none).isSome)=true from rfl)];exact⟨by decide+kernel,by lia,FV (e7 b _) (by decide+kernel),d e⟩
 |some q=>rw[B1 (show¬((!(bx wq (some q)).isSome)=true)from λz=>by cases z)];exact⟨wq q,by rw[hd,e];rfl,c q e⟩
noncomputable def vJ:List CS:=[.ret (.tup [(.call 0 [(.ix (.var 0) (.int 0)),(.var 1)]),(.call 0 [(.ix (.var 0) (.int 1)),(.var 1)])])]
def Hj:aT:=λa Q _=>∃(x:Rat)(e n:Nat),a=[wq x,.int e]/\Bd n x/\n<=6000/\e<=12/\Q (wq (x^e))
private theorem LR{G:Nat->W}(ws:List W)(Q:W->Prop)(R:Addr->Prop)(h:Hj ws Q R):wSs (bg [vq]) G vJ (aU m Q R) (au 2 ws):=by obtain⟨x,e,n,rfl,c,d,f,a⟩:=h;show wSs _ _ vJ _ [some (wq x),some (.int e)];unfold vJ wq;have b:n*(e+1)<=130000000:=FV (YX d (show e+1<=13 by lia)) (by decide);fin2;refine⟨_,rfl,x.num,e,n,rfl,c.1,b,_,rfl,x.den,e,n,rfl,by rw[Cg];exact c.2,b,s2,?_⟩;unfold wq at a;rw[Xw,YC,gd]at a;exact a
noncomputable def mD:List CS:=[.ret (.ite (.cmp .Eq (.var 0) (.str "power")) (.call 0 [(.var 2),(.var 1)]) (.call 1 [(.var 2)]))]
def Bw:aT:=λa Q _=>∃(x:Rat)(n:Nat),Bd n x/\n<=6000/\((∃e:Nat,e<=12/\a=[.str "power",.int e,wq x]/\Q (wq (x^e)))\/(a=[.str "minus",.int 0,wq x]/\Q (wq (-x))))
private theorem LS{G:Nat->W}(ws:List W)(Q:W->Prop)(R:Addr->Prop)(h:Bw ws Q R):wSs (bg [Hj,mq]) G mD (aU m Q R) (au 3 ws):=by
 obtain⟨x,n,d,b,⟨e,c,rfl,a⟩|⟨rfl,a⟩⟩:=h
 .show wSs _ _ mD _ [some (.str "power"),some (.int e),some (wq x)];unfold mD;fin2;exact⟨x,e,n,rfl,d,b,c,a⟩
 .show wSs _ _ mD _ [some (.str "minus"),some (.int 0),some (wq x)];unfold mD;fin2;rw[B1 (by decide+kernel)];exact⟨x,rfl,a⟩
noncomputable def rS:List CS:=[.iff (.cmp .Eq (.var 0) (.str "+")) [.ret (.call 0 [(.var 1),(.var 2)])] [],.iff (.cmp .Eq (.var 0) (.str "-")) [.ret (.call 1 [(.var 1),(.var 2)])] [],.iff (.cmp .Eq (.var 0) (.str "*")) [.ret (.call 2 [(.var 1),(.var 2)])] [],.iff (.cmp .Eq (.var 2) (.tup [(.int 0),(.int 1)])) [.raise 0 (.str "a bottom is 0")] [],.ret (.call 3 [(.var 1),(.var 2)])]
def zM:aT:=λc Q _=>∃(a b:Rat)(n m:Nat),c=[wq a,wq b]/\(Bd n a/\Bd m b/\n<=6000/\m<=6000)/\Q (wq (a -b))
noncomputable def vK:List CS:=[.ret (.call 0 [(.var 0),(.call 1 [(.var 1)])])]
private theorem LU{G:Nat->W}(ws:List W)(Q:W->Prop)(R:Addr->Prop)(h:zM ws Q R):wSs (bg [Bb,mq]) G vK (aU d Q R) (au 2 ws):=by obtain⟨a,b,n,m,rfl,⟨i,g,f,e⟩,c⟩:=h;show wSs _ _ vK _ [some (wq a),some (wq b)];unfold vK;fin2;refine⟨b,rfl,a,-b,n,m,rfl,⟨i,uU g,f,e⟩,?_⟩;rw[OV]at c;exact c
def zN(E:Addr):aT:=λa Q R=>∃(o:Nat)(x y:Rat)(n m:Nat),a=[.str (tx [o]),wq x,wq y]/\(o=43\/o=45\/o=42\/o=47)/\(Bd n x/\Bd m y/\n<=6000/\m<=6000)/\(jn o x y=none->R E)/\∀q,jn o x y=some q->Q (wq q)
private theorem wq0(y:Rat):(wq y=.tup [.int 0,.int 1])↔y=0:=by
 constructor
 .intro h;have:=W.ML h;have:=OR this;exact dk.mp (W.E4 this.1)
 .rintro rfl;rfl
private theorem Hl(ws:List W)(Q:W->Prop)(R:Addr->Prop)(h:zN E ws Q R):wSs (bg [Bb,zM,rC,GL]) (bI [.cls E]) rS (aU r Q R) (au 3 ws):=by
 obtain⟨o,x,y,n,m,rfl,s,⟨g,f,q,p⟩,t,e⟩:=h;show wSs _ _ rS _ [some (.str (tx [o])),some (wq x),some (wq y)];unfold rS;have a:(tx [o]="+"↔o=43)/\(tx [o]="-"↔o=45)/\(tx [o]="*"↔o=42):=by rcases s with rfl|rfl|rfl|rfl<;>decide+kernel
 fin2;by_cases c:o=43
 .rw[BM (Bz (a.1.mpr c))];exact⟨x,y,n,m,rfl,⟨g,f,q,p⟩,e _ (BM c)⟩
 rw[B1 (by rw[Gc];exact λz=>c (a.1.mp z))];by_cases d:o=45
 .rw[BM (Bz (a.2.1.mpr d))];exact⟨x,y,n,m,rfl,⟨g,f,q,p⟩,e _ (by unfold jn;rw[B1 c,BM d])⟩
 rw[B1 (by rw[Gc];exact λz=>d (a.2.1.mp z))];by_cases i:o=42
 .rw[BM (Bz (a.2.2.mpr i))];exact⟨x,y,n,m,n,m,rfl,⟨g.dd,f.dd,by lia,by lia,by omega,by omega⟩,e _ (by unfold jn;rw[B1 c,B1 d,BM i])⟩
 rw[B1 (by rw[Gc];exact λz=>i (a.2.2.mp z))];refine⟨s2,.inl ⟨rfl,rfl⟩,λb k=>?_⟩;have j:jn o x y=if y=0 then none else some (x*y⁻¹):=by unfold jn;rw[B1 c,B1 d,B1 i]
 rw[wq0]at k;cases b with
 |true=>exact t (by rw[j,BM (k.mp rfl)])
 |false=>
  have l:y≠0:=λz=>by have:=k.mpr z;cases this
  exact⟨x,y,n,m,n,rfl,⟨g.dd,f.dd,by lia,by omega,by omega⟩,l,λ_=>e _ (by rw[j,B1 l])⟩
noncomputable def Ho:List CS:=[.set 0 (.blt .abs [(.var 0)]),.Ic (.cmp .NotEq (.var 1) (.int 0)) [.par [0,1] [(.var 1),(.bin .Mod (.var 0) (.var 1))]],.ret (.var 0)]
def Tp:aT:=λc Q _=>∃a b:Int,c=[.int a,.int b]/\0<=b/\Q (.int (A9 a b:Nat))
private theorem XR{G:Nat->W}(ws:List W)(Q:W->Prop)(R:Addr->Prop)(h:Tp ws Q R):wSs l G Ho (aU m Q R) (au 2 ws):=by
 obtain⟨a,b,rfl,q,p⟩:=h;show wSs _ _ Ho _ [some (.int a),some (.int b)];unfold Ho;fin2;have r:(if a<0 then-a else a)=((a.natAbs:Nat):Int):=by split<;>lia
 rw[r];refine nt (α:=Int×Int) (λx=>[some (.int x.1),some (.int x.2)]) (λx=>0<=x.1/\0<=x.2/\A9 x.1 x.2=A9 a b) (λx=>x.2.natAbs) (((a.natAbs:Nat):Int),b) rfl ⟨by show 0<=((a.natAbs:Nat):Int);lia,q,by show A9 ((a.natAbs:Nat):Int) b=_;unfold A9;rw[Cg]⟩ ?_;rintro⟨x,y⟩ ⟨o,j,k⟩;fin2;refine jD (λd=>?_) (λd=>?_)
 .have c:y≠0:=by simpa using d
  have i:=qk x y (x.fdiv y);have g:=EU x y c;have f:=fm (x:=x) (n:=y) (by have:(0:Int)<=y:=j;clear this g i c;lia);rw[<-Num.fmod_eq]at i g;fin2;exact⟨c,rfl,(y,x.fmod y),rfl,⟨j,f.1,i.trans k⟩,g⟩
 .have c:y=0:=by simpa using d
  subst c;fin2;have e:x=((A9 a b:Nat):Int):=by rw[<-k,eg];have:(0:Int)<=x:=o;lia
  rw[e];exact p
noncomputable def zO:List CS:=[.set 2 (.call 0 [(.var 0),(.blt .abs [(.var 1)])]),.iff (.cmp .Lt (.var 1) (.int 0)) [.set 2 (.bin .Sub (.int 0) (.var 2))] [],.ret (.tup [(.bin .FloorDiv (.var 0) (.var 2)),(.bin .FloorDiv (.var 1) (.var 2))])]
def gC:aT:=λa Q _=>∃(t b:Int)(n:Nat),a=[.int t,.int b]/\n<=100000000/\b≠0/\b.natAbs<2^n/\Q (wq (As t b))
private theorem Tq{G:Nat->W}(ws:List W)(Q:W->Prop)(R:Addr->Prop)(h:gC ws Q R):wSs (bg [Tp]) G zO (aU m Q R) (au 3 ws):=by
 obtain⟨t,b,n,rfl,i,o,f,c⟩:=h;show wSs _ _ zO _ [some (.int t),some (.int b),none];unfold zO;fin2;have q:(if b<0 then-b else b)=((b.natAbs:Nat):Int):=by split<;>lia
 rw[q];refine⟨t,_,rfl,by lia,?_⟩;have p:(A9 t ((b.natAbs:Nat):Int))=A9 t b:=by unfold A9;rw[Cg]
 rw[p];obtain⟨a,k,j⟩:=E3 t b o;have l:((A9 t b:Nat):Int).natAbs<2^n:=by have:((A9 t b:Nat):Int)<=b.natAbs:=cw (by clear j k a f;lia) (by rw[Int.dvd_natAbs];exact PP ..);lia
 unfold wq at c;generalize((A9 t b:Nat):Int)=g at*;rw[k,j]at c;dsimp only;by_cases e:b<0
 .rw[BM e]at a c;rw[BM (Bz e)];fin2;rw[W0];have d:=GI (y:= -g) (by omega) i;exact⟨⟨a,d⟩,⟨a,d⟩,ay (by simp),c⟩
 .rw[B1 e]at a c;rw[B1 (by rw[Gc];exact e)];have d:=GI (y:=g) l i;exact⟨⟨a,d⟩,⟨a,d⟩,ay (by simp),c⟩
private theorem Tt(a:b≠0):As (t.num*b.den) (t.den*b.num)=t*b⁻¹:=by
 conv=>rhs;rw[<-IS t,cv]
 exact(dt ..).symm
noncomputable def cT:CE:=.ix (.var 0) (.int 0)
noncomputable def Bx:List CS:=[.set 3 (.tup [(.int 1),(.int 1)]),.fr [4] true (.pT [(.ix (.var 0) (.int 2))]) [.set 3 (.tup [(.bin .Mult (.ix (.var 3) (.int 0)) (.ix (.var 2) (.int 0))),(.bin .Mult (.ix (.var 3) (.int 1)) (.ix (.var 2) (.int 1)))])],.ret (.var 3)]
noncomputable def xZ:List CS:=[.set 5 (.call 0 [(.ix (.var 0) (.int 2)),(.var 1)]),.iff (.or [(.cmp .Is (.var 5) .aN),(.and [(.cmp .Eq cT (.str "/")),(.cmp .Eq (.ix (.var 5) (.int 0)) (.int 0))])]) [.ret .aN] [],.iff (.cmp .Eq cT (.str "*")) [.ret (.call 1 [(.bin .Mult (.ix (.var 2) (.int 0)) (.ix (.var 5) (.int 0))),(.bin .Mult (.ix (.var 2) (.int 1)) (.ix (.var 5) (.int 1)))])] [],.iff (.cmp .Eq cT (.str "/")) [.ret (.call 1 [(.bin .Mult (.ix (.var 2) (.int 0)) (.ix (.var 5) (.int 1))),(.bin .Mult (.ix (.var 2) (.int 1)) (.ix (.var 5) (.int 0)))])] [],.set 6 (.bin .Sub (.bin .Mult (.blt .int [(.cmp .Eq cT (.str "+"))]) (.int 2)) (.int 1)),.ret (.call 1 [(.bin .Add (.bin .Mult (.ix (.var 2) (.int 0)) (.ix (.var 5) (.int 1))) (.bin .Mult (.bin .Mult (.var 6) (.ix (.var 5) (.int 0))) (.ix (.var 2) (.int 1)))),(.bin .Mult (.ix (.var 2) (.int 1)) (.ix (.var 5) (.int 1)))])]
noncomputable def zQ:List CS:=[.iff (.cmp .Eq cT (.str "number")) [.ret (.tup [(.ix (.var 0) (.int 1)),(.int 1)])] [],.iff (.cmp .Eq cT (.str "name")) [.ret (.Uh (.var 1) (.ix (.var 0) (.int 1)))] [],.set 2 (.call 0 [(.ix (.var 0) (.int 1)),(.var 1)]),.iff (.cmp .Is (.var 2) .aN) [.ret .aN] [],.iff (.cmp .Eq cT (.str "less")) [.ret (.tup [(.bin .Sub (.int 0) (.ix (.var 2) (.int 0))),(.ix (.var 2) (.int 1))])] [],.iff (.cmp .Eq cT (.str "^")) Bx []]++xZ
def DJ(n:Nat):aT:=λa Q _=>∃(T:Tr)(l:Pt),a=[wt T,dJ l]/\pL T/\sz T<=n/\jf T<=6000/\rM l/\Q (oq (vT l T))
section
variable{n:Nat}{G:Nat->W}{m:Md}{Q:W->Prop}{R:Addr->Prop}{T a b:Tr}{l:Pt}{x:Rat}{e o:Nat}
private theorem Tu(he:e<=12)(f:Bd 6000 x)(g:D.rt (wq (x^e))):wSs (bg [DJ n,gC]) G Bx D [some (wt (.pw a e)),some (dJ l),some (wq x),none,none,none,none]:=by
 unfold Bx wq;refine aH (λc=>c=[some (wt (.pw a e)),some (dJ l),some (wq x),some (wq (x^0)),none,none,none]) (λN h=>?_) ?_
 .fin2;exact⟨s2,h _ (by rw[hL];rfl)⟩
 rintro _ rfl;refine aH (λc=>∃d,c=[some (wt (.pw a e)),some (dJ l),some (wq x),some (wq (x^e)),d,none,none]) (λN h=>?_) ?_
 .refine rK (l:=fh 0 1 e) (λQ g=>?_) ?_
  .show wE _ _ _ _ _ _;dsimp only[wE,wA];refine⟨_,LQ,⟨by lia,by omega,?_⟩⟩;rw[LA];exact g
  refine gy (λi j=>∃d,j=[some (wt (.pw a e)),some (dJ l),some (wq x),some (wq (x^i)),d,none,none]) ⟨none,rfl⟩ ?_ ?_
  .rintro i w _ s p ⟨d,rfl⟩ k;obtain⟨q,rfl⟩:=zx p;have bi:=G5 (n:=6000) (by decide) f i;have r:6000*max 1 i<=6000*12:=QP _ (by lia);unfold wq;fin2;refine⟨_,rfl,_,rfl,aZ bi.1 f.1 (by lia),_,rfl,_,rfl,aZ (by rw[Cg];exact bi.2) (by rw[Cg];exact f.2) (by omega),s2,k _ ⟨some (.int i),?_⟩⟩;unfold wq;rw[Xw,Xw,YC,YC,ib,Zb,YG]
  .rintro _ ⟨d,rfl⟩;rw[Lo];exact h _ ⟨d,rfl⟩
 rintro _ ⟨d,rfl⟩;fin2;exact g
private theorem XS(D:pL (.op o a b))(H:sz b<=n)(C:jf b<=6000)(B:rM l)(j:Bd 6000 x)(f:Q (oq ((vT l b).bind λy=>jn o x y))):wSs (bg [DJ n,gC]) G xZ (aU m Q R) [some (wt (.op o a b)),some (dJ l),some (wq x),none,none,none,none]:=by
 have w:=rR (.op o a b) 42;have r:=rR (.op o a b) 47;have I:=rR (.op o a b) 43;unfold xZ;refine aH (λd=>d=[some (wt (.op o a b)),some (dJ l),some (wq x),none,none,some (oq (vT l b)),none]) (λN k=>?_) ?_
 .show wE _ _ _ _ _ _;dsimp only[wE,wA];exact⟨_,LQ,b,l,rfl,D.2.2,H,C,B,k _ rfl⟩
 rintro _ rfl;cases e:vT l b with
 |none=>rw[e]at f;show wSs _ _ _ _ [_,_,_,_,_,some .aN,_];fin2;exact f
 |some y=>
  rw[e]at f;have f:Q (oq (jn o x y)):=f;have i:=EZ (rN B b e) C;have p:∀{u v:Int},u.natAbs<2^6000->v.natAbs<2^6000->IntMulOk u v:=λw r=>aZ w r (by decide);have g:∀{z:Rat},Bd 6000 z->((z.den:Int)).natAbs<2^6000:=λh=>by rw[Cg];exact h.2
  refine aH (λd=>¬(o=47/\y=0)/\d=[some (wt (.op o a b)),some (dJ l),some (wq x),none,none,some (wq y),none]) (λN k=>?_) ?_
  .show wS _ _ _ _ [_,_,_,_,_,some (wq y),_];unfold cT;rw[bY];unfold wq;fin2;refine⟨_,fq,?_⟩;fin2;rw[zJ,r];show if decide (o=47)=true then _ else _
   by_cases c:o=47
   .rw[BM (Bz c)];refine⟨_,rfl,?_⟩;fin2;by_cases s:y.num=0
    .rw[BM (Bz s)];have q:y=0:=dk.mp s;rw[show jn o x y=none by unfold jn;rw[B1 (by lia),B1 (by lia),B1 (by lia),BM q]]at f;exact f
    .rw[B1 (by rw[Gc];exact s)];refine k _ ⟨λz=>s (by rw[z.2];rfl),?_⟩;rw[bY];rfl
   .rw[B1 (by rw[Gc];exact c)];refine k _ ⟨λz=>c z.1,?_⟩;rw[bY];rfl
  rintro _ ⟨E,rfl⟩;refine aH (λd=>o≠42/\d=[some (wt (.op o a b)),some (dJ l),some (wq x),none,none,some (wq y),none]) (λN k=>?_) ?_
  .unfold cT;rw[bY];unfold wq;fin2;refine⟨_,fq,?_⟩;fin2;rw[Bt,w];show if decide (o=42)=true then _ else _
   by_cases c:o=42
   .rw[BM (Bz c)];rw[show jn o x y=some (x*y) by unfold jn;rw[B1 (by lia),B1 (by lia),BM c]]at f;refine⟨_,rfl,_,rfl,p j.1 i.1,_,rfl,_,rfl,p (g j) (g i),_,_,12000,rfl,by decide,SC (rA x) (rA y),by rw[Pl];exact lt_mul (g j) (g i),?_⟩;rw[SJ];exact f
   .rw[B1 (by rw[Gc];exact c)];refine k _ ⟨c,?_⟩;rw[bY];rfl
  rintro _ ⟨t,rfl⟩;refine aH (λd=>o≠47/\d=[some (wt (.op o a b)),some (dJ l),some (wq x),none,none,some (wq y),none]) (λN k=>?_) ?_
  .unfold cT;rw[bY];unfold wq;fin2;refine⟨_,fq,?_⟩;fin2;rw[zJ,r];show if decide (o=47)=true then _ else _
   by_cases c:o=47
   .rw[BM (Bz c)];have q:y≠0:=λz=>E ⟨c,z⟩;rw[show jn o x y=some (x*y⁻¹) by unfold jn;rw[B1 (by lia),B1 (by lia),B1 t,B1 q]]at f;refine⟨_,rfl,_,rfl,p j.1 (g i),_,rfl,_,rfl,p (g j) i.1,_,_,12000,rfl,by decide,SC (rA x) (XF q),by rw[Pl];exact lt_mul (g j) i.1,?_⟩;rw[Tt q];exact f
   .rw[B1 (by rw[Gc];exact c)];refine k _ ⟨c,?_⟩;rw[bY];rfl
  rintro _ ⟨F,rfl⟩;refine aH (λd=>d=[some (wt (.op o a b)),some (dJ l),some (wq x),none,none,some (wq y),some (.int (if o=43 then 1 else-1))]) (λN k=>?_) ?_
  .unfold cT;rw[bY];fin2;refine⟨_,fq,?_⟩;fin2;rw[Hi,I];refine⟨aZ (n:=2) (m:=2) (by split<;>decide) (by decide) (by decide),k _ ?_⟩;rw[bY];show[_,_,_,_,_,_,some (W.int ((if decide (o=43)=true then 1 else 0)*2 -1))]=_;by_cases c:o=43
   .rw[BM (Bz c),BM c];rfl
   .rw[B1 (by rw[Gc];exact c),B1 c];rfl
  rintro _ rfl;unfold wq;fin2;have ev:jn o x y=some (if o=43 then x+y else x+ -y):=by
   unfold jn;have:=D.1;by_cases c:o=43
   .rw[BM c,BM c]
   .rw[B1 c,B1 c,BM (by lia),OV]
  rw[ev]at f;have J:(if o=43 then 1 else-1:Int)*y.num=(if o=43 then y else-y).num:=by
   split
   .rw[kv]
   .rw[YA];lia
  have K:(y.den:Int)=((if o=43 then y else-y).den:Int):=by
   split
   .rfl
   .rw[YB]
  have A:(if o=43 then x+y else x+ -y)=x+(if o=43 then y else-y):=by split<;>rfl
  rw[A]at f;have L:((if o=43 then y else-y).num).natAbs<2^6000:=by
   split
   .exact i.1
   .exact(uU i).1
  refine⟨_,rfl,_,rfl,p j.1 (g i),_,rfl,aZ (n:=2) (m:=6000) (by split<;>decide) i.1 (by decide),_,rfl,?_⟩;rw[J];refine⟨p L (g j),_,rfl,_,rfl,p (g j) (g i),_,_,12000,rfl,by decide,SC (rA x) (rA y),by rw[Pl];exact lt_mul (g j) (g i),?_⟩;rw[K,Xs];exact f
private theorem aax(ws:List W)(Q:W->Prop)(R:Addr->Prop)(h:DJ (n+1) ws Q R):wSs (bg [DJ n,gC]) G zQ (aU m Q R) (au 7 ws):=by
 obtain⟨T,l,rfl,t,j,p,A,c⟩:=h;obtain⟨C,w,v,B⟩:=XQ T t;show wSs _ _ zQ _ [some (wt T),some (dJ l),none,none,none,none,none];have f:∀(U:Tr)(F:Option Rat->Option Rat),(∃r,tl T=wt U::r)->pL U->sz U<=n->jf U<=6000->vT l T=F (vT l U)->F none=none->(kd T==0)=false->(kd T==1)=false->(∀x,vT l U=some x->wSs (bg [DJ n,gC]) G (.iff (.cmp .Eq cT (.str "less")) [.ret (.tup [(.bin .Sub (.int 0) (.ix (.var 2) (.int 0))),(.ix (.var 2) (.int 1))])] []::.iff (.cmp .Eq cT (.str "^")) Bx []::xZ) (aU m Q R) [some (wt T),some (dJ l),some (wq x),none,none,none,none])->wSs (bg [DJ n,gC]) G zQ (aU m Q R) [some (wt T),some (dJ l),none,none,none,none,none]:=λU F ⟨r,O⟩ M I J ev P L K next=>by
  unfold zQ;refine aH (λd=>d=[some (wt T),some (dJ l),none,none,none,none,none]) (λN i=>?_) ?_
  .unfold cT;rw[bY]at i⊢;fin2;refine⟨_,fq,?_⟩;fin2;rw[w,K];exact i _ rfl
  rintro _ rfl;refine aH (λd=>d=[some (wt T),some (dJ l),none,none,none,none,none]) (λN i=>?_) ?_
  .unfold cT;rw[bY]at i⊢;fin2;refine⟨_,fq,?_⟩;fin2;rw[C,L];exact i _ rfl
  rintro _ rfl;refine aH (λd=>d=[some (wt T),some (dJ l),some (oq (vT l U)),none,none,none,none]) (λN i=>?_) ?_
  .rw[bY,O]at i⊢;show wE _ _ _ _ _ _;dsimp only[wE,wA];exact⟨_,xX,U,l,rfl,M,I,J,A,i _ rfl⟩
  rintro _ rfl;cases e:vT l U with
  |none=>rw[ev,e,P]at c;exact c
  |some x=>exact next x e
 have g:∀(x:Rat)(s:Str)(b:List CS)(H:List CS)(E:CS),decide (hd T=s)=false->wSs (bg [DJ n,gC]) G (E::H) (aU m Q R) [some (wt T),some (dJ l),some (wq x),none,none,none,none]->wSs (bg [DJ n,gC]) G (.iff (.cmp .Eq cT (.str s)) b []::E::H) (aU m Q R) [some (wt T),some (dJ l),some (wq x),none,none,none,none]:=λx s b H E I k=>by
  refine aH (λd=>d=[some (wt T),some (dJ l),some (wq x),none,none,none,none]) (λN i=>?_) (by rintro _ rfl;exact k);unfold cT;rw[bY]at i⊢;show wE _ _ _ _ _ _;dsimp only[wE];refine⟨_,fq,?_⟩;show if decide (hd T=s)=true then _ else _
  rw[I];exact i _ rfl
 cases T with
 |nu k=>unfold zQ cT;rw[bY];fin2;refine⟨_,fq,?_⟩;fin2;rw[w];exact⟨_,xX,s2,c⟩
 |nm x=>
  unfold zQ cT;rw[bY];fin2;refine⟨_,fq,?_⟩;fin2;rw[w];refine⟨_,fq,?_⟩;fin2;rw[C];refine⟨rfl,_,xX,?_⟩;show Q ((dH (tx x) (pK l) (pW l)).getD .aN);rw[jY];have c:Q (oq (v7 l x)):=c;cases e:v7 l x with
  |none=>rw[e]at c;exact c
  |some q=>rw[e]at c;exact c
 |ls a=>have j:sz a+1<=n+1:=j;refine f a (λr=>r.map λx=> -x) ⟨[],rfl⟩ t (by lia) p rfl rfl rfl rfl λx e=>?_;unfold cT;rw[bY];unfold wq;fin2;refine⟨_,fq,?_⟩;fin2;rw[v];refine⟨_,rfl,_,rfl,s2,?_⟩;have c:Q (oq ((vT l a).map λx=> -x)):=c;rw[e]at c;have c:Q (wq (-x)):=c;unfold wq at c;rw[YA,YB]at c;rw[W0];exact c
 |pw a e=>have j:sz a+1<=n+1:=j;have p:jf a*max 1 e<=6000:=p;have u:jf a<=6000:=FV (Wp _ (by clear p j B v w C;lia)) p;refine f a (λr=>r.map λx=>x^e) ⟨[.int e],rfl⟩ t.2 (by lia) u rfl rfl rfl rfl λx ex=>?_;refine g x _ _ _ _ v ?_;have c:Q (oq ((vT l a).map λx=>x^e)):=c;rw[ex]at c;unfold xZ;have z:=λ(D:Dn)(h:D.rt (wq (x^e)))=>Tu (n:=n) (G:=G) (D:=D) (a:=a) (l:=l) (e:=e) t.1 (EZ (rN A a ex) u) h;rw[bY]at z⊢;unfold cT;fin2;refine⟨_,fq,?_⟩;fin2;rw[B];exact z _ c
 |op o a b=>have j:sz a+sz b+1<=n+1:=j;have S:=fN a;have p:jf a+jf b+Bq o<=6000:=p;refine f a (λr=>r.bind λx=>(vT l b).bind λy=>jn o x y) ⟨[wt b],rfl⟩ t.2.1 (by have:=fN b;lia) (by lia) rfl rfl rfl rfl λx ex=>?_;refine g x _ _ _ _ v (g x _ _ _ _ B ?_);have c:Q (oq ((vT l a).bind λx=>(vT l b).bind λy=>jn o x y)):=c;rw[ex]at c;exact XS t (by lia) (by lia) A (EZ (rN A a ex) (by omega)) c
end
def rT(E:Addr):aT:=λa Q R=>∃(l:Pt)(k:Str)(x:W),a=[dJ l,.str k,x]/\((∃n:Nat,k="number"/\x=.int n/\Q (wq n))\/∃y:List Nat,k="name"/\x=wX y/\y.length<=8/\(v7 l y=none->R E)/\∀q,v7 l y=some q->Q (wq q))
noncomputable def eT:List CS:=[.iff (.cmp .In (.var 5) (.tup [(.str "number"),(.str "name")])) [.Pu 4 (.JF 1 2 2 [(.var 5),(.var 6)])] [.iff (.cmp .In (.var 5) (.tup [(.str "power"),(.str "minus")])) [.Pu 4 (.Ib 2 0 0 [(.var 5),(.var 6),(.pop 4)])] [.sN 7 (.pop 4),.Pu 4 (.Ib 3 1 1 [(.var 5),(.pop 4),(.var 7)])]]]
noncomputable def pQ:List CS:=[.set 4 (.lst []),.fr [5,6] false (.var 0) eT,.Wq (.pop 4)]
abbrev NK(z c:W)(f1 f2:Addr)(ws:List W)(o5 o6 o7:Option W):Ev:=[some z,some c,some (.fn f1),some (.fn f2),some (.lst ws),o5,o6,o7]
private theorem zR(ws:List W)(x:W):(ws++[x])[(ws++[x]).length -1]?=some x/\(ws++[x]).dropLast=ws:=by simp
section
variable{st:Stmt}{nm:Str}{z:W}{f1 f2 E:Addr}{l:Pt}{D:Dn}{ws:List W}{o5 o6 o7:Option W}{k:Str}{x:W}
abbrev XT(E:Addr):List aT:=[Bw,zN E,rT E]
abbrev XU(st:Stmt)(nm:Str)(f1 f2:Addr):List W:=[.fn f1,.fn f2,.j4 st nm "point" .aN]
abbrev sS(st:Stmt)(nm:Str)(l:Pt):W:=.j4 st nm "point" (dJ l)
private theorem By(b:k="number"\/k="name")(e:ws.length<=3000){N:Rat->Prop}(c:∀Q:W->Prop,(∀q,N q->Q (wq q))->rT E [dJ l,.str k,x] Q D.ex)(d:∀q,N q->∀o5 o6 o7,D.nx (NK z (sS st nm l) f1 f2 (ws++[wq q]) o5 o6 o7)):
 Uu (bg (XT E)) (bI (XU st nm f1 f2)) false [5,6] eT (.tup [.str k,x]) D (NK z (sS st nm l) f1 f2 ws o5 o6 o7):=by
 unfold eT;fin2;refine⟨rfl,?_⟩;fin2;refine⟨s2,["number","name"],rfl,?_⟩;have:decide (k∈(["number","name"]:List Str))=true:=Bz (by rcases b with rfl|rfl<;>decide+kernel);rw[this];fin2;refine⟨rfl,c _ λq a=>?_⟩;exact⟨Bn (m:=3200) (by omega) (by decide),d q a _ _ _⟩
private theorem BA{N:Rat->Prop}(b:k="power"\/k="minus")(j:ws.length<=3000)(f:∀Q:W->Prop,(∀q,N q->Q (wq q))->Bw [.str k,x,a] Q D.ex)(g:∀q,N q->∀o5 o6 o7,D.nx (NK z (sS st nm l) f1 f2 (ws++[wq q]) o5 o6 o7)):
 Uu (bg (XT E)) (bI (XU st nm f1 f2)) false [5,6] eT (.tup [.str k,x]) D (NK z (sS st nm l) f1 f2 (ws++[a]) o5 o6 o7):=by
 unfold eT;fin2;refine⟨rfl,?_⟩;fin2;refine⟨s2,["number","name"],rfl,?_⟩;have i:decide (k∈(["number","name"]:List Str))=false:=Ee (by rcases b with rfl|rfl<;>decide+kernel);rw[i];fin2;refine⟨s2,["power","minus"],rfl,?_⟩;have h:decide (k∈(["power","minus"]:List Str))=true:=Bz (by rcases b with rfl|rfl<;>decide+kernel);rw[h];fin2;obtain⟨d,c⟩:=zR ws a;refine⟨rfl,a,d,?_⟩;rw[c];exact f _ λq e=>⟨Bn (m:=3200) (by omega) (by decide),g q e _ _ _⟩
private theorem Hq(c:o=43\/o=45\/o=42\/o=47)(t:ws.length<=3000)(i:Bd n a/\Bd m b/\n<=6000/\m<=6000)(p:jn o a b=none->D.ex E)(j:∀q,jn o a b=some q->∀o5 o6 o7,D.nx (NK z (sS st nm l) f1 f2 (ws++[wq q]) o5 o6 o7)):
 Uu (bg (XT E)) (bI (XU st nm f1 f2)) false [5,6] eT (Bc o) D (NK z (sS st nm l) f1 f2 (ws++[wq a]++[wq b]) o5 o6 o7):=by
 unfold eT Bc;fin2;refine⟨rfl,?_⟩;fin2;refine⟨s2,["number","name"],rfl,?_⟩;have s:decide (tx [o]∈(["number","name"]:List Str))=false:=Ee (by rcases c with rfl|rfl|rfl|rfl<;>decide+kernel);rw[s];fin2;refine⟨s2,["power","minus"],rfl,?_⟩;have r:decide (tx [o]∈(["power","minus"]:List Str))=false:=Ee (by rcases c with rfl|rfl|rfl|rfl<;>decide+kernel);rw[r];fin2;obtain⟨g,f⟩:=zR (ws++[wq a]) (wq b);refine⟨wq b,g,?_⟩;rw[f];fin2;obtain⟨e,d⟩:=zR ws (wq a);refine⟨rfl,wq a,e,?_⟩;rw[d];exact⟨o,a,b,n,m,rfl,c,i,p,λq h=>⟨Bn (m:=3200) (by lia) (by decide),j q h _ _ _⟩⟩
abbrev XW(E:Addr)(st:Stmt)(nm:Str)(f1 f2:Addr)(D:Dn):=iQ (Uu (bg (XT E)) (bI (XU st nm f1 f2)) false [5,6] eT) D
private theorem rV(j:rM l):∀(T:Tr),pL T->jf T<=6000->∀(rest:List W)(ws:List W)(o5 o6 o7:Option W),ws.length+sz T<=2000->(vT l T=none->D.ex E)->(∀q,vT l T=some q->∀o5 o6 o7,XW E st nm f1 f2 D rest (NK z (sS st nm l) f1 f2 (ws++[wq q]) o5 o6 o7))->
 XW E st nm f1 f2 D (stp T++rest) (NK z (sS st nm l) f1 f2 ws o5 o6 o7)
 |.nm y,c,hz,rest,ws,o5,o6,o7,d,f,i=>By (N:=λq=>v7 l y=some q) (.inr rfl) (by lia) (λQ h=>⟨l,_,_,rfl,.inr ⟨y,rfl,rfl,c.2.1,f,h⟩⟩) i
 |.nu n,c,hz,rest,ws,o5,o6,o7,d,f,i=>By (N:=λq=>q=(n:Rat)) (.inl rfl) (by lia) (λQ h=>⟨l,_,_,rfl,.inl ⟨n,rfl,rfl,h _ rfl⟩⟩) λq e=>i q (IR some e.symm)
 |.pw a e,c,hz,rest,ws,o5,o6,o7,d,f,i=>by have d:ws.length+(sz a+1)<=2000:=d;have u:jf a<=6000:=FV (Wp (jf a) (show 0<max 1 e by lia)) hz;show XW _ _ _ _ _ _ ((stp a++[xO e])++rest) _;rw[NO];refine rV j a c.2 u _ ws o5 o6 o7 (by lia) (λh=>f (by show(vT l a).map _=none;rw[h];rfl)) λq g t s p=>?_;exact BA (N:=λr=>r=q^e) (.inl rfl) (by lia) (λQ h=>⟨q,jf a,rN j a g,u,.inl ⟨e,c.1,rfl,h _ rfl⟩⟩) λr m=>i r (by show(vT l a).map _=some r;rw[g,m];rfl)
 |.ls a,c,hz,rest,ws,o5,o6,o7,d,f,i=>by have d:ws.length+(sz a+1)<=2000:=d;show XW _ _ _ _ _ _ ((stp a++[sQ])++rest) _;rw[NO];refine rV j a c hz _ ws o5 o6 o7 (by lia) (λh=>f (by show(vT l a).map _=none;rw[h];rfl)) λq g t s p=>?_;exact BA (N:=λr=>r= -q) (.inr rfl) (by lia) (λQ h=>⟨q,jf a,rN j a g,hz,.inr ⟨rfl,h _ rfl⟩⟩) λr m=>i r (by show(vT l a).map _=some r;rw[g,m];rfl)
 |.op o a b,c,hz,rest,ws,o5,o6,o7,d,f,i=>by
  have d:ws.length+(sz a+sz b+1)<=2000:=d;have hz:jf a+jf b+Bq o<=6000:=hz;have A:=fN b;show XW _ _ _ _ _ _ ((stp a++(stp b++[Bc o]))++rest) _;rw[NO,NO];refine rV j a c.2.1 (by lia) _ ws o5 o6 o7 (by lia) (λh=>f (by show(vT l a).bind _=none;rw[h];rfl)) λq g t s p=>?_;refine rV j b c.2.2 (by lia) _ (ws++[wq q]) t s p (by rw[DL];show ws.length+1+_<=2000;lia) (λh=>f (by show(vT l a).bind _=none;rw[g];show(vT l b).bind _=none;rw[h];rfl)) λr m t s p=>?_;have e:vT l (.op o a b)=jn o q r:=by show(vT l a).bind _=_;rw[g];show(vT l b).bind _=_;rw[m];rfl
  exact Hq c.1 (by lia) ⟨rN j a g,rN j b m,by omega,by omega⟩ (λh=>f (e.trans h)) λw v=>i w (e.trans v)
end
def Tv(st:Stmt)(nm:Str)(f1 f2 E:Addr):aT:=λa Q R=>∃(T:Tr)(l:Pt),a=[.tup (stp T),sS st nm l,.fn f1,.fn f2]/\pL T/\jf T<=6000/\sz T<=2000/\rM l/\(vT l T=none->R E)/\∀q,vT l T=some q->Q (wq q)
private theorem LV{st:Stmt}(ws:List W)(Q:W->Prop)(R:Addr->Prop)(h:Tv st nm f1 f2 E ws Q R):wSs (bg (XT E)) (bI (XU st nm f1 f2)) pQ (aU m Q R) (au 8 ws):=by obtain⟨T,l,rfl,e,d,hz,b,f,c⟩:=h;show wSs _ _ pQ _ [some _,some _,some _,some _,none,none,none,none];unfold pQ;fin2;refine⟨ay (by show 0<=1000;decide),?_⟩;have:=rV (z:=.tup (stp T)) (st:=st) (nm:=nm) (f1:=f1) (f2:=f2) (E:=E) (D:=⟨λx=>match look x 4 with|some (.lst l)=>∃w,l[l.length -1]?=some w/\(aU m Q R).rt w|_=>False,(aU m Q R).rt,(aU m Q R).bk,(aU m Q R).ct,(aU m Q R).ex⟩) b T e d [] [] none none none (by show 0+sz T<=2000;lia) f λq a j i g=>⟨wq q,rfl,c q a⟩;rw[Kx]at this;exact this
end VL
namespace VL
open PySem PySem.Spec
open PyProof.Rows hiding St
open L2
section
variable{P:Program}{w:World}{K:Frag}{mg:Str->Option Value}{base:Heap}{tp:Nat->Stmt}{DD:DT}{ZZ:List Str}
def Cn(P:Program)(w:World)(K:Frag)(mg:Str->Option Value)(base:Heap)(k:Nat)(x:Str)(m:Md)(S:aT):Prop:=∃c n b,mg x=some c/\bW P w K mg base b c n (nY K n m S)/\b<=k/\∀a P R,S a P R->a.length=n
def Mt(P:Program)(w:World)(K:Frag)(mg:Str->Option Value)(base:Heap)(C:Addr)(k:Nat)(x:Str)(m:Md)(S:aT):Prop:=∃f d b n c,Meth K C x f/\Binds K d b []/\bL P w K mg base (eu P w) c f d b (nY K n m S)/\c<=k/\∀a P R,S a P R->a.length=n
private theorem Cn.up(h:Cn P w K mg base k x m S)(c:k<=a):Cn P w K mg base a x m S:=by obtain⟨i,n,b,g,f,e,d⟩:=h;exact⟨i,n,b,g,f,FV e c,d⟩
private theorem Mt.up(h:Mt P w K mg base C k x m S)(d:k<=a):Mt P w K mg base C a x m S:=by obtain⟨f,o,b,n,c,l,j,i,g,e⟩:=h;exact⟨f,o,b,n,c,l,j,i,FV g d,e⟩
def YI(P:Program)(w:World)(K:Frag)(mg:Str->Option Value)(base:Heap)(C:Addr)(k:Nat):List (Str×Md×Bool)->List aT->Prop
 |(x,m,b)::es,S::Ss=>(if b=true then Mt P w K mg base C k x m S else Cn P w K mg base k x m S)/\YI P w K mg base C k es Ss
 |[],_=>True
 |_::_,[]=>False
private theorem zS:∀{es:List (Str×Md×Bool)}{Ss:List aT},YI P w K mg base C k es Ss->∀(j:Nat)(x:Str)(m:Md)(b:Bool),es[j]?=some (x,m,b)->if b=true then Mt P w K mg base C k x m (bg Ss j)else Cn P w K mg base k x m (bg Ss j)
 |(y,m',b')::es,S::Ss,h,0,x,m,b,e=>by
  cases e;exact h.1
 |(y,m',b')::es,S::Ss,h,j+1,x,m,b,e=>zS (es:=es) h.2 j x m b e
 |_::_,[],h,_,_,_,_,_=>h.elim
 |[],_,_,_,_,_,_,e=>by cases e
noncomputable def Il(g:Nat):Nat->List (Str×Md×Bool)->List (Nat×Nat)
 |_,[]=>[]
 |j,(_,_,b)::es=>if b=true then(j,g)::Il g (j+1) es else Il g (j+1) es
private theorem Hr:∀{es:List (Str×Md×Bool)}{s j h:Nat},(j,h)∈Il g s es->h=g/\s<=j/\∃x m,es[j -s]?=some (x,m,true)
 |[],s,j,h,z=>by cases z
 |(x,m,b)::es,s,j,h,z=>by
  have tl:(j,h)∈Il g (s+1) es->h=g/\s<=j/\∃a c,((x,m,b)::es)[j -s]?=some (a,c,true):=λz=>by obtain⟨f,i,a,c,d⟩:=Hr z;refine⟨f,by lia,a,c,?_⟩;rw[show j -s=(j -(s+1))+1 by lia];exact d
  cases b with
  |true=>
   rcases Do.mp z with e|z
   .cases e;exact⟨rfl,BY _,x,m,by rw[hV];rfl⟩
   .exact tl z
  |false=>exact tl z
private theorem Ht:∀{es:List (Str×Md×Bool)}{s j:Nat}{x:Str}{m:Md}{b:Bool},es[j]?=some (x,m,b)->(Il g s es).any (·.1==s+j)=false->b=false
 |(y,m',b')::es,s,0,x,m,b,e,h=>by
  have e:=Fs e;cases e;cases b' with
  |false=>rfl
  |true=>have h:((s==s+0)||(Il g (s+1) es).any (·.1==s+0))=false:=h;rw[hY,Qr,hJ]at h;cases h
 |(y,m',b')::es,s,j+1,x,m,b,e,h=>by
  have a:(Il g (s+1) es).any (·.1==s+1+j)=false:=by
   rw[show s+1+j=s+(j+1) by lia];cases b' with
   |false=>exact h
   |true=>have h:((s==s+(j+1))||(Il g (s+1) es).any (·.1==s+(j+1)))=false:=h;rw[ck]at h;exact h.2
  exact Ht (es:=es) (s:=s+1) (j:=j) e a
private theorem x6:∀(Gs:List W)(C:W)(j:Nat),j<Gs.length->bI (Gs++[C]) j=bI Gs j
 |g::Gs,C,0,_=>rfl
 |g::Gs,C,j+1,h=>x6 Gs C j (by simpa using h)
private theorem x8:∀(Gs:List W)(C:W),bI (Gs++[C]) Gs.length=C
 |[],C=>rfl
 |g::Gs,C=>x8 Gs C
private theorem oh:∀(Gs:List W)(C:Addr)(j:Nat),Gs.length<=j->bI (Gs++[.cls C]) j=if j=Gs.length then .cls C else .aN
 |[],C,0,_=>rfl
 |[],C,j+1,_=>rfl
 |g::Gs,C,0,h=>by cases h
 |g::Gs,C,j+1,h=>by have:=oh Gs C j (Nat.le_of_succ_le_succ h);show bI (Gs++[.cls C]) j=_;rw[this];simp only[Ar,Nat.add_right_cancel_iff]
private theorem jH(Z:∀x∈ZZ,mg x=none)(h:YI P w K mg base C k es Ss)(g:Ij K mg gn Gs)(p:gn.length=Gs.length):
 Tab P w K mg base (es.map (·.1)) gn ZZ (es.map (·.2.1)) (Il gn.length 0 es) (bg Ss) (bI (Gs++[.cls C])) k:=by
 have i:∀(j:Nat)(x:Str),(es.map (·.1))[j]?=some x->∃m b,es[j]?=some (x,m,b)/\eY (es.map (·.2.1)) j=m:=λj x e=>by
  rw[GM]at e;obtain⟨⟨y,m,b⟩,c,d⟩:=He.mp e;cases d;refine⟨m,b,c,?_⟩;have:∀(l:List (Str×Md×Bool))(j:Nat),l[j]?=some (y,m,b)->eY (l.map (·.2.1)) j=m:=λl=>by
   induction l with
   |nil=>intro j e;cases e
   |cons a l D=>
    intro j e;cases j with
    |zero=>cases e;rfl
    |succ j=>exact D j e
  exact this es j c
 have t:∀(j:Nat)(x:Str),gn[j]?=some x->bI (Gs++[.cls C]) j=bI Gs j:=λj x e=>x6 _ _ _ (by rw[<-p];exact(Fk.mp e).1);refine⟨λj x e o=>?_,λj R x e o=>?_,λj x e=>?_,Z,rq K,λj x v e q=>?_,λj O q x e z=>?_⟩
 .obtain⟨m,b,c,d⟩:=i j x e;have r:b=false:=Ht (g:=gn.length) (s:=0) c (by rw[hU];exact o);subst r;have:=zS h j x m false c;rw[B1 Fn]at this;rw[d];exact this
 .obtain⟨F,_,y,Q,u⟩:=Hr o;obtain⟨m,b,c,d⟩:=i j x e;rw[ZY,c]at u;have r:b=true:=by cases u;rfl
  subst r;have:=zS h j x m true c;rw[BM rfl]at this;obtain⟨f,N,A,n,B,M,L,J,I,H⟩:=this;rw[d,F];refine⟨f,N,A,n,B,λv z=>?_,L,J,I,H⟩;rw[p,x8]at z;cases z;exact M
 .rw[t j x e];exact(jF g j x e).1
 .rw[t j x e]at q;exact(jF g j x e).2 v q
 .have E:Gs.length<=j:=by rw[<-p];exact List.getElem?_eq_none_iff.mp e
  rw[oh Gs C j E]at z;split at z<;>cases z
private theorem LW(h:mg x=some (.ref f)):Gn K mg x (.fn f):=⟨⟨.ref f,.ref f,h,rfl,λ_ _=>rfl⟩,λ_ e=>by cases e⟩
private theorem kT(h:mg x=some (.ref D))(n:kitOne K (.ref E) (.ref D)=some false):Gn K mg x (.gu D [] [E]):=
 ⟨⟨.ref D,.ref D,h,rfl,λ_ _=>⟨rfl,λz=>absurd rfl z,λ_ z=>(by cases z),λC z=>by rw[Dx.mp z];exact n⟩⟩,λ_ e=>by cases e⟩
private theorem zT(h:mg x=some (.ref D))(e:qe K D)(a:Pg K E)(y:kitOne K (.ref E) (.ref D)=some true)(u:mroIn K E (.ref D)=some true):Gn K mg x (.gu D [E] []):=
 ⟨⟨.ref D,.ref D,h,rfl,λ_ _=>⟨rfl,λ_=>e,λC z=>by rw[Dx.mp z];exact⟨a,y,u⟩,λ_ z=>(by cases z)⟩⟩,λ_ e=>by cases e⟩
noncomputable def DM(ZZ:List Str)(st:Stmt)(np n:Nat)(M:Ms)(fn gn:List Str)(a:List Md)(b:List (Nat×Nat))(m:Md)(c:List CS):Bool:=
 decide (((af st).kind=.function/\(af st).isCoroutine=false/\(af st).isGenerator=false/\(Ny st).Nodup/\(Ny st).take (kQ st).length=kQ st)/\(∀x∈kQ st,(af st).names.lookup x=some .local\/(af st).names.lookup x=some .cell)/\(∀y∈(af st).names,y.2≠.free)/\(kQ st).length=np/\(Ny st).length=n/\(M.map (·.1)).Nodup)&&((match m with
  |.io d=>M.all (λi=>i.1==0||decide (np<=i.1))&&hasB M 0 d&&decide (0<n)
  |_=>M.all (λi=>decide (np<=i.1)))&&cN ⟨Ny st,(af st).names,M,fn,gn,ZZ,a,b⟩ (eY a) m c (aF st))
private theorem sU{st:Stmt}{r:FuncData}{M:Ms}{fn gn:List Str}{l:List Md}{j:List (Nat×Nat)}{m:Md}{c:List CS}{h:Nat->aT}{G:Nat->W}{k:Nat}{S:aT}(D:Dm K C x q st ps f r)(d:ps=kQ st)(g:DM ZZ st np n M fn gn l j m c=true)(i:Tab P w K mg base fn gn ZZ l j h G k)(e:∀ws P R,S ws P R->ws.length=np)(p:∀ws Q R,S ws Q R->wSs h G c (aU m Q R) (au n ws)):
 Mt P w K mg base C (k+1) x m S:=by
 unfold DM at g;rw[AC,AC]at g;obtain⟨u,a,o⟩:=g;obtain⟨⟨s,a2,a3,a4,a5⟩,a6,a7,y,v,a8⟩:=AN u;subst d;subst y v;refine⟨f,r,_,(kQ st).length,k+1,D.M,D.b,?_,BY _,e⟩;cases m with
 |io t=>rw[AC,AC]at a;exact Ll D.F ⟨s,a2,a3,a4,a5,a6,a7⟩ i c M t S a.1.1 a8 a.1.2 (AN a.2) o e p
 |_=>exact GH D.F ⟨s,a2,a3,a4,a5,a6,a7⟩ i c M _ S a a8 rfl o e p
private theorem iu(h:Cl P w K mg base DD k j m S)(a:DD[j]?=some (x,i)):Cn P w K mg base k x m S:=by
 have e:yj DD j=x:=by unfold yj;rw[a]
 unfold Cl at h;rw[e]at h;exact h
private theorem XX{st:Stmt}{g:Md}{k:Nat}(D:Dm K C x q st ps f c):Mt P w K mg base C k x (.io g) SI:=
 ⟨f,c,ps,ps.length,k,D.M,D.b,⟨by rintro e H Q E ⟨_,_,_,_,_,_,_,_,_,_,_,_,_,_,_,z,_⟩;exact z.elim,by rintro A a s H d h e Q E i l j r ⟨_,_,_,_,_,_,_,_,_,_,_,_,_,_,_,z,_⟩;exact z.elim⟩,BY _,λ_ _ _ z=>z.elim⟩
private theorem Tw(T:TT K mg tp DD ZZ)(e:DD[j]?=some (x,i))(h:YI P w K mg base C k es Ss)(g:Ij K mg gn Gs)(l:gn.length=Gs.length)(b:C2 ZZ (tp i) np n M (es.map (·.1)) gn (es.map (·.2.1)) (Il gn.length 0 es) m c=true)(a:∀ws P R,S ws P R->ws.length=np)(p:∀ws Q R,S ws Q R->wSs (bg Ss) (bI (Gs++[.cls C])) c (aU m Q R) (au n ws)):
 bL P w K mg base (eu P w) (k+1) (T.f j) (T.d j) (kQ (tp i)) (nY K np m S):=SY T e b (jH T.Z h g l) a p
end
end VL
namespace VL
open PySem PySem.Spec
open PyProof.Rows hiding St
open L2 Num sF
section
variable{K:Frag}{B B':Addr->Prop}{H H':Hp}
mutual
theorem Rep.vL(b:∀p a,H p=some (.tup a)->H' p=some (.tup a)):∀(w:W){v:V},wQ w=true->Rep K B H w v->Rep K B' H' w v
 |.aN,_,_,r=>by dsimp only[Rep]at r⊢;exact r
 |.bl _,_,_,r=>by dsimp only[Rep]at r⊢;exact r
 |.int _,_,_,r=>by dsimp only[Rep]at r⊢;exact r
 |.str _,_,_,r=>by dsimp only[Rep]at r⊢;exact r
 |.tup l,v,h,r=>by obtain⟨p,vs,e,d,c⟩:=r;exact⟨p,vs,e,b _ _ d,ai.vL b l h c⟩
 |.ty _,_,h,_=>ff h
 |.cls _,_,h,_=>ff h
 |.fn _,_,h,_=>ff h
 |.err _,_,h,_=>ff h
 |.gu _ _ _,_,h,_=>ff h
 |.j4 _ _ _ _,_,h,_=>ff h
 |.lst _,_,h,_=>ff h
 |.dct _ _,_,h,_=>ff h
 |.obj _ _ _,_,h,_=>ff h
 |.eE _,_,h,_=>ff h
theorem ai.vL(b:∀p a,H p=some (.tup a)->H' p=some (.tup a)):∀(l:List W){vs:List V},uX l=true->ai K B H l vs->ai K B' H' l vs
 |[],_,_,r=>by dsimp only[ai]at r⊢;exact r
 |w::l,vs,h,r=>by obtain⟨v,us,rfl,d,c⟩:=r.cons_inv;rw[uX,AC]at h;exact .cons (Rep.vL b w h.1 d) (ai.vL b l h.2 c)
end
private theorem Hu:∀l:Pt,uX (pW l)=true
 |[]=>rfl
 |p::l=>by show(wQ (wq p.2)&&uX (pW l))=true;rw[Hu l];rfl
private theorem Tz(c:∀p a,H p=some (.tup a)->H' p=some (.tup a))(hd:∀p kvs,H p=some (.dK kvs)->H' p=some (.dK kvs)/\¬B' p)(h:Rep K B H (dJ l) v):Rep K B' H' (dJ l) v:=by obtain⟨p,kvs,e,_,b,f,d⟩:=h;dsimp only[Rep];exact⟨p,kvs,e,(hd p kvs b).2,(hd p kvs b).1,f,ai.vL c _ (Hu l) d⟩
end
private theorem LX(he:PE X e te)(d:X.env.cells.lookup y=some c):PS X (.Return (some e) pos) (λD b H=>te b H λv H'=>H' c=none->D.rt v H'):=by intro a s b H D I h;exact wpAny_Return_some (bF (he a s b H _ I h) λv k ⟨x,j,f,g,i⟩=>⟨x,b,j,f,g,i (f.dW _ _ d)⟩)
noncomputable def mE:CE:=.ite (.cmp .Eq (.var 0) (.str "number")) (.tup [.var 1,.int 1]) (.call 0 [.var 1,.var 2])
private theorem LY(h:rT E [dJ l,.str k,x] P R):wE (bg [zL E]) (bI []) R mE [some (.str k),some x,some (dJ l)] λw=>∃q,w=wq q/\P w:=by
 obtain⟨d,r,p,e,h⟩:=h;obtain⟨o,e⟩:=OR e;obtain⟨m,e⟩:=OR e;obtain⟨j,_⟩:=OR e;cases m;subst j;unfold mE;fin2;rcases h with⟨n,rfl,rfl,f⟩|⟨y,rfl,rfl,g,i,f⟩
 .rw[BM (by decide+kernel)];exact⟨s2,(n:Rat),rfl,f⟩
 .rw[B1 (by decide+kernel)];have c:dH (tx y) (pK l) (pW l)=dH (tx y) (pK d) (pW d):=by have:=o;injection this with a b;rw[a,b]
  rw[jY,jY]at c;refine⟨y,l,rfl,g,λz=>i ?_,λq z=>⟨q,rfl,f q ?_⟩⟩
  .rw[z]at c;cases w:v7 d y with
   |none=>rfl
   |some u=>rw[w]at c;cases c
  .rw[z]at c;cases w:v7 d y with
   |none=>rw[w]at c;cases c
   |some u=>rw[w]at c;have:=Fs c;exact IR some (by have:=W.ML this;obtain⟨a,b⟩:=OR this;obtain⟨b,_⟩:=OR b;exact(Rat.ext (W.E4 a) (by have:=W.E4 b;lia)).symm)
section
variable{P:Program}{w:World}{K:Frag}{mg:Str->Option Value}{base:Heap}{st:Stmt}{q:Str}{k:Nat}{E:Addr}
private theorem LZ:uR (MJ P w K mg base N c a f h g A b s H d) (λC H'=>d (.ref C) none H'):=λ_ _ _ _ _ _ _ _ I e q=>nT ⟨rfl,rfl,rfl⟩ rfl I e q
private theorem Hv(Sc:wD ["kind","what"] "point" (af st))(hbd:∀(nm:Str)(dc pm kd ct:Value)(c:Addr)(us:List Value),us.length=2->bindArgs (fnX nm q (aV st) (aF st) (af st) [("point",c)] .none .none dc pm none kd ct) ⟨us,[]⟩=pure ((["kind","what"]:List Str).zip us))
 (F:aF st=[.Return (some v) p])(D:aE ⟨["kind","what","point"],(af st).names,[],["number_at"],[],[],[.s],[]⟩ false mE v=true)
 (hN:Cn P w K mg base k "number_at" .s (zL E)):lY P w K mg base (k+1) st q "point" 2 (rT E):=by
 intro A d s H us vs Q Ek y f ab ws P' R hr e0 t rv hlen Z TF hS Hw hE;obtain⟨l,k0,x,e,XY⟩:=id hS;obtain⟨ey,e2⟩:=OR e;subst ey e2;obtain⟨f',c,co,u,nm,pv,ef,B,hc,hd,Y,X⟩:=t;cases ef;obtain⟨v0,r,rfl,T,h2⟩:=Z.cons_inv;obtain⟨O,r,rfl,S,h2⟩:=h2.cons_inv;cases h2.nil_inv;have ix:wQ x=true:=by rcases XY with⟨n,_,rfl,_⟩|⟨y,_,rfl,_⟩<;>rfl
 have nc:∀p o,H p=some o->o≠.i6 co (.own 0)->p≠c:=λp o h n z=>by rw[z,hc]at h;exact n (Fs h).symm
 have U:∀p L,H p=some (.tup L)->wo c H p=some (.tup L):=λp L h=>by rw[dX (nc p _ h (λz=>by cases z))];exact h
 refine Jp Sc (hbd nm) hr e0 B hc hd Y rv rfl λcd=>?_;rw[F];have hX:XOk ⟨["kind","what","point"],(af st).names,[],["number_at"],[],[],[.s],[]⟩ (bg [zL E]) (eY [.s]) (bI []) (MJ P w K mg base ((["kind","what"]:List Str)++[("point":Str)]) q (af st) f cd [("point",c)] A d s (wo c H) λe a g=>Ek e a (pin c co g)):=
  {hN:=rfl,nd:=Sc.nd,calm:=rfl,un:=(hr.deeper _).units,nk:=λ_=>rfl,
   fns:=λj x e h=>by
    cases j with
    |zero=>
     cases e;obtain⟨fv,n,k',q1,q2,q3,q4⟩:=hN;exact⟨fv,n,k',q1,q2,(hr.deeper _).mono q3,q4⟩
    |succ j=>cases e
   Ge:=λ_ _ _ _ h=>by cases h
   CN:=rfl,DH:=λj x e=>by cases e
   xu:=λx h=>by cases h
   kit:=rq K,j4:=λ_ _ _ _ _ z=>by cases z}
 refine⟨_,jP (LX (te:=tV (MJ P w K mg base ((["kind","what"]:List Str)++[("point":Str)]) q (af st) f cd [("point",c)] A d s (wo c H) λe a g=>Ek e a (pin c co g)) [] R (MW K .s) (wE (bg [zL E]) (bI []) R mE)) ((snd (bg [zL E]) (eY [.s]) (bI []) mE).s hX D R) (y:="point") (c:=c) (by show Lx "point" [("point",c)]=some c;simp)),?_⟩;have sm:∀{g:Hp},aq (wo c H) g->aq H (pin c co g):=λ{g} i b o F=>by
  by_cases z:b=c
  .rw[z,hc]at F;rw[z,bO];exact F
  .rw[aW z];exact i _ _ (by rw[dX z];exact F)
 have S0:=rm (K:=K) (A:=λ_=>False) (H:=wo c H) (N:=["kind","what","point"]) (ws:=[.str k0,x,dJ l]) (vs:=[v0,O,pv]) (M:=[]) (.cons (Rep.vL U _ rfl T) (.cons (Rep.vL U _ ix S) (.cons (Tz U (λp kvs h=>⟨by rw[dX (nc p _ h (λz=>by cases z))];exact h,λz=>z⟩) X) .nil))) (λ_ z=>z.elim) (λ_ _ z=>by cases z) (λ_ _ _ z=>by cases z);refine⟨⟨λ_=>False,λ_=>False,none⟩,wo c H,[some (.str k0),some x,some (dJ l)],λw=>∃q,w=wq q/\P' w,S0,⟨_,V3,λC g rc i=>hE C _ rc (sm i),λm σ H1 s1 h' a C J I hx z=>LZ m σ H1 s1 h' a C J I hx (hE C _ z.1 (sm z.2))⟩,LY hS,λw1 O g ⟨q1,e1,hp⟩ i r hn=>Hw w1 O _ hp (sm i) (.of ?_)⟩;subst e1;refine Rep.vL (λp L h=>?_) _ rfl r.aM;rw[aW (λz=>by rw[z,hn]at h;cases h)];exact h
end
def C5(CE E:Addr):aT:=λa Q R=>∃(T:Tr)(l:Pt),a=[Ex CE (stp T),dJ l]/\pL T/\jf T<=6000/\sz T<=2000/\rM l/\(vT l T=none->R E)/\∀q,vT l T=some q->Q (wq q)
private theorem Hx:∀{K:List (Addr×Obj)},K.lookup a=some o->(a,o)∈K
 |[],h=>by cases h
 |(b,u)::K,h=>by
  rw[DK]at h;split at h
  .rename_i e
   cases h;rw[GT.mp e];exact Ap
  .exact AS _ (Hx h)
private theorem aq.fr0(s:aq H H'):∀b o,H b=some (.i6 o (.own 0))->H' b=some (.i6 o (.own 0)):=λb o e=>s b _ e
section
variable{P:Program}{w:World}{K:Frag}{mg:Str->Option Value}{base:Heap}{st:Stmt}{k:Nat}{CE E f fw f1 f2 cA P0:Addr}{fdw:FuncData}{psw:List Str}
private theorem Hy{sc:Scope}{es:List Expr}{oc kV doc pm ct:Value}{od an:Option Addr}{osl:Array (Option Value)}
 (lk:K.lookup f=some ⟨oc,od,.func (fnOf "value" q (aV st) (aF st) (af st) .none kV doc pm an (.ref cA) ct),osl⟩)(hcd:codeIn K (.ref cA) q=true)(ht:tabAt K cA=some P0)
 (hb:aF st=[.FunctionDef "leaf_value" L bo [] none [] sc none "leaf_value" pos,.Return (some (.Call (.Name "walked" p) (Z::es) [] p3)) p2])
 (Sc:ee ["self","point","leaf_value"] ["self","point"] (af st))(hk:(af st).names.lookup ("point":Str)=some NameKind.cell)(hlo:(af st).names.lookup ("leaf_value":Str)=some NameKind.local)(hgw:(af st).names.lookup ("walked":Str)=some NameKind.globalImplicit)
 (hcl:∀(env:Env)(c:Addr),env.cells.lookup ("point":Str)=some c->closureFor sc env=pure [(("point":Str),c)])(hd0:L.defaults=[])(hk0:L.kw_defaults=[])(ha0:∀env,annTrees L none env=[])
 (hqn:∀n:Nat,qualnameIn (envOfC q (af st) n f (.ref cA)) "leaf_value" "leaf_value"=qn)(aaz:qn=q++(".<locals>.":Str)++("leaf_value":Str))
 (hchk:fj ⟨["self","point","leaf_value"],(af st).names,[],[],["lone_value","joint_value"],[],[],[]⟩ [.MO (.var 0) 0 "steps",.var 2,.glob 0,.glob 1] (Z::es)=true)
 (he:∀env,starEach (Z::es) env=(false,eval Z env)::starEach es env)(hpl:∀env,(backTo p3 (starEach es env)).any (·.1)=false)
 (hm:mg "walked"=some (.ref fw))(kp:keepIn K (.ref fw)=true)(b:Binds K fdw psw [])(F:bL P w K mg base (eu P w) k fw fdw psw (nY K 4 .s (Tv (.FunctionDef "leaf_value" L bo [] none [] sc none "leaf_value" pos) qn f1 f2 E)))
 (g:Ij K mg ["lone_value","joint_value"] [.fn f1,.fn f2]):
 bL P w K mg base (eu P w) (k+1) f (fnOf "value" q (aV st) (aF st) (af st) .none kV doc pm an (.ref cA) ct) ["self","point"] (nY K 2 .s (C5 CE E)):=by
 refine MB lk hcd Sc (by rintro vs H Q Ek ⟨U,ws,P0,R,h1,h2,_⟩;rw[h2.len,h1];rfl) λA O s H vs Q Ek hr h=>?_;obtain⟨U,ws,P1,R,hl,hrl,TF,⟨T,l,rfl,hT,YJ,hz,pb,hn,hq⟩,Hw,hE⟩:=h;obtain⟨v0,r,rfl,hv0,h2⟩:=hrl.cons_inv;obtain⟨v1,r,rfl,hv1,h2⟩:=h2.cons_inv;cases h2.nil_inv
 let X:Cx:=OU P w K mg base ["self","point","leaf_value"] q (af st) f (.ref cA) A O s H Ek
 obtain⟨c,hc⟩:∃c,X.env.cells.lookup ("point":Str)=some c:=qa hk;have htab:(cA,P0,pos.line,pos.col,qualnameIn X.env "leaf_value" "leaf_value")∈tabs K:=by rw[show qualnameIn X.env "leaf_value" "leaf_value"=qn from hqn _,aaz];refine List.mem_flatMap.mpr ⟨(f,_),Hx lk,?_⟩;unfold tabOf;rw[hb];show _∈(match tabAt K cA with|some P=>uI cA P q _|none=>[]);rw[ht];exact Ap
 have hX:XOk ⟨["self","point","leaf_value"],(af st).names,[],[],["lone_value","joint_value"],[],[],[]⟩ (bg []) (eY []) (bI [.fn f1,.fn f2]) X:=
  {hN:=rfl,nd:=Sc.nd,calm:=rfl,un:=hr.units,nk:=λ_=>rfl,
   fns:=λj x e h=>by cases e
   Ge:=λ_ _ _ _ h=>by cases h
   CN:=rfl,DH:=λj x e=>(jF g j x e).1
   xu:=λx h=>by cases h
   kit:=rq K,j4:=λj st q x e z=>by rw[vA g j e]at z;cases z}
 rw[hb];have hpe:PE X (.Call (.Name "walked" p) (Z::es) [] p3) (λσ Y Q1=>∃t,σ=[some v0,some v1,some (.ref t)]/\aq H Y/\yN Y t c "leaf_value" qn L bo sc "point"/\∀q v y,vT l T=some q->aq H y->Rep K U y (wq q) v->Q1 v y):=by
  rintro pins s1 σ Y Q1 I1 ⟨t,rfl,Uw,d,hQ1⟩;have S1:=rm (K:=K) (A:=U) (H:=Y) (N:=["self","point","leaf_value"]) (ws:=[Ex CE (stp T),dJ l,.fn t]) (vs:=[v0,v1,.ref t]) (M:=[]) (.cons (hv0.same Uw) (.cons (hv1.same Uw) (.cons (by dsimp only[Rep]) .nil))) (TF.same Uw) (λ_ _ z=>by cases z) (λ_ _ _ z=>by cases z);refine Pm (iG I1 hgw hm ?_ (by decide));refine Pi (h₀:=X.base) I1.ok.mod.DR kp (bF ((jy (bg []) (eY []) (bI [.fn f1,.fn f2]) [.MO (.var 0) 0 "steps",.var 2,.glob 0,.glob 1]).1.a hX (Z::es) hchk (λ_=>False) p3 pins s1 _ Y (λvs B=>∃ws,aq Y B/\ai K U B ws vs/\ws=[.tup (stp T),.fn t,.fn f1,.fn f2]) I1 ⟨⟨U,U,none⟩,Y,[some (Ex CE (stp T)),some (dJ l),some (.fn t)],(λws=>ws=[.tup (stp T),.fn t,.fn f1,.fn f2]),S1,ER.none,⟨rfl,_,rfl,rfl⟩,λws vs B hw s2 rs=>⟨ws,s2,rs,hw⟩⟩) λus s2 ⟨VY,B,I2,r,ws2,YK,rs,ew⟩=>⟨I2.jh,?_⟩) (he _) (hpl _);subst ew;obtain⟨m,_,hloc⟩:=I2.loc;obtain⟨u,hru,hlk⟩:=hloc 1 "point" v1 rfl rfl (.inr (.inl hk));have S:∃o,s2.heap.get? c=some o/\o.data=.cell (some u):=by
   rcases hlk with⟨z,_⟩|⟨_,c',e,z⟩
   .have z:(af st).names.lookup ("point":Str)=some NameKind.local:=z;rw[hk]at z;cases z
   .have e:X.env.cells.lookup ("point":Str)=some c':=e;rw[hc]at e;cases e;exact z
  obtain⟨o,ho,hd⟩:=S;have n2:B c=none:=I2.dW _ _ hc;have Ux:aq B (pin c o B):=λb ob e=>by rw[aW (λz=>by rw[z,n2]at e;cases e)];exact e
  have J:∀{y:Hp},aq (pin c o B) y->aq H (wo c y):=λ{y} D b ob e=>by
   have e2:=YK _ _ (Uw _ _ e);have ne:b≠c:=λz=>by rw[z,n2]at e2;cases e2
   rw[dX ne];exact D _ _ (Ux _ _ e2)
  obtain⟨w0,r1,rfl,a0,rs2⟩:=rs.cons_inv;obtain⟨w1,r2,rfl,a1,rs3⟩:=rs2.cons_inv;have a1:w1=.ref t:=a1;subst a1;refine Jl (E:=Ek) F hr b (λ_ _ _ _ I h=>EC _ _ _ _ _ _ I h) I2 r hc rfl ho hd ⟨U,[.tup (stp T),sS (.FunctionDef "leaf_value" L bo [] none [] sc none "leaf_value" pos) qn l,.fn f1,.fn f2],λw=>∃q,vT l T=some q/\w=wq q,R,rfl,.cons (a0.same Ux) (.cons ⟨t,c,o,u,"leaf_value",v1,rfl,d.same (aq.fr0 (YK.trans Ux)),bO,hd,hru,hv1.same ((Uw.trans YK).trans Ux)⟩ (rs3.same Ux)),TF.same ((Uw.trans YK).trans Ux),⟨T,l,rfl,hT,YJ,hz,pb,hn,λq hq=>⟨q,hq,rfl⟩⟩,?_,λC y rc D=>hE C _ rc (J D)⟩;rintro w v y ⟨q,e,rfl⟩ D r';have hc':=D _ _ (bO (c:=c) (o:=o) (H:=B));exact hQ1 q v _ e (J D) (Rep.vL (λp xs h=>by rw[dX (λz=>by rw[z,hc']at h;cases h)];exact h) _ rfl r'.aM)
 refine⟨_,jj (Jo (X:=X) (i:=2) (cA:=cA) (P:=P0) (c:=c) htab rfl (hcl _ c hc) hd0 hk0 (ha0 _) Sc.nd rfl (.inl hlo) rfl) (jP (kF hpe)),?_⟩;intro t y sm nf d;rw[show qualnameIn X.env "leaf_value" "leaf_value"=qn from hqn _]at d;exact⟨t,rfl,sm,d,λq v Yv e D r=>Hw (wq q) v Yv (hq q e) D (.of r)⟩
end
noncomputable def NL:List CS:=[.set 4 (.ix (.var 0) (.var 3)),.set 5 (.bin .Sub (.bin .Mod (.bin .FloorDiv (.var 4) (.int 3)) (.int 101)) (.int 50)),.set 6 (.bin .Add (.int 1) (.bin .Mod (.bin .FloorDiv (.var 4) (.int 303)) (.int 20))),.iff (.cmp .Eq (.bin .Mod (.var 4) (.int 3)) (.int 0)) [.set 5 (.bin .Sub (.bin .Mod (.bin .FloorDiv (.var 4) (.int 3)) (.int 5)) (.int 2)),.set 6 (.int 1)] [],.Uo 2 (.ix (.var 1) (.var 3)) (.call 0 [(.var 5),(.var 6)])]
noncomputable def vM:List CS:=[.Wm 2,.fr [3] true (.pT [(.blt .len [(.var 1)])]) NL,.ret (.var 2)]
def vN:aT:=λc Q _=>∃(b:List Int)(a:List (List Nat)),c=[wI b,.lst (a.map wX)]/\b.length=5/\(∀x∈b,0<=x/\x<1000000)/\a.length<=3/\∀l:Pt,rM l->l.length<=3->(∀x∈a,∃p∈l,p.1=x)->Q (dJ l)
private theorem rW(a:b≠0)(d:t.natAbs<2^21)(c:b.natAbs<2^21):Bd 21 (As t b):=by have:=Jy t b a;exact⟨Kj this.1 d,Kj this.2 c⟩
private theorem Hz(l:Pt):(pK l).length=l.length:=by unfold pK;rw[FK]
private theorem L3{G:Nat->W}(ws:List W)(Q:W->Prop)(R:Addr->Prop)(h:vN ws Q R):wSs (bg [gC]) G vM (aU .d Q R) (au 7 ws):=by
 obtain⟨j,c,rfl,M,L,e,z⟩:=h;show wSs _ _ vM _ [some (wI j),some (.lst (c.map wX)),none,none,none,none,none];unfold vM;refine aH (λa=>a=[some (wI j),some (.lst (c.map wX)),some (dJ []),none,none,none,none]) (λN g=>g _ rfl) ?_;rintro _ rfl;refine aH (λa=>∃(l:Pt)(o3 q o k:Option W),(rM l/\l.length<=3/\∀x∈c,∃p∈l,p.1=x)/\a=[some (wI j),some (.lst (c.map wX)),some (dJ l),o3,q,o,k]) (λN g=>?_) ?_
 .refine rK (l:=fh 0 1 c.length) (λQ z=>?_) ?_
  .show wE _ _ _ _ _ _;dsimp only[wE,wA];show _/\_/\_;rw[FK];exact⟨by lia,by lia,z⟩
  refine gy (λi I=>∃(l:Pt)(o3 q o k:Option W),(rM l/\l.length<=i/\∀x∈c.take i,∃p∈l,p.1=x)/\I=[some (wI j),some (.lst (c.map wX)),some (dJ l),o3,q,o,k]) ⟨[],none,none,none,none,⟨(λp K=>by cases K),BY _,λx e=>by cases e⟩,rfl⟩ ?_ ?_
  .rintro i w _ U C ⟨l,o3,q,o,k,⟨v,u,s⟩,rfl⟩ J;obtain⟨A,rfl⟩:=zx C;have r:i<j.length:=by lia
   have D:=L _ (Mo r);unfold NL;refine aH (λa=>a=[some (wI j),some (.lst (c.map wX)),some (dJ l),some (.int i),some (.int j[i]),o,k]) (λN g=>?_) ?_
   .fin2;exact⟨_,cU (by rw[GM,Da r];rfl),g _ rfl⟩
   rintro _ rfl;generalize j[i]=n at D;have F:i7 n 3:=⟨by decide,eZ (n:=14) (by decide) (by decide)⟩;have B:i7 n 303:=⟨by decide,eZ (n:=14) (by decide) (by decide)⟩;refine aH (λa=>∃t:Int,t.natAbs<=50/\a=[some (wI j),some (.lst (c.map wX)),some (dJ l),some (.int i),some (.int n),some (.int t),k]) (λN g=>?_) ?_
   .fin2;have f:=fm (x:=n.fdiv 3) (n:=101) (by decide);exact⟨F,by decide,g _ ⟨_,by omega,rfl⟩⟩
   rintro _ ⟨t,y,rfl⟩;refine aH (λa=>∃b:Int,(1<=b/\b<=20)/\a=[some (wI j),some (.lst (c.map wX)),some (dJ l),some (.int i),some (.int n),some (.int t),some (.int b)]) (λN g=>?_) ?_
   .fin2;have f:=fm (x:=n.fdiv 303) (n:=20) (by decide);exact⟨B,by decide,g _ ⟨_,by clear f y D r C A u e M;lia,rfl⟩⟩
   rintro _ ⟨b,E,rfl⟩;refine aH (λa=>∃t b:Int,(t.natAbs<=50/\1<=b/\b<=20)/\a=[some (wI j),some (.lst (c.map wX)),some (dJ l),some (.int i),some (.int n),some (.int t),some (.int b)]) (λN g=>?_) ?_
   .fin2;refine⟨by decide,?_⟩;split
    .have f:=fm (x:=n.fdiv 3) (n:=5) (by decide);exact⟨F,by decide,g _ ⟨_,_,⟨by omega,by decide,by decide⟩,rfl⟩⟩
    .exact g _ ⟨_,_,⟨y,E.1,E.2⟩,rfl⟩
   rintro _ ⟨t,b,⟨y,P,O⟩,rfl⟩;have H:b≠0:=by lia
   fin2;refine⟨t,b,21,rfl,by decide,H,by omega,?_⟩;refine⟨_,cU (by rw[GM,Da A];rfl),?_⟩;obtain⟨T,S⟩:=G7 l c[i] (As t b);refine⟨by rw[Hz];exact Kj (m:=3) (by lia) (by decide),?_⟩;show U [_,_,some (.dct (qv (tx c[i]) (pK l)) (qw (tx c[i]) (wq (As t b)) (pK l) (pW l))),_,_,_,_];rw[T,S];have X:=LG l c[i] (As t b);refine J _ ⟨Ik l c[i] (As t b),_,_,_,_,⟨v.put (rW H (by lia) (by omega)),by lia,λx e=>LH l _ _ x ?_⟩,rfl⟩;rw[gN,Da A]at e;rcases Fu.mp e with e|e
   .exact .inr (s x e)
   .exact .inl (by simpa using e)
  .rintro _ ⟨l,o3,q,o,k,⟨v,u,s⟩,rfl⟩;rw[Lo]at u s;exact g _ ⟨l,o3,q,o,k,⟨v,by lia,λx e=>s x (by rw[et];exact e)⟩,rfl⟩
 rintro _ ⟨l,o3,q,o,k,⟨v,u,s⟩,rfl⟩;fin2;exact z l v u s
noncomputable def zU:List CS:=[.iff (.or [(.not (.blt .Cz [(.var 0),(.Dz "tuple")])),(.cmp .NotEq (.blt .len [(.var 0)]) (.int 2))]) [.ret (.bl false)] [],.iff (.not (.blt .all [(.comp [0] true 1 (.var 0) (.bl true) (.and [(.blt .Cz [(.var 0),(.Dz "int")]),(.not (.blt .Cz [(.var 0),(.Dz "bool")]))]))])) [.ret (.bl false)] [],.ret (.cmp .Eq (.var 0) (.var 1))]
def x9:aT:=λa Q _=>∃q:Rat,a=[wq q,wq q]/\Q (.bl true)
private theorem TH{G:Nat->W}(ws:List W)(Q:W->Prop)(R:Addr->Prop)(h:x9 ws Q R):wSs c G zU (aU m Q R) (au 2 ws):=by
 obtain⟨q,rfl,d⟩:=h;show wSs _ _ zU _ [some (wq q),some (wq q)];unfold zU wq;fin2;refine⟨"tuple",rfl,?_⟩;fin2;have i0:wO "tuple" "tuple"=true:=by decide
 have i1:wO "int" "int"=true:=by decide
 have a:wO "int" "bool"=false:=by decide
 have sm:∀n:Nat,n<=2->n<sizeLine:=λn h=>Bn (m:=3) (by lia) (by decide);rw[i0,B1 (show¬((!true)=true) by decide),B1 (show¬((!decide ((([W.int q.num,W.int (q.den:Int)]:List W).length:Int)=2))=true) by simp)];refine⟨"int",rfl,?_⟩;rw[i1];refine⟨"int",rfl,?_⟩;rw[a];refine⟨sm 0 (by decide),"int",rfl,?_⟩;rw[i1];refine⟨"int",rfl,?_⟩;rw[a];refine⟨sm 1 (by decide),[true,true],rfl,?_⟩;exact⟨.inl ⟨rfl,rfl⟩,λb e=>by have:b=true:=e.mpr rfl;subst this;exact d⟩
private theorem uF(h:Q (.bl false)):JH (.err E) (.gu D [] [E]) Q:=.inr ⟨Ap,h⟩
private theorem NN(h:Q (.bl true)):JH (.err E) (.gu D [E] []) Q:=.inl ⟨Ap,h⟩
noncomputable def vO:List CS:=[.set 1 (.lst [(.CA (.var 0) 0),(.CA (.var 0) 1),(.CA (.var 0) 2)]),.set 1 (.bin .Add (.var 1) (.lst [(.CA (.var 0) 3),(.CA (.var 0) 4),(.CA (.var 0) 5)])),.set 1 (.bin .Add (.var 1) (.lst [(.CA (.var 0) 6),(.CA (.var 0) 7),(.Ul (.var 0))])),.ret (.comp [0] true 1 (.pT [(.int 9)]) (.ix (.var 2) (.var 0)) (.var 0))]
def Skd(E:Addr):aT:=λa Q _=>a=[.err E]/\Q (.lst [.int 1,.int 7,.int 8])
noncomputable def XZ:List Bool:=[false,true,false,false,false,false,false,true,true]
private theorem aaD(ws:List W)(Q:W->Prop)(R:Addr->Prop)(h:Skd E ws Q R):wSs d (bI [.gu v [] [E],.gu u [E] [],.gu t [] [E],.gu s [] [E],.gu r [] [E],.gu q [] [E],.gu p [] [E],.gu o [E] []]) vO (aU m Q R) (au 2 ws):=by
 obtain⟨rfl,z⟩:=h;show wSs _ _ vO _ [some _,none];unfold vO;fin2;refine uF (NN (uF ⟨s3,?_⟩));fin2;refine uF (uF (uF ⟨s3,ay (by show 6<=1000;decide),?_⟩));fin2;refine uF (NN ?_);refine⟨s3,ay (by show 9<=1000;decide),?_⟩;fin2;refine⟨by decide,by decide,?_⟩;generalize bI [.gu v [] [E],.gu u [E] [],.gu t [] [E],.gu s [] [E],.gu r [] [E],.gu q [] [E],.gu p [] [E],.gu o [E] []]=G;have f:∀k:Nat,k<9->jg ([W.bl false,.bl true,.bl false,.bl false,.bl false,.bl false,.bl false,.bl true,.bl true]) (k:Int)=some (.bl (XZ.getD k false)):=λk A=>cU (by
  have:∀k,k<9->XZ[k]?=some (XZ.getD k false):=by decide
  have:=IR (bx W.bl) (this k A);rw[<-GM]at this;exact this)
 have C:∀(n k:Nat)(a:List W),k+n=9->a++(((Xg k n).filter λj=>XZ.getD j false).map λj=>W.int ((j:Nat):Int))=[.int 1,.int 7,.int 8]->a.length<=9->
  qx (λw K=>wT true [0] w (A0 1 none++[some (W.err E),some (.lst [.bl false,.bl true,.bl false,.bl false,.bl false,.bl false,.bl false,.bl true,.bl true])]) λc=>wE d G (λ_=>False) (.ix (.var 2) (.var 0)) c λx=>truth x λk=>if k=true then wE d G (λ_=>False) (.var 0) c λy=>K (some y)else K none) ((Xg k n).map λj=>W.int ((j:Nat):Int)) a λl=>Q (.lst l):=by
  intro n
  induction n with
  |zero=>intro k a B b e;rw[show a=[.int 1,.int 7,.int 8] by simpa using b];exact z
  |succ n g=>
   intro k a B b e;rw[f6,Fh,qx];fin2;refine⟨_,f k (by lia),?_⟩;fin2;rw[f6,SZ]at b;by_cases i:XZ.getD k false=true
   .rw[BM i]at b⊢;exact⟨Kj e (by decide),g (k+1) _ (by lia) (by simpa using b) (by have:=IR J9 b;simp at this;simp;lia)⟩
   .rw[B1 i]at b⊢;exact g (k+1) _ (by omega) b e
 exact C 9 0 [] rfl rfl (OF _)
noncomputable def vP:List CS:=[.set 2 .aN,.set 3 .aN,.Wr 2 4 0 3 (.yR 1 0 (.var 0) [(.var 1)]),.ret (.tup [(.var 2),(.var 3)])]
def okV(T:Tr)(l:Pt):Prop:=pL T/\jf T<=6000/\sz T<=2000/\rM l
noncomputable def erW(E:Addr):Option Rat->W
 |some _=>.aN
 |none=>.err E
def TJ(X E:Addr):aT:=λa Q _=>∃(T:Tr)(l:Pt),a=[Ex X (stp T),dJ l]/\okV T l/\Q (.tup [oq (vT l T),erW E (vT l T)])
private theorem L4(ws:List W)(Q:W->Prop)(R:Addr->Prop)(h:TJ X E ws Q R):wSs (bg [C5 X E]) (bI [.gu H [E] [],.cls X]) vP (aU m Q R) (au 5 ws):=by
 obtain⟨T,l,rfl,⟨f,d,c,b⟩,a⟩:=h;show wSs _ _ vP _ [some _,some _,none,none,none];unfold vP;fin2;refine⟨fI _ _,?_⟩;refine⟨rfl,T,l,rfl,f,d,c,b,λe=>⟨Ap,?_⟩,λq e=>?_⟩
 .rw[e]at a;fin2;exact⟨s2,a⟩
 .rw[e]at a;fin2;exact⟨s2,a⟩
noncomputable def nD:List CS:=[.set 3 (.blt .dict [(.var 2)]),.set 4 (.call 0 [(.var 1),(.var 2)]),.DA [5,6] (.call 1 [(.var 0),(.var 3)]),.iff (.cmp .NotEq (.var 3) (.var 2)) [.ret (.bl false)] [],.iff (.cmp .Is (.var 4) .aN) [.ret (.cmp .Eq (.call 2 [(.var 6)]) (.lst [(.int 1),(.int 7),(.int 8)]))] [],.ret (.and [(.cmp .Is (.var 6) .aN),(.call 3 [(.var 5),(.var 4)])])]
def jI(X:Addr):aT:=λa Q _=>∃(T:Tr)(l:Pt),a=[Ex X (stp T),wt T,dJ l]/\pL T/\jf T<=6000/\sz T<=27/\rM l/\Q (.bl true)
private theorem HA:∀l:Pt,(pW l).all (lE 9)=true
 |[]=>rfl
 |p::l=>by show(lE 9 (wq p.2)&&(pW l).all (lE 9))=true;rw[HA l];rfl
private theorem C6{G:Nat->W}(ws:List W)(Q:W->Prop)(R:Addr->Prop)(h:jI X ws Q R):wSs (bg [DJ 27,TJ X E,Skd E,x9]) G nD (aU m Q R) (au 7 ws):=by
 obtain⟨T,l,rfl,f,d,i,c,a⟩:=h;show wSs _ _ nD _ [some _,some _,some _,none,none,none,none];unfold nD;fin2;refine⟨T,l,rfl,f,i,d,c,?_⟩;refine⟨T,l,rfl,⟨f,d,by lia,c⟩,rfl,?_⟩;fin2;refine⟨⟨rfl,rfl,rfl,HA l⟩,?_⟩;fin2;cases e:vT l T with
 |none=>refine⟨rfl,s3,.inl ⟨rfl,rfl⟩,λb g=>?_⟩;have:b=true:=g.mpr rfl;subst this;exact a
 |some q=>exact⟨q,rfl,a⟩
section
variable{P:Program}{w:World}{K:Frag}{mg:Str->Option Value}{base:Heap}{tp:Nat->Stmt}{DD:DT}{ZZ:List Str}
abbrev bu:Md:=.io Bj
abbrev L5:Md:=.io RDs
structure RdG(K:Frag)(mg:Str->Option Value):Prop where
 fg:Gn K mg "FIGURES" (.str "0123456789")
 lt:Gn K mg "LETTERS" (.str "abcdefghijklmnopqrstuvwxyz")
 sg:Gn K mg "MOST_SIGNS" (.int 1000)
 bk:Gn K mg "MOST_BRACKETS" (.int 30)
 mi:Gn K mg "MOST_MINUSES" (.int 30)
 fi:Gn K mg "MOST_FIGURES" (.int 30)
 le:Gn K mg "MOST_LETTERS" (.int 8)
 ef:Gn K mg "MOST_EXPONENT_FIGURES" (.int 2)
 ex:Gn K mg "MOST_EXPONENT" (.int 12)
private theorem vQ(h:∃z,mg x=some z/\RelV v z)(a:∀B H,Rep K B H u v)(b:∀C,u≠.cls C):Gn K mg x u:=by obtain⟨z,d,c⟩:=h;exact⟨⟨z,v,d,c,a⟩,λC e=>(b C e).elim⟩
structure Uy(K:Frag)(C:Addr)(ZZ:List Str)where
 s:Nat->Stmt
 f:Nat->Addr
 d:Nat->FuncData
 D0:Dm K C "follows" "Reader.follows" (s 0) (kQ (s 0)) (f 0) (d 0)
 D1:Dm K C "take_sum" "Reader.take_sum" (s 1) (kQ (s 1)) (f 1) (d 1)
 D2:Dm K C "take_term" "Reader.take_term" (s 2) (kQ (s 2)) (f 2) (d 2)
 D3:Dm K C "take_sign" "Reader.take_sign" (s 3) (kQ (s 3)) (f 3) (d 3)
 D4:Dm K C "take_factor" "Reader.take_factor" (s 4) (kQ (s 4)) (f 4) (d 4)
 D5:Dm K C "take_exponent" "Reader.take_exponent" (s 5) (kQ (s 5)) (f 5) (d 5)
 D6:Dm K C "take_atom" "Reader.take_atom" (s 6) (kQ (s 6)) (f 6) (d 6)
 D7:Dm K C "take_brackets" "Reader.take_brackets" (s 7) (kQ (s 7)) (f 7) (d 7)
 D8:Dm K C "take_run" "Reader.take_run" (s 8) (kQ (s 8)) (f 8) (d 8)
 k0:DM ZZ (s 0) 2 2 [(0,Bj)] [] [] [] [] bu jW=true
 k1:DM ZZ (s 1) 1 2 [(0,Bj)] ["take_term","follows","take_sign"] [] [bu,bu,bu] [(0,0),(1,0),(2,0)] bu (jX " + " " - ")=true
 k2:DM ZZ (s 2) 1 2 [(0,Bj)] ["take_factor","follows","take_sign"] [] [bu,bu,bu] [(0,0),(1,0),(2,0)] bu (jX " * " " / ")=true
 k3:DM ZZ (s 3) 1 2 [(0,Bj)] [] [] [] [] bu gA=true
 k4:DM ZZ (s 4) 1 2 [(0,Bj)] ["take_run","take_atom","follows","take_exponent"] ["MOST_MINUSES"] [bu,bu,bu,bu] [(0,1),(1,1),(2,1),(3,1)] bu eK=true
 k5:DM ZZ (s 5) 1 2 [(0,Bj)] ["whole_number","take_run"] ["FIGURES","MOST_EXPONENT_FIGURES","MOST_EXPONENT"] [.s,bu] [(1,3)] bu cR=true
 k6:DM ZZ (s 6) 1 2 [(0,Bj)] ["follows","take_brackets","take_run","whole_number","take_run"] ["LETTERS","FIGURES","MOST_FIGURES","MOST_LETTERS"] [bu,bu,bu,.s,L5] [(0,4),(1,4),(2,4),(4,4)] bu gB=true
 k7:DM ZZ (s 7) 1 1 [(0,Bj)] ["take_sum","follows"] ["MOST_BRACKETS"] [bu,bu] [(0,1),(1,1)] bu cP=true
 k8:DM ZZ (s 8) 2 3 [(0,Bj)] [] [] [] [] bu fM=true
 k9:DM ZZ (s 8) 2 3 [(0,RDs)] [] [] [] [] L5 fM=true
section
variable{C:Addr}(Z:∀x∈ZZ,mg x=none)(g:RdG K mg)(M:Uy K C ZZ)(hw:Cn P w K mg base 1 "whole_number" .s bU)
include Z in
private theorem iy(M:Uy K C ZZ):Mt P w K mg base C 1 "follows" bu (bS C):=
 sU (k:=0) M.D0 rfl M.k0 (jH (C:=C) (es:=[]) (Ss:=[]) (gn:=[]) (Gs:=[]) Z trivial trivial rfl) (λa P R h=>by obtain⟨_,_,_,_,_,rfl,_⟩:=h;rfl) C3
include Z in
private theorem HB(M:Uy K C ZZ):Mt P w K mg base C 1 "take_sign" bu (cH C):=
 sU (k:=0) M.D3 rfl M.k3 (jH (C:=C) (es:=[]) (Ss:=[]) (gn:=[]) (Gs:=[]) Z trivial trivial rfl) (λa P R h=>by obtain⟨_,_,_,_,_,_,_,rfl,_⟩:=h;rfl) xP
include Z in
private theorem HC(M:Uy K C ZZ):Mt P w K mg base C 1 "take_run" bu (bX C):=
 sU (k:=0) M.D8 rfl M.k8 (jH (C:=C) (es:=[]) (Ss:=[]) (gn:=[]) (Gs:=[]) Z trivial trivial rfl) (λa P R h=>by obtain⟨_,_,_,_,_,_,rfl,_⟩:=h;rfl) rJ
include Z in
private theorem TM(M:Uy K C ZZ):Mt P w K mg base C 1 "take_run" L5 (bX C):=
 sU (k:=0) M.D8 rfl M.k9 (jH (C:=C) (es:=[]) (Ss:=[]) (gn:=[]) (Gs:=[]) Z trivial trivial rfl) (λa P R h=>by obtain⟨_,_,_,_,_,_,rfl,_⟩:=h;rfl) rJ
include Z g M hw in
private theorem X0:Mt P w K mg base C 2 "take_exponent" bu (Lz C):=
 sU (k:=1) M.D5 rfl M.k5 (jH (C:=C) (es:=[("whole_number",.s,false),("take_run",bu,true)]) (Ss:=[bU,bX C]) (gn:=["FIGURES","MOST_EXPONENT_FIGURES","MOST_EXPONENT"]) (Gs:=[.str "0123456789",.int 2,.int 12]) Z ⟨hw,HC Z M,trivial⟩ ⟨g.fg,g.ef,g.ex,trivial⟩ rfl) (λa P R h=>by obtain⟨_,_,_,_,_,rfl,_⟩:=h;rfl) oG
private theorem mF(ws:List W)(P:W->Prop)(R:Addr->Prop)(h:cu b d a C ws P R):ws.length=1:=by obtain⟨_,_,_,_,_,_,rfl,_⟩:=h;rfl
include Z g M hw in
private theorem HD(a:1<=k)(b:Mt P w K mg base C k "take_brackets" bu (Td d C)):Mt P w K mg base C (k+1) "take_atom" bu (cu 3 d st3 C):=
 sU (k:=k) M.D6 rfl M.k6 (jH (C:=C) (es:=[("follows",bu,true),("take_brackets",bu,true),("take_run",bu,true),("whole_number",.s,false),("take_run",L5,true)]) (Ss:=[bS C,Td d C,bX C,bU,bX C]) (gn:=["LETTERS","FIGURES","MOST_FIGURES","MOST_LETTERS"]) (Gs:=[.str "abcdefghijklmnopqrstuvwxyz",.str "0123456789",.int 30,.int 8]) Z ⟨(iy Z M).up a,b,(HC Z M).up a,hw.up a,(TM Z M).up a,trivial⟩ ⟨g.lt,g.fg,g.fi,g.le,trivial⟩ rfl) mF xS
include Z g M hw in
private theorem HE:∀d:Nat,Mt P w K mg base C (3+5*d) "take_atom" bu (cu 3 d st3 C)->Mt P w K mg base C (6+5*d) "take_sum" bu (cu 0 d CZ C):=λd c=>by
 have b:Mt P w K mg base C (4+5*d) "take_factor" bu (cu 2 d st2 C):=by rw[show 4+5*d=(3+5*d)+1 by lia];exact sU (k:=3+5*d) M.D4 rfl M.k4 (jH (C:=C) (es:=[("take_run",bu,true),("take_atom",bu,true),("follows",bu,true),("take_exponent",bu,true)]) (Ss:=[bX C,cu 3 d st3 C,bS C,Lz C]) (gn:=["MOST_MINUSES"]) (Gs:=[.int 30]) Z ⟨(HC Z M).up (by lia),c,(iy Z M).up (by omega),(X0 Z g M hw).up (by lia),trivial⟩ ⟨g.mi,trivial⟩ rfl) mF sR
 have a:Mt P w K mg base C (5+5*d) "take_term" bu (cu 1 d st1 C):=by rw[show 5+5*d=(4+5*d)+1 by lia];exact sU (k:=4+5*d) M.D2 rfl M.k2 (jH (C:=C) (es:=[("take_factor",bu,true),("follows",bu,true),("take_sign",bu,true)]) (Ss:=[cu 2 d st2 C,bS C,cH C]) (gn:=[]) (Gs:=[]) Z ⟨b,(iy Z M).up (by lia),(HB Z M).up (by omega),trivial⟩ trivial rfl) mF xR
 rw[show 6+5*d=(5+5*d)+1 by lia];exact sU (k:=5+5*d) M.D1 rfl M.k1 (jH (C:=C) (es:=[("take_term",bu,true),("follows",bu,true),("take_sign",bu,true)]) (Ss:=[cu 1 d st1 C,bS C,cH C]) (gn:=[]) (Gs:=[]) Z ⟨a,(iy Z M).up (by lia),(HB Z M).up (by omega),trivial⟩ trivial rfl) mF zF
include Z g M hw in
private theorem BB:∀d:Nat,Mt P w K mg base C (3+5*d) "take_atom" bu (cu 3 d st3 C)
 |0=>HD Z g M hw (d:=0) (k:=2) (by omega) (XX M.D7)
 |d+1=>by
  have hs:=HE Z g M hw d (BB d);have a:Mt P w K mg base C (7+5*d) "take_brackets" bu (S9 d C):=by rw[show 7+5*d=(6+5*d)+1 by lia];exact sU (k:=6+5*d) M.D7 rfl M.k7 (jH (C:=C) (es:=[("take_sum",bu,true),("follows",bu,true)]) (Ss:=[cu 0 d CZ C,bS C]) (gn:=["MOST_BRACKETS"]) (Gs:=[.int 30]) Z ⟨hs,(iy Z M).up (by lia),trivial⟩ ⟨g.bk,trivial⟩ rfl) (λb P R h=>by obtain⟨_,_,_,_,_,_,rfl,_⟩:=h;rfl) oF
  rw[show 3+5*(d+1)=(7+5*d)+1 by lia];exact HD Z g M hw (by lia) a
include Z g M hw in
private theorem X3(d:Nat):Mt P w K mg base C (6+5*d) "take_sum" bu (cu 0 d CZ C):=HE Z g M hw d (BB Z g M hw d)
end
end
noncomputable def tc(k:Nat):List Nat:=120::(A0 k [32,45,32,49]).flatten
private theorem L6(k:Nat):tc (k+1)=tc k++[32,45,32,49]:=by unfold tc;rw[cg,List.flatten_append];simp
noncomputable def ch:Nat->Tr
 |0=>.nm [120]
 |k+1=>.op 45 (ch k) (.nu 1)
private theorem L7:nB [120]:=⟨by decide,by decide,λc a=>by rw[Dx.mp a];exact⟨by decide,by decide⟩⟩
private theorem X4:∀k,G 0 1 (tc k) (stp (ch k))
 |0=>(G.name L7.1 L7.2.1 L7.2.2).SW.GU.up1
 |k+1=>by
  have g:=X4 k;have a:G 1 1 [49] [GR 1]:=by have:=(G.num (d:=1) (n:=1) (by decide)).SW.GU;rw[show dg 1=[49] by decide+kernel]at this;exact this
  rw[L6];show G 0 1 _ (stp (ch k)++([GR 1]++[Bc 45]));generalize tc k=s at g⊢;generalize stp (ch k)=e at g⊢;cases g with
  |sum c b=>have:=G.sum c (G.Nx (o:=45) (.inr rfl) a b);simpa using this
private theorem NP:∀k,pL (ch k)/\sz (ch k)=2*k+1/\jf (ch k)=21+2*k
 |0=>⟨L7,rfl,rfl⟩
 |k+1=>by
  obtain⟨a,c,b⟩:=NP k;refine⟨⟨.inr (.inl rfl),a,by show 1<10^30;decide⟩,?_,?_⟩
  .show sz (ch k)+1+1=_;lia
  .show jf (ch k)+(lg 1+1)+Bq 45=_;have e:lg 1=0:=by decide+kernel
   have d:Bq 45=1:=rfl;lia
private theorem X5(q:Rat):∀k:Nat,vT [([120],q)] (ch k)=some (q -(k:Rat))
 |0=>by
  show v7 [([120],q)] [120]=_;have:q -((0:Nat):Rat)=q:=by grind
  rw[this];rfl
 |k+1=>by show(vT [([120],q)] (ch k)).bind _=_;rw[X5 q k];show jn 45 (q -(k:Rat)) ((1:Nat):Rat)=_;unfold jn;rw[B1 (by decide),BM rfl];refine IR some ?_;rw[Rat.natCast_add];grind
private theorem aaE(s:Int)(k:Nat):As (s -3*(k:Int)) 3=As s 3 -(k:Rat):=by rw[el,el,Rat.intCast_sub,Rat.intCast_mul,Rat.intCast_natCast];grind
noncomputable def ya:List CS:=[.set 8 (.call 0 [(.var 0),(.var 7),(.int 5)]),.set 9 (.call 5 [(.var 8),(.var 2)]),.iff (.and [(.cmp .Eq (.bin .Mod (.ix (.var 8) (.int 3)) (.int 4)) (.int 0)),(.cmp .NotEq (.var 2) (.lst []))]) [.Ws 9 (.ix (.var 2) (.bin .Mod (.ix (.var 8) (.int 4)) (.blt .len [(.var 2)])))] [],.iff (.cmp .Eq (.bin .Mod (.ix (.var 8) (.int 3)) (.int 4)) (.int 1)) [.Uo 9 (.str "zqzqz") (.tup [(.int 7),(.int 3)])] [],.Px [9] [.app 6 (.var 9),.iff (.not (.call 6 [(.var 5),(.var 4),(.var 9)])) [.ret (.bl false)] []]]
noncomputable def vR:List CS:=[.set 1 (.call 0 [(.var 0),(.int 0),(.int 3)]),.set 2 (.call 1 [(.call 0 [(.var 0),(.int 1),(.bin .Mod (.ix (.var 1) (.int 0)) (.int 4))])]),.set 3 (.ix (.lst [(.int 12),(.int 5)]) (.blt .int [(.cmp .Gt (.blt .len [(.var 2)]) (.int 1))])),.set 4 (.call 2 [(.call 0 [(.var 0),(.int 2),(.bin .Add (.int 2) (.bin .Mod (.ix (.var 1) (.int 1)) (.int 13)))]),(.var 2),(.var 3)]),.set 5 (.call 3 [(.call 4 [(.var 4)])]),.set 6 (.lst []),.fr [7] true (.pT [(.int 3),(.int 9)]) ya,.set 10 (.tup [(.bin .Add (.str "x") (.bin .Mult (.str " - 1") (.bin .Mod (.ix (.var 1) (.int 2)) (.int 241)))),(.Ui "x" (.call 7 [(.ix (.var 1) (.int 2)),(.int 3)]))]),.set 11 (.call 7 [(.bin .Sub (.ix (.var 1) (.int 2)) (.bin .Mult (.int 3) (.bin .Mod (.ix (.var 1) (.int 2)) (.int 241)))),(.int 3)]),.ret (.and [(.call 8 [(.yR 0 9 (.call 3 [(.ix (.var 10) (.int 0))]) [(.ix (.var 10) (.int 1))]),(.var 11)]),(.call 6 [(.var 5),(.var 4),(.ix (.var 6) (.int 0))])])]
abbrev aaF(CE E:Addr):List aT:=[LC,LD,vG,Bo 28 CE,zK 27,vN,jI CE,gC,x9,C5 CE E]
private theorem L8{CE E:Addr}(ws:List W)(Q:W->Prop)(R:Addr->Prop)(h:SG ws Q R):wSs (bg (aaF CE E)) (bI [.cls CE]) vR (aU m Q R) (au 12 ws):=by
 obtain⟨v,rfl,hl,hq⟩:=h;show wSs _ _ vR _ [some (.eE v),none,none,none,none,none,none,none,none,none,none,none];unfold vR;refine aH (λg=>∃sh:List Int,(sh.length=3/\∀x∈sh,0<=x/\x<1000000)/\g=[some (.eE v),some (wI sh),none,none,none,none,none,none,none,none,none,none]) (λN t=>?_) ?_
 .fin2;exact⟨v,0,3,rfl,by decide,λs a b=>t _ ⟨s,⟨a,b⟩,rfl⟩⟩
 rintro _ ⟨sh,⟨l3,p3⟩,rfl⟩;obtain⟨B,A,o,rfl⟩:∃a b c,sh=[a,b,c]:=by
  match sh,l3 with
  |[a,b,c],_=>exact⟨a,b,c,rfl⟩
 have hs2:=p3 o (by simp);refine aH (λg=>∃s:List (List Nat),(s.length<=3/\∀x∈s,nB x)/\g=[some (.eE v),some (wI [B,A,o]),some (.lst (s.map wX)),none,none,none,none,none,none,none,none,none]) (λN t=>?_) ?_
 .have f:=fm (x:=B) (n:=4) (by decide);obtain⟨j,L⟩:=Ki f.1;unfold wI;fin2;refine⟨_,rfl,?_⟩;fin2;refine⟨by decide,?_⟩;rw[L];exact⟨v,1,j,rfl,by omega,λs a b=>⟨s,rfl,by omega,b,λys c d=>t _ ⟨ys,⟨by lia,d⟩,rfl⟩⟩⟩
 rintro _ ⟨s,⟨lx,px⟩,rfl⟩;refine aH (λg=>∃k:Int,(0<=k/\k<=12)/\g=[some (.eE v),some (wI [B,A,o]),some (.lst (s.map wX)),some (.int k),none,none,none,none,none,none,none,none]) (λN t=>?_) ?_
 .fin2;refine⟨VL.s2,?_⟩;split
  .exact⟨.int 5,rfl,t _ ⟨5,by lia,rfl⟩⟩
  .exact⟨.int 12,rfl,t _ ⟨12,by omega,rfl⟩⟩
 rintro _ ⟨k,hk,rfl⟩;refine aH (λg=>∃T:Tr,(pL T/\sz T<=27/\jf T<=6000)/\g=[some (.eE v),some (wI [B,A,o]),some (.lst (s.map wX)),some (.int k),some (wt T),none,none,none,none,none,none,none]) (λN t=>?_) ?_
 .have f:=fm (x:=A) (n:=13) (by decide);obtain⟨j,L⟩:=Ki f.1;unfold wI;fin2;refine⟨_,rfl,?_⟩;fin2;refine⟨by decide,?_⟩;rw[L];refine⟨v,2,2+j,rfl,by omega,λC a b=>⟨C,s,k,rfl,⟨by lia,by lia⟩,b,lx,px,hk,λT c d e=>t _ ⟨T,⟨c,d,by lia⟩,rfl⟩⟩⟩
 rintro _ ⟨T,⟨Y,Bu,YJ⟩,rfl⟩;have rdT:=rd T Y (by lia);have oH:=iV T Y;have gT:G 0 28 (txt T) (stp T):=rdT.g0.mono (by lia);have X6:∀(l:Pt)(Q':W->Prop)(R':Addr->Prop),rM l->Q' (.bl true)->jI CE [Ex CE (stp T),wt T,dJ l] Q' R':=λl Q' R' Z h2=>⟨T,l,rfl,Y,YJ,Bu,Z,h2⟩;refine aH (λg=>g=[some (.eE v),some (wI [B,A,o]),some (.lst (s.map wX)),some (.int k),some (wt T),some (Ex CE (stp T)),none,none,none,none,none,none]) (λN t=>?_) ?_
 .fin2;exact⟨T,rfl,Y,Bu,Bu,txt T,stp T,rfl,gT,by decide,by lia,t _ rfl⟩
 rintro _ rfl;refine aH (λg=>g=[some (.eE v),some (wI [B,A,o]),some (.lst (s.map wX)),some (.int k),some (wt T),some (Ex CE (stp T)),some (.lst []),none,none,none,none,none]) (λN t=>?_) ?_
 .fin2;exact⟨ay (by show 0<=1000;decide),t _ rfl⟩
 rintro _ rfl;refine aH (λg=>∃(u:List Pt)(H F:Option W),(u.length=6/\∀l∈u,rM l)/\g=[some (.eE v),some (wI [B,A,o]),some (.lst (s.map wX)),some (.int k),some (wt T),some (Ex CE (stp T)),some (.lst (u.map dJ)),H,F,none,none,none]) (λN t=>?_) ?_
 .refine rK (l:=fh 3 1 6) (λQ hq=>?_) ?_
  .show wE _ _ _ _ _ _;exact⟨⟨by decide,by decide,by decide,by decide⟩,hq⟩
  refine gy (λi ε=>∃(u:List Pt)(H F:Option W),(u.length=i/\∀l∈u,rM l)/\ε=[some (.eE v),some (wI [B,A,o]),some (.lst (s.map wX)),some (.int k),some (wt T),some (Ex CE (stp T)),some (.lst (u.map dJ)),H,F,none,none,none]) ⟨[],none,none,⟨rfl,λl hl=>by cases hl⟩,rfl⟩ ?_ ?_
  .rintro i w _ N1 K ⟨u,H,F,⟨hli,J⟩,rfl⟩ zy;have li:=(Fk.mp K).1;rw[Lo]at li;obtain rfl:w=.int ((3+i:Nat):Int):=by unfold fh at K;rw[GM,ar li]at K;have K:some (W.int (3+(i:Int)*1))=some w:=K;rw[<-Fs K,show(3+(i:Int)*1)=((3+i:Nat):Int) by lia]
   unfold ya;refine aH (λg=>∃C:List Int,(C.length=5/\∀x∈C,0<=x/\x<1000000)/\g=[some (.eE v),some (wI [B,A,o]),some (.lst (s.map wX)),some (.int k),some (wt T),some (Ex CE (stp T)),some (.lst (u.map dJ)),some (.int ((3+i:Nat):Int)),some (wI C),none,none,none]) (λN t=>?_) ?_
   .fin2;exact⟨v,3+i,5,rfl,by decide,λC a b=>t _ ⟨C,⟨a,b⟩,rfl⟩⟩
   rintro _ ⟨C,⟨l5,p5⟩,rfl⟩;refine aH (λg=>∃l:Pt,(rM l/\l.length<=3/\∀x∈s,∃p∈l,p.1=x)/\g=[some (.eE v),some (wI [B,A,o]),some (.lst (s.map wX)),some (.int k),some (wt T),some (Ex CE (stp T)),some (.lst (u.map dJ)),some (.int ((3+i:Nat):Int)),some (wI C),some (dJ l),none,none]) (λN t=>?_) ?_
   .fin2;exact⟨C,s,rfl,l5,p5,lx,λl a b c=>t _ ⟨l,⟨a,b,c⟩,rfl⟩⟩
   rintro _ ⟨l,⟨D,M,aaG⟩,rfl⟩;obtain⟨n0,n1,n2,n3,U,rfl⟩:∃a b c d e,C=[a,b,c,d,e]:=by
    match C,l5 with
    |[a,b,c,d,e],_=>exact⟨a,b,c,d,e,rfl⟩
   refine aH (λg=>∃l:Pt,(rM l/\l.length<=3)/\g=[some (.eE v),some (wI [B,A,o]),some (.lst (s.map wX)),some (.int k),some (wt T),some (Ex CE (stp T)),some (.lst (u.map dJ)),some (.int ((3+i:Nat):Int)),some (wI [n0,n1,n2,n3,U]),some (dJ l),none,none]) (λN t=>?_) ?_
   .unfold wI;fin2;refine⟨_,rfl,?_⟩;fin2;refine⟨by decide,?_⟩;split;rotate_left
    .exact t _ ⟨l,⟨D,M⟩,rfl⟩
    refine⟨ay (by show 0<=1000;decide),.inl ⟨XH px,rfl⟩,λkk P=>?_⟩;cases kk with
    |true=>exact t _ ⟨l,⟨D,M⟩,rfl⟩
    |false=>
     have ne:s≠[]:=λz=>by rw[z]at P;have:=P.mpr rfl;cases this
     have lp:0<s.length:=Tb.mpr ne;have f:=fm (x:=U) (n:=((s.map wX).length:Nat)) (by rw[FK];lia);obtain⟨j,L⟩:=Ki f.1;have lj:j<s.length:=by have:=f.2;rw[L,FK]at this;omega
     refine⟨_,rfl,?_⟩;fin2;refine⟨by rw[FK];lia,wX s[j],?_,?_⟩
     .rw[L];exact cU (by rw[GM,Da lj];rfl)
     obtain⟨q,eq⟩:=LI (aaG _ (Mo lj));obtain⟨I,S⟩:=G8 s[j] l;refine⟨⟨wq q,by rw[jY,eq];rfl⟩,?_⟩;rw[I,S];exact t _ ⟨l.filter λp=>decide (p.1≠s[j]),⟨λp hp=>D p (P2.mp hp).1,FV (ae _ _) M⟩,rfl⟩
   rintro _ ⟨l,⟨D,M⟩,rfl⟩;refine aH (λg=>∃l:Pt,rM l/\g=[some (.eE v),some (wI [B,A,o]),some (.lst (s.map wX)),some (.int k),some (wt T),some (Ex CE (stp T)),some (.lst (u.map dJ)),some (.int ((3+i:Nat):Int)),some (wI [n0,n1,n2,n3,U]),some (dJ l),none,none]) (λN t=>?_) ?_
   .unfold wI;fin2;refine⟨_,rfl,?_⟩;fin2;refine⟨by decide,?_⟩;split;rotate_left
    .exact t _ ⟨l,D,rfl⟩
    refine⟨s2,by rw[Hz];exact Kj (m:=3) M (by decide),?_⟩;have ez:("zqzqz":Str)=tx [122,113,122,113,122]:=by decide+kernel
    have ew:W.tup [.int 7,.int 3]=wq (As 7 3):=by
     have I:(As 7 3).num=7:=by decide+kernel
     have S:(As 7 3).den=3:=by decide+kernel
     unfold wq;rw[I,S];rfl
    rw[ez,ew];obtain⟨I,S⟩:=G7 l [122,113,122,113,122] (As 7 3);rw[I,S];exact t _ ⟨_,D.put (rW (by decide) (by decide) (by decide)),rfl⟩
   rintro _ ⟨l,D,rfl⟩;fin2;refine⟨Kj (m:=10) (by rw[FK];lia) (by decide),X6 l _ _ D ?_⟩;refine zy _ ⟨u++[l],some (.int ((3+i:Nat):Int)),some (wI [n0,n1,n2,n3,U]),⟨by rw[DL,hli];rfl,λy O=>?_⟩,?_⟩
   .rcases Fu.mp O with O|O
    .exact J y O
    .rw[Dx.mp O];exact D
   .rw[Kk];rfl
  .rintro _ ⟨u,H,F,⟨Z,h2⟩,rfl⟩;rw[Lo]at Z;exact t _ ⟨u,H,F,⟨Z,h2⟩,rfl⟩
 rintro _ ⟨u,H,F,⟨h6,J⟩,rfl⟩;have TN:=fm (x:=o) (n:=241) (by decide);obtain⟨c,X⟩:=Ki TN.1;have aaH:c<=240:=by have:=TN.2;rw[X]at this;omega
 obtain⟨hoc,hsc,hbc⟩:=NP c;have tcl:(tc c).length=1+4*c:=by unfold tc;simp;lia
 refine aH (λg=>g=[some (.eE v),some (wI [B,A,o]),some (.lst (s.map wX)),some (.int k),some (wt T),some (Ex CE (stp T)),some (.lst (u.map dJ)),H,F,none,some (.tup [wX (tc c),dJ [([120],As o 3)]]),none]) (λN t=>?_) ?_
 .have ex:("x":Str)=tx [120]:=by decide+kernel
  have I:(" - 1":Str)=tx [32,45,32,49]:=by decide+kernel
  rw[ex,I];unfold wI;fin2;refine⟨_,rfl,?_⟩;fin2;refine⟨by decide,?_⟩;rw[X];refine⟨⟨by clear I ex tcl hbc hsc aaH X TN h6 oH YJ Bu hk lx hs2 l3 hl;lia,by omega⟩,by show 4<=1000;decide,?_⟩;rw[LA];refine⟨FV (m:=2000) (by show 1+((A0 c [32,45,32,49]).flatten).length<=2000;simp;lia) (by decide),_,rfl,o,3,21,rfl,by decide,by decide,by decide,rfl,s2,?_⟩;rw[eX];exact t _ rfl
 rintro _ rfl;refine aH (λg=>g=[some (.eE v),some (wI [B,A,o]),some (.lst (s.map wX)),some (.int k),some (wt T),some (Ex CE (stp T)),some (.lst (u.map dJ)),H,F,none,some (.tup [wX (tc c),dJ [([120],As o 3)]]),some (wq (As o 3 -(c:Rat)))]) (λN t=>?_) ?_
 .unfold wI;fin2;refine⟨_,rfl,_,rfl,?_⟩;fin2;refine⟨by decide,?_⟩;rw[X];refine⟨aZ (n:=2) (m:=8) (by decide) (by omega) (by decide),_,3,21,rfl,by decide,by decide,by decide,?_⟩;rw[aaE];exact t _ rfl
 rintro _ rfl;have pq:rM [([120],As o 3)]:=λp hp=>by rw[Dx.mp hp];exact rW (by decide) (by lia) (by decide)
 have vc:=X5 (As o 3) c;fin2;refine⟨_,rfl,tc c,stp (ch c),rfl,(X4 c).mono (by decide),by decide,by lia,?_⟩;refine⟨rfl,_,rfl,ch c,[([120],As o 3)],rfl,hoc,by lia,by lia,pq,λz=>nn (z.symm.trans vc),λq z=>?_⟩;rw[vc]at z;cases z;refine⟨_,rfl,?_⟩;obtain⟨l0,Ls',rfl⟩:∃a r,u=a::r:=by
  cases u with
  |nil=>cases h6
  |cons a r=>exact⟨a,r,rfl⟩
 fin2;exact⟨dJ l0,fq,X6 l0 _ _ (J l0 Ap) hq⟩
section
variable{P:Program}{w:World}{K:Frag}{mg:Str->Option Value}{base:Heap}{tp:Nat->Stmt}{DD:DT}{ZZ:List Str}
private theorem HF(T:TT K mg tp DD ZZ)(b:DD[j]?=some (x,i))(a:np=(kQ (tp i)).length)(c:∀ws Q R,¬S ws Q R):Cl P w K mg base DD k j .s S:=by have:S=SI:=funext λws=>funext λQ=>funext λR=>propext ⟨λz=>(c _ _ _ z).elim,λz=>z.elim⟩;rw[this];exact GW T b a
private theorem ok2{a b k:Nat}(e:a<=k)(d:b<=k)(h:c=true):((decide (a<=k)&&(decide (b<=k)&&true))&&c)=true:=by rw[Bz e,Bz d,h];rfl
private theorem HG(T:TT K mg tp DD ZZ)(a:DD[jt]?=some (i,e))(b:DD[ji]?=some (j,f))(c:Cl P w K mg base DD 1 jb .s kR)(d:C2 ZZ (tp e) 1 2 [] [yj DD ji,yj DD jb] [] [.s,.s] [] .s vI=true)(g:C2 ZZ (tp f) 2 2 [] [yj DD jb,yj DD jt] [] [.s,.s] [] .s pP=true):∀n,Cl P w K mg base DD (1+2*n) jt .s (zK n)
 |0=>HF T a (zD d) λws Q R h=>by obtain⟨X,_,_,o,_⟩:=h;have:=fN X;lia
 |n+1=>by have l:=HG T a b c d g n;have m:Cl P w K mg base DD (1+2*n+1) ji .s (LO n):=ny (k:=1+2*n) (Ss:=[kR,zK n]) T b 2 [] [(jb,.s,1),(jt,.s,1+2*n)] LP ⟨c,l,trivial⟩ (ok2 (by show 1<=_;lia) (BY _) g) (λws P R h=>by obtain⟨_,_,rfl,_⟩:=h;rfl);exact ny (k:=1+2*n+1) (Ss:=[LO n,kR]) T a 1 [] [(ji,.s,1+2*n+1),(jb,.s,1)] To ⟨m,c,trivial⟩ (ok2 (BY _) (by show 1<=_;lia) d) (λws P R h=>by obtain⟨_,rfl,_⟩:=h;rfl)
end
section
variable{P:Program}{w:World}{K:Frag}{mg:Str->Option Value}{base:Heap}{ZZ:List Str}{k n:Nat}
private theorem Ma{st:Stmt}(Z:∀x∈ZZ,mg x=none)(v:Cn P w K mg base k b .s m)(u:Cn P w K mg base k a .s l)(g:Ij K mg [b,a] [d,c])(t:lY P w K mg base k st q y n f)(r:∀ws P R,f ws P R->ws.length=n+1):
 Tab P w K mg base [b,a] [b,a] ZZ [.s,.s] [] (bg [m,l,f]) (bI [d,c,.j4 st q y .aN]) k:=by
 have i:∀(j:Nat)(x:Str),([b,a]:List Str)[j]?=some x->bI [d,c,.j4 st q y .aN] j=bI [d,c] j:=λj x e=>by
  match j,e with
  |0,_=>rfl
  |1,_=>rfl
 refine⟨λj x e _=>?_,λ_ _ _ _ h=>(by cases h),λj x e=>?_,Z,rq K,λj x C e q=>?_,λj s2 p o e z=>?_⟩
 .match j,e with
  |0,e=>cases e;exact v
  |1,e=>cases e;exact u
 .rw[i j x e];exact(jF g j x e).1
 .rw[i j x e]at q;exact(jF g j x e).2 C q
 .match j,e,z with
  |2,_,z=>have z:W.j4 st q y .aN=.j4 s2 p o .aN:=z;cases z;exact⟨n,k,t,BY _,r⟩
  |j+3,_,z=>cases z
private theorem lY.up{st:Stmt}(h:lY P w K mg base k st q y n S)(i:k<=b):lY P w K mg base b st q y n S:=λA a s H e d Q E v f j c l R g=>h A a s H e d Q E v f j c l R (g.mono i)
private theorem NQ(T:TT K mg b DD ZZ)(a:DD[j]?=some (x,i))(c:Cl P w K mg base DD k0 jw .s gC)(e:C2 ZZ (b i) 2 7 [] [yj DD j,yj DD jw] [] [.s,.s] [] .s zQ=true):∀n,Cl P w K mg base DD (k0+1+n) j .s (DJ n)
 |0=>HF T a (zD e) λws Q R h=>by obtain⟨X,_,_,_,d,_⟩:=h;have:=fN X;lia
 |n+1=>ny (k:=k0+1+n) (Ss:=[DJ n,gC]) T a 2 [] [(j,.s,k0+1+n),(jw,.s,k0)] aax ⟨NQ T a c e n,c,trivial⟩ (ok2 (BY _) (by show k0<=_;lia) e) (λws P R h=>by obtain⟨_,_,rfl,_⟩:=h;rfl)
end
def HmN(K:Frag)(C:Addr)(x q:Str)(st:Stmt):Prop:=∃(f a:Addr)(d i:Option Addr)(b:Array (Option Value))(e kV g c h:Value),
 findIn K (.ref C) x=some (some (.ref f))/\isFn K (.ref f)=true/\K.lookup f=some ⟨e,d,.func (fnOf x q (aV st) (aF st) (af st) .none kV g c i (.ref a) h),b⟩/\codeIn K (.ref a) q=true/\keepIn K (.ref f)=true/\(tabAt K a).isSome=true
def NsT(K:Frag)(x q:Str)(st:Stmt)(f:Addr)(j:FuncData):Prop:=∃(a k:Addr)(h e:Option Addr)(g:Array (Option Value))(i kV c b d:Value),
 j=fnOf x q (aV st) (aF st) (af st) .none kV c b e (.ref a) d/\K.lookup f=some ⟨i,h,.func (fnOf x q (aV st) (aF st) (af st) .none kV c b e (.ref a) d),g⟩/\codeIn K (.ref a) q=true/\tabAt K a=some k
private theorem TQ{K:Frag}{st:Stmt}(hd:HmN K C x q st)(b:gx x q st ps):∃f d,Dm K C x q st ps f d/\NsT K x q st f d:=by obtain⟨f,o,h,p,e,j,kV,m,g,n,a,i,l,c,k,t⟩:=hd;have F:=yI (st:=st) l c k;obtain⟨r,t⟩:=Os.mp t;exact⟨f,_,⟨F,⟨a,i,k⟩,F.binds b⟩,o,r,h,p,e,j,kV,m,g,n,rfl,l,c,t⟩
private theorem TR{K:Frag}{st:Stmt}{b:Array (Option Value)}{g kV h d j:Value}(a:findIn K (.ref C) x=some (some (.ref f)))(i:isFn K (.ref f)=true)(l:K.lookup f=some ⟨g,e,.func (fnOf x q (aV st) (aF st) (af st) .none kV h d m (.ref cA) j),b⟩)(c:codeIn K (.ref cA) q=true)(k:keepIn K (.ref f)=true)(t:(tabAt K cA).isSome=true):HmN K C x q st:=⟨f,cA,e,m,b,g,kV,h,d,j,a,i,l,c,k,t⟩
end VL
namespace Mb
open PySem PySem.Spec
open PyProof.Rows hiding St
open L2 VL Num
set_option genInjectivity false
set_option genSizeOf false
noncomputable def top(i:Nat):Stmt:=PySem.Challenge.pw_paperwright_k19_values_of_expressions.main.body.getD i (.Pass ⟨0,0,0,0⟩)
abbrev en(x:Str)(i:Nat):Str×Nat:=(x,i)
abbrev DD:DT:=[en "gcd" 13,en "turn" 14,en "plain_turn" 15,en "turned" 16,en "upright" 17,en "joined_turns" 18,en "raised" 19,en "plus" 21,en "negated" 22,en "minus" 23,en "times" 24,en "over" 25,en "power" 26,en "number_at" 28,en "walked" 31,en "lone_value" 32,en "joint_value" 33,en "read" 44,en "whole_number" 46,en "_law_numbers" 48,en "_law_names" 49,en "_law_leaf" 50,en "_law_joined" 51,en "_law_fits" 52,en "_law_step" 53,en "_law_grown" 54,en "_law_binds" 55,en "_law_inner" 56,en "_law_text" 57,en "_law_share" 58,en "_law_lowest" 59,en "_law_value" 60,en "_law_point" 61,en "_law_is" 62,en "_law_kinds" 63,en "_law_asked" 64,en "_law_right" 65,en "law" 66]
abbrev ZZ:List Str:=["ValueError","abs","all","bool","dict","int","isinstance","len","max","range","str","tuple"]
abbrev cV:Stmt:=inClass (top 30) 0
abbrev bJ:Stmt:=inClass (top 30) 1
abbrev fO:Stmt:=inClass (top 45) 0
abbrev d9:Stmt:=inClass (top 45) 1
abbrev dM:Stmt:=inClass (top 45) 2
abbrev cW:Stmt:=inClass (top 45) 3
abbrev cX:Stmt:=inClass (top 45) 4
abbrev cI:Stmt:=inClass (top 45) 5
abbrev b7:Stmt:=inClass (top 45) 6
abbrev cY:Stmt:=inClass (top 45) 7
abbrev b8:Stmt:=inClass (top 45) 8
abbrev dN:Stmt:=inClass (top 45) 9
private theorem j7:ee ["self","steps"] ["self","steps"] (af cV):=⟨rfl,rfl,rfl,by decide+kernel,rfl,by decide+kernel,by decide+kernel⟩
private theorem oJ:ee ["self","text"] ["self","text"] (af fO):=⟨rfl,rfl,rfl,by decide+kernel,rfl,by decide+kernel,by decide+kernel⟩
structure Tx(K:Frag)(mg:Str->Option Value) extends TT K mg top DD ZZ where
 ao:Addr
 iz:Hc K mg "Reader" ao ["text","place","brackets","steps"]
 aj:Addr
 cM:Hc K mg "Expression" aj ["steps"]
 fR:Addr
 fS:FuncData
 b9:Dm K aj "__init__" "Expression.__init__" cV ["self","steps"] fR fS
 cZ:Addr
 dh:FuncData
 fT:Dm K aj "value" "Expression.value" bJ ["self","point"] cZ dh
 kU:NsT K "value" "Expression.value" bJ cZ dh
 jJ:Addr
 jK:FuncData
 dO:Dm K ao "__init__" "Reader.__init__" fO ["self","text"] jJ jK
 iA:Addr
 iB:FuncData
 nE:Dm K ao "follows" "Reader.follows" d9 ["self","signs"] iA iB
 gD:Addr
 gE:FuncData
 mG:Dm K ao "take_sum" "Reader.take_sum" dM ["self"] gD gE
 fU:Addr
 fV:FuncData
 kW:Dm K ao "take_term" "Reader.take_term" cW ["self"] fU fV
 fW:Addr
 fX:FuncData
 kX:Dm K ao "take_sign" "Reader.take_sign" cX ["self"] fW fX
 eU:Addr
 eV:FuncData
 jL:Dm K ao "take_factor" "Reader.take_factor" cI ["self"] eU eV
 dP:Addr
 dQ:FuncData
 iX:Dm K ao "take_exponent" "Reader.take_exponent" b7 ["self"] dP dQ
 fY:Addr
 fZ:FuncData
 kY:Dm K ao "take_atom" "Reader.take_atom" cY ["self"] fY fZ
 dR:Addr
 dS:FuncData
 iY:Dm K ao "take_brackets" "Reader.take_brackets" b8 ["self"] dR dS
 gF:Addr
 gG:FuncData
 mH:Dm K ao "take_run" "Reader.take_run" dN ["self","signs"] gF gG
 C7:∃u,mg "FIGURES"=some u/\RelV (.str "0123456789") u
 C8:∃u,mg "LETTERS"=some u/\RelV (.str "abcdefghijklmnopqrstuvwxyz") u
 vS:∃u,mg "MOST_SIGNS"=some u/\RelV (.int 1000) u
 oK:∃u,mg "MOST_BRACKETS"=some u/\RelV (.int 30) u
 rX:∃u,mg "MOST_MINUSES"=some u/\RelV (.int 30) u
 rY:∃u,mg "MOST_FIGURES"=some u/\RelV (.int 30) u
 rZ:∃u,mg "MOST_LETTERS"=some u/\RelV (.int 8) u
 iC:∃u,mg "MOST_EXPONENT_FIGURES"=some u/\RelV (.int 2) u
 oM:∃u,mg "MOST_EXPONENT"=some u/\RelV (.int 12) u
 TU:∃u,mg "LONG"=some u/\RelV (.int 6000) u
 aI:Addr
 mJ:mg "HouseError"=some (.ref aI)
 mK:qe K aI
 cJ:Addr
 r6:mg "NoNumber"=some (.ref cJ)
 ah:Addr
 nF:mg "NoValue"=some (.ref ah)
 fD:qe K ah
 f9:Addr
 HH:mg "NoText"=some (.ref f9)
 gc:Addr
 HJ:mg "NoRoot"=some (.ref gc)
 iZ:Addr
 Mc:mg "NoRow"=some (.ref iZ)
 gf:Addr
 HK:mg "TooFar"=some (.ref gf)
 gh:Addr
 HL:mg "NoLine"=some (.ref gh)
 gi:kitOne K (.ref ah) (.ref cJ)=some false
 mL:kitOne K (.ref ah) (.ref ah)=some true
 nG:kitOne K (.ref ah) (.ref f9)=some false
 nH:kitOne K (.ref ah) (.ref gc)=some false
 oN:kitOne K (.ref ah) (.ref iZ)=some false
 nI:kitOne K (.ref ah) (.ref gf)=some false
 nJ:kitOne K (.ref ah) (.ref gh)=some false
 eW:kitOne K (.ref ah) (.ref aI)=some true
 cK:kitOne K (.ref ah) (.type "ValueError")=some true
 bT:mroIn K ah (.ref aI)=some true
 dU:mroIn K ah (.ref ah)=some true
section
variable{P:Program}{w:World}{K:Frag}{mg:Str->Option Value}{base:Heap}
private theorem r8(T:Tx K mg):Cl P w K mg base DD 1 18 .s bU:=
 rE T.toTT rfl 2 [] rH (by decide+kernel) (by walk_at "l")
private theorem r9(T:Tx K mg):bL P w K mg base (eu P w) 1 T.jJ T.jK ["self","text"] (Nz T.ao):=by
 have i:=T.iz.ok.1;have f:=T.iz.ok.2.2.2;refine T.dO.F.Yl oJ (λn H Q E h=>?_) (λt A k s H n Q E u h=>?_)
 .obtain⟨x,c,p,rfl,_⟩:=h;rfl
 obtain⟨x,c,p,rfl,r,q⟩:=h;refine⟨_,(@jj _ _ _ _ _ (mT (pv 0) (pv 1) rfl) (@jj _ _ _ _ _ (mT (pv 0) uK rfl) (@jj _ _ _ _ _ (mT (pv 0) uK rfl) (jP (mT (pv 0) (yz bV) rfl))))),?_⟩;refine⟨_,rfl,_,rfl,x,T.ao,c,_,rfl,r,i,f "text" (by decide),by show 0<1000;decide,?_⟩;refine⟨_,rfl,x,T.ao,c,_,rfl,az,i,f "place" (by decide),by show 1<1000;decide,?_⟩;refine⟨_,rfl,x,T.ao,c,_,rfl,az,i,f "brackets" (by decide),by show 2<1000;decide,?_⟩;refine⟨t8 (by simp),λj a=>?_⟩;have d:j≠x:=λe=>by rw[e,az]at a;cases a
 refine⟨_,rfl,x,T.ao,c,_,rfl,wC az a,i,f "steps" (by decide),by show 3<1000;decide,?_⟩;rw[ak d,ak d,ak d]at a;refine q j _ (λb o g m=>?_) a ?_ az
 .have l:b≠j:=aD m a;rw[ak g,ak l,ak g,ak g,ak g];exact m
 .rw[ak d,az]
private theorem HM(T:Tx K mg):bW P w K mg base 2 (.ref T.ao) 1 (nY K 1 Bj (pJ T.ao)):=
 xT T.iz.ok ⟨T.iz.mks,T.dO.M.1,T.dO.M.fn,T.iz.kp⟩ T.dO.b (r9 T)
private theorem kZ(T:Tx K mg):bL P w K mg base (eu P w) 1 T.fR T.fS ["self","steps"] (NB T.aj):=by
 have u:=T.cM.ok.1;have n:=T.cM.ok.2.2.2;refine T.b9.F.Yl j7 (λl H Q E h=>?_) (λv A d s H l Q E y h=>?_)
 .obtain⟨x,k,p,g,rfl,_⟩:=h;rfl
 obtain⟨x,k,p,g,rfl,i,r,z,q⟩:=h;refine⟨_,jP (mT (pv 0) (mU sH (by rfl) (T.Z "tuple" (by decide)) (by rfl) (aS (pv 1) bV rfl)) rfl),?_⟩;refine⟨_,rfl,p,g,rfl,.inl ⟨.inl (.inl r),λc a=>?_⟩⟩;have m:c≠x:=λe=>by rw[e,i]at a;cases a
 refine⟨_,rfl,x,T.aj,k,_,rfl,wC i a,u,n "steps" (by decide),by show 0<1000;decide,?_⟩;refine q c _ (λb o t j=>?_) a ?_ az
 .have f:b≠c:=aD j a;rw[ak t,ak f];exact j
 .rw[ak m,az]
private theorem vU(T:Tx K mg):bW P w K mg base 2 (.ref T.aj) 1 (nY K 1 .s (Bm T.aj)):=
 C4 T.cM.ok ⟨T.cM.mks,T.b9.M.1,T.b9.M.fn,T.cM.kp⟩ T.b9.b (kZ T)
private theorem v_G(T:Tx K mg):RdG K mg:=⟨vQ T.C7 (λ_ _=>by dsimp only[Rep]) (λ_ e=>by cases e),vQ T.C8 (λ_ _=>by dsimp only[Rep]) (λ_ e=>by cases e),vQ T.vS (λ_ _=>by dsimp only[Rep]) (λ_ e=>by cases e),vQ T.oK (λ_ _=>by dsimp only[Rep]) (λ_ e=>by cases e),vQ T.rX (λ_ _=>by dsimp only[Rep]) (λ_ e=>by cases e),vQ T.rY (λ_ _=>by dsimp only[Rep]) (λ_ e=>by cases e),vQ T.rZ (λ_ _=>by dsimp only[Rep]) (λ_ e=>by cases e),vQ T.iC (λ_ _=>by dsimp only[Rep]) (λ_ e=>by cases e),vQ T.oM (λ_ _=>by dsimp only[Rep]) (λ_ e=>by cases e)⟩
noncomputable def rdM(T:Tx K mg):Uy K T.ao ZZ where
 s:=λi=>match i with|0=>d9|1=>dM|2=>cW|3=>cX|4=>cI|5=>b7|6=>cY|7=>b8|_=>dN
 f:=λi=>match i with|0=>T.iA|1=>T.gD|2=>T.fU|3=>T.fW|4=>T.eU|5=>T.dP|6=>T.fY|7=>T.dR|_=>T.gF
 d:=λi=>match i with|0=>T.iB|1=>T.gE|2=>T.fV|3=>T.fX|4=>T.eV|5=>T.dQ|6=>T.fZ|7=>T.dS|_=>T.gG
 D0:=T.nE
 D1:=T.mG
 D2:=T.kW
 D3:=T.kX
 D4:=T.jL
 D5:=T.iX
 D6:=T.kY
 D7:=T.iY
 D8:=T.mH
 k0:=by decide+kernel
 k1:=by decide+kernel
 k2:=by decide+kernel
 k3:=by decide+kernel
 k4:=by decide+kernel
 k5:=by decide+kernel
 k6:=by decide+kernel
 k7:=by decide+kernel
 k8:=by decide+kernel
 k9:=by decide+kernel
private theorem zV(T:Tx K mg):Mt P w K mg base T.ao 146 "take_sum" bu (cu 0 28 CZ T.ao):=X3 T.Z (v_G T) (rdM T) (iu (r8 T) (j:=18) rfl) 28
private theorem TV(T:Tx K mg):Cl P w K mg base DD 147 17 .s (Bo 28 T.aj):=
 Bh T.toTT rfl rfl (Tw (j:=17) (np:=1) (n:=2) (k:=146) (M:=[(1,Bj)]) (es:=[("Reader",Bj,false),("take_sum",bu,true),("Expression",.s,false)]) (Ss:=[pJ T.ao,cu 0 28 CZ T.ao,Bm T.aj]) (gn:=["MOST_SIGNS"]) (Gs:=[.int 1000]) T.toTT rfl ⟨⟨_,_,2,T.iz.c,HM T,by decide,by walk_at "l"⟩,zV T,⟨_,_,2,T.cM.c,vU T,by decide,by walk_at "l"⟩,trivial⟩ ⟨(v_G T).sg,trivial⟩ rfl (by decide+kernel) (by walk_at "l") Te) (by walk_at "l")
private theorem NR(T:Tx K mg):Cl P w K mg base DD 2 0 .s Ln:=
 zE (Ss:=[SI,SI]) T.toTT rfl 2 [] [(3,.s,1),(1,.s,1)] ["LONG"] Xv ⟨GW T.toTT rfl rfl,GW T.toTT rfl rfl,trivial⟩ ⟨SX T.TU,trivial⟩ (by decide+kernel) (by walk_at "l")
private theorem HN(T:Tx K mg):Cl P w K mg base DD 1 6 .s vq:=
 rE T.toTT rfl 2 [] GJ (by decide+kernel) (by walk_at "l")
private theorem HP(T:Tx K mg):Cl P w K mg base DD 3 7 .s Bb:=
 ny T.toTT rfl 2 [] [(0,.s,2)] SN ⟨NR T,trivial⟩ (by decide+kernel) (by walk_at "l")
private theorem uG(T:Tx K mg):Cl P w K mg base DD 1 8 .s mq:=
 rE T.toTT rfl 1 [] C0 (by decide+kernel) (by walk_at "l")
private theorem Me(T:Tx K mg):Cl P w K mg base DD 4 9 .s zM:=
 ny T.toTT rfl 2 [] [(7,.s,3),(8,.s,1)] LU ⟨HP T,uG T,trivial⟩ (by decide+kernel) (by walk_at "l")
private theorem BC(T:Tx K mg):Cl P w K mg base DD 3 10 .s rC:=
 ny T.toTT rfl 2 [] [(0,.s,2)] Lp ⟨NR T,trivial⟩ (by decide+kernel) (by walk_at "l")
private theorem TY(T:Tx K mg):Cl P w K mg base DD 4 11 .s GL:=
 zE (Gs:=[.gu T.cJ [] [T.ah]]) T.toTT rfl 2 [] [(10,.s,3)] ["NoNumber"] SM ⟨BC T,trivial⟩ ⟨(kT T.r6 T.gi),trivial⟩ (by decide+kernel) (by walk_at "l")
private theorem Mf(T:Tx K mg):Cl P w K mg base DD 2 12 .s Hj:=
 ny T.toTT rfl 2 [] [(6,.s,1)] LR ⟨HN T,trivial⟩ (by decide+kernel) (by walk_at "l")
private theorem yb(T:Tx K mg):Cl P w K mg base DD 1 13 .s (zL T.ah):=
 zE (Ss:=[]) T.toTT rfl 2 [] [] ["NoValue"] xY trivial ⟨GV T.nF T.fD,trivial⟩ (by decide+kernel) (by walk_at "l")
private theorem vV(T:Tx K mg):Cl P w K mg base DD 3 15 .s Bw:=
 ny T.toTT rfl 3 [] [(12,.s,2),(8,.s,1)] LS ⟨Mf T,uG T,trivial⟩ (by decide+kernel) (λa P R h=>by obtain⟨_,_,_,_,⟨_,_,rfl,_⟩|⟨rfl,_⟩⟩:=h<;>rfl)
private theorem sW(T:Tx K mg):Cl P w K mg base DD 5 16 .s (zN T.ah):=
 zE T.toTT rfl 3 [] [(7,.s,3),(9,.s,4),(10,.s,3),(11,.s,4)] ["NoValue"] Hl ⟨HP T,Me T,BC T,TY T,trivial⟩ ⟨GV T.nF T.fD,trivial⟩ (by decide+kernel) (by walk_at "l")
abbrev stL:Stmt:=(aF bJ).headD (.Pass ⟨0,0,0,0⟩)
abbrev qnL:Str:="Expression.value.<locals>.leaf_value"
private theorem X7(T:Tx K mg):lY P w K mg base 2 stL qnL "point" 2 (rT T.ah):=
 Hv (k:=1) ⟨rfl,rfl,rfl,by decide+kernel,by decide+kernel,by decide+kernel,by decide+kernel,by decide+kernel⟩ (λh i g kd l c f e=>by obtain⟨n,o,rfl,b⟩:=oB e;obtain⟨m,d,rfl,a⟩:=oB b;cases Kb.mp a;rfl) rfl (by decide+kernel) (iu (yb T) (j:=13) rfl)
private theorem scV:ee ["self","point","leaf_value"] ["self","point"] (af bJ):=⟨rfl,rfl,rfl,by decide+kernel,rfl,by decide+kernel,by decide+kernel⟩
private theorem HQ(T:Tx K mg):bL P w K mg base (eu P w) 6 (T.f 14) (T.d 14) ["steps","leaf","lone","joint"] (nY K 4 .s (Tv stL qnL (T.f 15) (T.f 16) T.ah)):=
 SY T.toTT rfl (by decide+kernel:C2 ZZ (top 31) 4 8 [(4,.f)] ["lone_value","joint_value"] ["lone_value","joint_value"] [.s,.s] [] .s pQ=true) (Ma T.Z ((iu (vV T) (j:=15) rfl).up (by decide)) ((iu (sW T) (j:=16) rfl).up (by decide)) ⟨LW (T.D (j:=15) rfl).m,LW (T.D (j:=16) rfl).m,trivial⟩ ((X7 T).up (by decide)) (λa P R h=>by obtain⟨_,_,_,rfl,_⟩:=h;rfl)) (by walk_at "l") LV
private theorem BD(T:Tx K mg):Mt P w K mg base T.aj 7 "value" .s (C5 T.aj T.ah):=by obtain⟨p,r,g,q,d,i,kV,n,f,o,e,l,c,t⟩:=T.kU;refine⟨T.cZ,T.dh,["self","point"],2,7,T.fT.M,T.fT.b,?_,BY _,by walk_at "l"⟩;rw[e];exact Hy (qn:=qnL) (k:=6) l c t rfl scV (by decide+kernel) (by decide+kernel) (by decide+kernel) (λa c h=>by simp[closureFor,cellOf,h]) rfl rfl (λ_=>rfl) (λ_=>rfl) rfl (by decide+kernel) (λ_=>rfl) (λ_=>rfl) (T.D (j:=14) rfl).m (T.D (j:=14) rfl).F.kp (T.D (j:=14) rfl).b (HQ T) ⟨LW (T.D (j:=15) rfl).m,LW (T.D (j:=16) rfl).m,trivial⟩
private theorem C9(T:Tx K mg):Cl P w K mg base DD 1 19 .f LC:=
 rE T.toTT rfl 3 [(6,.f)] XD (by decide+kernel) (by walk_at "l")
private theorem Mg(T:Tx K mg):Cl P w K mg base DD 1 20 .s LD:=
 rE T.toTT rfl 1 [(2,.f)] XE (by decide+kernel) (by walk_at "l")
private theorem TZ(T:Tx K mg):Cl P w K mg base DD 1 21 .s G9:=
 rE T.toTT rfl 2 [] Tj (by decide+kernel) (by walk_at "l")
private theorem yc(T:Tx K mg):Cl P w K mg base DD 1 22 .s pN:=
 rE T.toTT rfl 3 [] Hf (by decide+kernel) (by walk_at "l")
private theorem HR(T:Tx K mg):Cl P w K mg base DD 1 23 .s Br:=
 rE T.toTT rfl 2 [] Tn (by decide+kernel) (by walk_at "l")
private theorem T3(T:Tx K mg):Cl P w K mg base DD 2 24 .s vE:=
 ny T.toTT rfl 4 [] [(22,.s,1),(23,.s,1),(21,.s,1)] Hh ⟨yc T,HR T,TZ T,trivial⟩ (by decide+kernel) (by walk_at "l")
private theorem Mh(T:Tx K mg):Cl P w K mg base DD 3 25 .s vG:=
 ny T.toTT rfl 3 [] [(24,.s,2),(22,.s,1),(23,.s,1)] LM ⟨T3 T,yc T,HR T,trivial⟩ (by decide+kernel) (by walk_at "l")
private theorem Mi(T:Tx K mg):Cl P w K mg base DD 1 26 .s kR:=
 rE T.toTT rfl 1 [] LN (by decide+kernel) (by walk_at "l")
private theorem v_text(T:Tx K mg):Cl P w K mg base DD 55 28 .s (zK 27):=HG (jt:=28) (ji:=27) (jb:=26) T.toTT rfl rfl (Mi T) (by decide+kernel) (by decide+kernel) 27
private theorem Mj(T:Tx K mg):Cl P w K mg base DD 1 29 .s Tp:=
 rE T.toTT rfl 2 [] XR (by decide+kernel) (by walk_at "l")
private theorem sd(T:Tx K mg):Cl P w K mg base DD 2 30 .s gC:=
 ny T.toTT rfl 2 [] [(29,.s,1)] Tq ⟨Mj T,trivial⟩ (by decide+kernel) (by walk_at "l")
private theorem T4(T:Tx K mg):Cl P w K mg base DD (2+1+27) 31 .s (DJ 27):=NQ (j:=31) (jw:=30) T.toTT rfl (sd T) (by decide+kernel) 27
private theorem Ml(T:Tx K mg):Cl P w K mg base DD 3 32 .d vN:=
 ny T.toTT rfl 2 [(2,.d)] [(30,.s,2)] L3 ⟨sd T,trivial⟩ (by decide+kernel) (by walk_at "l")
private theorem v_is(T:Tx K mg):Cl P w K mg base DD 1 33 .s x9:=
 rE T.toTT rfl 2 [] TH (by decide+kernel) (by walk_at "l")
private theorem Mm(T:Tx K mg):Cl P w K mg base DD 1 34 .s (Skd T.ah):=
 zE (k:=0) (Ss:=[]) (Gs:=[.gu T.cJ [] [T.ah],.gu T.ah [T.ah] [],.gu T.f9 [] [T.ah],.gu T.gc [] [T.ah],.gu T.iZ [] [T.ah],.gu T.gf [] [T.ah],.gu T.gh [] [T.ah],.gu T.aI [T.ah] []]) T.toTT rfl 1 [] [] ["NoNumber","NoValue","NoText","NoRoot","NoRow","TooFar","NoLine","HouseError"] aaD trivial ⟨(kT T.r6 T.gi),(zT T.nF T.fD ⟨T.fD,T.cK⟩ T.mL T.dU),(kT T.HH T.nG),(kT T.HJ T.nH),(kT T.Mc T.oN),(kT T.HK T.nI),(kT T.HL T.nJ),(zT T.mJ T.mK ⟨T.fD,T.cK⟩ T.eW T.bT),trivial⟩ (by decide+kernel) (by walk_at "l")
private theorem Mn(T:Tx K mg):Cl P w K mg base DD 8 35 .s (TJ T.aj T.ah):=
 Bh T.toTT rfl rfl (Tw (j:=35) (np:=2) (n:=5) (k:=7) (M:=[]) (es:=[("value",.s,true)]) (Ss:=[C5 T.aj T.ah]) (gn:=["HouseError"]) (Gs:=[.gu T.aI [T.ah] []]) T.toTT rfl ⟨(BD T).up (by decide),trivial⟩ ⟨(zT T.mJ T.mK ⟨T.fD,T.cK⟩ T.eW T.bT),trivial⟩ rfl (by decide+kernel) (by walk_at "l") L4) (by walk_at "l")
private theorem Mp(T:Tx K mg):Cl P w K mg base DD 31 36 .s (jI T.aj):=
 ny T.toTT rfl 3 [] [(31,.s,30),(35,.s,8),(34,.s,1),(33,.s,1)] C6 ⟨T4 T,Mn T,Mm T,v_is T,trivial⟩ (by decide+kernel) (by walk_at "l")
private theorem X8(T:Tx K mg):bL P w K mg base (eu P w) 148 (T.f 37) (T.d 37) ["_law_script"] (nY K 1 .s SG):=
 Tw (j:=37) (np:=1) (n:=12) (k:=147) (M:=[(6,.f),(9,.d)]) (es:=[("_law_numbers",.f,false),("_law_names",.s,false),("_law_grown",.s,false),("read",.s,false),("_law_text",.s,false),("_law_point",.d,false),("_law_right",.s,false),("_law_lowest",.s,false),("_law_is",.s,false),("value",.s,true)]) (Ss:=[LC,LD,vG,(Bo 28 T.aj),(zK 27),vN,(jI T.aj),gC,x9,C5 T.aj T.ah]) (gn:=[]) (Gs:=[]) T.toTT rfl ⟨(iu (C9 T) (j:=19) rfl).up (by decide),(iu (Mg T) (j:=20) rfl).up (by decide),(iu (Mh T) (j:=25) rfl).up (by decide),(iu (TV T) (j:=17) rfl).up (by decide),(iu (v_text T) (j:=28) rfl).up (by decide),(iu (Ml T) (j:=32) rfl).up (by decide),(iu (Mp T) (j:=36) rfl).up (by decide),(iu (sd T) (j:=30) rfl).up (by decide),(iu (v_is T) (j:=33) rfl).up (by decide),(BD T).up (by decide),trivial⟩ trivial rfl (by decide+kernel) (by walk_at "l") L8
end
private theorem Yb{K:Frag}{st:Stmt}{h kV i e b j:Value}(a:nsIn K mainGlobals x=some (some (.ref f)))(l:K.lookup f=some ⟨h,g,.func (fnOf x x (aV st) (aF st) (af st) .none kV i e m b j),d⟩)(c:codeIn K b x=true)(k:keepIn K (.ref f)=true):Hd K x st:=⟨f,g,m,d,h,kV,i,e,b,j,a,l,c,k⟩
private theorem NS{K:Frag}{st:Stmt}{d:Array (Option Value)}{h kV j e b m:Value}(a:findIn K (.ref C) x=some (some (.ref f)))(i:isFn K (.ref f)=true)(l:K.lookup f=some ⟨h,g,.func (fnOf x q (aV st) (aF st) (af st) .none kV j e n b m),d⟩)(c:codeIn K b q=true)(k:keepIn K (.ref f)=true):Hm K C x q st:=⟨f,g,n,d,h,kV,j,e,b,m,a,i,l,c,k⟩
private theorem yd{st:Stmt}(h:∀(kV a d:Value)(g:Option Addr)(b f c:Value),bindArgs (fnOf x q (aV st) (aF st) (af st) .none kV a d g b f) ⟨[c],[]⟩=pure ([i].zip [c])):gx x q st [i]:=λkV a d g b f k j=>by obtain⟨c,l,rfl,e⟩:=oB j;cases Kb.mp e;exact h kV a d g b f c
private theorem Dc{st:Stmt}(h:∀(kV a e:Value)(j:Option Addr)(b i d c:Value),bindArgs (fnOf x q (aV st) (aF st) (af st) .none kV a e j b i) ⟨[d,c],[]⟩=pure ([l,k].zip [d,c])):gx x q st [l,k]:=λkV a e j b i o n=>by obtain⟨d,p,rfl,g⟩:=oB n;obtain⟨c,m,rfl,f⟩:=oB g;cases Kb.mp f;exact h kV a e j b i d c
private theorem aaO{st:Stmt}(h:∀(kV a e:Value)(k:Option Addr)(b j d c a2:Value),bindArgs (fnOf x q (aV st) (aF st) (af st) .none kV a e k b j) ⟨[d,c,a2],[]⟩=pure ([m,l,p2].zip [d,c,a2])):gx x q st [m,l,p2]:=λkV a e k b j r p=>by obtain⟨d,s,rfl,i⟩:=oB p;obtain⟨c,o,rfl,g⟩:=oB i;obtain⟨a2,n,rfl,f⟩:=oB g;cases Kb.mp f;exact h kV a e k b j d c a2
private theorem aaP{st:Stmt}(h:∀(kV a e:Value)(l:Option Addr)(b k d c a2 a3:Value),bindArgs (fnOf x q (aV st) (aF st) (af st) .none kV a e l b k) ⟨[d,c,a2,a3],[]⟩=pure ([o,n,p2,m].zip [d,c,a2,a3])):gx x q st [o,n,p2,m]:=λkV a e l b k u t=>by obtain⟨d,v,rfl,j⟩:=oB t;obtain⟨c,s,rfl,i⟩:=oB j;obtain⟨a2,r,rfl,g⟩:=oB i;obtain⟨a3,p,rfl,f⟩:=oB g;cases Kb.mp f;exact h kV a e l b k d c a2 a3
private theorem all_mk{l:PySem.W.OpenLaw}{K:Frag}(X:K.In h)(G:h.Ns mainGlobals mg)(n:mg "law"=some (.ref fa))
 {a:Addr}(Dd:nsIn K mainGlobals "Reader"=some (some (.ref a)))(De:plainGet K a Str.empty=true)(Dg:hasDictIn K a=true)(Dh:plainOver K a=true)(Di:findIn K (.ref a) "__setattr__"=some (some (.builtin "object.__setattr__")))(Dj:makesIn K a=true)(Dk:keepIn K (.ref a)=true)
 (sX:findIn K (.ref a) "text"=some none)
 (se:findIn K (.ref a) "place"=some none)
 (mO:findIn K (.ref a) "brackets"=some none)
 (sf:findIn K (.ref a) "steps"=some none)
 {f:Addr}(sY:nsIn K mainGlobals "Expression"=some (some (.ref f)))(sZ:plainGet K f Str.empty=true)(tu:hasDictIn K f=true)(tw:plainOver K f=true)(tD:findIn K (.ref f) "__setattr__"=some (some (.builtin "object.__setattr__")))(tE:makesIn K f=true)(tF:keepIn K (.ref f)=true)
 (ly:findIn K (.ref f) "steps"=some none)
 (a14:Hm K f "__init__" "Expression.__init__" cV)
 (a15:HmN K f "value" "Expression.value" bJ)
 (a20:Hm K a "__init__" "Reader.__init__" fO)
 (a21:Hm K a "follows" "Reader.follows" d9)
 (a22:Hm K a "take_sum" "Reader.take_sum" dM)
 (a23:Hm K a "take_term" "Reader.take_term" cW)
 (a24:Hm K a "take_sign" "Reader.take_sign" cX)
 (a25:Hm K a "take_factor" "Reader.take_factor" cI)
 (a26:Hm K a "take_exponent" "Reader.take_exponent" b7)
 (a27:Hm K a "take_atom" "Reader.take_atom" cY)
 (a28:Hm K a "take_brackets" "Reader.take_brackets" b8)
 (a29:Hm K a "take_run" "Reader.take_run" dN)
 (aa:Lr K top DD)(zz:Lu K ZZ)
 {Dl:Tok}(Dp:nsIn K mainGlobals "FIGURES"=some (some (.str "0123456789" Dl)))
 {Dq:Tok}(Dr:nsIn K mainGlobals "LETTERS"=some (some (.str "abcdefghijklmnopqrstuvwxyz" Dq)))
 {vW:Tok}(vX:nsIn K mainGlobals "MOST_SIGNS"=some (some (.int 1000 vW)))
 {oO:Tok}(oQ:nsIn K mainGlobals "MOST_BRACKETS"=some (some (.int 30 oO)))
 {sj:Tok}(sq:nsIn K mainGlobals "MOST_MINUSES"=some (some (.int 30 sj)))
 {su:Tok}(sA:nsIn K mainGlobals "MOST_FIGURES"=some (some (.int 30 su)))
 {sC:Tok}(sD:nsIn K mainGlobals "MOST_LETTERS"=some (some (.int 8 sC)))
 {iD:Tok}(iE:nsIn K mainGlobals "MOST_EXPONENT_FIGURES"=some (some (.int 2 iD)))
 {oR:Tok}(oS:nsIn K mainGlobals "MOST_EXPONENT"=some (some (.int 12 oR)))
 {T5:Tok}(T6:nsIn K mainGlobals "LONG"=some (some (.int 6000 T5)))
 {g:Addr}(vY:nsIn K mainGlobals "HouseError"=some (some (.ref g)))(tG:excIn K g Zz "ValueError.__new__"=true)(tH:findIn K (.ref g) "__getattribute__"=some (some (.builtin "BaseException.__getattribute__")))(tK:findIn K (.ref g) "__getattr__"=some none)(tL:findIn K (.ref g) "__class__"=some (some (.builtin "object.__class__")))(tM:mroIn K g (.type "object")=some true)(tN:mroIn K g (.type "BaseException")=some true)
 {cJ:Addr}(zW:nsIn K mainGlobals "NoNumber"=some (some (.ref cJ)))
 {b:Addr}(Ds:nsIn K mainGlobals "NoValue"=some (some (.ref b)))(zX:excIn K b Zz "ValueError.__new__"=true)(zY:findIn K (.ref b) "__getattribute__"=some (some (.builtin "BaseException.__getattribute__")))(zZ:findIn K (.ref b) "__getattr__"=some none)(z4:findIn K (.ref b) "__class__"=some (some (.builtin "object.__class__")))(z5:mroIn K b (.type "object")=some true)(z6:mroIn K b (.type "BaseException")=some true)
 {r:Addr}(HS:nsIn K mainGlobals "NoText"=some (some (.ref r)))
 {q:Addr}(HU:nsIn K mainGlobals "NoRoot"=some (some (.ref q)))
 {k:Addr}(Mq:nsIn K mainGlobals "NoRow"=some (some (.ref k)))
 {p:Addr}(HV:nsIn K mainGlobals "TooFar"=some (some (.ref p)))
 {o:Addr}(HW:nsIn K mainGlobals "NoLine"=some (some (.ref o)))
 (lz:kitOne K (.ref b) (.ref cJ)=some false)
 (mP:kitOne K (.ref b) (.ref b)=some true)
 (nK:kitOne K (.ref b) (.ref r)=some false)
 (nM:kitOne K (.ref b) (.ref q)=some false)
 (oU:kitOne K (.ref b) (.ref k)=some false)
 (nN:kitOne K (.ref b) (.ref p)=some false)
 (nO:kitOne K (.ref b) (.ref o)=some false)
 (jM:kitOne K (.ref b) (.ref g)=some true)
 (jN:kitOne K (.ref b) (.type "ValueError")=some true)
 (bT:mroIn K b (.ref g)=some true)
 (dU:mroIn K b (.ref b)=some true)
 :∃fd:FuncData,(∀(s:Shared)(v:Value),BindsTo s fd ⟨[v],[]⟩ [("_law_script",v)])/\∀c:Heap,K.In c->c.Ns mainGlobals mg->bL l.prog w K mg c VZ 148 fa fd ["_law_script"] (A8 K):=by
 obtain⟨T0⟩:=Xy X G aa zz;have HX:sJ K a ["text","place","brackets","steps"]:=⟨⟨De,Dg,Dh,Di⟩,by decide,by decide+kernel,λx i=>by
  simp only[Do,TC,or_false]at i;rcases i with rfl|rfl|rfl|rfl
  .exact sX
  .exact se
  .exact mO
  .exact sf⟩
 have vZ:sJ K f ["steps"]:=⟨⟨sZ,tu,tw,tD⟩,by decide,by decide+kernel,λx i=>by
  simp only[Do,TC,or_false]at i;rcases i with rfl
  .exact ly⟩
 obtain⟨J,d14,D14⟩:=jE (ps:=["self","steps"]) a14 (Dc λ_ _ _ _ _ _ _ _=>rfl);obtain⟨I,Z,D15,N15⟩:=TQ (ps:=["self","point"]) a15 (Dc λ_ _ _ _ _ _ _ _=>rfl);obtain⟨H,Y,D20⟩:=jE (ps:=["self","text"]) a20 (Dc λ_ _ _ _ _ _ _ _=>rfl);obtain⟨F,U,D21⟩:=jE (ps:=["self","signs"]) a21 (Dc λ_ _ _ _ _ _ _ _=>rfl);obtain⟨E,S,D22⟩:=jE (ps:=["self"]) a22 (yd λ_ _ _ _ _ _ _=>rfl);obtain⟨C,R,D23⟩:=jE (ps:=["self"]) a23 (yd λ_ _ _ _ _ _ _=>rfl);obtain⟨B,Q,D24⟩:=jE (ps:=["self"]) a24 (yd λ_ _ _ _ _ _ _=>rfl);obtain⟨A,P,D25⟩:=jE (ps:=["self"]) a25 (yd λ_ _ _ _ _ _ _=>rfl);obtain⟨z,O,D26⟩:=jE (ps:=["self"]) a26 (yd λ_ _ _ _ _ _ _=>rfl);obtain⟨y,N,D27⟩:=jE (ps:=["self"]) a27 (yd λ_ _ _ _ _ _ _=>rfl);obtain⟨u,M,D28⟩:=jE (ps:=["self"]) a28 (yd λ_ _ _ _ _ _ _=>rfl);obtain⟨t,L,D29⟩:=jE (ps:=["self","signs"]) a29 (Dc λ_ _ _ _ _ _ _ _=>rfl);have D:=T0.D (j:=37) rfl;have e:=n.symm.trans D.m;cases e
 let T:Tx K mg:=⟨T0,a,⟨KE X G Dd,HX,Dj,Dk⟩,f,⟨KE X G sY,vZ,tE,tF⟩,J,d14,D14,I,Z,D15,N15,H,Y,D20,F,U,D21,E,S,D22,C,R,D23,B,Q,D24,A,P,D25,z,O,D26,y,N,D27,u,M,D28,t,L,D29,⟨_,KE X G Dp,_,rfl⟩,⟨_,KE X G Dr,_,rfl⟩,⟨_,KE X G vX,_,rfl⟩,⟨_,KE X G oQ,_,rfl⟩,⟨_,KE X G sq,_,rfl⟩,⟨_,KE X G sA,_,rfl⟩,⟨_,KE X G sD,_,rfl⟩,⟨_,KE X G iE,_,rfl⟩,⟨_,KE X G oS,_,rfl⟩,⟨_,KE X G T6,_,rfl⟩,g,KE X G vY,⟨tG,tH,tK,tL,tM,tN⟩,cJ,KE X G zW,b,KE X G Ds,⟨zX,zY,zZ,z4,z5,z6⟩,r,KE X G HS,q,KE X G HU,k,KE X G Mq,p,KE X G HV,o,KE X G HW,lz,mP,nK,nM,oU,nN,nO,jM,jN,bT,dU⟩
 exact⟨T0.d 37,λs v=>D.bt s [v] rfl,λc _ _=>SH (X8 T)⟩
end Mb
structure PySem.W.Fast:Prop where(tw7399687041395331234 tw8581435261269113730 tw3180135732224563254 tw10503074607816738651 tw16229514500152721836 tw5095476963180690459 tw9137958071902823406 tw3499624420385608085 tw5232938870318119041 tw8035500667955373697 tw2693311225263655751 tw6345157566150932725 tw3238992709847480773 tw14709360379116085428 tw13244496205270731303 tw4845786060617046543 tw3943277861354293600 tw8326496350384119435 tw2684889439552757889 tw11902527684476866214 tw10137936030017531642 tw6142250720239749816 tw529209279562769908 tw10711917857002982016 tw7316085512376352703 tw5469528719485994585 tw13466953086505219982 tw16339436997317440141 tw1704219376641585835 tw17249018293651690006 tw147603158260699974 tw6870063479088151033 tw383438056453553276 tw14391704947677936534 tw699533743219202379 tw14171410880836726977 tw5100415736624329837 tw1517352796620648247 tw7367402252157786714 tw12988320877451113271 tw3610290059524076680 tw502323592649987194 tw18405559853160520764 tw8603418248100853186 tw4588984951179288982 tw12759430564317071159 tw14656200342085597799 tw10517835636658013187 tw4551916784664317139 tw4049926270881898420 tw860005319031593677 tw6775570400926323213 tw7448791123797920699 tw11862677853868584948 tw17750162214463929558 tw458487793804536347 tw16785891987543209105 tw4985747395726694021 tw12325628886544822455 tw7239481545447693542 tw13403831366662188328 tw2472294085120529316 tw14249889081434603730 tw1712335561809770264 tw18089901761520258348 tw16620490415286102253 tw16789125179874366837 tw7534412554177032750 tw13848303888931245516 tw2063091930080245814 tw8775203095359417858 tw16108607504703915990 tw13584185726640962981 tw5326900594806602286 tw9174694200473861294 tw3664915117350675245 tw5722935082368834649 tw7873640830939059275 tw3292398164883751161 tw16198908807141264451 tw10722540236183751153 tw8463407552477762087 tw9808630866125821998 tw4680026501662418107 tw9671202474099381385 tw15758309875914772436 tw5900387672152257410 tw3987137504721768640 tw4451658336913411488 tw16457360605878947166 tw2564056358198640903 tw3385969496960427676 tw5076027558035302096 tw17304123284349668097 tw16242593224324800354 tw17492064461863649023 tw15892410127986878916 tw16449292952495129502 tw14016253899862376482 tw11576159590371736487 tw15549650071156095741 tw5698769231388721491 tw11815465291823433357 tw1193282916784583147 tw8688163075240154238 tw3900043660166493827 tw16724966959816366283 tw4729460489024223780 tw10817144090320912211 tw3652587395369820187 tw10459218895245361732 tw4726386247699576082 tw12061248793250939119 tw505932250491781795 tw10515333261334724563 tw521554086593420994 tw13344667876261801609 tw16516534158948252027 tw4780760320046397687 tw6731277759426544582 tw13986570185902241513 tw5294941893788803721 tw15022279568099599373 tw13706114064611958527 tw7046650605663448330 tw5840277217500682090 tw805021873085717434 tw8663327482714402038 tw1082575106489336922 tw1096401248671824847 tw4256433739899802004 tw17197660227019781749 tw13856722677706112823 tw1154871618178564543 tw9426829680788953588 tw13520274786895607718 tw17424480396079435160 tw5169421908560988186 tw3701924864994918693 tw18351852525646613308 tw16033315546283795589 tw6201192496002586306 tw16998493343018087338 tw15063227646949514848 tw15799534162637807936 tw14073672712690236664 tw11322298548329370976 tw7447417105659769518 tw11037431859466891234 tw15717142086185842812 tw218140859416444880 tw539671271249282588 tw217373599732121366 tw4697127310184783921 tw18213597954462142468 tw8986692244435342887 tw17085608136143770501 tw16286800124261245422 tw5833255092849082261 tw12702918962908434498 tw5173968128995438730 tw17783648046696901454 tw7702658969914159911 tw16407367350107485973 tw16445226624633901032 tw12318297750391520452 tw12288854269733467733 tw11543912925653314888 tw17323198410006426804 tw5754482866362925915 tw13355198966400671771 tw341391080371772023 tw3105863362399964554 tw3098225335451134120 tw6984970669637033003 tw13997169446907109323 tw9468093800431818699 tw8632515912835017574 tw365434809054436971 tw15722293466371696869 tw10611365301070186362 tw4956186707545340027 tw10861585586709642979 tw17099277974792456976 tw17814888027616853647 tw11840522378546038308 tw12583428756242163830 tw13152348397994070163 tw6047147954940690827 tw6029777090162480618 tw2746058493679914946 tw14678482528586488917 tw13299363791568966312 tw15038082267743137328 tw3683098109947070747 tw7947268241728581904 tw3750513814355568621 tw2875935397952008655 tw11202639178337607822 tw997783250643225832 tw15377182417397929527 tw8172622509886553034 tw301684889776950205 tw1330704368260433424 tw127059578397119255 tw8949540832887086372 tw6649912485091018634 tw667399961933980691 tw6852496120866343678 tw3115189362300412938 tw9050035982616285919 tw1839261884267072054 tw7869532435192760087 tw9095829403191292786 tw1923326066765040887 tw17822919491712992694 tw13899942883518469528 tw10915778228185291322 tw2927389822606516590 tw14928270853192485828 tw11939638171322959049 tw3623703704707880175 tw17020289419371443848 tw14488339775484127505 tw13630997788060083662 tw10282636054940173532 tw4254883191081122635 tw5527022516103130482 tw5447384983470107915 tw3960005612407510004 tw15976139358753789528 tw10717691388404860119 tw1095748176794005682 tw7994890982018741722 tw17834535491016219227 tw12191132662169946225 tw19923999984536835 tw16553700690329714913 tw5168202288825003646 tw17581653992699989291 tw11185176743140684797 tw10788507393501553148 tw6974525475435360246 tw16324634517485165955 tw4056200532974541757 tw17585678604260121981 tw16729548436571737931 tw5872198306272307235 tw17977811044837848163 tw3736824873625350345 tw2284187999681752507 tw17905965729083144555 tw1367175888974341207 tw13053483445362546025 tw12219034081462899923 tw11663928777366590098 tw10723181711885184832 tw10303986336684682002 tw556012981446095672 tw17644469767710189987 tw15243231296119070291 tw957838789885572890 tw8349161389370211238 tw8101351516267311593 tw738226835265373636 tw6182932557513024947 tw5273332691127586768 tw3541673867861427926 tw3506895161357811594 tw281218777264469240 tw18186837367848514809 tw17878858114836103468 tw17181656500744215046 tw16993206500938465096 tw16949883893638566776 tw16617889108524057636 tw15100259988181083947 tw1500437028313398851 tw14861072554679413161 tw14279924838152136772 tw13297413309783422473 tw12175186271347980865 tw11850391741933451639 tw11477994079254541353 tw1709632565597854030 tw6348524320971022039 tw6008082803170742332 tw12217596178426664088 tw11659464343914678358 tw3947398099158655980 tw8737651598773218941 tw8025439865314106865 tw5368529776971453047 tw11231583994906442876 tw3446924678661169785 tw1298919847128983749 tw12271157886606779189 tw12005395268718110837 tw10656461119667654588 tw6697934134599296444 tw551134162995481136 tw2779936832479657801 tw18182513852407769365 tw17422460354953030290 tw14829745208483336832 tw2698445931759684911 tw16397894689758096272 tw13991659551101811939 tw25341204720977909 tw1650802511905044912 tw8590446979875188083 tw2476851595200804223 tw1878750845250293362 tw17710351116539377638 tw16759378548112653334 tw2635454741131479674:True)
open PySem PySem.W PyProof.Rows
set_option maxRecDepth 100000 in
set_option maxHeartbeats 0 in
theorem PySem.Challenge.cw_paperwright_k19_values_of_expressions_holds : PySem.Challenge.rw_paperwright_k19_values_of_expressions.Holds := by
 w_on;o_law;k_head;(case hw=>w_witness2)
 k_fill
 refine VL.walk (l:=PySem.Challenge.rw_paperwright_k19_values_of_expressions) (k:=148) rfl rfl ⟨rfl,by decide,by decide⟩ (by decide+kernel) rfl (fun w h Y=>PySem.W.km_in_of Y) (fun w h Y=>PySem.W.km_tabs_of Y) (fun w=>by kernel_rfl) ?F
 case F=>
  intro w mg fa h KX G hmg
  refine' Mb.all_mk KX G hmg ?yy0 ?yy1 ?yy2 ?yy3 ?yy4 ?yy5 ?yy6 ?yy7 ?yy8 ?yy9 ?aaQ ?aaR ?aaS ?aaT ?aaU ?aaV ?aaW ?aaX ?aaY ?aaZ ?aa0 ?aa1 ?aa2 ?aa3 ?aa4 ?aa5 ?aa6 ?aa7 ?aa8 ?aa9 ?aba ?abb ?abc ?abd ?abe ?abf ?abg ?abh ?abi ?abj ?abk ?abl ?abm ?abn ?abo ?abp ?abq ?abr ?abt ?abu ?abv ?abw ?abx ?aby ?abz ?abA ?abB ?abC ?abD ?abE ?abF ?abG ?abH ?abI ?abJ ?abK ?abL ?abM ?abN ?abO ?abP ?abQ ?abR ?abS
  (case yy0|yy1|yy2|yy3|yy4|yy5|yy6|yy7|yy8|yy9|aaQ|aaR|aaS|aaT|aaU|aaV|aaW|aaX|aaY=>k_is)
  (case aaZ=>(refine' Mb.NS ?ka ?ki ?kl ?kc ?kk;(case ka=>k_is);(case ki=>k_is);(case kl=>k_is);(case kc=>k_is);(case kk=>k_is)))
  (case aa0=>(refine' VL.TR ?ka ?ki ?kl ?kc ?kk ?kt;(case ka=>k_is);(case ki=>k_is);(case kl=>k_is);(case kc=>k_is);(case kk=>k_is);(case kt=>kernel_rfl)))
  (case aa1|aa2|aa3|aa4|aa5|aa6|aa7|aa8|aa9|aba=>(refine' Mb.NS ?ka ?ki ?kl ?kc ?kk;(case ka=>k_is);(case ki=>k_is);(case kl=>k_is);(case kc=>k_is);(case kk=>k_is)))
  (case abb=>(iterate 38 (refine' ft (ft ?h1 ?h2) ?_;(case h1=>(refine' Mb.Yb ?ka ?kl ?kc ?kk;(case ka=>k_is);(case kl=>k_is);(case kc=>k_is);(case kk=>k_is)));(case h2=>(first|exact Mb.yd fun _ _ _ _ _ _ _=>rfl|exact Mb.Dc fun _ _ _ _ _ _ _ _=>rfl|exact Mb.aaO fun _ _ _ _ _ _ _ _ _=>rfl|exact Mb.aaP fun _ _ _ _ _ _ _ _ _ _=>rfl))));exact trivial)
  (case abc=>(iterate 12 (refine' ft ?h1 ?_;(case h1=>k_is)));exact trivial)
  (case abd|abe|abf|abg|abh|abi|abj|abk|abl|abm|abn=>k_is)
  (case abo=>k_exc)
  (case abp|abq|abr|abt|abu|abv|abw=>k_is)
  (case abx=>k_exc)
  (case aby|abz|abA|abB|abC|abD|abE|abF|abG|abH=>k_is)
  (case abI|abJ|abK|abL|abM|abN|abO|abP|abQ=>kit_is)
  (case abR|abS=>k_is)
