import PyProof.Rows.All
import Wide.All
import OpenK.AllK
import Wide.FinOn
import Lean
import PyProof.EqAt
import PyProof.EqKinds
import PyProof.TupleCall
import PySem.Challenge.RW_paperwright_k55_quotients
set_option Elab.async false
set_option linter.all false
set_option maxRecDepth 100000
set_option maxHeartbeats 4000000
set_option hygiene false in
local macro_rules | `(tactic| walk_at "lo") => `(tactic| first | exact False.elim h | (obtain ⟨rfl, _⟩ := h; rfl) | (obtain ⟨_, h⟩ := h; walk_at "lo"))
set_option hygiene false in
local macro_rules | `(tactic| walk_at "len_of") => `(tactic| (intro _ _ _ h; walk_at "lo"))
set_option hygiene false in
local macro_rules | `(tactic| walk_at "vs") => `(tactic| first | dsimp only [wSs, wS, wE, wA, CB, RZ, wP, R3, Ez, cH, setAt, List.getElem?_cons_zero, List.getElem?_cons_succ, look, List.set, cN, qJ, cW, aA, List.map_cons, List.map_nil, List.nil_append, List.cons_append, x_len, Jb, Jc, Qp, Qq, Qt, Jd, EA, EB, Al, Qu, Qv, Qw, Qx, Qy, Qz, Je, QA, QB, QC, W2, W3, x_lt, W4, W5, W6, EC, W7, QD, QE, QF, W8, QG, QH, QI, QJ, ED, Am, W9, QK, QL, Xa, Jf, EF, fall, List.replicate, if_true, Bool.not_true, Bool.not_false] | simp only [wSs, wS, wE, wA, CB, RZ, wP, R3, Ez, cH, setAt, List.getElem?_cons_zero, List.getElem?_cons_succ, look, List.set, cN, qJ, cW, aA, List.map_cons, List.map_nil, List.nil_append, List.cons_append, x_len, Jb, Jc, Qp, Qq, Qt, Jd, EA, EB, Al, Qu, Qv, Qw, Qx, Qy, Qz, Je, QA, QB, QC, W2, W3, x_lt, W4, W5, W6, EC, W7, QD, QE, QF, W8, QG, QH, QI, QJ, ED, Am, W9, QK, QL, Xa, Jf, EF, fall, List.replicate, if_true, Bool.not_true, Bool.not_false] | skip)
set_option hygiene false in
local macro_rules | `(tactic| walk_at "hd") => `(tactic| (refine' ZN.Xb ?ka ?kl ?kc ?kk; (case ka => k_is); (case kl => k_is); (case kc => k_is); (case kk => k_is)))
set_option hygiene false in
local macro_rules | `(tactic| walk_at "hm") => `(tactic| (refine' ZN.Xc ?ka ?ki ?kl ?kc ?kk; (case ka => k_is); (case ki => k_is); (case kl => k_is); (case kc => k_is); (case kk => k_is)))
noncomputable def AC:=@List.getD_eq_getElem?_getD
noncomputable def AN:=@List.length_map
noncomputable def B1:=@List.getElem?_eq_getElem
noncomputable def BM:=@Bool.and_eq_true
noncomputable def Bi:=@if_neg
noncomputable def Bn:=@if_pos
noncomputable def Bz:=@of_decide_eq_true
noncomputable def DD:=@List.getElem?_map
noncomputable def DL:=@PySem.Heap.get?_push_of_some
noncomputable def Da:=@Nat.le_trans
noncomputable def Do:=@Nat.le_refl
noncomputable def Dx:=@List.length_pos_iff
noncomputable def Ee:=@List.length_append
noncomputable def FC:=@PySem.wpAny_bind
noncomputable def FK:=@List.getElem?_eq_none
noncomputable def FM:=@Rat.intCast_mul
noncomputable def FR:=@List.mem_cons_of_mem
noncomputable def FS:=@PySem.Heap.lt_size
noncomputable def FV:=@List.mem_cons_self
noncomputable def Fh:=@Int.natAbs_mul
noncomputable def Fk:=@Nat.lt_of_lt_of_le
noncomputable def Fm:=@List.size_toArray
noncomputable def Fn:=@List.mem_singleton
noncomputable def Fs:=@List.getElem?_eq_some_iff
noncomputable def Fu:=@List.getElem?_append_right
noncomputable def GE:=@Nat.mul_le_mul_left
noncomputable def GM:=@Nat.add_sub_cancel
noncomputable def GT:=@List.mem_cons
noncomputable def Gc:=@Classical.byContradiction
noncomputable def HI:=@List.isEmpty_iff
noncomputable def Ha:=@List.getLast?_eq_getElem?
noncomputable def Hb:=@PySem.Heap.get?_push_size
noncomputable def He:=@List.getElem?_append_left
noncomputable def Hk:=@List.mem_map
noncomputable def Hn:=@List.mem_append_right
noncomputable def IH:=@List.all_eq_true
noncomputable def IR:=@Option.some.inj
noncomputable def Iy:=@List.mem_append
noncomputable def Jn:=@List.map_cons
noncomputable def KB:=@List.mem_of_getElem?
noncomputable def KE:=@List.length_eq_zero_iff
noncomputable def KM:=@Nat.ne_of_lt
noncomputable def Kb:=@List.append_assoc
noncomputable def Ki:=@Int.pow_succ
noncomputable def Kj:=@Bool.false_ne_true
noncomputable def Kk:=@Nat.pow_le_pow_right
noncomputable def Kt:=@List.getElem?_set_ne
noncomputable def Kx:=@List.append_nil
noncomputable def L9:=@decide_eq_true_eq
noncomputable def Mo:=@Nat.zero_le
noncomputable def NA:=@Rat.mul_zero
noncomputable def NM:=@PySem.wpAny_pure
noncomputable def Nw:=@beq_iff_eq
noncomputable def OF:=@Nat.lt_succ_self
noncomputable def OK:=@Nat.lt_irrefl
noncomputable def On:=@Nat.lt_of_le_of_lt
noncomputable def Os:=@decide_eq_true
noncomputable def Oy:=@Option.map_eq_some_iff
noncomputable def P2:=@Nat.pow_pos
noncomputable def P3:=@Nat.mul_le_mul_right
noncomputable def PH:=@Int.mul_ne_zero
noncomputable def PP:=@Int.fdiv_eq_ediv_of_nonneg
noncomputable def PQ:=@Nat.le_of_lt
noncomputable def Pi:=@Int.mul_zero
noncomputable def Pl:=@Nat.add_sub_cancel_left
noncomputable def Pm:=@Rat.mul_eq_zero
noncomputable def Pt:=@List.length_range
noncomputable def Pv:=@PySem.W.mg_none_of
noncomputable def Q1:=@PyProof.Rows.callWith_type1
noncomputable def QP:=@Classical.choose_spec
noncomputable def QQ:=@PySem.mem_of_lookup
noncomputable def QR:=@decide_eq_false
noncomputable def Qb:=@List.length_set
noncomputable def Qr:=@List.getElem_mem
noncomputable def RF:=@Ne.symm
noncomputable def Re:=@Int.gcd_dvd_right
noncomputable def SB:=@Int.eq_of_mul_eq_mul_left
noncomputable def SC:=@List.getElem?_set_self
noncomputable def SF:=@PySem.W.kia_one
noncomputable def SL:=@List.map_append
noncomputable def SU:=@Int.mul_assoc
noncomputable def SZ:=@List.map_map
noncomputable def Sr:=@of_decide_eq_false
noncomputable def T1:=@Int.fmod_eq_emod_of_nonneg
noncomputable def T2:=@Nat.le_add_right
noncomputable def TB:=@List.not_mem_nil
noncomputable def TC:=@Int.pow_zero
noncomputable def TK:=@List.getElem_of_mem
noncomputable def Ta:=@Nat.lt_succ_of_lt
noncomputable def Tb:=@List.nodup_cons
noncomputable def Ts:=@Int.zero_mul
noncomputable def UF:=@Int.mul_comm
noncomputable def UV:=@Rat.num_divInt_den
noncomputable def W1:=@congrArg
noncomputable def Wp:=@Nat.le_mul_of_pos_right
noncomputable def X1:=@List.mem_append_left
noncomputable def X2:=@PySem.W.mg_of
noncomputable def X9:=@Bool.or_false
noncomputable def XB:=@Rat.divInt_eq_div
noncomputable def Xt:=@List.map_nil
noncomputable def Y1:=@Int.dvd_zero
noncomputable def Y2:=@List.getElem?_range
noncomputable def Ya:=@Rat.one_mul
noncomputable def Yf:=@PySem.Heap.get?_update_other
noncomputable def ag:=@Int.gcd_dvd_left
noncomputable def ar:=@Rat.mul_assoc
noncomputable def aw:=@Option.isSome_iff_exists
noncomputable def bj:=@Int.le_of_lt
noncomputable def bo:=@Int.le_of_dvd
noncomputable def cc:=@Nat.pow_add
noncomputable def cm:=@List.mem_range
noncomputable def cq:=@Int.one_mul
noncomputable def cw:=@Bool.and_false
noncomputable def cx:=@List.ext_getElem?
noncomputable def dA:=@List.dropLast_concat_getLast
noncomputable def dC:=@Nat.pow_le_pow_left
noncomputable def dE:=@List.map_set
noncomputable def de:=@Int.add_zero
noncomputable def dn:=@Rat.mul_one
noncomputable def dq:=@Int.mul_one
noncomputable def dt:=@PySem.wpAny_mono
noncomputable def du:=@List.length_take
noncomputable def eD:=@Rat.mul_inv_cancel
noncomputable def eI:=@Nat.mul_le_mul
noncomputable def eJ:=@Nat.lt_of_le_of_ne
noncomputable def eM:=@Int.emod_lt_of_pos
noncomputable def eP:=@Rat.zero_mul
noncomputable def ei:=@Nat.sub_self
noncomputable def ey:=@Nat.add_comm
noncomputable def fI:=@List.getLast?_concat
noncomputable def fe:=@Int.mul_ediv_cancel'
noncomputable def fg:=@Int.mul_ediv_cancel_left
noncomputable def fo:=@Int.dvd_mul_of_dvd_right
noncomputable def gL:=@PySem.wpAny_truthy_bool
noncomputable def gN:=@Int.mul_le_mul_of_nonneg_right
noncomputable def gd:=@Bool.not_eq_true
noncomputable def h8:=@Rat.inv_mul_cancel
noncomputable def hU:=@Rat.div_mul_cancel
noncomputable def hV:=@Nat.le_of_eq
noncomputable def hZ:=@Nat.eq_zero_or_pos
noncomputable def i5:=@Nat.add_right_comm
noncomputable def ij:=@List.mem_filter
noncomputable def ik:=@List.eq_nil_or_concat
noncomputable def il:=@List.concat_eq_append
noncomputable def ip:=@Int.emod_add_mul_ediv
noncomputable def iq:=@Nat.lt_succ_of_le
noncomputable def js:=@List.reverse_cons
noncomputable def kA:=@PySem.wpAny_Call_Name_kw
noncomputable def kS:=@PySem.wpAny_passesOwn
noncomputable def kb:=@Int.pow_add
noncomputable def ke:=@Nat.zero_add
noncomputable def kf:=@Nat.mul_comm
noncomputable def km:=@Int.sub_self
noncomputable def kv:=@beq_eq_false_iff_ne
noncomputable def ky:=@List.map_eq_nil_iff
noncomputable def kz:=@List.map_congr_left
noncomputable def lh:=@List.length_reverse
noncomputable def lj:=@PyProof.Rows.assignInOrder_cons
noncomputable def ll:=@Rat.divInt_eq_divInt_iff
noncomputable def mB:=@List.getElem?_take_of_lt
noncomputable def mI:=@Int.mul_fdiv_cancel_left
noncomputable def mM:=@List.cons.injEq
noncomputable def ma:=@Int.emod_nonneg
noncomputable def me:=@Bool.eq_iff_iff
noncomputable def mf:=@Int.gcd_zero_right
noncomputable def ml:=@List.getElem?_replicate
noncomputable def mn:=@Int.fdiv_eq_ediv_of_dvd
noncomputable def my:=@Int.emod_eq_zero_of_dvd
noncomputable def n4:=@Int.dvd_add
noncomputable def nr:=@or_false
noncomputable def oC:=@Rat.pow_succ
noncomputable def oI:=@Rat.mul_comm
noncomputable def oP:=@Nat.ne_of_gt
noncomputable def oT:=@List.getElem?_set
noncomputable def oa:=@Int.sub_zero
noncomputable def oo:=@Int.lt_or_le
noncomputable def ox:=@Bool.not_eq_true'
noncomputable def oy:=@PySem.wpAny_execs_nil
noncomputable def pd:=@Int.natAbs_dvd_natAbs
noncomputable def ph:=@Nat.le_of_not_lt
noncomputable def pj:=@Nat.add_assoc
noncomputable def pk:=@PySem.wpAny_newObj_type
noncomputable def qr:=@PySem.W.looks_findIn
noncomputable def rf:=@Nat.sub_le_sub_right
noncomputable def rg:=@Nat.pow_mul
noncomputable def rh:=@Nat.pow_lt_pow_right
noncomputable def rk:=@Nat.add_le_add_right
noncomputable def rn:=@Int.mul_le_mul_of_nonneg_left
noncomputable def rp:=@Bool.or_eq_true
noncomputable def sT:=@PySem.W.looks_mroIn
noncomputable def si:=@PySem.Heap.get?_update_self
noncomputable def sk:=@Int.ediv_mul_cancel
noncomputable def so:=@Rat.zero_add
noncomputable def sv:=@Rat.pow_zero
noncomputable def t4:=@Nat.zero_mul
noncomputable def t5:=@Int.zero_add
noncomputable def tI:=@PySem.W.callWith_K
noncomputable def tJ:=@List.nodup_nil
noncomputable def td:=@List.map_replicate
noncomputable def tf:=@List.map_inj_right
noncomputable def tj:=@Int.ediv_pos_of_pos_of_dvd
noncomputable def tm:=@List.drop_eq_getElem_cons
noncomputable def tq:=@Int.natAbs_ediv_le_natAbs
noncomputable def tx:=@Nat.sub_pos_of_lt
noncomputable def ub:=@Nat.add_mul
noncomputable def ui:=@Int.mul_pos
noncomputable def uj:=@PySem.codeAny_mono
noncomputable def uk:=@beq_self_eq_true
noncomputable def vT:=@PySem.wpAny_bindName
noncomputable def va:=@PySem.F.plainAttrs_list
noncomputable def vb:=@Nat.succ_pred_eq_of_pos
noncomputable def vi:=@Int.dvd_of_emod_eq_zero
noncomputable def vk:=@Int.dvd_mul_of_dvd_left
noncomputable def vw:=@Nat.succ_mul
noncomputable def w8:=@Nat.succ.inj
noncomputable def wa:=@Nat.sub_add_sub_cancel
noncomputable def wb:=@Nat.le_mul_of_pos_left
noncomputable def wt:=@List.take_of_length_le
noncomputable def wx:=@Int.fmod_nonneg_of_pos
noncomputable def wy:=@Rat.intCast_inj
noncomputable def x5:=@Rat.intCast_add
noncomputable def xI:=@PySem.wpAny_standAt
noncomputable def xa:=@PySem.wpAny_holding
noncomputable def xb:=@Int.dvd_sub
open PySem.W(instObj methodObj hideAll_get Frag lookIn plainGet hasDictIn findIn plainGet_of isFn plainOver takerIn makesIn emptyDict keepIn mroIn kitOne fnOf codeIn excIn nsIn)
noncomputable section
set_option bootstrap.genMatcherCode false
namespace L2
open PySem PySem.Spec PyProof.Rows
abbrev Key:=Sum Int Str
noncomputable def QM:Key->Value->Bool
 |.inl k,v=>Value.isInt k v
 |.inr x,v=>Value.isStrOf x v
noncomputable def aae(w:World):Key->Int
 |.inl k=>hashInt k
 |.inr x=>hashStr w x
theorem cD:∀{k:Key}{v:Value},QM k v=true->(∃i t,k=Sum.inl i/\v=Value.int i t)\/(∃x t,k=Sum.inr x/\v=Value.str x t)
 |.inl i,v,h=>by obtain⟨t,e⟩:=Value.isInt_shape (k:=i) (v:=v) h;exact .inl ⟨i,t,rfl,e⟩
 |.inr x,v,h=>by obtain⟨t,e⟩:=Value.isStrOf_shape (x:=x) (v:=v) h;exact .inr ⟨x,t,rfl,e⟩
theorem R4(a b:Int):decide ((Sum.inl a:Key)=Sum.inl b)=(a==b):=by
 by_cases e:a=b
 ·subst e;simp
 ·have h:¬(Sum.inl a:Key)=Sum.inl b:=λq=>e (Sum.inl.inj q);rw[QR h];exact(kv.mpr e).symm
theorem R5(a b:Str):decide ((Sum.inr a:Key)=Sum.inr b)=decide (a=b):=by
 by_cases e:a=b
 ·subst e;simp
 ·have h:¬(Sum.inr a:Key)=Sum.inr b:=λq=>e (Sum.inr.inj q);rw[QR h,QR e]
theorem R6(a:Int)(b:Str):decide ((Sum.inl a:Key)=Sum.inr b)=false:=QR (λq=>nomatch q)
theorem R7(a:Str)(b:Int):decide ((Sum.inr a:Key)=Sum.inl b)=false:=QR (λq=>nomatch q)
noncomputable def EG(prog:Program)(w:World):PySem.KeyKind prog w Key where
 is:=QM
 hash:=aae w
 inj:=λv a b g d=>by
  rcases cD g with⟨i,t,rfl,rfl⟩|⟨x,t,rfl,rfl⟩
  ·rcases cD d with⟨j,u,rfl,e⟩|⟨y,u,rfl,e⟩
   ·injection e with e1 _;rw[e1]
   ·exact nomatch e
  ·rcases cD d with⟨j,u,rfl,e⟩|⟨y,u,rfl,e⟩
   ·exact nomatch e
   ·injection e with e1 _;rw[e1]
 byValue:=λk v h=>by rcases cD h with⟨i,t,rfl,rfl⟩|⟨x,t,rfl,rfl⟩<;>rfl
 pyHash:=λc h=>by
  rcases cD c with⟨i,t,rfl,rfl⟩|⟨x,t,rfl,rfl⟩
  ·exact wpAny_pyHash_int h
  ·exact wpAny_pyHash_str h
 eqBool:=λf c h=>by
  rcases cD f with⟨i,t,rfl,rfl⟩|⟨x,t,rfl,rfl⟩
  ·rcases cD c with⟨j,u,rfl,rfl⟩|⟨y,u,rfl,rfl⟩
   ·rw[R4]at h;exact wpAny_eqBool_int h
   ·rw[R6]at h;exact SeqAt.EqAt.int_str i t y u _ _ _ _ h
  ·rcases cD c with⟨j,u,rfl,rfl⟩|⟨y,u,rfl,rfl⟩
   ·rw[R7]at h;exact SeqAt.EqAt.str_int x t j u _ _ _ _ h
   ·rw[R5]at h;exact wpAny_eqBool_str h
 «strs»:=λk x t v h=>by
  rcases cD h with⟨i,u,rfl,e⟩|⟨y,u,rfl,e⟩
  ·exact nomatch e
  ·injection e with e1 _;subst e1;cases v<;>rfl
inductive V where
 |bC|bl (b:Bool)|int (i:Int)|str (x:Str)|IT (b:Array UInt8)|R8 (b:UInt64)|ref (a:Addr)|ty (n:String)
 deriving DecidableEq
noncomputable def RelV:V->Value->Prop
 |.bC,u=>u=Value.none
 |.bl b,u=>u=Value.bool b
 |.int i,u=>∃t,u=Value.int i t
 |.str x,u=>∃t,u=Value.str x t
 |.IT b,u=>∃t,u=Value.bytes b t
 |.R8 b,u=>∃t,u=Value.float b t
 |.ref a,u=>u=Value.ref a
 |.ty n,u=>u=Value.type n
abbrev Vals:List V->List Value->Prop:=Paired RelV
theorem Vals.length{a:List V}{us:List Value}(r:Vals a us):a.length=us.length:=Paired.length r
theorem Vals.get:∀{a:List V}{us:List Value}{i:Nat}{x:V},Vals a us->a[i]?=some x->∃u,us[i]?=some u/\RelV x u
 |_,_,_,_,.nil,e=>by simp at e
 |_,_,0,_,.cons r _,e=>by simp at e;subst e;exact⟨_,rfl,r⟩
 |_,_,i+1,x,.cons _ t,e=>by obtain⟨u,c,b⟩:=Vals.get (i:=i) (x:=x) t (by simpa using e);exact⟨u,by simpa using c,b⟩
theorem Vals.set{x:V}{u:Value}(r:RelV x u):∀{a:List V}{us:List Value}(i:Nat),Vals a us->Vals (a.set i x) (us.set i u)
 |_,_,_,.nil=>.nil
 |_,_,0,.cons _ t=>.cons r t
 |_,_,i+1,.cons q t=>.cons q (Vals.set r i t)
theorem Vals.append:∀{b a:List V}{us c:List Value},Vals b us->Vals a c->Vals (b++a) (us++c)
 |_,_,_,_,.nil,s=>s
 |_,_,_,_,.cons r t,s=>.cons r (Vals.append t s)
theorem Vals.take:∀{a:List V}{us:List Value}(n:Nat),Vals a us->Vals (a.take n) (us.take n)
 |_,_,0,_=>.nil
 |_,_,_+1,.nil=>.nil
 |_,_,n+1,.cons r t=>.cons r (Vals.take n t)
theorem Vals.drop:∀{a:List V}{us:List Value}(n:Nat),Vals a us->Vals (a.drop n) (us.drop n)
 |_,_,0,r=>r
 |_,_,_+1,.nil=>.nil
 |_,_,n+1,.cons _ t=>Vals.drop n t
noncomputable def wc:Option V->Option Value->Prop
 |some v,some u=>RelV v u
 |none,none=>True
 |_,_=>False
noncomputable def KV{κ:Type}:List (κ×V)->List (κ×Value)->Prop:=Paired λ(p:κ×V)(q:κ×Value)=>p.1=q.1/\RelV p.2 q.2
noncomputable def kV:Key->V
 |.inl i=>.int i
 |.inr x=>.str x
inductive HO where
 |lst (xs:List V)
 |tup (xs:List V)
 |dK (kvs:List (Key×V))|dT (kvs:List (List Key×V))
 |set (S:Int->Bool) (n:Nat)
 |ins (C dx:Addr) (fs:List (Str×V))
 |own (x:Addr)
 |xd (fs:List (Str×V))
 |met (f x:Addr)
 |oO (lo hi:Int)
 |An (o:Obj) (u:HO)
 |QN (ps:Array Value)
 |ext (φ:Heap->Prop)
abbrev Hp:=Addr->Option HO
noncomputable def upd(H:Hp)(a:Addr)(o:HO):Hp:=λb=>if b=a then some o else H b
theorem aD{H:Hp}{a:Addr}{o:HO}:upd H a o a=some o:=by unfold upd;rw[Bn rfl]
theorem ao{H:Hp}{a b:Addr}{o:HO}(h:b≠a):upd H a o b=H b:=by unfold upd;rw[Bi h]
theorem aV{H:Hp}{a b:Addr}{o:HO}(h:H a=some o)(h':H b=none):a≠b:=by intro e;subst e;rw[h]at h';cases h'
section
variable(P:Program)(w:World)
noncomputable def cL(H:Hp)(h:Heap)(a:Addr):HO->Prop
 |.lst d=>d.length<=sizeLine/\∃(c:List Value)(n:Nat),Vals d c/\h.get? a=some {cls:=.type "list",data:=.seq c.toArray n}
 |.tup d=>d.length<=sizeLine/\∃c:List Value,Vals d c/\IsTup h a c.toArray
 |.dK b=>b.length<=sizeLine/\(a==sysModules)=false/\∃vs,KV b vs/\h.DictOf (EG P w) a vs
 |.dT b=>b.length<=sizeLine/\(a==sysModules)=false/\∃d:List (List Key×Addr×Value),
   Paired (λ(p:List Key×V)(q:List Key×Addr×Value)=>p.1=q.1/\H q.2.1=some (.tup (p.1.map kV))/\RelV p.2 q.2.2) b d/\
   ∃o m y,h.get? a=some o/\o.ExactDict/\o.data=.dict m y/\m.toList=d.map (entryOfKey (tupleKind (EG P w)))/\(d.map (·.1)).Nodup
 |.set S n=>h.SetOf (intKind P w) a S n
 |.ins C i g=>H i=some (.own a)/\g.length<=1000/\i≠a/\h.get? a=some (instObj C i)/\
   ∃e,h.Ns1 i e/\(∀f,wc (g.lookup f) (e f))/\PySem.Within e (g.map (·.1))
 |.own _=>∃o,h.get? a=some o
 |.xd g=>∃e,h.Ns1 a e/\∀f,wc (g.lookup f) (e f)
 |.oO r s=>∃t u v,h.get? a=some {cls:=.type "range",data:=.fields #[.int r t,.int s u,.int 1 v]}
 |.An o u=>h.get? a=some o/\cL H h a u
 |.QN ps=>h.get? a=some {cls:=.none,data:=.fields ps}
 |.met f x=>h.get? a=some (methodObj (.ref f) (.ref x))
 |.ext j=>j h/\(∃o,h.get? a=some o)/\∀l k:Heap,j l->(∀o,l.get? a=some o->k.get? a=some o)->j k
noncomputable def oQ(H:Hp)(h:Heap):Prop:=∀a o,H a=some o->cL P w H h a o
end
section
variable{P:Program}{w:World}{H H':Hp}{h h':Heap}{a:Addr}{o:HO}
theorem cL.lt(x:cL P w H h a o):a<h.objs.size:=by
 cases o with
 |lst c=>obtain⟨_,_,_,_,e⟩:=x;exact FS e
 |tup c=>obtain⟨_,_,_,p⟩:=x;exact p.lt
 |dK b=>obtain⟨_,_,_,_,o,_,_,e,_⟩:=x;exact FS e
 |dT b=>obtain⟨_,_,_,_,o,_,_,e,_⟩:=x;exact FS e
 |set S n=>obtain⟨o,_,_,_,e,_⟩:=x;exact FS e
 |ins C l d=>obtain⟨_,_,_,e,_⟩:=x;exact FS e
 |own y=>obtain⟨_,e⟩:=x;exact FS e
 |xd d=>obtain⟨_,⟨_,_,_,e,_⟩,_⟩:=x;exact FS e
 |oO j k=>obtain⟨_,_,_,e⟩:=x;exact FS e
 |An i u=>obtain⟨e,_⟩:=x;exact FS e
 |QN g=>exact FS (show h.get? a=some _ from x)
 |met f y=>exact FS (show h.get? a=some _ from x)
 |ext φ=>obtain⟨_,⟨_,e⟩,_⟩:=x;exact FS e
theorem Paired.Xd{α e:Type}{F G:α->e->Prop}:∀{d:List α}{c:List e},Paired F d c->(∀a b,F a b->G a b)->Paired G d c
 |_,_,.nil,_=>.nil
 |_,_,.cons r t,f=>.cons (f _ _ r) (Paired.Xd t f)
theorem cL.stay(x:cL P w H h a o)(k:∀b u,(b=a\/H b=some (.own a))->h.get? b=some u->h'.get? b=some u)
 (K:∀b,H b=some (.own a)->H' b=some (.own a))(J:∀b m,H b=some (.tup m)->H' b=some (.tup m)):cL P w H' h' a o:=by
 induction o with
 |lst m=>obtain⟨z,l,n,r,e⟩:=x;exact⟨z,l,n,r,k _ _ (.inl rfl) e⟩
 |tup m=>obtain⟨z,l,r,g,e,c⟩:=x;exact⟨z,l,r,g,k _ _ (.inl rfl) e,c⟩
 |dK B=>obtain⟨z,y,F,r,g,i,j,e,c⟩:=x;exact⟨z,y,F,r,g,i,j,k _ _ (.inl rfl) e,c⟩
 |dT B=>obtain⟨z,y,m,r,g,i,j,e,c⟩:=x;exact⟨z,y,m,Paired.Xd r λp q z=>⟨z.1,J _ _ z.2.1,z.2.2⟩,g,i,j,k _ _ (.inl rfl) e,c⟩
 |set S n=>obtain⟨g,i,j,t,e,c⟩:=x;exact⟨g,i,j,t,k _ _ (.inl rfl) e,c⟩
 |ins C Q L=>obtain⟨d,z,G,e,A,⟨s,i,j,M,c⟩,r⟩:=x;exact⟨K _ d,z,G,k _ _ (.inl rfl) e,A,⟨s,i,j,k _ _ (.inr d) M,c⟩,r⟩
 |own y=>obtain⟨g,e⟩:=x;exact⟨g,k _ _ (.inl rfl) e⟩
 |xd L=>obtain⟨A,⟨s,i,j,e,c⟩,r⟩:=x;exact⟨A,⟨s,i,j,k _ _ (.inl rfl) e,c⟩,r⟩
 |oO N O=>obtain⟨t,u,v,e⟩:=x;exact⟨t,u,v,k _ _ (.inl rfl) e⟩
 |An g u I=>obtain⟨e,q⟩:=x;exact⟨k _ _ (.inl rfl) e,I q⟩
 |QN E=>have e:h.get? a=some {cls:=.none,data:=.fields E}:=x;show h'.get? a=some {cls:=.none,data:=.fields E};exact k a _ (.inl rfl) e
 |met f y=>have e:h.get? a=some (methodObj (.ref f) (.ref y)):=x;show h'.get? a=some (methodObj (.ref f) (.ref y));exact k a _ (.inl rfl) e
 |ext φ=>obtain⟨p,⟨o,e⟩,D⟩:=x;exact⟨D _ _ p λo q=>k _ _ (.inl rfl) q,⟨o,k _ _ (.inl rfl) e⟩,D⟩
theorem oQ.lt(x:oQ P w H h)(e:H a=some o):a<h.objs.size:=(x a o e).lt
theorem oQ.fresh(x:oQ P w H h)(e:h.objs.size<=a):H a=none:=by
 cases q:H a with
 |none=>rfl
 |some u=>exact absurd (Fk (x.lt q) e) (OK _)
theorem oQ.kept(x:oQ P w H h)(k:∀b u,h.get? b=some u->h'.get? b=some u):oQ P w H h':=λa o e=>(x a o e).stay (λb u _ q=>k b u q) (λ_ q=>q) λ_ _ q=>q
theorem oQ.laid(x:oQ P w H h)(k:∀b u,h.get? b=some u->h'.get? b=some u)(i:h.objs.size<=a)(d:cL P w (upd H a o) h' a o):oQ P w (upd H a o) h':=λb u e=>by
 have f:=x.fresh i;by_cases g:b=a
 ·subst g;rw[aD]at e;cases e;exact d
 ·rw[ao g]at e;exact(x b u e).stay (λc v _ q=>k c v q) (λc q=>by rw[ao (aV q f)];exact q) λc j q=>by rw[ao (aV q f)];exact q
end
noncomputable def Rd(H:Hp)(a:Addr)(u:HO):Prop:=H a=some u\/∃o,H a=some (.An o u)
theorem Rd.ok{P:Program}{w:World}{H:Hp}{h:Heap}{a:Addr}{u:HO}(r:Rd H a u)(x:oQ P w H h):cL P w H h a u:=by
 rcases r with r|⟨o,r⟩
 ·exact x a u r
 ·obtain⟨_,q⟩:=x a _ r;exact q
noncomputable def ZO:Option HO->Prop
 |some (.lst _)=>True
 |some (.dK _)=>True
 |some (.dT _)=>True
 |some (.set _ _)=>True
 |some (.ins _ _ _)=>True
 |some (.ext _)=>True
 |_=>False
section
variable{P:Program}{w:World}{H:Hp}{h h':Heap}{x e:Addr}{o':HO}
theorem oQ.write(p:oQ P w H h)(d:ZO (H x))(n:e=x\/H e=some (.own x))(k:∀b u,b≠e->h.get? b=some u->h'.get? b=some u)(t:∃u,h'.get? e=some u)
 (j:cL P w (upd H x o') h' x o'):oQ P w (upd H x o') h':=λb u q=>by
 have o:∀c y,H c=some (.own y)->c≠x:=λc y r z=>by subst z;rw[r]at d;exact d
 have l:∀c a,H c=some (.tup a)->c≠x:=λc a r z=>by subst z;rw[r]at d;exact d
 by_cases g:b=x
 ·subst g;rw[aD]at q;cases q;exact j
 ·rw[ao g]at q;by_cases i:b=e
  ·have m:H b=some (.own x):=by
    rcases n with z|z
    ·exact absurd (i.trans z) g
    ·rw[i];exact z
   rw[q]at m;cases m;obtain⟨v,s⟩:=t;exact⟨v,by rw[i];exact s⟩
  ·refine(p b u q).stay (λc v f r=>k c v ?_ r) (λc r=>by rw[ao (o c b r)];exact r) λc a r=>by rw[ao (l c a r)];exact r
   rcases f with rfl|f
   ·exact i
   ·rintro rfl;rcases n with z|z
    ·exact o c b f z
    ·rw[f]at z;cases z;exact g rfl
end
structure Un(fs ex:List Addr)(H H':Hp)(h h':Heap):Prop where
 keep:∀b o,h.get? b=some o->H b=none->b∉fs->b∉ex->h'.get? b=some o
 slot:∀b o,h.get? b=some o->H b=none->b∈fs->b∉ex->∃sl,h'.get? b=some {o with slots:=sl}
 free:∀b o,h.get? b=some o->H b=none->b∉ex->H' b=none
 there:∀b o,h.get? b=some o->b∉ex->∃o',h'.get? b=some o'
 tups:∀b xs,H b=some (.tup xs)->H' b=some (.tup xs)
 n5:∀b o u,H b=some (.An o u)->H' b=some (.An o u)
 oU:∀b ps,H b=some (.QN ps)->∃more,H' b=some (.QN (ps++more))
section
variable{fs fs' ex ex':List Addr}{H H1 H2:Hp}{h h1 h2 h':Heap}{a x e:Addr}{o:HO}
theorem Un.any(u:Un fs ex H H1 h h1){b:Addr}{c:Obj}(q:h.get? b=some c)(n:H b=none)(d:b∉ex):∃g,h1.get? b=some {c with slots:=g}:=by
 by_cases f:b∈fs
 ·exact u.slot b c q n f d
 ·exact⟨c.slots,u.keep b c q n f d⟩
theorem Un.kept(k:∀b u,h.get? b=some u->h'.get? b=some u):Un fs ex H H h h':=
 ⟨λb c q _ _ _=>k b c q,λb c q _ _ _=>⟨c.slots,k b c q⟩,λ_ _ _ n _=>n,λb c q _=>⟨c,k b c q⟩,λ_ _ q=>q,λ_ _ _ q=>q,λ_ d q=>⟨#[],by rw[q];simp⟩⟩
theorem Un.refl:Un fs ex H H h h:=Un.kept λ_ _ q=>q
theorem Un.laid(k:∀b u,h.get? b=some u->h'.get? b=some u)(f:h.objs.size<=a)(c:H a=none):Un fs ex H (upd H a o) h h' where
 keep:=λb u q _ _ _=>k b u q
 slot:=λb u q _ _ _=>⟨u.slots,k b u q⟩
 free:=λb u q n _=>by rw[ao (KM (Fk (FS q) f))];exact n
 there:=λb u q _=>⟨u,k b u q⟩
 tups:=λb d q=>by rw[ao (aV q c)];exact q
 n5:=λb u d q=>by rw[ao (aV q c)];exact q
 oU:=λb g q=>⟨#[],by rw[ao (aV q c),q];simp⟩
theorem Un.write(c:ZO (H x))(m:e=x\/H e=some (.own x))(k:∀b u,b≠e->h.get? b=some u->h'.get? b=some u)(p:∃u,h'.get? e=some u):Un fs ex H (upd H x o) h h':=by
 have f:∀b,H b=none->b≠x:=λb n z=>by subst z;rw[n]at c;exact c
 have g:∀b,H b=none->b≠e:=λb n z=>by
  subst z;rcases m with r|r
  ·exact f b n r
  ·rw[n]at r;cases r
 have d:∀b u,H b=some u->¬ZO (some u)->b≠x:=λb u q l z=>by subst z;rw[q]at c;exact l c
 refine⟨λb u q n _ _=>k b u (g b n) q,λb u q n _ _=>⟨u.slots,k b u (g b n) q⟩,λb u q n _=>by rw[ao (f b n)];exact n,λb u q _=>?_,
  λb j q=>by rw[ao (d b _ q λz=>z)];exact q,λb u j q=>by rw[ao (d b _ q λz=>z)];exact q,λb s q=>⟨#[],by rw[ao (d b _ q λz=>z),q];simp⟩⟩
 by_cases i:b=e
 ·subst i;exact p
 ·exact⟨u,k b u i q⟩
end
noncomputable def ZP(h:Heap)(H:Hp):List Addr:=(List.range h.objs.size).filter λa=>(H a).isSome
noncomputable def yr(h:Heap)(H:Hp):Heap:=PySem.W.hideAll h (ZP h H)
theorem GK(h:Heap)(H:Hp):(yr h H).objs.size=h.objs.size:=PySem.W.hideAll_size _ _
theorem Jg{h:Heap}{H:Hp}{b:Addr}{o:Obj}(e:h.get? b=some o)(n:H b=none):(yr h H).get? b=some o:=
 hideAll_get _ e λa=>by have q:(H b).isSome=true:=(ij.mp a).2;rw[n]at q;simp at q
theorem MX{h:Heap}{H:Hp}{b:Addr}{o:Obj}(e:(yr h H).get? b=some o):h.get? b=some o/\H b=none:=by
 have a:h.get? b=some o:=PySem.W.of_hideAll (ZP h H) e;refine⟨a,?_⟩;cases q:H b with
 |none=>rfl
 |some x=>have c:b∈ZP h H:=ij.mpr ⟨cm.mpr (FS a),by simp[q]⟩;have z:(yr h H).get? b=none:=PySem.W.hideAll_none (ZP h H) c;rw[z]at e;cases e
noncomputable def MY(g h:Heap)(L:Addr):List (Addr×Obj):=(List.range h.objs.size).filterMap λa=>if a=L\/(g.get? a).isSome=true then none else(h.get? a).map λo=>(a,o)
noncomputable def rest(g h:Heap)(L d:Addr):List (Addr×Obj):=(MY g h L).filter λp=>decide (p.1≠d)
structure Mod(K:Frag)(mg:Str->Option Value)(base:Heap):Prop where
 Sa:K.In base
 glob:base.Ns mainGlobals mg
 blt:∃mb,base.Ns builtinsNs mb/\∀x:Str,x≠"__name__"->mb x=bootBuiltins x
 nolimit:base.NoLimit
 seer:base.NoSeer
set_option genInjectivity false in
set_option genSizeOf false in
structure Cx where
 prog:Program
 w:World
 K:Frag
 mg:Str->Option Value
 base:Heap
 A:Around
 N:List Str
 s₀:Shared
 H₀:Hp
 env:Env
 outer:List Env
 stack:List Env
 ex:List Addr
 fn:Str->Bool
 calm:Bool
 pn:List (Addr×Obj)
 xe:Value->Shared->Prop
noncomputable def frs(l:List Env):List Addr:=l.filterMap (·.frame)
abbrev Cx.fs(X:Cx):List Addr:=frs X.outer
noncomputable def Wz(sc:Scope)(x:Str):Prop:=sc.names.lookup x=some .local\/sc.names.lookup x=some .cell\/sc.names.lookup x=some .free
noncomputable def Loc(sc:Scope)(x:Str):Prop:=sc.names.lookup x=some .local\/sc.names.lookup x=some .cell
noncomputable def Look(env:Env)(h:Heap)(m:Str->Option Value)(x:Str)(u:Value):Prop:=
 (env.kindOf x=some .local/\m x=some u)\/((env.kindOf x=some .cell\/env.kindOf x=some .free)/\∃c,env.cells.lookup x=some c/\h.IsCell c (some u))
structure Cx.Ok(X:Cx):Prop where
 mod:Mod X.K X.mg X.base
 kind:X.env.scope.kind=.function
 glob:X.env.globals=mainGlobals
 blt:X.env.builtins=builtinsNs
 above:X.s₀.heap.objs.size<=X.env.locals
 inj:∀x y c,X.env.cells.lookup x=some c->X.env.cells.lookup y=some c->x=y
 has:∀x,(X.env.kindOf x=some .cell\/X.env.kindOf x=some .free)->∃c,X.env.cells.lookup x=some c
 WA:∀x c,X.fn x=true->X.env.cells.lookup x=some c->X.s₀.heap.objs.size<=c
 hd:X.calm=true->X.A.handled=none
 frames:X.A.frames=some X.stack
 stk:X.stack=X.outer\/(X.stack=X.env::X.outer/\X.env.frame=some X.env.locals)
 ZQ:∀b∈X.ex,b≠X.env.locals/\∀x c,X.env.cells.lookup x=some c->c≠b
 bs:∀b o,X.base.get? b=some o->X.s₀.heap.get? b=some o/\X.H₀ b=none
 MR:X.base.objs.size<=X.s₀.heap.objs.size
 GL:∀b o,X.base.get? b=some o->b∉X.ex
 GN:∀b∈X.ex,b∉X.fs
 qK:X.s₀.heap.FunFrames X.base X.outer
 QO:∀b∈X.fs,X.H₀ b=none
 tree:X.prog.given.tree=none
 Xf:∀(A:Around)(s:Shared),A.frames=X.A.frames->A.depth=X.A.depth->(∀b o,X.base.get? b=some o->s.heap.get? b=some o)->PylongRoom (model X.prog X.w) A s
structure Inv(X:Cx)(pins:List (Addr×Obj))(σ:List (Option V))(H:Hp)(s:Shared):Prop where
 ok:X.Ok
 os:s.os=X.s₀.os
 bare:AllBare s.gens
 base:Un X.fs X.ex X.H₀ H X.s₀.heap s.heap
 loc:∃m,s.heap.Ns X.env.locals m/\∀(i:Nat)(x:Str)(v:V),X.N[i]?=some x->σ[i]?=some (some v)->Wz X.env.scope x->∃u,RelV v u/\Look X.env s.heap m x u
 cell:∀x c,X.env.cells.lookup x=some c->∃v,s.heap.IsCell c v
 free:H X.env.locals=none
 ja:∀x c,X.env.cells.lookup x=some c->H c=none
 pin:∀p∈X.pn++pins,s.heap.get? p.1=some p.2/\H p.1=none/\p.1≠X.env.locals/\p.1∉X.fs/\∀v,p.2.data≠.cell v
 hok:oQ X.prog X.w H s.heap
 len:σ.length=X.N.length
section
variable{X:Cx}{pins:List (Addr×Obj)}{σ:List (Option V)}{H H':Hp}{s:Shared}{h':Heap}
theorem Cx.Ok.GO(a:X.Ok){b:Addr}{o:Obj}(e:X.base.get? b=some o):b∉X.fs:=λc=>by have:=(a.qK.mem c).1;rw[e]at this;cases this
theorem Inv.bs(I:Inv X pins σ H s):∀b o,X.base.get? b=some o->s.heap.get? b=some o/\H b=none:=λb o e=>⟨I.base.keep b o (I.ok.bs b o e).1 (I.ok.bs b o e).2 (I.ok.GO e) (I.ok.GL b o e),I.base.free b o (I.ok.bs b o e).1 (I.ok.bs b o e).2 (I.ok.GL b o e)⟩
theorem Inv.bk(I:Inv X pins σ H s):∀b o,X.base.get? b=some o->s.heap.get? b=some o:=λb o e=>(I.bs b o e).1
theorem Inv.mod(I:Inv X pins σ H s):Mod X.K X.mg X.base:=I.ok.mod
theorem Inv.oR(I:Inv X pins σ H s):X.K.In s.heap:=I.ok.mod.Sa.keeps I.bk
theorem Inv.lt(I:Inv X pins σ H s):X.env.locals<s.heap.objs.size:=let⟨_,hn,_⟩:=I.loc;hn.lt
theorem Inv.sz(I:Inv X pins σ H s):X.s₀.heap.objs.size<=s.heap.objs.size:=Da I.ok.above (PQ I.lt)
theorem Inv.aag(I:Inv X pins σ H s){a:Addr}(h:s.heap.objs.size<=a):a∉X.fs:=λc=>by obtain⟨_,o,b,_⟩:=I.ok.qK.mem c;exact absurd (Fk (FS b) (Da I.sz h)) (OK _)
theorem Inv.Jh(I:Inv X pins σ H s):∀x c,X.env.cells.lookup x=some c->c≠X.env.locals:=λx c e z=>by obtain⟨v,o,d,f⟩:=I.cell x c e;obtain⟨m,⟨g,h,i,a,b,_⟩,_⟩:=I.loc;rw[z,a]at d;cases d;rw[b]at f;cases f
theorem Inv.qK(I:Inv X pins σ H s):s.heap.FunFrames X.base X.outer:=by
 have f:∀(l:List Env),(∀b∈frs l,b∈X.fs)->X.s₀.heap.FunFrames X.base l->s.heap.FunFrames X.base l:=by
  intro l
  induction l with
  |nil=>intro _ _;trivial
  |cons env r h=>intro g m;obtain⟨n,⟨L,o,a,k,j,p⟩,i⟩:=m;have d:L∈X.fs:=g L (by unfold frs;rw[List.filterMap_cons,a];exact FV);obtain⟨q,e⟩:=I.base.slot L o j (I.ok.QO L d) d λz=>I.ok.GN L z d;exact⟨n,⟨L,_,a,k,e,p⟩,h (λb c=>g b (by unfold frs;rw[List.filterMap_cons,a];exact FR _ c)) i⟩
 exact f X.outer (λ_ c=>c) I.ok.qK
theorem Inv.stack(I:Inv X pins σ H s):s.heap.FunFrames X.base X.stack:=by
 rcases I.ok.stk with e|⟨e,b⟩
 ·rw[e];exact I.qK
 ·rw[e];obtain⟨m,a,_⟩:=I.loc;refine .cons (by rw[I.ok.kind];decide) b a ?_ I.qK;exact Heap.get?_none_of_le (Da I.ok.MR I.ok.above)
theorem Inv.CC(I:Inv X pins σ H s):∀b∈frs X.stack,b∈X.env.locals::X.fs:=λb a=>by
 rcases I.ok.stk with e|⟨e,c⟩
 ·rw[e]at a;exact FR _ a
 ·rw[e]at a;unfold frs at a;rw[List.filterMap_cons,c]at a;exact a
theorem Inv.mH(I:Inv X pins σ H s):∀b∈frs X.stack,H b=none:=λb a=>by
 rcases GT.mp (I.CC b a)with e|a
 ·rw[e];exact I.free
 ·obtain⟨_,o,c,_⟩:=I.ok.qK.mem a;exact I.base.free b o c (I.ok.QO b a) λz=>I.ok.GN b z a
theorem Inv.step{g':Array GenState}{t':Nat}{d':Drawn}{ch:List Addr}(I:Inv X pins σ H s)
 (f:∀b∈ch,(b∈X.ex\/X.s₀.heap.objs.size<=b)/\b≠X.env.locals/\(∀x c,X.env.cells.lookup x=some c->c≠b)/\∀p∈X.pn++pins,p.1≠b)
 (keep:∀b o,b≠X.env.locals->b∉X.fs->b∉ch->s.heap.get? b=some o->H b=none->h'.get? b=some o)
 (slot:∀b o,b≠X.env.locals->b∈X.fs->b∉ch->s.heap.get? b=some o->H b=none->∃J,h'.get? b=some {o with slots:=J})(free:∀b o,b∉ch->s.heap.get? b=some o->H b=none->H' b=none)
 (there:∀b o,b∉ch->s.heap.get? b=some o->∃A,h'.get? b=some A)
 (tups:∀b j,H b=some (.tup j)->H' b=some (.tup j))(n5:∀b o u,H b=some (.An o u)->H' b=some (.An o u))(oU:∀b ps,H b=some (.QN ps)->∃C,H' b=some (.QN (ps++C)))
 (ns:∀m,s.heap.Ns X.env.locals m->h'.Ns X.env.locals m)(K:oQ X.prog X.w H' h')(U:AllBare g'):
 Inv X pins σ H' {s with heap:=h',gens:=g',drawn:=d',toks:=t'}:=by
 have B:∀b o,X.s₀.heap.get? b=some o->b≠X.env.locals:=λb o e=>KM (Fk (FS e) I.ok.above);have F:∀b o,X.s₀.heap.get? b=some o->b∉X.ex->b∉ch:=λb o e a t=>by
  rcases(f b t).1 with z|z
  ·exact a z
  ·exact absurd (Fk (FS e) z) (OK _)
 have g:∀x c,X.env.cells.lookup x=some c->∀v,s.heap.IsCell c v->h'.IsCell c v:=by
  rintro x c e v ⟨o,y,L⟩;have E:c∉ch:=λz=>(f c z).2.2.1 x c e rfl;by_cases P:c∈X.fs
  ·obtain⟨J,q⟩:=slot c o (I.Jh x c e) P E y (I.ja x c e);exact⟨_,q,L⟩
  ·exact⟨o,keep c o (I.Jh x c e) P E y (I.ja x c e),L⟩
 refine⟨I.ok,I.os,U,⟨λb o e n t a=>?_,λb o e n t a=>?_,λb o e n a=>?_,λb o e a=>?_,λb j e=>tups b j (I.base.tups b j e),λb o j e=>n5 b o j (I.base.n5 b o j e),λb ps e=>?_⟩,?_,λx c e=>?_,?_,λx c e=>?_,λp O=>?_,K,I.len⟩
 ·exact keep b o (B b o e) t (F b o e a) (I.base.keep b o e n t a) (I.base.free b o e n a)
 ·obtain⟨J,h⟩:=I.base.slot b o e n t a;obtain⟨G,D⟩:=slot b _ (B b o e) t (F b o e a) h (I.base.free b o e n a);exact⟨G,D⟩
 ·obtain⟨A,h⟩:=I.base.there b o e a;exact free b A (F b o e a) h (I.base.free b o e n a)
 ·obtain⟨A,h⟩:=I.base.there b o e a;exact there b A (F b o e a) h
 ·obtain⟨R,h⟩:=I.base.oU b ps e;obtain⟨Q,D⟩:=oU b _ h;exact⟨R++Q,by rw[D,Array.append_assoc]⟩
 ·obtain⟨m,S,T⟩:=I.loc;refine⟨m,ns m S,λi x v h D Y=>?_⟩;obtain⟨u,r,l⟩:=T i x v h D Y;refine⟨u,r,?_⟩;rcases l with l|⟨k,c,e,z⟩
  ·exact .inl l
  ·exact .inr ⟨k,c,e,g x c e _ z⟩
 ·obtain⟨v,z⟩:=I.cell x c e;exact⟨v,g x c e v z⟩
 ·obtain⟨m,⟨o,_,_,y,_⟩,_⟩:=I.loc;exact free _ o (λz=>(f _ z).2.1 rfl) y I.free
 ·obtain⟨v,o,y,L⟩:=I.cell x c e;exact free c o (λz=>(f c z).2.2.1 x c e rfl) y (I.ja x c e)
 ·obtain⟨e,n,N,M,d⟩:=I.pin p O;have E:p.1∉ch:=λz=>(f p.1 z).2.2.2 p O rfl;exact⟨keep p.1 p.2 N M E e n,free p.1 p.2 E e n,N,M,d⟩
theorem Inv.un{t':Nat}(I:Inv X pins σ H s)(u:Un X.fs [] H H' s.heap h')(c:oQ X.prog X.w H' h'):Inv X pins σ H' {s with heap:=h',toks:=t'}:=by obtain⟨m,⟨o,t,v,h,r⟩,_⟩:=id I.loc;obtain⟨l,k⟩:=u.any h I.free (by simp);exact I.step (g':=s.gens) (d':=s.drawn) (ch:=[]) (λ_ z=>nomatch z) (λb o _ d _ e n=>u.keep b o e n d (by simp)) (λb o _ d _ e n=>u.slot b o e n d (by simp)) (λb o _ e n=>u.free b o e n (by simp)) (λb o _ e=>u.there b o e (by simp)) u.tups u.n5 u.oU (λq j=>by obtain⟨p,f,g,a,i⟩:=j;rw[h]at a;cases a;exact⟨_,f,g,k,i⟩) c I.bare
theorem Inv.call{g':Array GenState}{t':Nat}{d':Drawn}{ch:List Addr}(I:Inv X pins σ H s)(u:Un (frs X.stack) ch H H' s.heap h')(g:oQ X.prog X.w H' h')(t:AllBare g')
 (f:∀b∈ch,(b∈X.ex\/X.s₀.heap.objs.size<=b)/\b≠X.env.locals/\(∀x c,X.env.cells.lookup x=some c->c≠b)/\∀p∈X.pn++pins,p.1≠b):
 Inv X pins σ H' {s with heap:=h',gens:=g',drawn:=d',toks:=t'}:=by
 obtain⟨m,⟨o,C,D,k,r⟩,_⟩:=id I.loc;obtain⟨y,h⟩:=u.any k I.free λz=>(f _ z).2.1 rfl;exact I.step (ch:=ch) f (λb o h v a e n=>u.keep b o e n (λz=>(GT.mp (I.CC b z)).elim h v) a) (λb o _ _ a e n=>u.any e n a) (λb o a e n=>u.free b o e n a) (λb o a e=>u.there b o e a) u.tups u.n5 u.oU (λB q=>by obtain⟨A,i,j,d,l⟩:=q;rw[k]at d;cases d;exact⟨_,i,j,h,l⟩) g t
theorem Inv.turned{t':Nat}{a:Addr}(I:Inv X pins σ H s)(k:∀b o,b≠a->s.heap.get? b=some o->h'.get? b=some o)(i:H a=none)(g:a≠X.env.locals)
 (y:a∈X.ex\/X.s₀.heap.objs.size<=a)(w:∀x c,X.env.cells.lookup x=some c->c≠a)(t:∀p∈X.pn++pins,p.1≠a):Inv X pins σ H {s with heap:=h',toks:=t'}:=by
 have f:∀b u,H b=some u->b≠a:=λb u e z=>by rw[z,i]at e;cases e
 refine I.step (g':=s.gens) (d':=s.drawn) (ch:=[a]) (λb l=>?_) (λb o _ _ d e _=>k b o (λz=>d (by simp[z])) e) (λb o _ _ d e _=>⟨o.slots,k b o (λz=>d (by simp[z])) e⟩) (λ_ _ _ _ n=>n)
  (λb o d e=>⟨o,k b o (λz=>d (by simp[z])) e⟩) (λ_ _ e=>e) (λ_ _ _ e=>e) (λb C e=>⟨#[],by rw[e];simp⟩) (λm j=>?_) (λb u e=>?_) I.bare
 ·have e:b=a:=by simpa using l
  subst e;exact⟨y,g,w,t⟩
 ·obtain⟨o,A,B,h,r⟩:=j;exact⟨o,A,B,k _ o (RF g) h,r⟩
 ·refine(I.hok b u e).stay (λc v d q=>k c v ?_ q) (λ_ q=>q) λ_ _ q=>q;rcases d with z|z
  ·rw[z];exact f b u e
  ·exact f c _ z
theorem Inv.tok(I:Inv X pins σ H s)(t:Nat):Inv X pins σ H {s with toks:=t}:=I.un (h':=s.heap) (t':=t) Un.refl I.hok
theorem Inv.kept{t':Nat}(I:Inv X pins σ H s)(k:∀b u,s.heap.get? b=some u->h'.get? b=some u):Inv X pins σ H {s with heap:=h',toks:=t'}:=I.un (Un.kept k) (I.hok.kept k)
theorem Inv.laid{a:Addr}{o:HO}{t':Nat}(I:Inv X pins σ H s)(k:∀b u,s.heap.get? b=some u->h'.get? b=some u)(d:s.heap.objs.size<=a)(c:cL X.prog X.w (upd H a o) h' a o):
 Inv X pins σ (upd H a o) {s with heap:=h',toks:=t'}:=I.un (Un.laid k d (I.hok.fresh d)) (I.hok.laid k d c)
theorem Inv.write{x e:Addr}{o:HO}{t':Nat}(I:Inv X pins σ H s)(c:ZO (H x))(d:e=x\/H e=some (.own x))(k:∀b u,b≠e->s.heap.get? b=some u->h'.get? b=some u)(f:∃u,h'.get? e=some u)
 (a:cL X.prog X.w (upd H x o) h' x o):Inv X pins σ (upd H x o) {s with heap:=h',toks:=t'}:=I.un (Un.write c d k f) (I.hok.write c d k f a)
theorem Inv.EH{a:List (Addr×Obj)}(I:Inv X pins σ H s)(h:∀p∈a,s.heap.get? p.1=some p.2/\H p.1=none/\p.1≠X.env.locals/\p.1∉X.fs/\∀v,p.2.data≠.cell v):Inv X a σ H s:=
 ⟨I.ok,I.os,I.bare,I.base,I.loc,I.cell,I.free,I.ja,λp b=>(Iy.mp b).elim (λz=>I.pin p (X1 _ z)) (h p),I.hok,I.len⟩
theorem tO{N:List Str}(c:N.Nodup){i j:Nat}{x:Str}(a:N[i]?=some x)(b:N[j]?=some x):i=j:=by obtain⟨g,e⟩:=Fs.mp a;obtain⟨f,d⟩:=Fs.mp b;exact(List.getElem_inj c).mp (e.trans d.symm)
theorem w6{M:Model}{A:Around}{E:Value->Shared->Prop}{i:Nat}{x:Str}{v:V}{u:Value}{Q:Unit->Shared->Prop}(I:Inv X pins σ H s)(hN:X.N.Nodup)(O:X.N[i]?=some x)(B:Loc X.env.scope x)(r:RelV v u)
 (h:∀s',Inv X pins (σ.set i (some v)) H s'->(∃a,Heap.SameBut a s.heap s'.heap/\(a=X.env.locals\/X.env.cells.lookup x=some a))->Q () s')(hf:X.fn x=true\/X.env.scope.names.lookup x=some .local:=by first|exact .inl rfl|exact .inr rfl|assumption):wpAny M A (storeName X.env x u) Q E s:=by
 obtain⟨m,hn,hl⟩:=id I.loc;have P:(X.env.scope.kind==.class||(X.env.scope.kind==.module&&X.env.locals !=X.env.globals))=false:=by rw[I.ok.kind];rfl
 have MZ:i<σ.length:=by rw[I.len];exact(Fs.mp O).1
 have Jh:=I.Jh;have g:∀{a:Addr}{h':Heap},(∃o,s.heap.get? a=some o/\H a=none)->Heap.SameBut a s.heap h'->oQ X.prog X.w H h':=λ{a h'} ha f b ob e=>by
  obtain⟨_,_,C⟩:=ha;refine(I.hok b ob e).stay (λc T t q=>(f.2 c ?_).trans q) (λ_ q=>q) λ_ _ q=>q;rintro rfl;rcases t with rfl|t
  ·rw[C]at e;cases e
  ·rw[C]at t;cases t
 rcases B with F|F
 ·refine wpAny_storeName_local F hn (λh' hn' f=>?_) P;obtain⟨oL,_,_,hoL,_⟩:=id hn;refine h _ ⟨I.ok,I.os,I.bare,⟨λb o e n K B=>?_,λb o e n K B=>?_,I.base.free,λb o e B=>?_,I.base.tups,I.base.n5,I.base.oU⟩,⟨_,hn',λj y Z l D e3=>?_⟩,λy c e=>?_,I.free,I.ja,λp hp=>?_,g ⟨oL,hoL,I.free⟩ f,by simpa using I.len⟩ ⟨_,f,.inl rfl⟩
  ·exact(f.2 b (KM (Fk (FS e) I.ok.above))).trans (I.base.keep b o e n K B)
  ·obtain⟨sl,l⟩:=I.base.slot b o e n K B;exact⟨sl,(f.2 b (KM (Fk (FS e) I.ok.above))).trans l⟩
  ·obtain⟨o',l⟩:=I.base.there b o e B;exact⟨o',(f.2 b (KM (Fk (FS e) I.ok.above))).trans l⟩
  ·by_cases G:j=i
   ·subst G;rw[O]at l;cases l;rw[SC MZ]at D;cases D;exact⟨u,r,.inl ⟨F,by simp⟩⟩
   ·rw[Kt (RF G)]at D;obtain⟨u',r',q⟩:=hl j y Z l D e3;refine⟨u',r',?_⟩;rcases q with⟨k,e⟩|⟨k,c,e,z⟩
    ·refine .inl ⟨k,?_⟩;have:y≠x:=λe=>G (tO hN l (e▸O));simp[this,e]
    ·exact .inr ⟨k,c,e,z.sameBut f (Jh y c e)⟩
  ·obtain⟨T,z⟩:=I.cell y c e;exact⟨T,z.sameBut f (Jh y c e)⟩
  ·obtain⟨e,n,U,nf,d⟩:=I.pin p hp;exact⟨(f.2 p.1 U).trans e,n,U,nf,d⟩
 ·have J:X.fn x=true:=by
   rcases hf with z|z
   ·exact z
   ·rw[z]at F;cases F
  obtain⟨c,t⟩:=I.ok.has x (.inl F);obtain⟨T,z⟩:=I.cell x c t;refine wpAny_storeName_cell I.ok.kind F t z (λh' S f=>?_);obtain⟨oc,L,aai⟩:=id z;refine h {s with heap:=h'} ⟨I.ok,I.os,I.bare,⟨λb o e n K B=>?_,λb o e n K B=>?_,I.base.free,λb o e B=>?_,I.base.tups,I.base.n5,I.base.oU⟩,⟨m,hn.sameBut f (RF (Jh x c t)),λj y Z l D e3=>?_⟩,λy Y e=>?_,I.free,I.ja,λp hp=>?_,g ⟨oc,L,I.ja x c t⟩ f,by simpa using I.len⟩ ⟨c,f,.inr t⟩
  ·exact(f.2 b (KM (Fk (FS e) (I.ok.WA x c J t)))).trans (I.base.keep b o e n K B)
  ·obtain⟨sl,l⟩:=I.base.slot b o e n K B;exact⟨sl,(f.2 b (KM (Fk (FS e) (I.ok.WA x c J t)))).trans l⟩
  ·obtain⟨o',l⟩:=I.base.there b o e B;exact⟨o',(f.2 b (KM (Fk (FS e) (I.ok.WA x c J t)))).trans l⟩
  ·by_cases G:j=i
   ·subst G;rw[O]at l;cases l;rw[SC MZ]at D;cases D;exact⟨u,r,.inr ⟨.inl F,c,t,S⟩⟩
   ·rw[Kt (RF G)]at D;obtain⟨u',r',q⟩:=hl j y Z l D e3;refine⟨u',r',?_⟩;rcases q with q|⟨k,Y,e,z'⟩
    ·exact .inl q
    ·refine .inr ⟨k,Y,e,z'.sameBut f ?_⟩;rintro rfl;exact G (tO hN l (I.ok.inj _ _ _ e t▸O))
  ·by_cases R:Y=c
   ·subst R;exact⟨_,S⟩
   ·obtain⟨w2,z2⟩:=I.cell y Y e;exact⟨w2,z2.sameBut f R⟩
  ·obtain⟨e,n,U,nf,d⟩:=I.pin p hp;refine⟨(f.2 p.1 ?_).trans e,n,U,nf,d⟩;intro q;rw[q,L]at e;have q':oc=p.2:=IR e;exact d T (by rw[←q'];exact aai)
theorem gD{M:Model}{A:Around}{E:Value->Shared->Prop}{i:Nat}{x:Str}{v:V}{u:Value}{Q:Unit->Shared->Prop}(I:Inv X pins σ H s)(d:X.N.Nodup)(b:X.N[i]?=some x)(a:Loc X.env.scope x)(r:RelV v u)
 (h:∀s',Inv X pins (σ.set i (some v)) H s'->Q () s')(c:X.fn x=true\/X.env.scope.names.lookup x=some .local:=by first|exact .inl rfl|exact .inr rfl|assumption):wpAny M A (storeName X.env x u) Q E s:=
 w6 I d b a r (λs' e _=>h s' e) c
theorem Inv.Ji{s':Shared}{ch:List Addr}(I:Inv X pins σ H s)(g:s'.os=s.os)(u:Un (frs X.stack) ch H H' s.heap s'.heap)(a:oQ X.prog X.w H' s'.heap)(h:AllBare s'.gens)
 (d:∀b∈ch,(b∈X.ex\/X.s₀.heap.objs.size<=b)/\b≠X.env.locals/\(∀x c,X.env.cells.lookup x=some c->c≠b)/\∀p∈X.pn++pins,p.1≠b):Inv X pins σ H' s':=by
 obtain⟨h',g',d',t',f⟩:=s';have e:f=s.os:=g;subst e;exact I.call (g':=g') (t':=t') (d':=d') u a h d
end
abbrev XK:=Value->Option Addr->Hp->Prop
abbrev St:=List (Option V)
abbrev VK:=V->Hp->Prop
abbrev TE:=St->Hp->VK->Prop
abbrev TT:=St->Hp->(Bool->Hp->Prop)->Prop
abbrev TA:=St->Hp->(List V->Hp->Prop)->Prop
set_option genInjectivity false in
set_option genSizeOf false in
structure Ends where
 nx:St->Hp->Prop
 rt:VK
 bk:St->Hp->Prop:=λ_ _=>False
 ct:St->Hp->Prop:=λ_ _=>False
abbrev TS:=Ends->St->Hp->Prop
noncomputable def EP(X:Cx)(a:List (Addr×Obj))(σ:St)(Q:VK)(u:Value)(s':Shared):Prop:=∃v b,Inv X a σ b s'/\RelV v u/\Q v b
noncomputable def TP(X:Cx)(a:List (Addr×Obj))(σ:St)(Q:Bool->Hp->Prop)(b:Bool)(s':Shared):Prop:=∃c,Inv X a σ c s'/\Q b c
noncomputable def AP(X:Cx)(a:List (Addr×Obj))(σ:St)(Q:List V->Hp->Prop)(us:List Value)(s':Shared):Prop:=∃b c,Inv X a σ c s'/\Vals b us/\Q b c
noncomputable def SP(X:Cx)(b:List (Addr×Obj))(D:Ends)(f:Flow)(s':Shared):Prop:=
 match f with
 |.next=>∃a c,Inv X b a c s'/\D.nx a c
 |.brk=>∃a c,Inv X b a c s'/\D.bk a c
 |.cont=>∃a c,Inv X b a c s'/\D.ct a c
 |.ret u=>∃v a c,Inv X b a c s'/\RelV v u/\D.rt v c
noncomputable def PE(X:Cx)(e:Expr)(t:TE):Prop:=
 ∀(a:List (Addr×Obj))(s:Shared)(b:St)(H:Hp)(Q:VK),Inv X a b H s->t b H Q->wpAny (model X.prog X.w) X.A (eval e X.env) (EP X a b Q) X.xe s
noncomputable def PT(X:Cx)(e:Expr)(t:TT):Prop:=
 ∀(a:List (Addr×Obj))(s:Shared)(b:St)(H:Hp)(Q:Bool->Hp->Prop),Inv X a b H s->t b H Q->wpAny (model X.prog X.w) X.A (isTrue e X.env (eval e X.env)) (TP X a b Q) X.xe s
noncomputable def PW(X:Cx)(e:Expr)(t:TT):Prop:=
 ∀(b:Sem Value)(a:List (Addr×Obj))(s:Shared)(c:St)(H:Hp)(Q:Bool->Hp->Prop),Inv X a c H s->t c H Q->wpAny (model X.prog X.w) X.A (isTrue e X.env b) (TP X a c Q) X.xe s
theorem PW.pt{X:Cx}{e:Expr}{t:TT}(h:PW X e t):PT X e t:=h _
noncomputable def PA(X:Cx)(d:List Expr)(t:TA):Prop:=
 ∀(c:Pos)(a:List (Addr×Obj))(s:Shared)(b:St)(H:Hp)(Q:List V->Hp->Prop),Inv X a b H s->t b H Q->wpAny (model X.prog X.w) X.A (spliced (backTo c (starEach d X.env))) (AP X a b Q) X.xe s
noncomputable def PS(X:Cx)(st:Stmt)(t:TS):Prop:=
 ∀(a:List (Addr×Obj))(s:Shared)(b:St)(H:Hp)(D:Ends),Inv X a b H s->t D b H->wpAny (model X.prog X.w) X.A (exec st X.env) (SP X a D) X.xe s
noncomputable def Ag(X:Cx)(st:List Stmt)(t:TS):Prop:=
 ∀(a:List (Addr×Obj))(s:Shared)(b:St)(H:Hp)(D:Ends),Inv X a b H s->t D b H->wpAny (model X.prog X.w) X.A (execs st X.env) (SP X a D) X.xe s
theorem cM{α:Type}{t:Sem α}{Q b:α->Shared->Prop}{M:Model}{A:Around}{E:Value->Shared->Prop}{s:Shared}(h:wpAny M A t Q E s)(c:∀a s,Q a s->b a s):wpAny M A t b E s:=dt h c λ_ _ x=>x
section
variable{X:Cx}
theorem bin{a b:Expr}{ta j:TE}(r:PE X a ta)(q:PE X b j){c:List (Addr×Obj)}{s:Shared}{σ:St}{H:Hp}{R:V->V->Hp->Prop}(I:Inv X c σ H s)(h:ta σ H λx H1=>j σ H1 λy d=>R x y d)
 {α:Type}{Q:α->Shared->Prop}{f:Value->Value->Sem α}
 (p:∀v u i x y d,Inv X c σ d i->RelV x v->RelV y u->R x y d->wpAny (model X.prog X.w) X.A (f v u) Q X.xe i):
 wpAny (model X.prog X.w) X.A (eval a X.env) (λv g=>wpAny (model X.prog X.w) X.A (eval b X.env) (λu e=>wpAny (model X.prog X.w) X.A (f v u) Q X.xe e) X.xe g) X.xe s:=by
 refine cM (r c s σ H _ I h) ?_;rintro v k ⟨x,H1,z,m,o⟩;refine cM (q c k σ H1 _ z o) ?_;rintro u i ⟨y,d,t,l,n⟩;exact p v u i x y d t m l n
noncomputable def qL(i:Nat):TE:=λa H Q=>∃v,a[i]?=some (some v)/\Q v H
noncomputable def tC(v:V):TE:=λ_ H Q=>Q v H
theorem Jj{i:Nat}{x:Str}{pos:Pos}(w:X.N[i]?=some x)(o:Wz X.env.scope x)(g:(x==("__debug__":Str))=false:=by decide)(j:(x==("__classdict__":Str))=false:=by decide):PE X (.Name x pos) (qL i):=by
 intro f s n H Q I h;obtain⟨v,e,h⟩:=h;obtain⟨m,p,t⟩:=I.loc;obtain⟨u,r,l⟩:=t i x v w e o;have d:EP X f n Q u s:=⟨v,H,I,r,h⟩;rcases l with⟨b,q⟩|⟨b,c,k,a⟩
 ·exact wpAny_Name (wpAny_loadName_local I.ok.kind b p q d) g
 ·rcases b with b|b
  ·exact wpAny_Name (wpAny_loadName_cell I.ok.kind b k a d) g
  ·exact wpAny_Name (wpAny_loadName_free I.ok.kind b k a d j) g
theorem n6{i j pos}:PE X (.Constant (.int i) j pos) (tC (.int i)):=λ_ _ _ H _ I h=>wpAny_Constant_int ⟨.int i,H,I.tok _,⟨_,rfl⟩,h⟩
theorem EI{b j pos}:PE X (.Constant (.bool b) j pos) (tC (.bl b)):=λ_ _ _ H _ I h=>Constant_bool ⟨.bl b,H,I,rfl,h⟩
theorem Jk{j pos}:PE X (.Constant .none j pos) (tC .bC):=λ_ _ _ H _ I h=>Constant_none ⟨.bC,H,I,rfl,h⟩
theorem Sb{x j pos}:PE X (.Constant (.str x) j pos) (tC (.str x)):=λ_ _ _ H _ I h=>Calls.Constant_str ⟨.str x,H,I.tok _,⟨_,rfl⟩,h⟩
noncomputable def Gl(X:Cx)(x:Str):Prop:=X.env.kindOf x=some .globalImplicit
theorem mJ{E:Value->Shared->Prop}{a:List (Addr×Obj)}{s:Shared}{σ:St}{H:Hp}{x:Str}{u:Value}{pos:Pos}{Q:Value->Shared->Prop}(I:Inv X a σ H s)(c:Gl X x)(b:X.mg x=some u)(h:Q u s)
 (d:(x==("__debug__":Str))=false:=by decide):wpAny (model X.prog X.w) X.A (eval (.Name x pos) X.env) Q E s:=
 Calls.Name_function_global I.ok.kind c (Calls.loadGlobal_global (by rw[I.ok.glob];exact I.mod.glob.keeps I.bk) b h) d
theorem ji{E:Value->Shared->Prop}{a:List (Addr×Obj)}{s:Shared}{σ:St}{H:Hp}{x:Str}{u:Value}{pos:Pos}{Q:Value->Shared->Prop}(I:Inv X a σ H s)(e:Gl X x)(d:X.mg x=none)(b:bootBuiltins x=some u)(h:Q u s)
 (c:x≠"__name__":=by decide)(f:(x==("__debug__":Str))=false:=by decide):wpAny (model X.prog X.w) X.A (eval (.Name x pos) X.env) Q E s:=by
 obtain⟨j,i,g⟩:=I.mod.blt;exact Calls.Name_function_global I.ok.kind e (Calls.loadGlobal_builtin (by rw[I.ok.glob];exact I.mod.glob.keeps I.bk) d (by rw[I.ok.blt];exact i.keeps I.bk) ((g x c).trans b) h) f
theorem jb{x:Str}{v:V}{u:Value}{pos:Pos}(b:Gl X x)(a:X.mg x=some u)(r:RelV v u)(c:(x==("__debug__":Str))=false:=by decide):PE X (.Name x pos) (tC v):=
 λ_ _ _ H _ I h=>mJ I b a ⟨v,H,I,r,h⟩ c
theorem EJ{x:Str}{v:V}{u:Value}{pos:Pos}(d:Gl X x)(c:X.mg x=none)(a:bootBuiltins x=some u)(r:RelV v u)(b:x≠"__name__":=by decide)(e:(x==("__debug__":Str))=false:=by decide):PE X (.Name x pos) (tC v):=
 λ_ _ _ H _ I h=>ji I d c a ⟨v,H,I,r,h⟩ b e
variable{a b:Expr}{ta tb:TE}{pos:Pos}
noncomputable def tB(t:TE):TT:=λd H Q=>t d H λx e=>∃c,x=.bl c/\Q c e
theorem Sd{e:Expr}{t:TE}(h:PE X e t)(l:∀c,isTrue e X.env c=(do let v←c;standAt e.pos;holding [v] (truthy v)):=by intro _;rfl):PT X e (tB t):=by intro f s g H Q I k;refine isTrue_plain (cM (h f s g H _ I k) λv o ⟨x,n,m,i,j⟩=>?_) (l _);obtain⟨d,rfl,q⟩:=j;cases i;exact gL ⟨n,m,q⟩
variable{tA ZS:TT}{rest:List Expr}
noncomputable def aaj(t u:TT):TT:=λd H Q=>t d H λc e=>if c=true then u d e Q else Q false e
noncomputable def tOr(t u:TT):TT:=λd H Q=>t d H λc e=>if c=true then Q true e else u d e Q
noncomputable def aak(t:TT):TT:=λd H Q=>t d H λc e=>Q (!c) e
theorem M0(g:PT X a tA):PW X (.BoolOp .And [a] pos) tA:=by
 intro i d s f H Q I h;refine isTrue_and (cM (g d s f H Q I h) λc j e=>?_);cases c with
 |true=>exact isTrue_and_nil e
 |false=>exact e
theorem Se(g:PT X a tA):PW X (.BoolOp .Or [a] pos) tA:=by
 intro i d s f H Q I h;refine isTrue_or (cM (g d s f H Q I h) λc j e=>?_);cases c with
 |false=>exact isTrue_or_nil e
 |true=>exact e
theorem Sh(m:PT X a tA)(l:PW X (.BoolOp .And (b::rest) pos) ZS):PW X (.BoolOp .And (a::b::rest) pos) (aaj tA ZS):=by
 intro j d s e H Q I h;refine isTrue_and (cM (m d s e H _ I h) λc k ⟨i,g,f⟩=>?_);cases c with
 |true=>exact l j d k e i Q g f
 |false=>exact⟨i,g,f⟩
theorem Xg(m:PT X a tA)(l:PW X (.BoolOp .Or (b::rest) pos) ZS):PW X (.BoolOp .Or (a::b::rest) pos) (tOr tA ZS):=by
 intro j d s e H Q I h;refine isTrue_or (cM (m d s e H _ I h) λc k ⟨i,g,f⟩=>?_);cases c with
 |true=>exact⟨i,g,f⟩
 |false=>exact l j d k e i Q g f
theorem Si(f:PT X a tA):PT X (.UnaryOp .Not a pos) (aak tA):=by intro d s e H Q I h;exact isTrue_not (f d s e H (λc g=>Q (!c) g) I h)
noncomputable def Xh(ta tb:TE):TE:=λd H Q=>ta d H λx e=>∃c,x=.bl c/\if c=true then tb d e Q else Q (.bl false) e
noncomputable def aal(ta tb:TE):TE:=λd H Q=>ta d H λx e=>∃c,x=.bl c/\if c=true then Q (.bl true) e else tb d e Q
noncomputable def Xi(ta:TE):TE:=λd H Q=>ta d H λx e=>∃c,x=.bl c/\Q (.bl (!c)) e
theorem Jl{op}{t:TE}(h:PE X a t):PE X (.BoolOp op [a] pos) t:=λc s d H Q I e=>BoolOp_one (h c s d H Q I e)
theorem Sj(m:PE X a ta)(l:PE X (.BoolOp .And (b::rest) pos) tb):PE X (.BoolOp .And (a::b::rest) pos) (Xh ta tb):=by
 intro d s f H Q I h;refine BoolOp_and (cM (m d s f H _ I h) λv j ⟨x,i,g,k,e⟩=>?_);obtain⟨c,rfl,e⟩:=e;cases k;refine gL ?_;cases c with
 |true=>exact l d j f i Q g e
 |false=>exact⟨.bl false,i,g,rfl,e⟩
theorem Xj(m:PE X a ta)(l:PE X (.BoolOp .Or (b::rest) pos) tb):PE X (.BoolOp .Or (a::b::rest) pos) (aal ta tb):=by
 intro d s f H Q I h;refine BoolOp_or (cM (m d s f H _ I h) λv j ⟨x,i,g,k,e⟩=>?_);obtain⟨c,rfl,e⟩:=e;cases k;refine gL ?_;cases c with
 |false=>exact l d j f i Q g e
 |true=>exact⟨.bl true,i,g,rfl,e⟩
theorem Sk(i:PE X a ta):PE X (.UnaryOp .Not a pos) (Xi ta):=by intro d s f H Q I h;refine UnaryOp_ (cM (i d s f H _ I h) λv l ⟨x,k,j,g,e⟩=>?_);obtain⟨c,rfl,e⟩:=e;cases g;exact not_of (gL ⟨.bl (!c),k,j,rfl,e⟩)
noncomputable def tIf(t:TT)(ta tb:TE):TE:=λd H Q=>t d H λc e=>if c=true then ta d e Q else tb d e Q
theorem Jm{c:Expr}(l:PT X c tA)(n:PE X a ta)(m:PE X b tb):PE X (.IfExp c a b pos) (tIf tA ta tb):=by
 intro e s f H Q I h;refine wpAny_IfExp (cM (l e s f H _ I h) λd g ⟨k,j,i⟩=>?_);cases d with
 |true=>exact n e g f k Q j i
 |false=>exact m e g f k Q j i
end
noncomputable def kI(K:Frag)(H:Hp)(a:Addr)(c:List V):Prop:=
 Rd H a (.lst c)\/
  ∃(o:Obj)(b:Array Value)(n:Nat),K.lookup a=some o/\o.cls=.type "list"/\o.dict=none/\o.data=.seq b n/\b.size<=sizeLine/\Vals c b.toList
noncomputable def mK(K:Frag)(H:Hp)(a:Addr)(c:List V):Prop:=
 Rd H a (.tup c)\/
  ∃(o:Obj)(b:Array Value)(n:Nat),K.lookup a=some o/\o.cls=.type "tuple"/\o.data=.seq b n/\b.size<=sizeLine/\Vals c b.toList
noncomputable def aam:Value->Option V
 |.none=>some .bC
 |.bool b=>some (.bl b)
 |.int i _=>some (.int i)
 |.str x _=>some (.str x)
 |.bytes b _=>some (.IT b)
 |.float b _=>some (.R8 b)
 |.ref a=>some (.ref a)
 |.type n=>some (.ty n)
 |_=>none
theorem RelV.abs{x:V}{u:Value}(r:RelV x u):aam u=some x:=by
 cases x with
 |bC=>cases r;rfl
 |bl _=>cases r;rfl
 |int _=>obtain⟨t,rfl⟩:=r;rfl
 |str _=>obtain⟨t,rfl⟩:=r;rfl
 |IT _=>obtain⟨t,rfl⟩:=r;rfl
 |R8 _=>obtain⟨t,rfl⟩:=r;rfl
 |ref _=>cases r;rfl
 |ty _=>cases r;rfl
theorem RelV.inj{x y:V}{u:Value}(r:RelV x u)(q:RelV y u):x=y:=IR (r.abs.symm.trans q.abs)
theorem Vals.inj:∀{b a:List V}{us:List Value},Vals b us->Vals a us->b=a
 |_,_,_,.nil,.nil=>rfl
 |_,_,_,.cons r t,.cons c t'=>by rw[r.inj c,Vals.inj t t']
section
variable{X:Cx}{pins:List (Addr×Obj)}{σ:St}{H:Hp}{s:Shared}{a:Addr}{xs ys:List V}
theorem kI.of{K:Frag}(h:H a=some (.lst xs)):kI K H a xs:=.inl (.inl h)
theorem mK.of{K:Frag}(h:H a=some (.tup xs)):mK K H a xs:=.inl (.inl h)
theorem Inv.list(I:Inv X pins σ H s)(h:kI X.K H a xs):∃b:List Value,Vals xs b/\PlainL s.heap a b.toArray/\xs.length<=sizeLine:=by
 rcases h with h|⟨o,b,n,d,g,f,c,hz,r⟩
 ·obtain⟨z,b,n,r,e⟩:=h.ok I.hok;exact⟨b,r,⟨_,n,e,rfl,rfl,rfl⟩,z⟩
 ·refine⟨b.toList,r,⟨o,n,I.oR a o d,g,f,by simpa using c⟩,?_⟩;have e:=r.length;simp only[Array.length_toList]at e;lia
theorem Inv.tuple(I:Inv X pins σ H s)(h:mK X.K H a xs):∃b:List Value,Vals xs b/\IsTup s.heap a b.toArray/\xs.length<=sizeLine:=by
 rcases h with h|⟨o,b,n,d,f,c,hz,r⟩
 ·obtain⟨z,b,r,p⟩:=h.ok I.hok;exact⟨b,r,p,z⟩
 ·refine⟨b.toList,r,⟨o,I.oR a o d,f,n,by simpa using c⟩,?_⟩;have e:=r.length;simp only[Array.length_toList]at e;lia
theorem Inv.tQ(I:Inv X pins σ H s)(h:kI X.K H a xs)(h':kI X.K H a ys):xs=ys:=by
 obtain⟨c,r,⟨o,n,e,_,_,d⟩,_⟩:=I.list h;obtain⟨b,i,⟨j,k,f,_,_,g⟩,_⟩:=I.list h';rw[e]at f;cases f;rw[d]at g;injection g with d1 _;have:c=b:=by simpa using W1 Array.toList d1
 subst this;exact r.inj i
theorem Inv.GP(I:Inv X pins σ H s)(h:mK X.K H a xs)(h':mK X.K H a ys):xs=ys:=by
 obtain⟨c,r,⟨o,e,_,n,d⟩,_⟩:=I.tuple h;obtain⟨b,i,⟨j,f,_,k,g⟩,_⟩:=I.tuple h';rw[e]at f;cases f;rw[d]at g;injection g with d1 _;have:c=b:=by simpa using W1 Array.toList d1
 subst this;exact r.inj i
end
abbrev Cx.tS(X:Cx)(E:Value->Shared->Prop):Cx:={X with xe:=E}
abbrev Cx.tT(X:Cx):Cx:=X.tS λ_ _=>False
theorem Cx.Ok.tS{X:Cx}(a:X.Ok)(E:Value->Shared->Prop):(X.tS E).Ok:=
 ⟨a.mod,a.kind,a.glob,a.blt,a.above,a.inj,a.has,a.WA,a.hd,a.frames,a.stk,a.ZQ,a.bs,a.MR,a.GL,a.GN,a.qK,a.QO,a.tree,a.Xf⟩
theorem Cx.Ok.j8{X:Cx}{E:Value->Shared->Prop}(a:(X.tS E).Ok):X.Ok:=
 ⟨a.mod,a.kind,a.glob,a.blt,a.above,a.inj,a.has,a.WA,a.hd,a.frames,a.stk,a.ZQ,a.bs,a.MR,a.GL,a.GN,a.qK,a.QO,a.tree,a.Xf⟩
section
variable{X:Cx}{pins:List (Addr×Obj)}{σ:St}{H:Hp}{s:Shared}{E:Value->Shared->Prop}
theorem Inv.tS(I:Inv X pins σ H s)(E:Value->Shared->Prop):Inv (X.tS E) pins σ H s:=⟨I.ok.tS E,I.os,I.bare,I.base,I.loc,I.cell,I.free,I.ja,I.pin,I.hok,I.len⟩
theorem Inv.j8(I:Inv (X.tS E) pins σ H s):Inv X pins σ H s:=⟨I.ok.j8,I.os,I.bare,I.base,I.loc,I.cell,I.free,I.ja,I.pin,I.hok,I.len⟩
theorem SP.j8{D:Ends}{f:Flow}{s':Shared}(h:SP (X.tS E) pins D f s'):SP X pins D f s':=by
 cases f with
 |next=>obtain⟨a,b,I,q⟩:=h;exact⟨a,b,I.j8,q⟩
 |brk=>obtain⟨a,b,I,q⟩:=h;exact⟨a,b,I.j8,q⟩
 |cont=>obtain⟨a,b,I,q⟩:=h;exact⟨a,b,I.j8,q⟩
 |ret u=>obtain⟨v,a,b,I,r,q⟩:=h;exact⟨v,a,b,I.j8,r,q⟩
end
section
variable{X:Cx}{st:Stmt}{rest:List Stmt}{t u:TS}{e:Expr}{te:TE}{pos:Pos}
noncomputable def Xk:TS:=λD a H=>D.nx a H
noncomputable def aan(t u:TS):TS:=λD a H=>t {D with nx:=u D} a H
theorem M1:Ag X [] Xk:=λ_ _ a H _ I h=>oy ⟨a,H,I,h⟩
theorem cI(i:PS X st t)(g:Ag X rest u):Ag X (st::rest) (aan t u):=by
 intro a s c H D I h;refine wpAny_execs_cons (cM (i a s c H {D with nx:=u D} I h) λf d q=>?_);cases f with
 |next=>obtain⟨b,k,j,q⟩:=q;exact g a d b k D j q
 |ret v=>exact q
 |brk=>exact q
 |cont=>exact q
theorem sO(c:PS X st t):Ag X [st] t:=by
 intro a s b H D I h;refine wpAny_execs_cons (cM (c a s b H D I h) λf d q=>?_);cases f with
 |next=>exact oy q
 |ret v=>exact q
 |brk=>exact q
 |cont=>exact q
noncomputable def Sl:TS:=λD a H=>D.bk a H
theorem Jo:PS X (.Break pos) Sl:=λ_ _ a H _ I h=>wpAny_Break ⟨a,H,I,h⟩
theorem Inv.quiet{a:List (Addr×Obj)}{σ:St}{H:Hp}{s:Shared}(I:Inv X a σ H s):interactive X.env=false:=by simp[interactive,I.ok.kind]
noncomputable def EK(te:TE):TS:=λD a H=>te a H λ_ b=>D.nx a b
theorem sP(f:PE X e te)(d:swapsWith e none pos.line X.env=pure false:=by rfl):PS X (.Expr e pos) (EK te):=by intro a s b H D I h;exact wpAny_Expr_any (cM (f a s b H _ I h)<|by rintro v j ⟨x,i,g,k,c⟩;exact⟨b,i,g,c⟩) I.quiet d
noncomputable def aao(te:TE):TS:=λD a H=>te a H D.rt
theorem tU(f:PE X e te):PS X (.Return (some e) pos) (aao te):=by intro a s b H D I h;exact wpAny_Return_some (cM (f a s b H _ I h)<|by rintro v j ⟨x,i,g,c,d⟩;exact⟨x,b,i,g,c,d⟩)
noncomputable def Xl:TS:=λD _ H=>D.rt .bC H
theorem EL:PS X (.Return none pos) Xl:=λ_ _ a H _ I h=>wpAny_Return_none ⟨.bC,a,H,I,rfl,h⟩
noncomputable def aap(c:TT)(t u:TS):TS:=λD a H=>c a H λb d=>if b=true then t D a d else u D a d
theorem Xm{c:Expr}{a b:List Stmt}{tc:TT}(m:PT X c tc)(o:Ag X a t)(n:Ag X b u):PS X (.If c a b pos) (aap tc t u):=by
 intro f s g H D I h;refine wpAny_If (cM (m f s g H _ I h) λd i ⟨l,k,j⟩=>?_);cases d with
 |true=>exact o f i g l D k j
 |false=>exact n f i g l D k j
end
abbrev TG:=V->St->Hp->(St->Hp->Prop)->Prop
abbrev QV:=List V->St->Hp->(St->Hp->Prop)->Prop
noncomputable def PG(X:Cx)(a:Expr)(t:TG):Prop:=
 ∀(b:List (Addr×Obj))(s:Shared)(d:St)(H:Hp)(v:V)(u:Value)(Q:St->Hp->Prop),Inv X b d H s->RelV v u->t v d H Q->
  wpAny (model X.prog X.w) X.A (assign a X.env u) (λ_ f=>∃c e,Inv X b c e f/\Q c e) X.xe s
noncomputable def Xn(X:Cx)(g:List Expr)(t:QV):Prop:=
 ∀(a:List (Addr×Obj))(s:Shared)(c:St)(H:Hp)(d:List V)(e:List Value)(Q:St->Hp->Prop),Inv X a c H s->Vals d e->t d c H Q->
  wpAny (model X.prog X.w) X.A (assignInOrder ((assignEach g X.env).map (·.2)) e) (λ_ h=>∃b f,Inv X a b f h/\Q b f) X.xe s
abbrev Sm:=V->V->V->Hp->(Hp->Prop)->Prop
noncomputable def Xo(X:Cx)(t:Sm):Prop:=
 ∀(a:List (Addr×Obj))(s:Shared)(b:St)(H:Hp)(o i v:V)(c d u:Value)(Q:Hp->Prop),Inv X a b H s->RelV o c->RelV i d->RelV v u->t o i v H Q->
  wpAny (model X.prog X.w) X.A (setItem c d u) (λ_ f=>∃e,Inv X a b e f/\Q e) X.xe s
section
variable{X:Cx}{pos:Pos}
noncomputable def kJ(i:Nat):TG:=λv a H Q=>Q (a.set i (some v)) H
theorem M3{i:Nat}{x:Str}(e:X.N.Nodup)(c:X.N[i]?=some x)(b:Loc X.env.scope x)(d:X.fn x=true\/X.env.scope.names.lookup x=some .local:=by first|exact .inl rfl|exact .inr rfl|assumption):PG X (.Name x pos) (kJ i):=by intro a s g H v u Q I r h;exact wpAny_assign_Name (gD I e c b r (λj f=>⟨_,H,f,h⟩) d)
noncomputable def Xp:QV:=λb a H Q=>b=[]/\Q a H
noncomputable def QW(t:TG)(u:QV):QV:=λc b H Q=>∃v r,c=v::r/\t v b H λa d=>u r a d Q
theorem M4:Xn X [] Xp:=by intro a s b H c d Q I r h;obtain⟨e,h⟩:=h;subst e;cases r;exact assignInOrder_nil ⟨b,H,I,h⟩
theorem Jp{e:Expr}{b:List Expr}{t:TG}{u:QV}(l:PG X e t)(k:Xn X b u)
 (j:(assignEach (e::b) X.env).map (·.2)=assign e X.env::(assignEach b X.env).map (·.2):=by rfl):Xn X (e::b) (QW t u):=by
 intro a s d H p w Q I r h;obtain⟨v,q,m,h⟩:=h;subst m;cases r with
 |cons r g=>rw[j];refine lj (cM (l a s d H _ _ _ I r h) λ_ f ⟨c,o,n,i⟩=>?_);exact k a f c o _ _ Q n g i
noncomputable def Sn(K:Frag)(n:Nat)(t:QV):TG:=λv c H Q=>∃a b,v=.ref a/\mK K H a b/\b.length=n/\t b c H Q
theorem So{d:List Expr}{k:Nat}{t:QV}{n:Nat}(y:X.calm=true)(h:Xn X d t)
 (w:(assignEach d X.env).length=n:=by rfl)(g:(assignEach d X.env).findIdx? (·.1)=none:=by rfl):PG X (.Tuple d k pos) (Sn X.K n t):=by
 intro c s i H v u Q I r f;obtain⟨a,j,A,q,x,f⟩:=f;subst A;cases r;obtain⟨l,rv,p,hz⟩:=I.tuple q;refine assign_Tuple_tuple (I.ok.hd y) p (by simp[w,←x,rv.length]) g λz m=>?_;have B:Inv X c i H {s with heap:=z}:=I.kept (t':=s.toks) λb o e=>m b o (KM (FS e)) e;exact h c _ i H j _ Q B (by simpa using rv) f
noncomputable def Sq(b ti:TE)(t:Sm):TG:=λv a H Q=>b a H λo e=>ti a e λi d=>t o i v d λc=>Q a c
theorem Jq{o i:Expr}{e ti:TE}{t:Sm}(q:PE X o e)(w:PE X i ti)(p:Xo X t)
 (z:∀v,assign (.Subscript o i pos) X.env v=(do
   let b←holding [v] (eval o X.env)
   let c←holding [v,b] (eval i X.env)
   standAt pos
   holding [v,b,c] (setItem b c v)
   release [v,b,c] []):=by intro _;rfl):PG X (.Subscript o i pos) (Sq e ti t):=by
 intro a s d H v u Q I r h;rw[z];refine FC (xa (cM (q a s d H _ I h) λb g ⟨x,F,C,k,n⟩=>?_));refine FC (xa (cM (w a g d F _ C n) λc f ⟨y,E,B,j,m⟩=>?_));refine FC (xI (FC (xa (cM (p a f d E x y v b c u _ B k j r m) λ_ G ⟨D,A,l⟩=>?_))));exact wpAny_release ⟨d,D,A,l⟩
noncomputable def tW(te:TE)(g:TG):TS:=λD a H=>te a H λx b=>g x a b D.nx
theorem CD{tg e:Expr}{te:TE}{g:TG}(l:PE X e te)(k:PG X tg g)(j:swapsWithSole [tg] e pos.line X.env=pure false:=by rfl)(i:swappedStores [tg] e X.env=pure none:=by rfl)
 (m:(assignEach [tg] X.env).map (·.2)=[assign tg X.env]:=by rfl):PS X (.Assign [tg] e pos) (tW te g):=by
 intro a s b H D I h;refine wpAny_Assign_stores (cM (l a s b H _ I h) λv c ⟨x,o,n,d,f⟩=>?_) j i;rw[m];exact cM (k a c b o x v _ n d f) λ_ p q=>q
theorem n8{i:Nat}{x:Str}{e:Expr}{te:TE}{a:Pos}(n:X.N.Nodup)(k:X.N[i]?=some x)(g:Loc X.env.scope x)(m:PE X e te)(j:swapsWith e (some (.Name x a)) pos.line X.env=pure false:=by rfl)(l:X.fn x=true\/X.env.scope.names.lookup x=some .local:=by first|exact .inl rfl|exact .inr rfl|assumption):
 PS X (.Assign [.Name x a] e pos) (tW te (kJ i)):=by
 intro b s c H D I h;refine wpAny_Assign_Name (cM (m b s c H _ I h) λv t ⟨y,q,p,d,f⟩=>?_) j;exact gD p n k g d (λr o=>⟨_,q,o,f⟩) l
noncomputable def aaq(i j:Nat)(ta:TA):TS:=λD a H=>ta a H λb c=>∃v w,b=[v,w]/\D.nx ((a.set i (some v)).set j (some w)) c
theorem Su{i j:Nat}{x y:Str}{a b:Expr}{ta:TA}{n m r:Pos}{t k2 B}(U:X.calm=true)(G:X.N.Nodup)(T:X.N[i]?=some x)(S:X.N[j]?=some y)(z:i≠j)
 (F:X.env.scope.names.lookup x=some .local)(E:X.env.scope.names.lookup y=some .local)(Y:PA X [a,b] ta)
 (Q:swappedStores [.Tuple [.Name x n,.Name y m] t r] (.Tuple [a,b] k2 B) X.env=pure (some [x,y]))
 (R:swapsWithSole [.Tuple [.Name x n,.Name y m] t r] (.Tuple [a,b] k2 B) pos.line X.env=pure false:=by rfl):
 PS X (.Assign [.Tuple [.Name x n,.Name y m] t r] (.Tuple [a,b] k2 B) pos) (aaq i j ta):=by
 intro c s C H D I h;rw[exec_Assign_arm];refine FC (xI ?_);rw[R];refine FC (NM ?_);rw[Bi (by decide)];refine FC (Tuple_ (cM (Y _ c s C H _ I h) λL g ⟨vs,K,I1,M,l⟩=>?_));obtain⟨v,w,Z,l⟩:=l;subst Z;obtain⟨f,d,rfl,rv,k⟩:∃f d,L=[f,d]/\RelV v f/\RelV w d:=by
  cases M with
  |cons p q=>
   cases q with
   |cons P O=>
    cases O;exact⟨_,_,rfl,p,P⟩
 refine pk ?_ (by show 2<=sizeLine;decide);have I2:Inv X c C K {g with heap:=g.heap.push {cls:=.type "tuple",data:=.seq [f,d].toArray}}:=I1.kept (t':=g.toks) λb o e=>DL _ e;rw[Q];refine FC (NM ?_);show wpAny (model X.prog X.w) X.A (do rule "assign.swapped-stores";let items←unpackItems (.ref g.heap.objs.size) 2 none;assignInOrder [λv=>bindName X.env y v,λv=>bindName X.env x v] items.reverse;pure Flow.next) _ _ _;refine FC (wpAny_rule (FC (unpackItems_tuple (items:= #[f,d]) (I.ok.hd U) (IsTup.new g.heap _) λh' u=>?_)));have I3:=I2.kept (h':=h') (t':=g.toks) λb o e=>u b o (KM (FS e)) e;show wpAny _ _ (assignInOrder [λv=>bindName X.env y v,λv=>bindName X.env x v] [d,f]>>=λ_=>pure Flow.next) _ _ _;refine FC (lj (vT (gD I3 G S (.inl E) k (λs2 I4=>?_) (.inr E))));refine lj (vT (gD I4 G T (.inl F) rv (λs3 J=>assignInOrder_nil (NM ?_)) (.inr F)));rw[List.set_comm _ _ (RF z)]at J;exact⟨_,K,J,l⟩
noncomputable def Sv(c:TT)(h:TS):TS:=λD a H=>∃W:Nat->St->Hp->Prop,(∃m,W m a H)/\∀m a H,W m a H->
 c a H λb f=>if b=true then∃N:St->Hp->Prop,(∀d g,N d g->∃e,e<m/\W e d g)/\h {D with nx:=N,ct:=N,bk:=D.nx} a f else D.nx a f
theorem Jr{c:Expr}{g:List Stmt}{tc:TT}{u:TS}(x:PassesOwn (model X.prog X.w) X.A X.env X.xe)(P:PT X c tc)(Q:Ag X g u):PS X (.While c g [] pos) (Sv tc u):=by
 intro d s F H D I h;obtain⟨W,⟨O,J⟩,j⟩:=h;refine wpAny_While (codeAny_whileLoop (λn M=>∃i E,Inv X d i E M/\W n i E) ?_ O ⟨F,H,I,J⟩);rintro n L ⟨e,C,R,G⟩;refine kS x (cM (P d L e C _ R (j n e C G)) λb K ⟨B,z,m⟩=>?_);cases b with
 |true=>
  obtain⟨N,y,m⟩:=m;rw[Bn rfl];refine kS x (cM (Q d K e B _ z m) λf S l=>?_);cases f with
  |next=>obtain⟨a,k,t,p⟩:=l;obtain⟨q,r,o⟩:=y a k p;exact⟨q,r,a,k,t,o⟩
  |cont=>obtain⟨a,k,t,p⟩:=l;obtain⟨q,r,o⟩:=y a k p;exact⟨q,r,a,k,t,o⟩
  |brk=>exact l
  |ret v=>exact l
 |false=>rw[Bi Kj];exact oy ⟨e,B,z,m⟩
end
set_option genInjectivity false in
set_option genSizeOf false in
structure It where
 go:Nat->Hp->Prop
 Xq:Nat->Hp->V->Hp->Prop
 stop:Nat->Hp->Prop
noncomputable def t6(X:Cx)(a:List (Addr×Obj))(H:Hp)(b:Addr):Prop:=
 H b=none/\b≠X.env.locals/\b∉X.fs/\(b∈X.ex\/X.s₀.heap.objs.size<=b)/\(∀x c,X.env.cells.lookup x=some c->c≠b)/\∀p∈X.pn++a,p.1≠b
theorem Inv.Ao{X:Cx}{a:List (Addr×Obj)}{σ:St}{H H':Hp}{s:Shared}{b:Addr}(I:Inv X a σ H s)(d:s.heap.objs.size<=b)(g:H' b=none):t6 X a H' b:=by
 refine⟨g,oP (Fk I.lt d),I.aag d,.inr (Da I.sz d),λx c e z=>?_,λp f z=>?_⟩
 ·obtain⟨v,q⟩:=I.cell x c e;exact absurd (Fk q.lt (by rw[z];exact d)) (OK _)
 ·exact absurd (Fk (FS (I.pin p f).1) (by rw[z];exact d)) (OK _)
structure Turn(P:Program)(w:World)(K:Frag)(tg:Expr)(J:It)(fp:List Addr)(it:Addr)(tn:Nat->Heap->Prop):Prop where
 mem:it∈fp
 obj:∀i h,tn i h->∀b∈fp,∃o,h.get? b=some o/\∀v,o.data≠.cell v
 keep:∀i h h',tn i h->(∀b∈fp,∀o,h.get? b=some o->h'.get? b=some o)->tn i h'
 item:∀(X:Cx),X.prog=P->X.w=w->X.K=K->X.calm=true->∀(i:Nat)(pins:List (Addr×Obj))(s:Shared)(σ:St)(H:Hp)(E:Value->Shared->Prop),Inv X pins σ H s->(∀b∈fp,t6 X pins H b)->tn i s.heap->J.go i H->
  wpAny (model P w) X.A (pyNext (.ref it)) (λr s1=>∃u,r=some u/\
   wpAny (model P w) X.A (letOwnedTupleGo tg (.ref it) u) (λ_ s2=>∃x H',Inv X pins σ H' s2/\RelV x u/\J.Xq i H x H'/\tn (i+1) s2.heap/\∀b∈fp,H' b=none) E s1) E s
 done:∀(X:Cx),X.prog=P->X.w=w->X.K=K->X.calm=true->∀(i:Nat)(pins:List (Addr×Obj))(s:Shared)(σ:St)(H:Hp)(E:Value->Shared->Prop),Inv X pins σ H s->(∀b∈fp,t6 X pins H b)->tn i s.heap->J.stop i H->
  wpAny (model P w) X.A (pyNext (.ref it)) (λr s1=>r=none/\Inv X pins σ H s1) E s
 self:∀(A:Around)(i:Nat)(s:Shared)(Q:Value->Shared->Prop)(E:Value->Shared->Prop),tn i s.heap->Q (.ref it) s->wpAny (model P w) A (pyIter (.ref it)) Q E s
abbrev TI:=St->Hp->(It->Hp->Prop)->Prop
noncomputable def PIE(X:Cx)(a:List (Addr×Obj))(σ:St)(tg:Expr)(R:It->Hp->Prop)(c:Value)(f:Shared):Prop:=
 ∃(g:Addr)(h:List Addr)(e:Nat->Heap->Prop)(J:It)(d:Hp),c=.ref g/\Inv X a σ d f/\Turn X.prog X.w X.K tg J h g e/\e 0 f.heap/\(∀b∈h,t6 X a d b)/\R J d
noncomputable def PI(X:Cx)(tg b:Expr)(d:TI):Prop:=
 ∀(a:List (Addr×Obj))(s:Shared)(c:St)(H:Hp)(R:It->Hp->Prop),Inv X a c H s->d c H R->
  wpAny (model X.prog X.w) X.A (eval b X.env) (λv e=>wpAny (model X.prog X.w) X.A (pyIter v) (PIE X a c tg R) X.xe e) X.xe s
theorem Aq{M:Model}{A:Around}{E:Value->Shared->Prop}{s:Shared}{tg:Expr}{b:Addr}{u:Value}{o:Obj}{n:String}{vs:Array Value}{Q:Unit->Shared->Prop}(c:s.heap.get? b=some o)(f:o.cls=.type n)(e:o.data=.fields vs)
 (d:["enumerate","zip","dict_itemiterator","dict_reverseitemiterator","odict_iterator","itertools.zip_longest","itertools.pairwise"].contains n=false)(a:Q () s):wpAny M A (letOwnedTupleGo tg (.ref b) u) Q E s:=by
 unfold letOwnedTupleGo;cases tg<;>first
  |exact NM a
  |(cases u<;>first
     |exact NM a
     |(refine FC (wpAny_load c ?_)
       rw[f,e];show wpAny M A (if(["enumerate","zip","dict_itemiterator","dict_reverseitemiterator","odict_iterator","itertools.zip_longest","itertools.pairwise"].contains n&&vs[0]?==some (rawInt _))=true then _ else _) Q E s;rw[Bi (by intro h;rw[d,Bool.false_and]at h;cases h)];exact NM a))
noncomputable def Itl(K:Frag)(a:Addr):It:=
 ⟨λi H=>∃b x,kI K H a b/\b[i]?=some x,λi H x c=>c=H/\∀b,kI K H a b->b[i]?=some x,λi H=>∃b,kI K H a b/\b.length<=i⟩
noncomputable def Itt(K:Frag)(a:Addr):It:=
 ⟨λi H=>∃b x,mK K H a b/\b[i]?=some x,λi H x c=>c=H/\∀b,mK K H a b->b[i]?=some x,λi H=>∃b,mK K H a b/\b.length<=i⟩
noncomputable def Xr(a:Int)(n:Nat):It:=⟨λi _=>i<n,λi H x b=>b=H/\x=.int (a+i),λi _=>n<=i⟩
theorem GQ{P:Program}{w:World}{K:Frag}{tg:Expr}(a j:Addr):Turn P w K tg (Itl K a) [j] j (λi h=>h.IsListIter j a i)where
 mem:=by simp
 obj:=λi h f b l=>by
  have e:b=j:=by simpa using l
  subst e;obtain⟨o,e,c,d⟩:=f;exact⟨o,e,λv z=>by rw[d]at z;cases z⟩
 keep:=λi h r f k=>f.at λo e=>k j (by simp) o e
 item:=by intro X C A D O i g s N H E I q f B;subst C A D;obtain⟨Q,x,n,y⟩:=B;obtain⟨t,rv,p,hz⟩:=I.list n;obtain⟨u,U,S⟩:=rv.get y;obtain⟨M,L,Y,J,G,F⟩:=q j (by simp);refine wpAny_pyNext_list_item f p.isList (x:=u) (by simpa using U) λr m R=>?_;have I1:Inv X g N H {s with heap:=r}:=I.turned (t':=s.toks) (λb o l e=>(R.2 b l).trans e) M L J G F;obtain⟨o,e,c,d⟩:=id m;exact⟨u,rfl,Aq (s:={s with heap:=r}) e c d (by decide) ⟨x,H,I1,S,⟨rfl,λys T=>by rw[I.tQ T n];exact y⟩,m,λb l=>(q b l).1⟩⟩
 done:=by intro X C A D O i g s N H E I q f B;subst C A D;obtain⟨Q,n,y⟩:=B;obtain⟨t,rv,p,hz⟩:=I.list n;obtain⟨M,L,Y,J,G,F⟩:=q j (by simp);have hl:=rv.length;exact wpAny_pyNext_list_end (I.ok.hd O) f p.isList (by simp;lia) λr Z=>⟨rfl,I.turned (t':=s.toks) (λb o l e=>Z b o l e) M L J G F⟩
 self:=λ_ _ _ _ _ f h=>wpAny_pyIter_listiter f h
theorem CF{P:Program}{w:World}{K:Frag}{tg:Expr}(a l:Addr):Turn P w K tg (Itt K a) [l] l (λi h=>h.IsTupleIter l a i)where
 mem:=by simp
 obj:=λi h f b m=>by
  have e:b=l:=by simpa using m
  subst e;obtain⟨o,e,c,d⟩:=f;exact⟨o,e,λv z=>by rw[d]at z;cases z⟩
 keep:=λi h t f k=>f.at λo e=>k l (by simp) o e
 item:=by intro X C A D O i g s N H E I r f B;subst C A D;obtain⟨Q,x,q,y⟩:=B;obtain⟨j,rv,p,hz⟩:=I.tuple q;obtain⟨u,U,S⟩:=rv.get y;obtain⟨M,L,Y,J,G,F⟩:=r l (by simp);refine wpAny_pyNext_tuple_item f (show s.heap.IsTuple a j.toArray from p) (x:=u) (by simpa using U) λt n R=>?_;have I1:Inv X g N H {s with heap:=t}:=I.turned (t':=s.toks) (λb o m e=>(R.2 b m).trans e) M L J G F;obtain⟨o,e,c,d⟩:=id n;exact⟨u,rfl,Aq (s:={s with heap:=t}) e c d (by decide) ⟨x,H,I1,S,⟨rfl,λys T=>by rw[I.GP T q];exact y⟩,n,λb m=>(r b m).1⟩⟩
 done:=by intro X C A D O i g s N H E I r f B;subst C A D;obtain⟨Q,q,y⟩:=B;obtain⟨j,rv,p,hz⟩:=I.tuple q;obtain⟨M,L,Y,J,G,F⟩:=r l (by simp);have hl:=rv.length;exact wpAny_pyNext_tuple_end (I.ok.hd O) f (show s.heap.IsTuple a j.toArray from p) (by simp;lia) λt Z=>⟨rfl,I.turned (t':=s.toks) (λb o m e=>Z b o m e) M L J G F⟩
 self:=λ_ _ _ _ _ f h=>wpAny_pyIter_tupleiter f h
theorem CG{P:Program}{w:World}{K:Frag}{tg:Expr}(d:Addr)(j:Int)(n:Nat):Turn P w K tg (Xr j n) [d] d (λi h=>IsRangeIter h d (j+(i:Nat)*1) ((n:Int) -(i:Nat)) 1)where
 mem:=by simp
 obj:=λi h a b f=>by
  have e:b=d:=by simpa using f
  subst e;exact⟨_,a,λv z=>by have J:Data.fields _=Data.cell v:=z;cases J⟩
 keep:=λi h m a k=>k d (by simp) _ a
 item:=by intro X u p x r i c s F H E I l a q;subst u p x;obtain⟨D,C,N,B,A,y⟩:=l d (by simp);have W:=Walks.range (prog:=X.prog) (w:=X.w) (I.ok.hd r) d j 1 n;refine W.item i s _ _ q a λv m G M g L=>?_;obtain⟨t,rfl⟩:=M;have Q:Inv X c F H {s with heap:=m,toks:=G}:=I.turned (λb o f e=>L b o (by simpa using f) e) D C B A y;refine⟨_,rfl,Aq (s:={s with heap:=m,toks:=G}) (n:="range_iterator") g rfl rfl (by decide) ⟨.int (j+i),H,Q,⟨t,?_⟩,⟨rfl,rfl⟩,g,λb f=>(l b f).1⟩⟩;rw[dq]
 done:=by intro X u p x r i c s F H E I l a q;subst u p x;obtain⟨D,C,N,B,A,y⟩:=l d (by simp);exact wpAny_pyNext_range_end (I.ok.hd r) a (by have:n<=i:=q;lia) λm O=>⟨rfl,I.turned (t':=s.toks) (λb o f e=>O b o f e) D C B A y⟩
 self:=λ_ _ _ _ _ a h=>wpAny_pyIter_rangeiter a h
section
variable{X:Cx}{tg:Expr}
theorem Ar{d:List (Addr×Obj)}{σ:St}{H:Hp}{s:Shared}{R:It->Hp->Prop}{E:Value->Shared->Prop}{a c:Int}{t u v:Tok}{f:Nat}(I:Inv X d σ H s)(l: -(2^62)<=a)(k:a<2^62)(j: -(2^62)<=c)(i:c<2^62)
 (q:R (Xr a (c -a).toNat) H):wpAny (model X.prog X.w) X.A (pyIter (.ref s.heap.objs.size)) (PIE X d σ tg R) E {s with heap:=s.heap.push {cls:=.type "range",data:=.fields #[.int a t,.int c u,.int 1 v]},toks:=f}:=by
 refine wpAny_pyIter_range (IsRange.new ..) (small_one l k j i) ?_;have g:Inv X d σ H {s with heap:=s.heap.push {cls:=.type "range",data:=.fields #[.int a t,.int c u,.int 1 v]},toks:=f}:=I.kept λb o e=>DL _ e;refine⟨(s.heap.push {cls:=.type "range",data:=.fields #[.int a t,.int c u,.int 1 v]}).objs.size,[(s.heap.push {cls:=.type "range",data:=.fields #[.int a t,.int c u,.int 1 v]}).objs.size],_,_,H,rfl,
  g.kept (t':=f) λb o e=>DL _ e,CG _ a (c -a).toNat,?_,λb h=>?_,q⟩
 ·have n:a+((0:Nat):Int)*1=a:=by simp
  have m:(((c -a).toNat:Nat):Int) -((0:Nat):Int)=Builtin.Range.rangeSize a c 1:=by rw[rangeSize_one];split<;>lia
  show IsRangeIter _ _ (a+((0:Nat):Int)*1) ((((c -a).toNat:Nat):Int) -((0:Nat):Int)) 1;rw[n,m];exact Hb _ rfl
 ·have e:b=(s.heap.push {cls:=.type "range",data:=.fields #[.int a t,.int c u,.int 1 v]}).objs.size:=by simpa using h
  subst e;exact g.Ao (Do _) (g.hok.fresh (Do _))
noncomputable def Xs(ta:TA):TI:=λa H R=>ta a H λb c=>∃j:Int,b=[.int j]/\-(2^62)<=j/\j<2^62/\R (Xr 0 j.toNat) c
noncomputable def Xu(ta:TA):TI:=λa H R=>ta a H λb c=>∃i j:Int,b=[.int i,.int j]/\(-(2^62)<=i/\i<2^62/\-(2^62)<=j/\j<2^62)/\R (Xr i (j -i).toNat) c
theorem GR{a:Expr}{ta:TA}{p pos:Pos}(m:Gl X "range")(l:X.mg "range"=none)(n:PA X [a] ta)(k:starEach [a] X.env=[(false,eval a X.env)]:=by rfl):PI X tg (.Call (.Name "range" p) [a] [] pos) (Xs ta):=by
 intro b s d H R I h;refine Call_ (ji I m l boot_range (Q1 (cM (n pos b s d H _ I h) λv w ⟨u,x,o,g,c⟩=>?_) k rfl));obtain⟨j,e,c,i,q⟩:=c;subst e;cases g with
 |cons r f=>
  cases f;obtain⟨t,rfl⟩:=r;exact call_range_1 (Ar o (by lia) (by lia) c i (by simpa using q))
theorem GS{a b:Expr}{ta:TA}{p pos:Pos}(x:Gl X "range")(w:X.mg "range"=none)(y:PA X [a,b] ta)(v:starEach [a,b] X.env=[(false,eval a X.env),(false,eval b X.env)]:=by rfl)(d:starEach [b] X.env=[(false,eval b X.env)]:=by rfl):
 PI X tg (.Call (.Name "range" p) [a,b] [] pos) (Xu ta):=by
 intro c s k H R I h;refine Call_ (ji I x w boot_range (Q1 (cM (y pos c s k H _ I h) λB D ⟨A,E,z,l,g⟩=>?_) (by rw[v,d]) (by rw[d];rfl)));obtain⟨i,j,e,⟨g,u,o,n⟩,q⟩:=g;subst e;cases l with
 |cons r f=>
  cases f with
  |cons m f=>
   cases f;obtain⟨t,rfl⟩:=r;obtain⟨C,rfl⟩:=m;exact call_range_2 (Ar z g u o n q)
noncomputable def aau(f:TI)(g:TG)(h:TS):TS:=λD a H=>f a H λJ k=>∃W:Nat->Nat->St->Hp->Prop,(∃m,W 0 m a k)/\∀i m a H,W i m a H->
 (J.stop i H/\D.nx a H)\/(J.go i H/\∃N:St->Hp->Prop,(∀b c,N b c->∃e,e<m/\W (i+1) e b c)/\∀x c,J.Xq i H x c->g x a c λd j=>h {D with nx:=N,ct:=N,bk:=D.nx} d j)
noncomputable def t7(a:List Addr)(h:Heap):List (Addr×Obj):=a.filterMap λb=>(h.get? b).map λo=>(b,o)
theorem j9{a:List Addr}{h:Heap}{b:Addr}{o:Obj}(c:b∈a)(e:h.get? b=some o):(b,o)∈t7 a h:=List.mem_filterMap.mpr ⟨b,c,by rw[e];rfl⟩
theorem GU{a:List Addr}{h:Heap}{p:Addr×Obj}(c:p∈t7 a h):p.1∈a/\h.get? p.1=some p.2:=by
 obtain⟨b,d,e⟩:=List.mem_filterMap.mp c;cases q:h.get? b with
 |none=>rw[q]at e;cases e
 |some o=>rw[q]at e;have f:(b,o)=p:=IR e;subst f;exact⟨d,q⟩
theorem Inv.pinned{a:List (Addr×Obj)}{σ:St}{H:Hp}{s:Shared}{c:List Addr}(I:Inv X a σ H s)(j:∀b∈c,t6 X a H b)(i:∀b∈c,∃o,s.heap.get? b=some o/\∀v,o.data≠.cell v):Inv X (a++t7 c s.heap) σ H s:=
 I.EH λp h=>(Iy.mp h).elim (λz=>I.pin p (Hn _ z)) λz=>by obtain⟨f,e⟩:=GU z;obtain⟨m,l,k,_⟩:=j p.1 f;obtain⟨o,g,d⟩:=i p.1 f;rw[e]at g;cases g;exact⟨e,m,l,k,d⟩
theorem Inv.oV{a pl:List (Addr×Obj)}{σ:St}{H:Hp}{s:Shared}(I:Inv X (a++pl) σ H s):Inv X a σ H s:=I.EH λp b=>I.pin p (Hn _ (X1 _ b))
theorem Sw{k:Expr}{C:List Stmt}{wi:TI}{g:TG}{tb:TS}{pos:Pos}(M:PassesOwn (model X.prog X.w) X.A X.env X.xe)(hc:X.calm=true)(hi:PI X tg k wi)(hg:PG X tg g)(l:Ag X C tb)
 (hs:∀x,foldedSetIterable k X.env x=pure x:=by intro _;rfl):PS X (.For tg k C [] pos) (aau wi g tb):=by
 intro a s σ H D I h;refine wpAny_For (cM (hi a s σ H _ I h) λv s1 h1=>cM h1 λitv s2 h2=>?_) hs;obtain⟨it,P,tn,J,H2,e,I2,T,S,f2,W,⟨m0,w0⟩,E⟩:=h2;subst e;have Sx:∀{z:Hp},(∀b∈P,z b=none)->∀b∈P,t6 X a z b:=λhn b l=>⟨hn b l,(f2 b l).2⟩;refine codeAny_forLoop_any (λn s'=>∃i j z,Inv X a j z s'/\tn i s'.heap/\(∀b∈P,z b=none)/\W i n j z) ?_ m0 ⟨0,σ,H2,I2,S,λb l=>(f2 b l).1,w0⟩;rintro n s3 ⟨i,c,Q,I3,K,O,w3⟩;rcases E i n c Q w3 with⟨F,qn⟩|⟨go,N,hN,G⟩
 ·refine kS M (cM (T.done X rfl rfl rfl hc i a s3 c Q X.xe I3 (Sx O) K F) λr s4 ⟨Y,I4⟩=>?_);subst Y;exact oy ⟨c,Q,I4,qn⟩
 ·refine kS M (cM (T.item X rfl rfl rfl hc i a s3 c Q X.xe I3 (Sx O) K go) λr s4 ⟨u,Y,h4⟩=>?_);subst Y;refine kS M (cM h4 λ_ s5 ⟨x,H5,I5,r5,y5,Z,ZT⟩=>?_);have I5':=I5.pinned (Sx ZT) (T.obj _ _ Z);refine kS M (cM (hg _ s5 c H5 x u _ I5' r5 (G x H5 y5)) λ_ s6 ⟨R,H6,I6,q6⟩=>?_);refine kS M (cM (l _ s6 R H6 _ I6 q6) λf U B=>?_);have p:∀{q:St}{y:Hp},Inv X (a++t7 P s5.heap) q y U->N q y->∃m,m<n/\∃i j z,Inv X a j z U/\tn i U.heap/\(∀b∈P,z b=none)/\W i m j z:=λ{q y} t L=>by obtain⟨m',hm,w7⟩:=hN q y L;refine⟨m',hm,i+1,q,y,t.oV,T.keep _ _ _ Z λb l o e=>(t.pin (b,o) (Hn _ (Hn _ (j9 l e)))).1,λb l=>?_,w7⟩;obtain⟨o,e,d⟩:=T.obj _ _ Z b l;exact(t.pin (b,o) (Hn _ (Hn _ (j9 l e)))).2.1
  cases f with
  |next=>obtain⟨q,y,t,L⟩:=B;exact p t L
  |cont=>obtain⟨q,y,t,L⟩:=B;exact p t L
  |brk=>obtain⟨q,y,t,B⟩:=B;exact⟨q,y,t.oV,B⟩
  |ret v=>obtain⟨x7,q,y,t,r7,B⟩:=B;exact⟨x7,q,y,t.oV,r7,B⟩
end
abbrev R2:=V->V->Hp->VK->Prop
noncomputable def n9(X:Cx)(f:Value->Value->Sem Value)(r:R2):Prop:=
 ∀(a:List (Addr×Obj))(s:Shared)(b:St)(H:Hp)(x y:V)(v u:Value)(Q:VK),Inv X a b H s->RelV x v->RelV y u->r x y H Q->
  wpAny (model X.prog X.w) X.A (f v u) (EP X a b Q) X.xe s
noncomputable def UnR(X:Cx)(f:Value->Sem Value)(r:V->Hp->VK->Prop):Prop:=
 ∀(a:List (Addr×Obj))(s:Shared)(b:St)(H:Hp)(x:V)(v:Value)(Q:VK),Inv X a b H s->RelV x v->r x H Q->
  wpAny (model X.prog X.w) X.A (f v) (EP X a b Q) X.xe s
noncomputable def e9(X:Cx)(f:Value)(r:List V->Hp->VK->Prop):Prop:=
 ∀(a:List (Addr×Obj))(s:Shared)(b:St)(H:Hp)(c:List V)(d:List Value)(Q:VK),Inv X a b H s->Vals c d->r c H Q->
  wpAny (model X.prog X.w) X.A (call f d) (EP X a b Q) X.xe s
noncomputable def tOp(r:R2)(ta b:TE):TE:=λa H Q=>ta a H λx d=>b a d λy c=>r x y c Q
noncomputable def tUn(r:V->Hp->VK->Prop)(ta:TE):TE:=λa H Q=>ta a H λx b=>r x b Q
noncomputable def rI(C:Int->Int->Prop)(g:Int->Int->V):R2:=λx y H Q=>∃i j,x=.int i/\y=.int j/\C i j/\Q (g i j) H
noncomputable def M5(g:Int->Int->V):R2:=λx y H Q=>∃i j,x=.int i/\y=.int j/\Q (g i j) H
noncomputable def rU(g:Int->V):V->Hp->VK->Prop:=λx H Q=>∃i,x=.int i/\Q (g i) H
section
variable{X:Cx}{a b c:Expr}{ta tb tc:TE}{pos:Pos}
theorem Sy(r:PE X a ta)(q:PE X b tb){d:List (Addr×Obj)}{s:Shared}{σ:St}{H:Hp}{R:V->V->Hp->Prop}(I:Inv X d σ H s)
 (h:ta σ H λx H1=>tb σ H1 λy e=>R x y e){Q:Value->Shared->Prop}{f:Value->Value->Sem Value}
 (p:∀v u j x y e,Inv X d σ e j->RelV x v->RelV y u->R x y e->wpAny (model X.prog X.w) X.A (f v u) Q X.xe j):
 wpAny (model X.prog X.w) X.A (eval a X.env) (λv i=>wpAny (model X.prog X.w) X.A (eval b X.env) (λu g=>wpAny (model X.prog X.w) X.A (f v u) Q X.xe g) X.xe i) X.xe s:=by
 refine cM (r d s σ H _ I h) ?_;rintro v k ⟨x,H1,z,m,o⟩;refine cM (q d k σ H1 _ z o) ?_;rintro u j ⟨y,e,t,l,n⟩;exact p v u j x y e t m l n
theorem Xv{op:Operator}{r:R2}(j:n9 X (binaryOp op) r)(l:PE X a ta)(k:PE X b tb):PE X (.BinOp a op b pos) (tOp r ta tb):=by intro d s e H Q I h;exact wpAny_BinOp (Sy l k I h λv u f x y n m i g q=>j d f e n x y v u Q m i g q)
theorem Xw{op:UnaryOp}{r:V->Hp->VK->Prop}(j:UnR X (unaryOp op) r)(k:PE X a ta):PE X (.UnaryOp op a pos) (tUn r ta):=by intro d s e H Q I h;exact UnaryOp_ (cM (k d s e H _ I h)<|by rintro v f ⟨x,m,l,g,i⟩;exact j d f e m x v Q l g i)
theorem Xx{f:Value->Value->Sem Value}{C:Int->Int->Prop}{g:Int->Int->Int}
 (d:∀(i j:Int)(t u:Tok)(s:Shared)(Q:Value->Shared->Prop)(E:Value->Shared->Prop),C i j->Q (.int (g i j) s.toks) {s with toks:=s.toks+1}->wpAny (model X.prog X.w) X.A (f (.int i t) (.int j u)) Q E s):
 n9 X f (rI C λi j=>.int (g i j)):=by
 intro e s o H x y v u Q I m l h;obtain⟨i,j,rfl,rfl,n,q⟩:=h;obtain⟨t,rfl⟩:=m;obtain⟨k,rfl⟩:=l;exact d i j t k s _ _ n ⟨.int (g i j),H,I.tok _,⟨_,rfl⟩,q⟩
theorem Xy{f:Value->Value->Sem Value}{g:Int->Int->Int}
 (d:∀(i j:Int)(t u:Tok)(s:Shared)(Q:Value->Shared->Prop)(E:Value->Shared->Prop),Q (.int (g i j) s.toks) {s with toks:=s.toks+1}->wpAny (model X.prog X.w) X.A (f (.int i t) (.int j u)) Q E s):
 n9 X f (M5 λi j=>.int (g i j)):=by
 intro e s n H x y v u Q I m l h;obtain⟨i,j,rfl,rfl,q⟩:=h;obtain⟨t,rfl⟩:=m;obtain⟨k,rfl⟩:=l;exact d i j t k s _ _ ⟨.int (g i j),H,I.tok _,⟨_,rfl⟩,q⟩
theorem M6{f:Value->Value->Sem Value}{g:Int->Int->Bool}
 (d:∀(i j:Int)(t u:Tok)(s:Shared)(Q:Value->Shared->Prop)(E:Value->Shared->Prop),Q (.bool (g i j)) s->wpAny (model X.prog X.w) X.A (f (.int i t) (.int j u)) Q E s):
 n9 X f (M5 λi j=>.bl (g i j)):=by
 intro e s n H x y v u Q I m l h;obtain⟨i,j,rfl,rfl,q⟩:=h;obtain⟨t,rfl⟩:=m;obtain⟨k,rfl⟩:=l;exact d i j t k s _ _ ⟨.bl (g i j),H,I,rfl,q⟩
noncomputable def GV(i j:Int):Prop:=0<=j/\j<=1000000/\i.natAbs<2^64
theorem CH(k:Nat):(0:Int)<=2^k:=by rw[two_pow_cast];exact Int.natCast_nonneg _
theorem Sz:n9 X (binaryOp .Add) (M5 λi j=>.int (i+j)):=Xy λ_ _ _ _ _ _ _ q=>add_int q
theorem SA:n9 X (binaryOp .Sub) (M5 λi j=>.int (i -j)):=Xy λ_ _ _ _ _ _ _ q=>sub_int q
theorem M7:n9 X (binaryOp .Mod) (rI (λ_ j=>j≠0) λi j=>.int (i.fmod j)):=Xx λ_ _ _ _ _ _ _ d q=>mod_int' d q
theorem SD:n9 X (binaryOp .Pow) (rI GV λi j=>.int (i^j.toNat)):=Xx λ_ _ _ _ _ _ _ d q=>pow_int_small d.1 d.2.1 d.2.2 q
theorem SG:n9 X (binaryOp .LShift) (rI GV λi j=>.int (i*2^j.toNat)):=Xx λ_ _ _ _ _ _ _ d q=>lshift_int_small d.1 d.2.1 d.2.2 q
theorem SH:n9 X (binaryOp .RShift) (rI (λ_ j=>0<=j) λi j=>.int (i/2^j.toNat)):=Xx λi j _ _ _ _ _ d q=>rshift_int d (by rw[PP i (CH _)];exact q)
theorem unI{f:Value->Sem Value}{g:Int->Int}
 (d:∀(i:Int)(t:Tok)(s:Shared)(Q:Value->Shared->Prop)(E:Value->Shared->Prop),Q (.int (g i) s.toks) {s with toks:=s.toks+1}->wpAny (model X.prog X.w) X.A (f (.int i t)) Q E s):
 UnR X f (rU λi=>.int (g i)):=by
 intro e s k H x v Q I j h;obtain⟨i,rfl,q⟩:=h;obtain⟨t,rfl⟩:=j;exact d i t s _ _ ⟨.int (g i),H,I.tok _,⟨_,rfl⟩,q⟩
theorem SI:UnR X (unaryOp .USub) (rU λi=>.int (-i)):=unI λ_ _ _ _ _ q=>neg_int q
end
noncomputable def SJ:V->V->Bool
 |.bC,.bC=>true|.bC,.int _=>true|.int _,.bC=>true|.bC,.bl _=>true|.bl _,.bC=>true|.bC,.str _=>true|.str _,.bC=>true
 |.int _,.int _=>true|.bl _,.bl _=>true|.str _,.str _=>true|.IT _,.IT _=>true
 |.int _,.str _=>true|.str _,.int _=>true|.bl _,.str _=>true|.str _,.bl _=>true
 |_,_=>false
noncomputable def rEq:R2:=λx y H Q=>SJ x y=true/\Q (.bl (decide (x=y))) H
noncomputable def rNe:R2:=λx y H Q=>SJ x y=true/\Q (.bl (!decide (x=y))) H
theorem EM{i j:Int}:decide (V.int i=V.int j)=(i==j):=by rw[me];simp
theorem Jt{i j:Bool}:decide (V.bl i=V.bl j)=(i==j):=by rw[me];simp
theorem EN{i j:Str}:decide (V.str i=V.str j)=(i==j):=by rw[me];simp
theorem EO{i j:Array UInt8}:decide (V.IT i=V.IT j)=(i.toList==j.toList):=by rw[me];cases i;cases j;simp
section
variable{X:Cx}{a b c:Expr}{ta tb tc:TE}{pos:Pos}
theorem aU{d:List (Addr×Obj)}{σ:St}{H:Hp}{s:Shared}{Q:VK}{k f:Bool}(I:Inv X d σ H s)(q:Q (.bl k) H)(e:k=f):EP X d σ Q (.bool f) s:=by subst e;exact⟨.bl k,H,I,rfl,q⟩
theorem Xz:n9 X (compareOp .Eq) rEq:=by
 intro k s l H x y v u Q I g d h;obtain⟨f,q⟩:=h;cases x with
 |bC=>
  cases g;cases y with
  |bC=>cases d;exact PySem.EqNone.eq_none_none (aU I q (by simp))
  |bl j=>cases d;exact PySem.EqNone.eq_none_bool (aU I q (by simp))
  |int j=>obtain⟨e,rfl⟩:=d;exact PySem.EqNone.eq_none_int (aU I q (by simp))
  |str j=>obtain⟨e,rfl⟩:=d;exact PySem.EqNone.eq_none_str (aU I q (by simp))
  |_=>exact absurd (show false=true from f) Kj
 |bl i=>
  cases g;cases y with
  |bC=>cases d;exact PySem.EqNone.eq_bool_none (aU I q (by simp))
  |bl j=>cases d;exact eq_bool (aU I q Jt)
  |str j=>obtain⟨e,rfl⟩:=d;exact PySem.EqMixed.eq_bool_str (aU I q (by simp))
  |_=>exact absurd (show false=true from f) Kj
 |int i=>
  obtain⟨t,rfl⟩:=g;cases y with
  |bC=>cases d;exact PySem.EqNone.eq_int_none (aU I q (by simp))
  |int j=>obtain⟨e,rfl⟩:=d;exact eq_int (aU I q EM)
  |str j=>obtain⟨e,rfl⟩:=d;exact PySem.EqMixed.eq_int_str (aU I q (by simp))
  |_=>exact absurd (show false=true from f) Kj
 |str i=>
  obtain⟨t,rfl⟩:=g;cases y with
  |bC=>cases d;exact PySem.EqNone.eq_str_none (aU I q (by simp))
  |bl j=>cases d;exact PySem.EqMixed.eq_str_bool (aU I q (by simp))
  |int j=>obtain⟨e,rfl⟩:=d;exact PySem.EqMixed.eq_str_int (aU I q (by simp))
  |str j=>obtain⟨e,rfl⟩:=d;exact eq_str (aU I q EN)
  |_=>exact absurd (show false=true from f) Kj
 |IT i=>
  obtain⟨t,rfl⟩:=g;cases y with
  |IT j=>obtain⟨e,rfl⟩:=d;exact PySem.W.eq_bytes (aU I q EO)
  |_=>exact absurd (show false=true from f) Kj
 |_=>cases y<;>exact absurd (show false=true from f) Kj
theorem XA:n9 X (compareOp .NotEq) rNe:=by
 intro k s l H x y v u Q I g d h;obtain⟨f,q⟩:=h;cases x with
 |bC=>
  cases g;cases y with
  |bC=>cases d;exact PySem.EqNone.ne_none_none (aU I q (by simp))
  |bl j=>cases d;exact PySem.EqNone.ne_none_bool (aU I q (by simp))
  |int j=>obtain⟨e,rfl⟩:=d;exact PySem.EqNone.ne_none_int (aU I q (by simp))
  |str j=>obtain⟨e,rfl⟩:=d;exact PySem.EqNone.ne_none_str (aU I q (by simp))
  |_=>exact absurd (show false=true from f) Kj
 |bl i=>
  cases g;cases y with
  |bC=>cases d;exact PySem.EqNone.ne_bool_none (aU I q (by simp))
  |bl j=>cases d;exact ne_bool (aU I q (W1 not Jt))
  |str j=>obtain⟨e,rfl⟩:=d;exact PySem.EqMixed.ne_bool_str (aU I q (by simp))
  |_=>exact absurd (show false=true from f) Kj
 |int i=>
  obtain⟨t,rfl⟩:=g;cases y with
  |bC=>cases d;exact PySem.EqNone.ne_int_none (aU I q (by simp))
  |int j=>obtain⟨e,rfl⟩:=d;exact ne_int (aU I q (W1 not EM))
  |str j=>obtain⟨e,rfl⟩:=d;exact PySem.EqMixed.ne_int_str (aU I q (by simp))
  |_=>exact absurd (show false=true from f) Kj
 |str i=>
  obtain⟨t,rfl⟩:=g;cases y with
  |bC=>cases d;exact PySem.EqNone.ne_str_none (aU I q (by simp))
  |bl j=>cases d;exact PySem.EqMixed.ne_str_bool (aU I q (by simp))
  |int j=>obtain⟨e,rfl⟩:=d;exact PySem.EqMixed.ne_str_int (aU I q (by simp))
  |str j=>obtain⟨e,rfl⟩:=d;exact ne_str (aU I q (W1 not EN))
  |_=>exact absurd (show false=true from f) Kj
 |IT i=>
  obtain⟨t,rfl⟩:=g;cases y with
  |IT j=>obtain⟨e,rfl⟩:=d;exact PySem.W.ne_bytes (aU I q (W1 not EO))
  |_=>exact absurd (show false=true from f) Kj
 |_=>cases y<;>exact absurd (show false=true from f) Kj
theorem XC:n9 X (compareOp .Lt) (M5 λi j=>.bl (decide (i<j))):=M6 λ_ _ _ _ _ _ _ q=>lt_int q
theorem XD:n9 X (compareOp .LtE) (M5 λi j=>.bl (decide (i<=j))):=M6 λ_ _ _ _ _ _ _ q=>le_int q
theorem XE:n9 X (compareOp .Gt) (M5 λi j=>.bl (decide (j<i))):=M6 λ_ _ _ _ _ _ _ q=>gt_int q
theorem XF:n9 X (compareOp .GtE) (M5 λi j=>.bl (decide (j<=i))):=M6 λ_ _ _ _ _ _ _ q=>ge_int q
theorem SK:n9 X (compareOp .Is) (λx y H Q=>y=.bC/\Q (.bl (decide (x=.bC))) H):=by
 intro e s g H x y v u Q I d f h;obtain⟨rfl,q⟩:=h;cases f;refine is_none_gen (aU I q ?_);cases x<;>first
  |(cases d;rfl)
  |(obtain⟨t,rfl⟩:=d;rfl)
theorem M8:n9 X (compareOp .IsNot) (λx y H Q=>y=.bC/\Q (.bl (!decide (x=.bC))) H):=by
 intro e s g H x y v u Q I d f h;obtain⟨rfl,q⟩:=h;cases f;refine isnot_none_gen (aU I q ?_);cases x<;>first
  |(cases d;rfl)
  |(obtain⟨t,rfl⟩:=d;rfl)
theorem CK(b:Expr){op:CmpOp}(h:op≠.In:=by decide)(d:op≠.NotIn:=by decide):behindInMarks op b=false:=by
 have f:(op==CmpOp.In)=false:=by cases op<;>first|rfl|exact absurd rfl h
 have e:(op==CmpOp.NotIn)=false:=by cases op<;>first|rfl|exact absurd rfl d
 cases b<;>simp[behindInMarks,f,e]
theorem M9{op:CmpOp}{r:R2}(j:n9 X (compareOp op) r)(m:PE X a ta)(l:PE X b tb)(k:behindInMarks op b=false):PE X (.Compare a [op] [b] pos) (tOp r ta tb):=by intro d s e H Q I h;exact wpAny_Compare1 (Sy m l I h λv u f x y o n i g q=>j d f e o x y v u Q n i g q) k
theorem t8:(sizeLine:Nat)<2^63:=by rw[sizeLine_eq];decide
theorem CL:n9 X (binaryOp .Add) (λx y H Q=>∃i j,x=.str i/\y=.str j/\i.length+j.length<=sizeLine/\Q (.str (i++j)) H):=by intro d s k H x y v u Q I g f h;obtain⟨i,j,rfl,rfl,hz,q⟩:=h;obtain⟨t,rfl⟩:=g;obtain⟨e,rfl⟩:=f;exact add_str (λe l=>⟨.str (i++j),H,I.tok _,⟨_,rfl⟩,q⟩) hz
theorem vals1{x:V}{us:List Value}(r:Vals [x] us):∃u,us=[u]/\RelV x u:=by
 cases r with
 |cons e d=>cases d;exact⟨_,rfl,e⟩
theorem vals2{x y:V}{us:List Value}(r:Vals [x,y] us):∃u w',us=[u,w']/\RelV x u/\RelV y w':=by
 cases r with
 |cons g f=>
  cases f with
  |cons e d=>cases d;exact⟨_,_,rfl,g,e⟩
theorem Ju:e9 X (.builtin "abs") (λd H Q=>∃i,d=[.int i]/\Q (.int (if i<0 then-i else i)) H):=by intro e s f H d g Q I r h;obtain⟨i,rfl,q⟩:=h;obtain⟨u,rfl,t,rfl⟩:=vals1 r;exact call_abs_int λu j=>⟨.int (if i<0 then-i else i),H,I.tok _,⟨_,rfl⟩,q⟩
theorem GW(g:X.calm=true):e9 X (.builtin "max") (λe H Q=>∃i j,e=[.int i,.int j]/\Q (.int (if j>i then j else i)) H):=by
 intro f s l H e n Q I r h;obtain⟨i,j,rfl,q⟩:=h;obtain⟨u,m,rfl,⟨t,rfl⟩,⟨p,rfl⟩⟩:=vals2 r;refine max_two_ints (I.ok.hd g) λv o k=>⟨_,H,I.kept k,?_,q⟩;by_cases d:j>i
 ·rw[Bn d,Bn d];exact⟨_,rfl⟩
 ·rw[Bi d,Bi d];exact⟨_,rfl⟩
theorem GX(g:X.calm=true):e9 X (.builtin "min") (λe H Q=>∃i j,e=[.int i,.int j]/\Q (.int (if j<i then j else i)) H):=by
 intro f s l H e n Q I r h;obtain⟨i,j,rfl,q⟩:=h;obtain⟨u,m,rfl,⟨t,rfl⟩,⟨p,rfl⟩⟩:=vals2 r;refine min_two_ints (I.ok.hd g) λv o k=>⟨_,H,I.kept k,?_,q⟩;by_cases d:j<i
 ·rw[Bn d,Bn d];exact⟨_,rfl⟩
 ·rw[Bi d,Bi d];exact⟨_,rfl⟩
theorem GY:e9 X (.type "int") (λd H Q=>(∃i,d=[.int i]/\Q (.int i) H)\/∃k,d=[.bl k]/\Q (.int (if k then 1 else 0)) H):=by
 intro e s g H d j Q I r h;rcases h with⟨i,rfl,q⟩|⟨k,rfl,q⟩
 ·obtain⟨u,rfl,t,rfl⟩:=vals1 r;exact call_int_int ⟨.int i,H,I,⟨_,rfl⟩,q⟩
 ·obtain⟨u,rfl,f⟩:=vals1 r;cases f;exact call_int_bool ⟨.int (if k then 1 else 0),H,I.tok _,⟨_,rfl⟩,q⟩
end
structure CM(h:Heap)(x dx C:Addr)(mA:Str->Option Value):Prop where
 obj:h.get? x=some (instObj C dx)
 ns:h.Ns1 dx mA
 ne:dx≠x
theorem GZ{h:Heap}{g:Addr}{d:Str->Option Value}(n:h.Ns1 g d):∃c,h.get? g=some c/\∀name,lookIn name c=some (d name):=by
 obtain⟨o,f,r,j,m,l,_,k⟩:=n;refine⟨o,j,λname=>?_⟩;have e:=k name;unfold nsFind findBy at e;rw[←Array.find?_toList]at e;unfold lookIn;rw[m];dsimp only;split
 ·rename_i y q
  rw[q]at e;exact W1 some e
 ·rename_i q
  rw[q]at e;have a:f.toList.any (·.refKey)=false:=by rw[List.any_eq_false];intro y i;obtain⟨z,t,b⟩:=l y (Array.mem_toList_iff.mp i);simp[DictEntry.refKey,b]
  have p:¬f.toList.any (·.refKey)=true:=by rw[a];exact Kj
  rw[Bi p];exact W1 some e
theorem CM.look{h:Heap}{x c C:Addr}{b:Str->Option Value}(I:CM h x c C b):∃a,PySem.W.InstAt h x (instObj C c) C (some a)/\∀name,lookIn name a=some (b name):=
 let⟨a,ho,hl⟩:=GZ I.ns
 ⟨a,⟨I.obj,rfl,rfl,ho⟩,hl⟩
section
variable{prog:Program}{w:World}{A:Around}{E:Value->Shared->Prop}{s:Shared}{K:Frag}{x dx C f:Addr}{mA:Str->Option Value}{name:Str}{v:Value}
theorem get_map{a:Bool}{Q:Value->Shared->Prop}(X:K.In s.heap)(I:CM s.heap x dx C mA)(g:plainGet K C name=true)(e:hasDictIn K C=true)
 (i:findIn K (.ref C) name=some none)(c:mA name=some v)(b:PySem.W.handedIn v=true)(h:Q v {s with toks:=s.toks+1}):
 wpAny (model prog w) A (getAttr (.ref x) name a) Q E s:=by
 obtain⟨j,J,d⟩:=I.look;exact PySem.W.get_value X J (plainGet_of g).1 (PySem.W.findObj_own e i rfl (by rw[d,c])) b h
theorem Jv{pl:Sem Bool}{Q:Value×List Value->Shared->Prop}(X:K.In s.heap)(I:CM s.heap x dx C mA)(a:plainGet K C name=true)
 (g:findIn K (.ref C) name=some (some (.ref f)))(d:isFn K (.ref f)=true)(c:mA name=none)(h:Q (.ref f,[.ref x]) s):
 wpAny (model prog w) A (getMethod (.ref x) name pl) Q E s:=by
 obtain⟨b,J,e⟩:=I.look;exact PySem.W.method_fn X J (plainGet_of a).1 (plainGet_of a).2 g (Nw.mp d) (by show(lookIn name b).map (·.isSome)=some false;rw[e,c];rfl) h
theorem Na{ns:List Str}{Q:Unit->Shared->Prop}(X:K.In s.heap)(I:CM s.heap x dx C mA)
 (o:findIn K (.ref C) "__setattr__"=some (some (.builtin "object.__setattr__")))(p:plainOver K C=true)(m:takerIn K C name=some none)(q:hasDictIn K C=true)
 (l:PySem.Within mA ns)(n:ns.length<=sizeLine)
 (h:∀h',CM h' x dx C (λy=>if y=name then some v else mA y)->Heap.SameBut dx s.heap h'->Q () {s with heap:=h',toks:=s.toks+2}):
 wpAny (model prog w) A (setAttr (.ref x) name v) Q E s:=by
 obtain⟨B,J,F⟩:=I.look;refine PySem.W.set_plain X J o (PySem.W.osa_open (s:={s with toks:=s.toks+1}) (r:=none) X J p m λb=>?_);obtain⟨G,t,i⟩:=PySem.W.any_some q;have k:s.heap.get? x=some ⟨.ref C,some dx,.plain,#[]⟩:=I.obj;refine FC (NM (FC (FC (wpAny_loadPart k (FC (PySem.W.Looks.here (s:={s with toks:=s.toks+1}) (PySem.W.looks_clsIn X t) ?_))))));rw[i];refine NM (a:=some dx) (FC (NM (FC ?_)));refine wpAny_nsSet1 (s:={s with toks:=s.toks+1}) I.ns λh' d c=>?_;obtain⟨D,u,z,e,g,j⟩:=d.count (PySem.Within.cons name v l);refine FC (wpAny_lookBehind e (by rw[g];exact pastItsLine_dict (Da j (by rw[List.length_cons];lia))) ?_);exact NM (h _ ⟨(c.2 _ (RF I.ne)).trans I.obj,d,I.ne⟩ c)
theorem Jw{R:Result->Shared->Prop}{vs:List Value}{b:List (Str×Value)}(X:K.In s.heap)(c:makesIn K C=true)
 (e:findIn K (.ref C) "__init__"=some (some (.ref f)))(i:PySem.W.typeIn K (.ref f)=some (.type "function"))
 (h:codeAny (model prog w) (A.under (.builtin "type.__call__" ⟨.ref C::vs,b⟩)) (.call (.ref f) ⟨.ref (s.heap.objs.size+1)::vs,b⟩) (PySem.W.InitBack (s.heap.objs.size+1) R)
   {s with heap:=(s.heap.push emptyDict).push (instObj C s.heap.objs.size)}):
 codeAny (model prog w) A (.call (.ref C) ⟨vs,b⟩) R s:=by
 obtain⟨k,g,d,t,j⟩:=s;exact PySem.W.make_core (PySem.W.makes_of X c) (qr X e) (λa=>PySem.W.bind_fn X a i) (.inl rfl) h
end
noncomputable def kg(f:Str)(v:V):List (Str×V)->List (Str×V)
 |[]=>[(f,v)]
 |(g,x)::r=>if g=f then(g,v)::r else(g,x)::kg f v r
theorem rV(f g:Str)(v:V):∀c:List (Str×V),(kg f v c).lookup g=if g=f then some v else c.lookup g
 |[]=>by
  show List.lookup g [(f,v)]=_;by_cases h:g=f
  ·have a:(g==f)=true:=Nw.mpr h;simp only[List.lookup,a,Bn h]
  ·have a:(g==f)=false:=kv.mpr h;simp only[List.lookup,a,Bi h]
 |(k,x)::r=>by
  have d:=rV f g v r;rw[show kg f v ((k,x)::r)=(if k=f then(k,v)::r else(k,x)::kg f v r)from rfl];by_cases b:k=f
  ·rw[Bn b];by_cases h:g=k
   ·have a:(g==k)=true:=Nw.mpr h;simp only[List.lookup,a,Bn (h.trans b)]
   ·have a:(g==k)=false:=kv.mpr h;simp only[List.lookup,a,Bi (λe:g=f=>h (e.trans b.symm))]
  ·rw[Bi b];by_cases h:g=k
   ·have a:(g==k)=true:=Nw.mpr h;simp only[List.lookup,a,Bi (λe:g=f=>b (h.symm.trans e))]
   ·have a:(g==k)=false:=kv.mpr h;simp only[List.lookup,a];exact d
theorem qM(f:Str)(v:V):∀b:List (Str×V),f∈(kg f v b).map (·.1)/\∀g,g∈b.map (·.1)->g∈(kg f v b).map (·.1)
 |[]=>⟨by simp[kg],λg h=>by simp at h⟩
 |(k,x)::r=>by
  obtain⟨d,c⟩:=qM f v r;rw[show kg f v ((k,x)::r)=(if k=f then(k,v)::r else(k,x)::kg f v r)from rfl];by_cases a:k=f
  ·rw[Bn a];subst a;exact⟨by simp,λg h=>by simpa using h⟩
  ·rw[Bi a];refine⟨?_,λg h=>?_⟩
   ·rw[Jn];exact FR _ d
   ·rw[Jn]at h⊢;rcases GT.mp h with e|e
    ·exact GT.mpr (.inl e)
    ·exact FR _ (c g e)
theorem rW(f:Str)(v:V):∀b:List (Str×V),(kg f v b).length<=b.length+1
 |[]=>by simp[kg]
 |(k,x)::r=>by
  have ih:=rW f v r;rw[show kg f v ((k,x)::r)=(if k=f then(k,v)::r else(k,x)::kg f v r)from rfl];by_cases a:k=f
  ·rw[Bn a,List.length_cons,List.length_cons];lia
  ·rw[Bi a,List.length_cons,List.length_cons];lia
theorem wc.some_of{v:V}{o:Option Value}(r:wc (some v) o):∃u,o=some u/\RelV v u:=by
 cases o with
 |none=>exact(show False from r).elim
 |some u=>exact⟨u,rfl,r⟩
theorem wc.none_of{o:Option Value}(r:wc none o):o=none:=by
 cases o with
 |none=>rfl
 |some u=>exact(show False from r).elim
theorem G3{v:V}{u:Value}(r:RelV v u):PySem.W.handedIn u=true:=by
 cases v with
 |bC=>cases(show u=Value.none from r);rfl
 |bl b=>cases(show u=Value.bool b from r);rfl
 |int i=>obtain⟨t,e⟩:=(show∃t,u=Value.int i t from r);cases e;rfl
 |str x=>obtain⟨t,e⟩:=(show∃t,u=Value.str x t from r);cases e;rfl
 |IT b=>obtain⟨t,e⟩:=(show∃t,u=Value.bytes b t from r);cases e;rfl
 |R8 b=>obtain⟨t,e⟩:=(show∃t,u=Value.float b t from r);cases e;rfl
 |ref a=>cases(show u=Value.ref a from r);rfl
 |ty n=>cases(show u=Value.type n from r);rfl
section
variable{P:Program}{w:World}{H H':Hp}{h h':Heap}{a C dx:Addr}{fs fs':List (Str×V)}
theorem sQ(c:oQ P w H h)(e:H a=some (.ins C dx fs)):∃b,CM h a dx C b/\(∀f,wc (fs.lookup f) (b f))/\PySem.Within b (fs.map (·.1))/\fs.length<=1000/\H dx=some (.own a):=by obtain⟨d,z,i,g,b,n,r,q⟩:=(show cL P w H h a (.ins C dx fs)from c a _ e);exact⟨b,⟨g,n,i⟩,r,q,z,d⟩
end
structure Nb(K:Frag)(C:Addr):Prop where
 pg:plainGet K C Str.empty=true
 hd:hasDictIn K C=true
 po:plainOver K C=true
 sa:findIn K (.ref C) "__setattr__"=some (some (.builtin "object.__setattr__"))
theorem Nb.get{K:Frag}{C:Addr}(c:Nb K C)(f:Str):plainGet K C f=true:=c.pg
noncomputable def oh(K:Frag)(C:Addr)(f:Str):Prop:=findIn K (.ref C) f=some none
theorem oh.XG{K:Frag}{C:Addr}{f:Str}(n:oh K C f):takerIn K C f=some none:=by unfold takerIn;rw[show findIn K (.ref C) f=some none from n];rfl
structure Meth(K:Frag)(C:Addr)(m:Str)(f:Addr):Prop where
 at_:findIn K (.ref C) m=some (some (.ref f))
 fn:isFn K (.ref f)=true
 kp:keepIn K (.ref f)=true
section
variable{X:Cx}{pins:List (Addr×Obj)}{σ:St}{H:Hp}{s:Shared}{a C dx:Addr}{fs:List (Str×V)}{f:Str}{v:V}{A:Around}{E:Value->Shared->Prop}
theorem CN{b:Bool}{Q:Value->Shared->Prop}(I:Inv X pins σ H s)(e:H a=some (.ins C dx fs))(c:Nb X.K C)(n:oh X.K C f)(l:fs.lookup f=some v)
 (h:∀u s',Inv X pins σ H s'->RelV v u->Q u s'):wpAny (model X.prog X.w) A (getAttr (.ref a) f b) Q E s:=by
 obtain⟨g,O,r,_,_,_⟩:=sQ I.hok e;obtain⟨u,i,d⟩:=wc.some_of (v:=v) (o:=g f) (by rw[←l];exact r f);exact get_map I.oR O (c.get f) c.hd n i (G3 d) (h u _ (I.tok _) d)
theorem t9{m:Str}{g:Addr}{pl:Sem Bool}{Q:Value×List Value->Shared->Prop}(I:Inv X pins σ H s)(e:H a=some (.ins C dx fs))(c:Nb X.K C)(k:Meth X.K C m g)(l:fs.lookup m=none)
 (h:Q (.ref g,[.ref a]) s):wpAny (model X.prog X.w) A (getMethod (.ref a) m pl) Q E s:=by
 obtain⟨b,O,r,_,_,_⟩:=sQ I.hok e;have d:b m=none:=wc.none_of (by rw[←l];exact r m);exact Jv I.oR O (c.get m) k.at_ k.fn d h
theorem CO{y:V}{u:Value}{Q:Unit->Shared->Prop}(I:Inv X pins σ H s)(e:H a=some (.ins C dx fs))(c:Nb X.K C)(n:oh X.K C f)(D:fs.length<1000)(m:RelV y u)
 (h:∀s',Inv X pins σ (upd H a (.ins C dx (kg f y fs))) s'->Q () s'):wpAny (model X.prog X.w) A (setAttr (.ref a) f u) Q E s:=by
 obtain⟨j,O,r,i,_,k⟩:=sQ I.hok e;have hz:(fs.map (·.1)).length<=sizeLine:=by rw[AN,sizeLine_eq];lia
 refine Na I.oR O c.sa c.po n.XG c.hd i hz λB d l=>h _ ?_;have hd:∃o,B.get? dx=some o:=let⟨o,_,_,e',_⟩:=d.ns;⟨o,e'⟩
 refine I.write (x:=a) (e:=dx) (by rw[e];exact True.intro) (.inr k) (λb q t z=>(l.2 b t).trans z) hd ?_;refine⟨by rw[ao O.ne];exact k,?_,O.ne,d.obj,_,d.ns,λg=>?_,λg p=>?_⟩
 ·have:=rW f y fs;lia
 ·show wc ((kg f y fs).lookup g) (if g=f then some u else j g);rw[rV];by_cases q:g=f
  ·rw[Bn q,Bn q];exact m
  ·rw[Bi q,Bi q];exact r g
 ·by_cases q:g=f
  ·rw[q];exact(qM f y fs).1
  ·refine(qM f y fs).2 g (i g λz=>p ?_);show(if g=f then some u else j g)=none;rw[Bi q];exact z
theorem Inv.made(I:Inv X pins σ H s):Inv X pins σ (upd (upd H s.heap.objs.size (.own (s.heap.objs.size+1))) (s.heap.objs.size+1) (.ins C s.heap.objs.size []))
 {s with heap:=(s.heap.push emptyDict).push (instObj C s.heap.objs.size)}:=by
 have d:(s.heap.push emptyDict).get? s.heap.objs.size=some emptyDict:=Hb s.heap rfl;have j:((s.heap.push emptyDict).push (instObj C s.heap.objs.size)).get? (s.heap.objs.size+1)=some (instObj C s.heap.objs.size):=by have:=Hb (s.heap.push emptyDict) (o:=instObj C s.heap.objs.size) rfl;rwa [Heap.size_push]at this
 have i:(s.heap.push emptyDict).Ns s.heap.objs.size (λ_=>none):=⟨emptyDict,#[],_,d,rfl,(λe h=>absurd h (by simp)),λ_=>rfl⟩;have k:=I.laid (a:=s.heap.objs.size) (o:=.own (s.heap.objs.size+1)) (h':=s.heap.push emptyDict) (t':=s.toks) (λb u q=>DL _ q) (Do _) ⟨_,d⟩;refine k.laid (a:=s.heap.objs.size+1) (o:=.ins C s.heap.objs.size []) (t':=s.toks) (λb u q=>DL _ q) (hV (Heap.size_push _ _)) ?_;have c:s.heap.objs.size≠s.heap.objs.size+1:=KM (OF _);refine⟨by rw[ao c,aD],Mo _,c,j,λ_=>none,(Heap.Ns1.of_empty i).at λo q=>DL _ q,λ_=>True.intro,λy g=>absurd rfl g⟩
theorem Nc{prog:Program}{w:World}{env:Env}{e:Expr}{f:Str}{pos:Pos}{s:Shared}{Q:Value->Shared->Prop}(c:attributeBase e f env (eval e env)=eval e env)
 (h:wpAny (model prog w) A (eval e env) (λo b=>wpAny (model prog w) A (getAttr o f true) Q E b) E s):wpAny (model prog w) A (eval (.Attribute e f pos) env) Q E s:=
 Attribute_any_ h (by rw[arm_eval_Attribute,c])
end
noncomputable def aax(K:Frag)(ta:TE)(f:Str):TE:=λd H Q=>ta d H λx c=>∃a C e b v,x=.ref a/\c a=some (.ins C e b)/\Nb K C/\oh K C f/\b.lookup f=some v/\Q v c
noncomputable def XH(K:Frag)(ta g:TE)(f:Str):TS:=λD b H=>g b H λy h=>ta b h λx e=>∃a C d c,x=.ref a/\e a=some (.ins C d c)/\Nb K C/\oh K C f/\c.length<1000/\
 D.nx b (upd e a (.ins C d (kg f y c)))
section
variable{X:Cx}{o e value:Expr}{f:Str}{pos pos' tpos:Pos}{ta tv:TE}
theorem SM(j:PE X e ta)(k:attributeBase e f X.env (eval e X.env)=eval e X.env):PE X (.Attribute e f pos) (aax X.K ta f):=by intro b s d H Q I h;refine Nc k (cM (j b s d H _ I h) λu z hz=>?_);obtain⟨x,t,r,g,a,C,B,A,v,ex,m,c,n,l,q⟩:=hz;subst ex;obtain rfl:u=Value.ref a:=g;exact CN r m c n l λw y p i=>⟨v,t,p,i,q⟩
theorem jj(t:PE X o ta)(p:PE X value tv)(r:swapsWith value (some (.Attribute o f pos')) pos.line X.env=pure false):PS X (.Assign [.Attribute o f pos'] value pos) (XH X.K ta tv f):=by intro b s d H D I h;refine plainObj_wpAny_Assign_Attribute (cM (p b s d H _ I h) λu g ⟨y,B,A,i,q⟩=>cM (t b g d B _ A q) λm F hz=>?_) r;obtain⟨x,L,z,j,a,C,J,G,ex,v,c,n,l,k⟩:=hz;subst ex;obtain rfl:m=Value.ref a:=j;exact CO z v c n l i λE w=>⟨d,_,w,k⟩
end
section
variable{X:Cx}{pins:List (Addr×Obj)}{σ:St}{H:Hp}{s:Shared}{A:Around}{E:Value->Shared->Prop}{Q:Value->Shared->Prop}{c:Value}{b:Bool}
inductive sC(K:Frag)(H:Hp):V->Value->Prop where
 |bC:sC K H .bC (.type "NoneType")
 |bl (x:Bool):sC K H (.bl x) (.type "bool")
 |int (i:Int):sC K H (.int i) (.type "int")
 |str (x:Str):sC K H (.str x) (.type "str")
 |R8 (x:UInt64):sC K H (.R8 x) (.type "float")
 |lst {a:Addr} {xs:List V} (e:H a=some (.lst xs)):sC K H (.ref a) (.type "list")
 |An {a:Addr} {o:Obj} {xs:List V} (e:H a=some (.An o (.lst xs))):sC K H (.ref a) (.type "list")
 |tup {a:Addr} {xs:List V} (e:H a=some (.tup xs)):sC K H (.ref a) (.type "tuple")
 |dK {a:Addr} {kvs:List (Key×V)} (e:H a=some (.dK kvs)):sC K H (.ref a) (.type "dict")
 |dT {a:Addr} {kvs:List (List Key×V)} (e:H a=some (.dT kvs)):sC K H (.ref a) (.type "dict")
 |ins {a C dx:Addr} {fs:List (Str×V)} (e:H a=some (.ins C dx fs)) (cl:Nb K C) (ha:findIn K (.ref C) "__class__"=some (some (.builtin "object.__class__")))
   (hn:PySem.W.specialIn K (.builtin "object.__class__") "__get__"=some (some (.builtin "getset_descriptor.__get__"))) (htk:PySem.W.takesIn K (.builtin "object.__class__")=some true)
   (hm:mroIn K C (.type "object")=some true):sC K H (.ref a) (.ref C)
theorem iB{x:V}{u t:Value}(I:Inv X pins σ H s)(d:RelV x u)(v:sC X.K H x t)(e:kitOne X.K t c=some b)(h:∀B,Q (.bool b) {s with toks:=B}):
 wpAny (model X.prog X.w) A (call (.builtin "isinstance") [u,c]) Q E s:=by
 cases v with
 |bC=>cases(show u=Value.none from d);exact SF PySem.W.kitx_none I.oR True.intro e (λz=>nomatch z) h
 |bl y=>cases(show u=Value.bool y from d);exact SF PySem.W.kitx_bool I.oR True.intro e (λz=>nomatch z) h
 |int i=>obtain⟨t,q⟩:=(show∃t,u=Value.int i t from d);cases q;exact SF PySem.W.kitx_int I.oR True.intro e (λz=>nomatch z) h
 |str y=>obtain⟨t,q⟩:=(show∃t,u=Value.str y t from d);cases q;exact SF PySem.W.kitx_str I.oR True.intro e (λz=>nomatch z) h
 |R8 y=>obtain⟨t,q⟩:=(show∃t,u=Value.float y t from d);cases q;exact SF PySem.W.kitx_float I.oR True.intro e (λz=>nomatch z) h
 |@lst a k f=>
  cases(show u=Value.ref a from d);obtain⟨_,_,n,_,g⟩:=(show cL X.prog X.w H s.heap a (.lst k)from I.hok a _ f);exact SF PySem.W.kitx_list I.oR ⟨_,g,rfl⟩ e (λz=>nomatch z) h
 |@An a D k f=>
  cases(show u=Value.ref a from d);obtain⟨_,_,_,n,_,g⟩:=(show cL X.prog X.w H s.heap a (.An D (.lst k))from I.hok a _ f);exact SF PySem.W.kitx_list I.oR ⟨_,g,rfl⟩ e (λz=>nomatch z) h
 |@tup a k f=>
  cases(show u=Value.ref a from d);obtain⟨_,_,_,p⟩:=(show cL X.prog X.w H s.heap a (.tup k)from I.hok a _ f);obtain⟨o,g,l,_⟩:=p;exact SF PySem.W.kitx_tuple I.oR ⟨o,g,l⟩ e (λz=>nomatch z) h
 |@dK a j f=>
  cases(show u=Value.ref a from d);obtain⟨_,_,P,_,p⟩:=(show cL X.prog X.w H s.heap a (.dK j)from I.hok a _ f);obtain⟨o,M,N,g,l,_⟩:=p;exact SF PySem.W.kitx_dict I.oR ⟨o,g,l.1⟩ e (λz=>nomatch z) h
 |@dT a j f=>
  cases(show u=Value.ref a from d);obtain⟨_,_,k,_,o,M,N,g,l,_⟩:=(show cL X.prog X.w H s.heap a (.dT j)from I.hok a _ f);exact SF PySem.W.kitx_dict I.oR ⟨o,g,l.1⟩ e (λz=>nomatch z) h
 |@ins a C U T f r L F m G=>
  cases(show u=Value.ref a from d);obtain⟨S,O,_⟩:=sQ I.hok f;obtain⟨R,J,_⟩:=O.look;exact SF (PySem.W.kitx_own (r.get _) r.hd L F m G) I.oR J e (λz=>nomatch z) h
end
structure fy(k:Nat)(A:Around):Prop where
 hd:A.handled=none
 dp:A.depth+3*k+120<recursionLimit
 un:A.units+16*k+200<cLine
theorem fy.mono{j k:Nat}{A:Around}(r:fy k A)(h:j<=k):fy j A:=⟨r.hd,by have:=r.dp;lia,by have:=r.un;lia⟩
theorem fy.deeper{k:Nat}{A:Around}(r:fy (k+1) A)(env:Env):fy k (A.deeper env):=
 ⟨r.hd,by have:=r.dp;show A.depth+1+3*k+120<_;lia,by have:=r.un;show A.units+3+16*k+200<_;lia⟩
theorem CP{A:Around}{C:Addr}{us:List Value}{a:List (Str×Value)}:(A.under (.builtin "type.__call__" ⟨.ref C::us,a⟩)).depth=A.depth+1:=by first|rfl|simp[Around.under,Code.weight,Code.isCreation,Code.isGuard,Code.isCaller,Code.frames,Code.isFrame,guardIds]
theorem CQ{A:Around}{C:Addr}{us:List Value}{a:List (Str×Value)}:(A.under (.builtin "type.__call__" ⟨.ref C::us,a⟩)).units=A.units+1:=by first|rfl|simp[Around.under,Code.cUnits,Code.frames,Code.isFrame]
theorem fy.make{k:Nat}{A:Around}(r:fy (k+1) A)(C:Addr)(us:List Value)(a:List (Str×Value)):fy k (A.under (.builtin "type.__call__" ⟨.ref C::us,a⟩)):=
 ⟨r.hd,by have:=r.dp;rw[CP];omega,by have:=r.un;rw[CQ];omega⟩
theorem fy.depth{k:Nat}{A:Around}(r:fy k A):A.depth<recursionLimit:=by have:=r.dp;lia
theorem fy.units{k:Nat}{A:Around}(r:fy k A):A.units+64<cLine:=by have:=r.un;lia
noncomputable def SN:TA:=λ_ H Q=>Q [] H
noncomputable def Jx(ta:TE)(c:TA):TA:=λa H Q=>ta a H λx e=>c a e λb d=>Q (x::b) d
section
variable{X:Cx}{e:Expr}{es:List Expr}{te:TE}{t:TA}{pos:Pos}
theorem bf:PA X [] SN:=λ_ _ _ _ H Q I h=>Calls.spliced_nil ⟨[],H,I,.nil,h⟩
theorem aq(m:PE X e te)(l:PA X es t)(k:starEach (e::es) X.env=(false,eval e X.env)::starEach es X.env:=by rfl):PA X (e::es) (Jx te t):=by intro pos a s b H Q I h;rw[k];show wpAny _ _ (spliced ((false,eval e X.env)::backTo pos (starEach es X.env))) _ _ s;refine Calls.spliced_cons (cM (m a s b H _ I h) λu d ⟨x,q,o,g,j⟩=>?_);exact cM (l pos a d b q _ o j)<|by rintro r v ⟨c,p,n,f,i⟩;exact⟨x::c,p,n,.cons g f,i⟩
noncomputable def aay(t:TA):TE:=λc H Q=>t c H λa b=>a.length<=sizeLine/\∀p,b p=none->Q (.ref p) (upd b p (.tup a))
noncomputable def aaz(t:TA):TE:=λc H Q=>t c H λa b=>a.length<=sizeLine/\∀p,b p=none->Q (.ref p) (upd b p (.lst a))
theorem yt{j}(h:PA X es t):PE X (.Tuple es j pos) (aay t):=by intro a s g H Q I l;refine wpAny_Tuple_spliced (cM (h pos a s g H _ I l) λk c ⟨i,f,d,r,z,q⟩=>⟨by rw[←r.length];exact z,?_⟩);have m:f c.heap.objs.size=none:=d.hok.fresh (Do _);refine⟨.ref c.heap.objs.size,upd f c.heap.objs.size (.tup i),d.laid (t':=c.toks) (λb u e=>DL _ e) (Do _) ?_,rfl,q _ m⟩;exact⟨z,k,r,⟨_,Hb _ rfl,rfl,_,rfl⟩⟩
theorem ua(h:PA X es t):PE X (.List es pos) (aaz t):=by intro a s g H Q I k;refine wpAny_List_spliced (cM (h pos a s g H _ I k) λj c ⟨i,f,d,r,z,q⟩=>⟨by rw[←r.length];exact z,?_⟩);have l:f c.heap.objs.size=none:=d.hok.fresh (Do _);refine⟨.ref c.heap.objs.size,upd f c.heap.objs.size (.lst i),d.laid (t':=c.toks) (λb u e=>DL _ e) (Do _) ?_,rfl,q _ l⟩;exact⟨z,j,0,r,Hb _ rfl⟩
end
abbrev Sp:=List V->Hp->VK->XK->Prop
abbrev G4:=List Env->Hp->Shared->XK->Value->Shared->Prop
structure CT(P:Program)(w:World)(K:Frag)(mg:Str->Option Value)(base:Heap)(A:Around)(outer:List Env)(s:Shared)(H:Hp):Prop where
 frames:A.frames=some outer
 mod:Mod K mg base
 bs:∀b o,base.get? b=some o->s.heap.get? b=some o/\H b=none
 MR:base.objs.size<=s.heap.objs.size
 qK:s.heap.FunFrames base outer
 QO:∀b∈frs outer,H b=none
 hok:oQ P w H s.heap
 bare:AllBare s.gens
 tree:P.given.tree=none
noncomputable def CE(a:List Env)(P:Program)(w:World)(H:Hp)(s:Shared)(Q:VK)(u:Value)(s':Shared):Prop:=
 ∃v b,s'.os=s.os/\AllBare s'.gens/\Un (frs a) [] H b s.heap s'.heap/\oQ P w b s'.heap/\RelV v u/\Q v b
noncomputable def CR(CX:G4)(a:List Env)(P:Program)(w:World)(H:Hp)(s:Shared)(Q:VK)(E:XK)(r:Result)(s':Shared):Prop:=
 match r with
 |.ok (.ret u)=>CE a P w H s Q u s'
 |.ok _=>False
 |.error e=>CX a H s E e s'
structure aN(P:Program)(w:World)(K:Frag)(mg:Str->Option Value)(base:Heap)(CX:G4)(k:Nat)(f:Addr)(fd:FuncData)(ps:List Str)(sp:Sp):Prop where
 len:∀vs H Q E,sp vs H Q E->vs.length=ps.length
 run:∀(A:Around)(outer:List Env)(s:Shared)(H:Hp)(args:Args)(us:List Value)(vs:List V)(Q:VK)(E:XK),fy k A->CT P w K mg base A outer s H->BindsTo s fd args (ps.zip us)->Vals vs us->sp vs H Q E->
  codeAny (model P w) A (.call (.ref f) args) (CR CX outer P w H s Q E) s
theorem aN.imp{P:Program}{w:World}{K:Frag}{d:Str->Option Value}{base:Heap}{CX:G4}{k:Nat}{f:Addr}{e:FuncData}{ps:List Str}{sp b:Sp}(F:aN P w K d base CX k f e ps sp)
 (h:∀vs H Q E,b vs H Q E->sp vs H Q E):aN P w K d base CX k f e ps b:=
 ⟨λvs H Q E q=>F.len vs H Q E (h _ _ _ _ q),λA a s H c g vs Q E l m n i j=>F.run A a s H c g vs Q E l m n i (h _ _ _ _ j)⟩
theorem CT.make{P:Program}{w:World}{K:Frag}{b:Str->Option Value}{base:Heap}{A:Around}{a:List Env}{s:Shared}{H:Hp}(e:CT P w K b base A a s H)(C:Addr)(us:List Value)(c:List (Str×Value)):
 CT P w K b base (A.under (.builtin "type.__call__" ⟨.ref C::us,c⟩)) a s H:=⟨by first|exact e.frames|(simpa[Around.under,Code.envs,Code.isFrame,pushEnvs]using e.frames),e.mod,e.bs,e.MR,e.qK,e.QO,e.hok,e.bare,e.tree⟩
section
variable{X:Cx}{pins:List (Addr×Obj)}{σ:St}{H:Hp}{s s':Shared}
theorem Inv.SO(I:Inv X pins σ H s):CT X.prog X.w X.K X.mg X.base X.A X.stack s H:=
 ⟨I.ok.frames,I.ok.mod,I.bs,Da I.ok.MR I.sz,I.stack,I.mH,I.hok,I.bare,I.ok.tree⟩
theorem Inv.after{Q:VK}{u:Value}(I:Inv X pins σ H s)(h:CE X.stack X.prog X.w H s Q u s'):EP X pins σ Q u s':=by obtain⟨v,j,os,a,f,e,r,q⟩:=h;obtain⟨i,g,d,t,c⟩:=s';obtain rfl:c=s.os:=os;exact⟨v,j,I.call (h':=i) (g':=g) (d':=d) (t':=t) (ch:=[]) f e a (λb z=>absurd z (by simp)),r,q⟩
end
noncomputable def Binds(K:Frag)(b:FuncData)(ps:List Str)(ds:List Value):Prop:=
 ∀(s:Shared)(a:List Value),K.In s.heap->(a++ds).length=ps.length->BindsTo s b ⟨a,[]⟩ (ps.zip (a++ds))
theorem Binds.all{K:Frag}{b:FuncData}{ps:List Str}(h:∀us:List Value,us.length=ps.length->bindArgs b ⟨us,[]⟩=pure (ps.zip us)):Binds K b ps []:=λs us _ a=>by rw[Kx]at a⊢;exact .of_eq (h us a)
noncomputable def Passes(CX:G4)(X:Cx)(E:XK):Prop:=∀(a:List (Addr×Obj))(c:St)(H:Hp)(s:Shared)(e:Value)(b:Shared),Inv X a c H s->CX X.stack H s E e b->X.xe e b
section
variable{X:Cx}{CX:G4}{k:Nat}{f C:Addr}{fd:FuncData}{ps:List Str}{sp:Sp}{Jy:List V}{ds:List Value}{E:XK}{x m:Str}{p pos apos:Pos}{e o:Expr}{es:List Expr}{ta:TE}{t:TA}
theorem CU{a:List (Addr×Obj)}{σ:St}{H:Hp}{s:Shared}{Q:VK}{us:List Value}{vs:List V}(F:aN X.prog X.w X.K X.mg X.base CX k f fd ps sp)(i:fy k X.A)(n:Binds X.K fd ps ds)(l:Vals Jy ds)(g:Passes CX X E)
 (I:Inv X a σ H s)(r:Vals vs us)(h:sp (vs++Jy) H Q E):wpAny (model X.prog X.w) X.A (call (.ref f) us) (EP X a σ Q) X.xe s:=by
 have c:Vals (vs++Jy) (us++ds):=r.append l;have j:(us++ds).length=ps.length:=by rw[←c.length];exact F.len _ _ _ _ h
 refine wpAny_call (uj (F.run X.A X.stack s H ⟨us,[]⟩ (us++ds) (vs++Jy) Q E i I.SO (n s us I.oR j) c h) λr d b=>?_);cases r with
 |error e=>exact g a σ H s e d I b
 |ok fl=>
  cases fl with
  |ret u=>exact I.after b
  |next=>exact False.elim b
  |brk=>exact False.elim b
  |cont=>exact False.elim b
structure Mk(K:Frag)(C f:Addr):Prop where
 makes:makesIn K C=true
 init:findIn K (.ref C) "__init__"=some (some (.ref f))
 fn:isFn K (.ref f)=true
 kp:keepIn K (.ref C)=true
theorem Jz{a:List (Addr×Obj)}{σ:St}{H:Hp}{s:Shared}{Q:VK}{us:List Value}{vs:List V}(M:Mk X.K C f)(F:aN X.prog X.w X.K X.mg X.base CX k f fd ps sp)(q:fy (k+1) X.A)(B:Binds X.K fd ps ds)(z:Vals Jy ds)
 (n:Passes CX X E)(I:Inv X a σ H s)(r:Vals vs us)
 (h:∀x c,H x=none->H c=none->c≠x->sp (.ref x::(vs++Jy)) (upd (upd H c (.own x)) x (.ins C c [])) (λv G=>v=.bC/\Q (.ref x) G) E):
 wpAny (model X.prog X.w) X.A (call (.ref C) us) (EP X a σ Q) X.xe s:=by
 have i:=h (s.heap.objs.size+1) s.heap.objs.size (I.hok.fresh (Nat.le_succ _)) (I.hok.fresh (Do _)) (KM (OF _));have d:=Inv.made (C:=C) I;have g:Vals (V.ref (s.heap.objs.size+1)::(vs++Jy)) (Value.ref (s.heap.objs.size+1)::(us++ds)):=.cons rfl (r.append z);have y:(Value.ref (s.heap.objs.size+1)::us++ds).length=ps.length:=by have e:=g.length;rw[F.len _ _ _ _ i]at e;exact e.symm
 refine wpAny_call (Jw (f:=f) I.oR M.makes M.init (Nw.mp M.fn) (uj (F.run _ X.stack _ _ ⟨Value.ref (s.heap.objs.size+1)::us,[]⟩ (Value.ref (s.heap.objs.size+1)::(us++ds)) _ _ E (q.make C us [])
  (d.SO.make C us []) (B _ (Value.ref (s.heap.objs.size+1)::us) d.oR y) g i) λr j b=>?_))
 cases r with
 |error e=>exact n a σ _ _ e j d b
 |ok fl=>
  cases fl with
  |ret u=>obtain⟨v,J,D,rv,ev,l⟩:=d.after b;subst ev;exact⟨rv,⟨V.ref (s.heap.objs.size+1),J,D,rfl,l⟩⟩
  |next=>exact False.elim b
  |brk=>exact False.elim b
  |cont=>exact False.elim b
end
section
variable{X:Cx}{CX:G4}{k:Nat}{f C:Addr}{fd:FuncData}{ps ks:List Str}{sp:Sp}{E:XK}{x m:Str}{p pos apos kpos:Pos}{e o:Expr}{es:List Expr}{kws:List Keyword}{te ta:TE}{t tk:TA}{nm:Option Str}
variable{g:List Value->List Value->List Value}{gV:List V->List V->List V}
end
structure az(N P:List Str)(sc:Scope):Prop where
 kind:sc.kind=.function
 co:sc.isCoroutine=false
 gen:sc.isGenerator=false
 nd:N.Nodup
 pre:N.take P.length=P
 par:∀x∈P,sc.names.lookup x=some .local\/sc.names.lookup x=some .cell
 SQ:∀y∈sc.names,y.2≠.free
theorem xg{b:Str->Option NameKind}{x:Str}:∀{a:List (Str×Value)}{m:Str->Option Value},(∀v,(x,v)∉a)->bindL b a m x=m x
 |[],_,_=>rfl
 |(n,v)::r,m,h=>by
  unfold bindL;rw[xg λw c=>h w (FR _ c)];split
  ·have:x≠n:=by rintro rfl;exact h v FV
   simp[this]
  ·rfl
theorem xh{b:Str->Option NameKind}{x:Str}:∀{a:List (Str×Value)}{m:Str->Option Value},(∀v,(x,v)∉a)->bindC b a m x=m x
 |[],_,_=>rfl
 |(n,v)::r,m,h=>by
  unfold bindC;rw[xh λw c=>h w (FR _ c)];split
  ·rfl
  ·have:x≠n:=by rintro rfl;exact h v FV
   simp[this]
theorem xj{a:Str->Option NameKind}{x:Str}{v:Value}:∀{P:List Str}{vs:List Value}{i:Nat}{m:Str->Option Value},P.Nodup->P[i]?=some x->vs[i]?=some v->a x=some .local->
 bindL a (P.zip vs) m x=some v
 |[],_,_,_,_,h,_,_=>by simp at h
 |_::_,[],_,_,_,_,h,_=>by simp at h
 |p::P,w::vs,0,m,d,c,b,e=>by simp at c b;subst c;subst b;show bindL a ((p,w)::P.zip vs) m p=_;unfold bindL;rw[xg λv f=>(Tb.mp d).1 (List.of_mem_zip f).1,Bn e];simp
 |p::P,w::vs,i+1,m,d,c,b,e=>by show bindL a ((p,w)::P.zip vs) m x=_;unfold bindL;exact xj (i:=i) (Tb.mp d).2 (by simpa using c) (by simpa using b) e
theorem xm{a:Str->Option NameKind}{x:Str}{v:Value}:∀{P:List Str}{vs:List Value}{i:Nat}{m:Str->Option Value},P.Nodup->P[i]?=some x->vs[i]?=some v->a x≠some .local->
 bindC a (P.zip vs) m x=some v
 |[],_,_,_,_,h,_,_=>by simp at h
 |_::_,[],_,_,_,_,h,_=>by simp at h
 |p::P,w::vs,0,m,d,c,b,e=>by simp at c b;subst c;subst b;show bindC a ((p,w)::P.zip vs) m p=_;unfold bindC;rw[xh λv f=>(Tb.mp d).1 (List.of_mem_zip f).1,Bi e];simp
 |p::P,w::vs,i+1,m,d,c,b,e=>by show bindC a ((p,w)::P.zip vs) m x=_;unfold bindC;exact xm (i:=i) (Tb.mp d).2 (by simpa using c) (by simpa using b) e
noncomputable def start(N:List Str)(vs:List V):St:=vs.map some++List.replicate (N.length -vs.length) none
noncomputable def G5(CX:G4)(P:Program)(w:World)(K:Frag)(mg:Str->Option Value)(base:Heap)(N:List Str)(b:Str)(a:Scope)(f:Addr)(d:Value)(A:Around)(outer:List Env)(s:Shared)(H:Hp)(E:XK):Cx where
 prog:=P
 w:=w
 K:=K
 mg:=mg
 base:=base
 A:=A.deeper (envOfC b a s.heap.objs.size f d)
 N:=N
 s₀:=s
 H₀:=H
 env:=envOfC b a s.heap.objs.size f d
 outer:=outer
 stack:=envOfC b a s.heap.objs.size f d::outer
 ex:=[]
 calm:=true
 fn:=λ_=>true
 pn:=[]
 xe:=λe g=>wpAny (model P w) (A.deeper (envOfC b a s.heap.objs.size f d)) (leaving (envOfC b a s.heap.objs.size f d) e) (λ_ c=>CX outer H s E e c) (λh c=>CX outer H s E h c) g
theorem As{sc:Scope}{n:Nat}{x:Str}(h:sc.names.lookup x=some .cell):∃c,(cellsFrom n sc.names []).lookup x=some c:=by have q:=PySem.W.cellsFrom_some sc.names n [] (.inl h);exact aw.mp q
theorem G6{CX:G4}{P:Program}{w:World}{K:Frag}{I:Str->Option Value}{base:Heap}{N ps:List Str}{l:Str}{d:Scope}{f:Addr}{G:Value}{A:Around}{g:List Env}{s M:Shared}{H:Hp}{E:XK}{us:List Value}{vs:List V}
 (S:az N ps d)(U:A.handled=none)(T:A.depth+110<recursionLimit)(j:CT P w K I base A g s H)(hl:vs.length=ps.length)(r:Vals vs us)
 (x:InCallC s s.heap.objs.size (bindL (envOfC l d s.heap.objs.size f G).kindOf (ps.zip us) λ_=>none) (cellsFrom (s.heap.objs.size+1) d.names []) (bindC (envOfC l d s.heap.objs.size f G).kindOf (ps.zip us) λ_=>none) M):
 Inv (G5 CX P w K I base N l d f G A g s H E) [] (start N vs) H M:=by
 have Q:ps.length<=N.length:=by have:=W1 List.length S.pre;rw[du]at this;lia
 obtain⟨F,Y,rfl,C⟩:=x.done;have L:∀b:Addr,b∉(G5 CX P w K I base N l d f G A g s H E).ex:=λb z=>absurd (show b∈([]:List Addr)from z) (by simp);refine⟨⟨j.mod,S.kind,rfl,rfl,Do _,λy z c F m=>?_,λy o=>?_,λy c _ h=>?_,λ_=>U,Around.frames_deeper j.frames,.inr ⟨rfl,rfl⟩,λb z=>absurd z (L b),j.bs,j.MR,λb _ _=>L b,λb z=>absurd z (L b),j.qK,j.QO,j.tree,λA' Z R J C=>PylongRoom.of (j.mod.nolimit.keeps C) (by rw[J];show A.depth+1+100<_;lia) (SeerAt.of (j.mod.seer.keeps C) j.tree (R.trans (Around.frames_deeper j.frames)) S.gen S.co rfl rfl)⟩,
  rfl,j.bare,Un.kept C,⟨_,x.toInCall.ns,λi y v F m h3=>?_⟩,λy c h=>⟨_,x.cell y c h⟩,j.hok.fresh (Do _),λy c h=>?_,λp B=>absurd (show p∈([]:List (Addr×Obj))from B) (by simp),j.hok.kept C,?_⟩
 ·exact name_of_addr x.apart (QQ F) (QQ m)
 ·have o:d.names.lookup y=some .cell\/d.names.lookup y=some .free:=o;rcases o with o|o
  ·exact As o
  ·exact absurd rfl (S.SQ _ (QQ o))
 ·exact PQ (x.above y c (QQ h))
 ·have D:i<vs.length:=by
   unfold start at m;by_cases D:i<vs.length
   ·exact D
   ·rw[Fu (by simpa using D)]at m;rw[ml]at m;split at m<;>cases m
  have X:vs[i]?=some v:=by
   unfold start at m;rw[He (by simpa using D),DD]at m;cases e:vs[i]? with
   |none=>rw[e]at m;cases m
   |some a=>rw[e]at m;cases m;rfl
  obtain⟨u,O,rv⟩:=r.get X;have B:ps[i]?=some y:=by rw[←S.pre,mB (by lia)];exact F
  have t:ps.Nodup:=by rw[←S.pre];exact S.nd.sublist (List.take_sublist _ _)
  refine⟨u,rv,?_⟩;rcases S.par y (KB B)with k|k
  ·exact .inl ⟨k,xj t B O k⟩
  ·obtain⟨c,e⟩:=As (n:=s.heap.objs.size+1) k;refine .inr ⟨.inl k,c,e,?_⟩;have q:=x.cell y c e;rw[xm t B O (by show d.names.lookup y≠_;rw[k];decide)]at q;exact q
 ·exact j.hok.fresh (PQ (x.above y c (QQ h)))
 ·unfold start;show _=N.length;rw[Ee,AN,List.length_replicate];lia
theorem XJ{CX:G4}{P:Program}{w:World}{K:Frag}{F:Str->Option Value}{base:Heap}{k:Nat}{f:Addr}{name d:Str}{h:Arguments}{i:List Stmt}{a:Scope}{X kV D U g Y oc:Value}{an od:Option Addr}
 {M:Array (Option Value)}{N ps:List Str}{sp:Sp}(lk:K.lookup f=some ⟨oc,od,.func (fnOf name d h i a X kV D U an g Y),M⟩)(R:codeIn K g d=true)(S:az N ps a)
 (z:∀vs H Q E,sp vs H Q E->vs.length=ps.length)
 (m:∀(A:Around)(c:List Env)(s:Shared)(H:Hp)(vs:List V)(Q:VK)(E:XK),fy k (A.deeper (envOfC d a s.heap.objs.size f g))->sp vs H Q E->
   ∃t,Ag (G5 CX P w K F base N d a f g A c s H E) i t/\t {nx:=λ_ H'=>Q .bC H',rt:=Q} (start N vs) H):
 aN P w K F base CX (k+1) f (fnOf name d h i a X kV D U an g Y) ps sp:=by
 refine⟨z,λA c s H Z us vs Q E G C hb r CV=>?_⟩;have hl:=z _ _ _ _ CV;have KX:K.In s.heap:=C.mod.Sa.keeps λb o e=>(C.bs b o e).1;have O:s.heap.NoLimit:=C.mod.nolimit.keeps λb o e=>(C.bs b o e).1;have l:∀y∈ps.zip us,a.names.lookup y.1=some .local\/(a.names.lookup y.1=some .cell/\((cellsFrom (s.heap.objs.size+1) a.names []).lookup y.1).isSome=true):=by
  rintro⟨n,v⟩ hy;rcases S.par n (List.of_mem_zip hy).1 with q|q
  ·exact .inl q
  ·exact .inr ⟨q,PySem.W.cellsFrom_some _ _ _ (.inl q)⟩
 refine codeAny_call_function G.depth (KX _ _ lk) rfl S.co S.gen rfl (PySem.W.codeRec_of KX R) (hb _ _ _ _ ?_);refine wpAny_newFunctionEnv_cells S.kind l λenv he T x=>?_;subst he;refine⟨O.keeps x.toInCall.keep,codeAny_func ?_⟩;obtain⟨t,ht,hq⟩:=m A c s H vs Q E (G.deeper _) CV;have I:Inv (G5 CX P w K F base N d a f g A c s H E) [] (start N vs) H T:=G6 S G.hd (by have:=G.dp;lia) C hl r x;refine dt (ht [] T (start N vs) H _ I hq) (λfl L p=>?_) λe L p=>p;have B:∀{j:St}{H':Hp}{v:V}{u:Value},Inv (G5 CX P w K F base N d a f g A c s H E) [] j H' L->RelV v u->Q v H'->CE c P w H s Q u L:=
  λ{j H' v u} J rv q=>⟨v,H',J.os,J.bare,J.base,J.hok,rv,q⟩
 cases fl with
 |ret u=>obtain⟨v,j,H',J,rv,q⟩:=p;exact B J rv q
 |next=>obtain⟨j,H',J,q⟩:=p;exact B (v:=V.bC) (u:=Value.none) J rfl q
 |brk=>obtain⟨_,_,_,q⟩:=p;exact False.elim q
 |cont=>obtain⟨_,_,_,q⟩:=p;exact False.elim q
section
variable{X:Cx}{x:Str}{p pos:Pos}{e:Expr}{es:List Expr}{t:TA}{id T:String}{r:List V->Hp->VK->Prop}
noncomputable def tCB(r:List V->Hp->VK->Prop)(t:TA):TE:=λa H Q=>t a H λb c=>r b c Q
theorem cO(u:e9 X (.builtin id) r)(o:Gl X x)(n:X.mg x=none)(l:bootBuiltins x=some (.builtin id))(v:PA X (e::es) t)(m:x≠"__name__":=by decide)(c:(x==("__debug__":Str))=false:=by decide)
 (q:starEach (e::es) X.env=(false,eval e X.env)::starEach es X.env:=by rfl)(b:(backTo pos (starEach es X.env)).any (·.1)=false:=by rfl):PE X (.Call (.Name x p) (e::es) [] pos) (tCB r t):=by
 intro a s d H Q I h;refine kA (ji I o n l ?_ m c);exact PyProof.Rows.callWith_builtin1 (cM (v pos a s d H _ I h)<|by rintro g i ⟨f,y,w,j,k⟩;exact u a i d y f g Q w j k) q b
theorem G7(u:e9 X (.type T) r)(o:Gl X x)(n:X.mg x=none)(l:bootBuiltins x=some (.type T))(v:PA X (e::es) t)(m:x≠"__name__":=by decide)(c:(x==("__debug__":Str))=false:=by decide)
 (q:starEach (e::es) X.env=(false,eval e X.env)::starEach es X.env:=by rfl)(b:(backTo pos (starEach es X.env)).any (·.1)=false:=by rfl):PE X (.Call (.Name x p) (e::es) [] pos) (tCB r t):=by
 intro a s d H Q I h;refine kA (ji I o n l ?_ m c);exact Q1 (cM (v pos a s d H _ I h)<|by rintro g i ⟨f,y,w,j,k⟩;exact u a i d y f g Q w j k) q b
end
end L2
namespace HT
open PySem PyProof.Rows
section
open PySem.SeqAt
open PySem.AutoSeq1 (wpAny_loadPart')
open PySem.MeetsSeq PySem.MeetsSeq2 PySem.MeetsSeq3
end
section
variable{prog:Program}{w:World}{A:Around}{E:Value->Shared->Prop}{s:Shared}
theorem Nd{t b:Addr}{vs a:List Value}{Q:Value->Shared->Prop}(v:IsTup s.heap t vs.toArray)(x:IsTup s.heap b a.toArray)(p:vs≠[])
 (z:a=[]->Q (.ref t) s)(y:a≠[]->Q (.ref s.heap.objs.size) {s with heap:=s.heap.push {cls:=.type "tuple",data:=.seq (vs++a).toArray}})
 (k:vs.length+a.length<=sizeLine):wpAny (model prog w) A (binaryOp .Add (.ref t) (.ref b)) Q E s:=by
 obtain⟨⟨cls,u,data,m⟩,j,r,n,q⟩:=id v;obtain⟨⟨B,h,l,d⟩,c,g,o,f⟩:=id x;simp only at r q g f;subst r q g f;have e:vs.toArray++a.toArray=(vs++a).toArray:=by simp
 by_cases i:a=[]
 ·exact concat_meets ⟨_,j,rfl⟩ ⟨_,c,rfl⟩ noFill_tuple_add seq_tuple_add PySem.F.slot_tuple_add PySem.F.entry_tuple_add (PySem.F.args_tuple_add_2 _ _)
   (tuple_addW1 t b vs.toArray a.toArray n o u h m d (by simpa using p) (by simp[i])) ⟨j,c,z i⟩
 ·refine concat_meets ⟨_,j,rfl⟩ ⟨_,c,rfl⟩ noFill_tuple_add seq_tuple_add PySem.F.slot_tuple_add PySem.F.entry_tuple_add (PySem.F.args_tuple_add_2 _ _)
   (tuple_addW2 t b vs.toArray a.toArray n o u h m d (by simpa using p) (by simpa using i) (by rw[Fm,Fm];exact k)) ⟨j,c,?_⟩
  rw[e];exact y i
noncomputable def xo(n d:Nat):Option Int->Nat
 |none=>d
 |some v=>if v<0 then(v+(n:Int)).toNat else min v.toNat n
theorem JA(n d:Nat):xo n d none=d:=rfl
theorem Nf(n d k:Nat):xo n d (some (k:Int))=min k n:=by show(if(k:Int)<0 then((k:Int)+(n:Int)).toNat else min (k:Int).toNat n)=min k n;rw[Bi (by lia),Int.toNat_natCast]
end
end HT
namespace L2
open PySem PySem.Spec PyProof.Rows
abbrev TO:=St->Hp->(Option Int->Hp->Prop)->Prop
noncomputable def PO(X:Cx)(e:Option Expr)(t:TO):Prop:=
 ∀(a:List (Addr×Obj))(s:Shared)(b:St)(H:Hp)(Q:Option Int->Hp->Prop),Inv X a b H s->t b H Q->
  wpAny (model X.prog X.w) X.A (evalPart e X.env) (λu d=>∃o c,Inv X a b c d/\IsPart u o/\Q o c) X.xe s
noncomputable def Ng:TO:=λ_ H Q=>Q none H
noncomputable def XM(t:TE):TO:=λa H Q=>t a H λx b=>∃i,x=.int i/\Q (some i) b
theorem intsAre_of{ns:List Int}:∀{us:List Value},Vals (ns.map V.int) us->IntsAre us ns:=by
 induction ns with
 |nil=>intro us r;rw[Xt]at r;cases r;exact .nil
 |cons n ns c=>
  intro us r;rw[Jn]at r;cases r with
  |cons b a=>obtain⟨t,e⟩:=b;subst e;exact .cons n t (c a)
section
variable{X:Cx}{e:Expr}{te:TE}{lo hi:Option Expr}{tl th:TO}{pos p2:Pos}
theorem Nh:PO X none Ng:=by intro a s b H Q I h;rw[evalPart_none];exact NM ⟨none,H,I,.none,h⟩
theorem Ni(h:PE X e te):PO X (some e) (XM te):=by intro a s b H Q I f;rw[evalPart_some];refine cM (h a s b H _ I f) ?_;rintro u k ⟨x,j,g,c,d⟩;obtain⟨i,rfl,q⟩:=d;obtain⟨t,rfl⟩:=c;exact⟨some i,j,g,.int i t,q⟩
noncomputable def SlR(X:Cx)(r:V->Option Int->Option Int->Hp->VK->Prop):Prop:=
 ∀(a:List (Addr×Obj))(s:Shared)(b:St)(H:Hp)(x:V)(v d c:Value)(lo hi:Option Int)(f:Addr)(Q:VK),Inv X a b H s->RelV x v->s.heap.IsSliceOf f d c .none->IsPart d lo->IsPart c hi->r x lo hi H Q->
  ∃T g,typeLookup (.type T) "__getitem__"=pure (some (.builtin g))/\s.TypeIs v T/\wpAny (model X.prog X.w) X.A (getItem v (.ref f)) (EP X a b Q) X.xe s
noncomputable def tSl(r:V->Option Int->Option Int->Hp->VK->Prop)(te:TE)(tl th:TO):TE:=λa H Q=>te a H λx d=>tl a d λl c=>th a c λu b=>r x l u b Q
theorem JB{r:V->Option Int->Option Int->Hp->VK->Prop}(C:SlR X r)(F:PE X e te)(D:PO X lo tl)(z:PO X hi th):PE X (.Subscript e (.Slice lo hi none p2) pos) (tSl r te tl th):=by intro a s d H Q I h;refine Subscript_ (cM (F a s d H _ I h) λv k ⟨x,O,M,m,p⟩=>?_);refine wpAny_Slice (cM (D a k d O _ M p) λg j ⟨l,N,L,y,o⟩=>cM (z a j d N _ L o) λf c ⟨u,i,K,t,n⟩=>?_);rw[evalPart_none];refine NM ?_;have J:Inv X a d i {c with heap:=c.heap.push {cls:=.type "slice",data:=.fields #[g,f,.none]}}:=K.kept (t':=c.toks) λb P q=>DL _ q;obtain⟨T,R,G,B,E⟩:=C a {c with heap:=c.heap.push {cls:=.type "slice",data:=.fields #[g,f,.none]}} d i x v g f l u c.heap.objs.size Q J m (Heap.IsSliceOf.new ..) y t n;show wpAny (model X.prog X.w) X.A (subscriptTail e (.Slice lo hi none p2) v (.ref c.heap.objs.size)) (EP X a d Q) X.xe {c with heap:=c.heap.push {cls:=.type "slice",data:=.fields #[g,f,.none]}};exact tail_any (ops:=[.ref c.heap.objs.size,v]) B G E (by with_unfolding_all rfl)
noncomputable def G8(a:List V)(lo hi:Option Int):List V:=(a.drop (HT.xo a.length 0 lo)).take (HT.xo a.length a.length hi -HT.xo a.length 0 lo)
theorem Au(a:List V)(lo hi:Option Int):(G8 a lo hi).length<=a.length:=by unfold G8;rw[du,List.length_drop];omega
noncomputable def XN(K:Frag):R2:=λx y H Q=>∃a b d c,x=.ref a/\y=.ref b/\mK K H a d/\mK K H b c/\d≠[]/\d.length+c.length<=sizeLine/\
 (c=[]->Q (.ref a) H)/\(c≠[]->∀p,H p=none->Q (.ref p) (upd H p (.tup (d++c))))
theorem Vals.yu{a:List V}{us:List Value}(r:Vals a us):us=[]↔a=[]:=by
 cases r with
 |nil=>simp
 |cons _ _=>simp
theorem Nj:n9 X (binaryOp .Add) (XN X.K):=by intro f s C H x y v u Q I l k h;obtain⟨a,b,j,i,rfl,rfl,B,A,t,hz,n,m⟩:=h;cases l;cases k;obtain⟨r,d,p,_⟩:=I.tuple B;obtain⟨g,c,p2,_⟩:=I.tuple A;refine HT.Nd p p2 (λz=>t (d.yu.mp z)) (λz=>⟨.ref a,H,I,rfl,n (c.yu.mp z)⟩) (λz=>?_) (by rw[←d.length,←c.length];exact hz);refine⟨.ref s.heap.objs.size,_,I.laid (t':=s.toks) (o:=.tup (j++i)) (λb D q=>DL _ q) (Do _) ?_,rfl,m (λw=>z (c.yu.mpr w)) _ (I.hok.fresh (Do _))⟩;exact⟨by rw[Ee];exact hz,_,d.append c,IsTup.new _ _⟩
end
noncomputable def yv(n:Nat)(i:Int):Option Nat:=if 0<=i then(if i<n then some i.toNat else none)else if-(n:Int)<=i then some (i+n).toNat else none
noncomputable def m9{α:Type}(a:List α)(i:Int):Option α:=(yv a.length i).bind λj=>a[j]?
theorem ES{n:Nat}{i:Int}{j:Nat}(h:yv n i=some j):seqIndex? i n=some j/\j<n/\-(n:Int)<=i/\i<n:=by
 unfold yv at h;by_cases b:0<=i
 ·rw[Bn b]at h;by_cases a:i<n
  ·rw[Bn a]at h;have e:i.toNat=j:=IR h;exact⟨by rw[seqIndex_of b a,e],by lia,by lia,a⟩
  ·rw[Bi a]at h;cases h
 ·rw[Bi b]at h;by_cases a: -(n:Int)<=i
  ·rw[Bn a]at h;have e:(i+n).toNat=j:=IR h;exact⟨by rw[seqIndex_neg (by lia) a,e],by lia,a,by lia⟩
  ·rw[Bi a]at h;cases h
theorem yw{α:Type}{a:List α}{i:Int}{v:α}(h:m9 a i=some v):∃j,seqIndex? i a.length=some j/\a[j]?=some v/\j<a.length/\-(a.length:Int)<=i/\i<a.length:=by
 unfold m9 at h;cases e:yv a.length i with
 |none=>rw[e]at h;cases h
 |some j=>rw[e]at h;obtain⟨f,d,c,b⟩:=ES e;exact⟨j,f,h,d,c,b⟩
theorem b8{α:Type}{a:List α}{j:Nat}{v:α}(h:a[j]?=some v):m9 a (j:Int)=some v:=by
 have b:j<a.length:=(Fs.mp h).1;have e:yv a.length (j:Int)=some j:=by unfold yv;rw[Bn (by lia),Bn (by lia)];simp
 unfold m9;rw[e];exact h
noncomputable def oW(b:Expr):Prop:=∀o i,subscripted b false o i=operate [o,i] (getItem o i)
noncomputable def Nk(X:Cx)(r:R2):Prop:=
 ∀(c a:Expr)(b:List (Addr×Obj))(s:Shared)(d:St)(H:Hp)(x y:V)(v u:Value)(Q:VK),Inv X b d H s->RelV x v->RelV y u->r x y H Q->
  subscripted a false v u=operate [v,u] (getItem v u)->wpAny (model X.prog X.w) X.A (subscriptTail c a v u) (EP X b d Q) X.xe s
noncomputable def MtR(X:Cx)(e:String)(r:V->List V->Hp->VK->Prop):Prop:=
 ∀(a:List (Addr×Obj))(s:Shared)(b:St)(H:Hp)(x:V)(c:List V)(v:Value)(d:List Value)(Q:VK),Inv X a b H s->RelV x v->Vals c d->r x c H Q->
  wpAny (model X.prog X.w) X.A (call (.builtin e) (v::d)) (EP X a b Q) X.xe s
section
variable{X:Cx}{a b:Expr}{ta tb:TE}{pos:Pos}
theorem Nk.or{r j:R2}(h:Nk X r)(h':Nk X j):Nk X (λx y H Q=>r x y H Q\/j x y H Q):=by
 intro c d e s f H x y v u Q I i g q k;rcases q with q|q
 ·exact h c d e s f H x y v u Q I i g q k
 ·exact h' c d e s f H x y v u Q I i g q k
theorem JC{r:R2}(j:Nk X r)(l:PE X a ta)(k:PE X b tb)(i:oW b):PE X (.Subscript a b pos) (tOp r ta tb):=by intro c s d H Q I h;exact Subscript_ (Sy l k I h λv u e x y n m g f q=>j a b c e d n x y v u Q m g f q (i _ _))
noncomputable def XO(K:Frag):R2:=λx y H Q=>∃p c i v,x=.ref p/\y=.int i/\kI K H p c/\m9 c i=some v/\Q v H
noncomputable def XQ(K:Frag):R2:=λx y H Q=>∃p c i v,x=.ref p/\y=.int i/\mK K H p c/\m9 c i=some v/\Q v H
noncomputable def XR:R2:=λx y H Q=>∃z i c,x=.str z/\y=.int i/\z.length<=sizeLine/\m9 z.cps.toList i=some c/\Q (.str ⟨#[c]⟩) H
theorem Nl:Nk X (XO X.K):=by
 intro f g c s o H x y v u Q I F E h A;obtain⟨p,P,i,z,rfl,rfl,G,L,q⟩:=h;cases F;obtain⟨t,rfl⟩:=E;obtain⟨m,r,l,hz⟩:=I.list G;obtain⟨j,e,O,S,N,M⟩:=yw L;obtain⟨w,C,k⟩:=r.get O;have J:=r.length;have R:=t8;have d:EP X c o Q w s:=⟨z,H,I,k,q⟩;by_cases B:0<=i
 ·have n:i.toNat=j:=by rw[seqIndex_of B M]at e;exact IR e
  exact item_listR l.isList B (by lia) (by rw[n];simpa using C) d A
 ·have n:(i+(m.toArray.size:Int)).toNat=j:=by rw[seqIndex_neg (by lia) N]at e;rw[Fm,←J];exact IR e
  exact subscriptTail_builtinR (x:=w) l.isList.typeIs slot_list_getitem.lookup
   (wpAny_getItem_list_neg (Q:=λr D=>r=w/\EP X c o Q r D) l.isList (by lia) (by rw[Fm]<;>lia) (by lia) (by rw[n];simpa using C) ⟨rfl,d⟩) A
theorem SV:Nk X (XQ X.K):=by
 intro d e c s k H x y v u Q I o n h B;obtain⟨p,L,i,z,rfl,rfl,C,E,q⟩:=h;cases o;obtain⟨t,rfl⟩:=n;obtain⟨A,r,l,hz⟩:=I.tuple C;obtain⟨j,G,F,P,O,N⟩:=yw E;obtain⟨w,J,f⟩:=r.get F;have D:=r.length;have M:=t8;have g:EP X c k Q w s:=⟨z,H,I,f,q⟩;exact subscriptTail_builtinR (x:=w) l.typeIs slot_tuple_getitem.lookup
  (getItem_tuple (j:=j) (Q:=λr m=>r=w/\EP X c k Q r m) l (by lia) (by lia) (by rw[Fm,←D];exact G) (by simpa using J) ⟨rfl,g⟩) B
theorem SW:Nk X XR:=by
 intro d e f s C H x y v u Q I l k h m;obtain⟨z,i,c,rfl,rfl,hz,o,q⟩:=h;obtain⟨t,rfl⟩:=l;obtain⟨D,rfl⟩:=k;obtain⟨j,g,w,F,r,p⟩:=yw o;have n:z.cps.toList.length=z.length:=by simp[Str.length]
 rw[n]at g r p;have E:=t8;exact tail_any (typeIs_str s z t) slot_str_getitem.lookup (getItem_str (c:=c) (by have B:decide (i< -(2^63:Int))=false:=QR (by lia);have A:decide (i>=2^63)=false:=QR (by lia);rw[B,A,X9]) (by rw[g];simpa using w) ⟨.str ⟨#[c]⟩,H,I.tok _,⟨_,rfl⟩,q⟩) m
noncomputable def rIx(K:Frag):R2:=λx y H Q=>XO K x y H Q\/XQ K x y H Q\/XR x y H Q
theorem CW:Nk X (rIx X.K):=Nl.or (SV.or SW)
theorem CY(c:List Value)(n j:Nat)(u:Value):Obj.mapSeq (·.setIfInBounds j u) {cls:=.type "list",data:=.seq c.toArray n}={cls:=.type "list",data:=.seq (c.set j u).toArray n}:=by simp[Obj.mapSeq]
theorem Inv.lst{d:List (Addr×Obj)}{σ:St}{H:Hp}{s:Shared}{p:Addr}{f:List V}(I:Inv X d σ H s)(h:H p=some (.lst f)):
 ∃(c:List Value)(n:Nat),Vals f c/\s.heap.get? p=some {cls:=.type "list",data:=.seq c.toArray n}/\f.length<=sizeLine:=by
 obtain⟨z,c,n,r,e⟩:=I.hok p _ h;exact⟨c,n,r,e,z⟩
theorem Inv.SX{c:List (Addr×Obj)}{σ:St}{H:Hp}{s:Shared}{p:Addr}{k g:List V}{d its':List Value}{n i:Nat}{f:Obj->Obj}(I:Inv X c σ H s)(h:H p=some (.lst k))
 (l:s.heap.get? p=some {cls:=.type "list",data:=.seq d.toArray n})(j:f {cls:=.type "list",data:=.seq d.toArray n}={cls:=.type "list",data:=.seq its'.toArray i})(r:Vals g its')(hz:g.length<=sizeLine)(t:Nat):
 Inv X c σ (upd H p (.lst g)) {s with heap:=s.heap.update p f,toks:=t}:=by
 have e:(s.heap.update p f).get? p=some {cls:=.type "list",data:=.seq its'.toArray i}:=by rw[si f l (by rw[j]<;>rfl),j]
 refine I.write (x:=p) (e:=p) (by rw[h];trivial) (.inl rfl) (λb u m q=>(Yf _ _ (RF m)).trans q) ⟨_,e⟩ ?_;exact⟨hz,its',i,r,e⟩
noncomputable def JD:V->V->V->Hp->(Hp->Prop)->Prop:=λo i v H Q=>∃p c k j,o=.ref p/\i=.int k/\H p=some (.lst c)/\yv c.length k=some j/\Q (upd H p (.lst (c.set j v)))
theorem set_list:Xo X JD:=by
 intro c s A H o i v F G u Q I C D rv h;obtain⟨p,B,k,j,rfl,rfl,m,E,q⟩:=h;cases C;obtain⟨t,rfl⟩:=D;obtain⟨d,n,r,f,hz⟩:=I.lst m;obtain⟨e,K,x,w⟩:=ES E;have g:=r.length;have J:=t8;have z:Inv X c A (upd H p (.lst (B.set j v))) {s with heap:=s.heap.update p (Obj.mapSeq (·.setIfInBounds j u))}:=
  I.SX m f (CY d n j u) (r.set rv j) (by rw[Qb];exact hz) s.toks
 by_cases y:0<=k
 ·have l:k.toNat=j:=by rw[seqIndex_of y w]at e;exact IR e
  exact PySem.W.ki_setAt f y (by lia) (by rw[Fm,←g];exact w) (by rw[l];exact⟨_,z,q⟩)
 ·have l:(k+(d.toArray.size:Int)).toNat=j:=by rw[seqIndex_neg (by lia) x]at e;rw[Fm,←g];exact IR e
  exact PySem.W.ki_setBack f (by lia) (by rw[Fm,←g];exact x) (by lia) (by rw[l];exact⟨_,z,q⟩)
theorem yx(c d:Option Int)(n:Nat):(sliceBounds c d none n).1=((HT.xo n 0 c:Nat):Int)/\(sliceBounds c d none n).2.1=((HT.xo n n d:Nat):Int)/\(sliceBounds c d none n).2.2=1:=by
 refine⟨?_,?_,rfl⟩
 ·cases c with
  |none=>simp[sliceBounds,HT.xo]
  |some i=>
   simp only[sliceBounds,HT.xo,Option.getD_none,show(1:Int)>0 by decide,if_true];by_cases h:i<0
   ·simp only[h,if_true]<;>lia
   ·simp only[h,if_false]<;>lia
 ·cases d with
  |none=>simp[sliceBounds,HT.xo]
  |some i=>
   simp only[sliceBounds,HT.xo,Option.getD_none,show(1:Int)>0 by decide,if_true];by_cases h:i<0
   ·simp only[h,if_true]<;>lia
   ·simp only[h,if_false]<;>lia
theorem we(c:List Value)(d e:Option Int):slicePick c.toArray d e none=((c.drop (HT.xo c.length 0 d)).take (HT.xo c.length c.length e -HT.xo c.length 0 d)).toArray:=by obtain⟨h,g,f⟩:=yx d e c.toArray.size;unfold slicePick;rw[h,g,f];simp only[sliceRange_one,pick_run,Fm]<;>rfl
noncomputable def aaB(K:Frag):V->Option Int->Option Int->Hp->VK->Prop:=λx d e H Q=>∃a c,x=.ref a/\kI K H a c/\∀p,H p=none->Q (.ref p) (upd H p (.lst (G8 c d e)))
theorem Nm:SlR X (aaB X.K):=by intro g s t H x v w u e f y Q I j p l k h;obtain⟨a,c,rfl,n,q⟩:=h;cases j;obtain⟨m,r,i,hz⟩:=I.list n;have d:=r.length;refine⟨"list",_,slot_list_getitem.lookup,i.isList.typeIs,?_⟩;refine wpAny_getItem_list_slice i.isList p l k .none (by simp) ?_ (by rw[Fm]<;>lia);rw[we,←d];refine⟨.ref s.heap.objs.size,_,I.laid (t':=s.toks) (o:=.lst (G8 c e f)) (λb z q=>DL _ q) (Do _) ?_,rfl,q _ (I.hok.fresh (Do _))⟩;exact⟨Da (Au c e f) hz,_,0,(r.drop (HT.xo c.length 0 e)).take (HT.xo c.length c.length f -HT.xo c.length 0 e),Hb _ rfl⟩
theorem kh:e9 X (.builtin "len") (λj H Q=>∃p d,j=[.ref p]/\(kI X.K H p d\/mK X.K H p d)/\Q (.int d.length) H):=by
 intro k s m H j n Q I r h;obtain⟨p,d,rfl,e,q⟩:=h;obtain⟨u,rfl,l⟩:=vals1 r;cases l;have o:=t8;rcases e with e|e
 ·obtain⟨i,f,g,hz⟩:=I.list e;have c:=f.length;exact Calls.call_len_list g.isList (by simp only[Fm]<;>lia) ⟨.int d.length,H,I.tok _,⟨s.toks+1,by rw[Fm,c]⟩,q⟩
 ·obtain⟨i,f,g,hz⟩:=I.tuple e;have c:=f.length;exact len_tuple g (by simp only[Fm]<;>lia) ⟨.int d.length,H,I.tok _,⟨s.toks+1,by rw[Fm,c]⟩,q⟩
theorem oX:e9 X (.type "list") (λB H Q=>∃p f,B=[.ref p]/\(kI X.K H p f\/mK X.K H p f)/\∀l,H l=none->Q (.ref l) (upd H l (.lst f))):=by
 intro j s D H B F Q I r h;obtain⟨p,f,rfl,m,q⟩:=h;obtain⟨u,rfl,E⟩:=vals1 r;cases E;have v:∀(c:List Value),Vals f c->f.length<=sizeLine->∀(d:Heap)(i:Nat),(∀b C,s.heap.get? b=some C->d.get? b=some C)->
  d.get? s.heap.objs.size=some {cls:=.type "list",dict:=none,data:=.seq c.toArray i,slots:= #[]}->EP X j D Q (.ref s.heap.objs.size) {s with heap:=d}:=λc g hz d i k e=>
  ⟨.ref s.heap.objs.size,_,I.laid (t':=s.toks) k (Do _) (show cL X.prog X.w _ d _ (.lst f)from⟨hz,c,i,g,e⟩),rfl,q _ (I.hok.fresh (Do _))⟩
 rcases m with m|m
 ·obtain⟨c,g,x,hz⟩:=I.list m;have t:=g.length;obtain⟨o,y,A,n,z⟩:=x.isList;exact call_list_seq p (.inl rfl) y A z (λd i k e=>v c g hz d i k e) (by simp only[Fm]<;>lia)
 ·obtain⟨c,g,x,hz⟩:=I.tuple m;have t:=g.length;obtain⟨o,y,A,n,z⟩:=x;exact call_list_seq p (.inr rfl) y A z (λd i k e=>v c g hz d i k e) (by simp only[Fm]<;>lia)
theorem nc:e9 X (.type "tuple") (λn H Q=>∃p f,n=[.ref p]/\((kI X.K H p f/\∀l,H l=none->Q (.ref l) (upd H l (.tup f)))\/(mK X.K H p f/\Q (.ref p) H))):=by
 intro c s m H n A Q I r h;obtain⟨p,f,rfl,h⟩:=h;obtain⟨u,rfl,x⟩:=vals1 r;cases x;rcases h with⟨k,q⟩|⟨k,q⟩
 ·obtain⟨d,i,j,hz⟩:=I.list k;have t:=i.length;refine call_tuple_list j.isList (λg y=>?_) (by simp only[Fm]<;>lia);have v:Inv X c m H {s with heap:=g}:=I.kept (t':=s.toks) y;have z:Inv X c m (upd H g.objs.size (.tup f)) {s with heap:=g.push {cls:=.type "tuple",data:=.seq d.toArray}}:=
   v.laid (t':=s.toks) (λb o e=>DL _ e) (Do _) (show cL X.prog X.w _ _ _ (.tup f)from⟨hz,d,i,IsTup.new _ _⟩)
  exact⟨.ref g.objs.size,_,z,rfl,q _ (v.hok.fresh (Do _))⟩
 ·obtain⟨d,i,j,hz⟩:=I.tuple k;exact call_tuple_same j ⟨.ref p,H,I,rfl,q⟩
noncomputable def tyV(K:Frag)(T:String)(x:V)(H:Hp):Prop:=match x with
 |.str _=>T="str"
 |.int _=>T="int"
 |.ref p=>(T="list"/\∃d,kI K H p d)\/(T="tuple"/\∃o,K.lookup p=some o/\o.cls=.type "tuple"/\o.dict=none)\/
   (T="dict"/\((∃c,H p=some (.dK c))\/∃c,H p=some (.dT c)))\/(T="set"/\∃S n,H p=some (.set S n))
 |_=>False
theorem JE{f:List (Addr×Obj)}{σ:St}{H:Hp}{s:Shared}{T:String}{x:V}{v:Value}(I:Inv X f σ H s)(r:RelV x v)(g:tyV X.K T x H):
 s.TypeIs v T/\∀a,v=.ref a->∃m,s.heap.get? a=some m/\m.dict=none:=by
 cases x with
 |str z=>obtain⟨t,rfl⟩:=r;cases(show T="str"from g);exact⟨typeIs_str s z t,λ_ e=>nomatch e⟩
 |int i=>obtain⟨t,rfl⟩:=r;cases(show T="int"from g);exact⟨typeIs_int s i t,λ_ e=>nomatch e⟩
 |ref p=>
  cases r;rcases g with⟨rfl,y,u⟩|⟨rfl,o,d,w,j⟩|⟨rfl,d⟩|⟨rfl,S,n,d⟩
  ·obtain⟨q,_,l,_⟩:=I.list u;refine⟨l.isList.typeIs,λa e=>?_⟩;cases e;obtain⟨o,n,e,c,j,_⟩:=l;exact⟨o,e,j⟩
  ·refine⟨⟨o,I.oR p o d,w⟩,λa e=>?_⟩;cases e;exact⟨o,I.oR _ o d,j⟩
  ·have z:∃o,s.heap.get? p=some o/\o.ExactDict:=by
    rcases d with⟨h,d⟩|⟨h,d⟩
    ·obtain⟨_,_,_,_,o,_,_,e,ex,_⟩:=I.hok p _ d;exact⟨o,e,ex⟩
    ·obtain⟨_,_,_,_,o,_,_,e,ex,_⟩:=I.hok p _ d;exact⟨o,e,ex⟩
   obtain⟨o,e,ex⟩:=z;refine⟨⟨o,e,ex.1⟩,λa k=>?_⟩;cases k;exact⟨o,e,ex.2.1⟩
  ·obtain⟨o,_,_,_,e,ex,_⟩:=I.hok p _ d;refine⟨⟨o,e,ex.1⟩,λa k=>?_⟩;cases k;exact⟨o,e,ex.2.1⟩
 |_=>exact False.elim g
noncomputable def aaD(K:Frag)(T:String)(r:V->List V->Hp->VK->Prop)(e:TE):TE:=λd H Q=>e d H λx c=>tyV K T x c/\r x [] c Q
noncomputable def tBM(K:Frag)(T:String)(r:V->List V->Hp->VK->Prop)(f:TE)(t:TA):TE:=λc H Q=>f c H λx d=>tyV K T x d/\t c d λe g=>r x e g Q
variable{o e:Expr}{es:List Expr}{to:TE}{t:TA}{name:Str}{apos cpos:Pos}{T id:String}{r:V->List V->Hp->VK->Prop}
theorem JF(q:PlainAttrs T)(g:Slot T name id)(i:typeOf (.builtin id)=pure (.type "method_descriptor"))(w:MtR X id r)(u:PE X o to)
 (f:attributeBase o name X.env (eval o X.env)=eval o X.env:=by rfl)(d:(apos.endLine==cpos.line)=true:=by rfl):PE X (.Call (.Attribute o name apos) [] [] cpos) (aaD X.K T r to):=by
 intro c s j H Q I h;refine wpAny_Call_method0_late f d (cM (u c s j H _ I h) λv n ⟨x,A,l,k,m,p⟩=>?_);obtain⟨z,y⟩:=JE l k m;exact⟨T,id,q,g,i,z,y,Calls.callWith_builtin rfl (PySem.evalArgs_none (w c n j A x [] v [] Q l k .nil p))⟩
theorem QX(D:PlainAttrs T)(i:Slot T name id)(l:typeOf (.builtin id)=pure (.type "method_descriptor"))(G:MtR X id r)(F:PE X o to)(J:PA X (e::es) t)
 (g:attributeBase o name X.env (eval o X.env)=eval o X.env:=by rfl)
 (j:((backTo cpos (starEach (e::es) X.env)).all (λx=>!x.1)&&(backToKw cpos (keywordEach [] X.env)).all (λx=>x.1.isSome)
   &&decide ((e::es).length+([]:List Keyword).length+(if([]:List Keyword).isEmpty then 0 else 1)<30))=true:=by rfl)
 (f:(apos.endLine==cpos.line)=true:=by rfl)(E:starEach (e::es) X.env=(false,eval e X.env)::starEach es X.env:=by rfl)(d:(backTo cpos (starEach es X.env)).any (·.1)=false:=by rfl):
 PE X (.Call (.Attribute o name apos) (e::es) [] cpos) (tBM X.K T r to t):=by
 intro c s k H Q I h;refine wpAny_Call_method_late g j f rfl (cM (F c s k H _ I h) λv z ⟨x,P,p,m,w,C⟩=>?_);obtain⟨M,L⟩:=JE p m w;refine⟨T,id,D,i,l,M,L,?_⟩;have n:=J cpos c z k P _ p C;rw[E]at n⊢;refine Calls.callWith_builtin (by show(false||(backTo cpos (starEach es X.env)).any (·.1))=false;rw[d]<;>rfl) (Calls.evalArgs_plain ?_);exact cM n λu y ⟨q,O,N,A,B⟩=>G c y k O x q v u Q N m A B
end
noncomputable def MtM(X:Cx)(e:String)(r:V->List V->Hp->VK->Prop):Prop:=
 ∀(a:List (Addr×Obj))(s:Shared)(b:St)(H:Hp)(x:V)(c:List V)(v:Value)(d:List Value)(Q:VK),Inv X a b H s->RelV x v->Vals c d->r x c H Q->
  wpAny (model X.prog X.w) X.A (call (.builtin e) (v::d)) (EP X a b Q) X.xe s
theorem Vals.one{x:V}{us:List Value}(h:Vals [x] us):∃u,us=[u]/\RelV x u:=by
 cases h with
 |cons r h=>
  cases h;exact⟨_,rfl,r⟩
theorem Vals.zero:∀{us:List Value},Vals [] us->us=[]
 |_,.nil=>rfl
theorem Vals.dropLast{a:List V}{us:List Value}(h:Vals a us):Vals a.dropLast us.dropLast:=by
 induction h with
 |nil=>exact .nil
 |cons r t b=>
  cases t with
  |nil=>exact .nil
  |cons q c=>exact .cons r b
theorem Vals.reverse{a:List V}{us:List Value}(h:Vals a us):Vals a.reverse us.reverse:=by
 induction h with
 |nil=>exact .nil
 |cons r t b=>rw[js,js];exact Vals.append b (.cons r .nil)
theorem Vals.rep{a:List V}{us:List Value}(h:Vals a us):∀k:Nat,Vals (List.replicate k a).flatten (List.replicate k us).flatten
 |0=>.nil
 |k+1=>by rw[List.replicate_succ,List.replicate_succ,List.flatten_cons,List.flatten_cons];exact Vals.append h (Vals.rep h k)
theorem CZ{α:Type}(l:List α):l.eraseIdx (l.length -1)=l.dropLast:=by
 induction l with
 |nil=>rfl
 |cons a r c=>
  cases r with
  |nil=>rfl
  |cons b r=>
   have e:(a::b::r).length -1=((b::r).length -1)+1:=by have f:(a::b::r).length=r.length+2:=rfl;have d:(b::r).length=r.length+1:=rfl;lia
   rw[e,List.eraseIdx_cons_succ,c]
   all_goals rfl
theorem foldl_rep(a:List Value):∀(k:Nat)(b:List Value),
 List.foldl (λd c=>d++c) b.toArray (List.replicate k a.toArray)=(b++(List.replicate k a).flatten).toArray
 |0,b=>by simp
 |k+1,b=>by
  have e:b.toArray++a.toArray=(b++a).toArray:=by simp
  have f:(b++a)++(List.replicate k a).flatten=b++(List.replicate (k+1) a).flatten:=by rw[List.replicate_succ,List.flatten_cons,Kb]
  rw[←f,←foldl_rep a k (b++a),←e,List.replicate_succ,List.foldl_cons]
section
variable{X:Cx}{pins:List (Addr×Obj)}{σ:St}{H:Hp}{s:Shared}{l b:Addr}{xs ys zs:List V}
theorem Inv.XS{a its':List Value}{n:Nat}{f:Array Value->Array Value}{t':Nat}(I:Inv X pins σ H s)(i:H l=some (.lst xs))
 (e:s.heap.get? l=some {cls:=.type "list",data:=.seq a.toArray n})(g:f a.toArray=its'.toArray)(c:Vals ys its')(hz:ys.length<=sizeLine):
 Inv X pins σ (upd H l (.lst ys)) {s with heap:=s.heap.update l (Obj.mapSeq f),toks:=t'}:=by
 have q:=PySem.IsL.update e f;rw[g]at q;refine I.write (x:=l) (e:=l) (by rw[i];exact trivial) (.inl rfl) (λj u h d=>(Yf s.heap (Obj.mapSeq f) (RF h)).trans d) ⟨_,q⟩ ?_;exact⟨hz,its',_,c,q⟩
theorem Inv.SY{a:List Value}{t':Nat}(I:Inv X pins σ H s)(c:Vals ys a)(hz:ys.length<=sizeLine):
 Inv X pins σ (upd H s.heap.objs.size (.lst ys)) {s with heap:=s.heap.push {cls:=.type "list",data:=.seq a.toArray},toks:=t'}:=
 I.laid (λ_ _ q=>DL _ q) (Do _) ⟨hz,a,0,c,Hb _ rfl⟩
theorem Inv.fresh(I:Inv X pins σ H s):H s.heap.objs.size=none:=I.hok.fresh (Do _)
theorem Inv.Nn(I:Inv X pins σ H s)(c:H l=some (.lst xs)):xs.length<=sizeLine/\∃(a:List Value)(n:Nat),Vals xs a/\xs.length=a.length/\s.heap.get? l=some {cls:=.type "list",data:=.seq a.toArray n}:=by obtain⟨z,a,n,r,e⟩:=I.hok l _ c;exact⟨z,a,n,r,r.length,e⟩
theorem JG{n:Nat}(h:n<=sizeLine):Builtin.List.listTooLong n=false:=by unfold Builtin.List.listTooLong;exact QR (by lia)
end
section
variable{X:Cx}
noncomputable def yy:V->List V->Hp->VK->Prop:=λx b H Q=>∃l a y,x=.ref l/\b=[y]/\H l=some (.lst a)/\a.length<sizeLine/\Q .bC (upd H l (.lst (a++[y])))
theorem qN:MtM X "list.append" yy:=by intro b s g H x j v k Q I d rv h;obtain⟨l,i,y,rfl,rfl,c,hz,q⟩:=h;cases d;obtain⟨u,rfl,f⟩:=rv.one;obtain⟨z,a,n,r,m,e⟩:=I.Nn c;refine call_meets F.slot_list_append ⟨_,e,rfl⟩ F.entry_list_append (F.args_list_append_2 _ _) (PySem.list_append l a.toArray n u (by rw[Fm];lia)) ⟨e,?_⟩;refine⟨.bC,_,I.XS (its':=a++[u]) c e (by simp) (r.append (.cons f .nil)) ?_,rfl,q⟩;rw[Ee,List.length_singleton];lia
noncomputable def aaF:V->List V->Hp->VK->Prop:=λx b H Q=>∃l a y,x=.ref l/\b=[]/\H l=some (.lst a)/\a[a.length -1]?=some y/\Q y (upd H l (.lst a.dropLast))
theorem S5:MtM X "list.pop" aaF:=by
 intro d s o H x t v w Q I g rv h;obtain⟨l,p,y,rfl,rfl,f,j,q⟩:=h;cases g;have c:=rv.zero;subst c;obtain⟨z,a,n,r,m,e⟩:=I.Nn f;obtain⟨u,k,i⟩:=r.get j;have b:a.toArray[a.toArray.size -1]?=some u:=by show a.toArray[a.length -1]?=some u;rw[←Array.getElem?_toList,←m];exact k
 refine call_meets F.slot_list_pop ⟨_,e,rfl⟩ F.entry_list_pop (F.args_list_pop_1 _) (MeetsSeq.list_pop_last l a.toArray n u b (by rw[Fm];omega)) ⟨e,?_⟩;refine⟨y,_,I.XS (its':=a.dropLast) f e ?_ r.dropLast ?_,i,q⟩
 ·show a.toArray.eraseIdxIfInBounds (a.toArray.size -1)=a.dropLast.toArray;rw[Fm,List.eraseIdxIfInBounds_toArray,CZ]
 ·rw[List.length_dropLast];omega
noncomputable def aaG:R2:=λx y H Q=>∃l b c a,x=.ref l/\y=.ref b/\H l=some (.lst c)/\H b=some (.lst a)/\c.length+a.length<=sizeLine/\∀p,H p=none->Q (.ref p) (upd H p (.lst (c++a)))
theorem S6:n9 X (binaryOp .Add) aaG:=by
 intro d s t H x y v u Q I g f h;obtain⟨l,b,B,w,rfl,rfl,k,m,hz,q⟩:=h;cases g;cases f;obtain⟨z,c,n,r,D,e⟩:=I.Nn k;obtain⟨A,a,C,i,j,p⟩:=I.Nn m;refine PySem.P.add_list e p ?_ (by rw[Fm,Fm];omega);have o:c.toArray++a.toArray=(c++a).toArray:=by simp
 rw[o];exact⟨.ref _,_,I.SY (t':=s.toks) (r.append i) (by rw[Ee];omega),rfl,q _ I.fresh⟩
theorem len_rep{α:Type}(a:List α)(k:Nat):(List.replicate k a).flatten.length=k*a.length:=by
 induction k with
 |zero=>simp
 |succ k b=>rw[List.replicate_succ,List.flatten_cons,Ee,b,vw,ey]
end
section
variable{prog:Program}{w:World}{A:Around}{E:Value->Shared->Prop}{s:Shared}
end
section
variable{X:Cx}
end
end L2
namespace Att
open PySem PySem.W PySem.Calls PyProof.Rows
theorem sD{P:Params}{h:Heap}:∀(ns:List Int)(vs:List Value),WellAll P h vs (ns.map WData.int)->IntsAre vs ns:=by
 intro ns
 induction ns with
 |nil=>intro vs w;rw[Xt]at w;cases w;exact .nil
 |cons n ns c=>
  intro vs w;rw[Jn]at w;cases w with
  |cons a b=>
   cases a;exact .cons _ _ (c _ b)
theorem G9{l:OpenLaw}{n:Nat}(u:l.most=some n){P:Params}{h:Heap}{args:List WData}{b:List Value}
 (c:l.row.toRowW.claim.pre args=true)(j:WellAll P h b args):
 ∃a vs ns,b=[Value.ref a]/\args=[WData.list (ns.map WData.int)]/\h.get? a=some {cls:=.type "list",data:=.seq vs.toArray}/\IntsAre vs ns/\ns.length<=n:=by
 have k:WShape.hasAll [] args [.list .int]=true:=(pre_splitW c).1;have m:l.pre.holds [] {args:=args}=true:=(pre_splitW c).2;obtain⟨d,r,rfl,x,w⟩:=hasAllW_cons k;obtain rfl:=hasAllW_nil w;obtain⟨y,rfl,v⟩:=hasW_list x;obtain⟨ns,rfl⟩:=items_int v;have e:ns.length<=n:=by
  unfold OpenLaw.pre at m;have i:(WTm.not (.lt (.lit (.int (n:Int))) (.len (.arg 0)))).holds [] {args:=[.list (ns.map .int)]}=true:=by have i:=(holds_andW m).1;rw[u]at i;exact i
  have g:=condW_of i (w_not (w_lt w_lit (w_len_list (w_arg rfl))));rw[AN]at g;refine ph λq=>?_;have s:(n:Int)<((ns.length:Nat):Int):=by omega
  first
   |(rw[Os s]at g;exact absurd g (by decide))
   |(simp at g;omega)
 cases j with
 |cons p o=>
  cases o;cases p with
  |list t f=>exact⟨_,_,ns,rfl,rfl,t,sD ns _ f,e⟩
theorem Hf(l:OpenLaw)(args:List WData):l.row.toRowW.claim.post args (.bool true) args=true:=
 postW_of (r:=l.row.toRowW) (X:=(true==true))
  (show WShape.has [] (.bool true) .bool=true by first|rfl|decide|simp[WShape.has,WShape.arms,WShape.armsAll])
  (show(WTm.eq .res (.lit (.bool true))).value [] {args:=args,res:=some (.bool true),after:=args}=some (.bool (true==true))from w_eq_bool (w_res rfl) w_lit) rfl
theorem Av{l:OpenLaw}{n:Nat}{q:Program}{e:List Str}{F:(Str->Option Value)->Heap->Prop}{E:World->Heap->Prop}{d:DefRec}
 (K:l.most=some n)(y:d.params.defaults=[])
 (call:∀(w:World)(c b:Shared)(p u:Str->Option Value)(m:Addr)(o:Obj)(t s h:Value)(a:Addr)(vs:List Value)(ns:List Int),
   Ground q e [] F w c p u b.heap->E w b.heap->
   b.heap.get? m=some o->o.data=.func (docDef d.name d.params d.body d.scope t s h)->b.heap.CodeRec s d.name->p d.name=some (.ref m)->
   b.heap.get? a=some {cls:=.type "list",data:=.seq vs.toArray}->IntsAre vs ns->ns.length<=n->b.gens= #[]->
   codeAny (model l.prog w) callerA (.call (.ref m) ⟨[.ref a],[]⟩) (λr s'=>r=.ok (.ret (.bool true))/\OldK b.heap s'.heap/\s'.os=b.os/\AllBare s'.gens) b):
 WalkO q e F E l.row.toRowW d [] (λf vs=>PySem.call f vs):=by
 intro w c b p u G Y m o t s h S kV J O z C x N D A T i B H v M;obtain rfl:S=.none:=Dflts.none C y;obtain rfl:kV=.none:=Dflts.noKw C;obtain⟨a,vs,ns,rfl,rfl,j,g,k⟩:=G9 K i v;refine enter_call (uj (call w c b p u m o t s h a vs ns G Y J (fd_plain O) z x j g k N) λr s' I=>?_);obtain⟨rfl,R,Q,P⟩:=I;exact⟨.inl ⟨.bool true,.bool true,[],rfl,λ_=>rfl,.bool true,Hf l _,λ_=>⟨List.Pairwise.nil,λ_ L=>(nomatch L)⟩⟩,R,Q,P⟩
section
variable{prog:Program}{w:World}{A:Around}{E:Value->Shared->Prop}{s:Shared}{K:Frag}
end
end Att
namespace L2
open PySem PySem.Spec PyProof.Rows
theorem xq:∀{vs:List Value}{ns:List Int},IntsAre vs ns->Vals (ns.map V.int) vs
 |_,_,.nil=>.nil
 |_,_,.cons n t h=>.cons ⟨t,rfl⟩ (xq h)
noncomputable def JH(H:Hp):Prop:=∀b,H b=none\/∃o a,H b=some (.An o (.lst a))
theorem JI{P:Program}{w:World}{K:Frag}{p O:Str->Option Value}{CX:G4}{k:Nat}{U a:Addr}{fd:FuncData}{x:Str}{sp:Sp}{c:Shared}{vs:List Value}{ns:List Int}
 (KX:K.In c.heap)(y:c.heap.Ns mainGlobals p)(f:c.heap.Ns builtinsNs O)(R:∀x:Str,x≠"__name__"->O x=bootBuiltins x)(A:c.heap.NoLimit)(J:c.heap.NoSeer)(XT:P.given.tree=none)(hg:c.gens= #[])
 (B:c.heap.get? a=some {cls:=.type "list",data:=.seq vs.toArray})(hi:IntsAre vs ns)(hl:ns.length<=sizeLine)(hr:fy k callerA)
 (F:∀base:Heap,K.In base->base.Ns mainGlobals p->aN P w K p base CX k U fd [x] sp)(j:∀(s:Shared)(u:Value),BindsTo s fd ⟨[u],[]⟩ [(x,u)])
 (CV:∀H:Hp,JH H->kI K H a (ns.map V.int)->sp [.ref a] H (λv _=>v=.bl true) λ_ _ _=>False)
 (S:∀H e s',CX [] H c (λ_ _ _=>False) e s'->False):
 codeAny (model P w) callerA (.call (.ref U) ⟨[.ref a],[]⟩) (λr s'=>r=.ok (.ret (.bool true))/\OldK c.heap s'.heap/\s'.os=c.os/\AllBare s'.gens) c:=by
 have rv:=xq hi;have Z:=hi.length;have g:∀H:Hp,JH H->kI K H a (ns.map V.int)->oQ P w H c.heap->(∀b,H b≠none->b=a)->(H a≠none->K.lookup a=none)->
  codeAny (model P w) callerA (.call (.ref U) ⟨[.ref a],[]⟩) (λr s'=>r=.ok (.ret (.bool true))/\OldK c.heap s'.heap/\s'.os=c.os/\AllBare s'.gens) c:=by
  intro H hO hS t T hK;have L:∀{b:Addr}{o:Obj},c.heap.get? b=some o->H b=none->(yr c.heap H).get? b=some o:=λe n=>Jg e n;have XI:∀{b:Addr}{o:Obj}{D:Array DictEntry}{E:Nat},c.heap.get? b=some o->o.data=.dict D E->H b=none:=λ{b o D E} e d=>by
   cases q:H b with
   |none=>rfl
   |some u=>have G:b=a:=T b (by rw[q];simp);subst G;rw[B]at e;cases e;have X:Data.seq vs.toArray _=Data.dict D E:=d;cases X
  have i:∀{b:Addr}{m:Str->Option Value},c.heap.Ns b m->(yr c.heap H).Ns b m:=λ{b m} ⟨o,D,E,e,d,r⟩=>⟨o,D,E,L e (XI e d),d,r⟩;have C:K.In (yr c.heap H):=λb o e=>L (KX b o e) (by
   cases q:H b with
   |none=>rfl
   |some u=>have G:b=a:=T b (by rw[q];simp);subst G;rw[hK (by rw[q];simp)]at e;cases e)
  have N:∀{b:Addr}{o:Obj},c.heap.get? b=some o->o.cls=.type "module"->H b=none:=λ{b o} e d=>by
   cases q:H b with
   |none=>rfl
   |some u=>have G:b=a:=T b (by rw[q];simp);subst G;rw[B]at e;cases e;have X:Value.type "list"=Value.type "module":=d;exact absurd X (by decide)
  have hM:Mod K p (yr c.heap H):=⟨C,i y,⟨O,i f,R⟩,let⟨mc,h1,h2⟩:=A;⟨mc,i h1,h2⟩,⟨let⟨m,h1,h2⟩:=J.statics;⟨m,i h1,h2⟩,let⟨m,h1,h2⟩:=J.mods;⟨m,i h1,h2⟩,let⟨m,h1,h2⟩:=J.imp;⟨m,i h1,h2⟩,let⟨m,bm,M,h1,h2,h3,h4,h5⟩:=J.main;⟨m,bm,M,i h1,h2,L h3 (N h3 h4),h4,h5⟩⟩⟩;have e0:CT P w K p (yr c.heap H) callerA [] c H:=⟨rfl,hM,λb o e=>MX e,hV (GK _ _),trivial,λb f=>absurd (show b∈([]:List Addr)from f) (by simp),t,.of_eq hg,XT⟩;refine uj ((F _ C (i y)).run callerA [] c H ⟨[.ref a],[]⟩ [.ref a] [.ref a] _ _ hr e0 (j c (.ref a)) (.cons rfl .nil) (CV H hO hS)) λr s' h=>?_;cases r with
  |error e=>exact(S H e s' h).elim
  |ok fl=>
   cases fl with
   |next=>exact False.elim h
   |brk=>exact False.elim h
   |cont=>exact False.elim h
   |ret u=>
    obtain⟨v,H',os,I,un,Y,r',q⟩:=h;have q':v=.bl true:=q;subst q';obtain rfl:u=Value.bool true:=r';refine⟨rfl,OldK.of_keep λb o e=>?_,os,I⟩;cases q:H b with
    |none=>exact un.keep b o e q (by intro z;exact absurd (show b∈([]:List Addr)from z) (by simp)) (by simp)
    |some u=>
     rcases hO b with z|⟨M,xs,z⟩
     ·rw[q]at z;cases z
     ·have z2:=un.n5 b M _ z;obtain⟨e1,_⟩:=t b _ z;obtain⟨e2,_⟩:=Y b _ z2;rw[e]at e1;cases e1;exact e2
 cases Q:K.lookup a with
 |some o=>have e:=KX a o Q;rw[B]at e;cases e;refine g (λ_=>none) (λ_=>.inl rfl) (.inr ⟨_,vs.toArray,_,Q,rfl,rfl,rfl,by rw[Fm,Z];exact hl,by simpa using rv⟩) (λb u z=>by have l:(none:Option HO)=some u:=z;cases l) (λb z=>absurd rfl z) λz=>absurd rfl z
 |none=>
  refine g (λb=>if b=a then some (.An {cls:=.type "list",data:=.seq vs.toArray} (.lst (ns.map V.int)))else none) (λb=>?_) (.inl (.inr ⟨{cls:=.type "list",data:=.seq vs.toArray},Bn rfl⟩)) (λb u z=>?_) (λb z=>?_) λ_=>Q
  ·by_cases f:b=a
   ·exact .inr ⟨_,_,Bn f⟩
   ·exact .inl (Bi f)
  ·by_cases f:b=a
   ·have l:=(Bn f).symm.trans z;cases l;subst f;exact⟨B,by rw[AN];exact hl,vs,_,rv,B⟩
   ·have l:=(Bi f).symm.trans z;cases l
  ·by_cases f:b=a
   ·exact f
   ·exact absurd (Bi f) z
theorem Nq{l:PySem.W.OpenLaw}{n k:Nat}{q:Program}{i:List Str}{XP:(Str->Option Value)->Heap->Prop}{J:World->Heap->Prop}{d:DefRec}{K:Params->Frag}{CX:World->G4}{sp:World->Sp}{x:Str}
 (N:l.most=some n)(A:n<=sizeLine)(C:d.params.defaults=[])(M:fy k callerA)(z:importsNone q=true)(y:l.prog.given.tree=none)
 (R:∀(w:World)(h:Heap),J w h->(K w.params).In h)
 (F:∀(w:World)(m:Str->Option Value)(t:Addr)(h:Heap),(K w.params).In h->h.Ns mainGlobals m->m d.name=some (.ref t)->
   ∃E:FuncData,(∀(s:Shared)(u:Value),BindsTo s E ⟨[u],[]⟩ [(x,u)])/\
    ∀base:Heap,(K w.params).In base->base.Ns mainGlobals m->aN l.prog w (K w.params) m base (CX w) k t E [x] (sp w))
 (CV:∀(w:World)(H:Hp)(a:Addr)(ns:List Int),ns.length<=n->JH H->kI (K w.params) H a (ns.map V.int)->sp w [.ref a] H (λv _=>v=.bl true) λ_ _ _=>False)
 (D:∀(w:World)(H:Hp)(s:Shared)(e:Value)(s':Shared),CX w [] H s (λ_ _ _=>False) e s'->False):
 PySem.W.WalkO q i XP J l.row.toRowW d [] (λf vs=>PySem.call f vs):=by
 refine Att.Av N C λw I p m mb t o pm cd Z a vs ns G Y ho hd P B r j c O=>?_;have L:=R w _ Y;obtain⟨E,Q,X⟩:=F w m t _ L G.T.g B;exact JI L G.T.g G.T.b G.T.builtins G.T.nolimit (G.T.seer z) y O r j (Da c A) M X Q (λH U S=>CV w H a ns c U S) λH e s'=>D w H p e s'
noncomputable def inClass(s:Stmt)(j:Nat):Stmt:=match s with
 |.ClassDef _ _ _ body _ _ _ _ _ _ _=>body.getD j (.Pass ⟨0,0,0,0⟩)
 |_=>.Pass ⟨0,0,0,0⟩
noncomputable def dG(s:Stmt):Arguments:=match s with
 |.FunctionDef _ a _ _ _ _ _ _ _ _=>a
 |_=>{posonlyargs:=[],args:=[],vararg:=none,kwonlyargs:=[],kw_defaults:=[],kwarg:=none,defaults:=[]}
noncomputable def aj(s:Stmt):List Stmt:=match s with
 |.FunctionDef _ _ b _ _ _ _ _ _ _=>b
 |_=>[]
noncomputable def aa(s:Stmt):Scope:=match s with
 |.FunctionDef _ _ _ _ _ _ sc _ _ _=>sc
 |_=>{kind:=.function,names:=[],isGenerator:=false,isCoroutine:=false}
abbrev XU:G4:=λ_ _ _ _ _ _=>False
abbrev E0:XK:=λ_ _ _=>False
structure JJ(K:Frag)(x qual:Str)(st:Stmt)(f:Addr)(fd:FuncData):Prop where
 ex:∃(oc:Value)(od:Option Addr)(kV doc pm:Value)(an:Option Addr)(cdv ct:Value)(osl:Array (Option Value)),
  fd=fnOf x qual (dG st) (aj st) (aa st) .none kV doc pm an cdv ct/\K.lookup f=some ⟨oc,od,.func fd,osl⟩/\codeIn K cdv qual=true
 kp:keepIn K (.ref f)=true
section
variable{P:Program}{w:World}{K:Frag}{mg:Str->Option Value}{base:Heap}
theorem JJ.binds{x a:Str}{st:Stmt}{f:Addr}{i:FuncData}{ps:List Str}(F:JJ K x a st f i)
 (h:∀(kV b d:Value)(g:Option Addr)(c e:Value)(us:List Value),us.length=ps.length->bindArgs (fnOf x a (dG st) (aj st) (aa st) .none kV b d g c e) ⟨us,[]⟩=pure (ps.zip us)):Binds K i ps []:=by
 obtain⟨m,l,kV,b,d,g,c,e,j,rfl,n,k⟩:=F.ex;exact .all (h kV b d g c e)
theorem JK{x a:Str}{st:Stmt}{f:Addr}{m:Value}{j i:Option Addr}{e:Array (Option Value)}{kV d g b h:Value}(l:K.lookup f=some ⟨m,j,.func (fnOf x a (dG st) (aj st) (aa st) .none kV d g i b h),e⟩)
 (c:codeIn K b a=true)(k:keepIn K (.ref f)=true):JJ K x a st f (fnOf x a (dG st) (aj st) (aa st) .none kV d g i b h):=⟨⟨m,j,kV,d,g,i,b,h,e,rfl,l,c⟩,k⟩
end
section
variable{X:Cx}
theorem pv(i:Nat){x:Str}{pos:Pos}(d:X.N[i]?=some x:=by rfl)(b:Wz X.env.scope x:=by first|exact Or.inl rfl|exact Or.inr (Or.inl rfl)|exact Or.inr (Or.inr rfl))(c:(x==("__debug__":Str))=false:=by decide)
 (a:(x==("__classdict__":Str))=false:=by decide):PE X (.Name x pos) (qL i):=Jj d b c a
end
noncomputable def aE(H H':Hp):Prop:=∀b o,H b=some o->H' b=some o
theorem aE.refl(H:Hp):aE H H:=λ_ _ h=>h
theorem aE.trans{H H1 d:Hp}(a:aE H H1)(b:aE H1 d):aE H d:=λc o h=>b c o (a c o h)
theorem aE.free{H H':Hp}(e:aE H H'){l:Addr}(h:H' l=Option.none):H l=Option.none:=by
 cases q:H l with
 |none=>rfl
 |some o=>rw[e l o q]at h;cases h
theorem bits_le{x:Int}{n:Nat}(h:x.natAbs<2^n):Builtin.Int.intBits x<=n:=by
 unfold Builtin.Int.intBits;split
 ·exact Mo _
 ·rename_i hx
  have a:x.natAbs≠0:=λe=>hx (by simp[Int.natAbs_eq_zero.mp e]);have:=(Nat.log2_lt a).mpr h;omega
theorem C0{i j:Int}(h:Builtin.Int.intBits i+Builtin.Int.intBits j<=134217728):IntMulOk i j:=by
 unfold IntMulOk Builtin.Int.intTooBig;have a:¬((Builtin.Int.intBits i:Int)+(Builtin.Int.intBits j:Int)>((bitsLine:Nat):Int)):=by rw[bitsLine_eq];omega
 intro z;rw[BM]at z;exact a (Bz z.2)
section
variable{X:Cx}
theorem Nr:n9 X (binaryOp .Mult) (rI IntMulOk λi j=>.int (i*j)):=Xx λ_ _ _ _ _ _ _ a q=>mul_int q a
noncomputable def ET(_ j:Int):Prop:=j≠0/\j.natAbs.log2<1000000000
theorem JL:n9 X (binaryOp .FloorDiv) (rI ET λi j=>.int (i.fdiv j)):=λa s e H x y v u Q I c b h=>by obtain⟨i,j,rfl,rfl,d,q⟩:=h;obtain⟨t,rfl⟩:=c;obtain⟨f,rfl⟩:=b;exact floordiv_int d.1 ⟨.int (i.fdiv j),H,I.tok _,⟨_,rfl⟩,q⟩ (.inr (I.ok.Xf X.A s rfl rfl I.bk))
end
theorem aO{H:Hp}{p:Addr}(h:H p=none)(o:HO):aE H (upd H p o):=λb u q=>by rw[ao (aV q h)];exact q
theorem aE.tup{K:Frag}{H H':Hp}{a:Addr}{b:List V}(e:aE H H')(h:mK K H a b):mK K H' a b:=by
 rcases h with(h|⟨o,h⟩)|h
 ·exact .inl (.inl (e _ _ h))
 ·exact .inl (.inr ⟨o,e _ _ h⟩)
 ·exact .inr h
theorem fj{n:Nat}(h:n<=100000):n<=sizeLine:=Da h (by decide)
end L2
namespace L2
theorem C1{i j:Int}(c:0<=j)(b:j<=1000000)(a:i.natAbs<2^64):GV i j:=⟨c,b,a⟩
end L2
namespace L2
open PySem PySem.Spec PyProof.Rows
theorem uc{H:Hp}{p q:Addr}{o u:HO}(a:H q=some u)(b:H p=none):upd H p o q=some u:=by rw[ao (aV a b)];exact a
noncomputable def Cn(e:Addr)(h:Heap):Prop:=∃b a,h.get? e=some b/\b.data=.fields a/\a[2]?=some Value.none
inductive Kp:{α:Type}->Sem α->Prop
 |pure {α:Type} (a:α):Kp (.pure a)
 |raise {α:Type} (e:Value):Kp (.raise e:Sem α)
 |Hg {α:Type} (w:String):Kp (.unsupported w:Sem α)
 |rule {α:Type} (t:String) (k:Unit->Sem α) (h:Kp (k ())):Kp (.rule t k)
 |load {α:Type} (a:Addr) (p:Option Value) (k:Obj->Sem α) (h:∀o,Kp (k o)):Kp (.load a p k)
 |update {α:Type} (a:Addr) (p:Option Value) (f:Obj->Obj) (k:Unit->Sem α) (hf:∀o vs,o.data=.fields vs->vs[2]?=some Value.none->∃vs',(f o).data=.fields vs'/\vs'[2]?=some Value.none) (h:Kp (k ())):Kp (.update a p f k)
 |alloc {α:Type} (o:Obj) (k:Addr->Sem α) (h:∀a,Kp (k a)):Kp (.alloc o k)
 |stack {α:Type} (k:List (Code×Pos)->Sem α) (h:∀l,Kp (k l)):Kp (.stack k)
theorem Kp.bind{α c:Type}{m:Sem α}{f:α->Sem c}(h:Kp m)(i:∀a,Kp (f a)):Kp (m.bind f):=by
 induction h with
 |pure a=>exact i a
 |raise e=>exact .raise e
 |Hg w=>exact .Hg w
 |rule t k _ b=>exact .rule t _ b
 |load a p k _ b=>exact .load a p _ b
 |update a p g k d _ b=>exact .update a p g _ d b
 |alloc o k _ b=>exact .alloc o _ b
 |stack k _ b=>exact .stack _ b
theorem Cn.update{e a:Addr}{h:Heap}{f:Obj->Obj}(c:Cn e h)(l:∀o vs,o.data=.fields vs->vs[2]?=some Value.none->∃b,(f o).data=.fields b/\b[2]?=some Value.none):Cn e (h.update a f):=by
 obtain⟨d,vs,j,i,g⟩:=c;by_cases q:a=e
 ·subst q;obtain⟨b,k,m⟩:=l d vs i g;exact⟨f d,b,si _ j (Obj.isFreed_of_fields k),k,m⟩
 ·exact⟨d,vs,(Yf _ _ q).trans j,i,g⟩
theorem Cn.push{e:Addr}{h:Heap}{o:Obj}(c:Cn e h):Cn e (h.push o):=by obtain⟨b,a,f,d⟩:=c;exact⟨b,a,DL _ f,d⟩
theorem Kp.wp{α:Type}{t:Sem α}{M:Model}{g:PySem.Ctx}{e:Addr}(h:Kp t):∀{Q:α->Pos->Shared->Prop}{E:Value->Pos->Shared->Prop}{p:Pos}{s:Shared},Sem.wp M g t Q E p s->Cn e s.heap->Sem.wp M g t (λa d s'=>Q a d s'/\Cn e s'.heap) (λx d s'=>E x d s'/\Cn e s'.heap) p s:=by
 induction h with
 |pure a=>intro Q E p s w c;rw[Sem.wp]at w⊢;exact⟨w,c⟩
 |raise x=>intro Q E p s w c;rw[Sem.wp]at w⊢;exact⟨w,c⟩
 |Hg x=>intro Q E p s w c;rw[Sem.wp]at w;exact w.elim
 |rule t k _ b=>intro Q E p s w c;rw[Sem.wp]at w⊢;exact b w c
 |load a q k _ b=>intro Q E p s w c;rw[Sem.wp]at w⊢;obtain⟨o,l,j⟩:=w;exact⟨o,l,b o j c⟩
 |update a q f k i _ b=>intro Q E p s w c;rw[Sem.wp]at w⊢;exact⟨w.1,b w.2 (c.update i)⟩
 |alloc o k _ b=>intro Q E p s w c;rw[Sem.wp]at w⊢;exact b _ w c.push
 |stack k _ b=>intro Q E p s w c;rw[Sem.wp]at w⊢;exact b _ w c
theorem Kp.any{α:Type}{t:Sem α}{M:Model}{A:Around}{e:Addr}{Q:α->Shared->Prop}{E:Value->Shared->Prop}{s:Shared}(h:Kp t)(c:Cn e s.heap)(w:wpAny M A t Q E s):wpAny M A t (λa s'=>Q a s'/\Cn e s'.heap) (λx s'=>E x s'/\Cn e s'.heap) s:=λd p b=>h.wp (w d p b) c
theorem Kp.use{α:Type}{t:Sem α}{M:Model}{A:Around}{e:Addr}{Q:α->Shared->Prop}{E:Value->Shared->Prop}{s:Shared}(h:Kp t)(c:Cn e s.heap)(w:wpAny M A t (λa s'=>Cn e s'.heap->Q a s') (λx s'=>Cn e s'.heap->E x s') s):wpAny M A t Q E s:=dt (h.any c w) (λ_ _ z=>z.1 z.2) λ_ _ z=>z.1 z.2
theorem Aw(v:Value):Kp (fieldsOf v):=by
 unfold fieldsOf;cases v<;>first|exact .Hg _|skip
 refine Kp.bind (.load _ _ _ λo=>.pure o) λo=>?_;split
 ·exact .pure _
 ·exact .Hg _
theorem oY(v:Value)(i:Nat):Kp (field v i):=by
 unfold field;refine Kp.bind (Aw v) λa=>?_;split
 ·exact .pure _
 ·exact .Hg _
theorem kZ(v:Value){i:Nat}(x:Value)(b:i≠2):Kp (setField v i x):=by
 unfold setField;cases v<;>first|exact .Hg _|skip
 unfold updateField;refine Kp.bind (.load _ _ _ λo=>.pure o) λo=>?_;split
 ·split
  ·refine .update _ _ _ _ (λo a d c=>⟨a.setIfInBounds i x,Obj.data_mapFields d _,?_⟩) (.pure ());rw[Array.getElem?_setIfInBounds_ne b];exact c
  ·exact .Hg _
 ·exact .Hg _
theorem Nt:Kp frameEnvs:=Kp.bind (.stack _ λl=>.pure l) λl=>.pure _
theorem kp_back(env:Env)(b:Bool):∀l,Kp (keptBack env b l)
 |[]=>by
  rw[keptBack];split
  ·exact .pure _
  ·exact Kp.bind (Kp.bind (.stack _ λl=>.pure l) λl=>.pure _) λa=>.pure _
 |c::_=>.pure _
theorem Hh(env:Env)(l:List Env):Kp (behindIsImport env l):=by
 unfold behindIsImport;split
 ·exact .pure _
 ·split
  ·exact .pure _
  ·exact Kp.bind (oY _ _) λa=>.pure _
theorem kp_ready:∀l,Kp (readyFrames l)
 |[]=>.pure ()
 |env::outer=>by
  unfold readyFrames;split
  ·refine Kp.bind (.load _ _ _ λo=>.pure o) λo=>?_;split
   ·exact .pure ()
   ·refine Kp.bind (Hh env outer) λb=>Kp.bind (kp_back env b outer) λv=>Kp.bind (.update _ _ _ _ (λo vs c a=>⟨vs,c,a⟩) (.pure ())) λ_=>kp_ready outer
  ·exact .Hg _
theorem ud:∀l,Kp (frameObject l)
 |[]=>.pure _
 |env::outer=>Kp.bind (kp_ready _) λ_=>.pure _
theorem C2(env:Env):Kp (PySem.frameOf env):=by
 unfold PySem.frameOf;refine Kp.bind Nt λl=>Kp.bind (ud _) λo=>?_;split
 ·exact .pure _
 ·exact .Hg _
theorem JM(f:Addr)(b:Bool):Kp (entryPlaceOf f b):=by
 unfold entryPlaceOf;refine Kp.bind (.stack _ λl=>.pure l) λl=>?_;split
 ·exact .pure _
 ·exact .pure _
theorem Ax(a b c d e:Value)(l:List Value):Kp (EntryCells.newEntry a b c d e l):=by
 unfold EntryCells.newEntry newFields;generalize([a,b,c,d,e]++(if l.isEmpty then List.replicate 6 .none else l)).toArray=z;unfold newObj;have f:∀(T:String)(x:Data),Kp (newObjAsIs (.type T) x none):=λT x=>by unfold newObjAsIs;exact Kp.bind (.alloc _ _ λa=>.pure a) λa=>.pure _
 dsimp only;split
 ·exact Kp.bind (.Hg _) λ_=>f _ _
 ·exact f _ _
theorem qO(v:Value)(f:Option Addr):Kp (setFlight v f):=by
 unfold setFlight;refine Kp.bind (oY v 1) λt=>?_;split
 ·exact kZ _ _ (by decide)
 ·exact .pure ()
theorem EU(v:Value)(env:Env):Kp (noteFrame v env):=by
 unfold noteFrame;split
 ·rename_i f _
  refine Kp.bind (oY v 1) λt=>?_;have rest:∀t:Value,Kp (do setField v 1 (←EntryCells.newEntry t (←PySem.frameOf env) .none (rawInt f) .none (←entryPlaceOf f (t !=.none))):Sem Unit):=λt=>Kp.bind (C2 env) λf=>Kp.bind (JM _ _) λl=>Kp.bind (Ax _ _ _ _ _ _) λe=>kZ _ _ (by decide);dsimp only;split
  ·refine Kp.bind (oY t 3) λx=>?_;split
   ·exact .pure ()
   ·exact Kp.bind (kZ _ _ (by decide)) λ_=>rest t
  ·exact rest t
 ·exact .Hg _
theorem ue(env:Env)(v:Value):Kp (leaving env v):=Kp.bind (EU v env) λ_=>qO v none
theorem cL.thing{P:Program}{w:World}{H:Hp}{h:Heap}{a:Addr}{o:HO}(x:cL P w H h a o):∃b,h.get? a=some b:=by
 cases o with
 |lst d=>obtain⟨_,_,_,_,e⟩:=x;exact⟨_,e⟩
 |tup d=>obtain⟨_,_,_,b,e,_⟩:=x;exact⟨_,e⟩
 |dK c=>obtain⟨_,_,_,_,b,_,_,e,_⟩:=x;exact⟨_,e⟩
 |dT c=>obtain⟨_,_,_,_,b,_,_,e,_⟩:=x;exact⟨_,e⟩
 |set S n=>obtain⟨b,_,_,_,e,_⟩:=x;exact⟨_,e⟩
 |ins C l g=>obtain⟨_,_,_,e,_⟩:=x;exact⟨_,e⟩
 |own y=>exact x
 |xd g=>obtain⟨_,⟨_,_,_,e,_⟩,_⟩:=x;exact⟨_,e⟩
 |oO j k=>obtain⟨_,_,_,e⟩:=x;exact⟨_,e⟩
 |An b u=>obtain⟨e,_⟩:=x;exact⟨_,e⟩
 |QN i=>exact⟨_,x⟩
 |met f y=>exact⟨_,x⟩
 |ext φ=>obtain⟨_,e,_⟩:=x;exact e
theorem oQ.gone{P:Program}{w:World}{H:Hp}{h:Heap}{a:Addr}(x:oQ P w H h)(e:h.get? a=none):H a=none:=by
 cases q:H a with
 |none=>rfl
 |some u=>obtain⟨b,z⟩:=(x a u q).thing;rw[e]at z;cases z
theorem oQ.tracked{P:Program}{w:World}{H:Hp}{h h':Heap}(x:oQ P w H h)(k:∀b u c,H b=some u->h.get? b=some c->h'.get? b=some c):oQ P w H h':=λa o e=>
 (x a o e).stay (λb u z q=>by
   rcases z with rfl|z
   ·exact k b o u e q
   ·exact k b _ u z q) (λ_ q=>q) λ_ _ q=>q
structure Fly(P:Program)(w:World)(outer:List Env)(H:Hp)(s:Shared)(H':Hp)(a C:Addr)(s':Shared):Prop where
 os:s'.os=s.os
 bare:AllBare s'.gens
 un:Un (frs outer) [] H H' s.heap s'.heap
 hok:oQ P w H' s'.heap
 new:H' a=none
 old:s.heap.get? a=none
 XW:∃(B:Heap)(a0:Value),Heap.FlyingW B outer a (.ref C) a0 s'.heap/\∀b o,s'.heap.get? b=some o->b∉frs outer->((∃o',s.heap.get? b=some o')\/∃u,H' b=some u)->B.get? b=some o
 cn:Cn a s'.heap
noncomputable def dD(P:Program)(w:World):G4:=λb H s E e d=>∃a C c,e=.ref a/\Fly P w b H s c a C d/\E (.ref C) none c
section
variable{P:Program}{w:World}{K:Frag}{mg:Str->Option Value}{base:Heap}{N:List Str}{qual:Str}{scope:Scope}{f:Addr}{cd:Value}{A:Around}{outer:List Env}{s:Shared}{H:Hp}{E:XK}
abbrev oS(P:Program)(w:World)(K:Frag)(mg:Str->Option Value)(base:Heap)(N:List Str)(qual:Str)(scope:Scope)(f:Addr)(cd:Value)(A:Around)(outer:List Env)(s:Shared)(H:Hp)(E:XK):Cx:=
 G5 (dD P w) P w K mg base N qual scope f cd A outer s H E
theorem uf{e:Env}{l:List Env}{L b:Addr}(a:e.frame=some L):b∈frs (e::l)↔b=L\/b∈frs l:=by unfold frs;rw[List.filterMap_cons,a];exact GT
theorem Ay{g:List (Addr×Obj)}{σ:St}{H1 t:Hp}{i:Shared}{r:Heap}(I:Inv (oS P w K mg base N qual scope f cd A outer s H E) g σ H1 i)
 (u:Un (frs (oS P w K mg base N qual scope f cd A outer s H E).stack) [] H1 t i.heap r):Un (frs outer) [] H t s.heap r:=by
 have C:(oS P w K mg base N qual scope f cd A outer s H E).env.frame=some s.heap.objs.size:=rfl;have p:∀b,b∈frs (oS P w K mg base N qual scope f cd A outer s H E).stack↔b=s.heap.objs.size\/b∈frs outer:=λb=>uf C;have c:Un (frs outer) [] H H1 s.heap i.heap:=I.base;have k:∀b o,s.heap.get? b=some o->b∉frs outer->b∉frs (oS P w K mg base N qual scope f cd A outer s H E).stack:=λb o q d z=>by
  rcases(p b).mp z with z|z
  ·exact absurd (FS q) (by rw[z];exact OK _)
  ·exact d z
 refine⟨λb o q n d a=>?_,λb o q n d a=>?_,λb o q n a=>?_,λb o q a=>?_,λb m q=>u.tups b m (c.tups b m q),λb o v q=>u.n5 b o v (c.n5 b o v q),λb x q=>?_⟩
 ·exact u.keep b o (c.keep b o q n d a) (c.free b o q n a) (k b o q d) a
 ·obtain⟨D,e⟩:=c.slot b o q n d a;obtain⟨h,l⟩:=u.slot b _ e (c.free b o q n a) ((p b).mpr (.inr d)) a;exact⟨h,l⟩
 ·obtain⟨j,e⟩:=c.there b o q a;exact u.free b j e (c.free b o q n a) a
 ·obtain⟨j,e⟩:=c.there b o q a;exact u.there b j e a
 ·obtain⟨B,e⟩:=c.oU b x q;obtain⟨y,l⟩:=u.oU b _ e;exact⟨B++y,by rw[l,Array.append_assoc]⟩
theorem C3{l:List Env}{H1 t:Hp}{p g h:Heap}(u:Un (frs l) [] H1 t p g)(k:∀b o,g.get? b=some o->b∉frs l->((∃c,p.get? b=some c)\/∃u,t b=some u)->h.get? b=some o)
 (ff:∀b,b∈frs l->∃o,g.get? b=some o/\∀vs,o.data≠.fields vs)(up:g.UpToSlots h):Un (frs l) [] H1 t p h:=by
 have v:∀b o,b∈frs l->g.get? b=some o->∃m,h.get? b=some {o with slots:=m}:=λb o a q=>by obtain⟨c,e,x⟩:=ff b a;rw[q]at e;cases e;exact up b o q x
 refine⟨λb o q n a d=>k b o (u.keep b o q n a d) a (.inl ⟨o,q⟩),λb o q n a d=>?_,u.free,λb o q d=>?_,u.tups,u.n5,u.oU⟩
 ·obtain⟨m,i⟩:=u.slot b o q n a d;obtain⟨j,r⟩:=v b _ a i;exact⟨j,r⟩
 ·obtain⟨c,i⟩:=u.there b o q d;by_cases a:b∈frs l
  ·obtain⟨m,r⟩:=v b c a i;exact⟨_,r⟩
  ·exact⟨c,k b c i a (.inl ⟨o,q⟩)⟩
theorem JN{b:List (Addr×Obj)}{σ:St}{H1:Hp}{c:Shared}{a:Addr}(I:Inv (oS P w K mg base N qual scope f cd A outer s H E) b σ H1 c)(e:c.heap.get? a=none):s.heap.get? a=none:=by
 have d:Un (frs outer) [] H H1 s.heap c.heap:=I.base;cases q:s.heap.get? a with
 |none=>rfl
 |some o=>obtain⟨g,z⟩:=d.there a o q (by simp);rw[e]at z;cases z
theorem C4{d:List (Addr×Obj)}{σ:St}{H1:Hp}{c:Shared}{h':Heap}{a C:Addr}{l:List Value}(I:Inv (oS P w K mg base N qual scope f cd A outer s H E) d σ H1 c)
 (i:Heap.MadeExcOf c.heap h' a (.ref C) l)(q:E (.ref C) none H1):(oS P w K mg base N qual scope f cd A outer s H E).xe (.ref a) {c with heap:=h'}:=by
 have G:(oS P w K mg base N qual scope f cd A outer s H E).env.frame=some s.heap.objs.size:=rfl;have S:∀b,b∈frs (oS P w K mg base N qual scope f cd A outer s H E).stack↔b=s.heap.objs.size\/b∈frs outer:=λb=>uf G;have ff:=I.stack;have p:∀env∈(oS P w K mg base N qual scope f cd A outer s H E).stack,∀b,env.frame=some b->b∈frs (oS P w K mg base N qual scope f cd A outer s H E).stack:=λenv r b v=>List.mem_filterMap.mpr ⟨env,r,v⟩;have k:=PySem.W.funFrames_hide ff p;obtain⟨Z,r,_⟩:=i.there;refine Kp.use (e:=a) (ue _ _) ⟨_,_,r,rfl,rfl⟩ ?_;refine wpAny_leaves_madeW (base:=PySem.W.hideAll c.heap (frs (oS P w K mg base N qual scope f cd A outer s H E).stack)) (h:=c.heap) I.ok.frames G (λb o z=>PySem.W.of_hideAll _ z) k i λn t D Y X O x=>?_;have y:∀b o,c.heap.get? b=some o->b∉frs (oS P w K mg base N qual scope f cd A outer s H E).stack->n.get? b=some o:=λb o z g=>D.1 b o (hideAll_get _ z g);have fm:∀b,b∈frs (oS P w K mg base N qual scope f cd A outer s H E).stack->∃o,c.heap.get? b=some o/\∀Q,o.data≠.fields Q:=λb v=>(k.mem v).2;have up:c.heap.UpToSlots n:=(Heap.UpToSlots.of_keeps i.keeps).trans O;have R:Un (frs (oS P w K mg base N qual scope f cd A outer s H E).stack) [] H1 H1 c.heap n:=C3 Un.refl (λb o z g _=>y b o z g) fm up;refine⟨a,C,H1,rfl,⟨I.os,I.bare,Ay I R,I.hok.tracked λb u T z M=>y b T M λm=>?_,I.hok.gone i.new,JN I i.new,⟨_,_,D,λb o z g j=>?_⟩,x⟩,q⟩
 ·have:=I.mH b m;rw[z]at this;cases this
 ·have L:b∉frs (oS P w K mg base N qual scope f cd A outer s H E).stack:=λm=>by
   rcases j with⟨F,e⟩|⟨u,e⟩
   ·rcases(S b).mp m with m|m
    ·exact absurd (FS e) (by rw[m];exact OK _)
    ·exact g m
   ·have:=I.mH b m;rw[e]at this;cases this
  have:∃o1,c.heap.get? b=some o1:=by
   rcases j with⟨F,e⟩|⟨u,e⟩
   ·exact Un.there (show Un (frs outer) [] H H1 s.heap c.heap from I.base) b F e (by simp)
   ·exact(I.hok b u e).thing
  obtain⟨o1,J⟩:=this;have U:=y b o1 J L;have B:n.get? b=some o:=z;rw[U]at B;cases B;exact hideAll_get _ J L
theorem JO{g:List (Addr×Obj)}{σ:St}{H1:Hp}{i s':Shared}{e:Value}(I:Inv (oS P w K mg base N qual scope f cd A outer s H E) g σ H1 i)
 (S:dD P w (oS P w K mg base N qual scope f cd A outer s H E).stack H1 i E e s'):(oS P w K mg base N qual scope f cd A outer s H E).xe e s':=by
 obtain⟨a,C,p,rfl,F,q⟩:=S;obtain⟨B,Y,x,k⟩:=F.XW;have v:(oS P w K mg base N qual scope f cd A outer s H E).env.frame=some s.heap.objs.size:=rfl;have Q:∀b,b∈frs (oS P w K mg base N qual scope f cd A outer s H E).stack↔b=s.heap.objs.size\/b∈frs outer:=λb=>uf v;refine Kp.use (e:=a) (ue _ _) F.cn ?_;refine wpAny_leaves_onW I.ok.frames v x λU h L n=>?_;have fm:∀b,b∈frs (oS P w K mg base N qual scope f cd A outer s H E).stack->∃o,s'.heap.get? b=some o/\∀M,o.data≠.fields M:=λb T=>(x.2.2.1.mem T).2;have G:∀b u,p b=some u->b∉frs (oS P w K mg base N qual scope f cd A outer s H E).stack:=λb u z m=>by have l:=I.mH b m;obtain⟨o,R,_⟩:=I.stack.mem m|>.2;rw[F.un.free b o R l (by simp)]at z;cases z
 have O:=C3 F.un (λb o z j c=>h.1 b o (k b o z j c)) fm L;refine⟨a,C,p,rfl,⟨F.os.trans I.os,F.bare,Ay I O,F.hok.tracked λb u t z J=>h.1 b t (k b t J (G b u z) (.inr ⟨u,z⟩)),F.new,JN I F.old,⟨B,Y,h,λb o z j c=>?_⟩,n⟩,q⟩;have Z:b∉frs (oS P w K mg base N qual scope f cd A outer s H E).stack:=λm=>by
  rcases c with⟨d,e⟩|⟨u,e⟩
  ·rcases(Q b).mp m with m|m
   ·exact absurd (FS e) (by rw[m];exact OK _)
   ·exact j m
  ·exact G b u e m
 have D:(∃d,i.heap.get? b=some d)\/∃u,p b=some u:=by
  rcases c with⟨d,e⟩|z
  ·exact .inl (Un.there (show Un (frs outer) [] H H1 s.heap i.heap from I.base) b d e (by simp))
  ·exact .inr z
 have:∃o1,s'.heap.get? b=some o1:=by
  rcases D with⟨d,e⟩|⟨u,e⟩
  ·exact F.un.there b d e (by simp)
  ·exact(F.hok b u e).thing
 obtain⟨o1,l⟩:=this;have y:=k b o1 l Z D;have X:=h.1 b o1 y;have r:U.get? b=some o:=z;rw[X]at r;cases r;exact y
theorem QZ:Passes (dD P w) (oS P w K mg base N qual scope f cd A outer s H E) E:=λ_ _ _ _ _ _ I h=>JO I h
end
abbrev bmV:List Value:=[.type "ValueError",.type "Exception",.type "BaseException",.type "object"]
structure Ah(K:Frag)(C:Addr):Prop where
 exc:excIn K C bmV "ValueError.__new__"=true
 ga:findIn K (.ref C) "__getattribute__"=some (some (.builtin "BaseException.__getattribute__"))
 gt:findIn K (.ref C) "__getattr__"=some none
 cl:findIn K (.ref C) "__class__"=some (some (.builtin "object.__class__"))
 ob:mroIn K C (.type "object")=some true
 bs:mroIn K C (.type "BaseException")=some true
theorem Nu{p:Prop}(h:false=true):p:=nomatch h
theorem exA{o:Option Obj}{F:Option Addr->ClassData->Array (Option Value)->Bool}(q:PySem.W.excIn.match_6 (λ_=>Bool) o F (λ_=>false)=true):∃d c l,o=some ⟨.type "type",d,.cls c,l⟩/\F d c l=true:=by
 rcases o with _|⟨b,g,a,f⟩
 ·exact Nu q
 cases b with
 |type s=>
  by_cases e:s="type"
  ·subst e;cases a with
   |cls h=>exact⟨_,_,_,rfl,q⟩
   |_=>exact Nu q
  ·delta PySem.W.excIn.match_6 at q
   exact Nu ((dif_neg e).symm.trans q)
 |_=>exact Nu q
theorem exB{m:List Value}{l:List (Option Value)}{F:Addr->List Value->Option Value->Option Value->Option Value->Option Value->String->Option Value->Bool}(q:PySem.W.excIn.match_1 (λ_ _=>Bool) m l F (λ_ _=>false)=true):∃a b k0 k1 k2 k3 n k5,m=.ref a::b/\l=[k0,k1,k2,k3,some (.builtin n),k5]/\F a b k0 k1 k2 k3 n k5=true:=by
 rcases m with _|⟨v,d⟩
 ·exact Nu q
 cases v with
 |ref e=>
  rcases l with _|⟨k0,_|⟨k1,_|⟨k2,_|⟨k3,_|⟨_|v,r⟩⟩⟩⟩⟩<;>try exact Nu q
  cases v with
  |builtin n=>
   rcases r with _|⟨k5,_|⟨c,r⟩⟩<;>try exact Nu q
   exact⟨_,_,_,_,_,_,_,_,rfl,rfl,q⟩
  |_=>exact Nu q
 |_=>exact Nu q
theorem sR{K:Frag}{h:Heap}{C:Addr}{b:List Value}{a:String}(X:K.In h)(q:excIn K C b a=true):
 ∃bm N nm c bs hdct sn sub ab col dd k0 k1 k2 k3 k5 mN,h.get? C=some (excClassObj nm c C N bs bm hdct sn sub ab col dd k0 k1 k2 k3 k5 a)/\h.Ns N mN/\mN "__init__"=none/\OwnTail h b bm:=by
 obtain⟨dd,v,d,i,q⟩:=exA q;have s:=X _ _ i;clear i;obtain⟨w,bm,k0,k1,k2,k3,n,k5,g,f,q⟩:=exB q;obtain⟨nm,bs,r,p,c,t,sn,sub,ab,col,u⟩:=v;obtain⟨d⟩:=d;dsimp only at g f q;subst g f;simp only[BM,Nw,ox]at q;obtain⟨⟨⟨⟨⟨o,m⟩,l⟩,k⟩,e⟩,j⟩:=q;subst o m l;exact⟨bm,p,nm,c,bs,t,sn,sub,ab,col,dd,k0,k1,k2,k3,k5,_,s,Heap.Ns.of_isNs (PySem.W.isNs_of_in X e),PySem.W.nsMap_none_of_in X e j,PySem.W.tail_of_in X k⟩
noncomputable def C5(X:Cx)(R:Addr->Hp->Prop):Prop:=∀(b:List (Addr×Obj))(e:St)(H:Hp)(s:Shared)(d:Heap)(a C:Addr)(c:List Value),Inv X b e H s->Heap.MadeExcOf s.heap d a (.ref C) c->R C H->X.xe (.ref a) {s with heap:=d}
theorem EV{P:Program}{w:World}{K:Frag}{d:Str->Option Value}{base:Heap}{N:List Str}{c:Str}{a:Scope}{f:Addr}{g:Value}{A:Around}{b:List Env}{s:Shared}{H:Hp}{E:XK}:
 C5 (oS P w K d base N c a f g A b s H E) (λC H'=>E (.ref C) none H'):=λ_ _ _ _ _ _ _ _ I e q=>C4 I e q
noncomputable def S8(R:Addr->Hp->Prop)(C:Addr)(t:TA):TS:=λ_ a H=>t a H λb c=>b.length<=sizeLine/\R C c
section
variable{X:Cx}{x:Str}{C:Addr}{e:Expr}{t:TA}{np cpos pos:Pos}{R:Addr->Hp->Prop}
theorem JP(w:C5 X R)(u:X.calm=true)(p:Gl X x)(n:X.mg x=some (.ref C))(q:Ah X.K C)(v:PA X [e] t)(g:starEach [e] X.env=[(false,eval e X.env)]:=by rfl)
 (hd:(x==("__debug__":Str))=false:=by decide):PS X (.Raise (some (.Call (.Name x np) [e] [] cpos)) none pos) (S8 R C t):=by
 intro b s f H D I h;obtain⟨bm,N,nm,k,bs,hdct,sn,sub,ab,col,dd,k0,k1,k2,k3,k5,mN,A,y,d,T⟩:=sR I.ok.mod.Sa q.exc;refine wpAny_Raise_call_subT (C:=C) (bm:=bm) (mN:=mN) (nm:=nm) (q:=k) (N:=N) (bs:=bs) (hdct:=hdct) (sn:=sn) (sub:=sub) (ab:=ab) (col:=col) (dd:=dd) (k0:=k0) (k1:=k1) (k2:=k2) (k3:=k3) (k5:=k5) (F:=PySem.F.excBase_ValueError) (T.hasType PySem.F.excBase_ValueError.hasBase) (I.ok.hd u) (by rw[g];rfl) d (mJ I p n ⟨rfl,?_⟩ hd);have i:=v cpos b s f H _ I h;rw[g]at i⊢;refine Calls.evalArgs_plain (cM i λJ j z=>?_);obtain⟨G,E,c,r,o,l⟩:=z;refine⟨rfl,by rw[←r.length];exact o,c.bk _ _ A,y.keeps c.bk,T.keeps c.bk,λB a m=>w b f E j B a C _ c m l⟩
end
theorem PS.tT{X:Cx}{st:Stmt}{t:TS}(h:PS X.tT st t):PS X st t:=λa s b H D I c=>dt (h a s b H D (I.tS _) c) (λ_ _ q=>q.j8) λ_ _ z=>False.elim z
theorem JJ.ZV{P:Program}{w:World}{K:Frag}{i:Str->Option Value}{base:Heap}{x b:Str}{st:Stmt}{f:Addr}{j:FuncData}{N ps:List Str}{k:Nat}{sp:Sp}(F:JJ K x b st f j)(S:az N ps (aa st))
 (d:∀vs H Q E,sp vs H Q E->vs.length=ps.length)
 (o:∀(c:Value)(A:Around)(a:List Env)(s:Shared)(H:Hp)(vs:List V)(Q:VK)(E:XK),fy k (A.deeper (envOfC b (aa st) s.heap.objs.size f c))->sp vs H Q E->
   ∃t,Ag (oS P w K i base N b (aa st) f c A a s H E) (aj st) t/\t {nx:=λ_ H'=>Q .bC H',rt:=Q} (start N vs) H):aN P w K i base (dD P w) (k+1) f j ps sp:=by
 obtain⟨u,r,kV,p,q,y,c,v,l,e,m,g⟩:=F.ex;subst e;exact XJ m g S d λA a s H vs Q E n h=>o c A a s H vs Q E n h
theorem aN.XY{P:Program}{w:World}{K:Frag}{c:Str->Option Value}{base:Heap}{k:Nat}{f:Addr}{d:FuncData}{ps:List Str}{sp:Sp}(F:aN P w K c base (dD P w) k f d ps sp):
 aN P w K c base XU k f d ps (λvs H Q _=>sp vs H Q E0):=
 ⟨λvs H Q E h=>F.len vs H Q E0 h,λA a s H b g vs Q E i l j r h=>uj (F.run A a s H b g vs Q E0 i l j r h) λr m z=>by
   cases r with
   |error e=>obtain⟨_,_,_,_,_,q⟩:=z;exact q.elim
   |ok fl=>cases fl<;>exact z⟩
noncomputable def FX(X:Cx)(a:List (Addr×Obj))(σ:St)(E:XK)(e:Value)(s':Shared):Prop:=∃c b,Inv X a σ c b/\dD X.prog X.w X.stack c b E e s'
abbrev TX:=St->Hp->VK->XK->Prop
noncomputable def PX(X:Cx)(e:Expr)(t:TX):Prop:=
 ∀(a:List (Addr×Obj))(s:Shared)(b:St)(H:Hp)(Q:VK)(E:XK),Inv X a b H s->t b H Q E->wpAny (model X.prog X.w) X.A (eval e X.env) (EP X a b Q) (FX X a b E) s
noncomputable def S9(sp:Sp)(t:TA):TX:=λa H Q E=>t a H λb c=>sp b c Q E
section
variable{X:Cx}{k:Nat}{f:Addr}{fd:FuncData}{ps:List Str}{sp:Sp}{x:Str}{p pos:Pos}{e:Expr}{es:List Expr}{t:TA}
theorem Nv(F:aN X.prog X.w X.K X.mg X.base (dD X.prog X.w) k f fd ps sp)(y:fy k X.A)(G:Gl X x)(B:X.mg x=some (.ref f))(D:keepIn X.K (.ref f)=true)(L:Binds X.K fd ps [])
 (M:PA X.tT (e::es) t)(j:(x==("__debug__":Str))=false:=by decide)(J:starEach (e::es) X.env=(false,eval e X.env)::starEach es X.env:=by rfl)(i:(backTo pos (starEach es X.env)).any (·.1)=false:=by rfl):
 PX X (.Call (.Name x p) (e::es) [] pos) (S9 sp t):=by
 intro a s o H Q E I h;refine kA (mJ I G B ?_ j);have N:=M pos a s o H _ (I.tS _) h;refine tI (h₀:=X.base) I.ok.mod.Sa D (dt N (λb c z=>?_) λ_ _ z=>False.elim z) J i;obtain⟨v,n,m,r,q⟩:=z;have g:Inv X a o n c:=m.j8;refine⟨g.oR,?_⟩;have C:b.length=ps.length:=by rw[←r.length];exact F.len _ _ _ _ q
 have l:BindsTo c fd ⟨b,[]⟩ (ps.zip b):=by have:=L c b g.oR (by rw[Kx];exact C);rwa [Kx]at this
 refine wpAny_call (uj (F.run X.A X.stack c n ⟨b,[]⟩ b v Q E y g.SO l r q) λr O d=>?_);cases r with
 |error e=>exact⟨n,c,g,d⟩
 |ok fl=>
  cases fl with
  |ret u=>exact g.after d
  |next=>exact False.elim d
  |brk=>exact False.elim d
  |cont=>exact False.elim d
end
noncomputable def lu(a C:Addr)(h:Heap):Prop:=∃b c,h.get? a=some b/\b.cls=.ref C/\b.data=.fields c/\c[2]?=some Value.none
noncomputable def yC(a C:Addr):HO:=.ext (lu a C)
section
variable{X:Cx}{pins:List (Addr×Obj)}{σ:St}{H:Hp}{s:Shared}
abbrev kj(X:Cx)(a:Addr):Cx:={X with A:=X.A.mark (some (.ref a)),calm:=false,xe:=λ_ _=>False}
theorem Inv.suite(I:Inv X pins σ H s)(a:Addr):Inv (kj X a) pins σ H s:=
 ⟨⟨I.ok.mod,I.ok.kind,I.ok.glob,I.ok.blt,I.ok.above,I.ok.inj,I.ok.has,I.ok.WA,(λz=>by cases z),I.ok.frames,I.ok.stk,I.ok.ZQ,I.ok.bs,I.ok.MR,I.ok.GL,I.ok.GN,I.ok.qK,I.ok.QO,I.ok.tree,I.ok.Xf⟩,I.os,I.bare,I.base,I.loc,I.cell,I.free,I.ja,I.pin,I.hok,I.len⟩
theorem Inv.sU{a:Addr}(b:X.Ok)(I:Inv (kj X a) pins σ H s):Inv X pins σ H s:=
 ⟨b,I.os,I.bare,I.base,I.loc,I.cell,I.free,I.ja,I.pin,I.hok,I.len⟩
theorem Inv.adopt{H1:Hp}{j:Shared}{a:Addr}{f:Heap->Prop}(i:Inv X pins σ H1 j)(L:j.heap.get? a=none)(I:Inv X pins σ H s)(n:H a=none)(p:f s.heap)(J:∃o,s.heap.get? a=some o)
 (st:∀y w:Heap,f y->(∀o,y.get? a=some o->w.get? a=some o)->f w):Inv X pins σ (upd H a (.ext f)) s:=by
 have h:∀b o,j.heap.get? b=some o->b≠a:=λb o z e=>by rw[e,L]at z;cases z
 have g:∀b u,H b=some u->upd H a (.ext f) b=some u:=λb u z=>by rw[ao (aV z n)];exact z
 refine⟨I.ok,I.os,I.bare,⟨I.base.keep,I.base.slot,λb o q m l=>?_,I.base.there,λb k q=>g b _ (I.base.tups b k q),λb o v q=>g b _ (I.base.n5 b o v q),λb E q=>?_⟩,I.loc,I.cell,?_,λx c e=>?_,λp r=>?_,λb u z=>?_,I.len⟩
 ·obtain⟨F,d⟩:=i.base.there b o q l;rw[ao (h b F d)];exact I.base.free b o q m l
 ·obtain⟨G,d⟩:=I.base.oU b E q;exact⟨G,g b _ d⟩
 ·obtain⟨m,K,_⟩:=i.loc;obtain⟨o,_,_,d,_⟩:=K;rw[ao (h _ o d)];exact I.free
 ·obtain⟨v,o,d,_⟩:=i.cell x c e;rw[ao (h _ o d)];exact I.ja x c e
 ·obtain⟨D,C,B⟩:=I.pin p r;refine⟨D,?_,B⟩;obtain⟨A,_⟩:=i.pin p r;rw[ao (h _ _ A)];exact C
 ·by_cases t:b=a
  ·subst t;rw[aD]at z;cases z;exact⟨p,J,st⟩
  ·rw[ao t]at z;exact(I.hok b u z).stay (λ_ _ _ q=>q) (λc q=>g c _ q) λc k q=>g c _ q
theorem name_goes{M:Model}{A:Around}{E:Value->Shared->Prop}{i:Nat}{n:Str}{pos:Pos}{Q:Unit->Shared->Prop}(I:Inv X pins σ H s)(hN:X.N.Nodup)(J:X.N[i]?=some n)(hl:X.env.scope.names.lookup n=some .local)
 (h:∀s',Inv X pins (σ.set i none) H s'->Q () s'):wpAny M A (do bindName X.env n .none;unbindBehindTheSuite X.env n pos) Q E s:=by
 obtain⟨m,G,w⟩:=id I.loc;have l:(X.env.scope.kind==.class||(X.env.scope.kind==.module&&X.env.locals !=X.env.globals))=false:=by rw[I.ok.kind];rfl
 have MZ:i<σ.length:=by rw[I.len];exact(Fs.mp J).1
 have Jh:=I.Jh;refine wpAny_nameGoes_keeps hl G l λh' v t a=>?_;obtain⟨oL,_,_,Z,_⟩:=id G;have C:∀b o,X.s₀.heap.get? b=some o->b≠X.env.locals:=λb o e=>KM (Fk (FS e) I.ok.above);refine h _ ⟨I.ok,I.os,I.bare,⟨λb o e n B g=>?_,λb o e n B g=>?_,I.base.free,λb o e g=>?_,I.base.tups,I.base.n5,I.base.oU⟩,⟨_,t,λj y O f r e3=>?_⟩,λy c e=>?_,I.free,I.ja,λp Y=>?_,?_,by simpa using I.len⟩
 ·exact(a.2 b (C b o e)).trans (I.base.keep b o e n B g)
 ·obtain⟨P,f⟩:=I.base.slot b o e n B g;exact⟨P,(a.2 b (C b o e)).trans f⟩
 ·obtain⟨S,f⟩:=I.base.there b o e g;exact⟨S,(a.2 b (C b o e)).trans f⟩
 ·by_cases x:j=i
  ·subst x;rw[SC MZ]at r;cases r
  ·rw[Kt (RF x)]at r;obtain⟨D,R,q⟩:=w j y O f r e3;refine⟨D,R,?_⟩;rcases q with⟨k,e⟩|⟨k,c,e,z⟩
   ·refine .inl ⟨k,?_⟩;have:y≠n:=λe=>x (tO hN f (e▸J));show(if y=n then v else m y)=some D;rw[Bi this];exact e
   ·exact .inr ⟨k,c,e,z.sameBut a (Jh y c e)⟩
 ·obtain⟨L,z⟩:=I.cell y c e;exact⟨L,z.sameBut a (Jh y c e)⟩
 ·obtain⟨e,U,F,T,d⟩:=I.pin p Y;exact⟨(a.2 p.1 F).trans e,U,F,T,d⟩
 ·exact I.hok.tracked λb u ob z K=>(a.2 b λe=>by rw[e,I.free]at z;cases z).trans K
end
theorem C6{M:Model}{A:Around}{E:Value->Shared->Prop}{K:Frag}{s:Shared}{a C D:Addr}{i:Obj}{Q:Bool->Shared->Prop}(X:K.In s.heap)(w:Ah K C)(e:Ah K D)(n:s.heap.get? a=some i)(c:i.cls=.ref C)
 (b:mroIn K C (.ref D)=some true)(l:Q true s):wpAny M A (excMatches (.ref a) (.ref D)) Q E s:=by
 obtain⟨h,g,d,t,x⟩:=s;obtain⟨O,N,y,v,bs,j,u,k,P,p,L,I,H,G,F,B,z,o,J,m,T⟩:=sR X e.exc;have r:=sT (M:=M) X b;have q:=sT (M:=M) X e.bs;have f:=tc_notTuple;unfold excMatches
 repeat (first|(with_reducible refine wpAny_loadPart_at n ?_;rw[c])|with_reducible refine wpAny_loadPart_at o ?_|exact l|with_reducible refine r.at ?_|with_reducible refine q.at ?_|wp_step)
abbrev Ends.past(D:Ends)(i:Nat):Ends:={nx:=λσ' H'=>D.nx (σ'.set i none) H',rt:=D.rt,bk:=λσ' H'=>D.bk (σ'.set i none) H',ct:=λσ' H'=>D.ct (σ'.set i none) H'}
theorem Inv.XW{X:Cx}{c:List (Addr×Obj)}{σ:St}{H1 f:Hp}{g d e:Shared}{a C:Addr}{B:Heap}{y:Value}(I:Inv X c σ H1 g)(F:Fly X.prog X.w X.stack H1 g f a C d)
 (n:∀b o,d.heap.get? b=some o->b∉frs X.stack->((∃r,g.heap.get? b=some r)\/∃u,f b=some u)->B.get? b=some o)(x:Heap.FlyingW B X.stack a (.ref C) y d.heap)(k:B.StaysIn e.heap)(up:d.heap.UpToSlots e.heap)
 (j:e.os=d.os)(v:e.gens=d.gens):Inv X c σ f e:=by
 have fm:∀b,b∈frs X.stack->∃o,d.heap.get? b=some o/\∀q,o.data≠.fields q:=λb i=>(x.2.2.1.mem i).2;have A:∀b u,f b=some u->b∉frs X.stack:=λb u z m=>by have j:=I.mH b m;obtain⟨o,t,_⟩:=I.stack.mem m|>.2;rw[F.un.free b o t j (by simp)]at z;cases z
 refine I.Ji (ch:=[]) (j.trans F.os) (C3 F.un (λb o z s h=>k b o (n b o z s h)) fm up) (F.hok.tracked λb u l z p=>k b l (n b l p (A b u z) (.inr ⟨u,z⟩))) (by rw[v];exact F.bare) λb i=>absurd i (by simp)
section
variable{prog:Program}{w:World}{A:Around}{E:Value->Shared->Prop}{s:Shared}{K:Frag}{a C:Addr}
theorem ly{M:Model}{h:Heap}(p:lu a C h):PySem.W.Looks M h (typeOf (.ref a)) (.ref C):=by obtain⟨o,d,c,b,e⟩:=p;exact b▸(PySem.W.Looks.ld c).andThen .now
theorem Nx{c:Value}{R:Result->Shared->Prop}(X:K.In s.heap)(p:lu a C s.heap)(q:Ah K C)(h:R (.ok (.ret (.ref C))) s):
 codeAny (model prog w) A (.call (.builtin "getset_descriptor.__get__") ⟨[.builtin "object.__class__",.ref a,c],[]⟩) R s:=by
 obtain⟨e,g,f,t,d⟩:=s;have j:=ly (M:=model prog w) p;have i:=sT (M:=model prog w) X q.ob;have b:=PySem.W.KF.slot_gs;refine codeAny_call_builtin b.plain PySem.W.KF.entry_gs (b.check _ _ _ _ _ _ _ _ PySem.W.KF.type_class (PySem.W.KF.args_gs _ _ _) ?_);unfold Builtin.«getset_descriptor.__get__»;unfold Builtin.Getset_descriptor.descrGet;rw[PySem.W.dga_obj];apply FC;apply NM;unfold Builtin.Getset_descriptor.descrGetter;unfold Builtin.Getset_descriptor.descrCheckInstance;unfold Builtin.Getset_descriptor.descrNameAndClass;unfold isInstance;simp only[PySem.W.KF.owner_class]
 repeat lk
 refine⟨Code.quiet_builtin _ (by decide+kernel),codeAny_builtin PySem.W.KF.entry_class ?_⟩;unfold Builtin.«object.__class__»;unfold shownTypeOf
 repeat lk
 exact h
theorem Hi{b:Tok}{Q:Fin->Shared->Prop}(X:K.In s.heap)(p:lu a C s.heap)(q:Ah K C)(h:Q (.done (.ret (.ref C))) s):
 wpAny (model prog w) A (Builtin.«object.__getattribute__» ⟨[.ref a,.str "__class__" b],[]⟩) Q E s:=by
 obtain⟨d,g,f,t,c⟩:=s;have j:=ly (M:=model prog w) p;have i:=qr (M:=model prog w) X q.cl;have e:(⟨d,g,f,t,c⟩:Shared).TypeIs (.builtin "object.__class__") "getset_descriptor":=F.typeOf_object_class;have m:=F.typeOf_object_class;have l:=F.slot_gs_get.lookup;have k:=F.slot_gs_set.lookup
 repeat (any_goals (first|assumption|with_reducible refine j.at ?_|with_reducible refine i.at ?_|wp_step))
 refine Nx X p q ?_
 repeat (any_goals (first|assumption|wp_step))
theorem Hj{M:Model}{b:Value}{Q:Unit->Shared->Prop}(X:K.In s.heap)(p:lu a C s.heap)(q:Ah K C)(h:Q () s):wpAny M A (checkBuiltinCall "BaseException.__getattribute__" ⟨[.ref a,b],[]⟩) Q E s:=by
 obtain⟨k,g,l,t,i⟩:=s;have f:=ly (M:=M) p;have e:=sT (M:=M) X q.bs;have d:builtinKind "BaseException.__getattribute__"=some .slot:=by decide+kernel
 have c:splitId "BaseException.__getattribute__"=some ("BaseException","__getattribute__"):=by decide+kernel
 have j:=F.args_bexc_ga (.ref a) b;simp only[checkBuiltinCall,d,c];apply FC;unfold isInstance
 repeat (first|with_reducible refine f.at ?_|with_reducible refine e.at ?_|wp_step)
 exact h
theorem JQ{b:Tok}{R:Result->Shared->Prop}(X:K.In s.heap)(p:lu a C s.heap)(q:Ah K C)(h:R (.ok (.ret (.ref C))) s):
 codeAny (model prog w) A (.call (.builtin "BaseException.__getattribute__") ⟨[.ref a,.str "__class__" b],[]⟩) R s:=
 codeAny_call_builtin PySem.F.excAttr_ValueError.ga.plain F.entry_bexc_ga (Hj X p q (Hi X p q h))
theorem Tc{e:Tok}{c b:Bool}{Q:Value->Shared->Prop}(X:K.In s.heap)(p:lu a C s.heap)(q:Ah K C)(h:Q (.ref C) s):wpAny (model prog w) A (getAttrBy (.ref a) (.str "__class__" e) c b) Q E s:=by
 obtain⟨n,g,r,t,m⟩:=s;have j:=ly (M:=model prog w) p;have i:=qr (M:=model prog w) X q.ga;have f:=qr (M:=model prog w) X q.gt;have o:=PySem.F.excAttr_ValueError.ga.bind (.ref a);have l:(b&&onTheHeap (Value.builtin "BaseException.__getattribute__"))=false:=by
  cases b<;>rfl
 have d:(Value.builtin "BaseException.__getattribute__"==Value.builtin "object.__getattribute__")=false:=by decide+kernel
 have k:(onTheHeap (Value.ref C)&&Value.builtin "BaseException.__getattribute__"==Value.builtin "object.__getattribute__")=false:=by rw[d];rfl
 repeat (any_goals (first|assumption|with_reducible refine j.at ?_|with_reducible refine i.at ?_|with_reducible refine f.at ?_|wp_step))
 refine JQ X p q ?_
 repeat (any_goals (first|assumption|wp_step))
theorem Hl{Q:Option Value->Shared->Prop}(X:K.In s.heap)(p:lu a C s.heap)(q:Ah K C)(h:Q (some (.ref C)) {s with toks:=s.toks+1}):wpAny (model prog w) A (getAttr? (.ref a) "__class__") Q E s:=by obtain⟨c,g,d,t,b⟩:=s;unfold getAttr?;unfold getAttrBy?;refine FC (wpAny_mkText (FC (wpAny_attempt (Tc (s:=⟨c,g,d,t+1,b⟩) X p q ?_))));exact NM h
theorem JR(q:Ah K C):PySem.W.KitX K (.ref a) (.ref C) (lu a C)where
 ty:=λM h X p=>ly p
 it:=λM h X p=>by obtain⟨H,N,o,m,G,c,l,d,I,g,F,y,x,v,u,t,r,f,_⟩:=sR X q.exc;intro Q O P L k z;unfold isType;unfold loadHead;exact FC (wpAny_loadPart (k _ _ f) (NM z))
 ne:=λh j F B n J X b=>by obtain⟨H,N,o,m,G,c,l,d,I,g,D,y,x,v,u,t,r,f,_⟩:=sR X q.exc;refine Bool.eq_false_iff.mpr λz=>?_;have e:C=j:=Value.ref.inj (Nw.mp z);subst e;rw[f]at b;have i:=W1 Obj.data (IR b);exact nomatch i
 ca:=λX p h=>Hl X p q h
end
inductive Td:V->Value->Prop where
 |own (D:Addr):Td (.ref D) (.ref D)
 |ty (n:String):Td (.ty n) (.type n)
theorem c9{X:Cx}:e9 X (.builtin "isinstance") (λf H Q=>∃a C c d b,f=[.ref a,c]/\H a=some (yC a C)/\Ah X.K C/\Td c d/\kitOne X.K (.ref C) d=some b/\Q (.bl b) H):=by
 intro i s u H f v Q I r h;obtain⟨a,C,c,d,b,rfl,o,q,m,e,z⟩:=h;obtain⟨k,j,rfl,l,g⟩:=vals2 r;cases(show k=Value.ref a from l);have t:j=d:=by
  cases m with
  |own D=>exact g
  |ty n=>exact g
 subst t;obtain⟨p,_,_⟩:=(show cL X.prog X.w H s.heap a (.ext (lu a C))from I.hok a _ o);exact SF (JR q) I.oR p e (λz=>nomatch z) λx=>⟨.bl b,H,I.tok _,rfl,z⟩
noncomputable def qP(cells:List (Str×Addr)):List (Str×NameKind)->List (Str×Addr)->List (Str×Addr)
 |[],acc=>acc
 |(n,k)::r,acc=>qP cells r (if k=.free then(n,(cells.lookup n).getD 0)::acc else acc)
theorem ug{env:Env}:∀(l:List (Str×NameKind))(a:List (Str×Addr)),(∀p∈l,p.2=.free->∃c,env.cells.lookup p.1=some c)->
 (forIn l a λ(x:Str×NameKind)(cs:List (Str×Addr))=>if(x.2==NameKind.free)=true then(do let c←cellOf env x.1;pure (ForInStep.yield ((x.1,c)::cs)))else(pure (ForInStep.yield cs):Sem _))=pure (qP env.cells l a)
 |[],a,_=>rfl
 |(n,k)::r,a,h=>by
  have ih:=λa=>ug (env:=env) r a λp g=>h p (FR _ g);rw[List.forIn_cons];by_cases b:k=.free
  ·obtain⟨c,i⟩:=h (n,k) FV b;have d:env.cells.lookup n=some c:=i;have e:cellOf env n=pure c:=by unfold cellOf;rw[d]
   have f:(k==NameKind.free)=true:=by simp[b]
   simp only[f,if_true,e,pure_bind,ih];simp only[qP,b,if_true,d,Option.getD_some]
  ·have f:(k==NameKind.free)=false:=by simpa using b
   simp only[f,Bool.false_eq_true,if_false,pure_bind,ih];simp only[qP,b,if_false]
theorem uh{a:Scope}{env:Env}(h:∀p∈a.names,p.2=.free->∃c,env.cells.lookup p.1=some c):closureFor a env=pure (qP env.cells a.names []):=by have:=ug (env:=env) a.names [] h;unfold closureFor;simp only[bind_pure];exact this
theorem AA{cells:List (Str×Addr)}:∀(l:List (Str×NameKind))(a:List (Str×Addr)),(∀p∈l,p.2=.free->∃c,cells.lookup p.1=some c)->(∀y c,a.lookup y=some c->cells.lookup y=some c)->
 ∀y c,(qP cells l a).lookup y=some c->cells.lookup y=some c
 |[],_,_,ha,y,c,h=>ha y c h
 |(n,k)::r,a,hl,ha,y,c,h=>by
  refine AA r _ (λp i=>hl p (FR _ i)) (λz d hz=>?_) y c h;by_cases b:k=.free
  ·rw[Bn b,List.lookup_cons]at hz;obtain⟨m,g⟩:=hl (n,k) FV b;have f:cells.lookup n=some m:=g;split at hz
   ·rename_i e
    have j:z=n:=by simpa using e
    subst j;rw[f]at hz⊢;exact hz
   ·exact ha z d hz
  ·rw[Bi b]at hz;exact ha z d hz
theorem um{cells:List (Str×Addr)}:∀(l:List (Str×NameKind))(a:List (Str×Addr))(y:Str),((a.lookup y).isSome=true\/(y,NameKind.free)∈l)->((qP cells l a).lookup y).isSome=true
 |[],_,_,h=>h.elim id λz=>nomatch z
 |(n,k)::r,a,y,h=>by
  refine um r _ y ?_;by_cases b:k=.free
  ·rw[Bn b,List.lookup_cons];by_cases e:(y==n)=true
   ·left;rw[e];rfl
   ·rw[gd]at e;rw[e];rcases h with h|h
    ·exact .inl h
    ·rcases GT.mp h with h|h
     ·have:y=n:=W1 Prod.fst h;subst this;simp at e
     ·exact .inr h
  ·rw[Bi b];rcases h with h|h
   ·exact .inl h
   ·rcases GT.mp h with h|h
    ·have:NameKind.free=k:=W1 Prod.snd h;exact absurd this.symm b
    ·exact .inr h
theorem xr{cells:List (Str×Addr)}:∀(l:List (Str×NameKind))(a:List (Str×Addr))(y:Str)(c:Addr),(qP cells l a).lookup y=some c->(∃b,a.lookup y=some b)\/(y,NameKind.free)∈l
 |[],_,y,c,h=>.inl ⟨c,h⟩
 |(n,k)::r,a,y,c,h=>by
  rcases xr r _ y c h with⟨b,h'⟩|h'
  ·by_cases d:k=.free
   ·rw[Bn d,List.lookup_cons]at h';split at h'
    ·rename_i e
     have f:y=n:=by simpa using e
     subst f;subst d;exact .inr FV
    ·exact .inl ⟨b,h'⟩
   ·rw[Bi d]at h';exact .inl ⟨b,h'⟩
  ·exact .inr (FR _ h')
theorem lC{env:Env}(d:env.scope.kind=.function):∀(l:List (Str×NameKind))(y:Str),
 (l.map λ(n,k)=>if(k==NameKind.free&&env.scope.kind==.function&&env.kindOf n==some .cell)then(n,NameKind.cell)else(n,k)).lookup y=(l.lookup y).map λk=>if(k==NameKind.free&&env.kindOf y==some .cell)=true then NameKind.cell else k
 |[],_=>rfl
 |(n,k)::r,y=>by
  have ih:=lC d r y;have b:(env.scope.kind==ScopeKind.function)=true:=by rw[d];rfl
  rw[Jn,List.lookup_cons];by_cases e:(y==n)=true
  ·have f:y=n:=by simpa using e
   subst f;by_cases c:(k==NameKind.free&&env.kindOf y==some .cell)=true
   ·have a:(k==NameKind.free&&env.scope.kind==.function&&env.kindOf y==some .cell)=true:=by rw[b,Bool.and_true];exact c
    simp only[a,if_true,List.lookup_cons,uk,Option.map_some,c]
   ·have a:¬(k==NameKind.free&&env.scope.kind==.function&&env.kindOf y==some .cell)=true:=by rw[b,Bool.and_true];exact c
    rw[Bi a];simp only[List.lookup_cons,uk,Option.map_some];rw[Bi c]
  ·rw[gd]at e;by_cases a:(k==NameKind.free&&env.scope.kind==.function&&env.kindOf n==some .cell)=true
   ·simp only[a,if_true,e,List.lookup_cons];exact ih
   ·rw[gd]at a;simp only[a,Bool.false_eq_true,if_false,e,List.lookup_cons];exact ih
noncomputable def gS(sc c:Scope)(N a b:List Str):Bool:=
 sc.kind==.function&&b.all (λx=>sc.names.lookup x==some .local&&!a.contains x)&&
 sc.names.all (λp=>p.2 !=.cell&&(p.2 !=.local||sc.names.lookup p.1==some .local)&&(p.2 !=.free||(c.names.lookup p.1==some .cell&&sc.names.lookup p.1==some .free)))&&
 a.all (λy=>sc.names.lookup y !=some .local)&&(N.length==a.length&&(N.zip a).all (λp=>p.1==p.2||sc.names.lookup p.2==none))
structure jk(sc WE:Scope)(N N' xs:List Str):Prop where
 kind:sc.kind=.function
 own:∀x∈xs,sc.names.lookup x=some .local/\x∉N'
 C7:∀p∈sc.names,p.2≠.cell
 loc:∀p∈sc.names,p.2=.local->sc.names.lookup p.1=some .local
 free:∀p∈sc.names,p.2=.free->WE.names.lookup p.1=some .cell/\sc.names.lookup p.1=some .free
 out:∀y∈N',sc.names.lookup y≠some .local
 len:N.length=N'.length
 pair:∀(i:Nat)(y:Str),N'[i]?=some y->sc.names.lookup y≠none->N[i]?=some y
theorem jk.of{sc l:Scope}{N b d:List Str}(h:gS sc l N b d=true):jk sc l N b d:=by
 unfold gS at h;simp only[BM,IH,rp,bne_iff_ne,Nw,ox,ne_eq]at h;obtain⟨⟨⟨⟨s,k⟩,c⟩,r⟩,q,o⟩:=h;refine⟨s,λx g=>⟨(k x g).1,λz=>?_⟩,λp a=>(c p a).1.1,λp a e=>?_,λp a e=>?_,r,q,λi y f m=>?_⟩
 ·have:=(k x g).2;rw[List.contains_eq_mem]at this;simp[z]at this
 ·rcases(c p a).1.2 with z|z
  ·exact absurd e z
  ·exact z
 ·rcases(c p a).2 with z|z
  ·exact absurd e z
  ·exact z
 ·have t:i<b.length:=(Fs.mp f).1;have j:N[i]?=some (N[i]'(by lia)):=B1 (by lia);have n:(N[i]'(by lia),y)∈N.zip b:=by refine KB (i:=i) ?_;rw[List.getElem?_zip_eq_some];exact⟨j,f⟩
  rcases o _ n with z|z
  ·rw[j];exact W1 some z
  ·exact absurd z m
noncomputable def bG(X:Cx)(a:Scope)(C:Addr)(b d:List Str)(s:Shared)(H:Hp)(c:List Addr):Cx:=
 {X with N:=b++d,s₀:=s,H₀:=H,env:=compEnvC a (qP X.env.cells a.names []) C X.env,outer:=X.stack,stack:=X.stack,ex:=c,fn:=λy=>b.contains y,pn:=[],xe:=λ_ _=>False}
section
variable{X:Cx}{pins:List (Addr×Obj)}{σ:St}{H:Hp}{s:Shared}{scope:Scope}{xs N':List Str}{fp:List Addr}
theorem oj(I:Inv X pins σ H s)(O:jk scope X.env.scope X.N N' xs):∀p∈scope.names,p.2=.free->∃c,X.env.cells.lookup p.1=some c:=λp a e=>I.ok.has p.1 (.inl (O.free p a e).1)
theorem jC(I:Inv X pins σ H s)(O:jk scope X.env.scope X.N N' xs)(y:Str):(relabel scope X.env).names.lookup y=(scope.names.lookup y).map λk=>if k=.free then NameKind.cell else k:=by
 unfold relabel;show(List.map _ scope.names).lookup y=_;rw[lC I.ok.kind];cases e:scope.names.lookup y with
 |none=>rfl
 |some k=>
  rw[Option.map_some,Option.map_some];by_cases a:k=.free
  ·subst a;have:=(O.free (y,.free) (QQ e) rfl).1;have b:X.env.kindOf y=some .cell:=this;rw[b];rfl
  ·rw[Bi a,Bi (by simp[a])]
theorem JS{n:Heap}{S:Nat}(I:Inv X pins σ H s)(O:jk scope X.env.scope X.N N' xs)(B:∀b∈fp,t6 X pins H b)(F:∀b∈fp,b<s.heap.objs.size){P:Str->Option Value}
 (Z:n.Ns s.heap.objs.size P)(g:∀b o,s.heap.get? b=some o->n.get? b=some o):
 Inv (bG X scope s.heap.objs.size xs N' s H fp) [] (xs.map (λ_=>none)++σ) H {s with heap:=n,toks:=S}:=by
 have f:=AA (cells:=X.env.cells) scope.names [] (oj I O) (λy c z=>nomatch z);refine⟨⟨I.ok.mod,?_,I.ok.glob,I.ok.blt,Do _,λx y c n J=>I.ok.inj x y c (f x c n) (f y c J),λy D=>?_,λy c n J=>?_,I.ok.hd,I.ok.frames,.inl rfl,λb j=>⟨KM (F b j),λx c e=>(B b j).2.2.2.2.1 x c (f x c e)⟩,
  I.bs,Da I.ok.MR I.sz,λb o e j=>?_,λb j z=>?_,I.stack,I.mH,I.ok.tree,I.ok.Xf⟩,rfl,I.bare,Un.kept g,⟨P,Z,λi y v e1 h e3=>?_⟩,λy c e=>?_,I.hok.fresh (Do _),λy c e=>I.ja y c (f y c e),λp U=>absurd (show p∈([]:List (Addr×Obj))from U) (by simp),I.hok.kept g,?_⟩
 ·show scope.kind=_;exact O.kind
 ·have d:(relabel scope X.env).names.lookup y=some .cell\/(relabel scope X.env).names.lookup y=some .free:=D;rw[jC I O]at d;have a:scope.names.lookup y=some .free:=by
   cases e:scope.names.lookup y with
   |none=>rw[e]at d;rcases d with z|z<;>cases z
   |some k=>
    rw[e]at d;by_cases g:k=.free
    ·rw[g]
    ·rw[Option.map_some,Bi g]at d;rcases d with z|z
     ·have:k=.cell:=IR z;exact absurd this (O.C7 (y,k) (QQ e))
     ·exact absurd (IR z) g
  exact aw.mp (um scope.names [] y (.inr (QQ a)))
 ·have G:(qP X.env.cells scope.names []).lookup y=some c:=J;have D:y∈xs:=by have ZW:xs.contains y=true:=n;simpa using ZW
  rcases xr scope.names [] y c G with⟨_,z⟩|z
  ·cases z
  ·have M:=(O.free (y,.free) z rfl).2;rw[(O.own y D).1]at M;cases M
 ·have R:X.base.get? b=some o:=e;rcases(B b j).2.2.2.1 with z|z
  ·exact I.ok.GL b o R z
  ·exact absurd (Fk (FS R) (Da I.ok.MR z)) (OK _)
 ·rcases GT.mp (I.CC b z)with q|q
  ·exact(B b j).2.1 q
  ·exact(B b j).2.2.1 q
 ·have L:(xs++N')[i]?=some y:=e1;by_cases Q:i<xs.length
  ·rw[He (by simpa using Q),DD]at h;cases q:xs[i]? with
   |none=>rw[q]at h;cases h
   |some z=>rw[q]at h;cases h
  ·rw[Fu (by simpa using Q)]at h;rw[Fu (by lia)]at L;rw[AN]at h;have C:y∈N':=KB L;have t:Wz (relabel scope X.env) y:=e3;unfold Wz at t;rw[jC I O]at t;have a:scope.names.lookup y=some .free:=by
    cases e:scope.names.lookup y with
    |none=>rw[e]at t;rcases t with z|z|z<;>cases z
    |some k=>
     rw[e]at t;by_cases g:k=.free
     ·rw[g]
     ·rw[Option.map_some,Bi g]at t;rcases t with z|z|z
      ·have:k=.local:=IR z;subst this;exact absurd e (O.out y C)
      ·have:k=.cell:=IR z;exact absurd this (O.C7 (y,k) (QQ e))
      ·exact absurd (IR z) g
   have A:=(O.free (y,.free) (QQ a) rfl).1;obtain⟨m,Y,hl⟩:=I.loc;have K:=O.pair _ y L (by rw[a];simp);obtain⟨u,r,l⟩:=hl _ y v K h (.inr (.inl A));refine⟨u,r,?_⟩;rcases l with⟨T,_⟩|⟨_,c,hc,o,E,hd⟩
   ·have:X.env.scope.names.lookup y=some .local:=T;rw[A]at this;cases this
   ·refine .inr ⟨.inl ?_,c,?_,o,g c o E,hd⟩
    ·show(relabel scope X.env).names.lookup y=_;rw[jC I O,a];rfl
    ·obtain⟨c',w⟩:=aw.mp (um (cells:=X.env.cells) scope.names [] y (.inr (QQ a)));have q:=f y c' w;rw[hc]at q;show(qP X.env.cells scope.names []).lookup y=some c;rw[w,←IR q]
 ·obtain⟨v,o,E,hd⟩:=I.cell y c (f y c e);exact⟨v,o,g c o E,hd⟩
 ·show(xs.map (λ_=>none)++σ).length=(xs++N').length;rw[Ee,Ee,AN,I.len,O.len]
end
noncomputable def PF(X:Cx)(d:List Expr)(t:TT):Prop:=
 ∀(a:List (Addr×Obj))(s:Shared)(b:St)(H:Hp)(Q:Bool->Hp->Prop),Inv X a b H s->t b H Q->
  wpAny (model X.prog X.w) X.A (forIn d true λc r=>if r=true then do let ok←isTrue c X.env (eval c X.env);pure (ForInStep.yield ok)else pure (ForInStep.yield r)) (TP X a b Q) X.xe s
noncomputable def aaN:TT:=λ_ H Q=>Q true H
theorem Tf{X:Cx}:PF X [] aaN:=λ_ _ _ H _ I h=>wpAny_tests_nil ⟨H,I,h⟩
theorem Tg{X:Cx}{c:Expr}{t:TT}(h:PT X c t):PF X [c] t:=λa s b H Q I q=>wpAny_tests_one (h a s b H Q I q)
noncomputable def JT(k:Nat)(q:TI)(g:TG)(tc:TT)(te:TE):TE:=λe H Q=>q e H λJ p=>∀D,p D=none->∃W:Nat->Nat->Hp->Prop,(∃m,W 0 m (upd p D (.lst [])))/\∀i m d,W i m d->
 (J.stop i d/\Q (.ref D) d)\/(J.go i d/\∀x o,J.Xq i d x o->∀j:List (Option V),j.length=k->g x (j++e) o λa r=>∃h:List (Option V),h.length=k/\a=h++e/\
   tc a r λb n=>if b=true then te a n λy l=>∃f,l D=some (.lst f)/\f.length<sizeLine/\∃c,c<m/\W (i+1) c (upd l D (.lst (f++[y])))else∃c,c<m/\W (i+1) c n)
theorem yD{prog:Program}{w:World}{A:Around}{R:Result->Shared->Prop}{s:Shared}{u a l:Expr}{q:List Expr}{f:Scope}{pos:Pos}{E y:Value}{env:Env}(I:Nat->Shared->Prop)
 (z:∀n s,I n s->wpAny (model prog w) A (pyNext E) (λr e=>match r with
   |none=>R (.ok .next) e
   |some v=>wpAny (model prog w) A (letOwnedTupleGo a E v) (λ_ d=>wpAny (model prog w) A (assign a env v) (λ_ k=>
     wpAny (model prog w) A (forIn q true λc r=>if r=true then do let ok←isTrue c env (eval c env);pure (ForInStep.yield ok)else pure (ForInStep.yield r)) (λok b=>
      if ok=true then wpAny (model prog w) A (eval u env) (λx j=>wpAny (model prog w) A (call (.builtin "list.append") [y,x]) (λ_ i=>∃m,m<n/\I m i) (λ_ _=>False) j) (λ_ _=>False) b
      else∃m,m<n/\I m b) (λ_ _=>False) k) (λ_ _=>False) d) (λ_ _=>False) e) (λ_ _=>False) s)
 (n:Nat)(h:I n s):
 codeAny (model prog w) A (.compLoop (.ListComp u [⟨a,l,q,0⟩] f pos) 0 E y env) R s:=by
 refine codeAny_loop rfl I (λn s F=>?_) n h;show wpAny _ A ((compTurn (.ListComp u [⟨a,l,q,0⟩] f pos) 0 E y env).onRaise (λx=>do noteFrame x env;theTreesLotGoes x)) _ _ s;refine wpAny_noted ?_;rw[compTurn_list];refine FC (xI (FC (dt (z n s F) (λr e p=>?_) λ_ _ g=>g.elim)));cases r with
 |none=>exact NM p
 |some v=>
  refine FC (dt p (λ_ d t=>?_) λ_ _ g=>g.elim);refine FC (dt t (λ_ k D=>FC (dt D (λok b o=>?_) λ_ _ g=>g.elim)) λ_ _ g=>g.elim);cases ok with
  |false=>exact NM ⟨rfl,o⟩
  |true=>exact FC (FC (dt o (λx j C=>FC (dt C (λ_ i B=>NM (NM ⟨rfl,B⟩)) λ_ _ g=>g.elim)) λ_ _ g=>g.elim))
section
variable{X:Cx}
theorem uo{tg M elt:Expr}{Z:List Expr}{scope:Scope}{t G:List Str}{pos:Pos}{g:TG}{tc:TT}{te:TE}(hc:X.calm=true)(O:jk scope X.env.scope X.N G t)
 (hg:∀C s0 H0 l,PG (bG X scope C t G s0 H0 l) tg g)(hf:∀C s0 H0 l,PF (bG X scope C t G s0 H0 l) Z tc)(he:∀C s0 H0 l,PE (bG X scope C t G s0 H0 l) elt te)
 {v:List (Addr×Obj)}{σ:St}{H1:Hp}{f:Shared}{it:Addr}{l:List Addr}{tn:Nat->Heap->Prop}{J:It}{Q:VK}{E:Value->Shared->Prop}{RR:Value->Addr->Result->Shared->Prop}
 (I2:Inv X v σ H1 f)(T:Turn X.prog X.w X.K tg J l it tn)(st2:tn 0 f.heap)(f2:∀b∈l,t6 X v H1 b)
 (h:∀D,H1 D=none->∃W:Nat->Nat->Hp->Prop,(∃m,W 0 m (upd H1 D (.lst [])))/\∀i m H2,W i m H2->
   (J.stop i H2/\Q (.ref D) H2)\/(J.go i H2/\∀x H3,J.Xq i H2 x H3->∀B:List (Option V),B.length=t.length->g x (B++σ) H3 λR H4=>∃I:List (Option V),I.length=t.length/\R=I++σ/\
     tc R H4 λb H=>if b=true then te R H λy H6=>∃ys,H6 D=some (.lst ys)/\ys.length<sizeLine/\∃F,F<m/\W (i+1) F (upd H6 D (.lst (ys++[y])))else∃F,F<m/\W (i+1) F H))
 (hRR:∀D C s' H',(∃m,s'.heap.Ns C m)->(∀h',Heap.SameBut C s'.heap h'->Inv X v σ H' {s' with heap:=h'})->f.heap.objs.size<=D->f.heap.objs.size<=C->H' C=none->Q (.ref D) H'->RR (.ref D) C (.ok .next) s'):
 wpAny (model X.prog X.w) X.A (newList []) (λacc s₃=>wpAny (model X.prog X.w) X.A (newFunctionEnv scope X.env.globals (qP X.env.cells scope.names []) [] X.env.qual none .none (some X.env)) (λP s₄=>codeAny (model X.prog X.w) X.A (.compStart (.ListComp elt [⟨tg,M,Z,0⟩] scope pos) 0 (.ref it) acc {P with scope:=relabel scope X.env}) (RR acc P.locals) s₄) E s₃) E f:=by
 refine pk (wpAny_newFunctionEnv O.C7 (by intro y hy;simp at hy) (λs JU JV=>?_) O.kind);dsimp only at JU JV⊢;have hD:H1 f.heap.objs.size=none:=I2.hok.fresh (Do _);obtain⟨W,⟨m0,w0⟩,turn⟩:=h f.heap.objs.size hD;have I3:Inv X v σ (upd H1 f.heap.objs.size (.lst [])) {f with heap:=f.heap.push {cls:=.type "list",dict:=none,data:=.seq ([]:List Value).toArray}}:=
  I2.laid (t':=f.toks) (λb u e=>DL _ e) (Do _) ⟨Mo _,[],0,.nil,Hb _ rfl⟩
 have Y:∀b∈l,b<f.heap.objs.size:=λb j=>by obtain⟨o,e,_⟩:=T.obj _ _ st2 b j;exact FS e
 have f3:∀b∈l,t6 X v (upd H1 f.heap.objs.size (.lst [])) b:=λb j=>by obtain⟨q0,q⟩:=f2 b j;exact⟨by rw[ao (KM (Y b j))];exact q0,q⟩
 generalize WG:({f with heap:=f.heap.push {cls:=.type "list",dict:=none,data:=.seq ([]:List Value).toArray}}:Shared)=k at I3;have xu:k.heap=f.heap.push {cls:=.type "list",dict:=none,data:=.seq ([]:List Value).toArray}:=by rw[←WG]
 have hsz:k.heap.objs.size=f.heap.objs.size+1:=by rw[xu,Heap.size_push]
 have old:∀b o,k.heap.get? b=some o->s.get? b=some o:=λb o e=>JV.extBut b o (by rw[←xu];exact KM (FS e)) (DL _ (by rw[←xu];exact e));have J4:Inv (bG X scope k.heap.objs.size t G k (upd H1 f.heap.objs.size (.lst [])) l) [] (t.map (λ_=>none)++σ) (upd H1 f.heap.objs.size (.lst [])) {k with heap:=s,toks:=f.toks+([]:List (Str×Value)).length}:=
  JS I3 O f3 (λb j=>by rw[hsz];exact Ta (Y b j)) (by rw[xu];exact JU) old
 have es4:({k with heap:=s,toks:=f.toks+([]:List (Str×Value)).length}:Shared)={f with heap:=s,toks:=f.toks+([]:List (Str×Value)).length}:=by rw[←WG]
 rw[es4]at J4;have st4:tn 0 s:=T.keep _ _ _ st2 λb j o e=>old b o (by rw[xu];exact DL _ e);have hC:(f.heap.push {cls:=.type "list",dict:=none,data:=.seq ([]:List Value).toArray}).objs.size=k.heap.objs.size:=by rw[xu]
 have fpC:∀{H':Hp},(∀b∈l,H' b=none)->∀b∈l,t6 (bG X scope k.heap.objs.size t G k (upd H1 f.heap.objs.size (.lst [])) l) [] H' b:=λhn b j=>⟨hn b j,KM (by rw[hsz];exact Ta (Y b j)),J4.ok.GN b j,.inl j,λx c e=>((J4.ok.ZQ b j).2 x c e),λp hp=>absurd (show p∈([]:List (Addr×Obj))from hp) (by simp)⟩;have L:codeAny (model X.prog X.w) X.A (.compLoop (.ListComp elt [⟨tg,M,Z,0⟩] scope pos) 0 (.ref it) (.ref f.heap.objs.size) (compEnvC scope (qP X.env.cells scope.names []) k.heap.objs.size X.env))
  (RR (.ref f.heap.objs.size) k.heap.objs.size) {f with heap:=s,toks:=f.toks+([]:List (Str×Value)).length}:=by
  refine yD (λn s'=>∃(i:Nat)(B:List (Option V))(H':Hp),B.length=t.length/\Inv (bG X scope k.heap.objs.size t G k (upd H1 f.heap.objs.size (.lst [])) l) [] (B++σ) H' s'/\tn i s'.heap/\(∀b∈l,H' b=none)/\W i n H') ?_ m0
   ⟨0,t.map (λ_=>none),_,AN _,J4,st4,λb j=>(f3 b j).1,w0⟩
  rintro n s5 ⟨i,B,H,hv0,I5,WC,ZT,w5⟩;rcases turn i n H w5 with⟨stop,qn⟩|⟨go,step⟩
  ·refine cM (T.done (bG X scope k.heap.objs.size t G k (upd H1 f.heap.objs.size (.lst [])) l) rfl rfl rfl hc i [] s5 (B++σ) H _ I5 (fpC ZT) WC stop) ?_;rintro r s6 ⟨hr,I6⟩;subst hr;obtain⟨m,hnm,_⟩:=I6.loc;refine hRR _ _ s6 H ⟨m,hnm⟩ (λh' Q0=>?_) (Do _) (by rw[hsz];exact Nat.le_succ _) I6.free qn;have U:∀b o,k.heap.get? b=some o->b≠k.heap.objs.size:=λb o e=>KM (FS e);have u:=I6.base;have I3':=I3.Ji (s':={s6 with heap:=h'}) (H':=H) (ch:=l) I6.os ⟨λb o e n j hx=>Q0.extBut b _ (U b o e) (u.keep b o e n j hx),λb o e n j hx=>by
    obtain⟨sl,q⟩:=u.slot b o e n j hx;exact⟨sl,Q0.extBut b _ (U b o e) q⟩,u.free,λb o e hx=>by
    obtain⟨o',q⟩:=u.there b o e hx;exact⟨o',Q0.extBut b _ (U b o e) q⟩,u.tups,u.n5,u.oU⟩ (λa o e=>?_) I6.bare (λb j=>?_)
   ·exact I3'
   ·have hnC:∀b u,H b=some u->b≠k.heap.objs.size:=λb u e z=>by subst z;have:=I6.free;have e2:H k.heap.objs.size=none:=this;rw[e2]at e;cases e
    refine(I6.hok a o e).stay (λb u j q=>Q0.extBut b u ?_ q) (λ_ q=>q) λ_ _ q=>q;rcases j with rfl|j
    ·exact hnC _ _ e
    ·exact hnC _ _ j
   ·obtain⟨q0,q1,q2,q3,q4,q5⟩:=f3 b j;exact⟨q3,q1,q4,q5⟩
  ·refine cM (T.item (bG X scope k.heap.objs.size t G k (upd H1 f.heap.objs.size (.lst [])) l) rfl rfl rfl hc i [] s5 (B++σ) H _ I5 (fpC ZT) WC go) ?_;rintro r s6 ⟨u,hr,h6⟩;subst hr;refine cM h6 ?_;rintro _ s7 ⟨x,H7,I7,r7,y7,S,fr7⟩;have I7':=I7.pinned (fpC fr7) (T.obj _ _ S);refine cM (hg _ _ _ _ _ s7 (B++σ) H7 x u _ I7' r7 (step x H7 y7 B hv0)) ?_;rintro _ s8 ⟨σ8,H8,I8,I,hv1,e8,q8⟩;subst e8;have fin:∀{s9:Shared}{H9:Hp},Inv (bG X scope k.heap.objs.size t G k (upd H1 f.heap.objs.size (.lst [])) l) ([]++t7 l s7.heap) (I++σ) H9 s9->(∃F,F<n/\W (i+1) F H9)->
    ∃m,m<n/\∃(i:Nat)(B:List (Option V))(H':Hp),B.length=t.length/\Inv (bG X scope k.heap.objs.size t G k (upd H1 f.heap.objs.size (.lst [])) l) [] (B++σ) H' s9/\tn i s9.heap/\(∀b∈l,H' b=none)/\W i m H':=λ{s9 H9} I9 ⟨F,hm,w9⟩=>by
    refine⟨F,hm,i+1,I,H9,hv1,I9.oV,T.keep _ _ _ S λb j o e=>(I9.pin (b,o) (Hn _ (Hn _ (j9 j e)))).1,λb j=>?_,w9⟩;obtain⟨o,e,d⟩:=T.obj _ _ S b j;exact(I9.pin (b,o) (Hn _ (Hn _ (j9 j e)))).2.1
   refine cM (hf _ _ _ _ _ s8 (I++σ) H8 _ I8 q8) ?_;rintro ok s9 ⟨H9,I9,q9⟩;cases ok with
   |false=>exact fin I9 q9
   |true=>show wpAny _ _ _ _ _ _;refine cM (he _ _ _ _ _ s9 (I++σ) H9 _ I9 q9) ?_;rintro y s10 ⟨vy,H10,I10,r10,ys,hys,hl,q10⟩;refine cM (qN (X:=bG X scope k.heap.objs.size t G k (upd H1 f.heap.objs.size (.lst [])) l) _ s10 (I++σ) H10 (.ref f.heap.objs.size) [vy] _ [y] (λ_ H'=>∃F,F<n/\W (i+1) F H') I10 rfl (.cons r10 .nil) ⟨_,ys,vy,rfl,rfl,hys,hl,q10⟩) ?_;rintro _ s11 ⟨_,H11,I11,_,q11⟩;exact fin I11 q11
 rw[hC];exact codeAny_compStart_list L (T.self X.A 0 _ _ _ st4 L)
theorem Nz{tg a j:Expr}{i:List Expr}{scope:Scope}(d l:List Str){pos:Pos}{r:TI}{g:TG}{tc:TT}{te:TE}(L:X.calm=true)(y:gS scope X.env.scope X.N l d=true)(E:PI X tg a r)
 (F:∀C f k c,PG (bG X scope C d l f k c) tg g)(G:∀C f k c,PF (bG X scope C d l f k c) i tc)(K:∀C f k c,PE (bG X scope C d l f k c) j te)
 (u:∀z,foldedSetIterable a X.env z=pure z:=by intro _;rfl):PE X (.ListComp j [⟨tg,a,i,0⟩] scope pos) (JT d.length r g tc te):=by
 intro b s p H Q I h;have O:=jk.of y;rw[eval_ListComp];refine wpAny_comprehension_free (use:=none) rfl u (uh (oj I O)) O.kind O.loc (cM (E b s p H _ I h) λv s1 R=>cM R λt s2 P=>?_);obtain⟨it,c,tn,J,H2,e,Z,T,n,U,x⟩:=P;subst e;refine uo (RR:=λo C=>compPost (model X.prog X.w) X.A X.xe none (EP X b p Q) o C) L O F G K Z T n U x ?_;rintro D C s' H' ⟨m,B⟩ M _ _ _ q;exact⟨m,B,λS Y=>⟨.ref D,H',M S Y,rfl,q⟩⟩
end
theorem xw{bs:List Bool}:∀{us:List Value},Vals (bs.map V.bl) us->us=bs.map Value.bool:=by
 induction bs with
 |nil=>intro us r;rw[Xt]at r;cases r;rfl
 |cons b bs d=>
  intro us r;rw[Jn]at r;cases r with
  |cons c a=>have e:_=Value.bool b:=c;rw[e,d a];rfl
theorem C8(bs:List Bool):((List.range bs.length).all λi=>(bs[i]?).getD true)=bs.all id:=by
 rw[me,IH,IH];constructor
 ·intro h b d;obtain⟨i,c,rfl⟩:=TK d;have:=h i (cm.mpr c);simp only[B1 c,Option.getD_some]at this;exact this
 ·intro h i c;have a:=cm.mp c;simp only[B1 a,Option.getD_some];exact h _ (Qr a)
section
variable{X:Cx}
theorem Ho(k:X.calm=true):e9 X (.builtin "sum") (λa H Q=>∃(p:Addr)(ns:List Int),a=[.ref p]/\kI X.K H p (ns.map V.int)/\Q (.int ns.sum) H):=by
 intro d s o H a t Q I r h;obtain⟨p,ns,rfl,l,q⟩:=h;obtain⟨u,rfl,g⟩:=Vals.one r;cases(show u=Value.ref p from g);obtain⟨b,rv,i,_⟩:=I.list l;have f:=intsAre_of rv;obtain⟨a,e⟩:=f.allInts.items;have c:s.heap.IsList p (intItems a):=e▸i.isList;refine sum_intListG (I.ok.hd k) c λx v w j=>?_;have n:ns=a.toList.map (·.1):=by rw[←nums_intItems,←e];exact(show numsOf b.toArray.toList=ns from f.numsOf).symm
 have m:preSum (numAt a) a.size=ns.sum:=by rw[preSum_eq,wt (by simp),n]
 rw[m];exact⟨.int ns.sum,H,I.kept j,⟨_,rfl⟩,q⟩
theorem Hq(x:X.calm=true):e9 X (.builtin "all") (λg H Q=>∃(p:Addr)(bs:List Bool),g=[.ref p]/\kI X.K H p (bs.map V.bl)/\Q (.bl (bs.all id)) H):=by
 intro j s D H g E Q I r h;obtain⟨p,bs,rfl,y,q⟩:=h;obtain⟨u,rfl,m⟩:=Vals.one r;cases(show u=Value.ref p from m);obtain⟨a,rv,n,_⟩:=I.list y;have k:=xw rv;have f:=n.isList;have d:p<s.heap.objs.size:=by obtain⟨_,e,_⟩:=f;exact FS e
 refine call_all_walk (wpAny_pyIter_list f ?_);refine⟨s.heap.objs.size,[s.heap.objs.size,p],[s.heap.objs.size],a.toArray.size,_,_,λi=>(bs[i]?).getD true,rfl,Walks.list (A:=X.A.in1) (I.ok.hd x) _ p (KM d) a.toArray,
  ⟨⟨_,Hb _ rfl,rfl,rfl⟩,f.push _⟩,λi v G L M B l=>?_,λJ F w=>?_⟩
 ·have c:a[i]?=some v:=by simpa using B
  rw[k,DD]at c;cases e:bs[i]? with
  |none=>rw[e]at c;cases c
  |some b=>rw[e]at c;simp only[e,Option.getD_some]at l;have:v=Value.bool b:=(IR c).symm;subst this;exact gL l
 ·have e:((List.range a.toArray.size).all λi=>(bs[i]?).getD true)=bs.all id:=by
   have C:a.toArray.size=bs.length:=by rw[Fm,k,AN]
   rw[C];exact C8 bs
  rw[e];exact⟨.bl _,H,I.kept λb o z=>w b o (λt=>by rw[Fn.mp t]at z;exact OK _ (FS z)) (DL _ z),rfl,q⟩
theorem NB{i:Nat}{x:Str}{tg f r:Expr}{k:List Expr}{scope:Scope}{d pos t:Pos}(G R:List Str){wi:TI}{g:TG}{tc:TT}{te:TE}(hN:X.N.Nodup)(hi:X.N[i]?=some x)(B:Loc X.env.scope x)(hc:X.calm=true)(ho:gS scope X.env.scope X.N R G=true)(XZ:PI X tg f wi)
 (hg:∀C L P K,PG (bG X scope C G R L P K) tg g)(hf:∀C L P K,PF (bG X scope C G R L P K) k tc)(he:∀C L P K,PE (bG X scope C G R L P K) r te)
 (hsw:swapsWith (.ListComp r [⟨tg,f,k,0⟩] scope pos) (some (.Name x d)) t.line X.env=pure true:=by rfl)
 (hs:∀z,foldedSetIterable f X.env z=pure z:=by intro _;rfl)(hfn:X.fn x=true\/X.env.scope.names.lookup x=some .local:=by first|exact .inl rfl|exact .inr rfl|assumption):
 PS X (.Assign [.Name x d] (.ListComp r [⟨tg,f,k,0⟩] scope pos) t) (tW (JT G.length wi g tc te) (kJ i)):=by
 intro j s S H W I h;have O:=jk.of ho;rw[exec_Assign_Name_used _ _ _ _ hsw];refine FC (xI (FC ?_));show wpAny _ X.A (do let _←comprehension (.ListComp r [⟨tg,f,k,0⟩] scope pos) scope X.env _ (newList []) false (eval f X.env) (some (assign (.Name x d) X.env))) _ _ s;refine FC (dt (wpAny_comprehension_free (use:=some (assign (.Name x d) X.env)) (Q:=λ_ s'=>SP X j W .next s') rfl hs (uh (oj I O)) O.kind O.loc (cM (XZ j s S H _ I h) λv s1 h1=>cM h1 λitv s2 h2=>?_)) (λ_ s' hq=>NM (NM hq)) λ_ _ e=>e);obtain⟨it,K,tn,J,H2,e,M,T,U,f2,hq⟩:=h2;subst e;refine uo (Q:=λx H1=>kJ i x S H1 W.nx) (RR:=λacc C=>compPost (model X.prog X.w) X.A X.xe (some (assign (.Name x d) X.env)) (λ_ s'=>SP X j W .next s') acc C) hc O hg hf he M T U f2 hq ?_;rintro D C s' H' ⟨m,hm⟩ hI _ hC fC q;have I':Inv X j S H' s':=hI s'.heap ⟨rfl,λ_ _=>rfl⟩;have Z:∀b o,s2.heap.get? b=some o->b≠C:=λb o e=>KM (Fk (FS e) hC);have nL:C≠X.env.locals:=λe=>by obtain⟨m2,hn2,_⟩:=M.loc;obtain⟨o,_,_,ho2,_⟩:=hn2;exact Z _ o ho2 e.symm
 have nC:∀y c,X.env.cells.lookup y=some c->c≠C:=λy c e z=>by obtain⟨v,o,e1,_⟩:=M.cell y c e;exact Z _ o e1 z
 have nP:∀p∈X.pn++j,p.1≠C:=λp hp z=>Z _ _ (M.pin p hp).1 z;show wpAny _ X.A (assign (.Name x d) X.env (.ref D)) _ _ _;refine wpAny_assign_Name (w6 I' hN hi B (v:=.ref D) rfl (λY F hsm=>?_) hfn);obtain⟨a,Q0,ha⟩:=hsm;have aC:a≠C:=by
  rcases ha with rfl|ha
  ·exact RF nL
  ·exact nC x a ha
 refine⟨m,hm.sameBut Q0 (RF aC),λh' l=>⟨_,H',?_,q⟩⟩;refine F.Ji (s':={Y with heap:=h'}) (H':=H') (ch:=[C]) rfl ⟨λb o e n E B=>l.extBut b o (λz=>B (by rw[z];exact Fn.mpr rfl)) e,λb o e n E B=>⟨o.slots,l.extBut b o (λz=>B (by rw[z];exact Fn.mpr rfl)) e⟩,λb o e n B=>n,λb o e B=>⟨o,l.extBut b o (λz=>B (by rw[z];exact Fn.mpr rfl)) e⟩,λb G q=>q,λb o u q=>q,λb ps q=>⟨#[],by rw[Array.append_empty];exact q⟩⟩ (λa o e=>?_) F.bare (λb E=>?_)
 ·refine(F.hok a o e).stay (λb u E q=>l.extBut b u ?_ q) (λ_ q=>q) λ_ _ q=>q;rintro rfl;rcases E with rfl|E
  ·rw[fC]at e;cases e
  ·rw[fC]at E;cases E
 ·rw[Fn.mp E];exact⟨.inr (Da M.sz hC),nL,λy c e z=>nC y c e z,nP⟩
theorem NC:MtR X "int.bit_length" (λx b H Q=>∃i:Int,x=.int i/\b=[]/\Q (.int (Builtin.Int.intBits i:Nat)) H):=by intro a s c H x b v e Q I d rv h;obtain⟨i,rfl,rfl,q⟩:=h;obtain⟨t,rfl⟩:=d;cases rv;exact call_gives F.slot_int_bit_length (typeIs_int s i t) F.entry_int_bit_length (F.args_int_bit_length_1 _) (PySem.AutoIntG2.int_bit_length_int_0 i t) (show EP X a c Q (.int _ _) _ from⟨.int _,H,I.tok _,⟨_,rfl⟩,q⟩)
noncomputable def ZX(a st:Int)(n:Nat):It:=⟨λi _=>i<n,λi H x b=>b=H/\x=.int (a+i*st),λi _=>n<=i⟩
theorem AB{P:Program}{w:World}{K:Frag}{tg:Expr}(c:Addr)(j st:Int)(n:Nat):Turn P w K tg (ZX j st n) [c] c (λi h=>IsRangeIter h c (j+(i:Nat)*st) ((n:Int) -(i:Nat)) st)where
 mem:=by simp
 obj:=λi h st b f=>by
  have e:b=c:=by simpa using f
  subst e;exact⟨_,st,λv z=>by have J:Data.fields _=Data.cell v:=z;cases J⟩
 keep:=λi h m st k=>k c (by simp) _ st
 item:=by intro X u p x r i a s F H E I l d q;subst u p x;obtain⟨D,C,N,B,A,y⟩:=l c (by simp);have W:=Walks.range (prog:=X.prog) (w:=X.w) (I.ok.hd r) c j st n;refine W.item i s _ _ q d λv m G M g L=>?_;obtain⟨t,rfl⟩:=M;have Q:Inv X a F H {s with heap:=m,toks:=G}:=I.turned (λb o f e=>L b o (by simpa using f) e) D C B A y;exact⟨_,rfl,Aq (s:={s with heap:=m,toks:=G}) (n:="range_iterator") g rfl rfl (by decide) ⟨.int (j+i*st),H,Q,⟨t,rfl⟩,⟨rfl,rfl⟩,g,λb f=>(l b f).1⟩⟩
 done:=by intro X u p x r i a s F H E I l d q;subst u p x;obtain⟨D,C,N,B,A,y⟩:=l c (by simp);exact wpAny_pyNext_range_end (I.ok.hd r) d (by have:n<=i:=q;omega) λm O=>⟨rfl,I.turned (t':=s.toks) (λb o f e=>O b o f e) D C B A y⟩
 self:=λ_ _ _ _ _ st h=>wpAny_pyIter_rangeiter st h
theorem Hr{tg:Expr}{c:List (Addr×Obj)}{σ:St}{H:Hp}{s:Shared}{R:It->Hp->Prop}{E:Value->Shared->Prop}{a d st:Int}{n:Nat}{t u v:Tok}{f:Nat}(I:Inv X c σ H s)(h:Builtin.Range.small a d st=true)(i:Builtin.Range.rangeSize a d st=(n:Int))
 (q:R (ZX a st n) H):wpAny (model X.prog X.w) X.A (pyIter (.ref s.heap.objs.size)) (PIE X c σ tg R) E {s with heap:=s.heap.push {cls:=.type "range",data:=.fields #[.int a t,.int d u,.int st v]},toks:=f}:=by
 refine wpAny_pyIter_range (IsRange.new ..) h ?_;have g:Inv X c σ H {s with heap:=s.heap.push {cls:=.type "range",data:=.fields #[.int a t,.int d u,.int st v]},toks:=f}:=I.kept λb o e=>DL _ e;refine⟨(s.heap.push {cls:=.type "range",data:=.fields #[.int a t,.int d u,.int st v]}).objs.size,[(s.heap.push {cls:=.type "range",data:=.fields #[.int a t,.int d u,.int st v]}).objs.size],_,_,H,rfl,
  g.kept (t':=f) λb o e=>DL _ e,AB _ a st n,?_,λb j=>?_,q⟩
 ·have l:a+((0:Nat):Int)*st=a:=by simp
  have k:(n:Int) -((0:Nat):Int)=Builtin.Range.rangeSize a d st:=by rw[i];simp
  show IsRangeIter _ _ (a+((0:Nat):Int)*st) ((n:Int) -((0:Nat):Int)) st;rw[l,k];exact Hb _ rfl
 ·have e:b=(s.heap.push {cls:=.type "range",data:=.fields #[.int a t,.int d u,.int st v]}).objs.size:=by simpa using j
  subst e;exact g.Ao (Do _) (g.hok.fresh (Do _))
noncomputable def X0(ta:TA):TI:=λa H R=>ta a H λb c=>∃(i j k:Int)(n:Nat),b=[.int i,.int j,.int k]/\(k≠0/\k.natAbs<1073741824/\Builtin.Range.small i j k=true/\Builtin.Range.rangeSize i j k=(n:Int))/\R (ZX i k n) c
theorem Ht{tg a b c:Expr}{ta:TA}{p pos:Pos}(C:Gl X "range")(B:X.mg "range"=none)(D:PA X [a,b,c] ta)(A:starEach [a,b,c] X.env=[(false,eval a X.env),(false,eval b X.env),(false,eval c X.env)]:=by rfl)(g:starEach [b,c] X.env=[(false,eval b X.env),(false,eval c X.env)]:=by rfl):
 PI X tg (.Call (.Name "range" p) [a,b,c] [] pos) (X0 ta):=by
 intro f s o H R I h;refine Call_ (ji I C B boot_range (Q1 (cM (D pos f s o H _ I h) λG K ⟨F,L,E,v,m⟩=>?_) (by rw[A,g]) (by rw[g];rfl)));obtain⟨i,j,k,n,e,⟨m,z,y,x⟩,q⟩:=m;subst e;cases v with
 |cons r d=>
  cases d with
  |cons w d=>
   cases d with
   |cons l d=>
    cases d;obtain⟨t,rfl⟩:=r;obtain⟨J,rfl⟩:=w;obtain⟨u,rfl⟩:=l;exact call_range_3 m (Hr E y x q) (.inl (PyProof.noPylong_small z))
end
end L2
namespace L2
open PySem
end L2
namespace L2
open PySem PySem.Spec PyProof.Rows
noncomputable def Dt(X:Cx)(H:Hp)(x:V)(d:PyData):Prop:=
 ∀(a:List (Addr×Obj))(b:St)(s:Shared)(u:Value),Inv X a b H s->RelV x u->∃c,Reads s.heap u d c
section
variable{X:Cx}{H:Hp}
theorem Th(i:Int):Dt X H (.int i) (.int i):=λ_ _ s u _ r=>by obtain⟨t,rfl⟩:=r;exact⟨_,.int i t⟩
theorem Q2(b:Bool):Dt X H (.bl b) (.bool b):=λ_ _ s u _ r=>by
 cases(show u=Value.bool b from r);exact⟨_,.bool b⟩
theorem Ti(x:Str):Dt X H (.str x) (.str x):=λ_ _ s u _ r=>by obtain⟨t,rfl⟩:=r;exact⟨_,.str x t⟩
theorem Tj:Dt X H .bC .none:=λ_ _ s u _ r=>by
 cases(show u=Value.none from r);exact⟨_,.none⟩
theorem C9{a:List (Addr×Obj)}{σ:St}{s:Shared}(I:Inv X a σ H s):∀{b:List V}{ds:List PyData}{us:List Value},Paired (Dt X H) b ds->Vals b us->∃as,ReadsAll s.heap us ds as
 |_,_,_,.nil,.nil=>⟨_,.nil⟩
 |_,_,_,.cons h t,.cons r c=>by obtain⟨as,q⟩:=h _ _ _ _ I r;obtain⟨e,d⟩:=C9 I t c;exact⟨_,.cons q d⟩
theorem JW{a:Addr}{c:List V}{ds:List PyData}(h:kI X.K H a c)(b:Paired (Dt X H) c ds):Dt X H (.ref a) (.list ds):=λ_ _ s u I r=>by
 cases(show u=Value.ref a from r);obtain⟨e,rv,d,_⟩:=I.list h;obtain⟨j,q⟩:=C9 I b rv;obtain⟨o,f,i,n,g⟩:=d.isList;exact⟨_,.list f i g (by simpa using q)⟩
theorem Dc{a:Addr}{c:List V}{ds:List PyData}(h:mK X.K H a c)(b:Paired (Dt X H) c ds):Dt X H (.ref a) (.tuple ds):=λ_ _ s u I r=>by
 cases(show u=Value.ref a from r);obtain⟨d,rv,e,_⟩:=I.tuple h;obtain⟨j,q⟩:=C9 I b rv;obtain⟨o,f,i,n,g⟩:=e;exact⟨_,.tuple f i g (by simpa using q)⟩
noncomputable def aaU(X:Cx):R2:=λx y H Q=>∃b a,Dt X H x b/\Dt X H y a/\(SeqAt.shaped b=true/\SeqAt.shaped a=true/\SeqAt.noMix b a=true)/\Q (.bl (PySem.Spec.same b a)) H
noncomputable def aaV(X:Cx):R2:=λx y H Q=>∃b a,Dt X H x b/\Dt X H y a/\(SeqAt.shaped b=true/\SeqAt.shaped a=true/\SeqAt.noMix b a=true)/\Q (.bl (!PySem.Spec.same b a)) H
theorem JX(j:X.A.units+64<cLine):n9 X (compareOp .Eq) (aaU X):=by intro a s m H x y v u Q I c b h;obtain⟨o,n,l,k,⟨i,g,f⟩,q⟩:=h;obtain⟨r,e⟩:=l _ _ _ _ I c;obtain⟨p,d⟩:=k _ _ _ _ I b;exact eq_dataH_same e d i g j f ⟨.bl _,H,I,rfl,q⟩
theorem Tn(j:X.A.units+64<cLine):n9 X (compareOp .NotEq) (aaV X):=by intro a s m H x y v u Q I c b h;obtain⟨o,n,l,k,⟨i,g,f⟩,q⟩:=h;obtain⟨r,e⟩:=l _ _ _ _ I c;obtain⟨p,d⟩:=k _ _ _ _ I b;exact ne_dataH_same e d i g j f ⟨.bl _,H,I,rfl,q⟩
end
noncomputable def Ite(K:Frag)(a:Addr):It:=⟨λi H=>∃b x,kI K H a b/\b[i]?=some x,λi H x c=>∃p y,H p=none/\x=.ref p/\c=upd H p (.tup [.int i,y])/\∀b,kI K H a b->b[i]?=some y,λi H=>∃b,kI K H a b/\b.length=i⟩
theorem Inv.X3{X:Cx}{a:List (Addr×Obj)}{σ:St}{H:Hp}{s:Shared}{h':Heap}{t':Nat}{ch:List Addr}{p:Addr}{h:List V}(I:Inv X a σ H s)(l:∀b∈ch,t6 X a H b)
 (k:∀b o,b∉ch->s.heap.get? b=some o->h'.get? b=some o)(t:s.heap.objs.size<=p)(i:cL X.prog X.w (upd H p (.tup h)) h' p (.tup h))(L:∀b∈ch,∃o,h'.get? b=some o):Inv X a σ (upd H p (.tup h)) {s with heap:=h',toks:=t'}:=by
 have f:H p=none:=I.hok.fresh t;have x:∀b u,H b=some u->b∉ch:=λb u e z=>by rw[(l b z).1]at e;cases e
 have j:∀b o,s.heap.get? b=some o->b≠p:=λb o e z=>absurd (Fk (FS e) t) (by rw[z];exact OK _);refine I.step (g':=s.gens) (d':=s.drawn) (ch:=ch) (λb g=>?_) (λb o _ _ d e _=>k b o d e) (λb o _ _ d e _=>⟨o.slots,k b o d e⟩) (λb o _ e n=>by rw[ao (j b o e)];exact n)
  (λb o d e=>⟨o,k b o d e⟩) (λb y e=>by rw[ao (aV e f)];exact e) (λb o u e=>by rw[ao (aV e f)];exact e) (λb K e=>⟨#[],by rw[ao (aV e f),e];simp⟩) (λm B=>?_) (λb u e=>?_) I.bare
 ·obtain⟨N,F,M,E,D,C⟩:=l b g;exact⟨E,F,D,C⟩
 ·obtain⟨o,G,J,A,r⟩:=B;exact⟨o,G,J,k _ o (λz=>(l _ z).2.1 rfl) A,r⟩
 ·by_cases g:b=p
  ·subst g;rw[aD]at e;cases e;exact i
  ·rw[ao g]at e;refine(I.hok b u e).stay (λc v d q=>k c v ?_ q) (λc q=>by rw[ao (aV q f)];exact q) λc y q=>by rw[ao (aV q f)];exact q
   rcases d with z|z
   ·rw[z];exact x b u e
   ·exact x c _ z
theorem Hu{P:Program}{w:World}{K:Frag}{C:List Expr}{kk:Nat}{pos:Pos}(a e l:Addr)(R:e≠l):
 Turn P w K (.Tuple C kk pos) (Ite K a) [e,l] e (λi h=>(∃f,IsEnum h e l i f)/\h.IsListIter l a i)where
 mem:=by simp
 obj:=λi h q b m=>by
  obtain⟨⟨f,n⟩,o,r,c,d⟩:=q;rcases GT.mp m with z|z
  ·subst z;exact⟨_,n,λv z=>by cases z⟩
  ·rw[Fn.mp z];exact⟨o,r,λv z=>by rw[d]at z;cases z⟩
 keep:=λi h h' q k=>by obtain⟨⟨f,n⟩,F⟩:=q;exact⟨⟨f,k e (by simp) _ n⟩,F.at λo x=>k l (by simp) o x⟩
 item:=by
  intro X hP hw hK hc i M s σ H E I L q hg;subst hP hw hK;obtain⟨xs,x,Z,Y⟩:=hg;obtain⟨j,rv,p,hz⟩:=I.list Z;obtain⟨u,hu,ru⟩:=rv.get Y;obtain⟨⟨f,n⟩,F⟩:=q;have hit:=L l (by simp);have hee:=L e (by simp);have G:a≠l:=λz=>by obtain⟨o,r,c,d⟩:=F;obtain⟨o',g,J,_⟩:=p.isList;rw[z,r]at g;cases g;rw[c]at J;exact absurd J (by decide)
  have hae:a≠e:=λz=>by obtain⟨o',g,J,_⟩:=p.isList;have B:s.heap.get? e=some _:=n;rw[z,B]at g;cases g;exact absurd (show Value.type "enumerate"=Value.type "list"from J) (by decide)
  have D:=Draws.list (prog:=X.prog) (w:=X.w) (A:=X.A.in1) (I.ok.hd hc) l a G j.toArray;have W:=WalksT.enumerateD D e R (by simp[R,hae.symm]) (by simp);have hlt:i<j.toArray.size:=by have:=(Fs.mp hu).1;simpa using this
  refine W.item i s _ _ hlt ⟨⟨f,n⟩,F,p.isList⟩ λT vals h' tk hPt hT aaX X4 hk=>?_;obtain⟨t,y,hy,rfl⟩:=hPt;have hyu:y=u:=by
   have:j[i]?=some y:=by simpa using hy
   rw[hu]at this;exact(IR this).symm
  subst hyu;refine⟨.ref T,rfl,W.go C kk pos i T _ _ _ X4 λU hst Q=>?_⟩;have S:T∉[e,l]:=W.apart i T h' X4;obtain⟨⟨N,B⟩,O,_⟩:=hst;have X5:IsTup U T #[.int i t,y]:=by obtain⟨o,r,c⟩:=aaX;exact⟨o,Q T o S r,c⟩
  have obj:cL X.prog X.w (upd H T (.tup [.int i,x])) U T (.tup [.int i,x]):=⟨fj (by show 2<=100000;decide),[.int i t,y],.cons ⟨t,rfl⟩ (.cons ru .nil),X5⟩;have I2:=I.X3 (t':=tk) (ch:=[e,l]) L (λb o m eo=>Q b o m (hk b o m eo)) hT obj (λb m=>by
   rcases GT.mp m with z|z
   ·rw[z];exact⟨_,B⟩
   ·rw[Fn.mp z];obtain⟨o,r,_⟩:=O;exact⟨o,r⟩)
  refine⟨.ref T,upd H T (.tup [.int i,x]),I2,rfl,⟨T,x,I.hok.fresh hT,rfl,rfl,λys hy=>by rw[I.tQ hy Z];exact Y⟩,⟨⟨N,B⟩,O⟩,λb m=>?_⟩;rw[ao (show b≠T from λz=>S (by rw[←z];exact m))];exact(L b m).1
 done:=by
  intro X hP hw hK hc i M s σ H E I L q hg;subst hP hw hK;obtain⟨xs,Z,Y⟩:=hg;obtain⟨j,rv,p,hz⟩:=I.list Z;obtain⟨⟨f,n⟩,F⟩:=q;obtain⟨f0,f1,f2,f3,f4,f5⟩:=L l (by simp);have G:a≠l:=λz=>by obtain⟨o,r,c,d⟩:=F;obtain⟨o',g,J,_⟩:=p.isList;rw[z,r]at g;cases g;rw[c]at J;exact absurd J (by decide)
  have D:=Draws.list (prog:=X.prog) (w:=X.w) (A:=X.A.in1) (I.ok.hd hc) l a G j.toArray;have hn:j.toArray.size=i:=by rw[Fm,←rv.length];exact Y
  exact wpAny_pyNext_enum_endD D n ⟨by rw[hn];exact F,p.isList⟩ λh' eb=>⟨rfl,I.turned (t':=s.toks) (λb o m x=>eb b o m x) f0 f1 f3 f4 f5⟩
 self:=λ_ _ _ _ _ q h=>by obtain⟨⟨f,n⟩,_⟩:=q;exact wpAny_pyIter_enum n h
section
variable{X:Cx}
noncomputable def X6(K:Frag)(ta:TA):TI:=λc H R=>ta c H λe b=>∃a,e=[.ref a]/\(∃d,kI K b a d)/\R (Ite K a) b
theorem ND{a:Expr}{ta:TA}{g:List Expr}{v:Nat}{m p pos:Pos}(F:Gl X "enumerate")(C:X.mg "enumerate"=none)(J:PA X [a] ta)(x:bootBuiltins "enumerate"=some (.type "enumerate"):=by rfl)(A:starEach [a] X.env=[(false,eval a X.env)]:=by rfl):
 PI X (.Tuple g v m) (.Call (.Name "enumerate" p) [a] [] pos) (X6 X.K ta):=by
 intro c s i H R I h;refine Call_ (ji I F C x (Q1 (cM (J pos c s i H _ I h) λP d ⟨O,k,f,o,r⟩=>?_) A rfl));obtain⟨l,e,⟨N,B⟩,q⟩:=r;subst e;obtain⟨u,rfl,n⟩:=Vals.one o;cases(show u=Value.ref l from n);obtain⟨w,rv,t,_⟩:=f.list B;refine call_enumerate_list t.isList λL j D y E=>?_;refine wpAny_pyIter_enum j ?_;have M:Inv X c i k {d with heap:=L}:=f.kept (t':=d.toks) E;refine⟨d.heap.objs.size+1,[d.heap.objs.size+1,d.heap.objs.size],_,_,k,rfl,M,Hu l (d.heap.objs.size+1) d.heap.objs.size (Nat.succ_ne_self _),⟨⟨_,j⟩,D⟩,λb G=>?_,q⟩;rcases GT.mp G with z|z
 ·rw[z];exact f.Ao (by lia) (f.hok.fresh (by lia))
 ·rw[Fn.mp z];exact f.Ao (Do _) (f.hok.fresh (Do _))
end
noncomputable def Itv(K:Frag)(a:Addr)(n:Nat):It:=
 ⟨λi H=>∃b,kI K H a b/\b.length=n/\i<n,λi H x c=>c=H/\∀b,kI K H a b->b.length=n->b[n -1 -i]?=some x,λi _=>i=n⟩
theorem JY{P:Program}{w:World}{K:Frag}{tg:Expr}(a l:Addr)(n:Nat):Turn P w K tg (Itv K a n) [l] l (λi h=>h.IsRevIter l a ((n:Int) -1 -(i:Int)))where
 mem:=by simp
 obj:=λi h f b m=>by
  have e:b=l:=by simpa using m
  subst e;obtain⟨o,e,c,d⟩:=f;refine⟨o,e,λv z=>?_⟩;rw[d]at z;cases z
 keep:=λi h r f k=>f.at λo e=>k l (Fn.mpr rfl) o e
 item:=by
  intro X B t C R i g s M H E I q f A;subst B t C;obtain⟨N,Q,hn,hi⟩:=A;obtain⟨U,rv,p,hz⟩:=I.list Q;have O:N[n -1 -i]?=some (N[n -1 -i]'(by omega)):=B1 (by omega);obtain⟨u,Z,T⟩:=rv.get O;obtain⟨L,J,f2,G,F,D⟩:=q l (Fn.mpr rfl);have e:(n:Int) -1 -(i:Int)=((n -1 -i:Nat):Int):=by omega
  rw[e]at f;refine wpAny_pyNext_rev_item f p.isList (x:=u) (by simpa using Z) λr j S=>?_;have e2:((n -1 -i:Nat):Int) -1=(n:Int) -1 -((i+1:Nat):Int):=by omega
  rw[e2]at j;have I1:Inv X g M H {s with heap:=r}:=I.turned (t':=s.toks) (λb o m z=>(S.2 b m).trans z) L J G F D;obtain⟨o,e3,c,d⟩:=id j;exact⟨u,rfl,Aq (s:={s with heap:=r}) e3 c d (by decide) ⟨_,H,I1,T,⟨rfl,λys Y _=>by rw[I.tQ Y Q];exact O⟩,j,λb m=>(q b m).1⟩⟩
 done:=by
  intro X B t C R i g s M H E I q f A;subst B t C;have y:i=n:=A;subst y;obtain⟨L,J,f2,G,F,D⟩:=q l (Fn.mpr rfl);have e:(i:Int) -1 -(i:Int)= -1:=by omega
  rw[e]at f;exact wpAny_pyNext_rev_end (I.ok.hd R) f λr eb=>⟨rfl,I.turned (t':=s.toks) (λb o m z=>eb b o m z) L J G F D⟩
 self:=λ_ _ _ _ _ f h=>wpAny_pyIter_revIter f h
section
variable{X:Cx}{tg:Expr}
noncomputable def aaZ(K:Frag)(ta:TA):TI:=λd H R=>ta d H λe c=>∃a b,e=[.ref a]/\kI K c a b/\R (Itv K a b.length) c
theorem To{a:Expr}{ta:TA}{p pos:Pos}(A:Gl X "reversed")(y:X.mg "reversed"=none)(C:PA X [a] ta)(v:bootBuiltins "reversed"=some (.type "reversed"):=by rfl)(w:starEach [a] X.env=[(false,eval a X.env)]:=by rfl):
 PI X tg (.Call (.Name "reversed" p) [a] [] pos) (aaZ X.K ta):=by
 intro d s k H R I h;refine Call_ (ji I A y v (Q1 (cM (C pos d s k H _ I h) λG c ⟨F,E,g,n,r⟩=>?_) w rfl));obtain⟨l,f,e,x,q⟩:=r;subst e;obtain⟨u,rfl,m⟩:=Vals.one n;cases(show u=Value.ref l from m);obtain⟨i,rv,t,_⟩:=g.list x;refine call_reversed_list t.isList ?_;have D:((i.toArray.size:Nat):Int) -1=(f.length:Int) -1 -((0:Nat):Int):=by have:=rv.length;simp;omega
 rw[D];have j:Heap.IsRevIter (c.heap.push (revObj l ((f.length:Int) -1 -((0:Nat):Int)))) c.heap.objs.size l ((f.length:Int) -1 -((0:Nat):Int)):=⟨_,Hb _ rfl,rfl,rfl⟩;refine wpAny_pyIter_revIter j ?_;refine⟨c.heap.objs.size,[c.heap.objs.size],_,_,E,rfl,g.kept (t':=c.toks) λb o z=>DL _ z,JY l _ f.length,j,λb B=>?_,q⟩;have e:b=c.heap.objs.size:=by simpa using B
 subst e;exact g.Ao (Do _) (g.hok.fresh (Do _))
end
theorem Hv:typeLookup (.type "list_reverseiterator") "__len__"=pure none:=by
 rw[typeLookup_type,builtinLookup_eq_fast]
 kernel_rfl
theorem JZ:typeLookup (.type "list_reverseiterator") "__length_hint__"=pure (some (.builtin "list_reverseiterator.__length_hint__")):=by
 rw[typeLookup_type,builtinLookup_eq_fast]
 kernel_rfl
section
variable{prog:Program}{w:World}{A:Around}{E:Value->Shared->Prop}
abbrev NF(xs:Array Value)(c:Nat):Obj:={cls:=.type "list",dict:=none,data:=.seq xs c,slots:= #[]}
theorem NG{s:Shared}{R:Result->Shared->Prop}{J l S:Addr}{vs:Array Value}{g:Value}{D:Nat}(x:A.handled=none)(u:s.heap.IsList l vs)(d:s.heap.IsRevIter J l ((vs.size:Int) -1))(t:l≠J)(o:S≠J)(q:S≠l)(y:s.heap.get? S=some (NF #[] D))(hz:vs.size<=sizeLine)
 (z:∀(s':Shared)(j:Array Value)(c:Nat),Moved [S,J] (λa b=>b=a) s s'->s'.heap.get? S=some (NF j c)->ItemsOf (λi v=>vs[vs.size -1 -i]?=some v) j vs.size->R (.ok (.ret g)) s'):
 wpAny (model prog w) A.in1 (Builtin.List.listExtendWith (.ref S) (.ref J) g) (λn s'=>match n with
  |.done f=>R (.ok f) s'
  |.again p=>p.quiet=true/\codeAny (model prog w) A p R s') (λe s'=>R (.error e) s') s:=by
 have V:=(Walks.listRev (prog:=prog) (w:=w) (A:=A.in1) x J l t vs).toS;have r:S∉[J,l]:=λm=>by simp only[GT,TB,nr]at m;exact m.elim o q
 have B:0<=vs.size/\s.heap.IsRevIter J l ((vs.size:Int) -1 -((0:Nat):Int))/\s.heap.IsList l vs:=⟨Mo _,by rw[show(vs.size:Int) -1 -((0:Nat):Int)=(vs.size:Int) -1 by lia];exact d,u⟩;have C:Builtin.List.listSameRef (.ref S) (.ref J)=false:=by simp[Builtin.List.listSameRef,o]
 unfold Builtin.List.listExtendWith;refine FC (wpAny_typeOf d.typeIs ?_);rw[Bi (by rw[C];decide)];refine FC (wpAny_pyIter_revIter d ?_);refine FC (xa ?_);unfold Builtin.List.listLengthHint;refine FC (wpAny_specialOf d.typeIs Hv ?_);show wpAny _ A.in1 (specialOf (Value.ref J) (Str.ofString "__length_hint__")>>=_) _ _ _;refine FC (wpAny_specialOf d.typeIs JZ ?_);generalize h:("list_reverseiterator.__length_hint__":String)=k
 wp_delta
 rw[show splitId k=some ("list_reverseiterator","__length_hint__")from by subst h;decide+kernel];subst h;refine FC (wpAny_isInstance (b:=true) d.typeIs (by rw[isSubtype_type];kernel_rfl) ?_);refine NM ?_;rw[Bi (by decide)];refine NM ⟨plainId_quiet F.plain_extend_loop _,codeAny_extend_loopS V hz _ r _ vs.size 0 _ _ _ rfl (Mo _) B y (ItemsOf.nil _) ?_⟩;exact z
theorem wg{s:Shared}{Q:Value->Shared->Prop}{J l:Addr}{vs:Array Value}(D:A.handled=none)(q:s.heap.IsList l vs)(r:s.heap.IsRevIter J l ((vs.size:Int) -1))(y:l≠J)(hz:vs.size<=sizeLine)
 (G:∀(h':Heap)(t:Nat)(a:Array Value)(c:Nat),(∀b o,b≠J->s.heap.get? b=some o->h'.get? b=some o)->h'.get? s.heap.objs.size=some (NF a c)->ItemsOf (λi v=>vs[vs.size -1 -i]?=some v) a vs.size->Q (.ref s.heap.objs.size) {s with heap:=h',toks:=t}):
 wpAny (model prog w) A (call (.type "list") [.ref J]) Q E s:=by
 have I:J<s.heap.objs.size:=let⟨o,h,_⟩:=r;FS h
 have B:l<s.heap.objs.size:=let⟨o,h,_⟩:=q;FS h
 refine callType_codes (Q₁:=λu k=>u=.ref s.heap.objs.size/\k={s with heap:=s.heap.push (NF #[] 0)}) F.called_list (F.typeCall_list_1 _) F.entry_list_init (code_list_new _ ⟨rfl,rfl⟩) ?_;rintro u k ⟨rfl,rfl⟩;have d:(s.heap.push (NF #[] 0)).get? s.heap.objs.size=some (NF #[] 0):=Hb _ rfl;refine⟨⟨_,d,rfl⟩,F.args_list_init_2 _ _,?_⟩;show wpAny _ _ (Builtin.List.listItems (.ref s.heap.objs.size)>>=λj=>Builtin.List.listUpdate (.ref s.heap.objs.size) (λ_=> #[])>>=λ_=>letGo j.toList.reverse>>=λ_=>Builtin.List.listExtendWith (.ref s.heap.objs.size) (.ref J) .none) _ _ _;refine FC ?_;unfold Builtin.List.listItems;refine FC (wpAny_seqItems d rfl (NM ?_));show wpAny _ _ (updateSeq s.heap.objs.size (λ_=> #[])>>=λ_=>letGo (#[]:Array Value).toList.reverse>>=λ_=>Builtin.List.listExtendWith (.ref s.heap.objs.size) (.ref J) .none) _ _ _;refine FC (wpAny_updateSeq d rfl ?_);have H:=si (Obj.mapSeq λ_=>(#[]:Array Value)) d rfl;have f:∀b o,s.heap.get? b=some o->((s.heap.push (NF #[] 0)).update s.heap.objs.size (Obj.mapSeq λ_=>(#[]:Array Value))).get? b=some o:=λb o z=>(Yf _ _ (oP (FS z))).trans (DL _ z);refine FC (wpAny_letGo ?_);refine NG (A:=A.in1) (s:={s with heap:=_}) D (q.at λo z=>f _ o z) (r.at λo z=>f _ o z) y (oP I) (oP B) H hz λn a c m g C=>⟨rfl,?_⟩;rw[Moved.eq_with m];refine G n.heap n.toks a c (λb o x z=>m.heap b o (λp=>?_) (f b o z)) g C;simp only[GT,TB,nr]at p;rcases p with e|e
 ·exact OK _ (e▸FS z)
 ·exact x e
end
theorem AD{h:Heap}{a:Addr}{o b:Obj}(n:a≠h.objs.size)(e:(h.push o).get? a=some b):h.get? a=some b:=by obtain⟨d,c⟩:=Heap.get?_some_iff.mp e;refine Heap.get?_some_iff.mpr ⟨?_,c⟩;cases h;simpa[Heap.push,Array.getElem?_push,n]using d
noncomputable def X7(K:Frag)(ta:TA):TE:=λd H Q=>ta d H λe b=>∃a c,e=[.ref a]/\kI K b a c/\∀l,b l=none->Q (.ref l) (upd b l (.lst c.reverse))
theorem NH{X:Cx}{a:Expr}{ta:TA}{p p2 pos k:Pos}(hc:X.calm=true)(hg:Gl X "list")(Z:X.mg "list"=none)(A:Gl X "reversed")(y:X.mg "reversed"=none)(ha:PA X [a] ta)(U:starEach [a] X.env=[(false,eval a X.env)]:=by rfl):
 PE X (.Call (.Name "list" p) [.Call (.Name "reversed" p2) [a] [] k] [] pos) (X7 X.K ta):=by
 intro n s D H Q I h;refine kA (ji I hg Z (by rfl) ?_ (by decide) (by decide));refine Q1 ?_ rfl rfl;show wpAny _ _ (spliced ((false,eval (.Call (.Name "reversed" p2) [a] [] k) X.env)::backTo pos (starEach [] X.env))) _ _ s;refine Calls.spliced_cons ?_;refine Call_ (ji I A y (by rfl) (Q1 (cM (ha k n s D H _ I h) λus m ⟨vs,C,r,O,P⟩=>?_) U rfl));obtain⟨l,t,e,Y,q⟩:=P;subst e;obtain⟨u,rfl,M⟩:=Vals.one O;cases(show u=Value.ref l from M);obtain⟨d,rv,v,hz⟩:=r.list Y;have G:=rv.length;obtain⟨ol,x,_⟩:=id v.isList;refine call_reversed_list v.isList (Calls.spliced_nil ?_);have S:=FS x;have L:Inv X n D C {m with heap:=m.heap.push (revObj l ((d.toArray.size:Int) -1))}:=r.kept (t':=m.toks) λb o z=>DL _ z;have f:=r.Ao (H':=C) (Do _) (r.hok.fresh (Do _));obtain⟨f0,f1,f2,f3,f4,f5⟩:=f;refine wg (vs:=d.toArray) (r.ok.hd hc) (v.isList.at λo z=>DL _ z) ⟨_,Hb _ rfl,rfl,rfl⟩ (KM S) (by simp only[Fm]<;>lia) λh' E j c T g w=>?_;have ac:j.toList.toArray=j:=rfl;have N:Vals t.reverse j.toList:=by
  have e:j.toList=d.reverse:=by
   refine cx λi=>?_;by_cases hi:i<d.length
   ·have h1:=w.2 i;have F:i<j.toList.length:=by have:=w.1;simp at this⊢;lia
    rw[B1 F];have h2:=h1 _ (by rw[←Array.getElem?_toList];exact B1 F);rw[List.getElem?_reverse hi];simpa using h2.symm
   ·rw[FK (by have:=w.1;simp at this⊢;lia),FK (by rw[lh];lia)]
  rw[e];exact Vals.reverse rv
 have J1:=L.laid (a:=(m.heap.push (revObj l ((d.toArray.size:Int) -1))).objs.size) (o:=.lst t.reverse) (h':=(m.heap.push (revObj l ((d.toArray.size:Int) -1))).push (NF j c)) (t':=E) (λb o z=>DL _ z) (Do _) ⟨by rw[lh];exact hz,j.toList,c,N,Hb _ rfl⟩;have B:upd C (m.heap.push (revObj l ((d.toArray.size:Int) -1))).objs.size (.lst t.reverse) m.heap.objs.size=none:=by rw[ao (KM (by simp[Heap.push]))];exact f0
 have J2:=J1.turned (t':=E) (h':=h') (λb o R z=>?_) B f1 f3 f4 f5
 ·exact⟨.ref _,_,J2,rfl,q _ (L.hok.fresh (Do _))⟩
 ·by_cases J:b=(m.heap.push (revObj l ((d.toArray.size:Int) -1))).objs.size
  ·subst J;have e:=Hb (m.heap.push (revObj l ((d.toArray.size:Int) -1))) (o:=NF j c) rfl;have e2:=e.symm.trans z;cases e2;exact g
  ·refine T b o R ?_;exact AD J z
end L2
namespace L2
open PySem
variable{r:List Expr}{env:Env}{pos:Pos}
theorem J0{a:List Expr}:starEach (.List a pos::r) env=(false,eval (.List a pos) env)::starEach r env:=rfl
inductive Tq:List Expr->List (Int×Int)->Prop where
 |nil:Tq [] []
 |cons {a b:Int} {j1 j2 k:Nat} {p1 p2 pos:Pos} {es:List Expr} {qs:List (Int×Int)} (h:Tq es qs):Tq (.Tuple [.Constant (.int a) j1 p1,.Constant (.int b) j2 p2] k pos::es) ((a,b)::qs)
end L2
namespace L2
open PySem PySem.Spec PyProof.Rows
theorem xx:∀bs:List Bool,PyData.canLayAll0 (bs.map PyData.bool)=true
 |[]=>rfl
 |b::r=>by rw[Jn];simp[PyData.canLayAll0,PyData.canLay0,xx r]
theorem uq:∀bs:List Bool,PyData.depthAll (bs.map PyData.bool)=0
 |[]=>rfl
 |b::r=>by rw[Jn];simp[PyData.depthAll,PyData.depth,uq r]
theorem ur:∀bs cs:List Bool,PySem.Spec.sameAll (bs.map PyData.bool) (cs.map PyData.bool)=decide (bs=cs)
 |[],[]=>by simp[sameAll]
 |[],_::_=>by simp[sameAll]
 |_::_,[]=>by simp[sameAll]
 |b::r,c::t=>by
  have ih:=ur r t;simp only[Jn,sameAll,ih,PySem.Spec.same];by_cases h:b=c
  ·subst h;simp
  ·simp[h]
section
variable{X:Cx}{H:Hp}
theorem uu:∀bs:List Bool,Paired (Dt X H) (bs.map V.bl) (bs.map PyData.bool)
 |[]=>.nil
 |n::r=>.cons (Q2 n) (uu r)
end
mutual
noncomputable def aQ:PyData->Bool
 |.int _=>true
 |.list a=>iG a
 |.tuple a=>iG a
 |.none=>false
 |.bool _=>false
 |.str _=>false
 |.dict _=>false
noncomputable def iG:List PyData->Bool
 |[]=>true
 |x::a=>aQ x&&iG a
end
mutual
theorem J3:∀d:PyData,aQ d=true->d.canLay0=true
 |.int _,_=>by simp[PyData.canLay0]
 |.list a,h=>by rw[aQ]at h;rw[PyData.canLay0];exact qQ a h
 |.tuple a,h=>by rw[aQ]at h;rw[PyData.canLay0];exact qQ a h
 |.none,h=>by simp[aQ]at h
 |.bool _,h=>by simp[aQ]at h
 |.str _,h=>by simp[aQ]at h
 |.dict _,h=>by simp[aQ]at h
theorem qQ:∀a:List PyData,iG a=true->PyData.canLayAll0 a=true
 |[],_=>by simp[PyData.canLayAll0]
 |x::a,h=>by rw[iG,BM]at h;rw[PyData.canLayAll0,J3 x h.1,qQ a h.2];rfl
end
mutual
theorem J5:∀d e:PyData,aQ d=true->aQ e=true->SeqAt.noMix d e=true
 |.int _,.int _,_,_=>by simp[SeqAt.noMix]
 |.int _,.list _,_,_=>by simp[SeqAt.noMix]
 |.int _,.tuple _,_,_=>by simp[SeqAt.noMix]
 |.list _,.int _,_,_=>by simp[SeqAt.noMix]
 |.list _,.tuple _,_,_=>by simp[SeqAt.noMix]
 |.tuple _,.int _,_,_=>by simp[SeqAt.noMix]
 |.tuple _,.list _,_,_=>by simp[SeqAt.noMix]
 |.list c,.list b,h,a=>by rw[aQ]at h a;rw[SeqAt.noMix];exact qR c b h a
 |.tuple c,.tuple b,h,a=>by rw[aQ]at h a;rw[SeqAt.noMix];exact qR c b h a
 |.none,_,h,_=>by simp[aQ]at h
 |.bool _,_,h,_=>by simp[aQ]at h
 |.str _,_,h,_=>by simp[aQ]at h
 |.dict _,_,h,_=>by simp[aQ]at h
 |.int _,.none,_,h=>by simp[aQ]at h
 |.int _,.bool _,_,h=>by simp[aQ]at h
 |.int _,.str _,_,h=>by simp[aQ]at h
 |.int _,.dict _,_,h=>by simp[aQ]at h
 |.list _,.none,_,h=>by simp[aQ]at h
 |.list _,.bool _,_,h=>by simp[aQ]at h
 |.list _,.str _,_,h=>by simp[aQ]at h
 |.list _,.dict _,_,h=>by simp[aQ]at h
 |.tuple _,.none,_,h=>by simp[aQ]at h
 |.tuple _,.bool _,_,h=>by simp[aQ]at h
 |.tuple _,.str _,_,h=>by simp[aQ]at h
 |.tuple _,.dict _,_,h=>by simp[aQ]at h
theorem qR:∀b a:List PyData,iG b=true->iG a=true->SeqAt.noMixAll b a=true
 |[],[],_,_=>by simp[SeqAt.noMixAll]
 |[],_::_,_,_=>by simp[SeqAt.noMixAll]
 |_::_,[],_,_=>by simp[SeqAt.noMixAll]
 |x::b,y::a,h,c=>by rw[iG,BM]at h c;rw[SeqAt.noMixAll,J5 x y h.1 c.1,qR b a h.2 c.2];rfl
end
mutual
theorem Hw:∀d e:PyData,aQ d=true->aQ e=true->(same d e=true↔d=e)
 |.int a,.int b,_,_=>by simp[same]
 |.int _,.list _,_,_=>by simp[same]
 |.int _,.tuple _,_,_=>by simp[same]
 |.list _,.int _,_,_=>by simp[same]
 |.list _,.tuple _,_,_=>by simp[same]
 |.tuple _,.int _,_,_=>by simp[same]
 |.tuple _,.list _,_,_=>by simp[same]
 |.list g,.list f,h,c=>by rw[aQ]at h c;rw[same,om g f h c,PyData.list.injEq]
 |.tuple g,.tuple f,h,c=>by rw[aQ]at h c;rw[same,om g f h c,PyData.tuple.injEq]
 |.none,_,h,_=>by simp[aQ]at h
 |.bool _,_,h,_=>by simp[aQ]at h
 |.str _,_,h,_=>by simp[aQ]at h
 |.dict _,_,h,_=>by simp[aQ]at h
 |.int _,.none,_,h=>by simp[aQ]at h
 |.int _,.bool _,_,h=>by simp[aQ]at h
 |.int _,.str _,_,h=>by simp[aQ]at h
 |.int _,.dict _,_,h=>by simp[aQ]at h
 |.list _,.none,_,h=>by simp[aQ]at h
 |.list _,.bool _,_,h=>by simp[aQ]at h
 |.list _,.str _,_,h=>by simp[aQ]at h
 |.list _,.dict _,_,h=>by simp[aQ]at h
 |.tuple _,.none,_,h=>by simp[aQ]at h
 |.tuple _,.bool _,_,h=>by simp[aQ]at h
 |.tuple _,.str _,_,h=>by simp[aQ]at h
 |.tuple _,.dict _,_,h=>by simp[aQ]at h
theorem om:∀b a:List PyData,iG b=true->iG a=true->(sameAll b a=true↔b=a)
 |[],[],_,_=>by simp[sameAll]
 |[],_::_,_,_=>by simp[sameAll]
 |_::_,[],_,_=>by simp[sameAll]
 |x::b,y::a,h,c=>by rw[iG,BM]at h c;rw[sameAll,BM,Hw x y h.1 c.1,om b a h.2 c.2,mM]
end
section
variable{X:Cx}
end
theorem AE{a:List PyData}{n:Nat}(h:∀x∈a,x.depth<=n):PyData.depthAll a<=n:=by
 induction a with
 |nil=>simp[PyData.depthAll]
 |cons x a b=>rw[PyData.depthAll];have:=h x (FV ..);have:=b λy c=>h y (FR _ c);lia
end L2
namespace Num
theorem oZ(a b q:Int):Int.gcd b (a -q*b)=Int.gcd a b:=by
 apply Nat.dvd_antisymm
 ·apply Int.dvd_gcd
  ·have f:((Int.gcd b (a -q*b):Nat):Int)∣b:=ag ..;have d:((Int.gcd b (a -q*b):Nat):Int)∣(a -q*b):=Re ..;have c:=n4 d (fo f:_∣q*b);have e:a -q*b+q*b=a:=by lia
   rw[e]at c;exact c
  ·exact ag ..
 ·apply Int.dvd_gcd
  ·exact Re ..
  ·exact xb (ag ..) (fo (Re ..))
theorem fl(a b:Int)(c:b≠0):(0<b->0<=a -a.fdiv b*b/\a -a.fdiv b*b<b)/\(b<0->b<a -a.fdiv b*b/\a -a.fdiv b*b<=0):=by
 have e:=Int.mul_ediv_add_emod a b;have f:=ma a c;have d:a%b<(b.natAbs:Int):=by
  rcases oo 0 b with z|z
  ·have:=eM a z;lia
  ·have:=eM a (show 0< -b by lia);rw[Int.emod_neg]at this;lia
 rw[Int.fdiv_eq_ediv];have g:b*(a/b)=(a/b)*b:=UF _ _;constructor
 ·intro h;rw[Bn (Or.inl (by lia)),oa];lia
 ·intro h;split
  ·rename_i hd
   have hz:a%b=0:=my (by lia);rw[oa];lia
  ·rename_i hd
   have hz:a%b≠0:=λz=>hd (.inr (vi z));have:(a/b -1)*b=a/b*b -b:=by rw[Int.sub_mul];lia
   lia
theorem qS(a b:Int)(c:b≠0):(a -a.fdiv b*b).natAbs<b.natAbs:=by have:=fl a b c;omega
theorem fmod_eq(a b:Int):a.fmod b=a -a.fdiv b*b:=by have:=Int.mul_fdiv_add_fmod a b;have:b*a.fdiv b=a.fdiv b*b:=UF _ _;omega
theorem Q3(a b:Int)(c:b≠0):(a.fdiv b).natAbs*b.natAbs<=a.natAbs+b.natAbs:=by have h:=qS a b c;rw[←Fh];omega
theorem aa1(a b:Int)(c:b≠0):(a.fdiv b).natAbs<=a.natAbs+b.natAbs:=by have h:=Q3 a b c;have:(a.fdiv b).natAbs*1<=(a.fdiv b).natAbs*b.natAbs:=GE _ (by lia);lia
noncomputable def Sg(x y:Int):Prop:=(0<x/\0<=y)\/(x<0/\y<=0)
theorem NI(x y:Int)(a:y≠0):Sg y (x -x.fdiv y*y):=by have h:=fl x y a;unfold Sg;omega
theorem X8{x y:Int}(h:Sg x y)(g:y≠0):x.natAbs=(x.fdiv y).natAbs*y.natAbs+(x -x.fdiv y*y).natAbs:=by
 have b:=fl x y g;rw[←Fh];generalize i:x.fdiv y=q at b⊢;have f:0<=q:=by
  rcases oo q 0 with z|z
  ·exfalso
   rcases h with⟨d,c⟩|⟨d,c⟩
   ·have a:0<y:=by lia
    have:=gN (show q<=-1 by lia) (show 0<=y by lia);have:=b.1 a;lia
   ·have a:y<0:=by lia
    have:=gN (show q<=-1 by lia) (show 0<=-y by lia);have e:q* -y= -(q*y):=Int.mul_neg _ _;have:=b.2 a;lia
  ·exact z
 rcases h with⟨d,c⟩|⟨d,c⟩
 ·have:=Int.mul_nonneg f (show 0<=y by lia);have:=b.1 (by lia);clear this;lia
 ·have:=Int.mul_nonneg f (show 0<=-y by lia);have e:q* -y= -(q*y):=Int.mul_neg _ _;have:=b.2 (by lia);lia
noncomputable def Ib(n:Nat)(x y u a:Int):Prop:=a.natAbs*x.natAbs+u.natAbs*y.natAbs<=3*2^n
theorem EW{n:Nat}{x y u a:Int}(h:Ib n x y u a)(f:Sg x y)(d:y≠0):Ib n y (x -x.fdiv y*y) a (u -x.fdiv y*a):=by
 have e:=X8 f d;unfold Ib at h⊢;have c:(u -x.fdiv y*a).natAbs<=u.natAbs+(x.fdiv y).natAbs*a.natAbs:=by rw[←Fh];omega
 generalize(x -x.fdiv y*y).natAbs=r at e⊢;generalize(x.fdiv y).natAbs=q at e c;generalize(u -x.fdiv y*a).natAbs=w at c⊢;generalize u.natAbs=U at*;generalize a.natAbs=b at*;generalize y.natAbs=Y at*;generalize x.natAbs=X at*;subst e;have i:w*Y<=(U+q*b)*Y:=P3 _ c;have g:(U+q*b)*Y+b*r=b*(q*Y+r)+U*Y:=by grind
 omega
theorem AF{n:Nat}{x y u a:Int}(h:Ib n x y u a)(c:Sg x y):a.natAbs<2^(n+2):=by
 unfold Ib at h;have b:1<=x.natAbs:=by unfold Sg at c;lia
 have:a.natAbs*1<=a.natAbs*x.natAbs:=GE _ b;have e:2^(n+2)=4*2^n:=by rw[cc];lia
 have:0<2^n:=P2 (by decide);lia
theorem dz(r:Rat):(r.den:Int)≠0:=by have:=r.den_nz;lia
theorem Tr{n:Int}{d:Nat}{r:Rat}(a:d≠0)(b:Nat.gcd n.natAbs d=1)(h:n*r.den=r.num*d):r.num=n/\(r.den:Int)=d:=by
 have e:r=⟨n,d,a,b⟩:=by rw[←UV r,Rat.mk_eq_divInt,ll (dz r) (by lia)];exact h.symm
 rw[e];exact⟨rfl,rfl⟩
theorem EX(x y:Int)(h:y≠0):∃b a:Int,x=(Int.gcd x y:Nat)*b/\y=(Int.gcd x y:Nat)*a/\Int.gcd b a=1/\0<((Int.gcd x y:Nat):Int):=by
 have f:0<Int.gcd x y:=Int.gcd_pos_of_ne_zero_right _ h;obtain⟨b,d⟩:((Int.gcd x y:Nat):Int)∣x:=ag ..;obtain⟨a,c⟩:((Int.gcd x y:Nat):Int)∣y:=Re ..;refine⟨b,a,d,c,?_,by lia⟩;have e:Int.gcd ((Int.gcd x y:Nat)*b) ((Int.gcd x y:Nat)*a)=Int.gcd x y*Int.gcd b a:=by rw[Int.gcd_mul_left];rfl
 rw[←d,←c]at e;have:Int.gcd x y*1=Int.gcd x y*Int.gcd b a:=by lia
 exact(Nat.eq_of_mul_eq_mul_left f this).symm
theorem NJ{g x a:Int}(h:x=g*a)(b:0<g):x/g=a:=by rw[h];exact fg _ (by lia)
theorem Tt{g y a:Int}(h:y=g*a)(b:0<g)(c:0<y):0<a:=by
 rcases oo 0 a with z|z
 ·exact z
 ·have:=Int.mul_nonpos_of_nonneg_of_nonpos (bj b) z;omega
theorem EY{n d:Int}{r:Rat}(b:0<d)(a:Int.gcd n d=1)(h:n*r.den=r.num*d):r.num=n/\(r.den:Int)=d:=by
 have e:((d.toNat:Nat):Int)=d:=by lia
 have:=Tr (n:=n) (d:=d.toNat) (r:=r) (by lia) (by unfold Int.gcd at a;rw[show d.toNat=d.natAbs by lia];exact a) (by rw[e];exact h);rw[e]at this;exact this
noncomputable def Bd(n:Nat)(r:Rat):Prop:=r.num.natAbs<2^n/\r.den<2^n
theorem Tu{n:Int}{d:Nat}(a:d≠0):(mkRat n d).num.natAbs<=n.natAbs/\(mkRat n d).den<=d:=by
 obtain⟨m,e,c,b⟩:=Rat.mkRat_num_den a (show mkRat n d=⟨(mkRat n d).num,(mkRat n d).den,(mkRat n d).den_nz,(mkRat n d).reduced⟩from rfl);constructor
 ·have:n.natAbs=(mkRat n d).num.natAbs*m:=by
   conv=>lhs;rw[c]
   rw[Fh,Int.natAbs_natCast]
  rw[this];exact Wp _ (by lia)
 ·conv=>rhs;rw[b]
  exact Wp _ (by lia)
theorem lt_mul{x y n m:Nat}(b:x<2^n)(a:y<2^m):x*y<2^(n+m):=by
 rw[cc];rcases hZ y with z|z
 ·subst z;have:=Nat.mul_pos (P2 (n:=n) (show 0<2 by decide)) (P2 (n:=m) (show 0<2 by decide));omega
 ·exact Fk (Nat.mul_lt_mul_of_pos_right b z) (GE _ (PQ a))
theorem Tv{n m:Nat}{a b:Rat}(e:Bd n a)(c:Bd m b):Bd (n+m) (a*b):=by have q:=Tu (n:=a.num*b.num) (d:=a.den*b.den) (Nat.mul_ne_zero a.den_nz b.den_nz);rw[←Rat.mul_def']at q;have g:=lt_mul e.1 c.1;have f:=lt_mul e.2 c.2;rw[Fh]at q;exact⟨by omega,by omega⟩
noncomputable def cf(as bs:List Int):Nat->Nat->Int
 |0,_=>0
 |i+1,k=>cf as bs i k+as.getD i 0*(if i<=k then bs.getD (k -i) 0 else 0)
noncomputable def IV(as bs:List Int)(i j k:Nat):Int:=cf as bs i k+(if i<=k/\k<i+j then as.getD i 0*bs.getD (k -i) 0 else 0)
theorem J6(as bs:List Int)(i k:Nat):IV as bs i 0 k=cf as bs i k:=by unfold IV;rw[Bi (by lia)];lia
theorem J7(as bs:List Int)(i k:Nat):IV as bs i bs.length k=cf as bs (i+1) k:=by
 unfold IV;rw[cf];by_cases h:i<=k
 ·by_cases a:k<i+bs.length
  ·rw[Bn ⟨h,a⟩,Bn h]
  ·have e:bs.getD (k -i) 0=0:=by rw[AC,FK (by lia)];rfl
   rw[Bi (by lia),Bn h,e,Pi]
 ·rw[Bi (by lia),Bi h,Pi]
theorem AG(as bs:List Int)(i j k:Nat):IV as bs i (j+1) k=IV as bs i j k+(if k=i+j then as.getD i 0*bs.getD j 0 else 0):=by
 unfold IV;by_cases h:k=i+j
 ·subst h;rw[Bn (by lia),Bi (by lia),Bn rfl,Pl];lia
 ·rw[Bi h];by_cases a:i<=k/\k<i+j
  ·rw[Bn (by lia),Bn a];lia
  ·rw[Bi (by lia),Bi a];lia
theorem NK{as bs:List Int}{i:Nat}(h:as.getD i 0=0)(k:Nat):cf as bs (i+1) k=cf as bs i k:=by rw[cf,h,Ts,de]
theorem uv(as bs:List Int)(k:Nat):∀i,i+bs.length<=k+1->cf as bs i k=0
 |0,_=>rfl
 |i+1,h=>by
  rw[cf,uv as bs k i (by lia)];have e:bs.getD (k -i) 0=0:=by rw[AC,FK (by lia)];rfl
  rw[Bn (by lia),e,Pi];rfl
noncomputable def gU(ns a:List Int):Prop:=∃k,k<=ns.length/\a=ns.take k/\(∀j,k<=j->j<ns.length->ns.getD j 0=0)/\(k=0\/ns.getD (k -1) 0≠0)
theorem gU.last{ns a:List Int}(h:gU ns a):a=[]\/a.getD (a.length -1) 0≠0:=by
 obtain⟨k,c,rfl,e,b⟩:=h;rcases b with q|q
 ·left;rw[q];rfl
 ·by_cases d:k=0
  ·left;rw[d];rfl
  ·right;rw[du,Nat.min_eq_left c,AC,mB (by lia),←AC];exact q
theorem gU.mem{ns a:List Int}(h:gU ns a):∀m∈a,m∈ns:=by obtain⟨k,_,rfl,_⟩:=h;exact λm b=>List.mem_of_mem_take b
noncomputable def gW(p:Int):Prop:=2<=p/\∀d:Int,2<=d->d*d<=p->p%d≠0
theorem nh{p x:Int}(d:gW p)(i:0<x)(m:x<p):Int.gcd p x=1:=by
 obtain⟨l,b⟩:=d;have j:0<Int.gcd p x:=Int.gcd_pos_of_ne_zero_left _ (by lia);obtain⟨q,a⟩:((Int.gcd p x:Nat):Int)∣p:=ag ..;have f:((Int.gcd p x:Nat):Int)<=x:=bo i (Re ..);generalize k:((Int.gcd p x:Nat):Int)=g at*;have n:1<=g:=by lia
 rcases oo 1 g with h|e
 ·exfalso
  have c:2<=q:=by
   rcases oo q 2 with z|z
   ·have:q<=1:=by lia
    have:=rn this (show 0<=g by lia);lia
   ·exact z
  rcases Int.le_total g q with z|z
  ·have:g*g<=g*q:=rn z (by lia);exact b g (by lia) (by lia) (my ⟨q,a⟩)
  ·have:q*q<=g*q:=gN z (by lia);exact b q c (by lia) (my ⟨g,by rw[a,UF]⟩)
 ·lia
theorem uw(t b:Int)(k:b≠0):((if b<0 then-((Int.gcd t b:Nat):Int)else((Int.gcd t b:Nat):Int))≠0)/\(Rat.divInt t b).num=t.fdiv (if b<0 then-((Int.gcd t b:Nat):Int)else((Int.gcd t b:Nat):Int))/\
 ((Rat.divInt t b).den:Int)=b.fdiv (if b<0 then-((Int.gcd t b:Nat):Int)else((Int.gcd t b:Nat):Int)):=by
 obtain⟨x,y,i,e,c,j⟩:=EX t b k;have m:=(ll (dz (Rat.divInt t b)) k).mp (UV (Rat.divInt t b));generalize((Int.gcd t b:Nat):Int)=g at*;generalize Rat.divInt t b=r at*;have gz:g≠0:=by lia
 have l:x*r.den=r.num*y:=by
  rw[i,e]at m;have:g*(x*r.den)=g*(r.num*y):=by grind
  exact SB gz this
 rcases oo b 0 with z|z
 ·rw[Bn z];have f:0< -y:=by
   rcases oo 0 (-y)with q|q
   ·exact q
   ·have:=Int.mul_nonneg (bj j) (show 0<=y by lia);lia
  have a:=EY (n:= -x) (d:= -y) (r:=r) f (by rw[Int.gcd_neg,Int.neg_gcd];exact c) (by grind);have h: -g≠0:=by lia
  refine⟨h,?_,?_⟩
  ·rw[a.1,i,show g*x= -g* -x by grind,mI _ h]
  ·rw[a.2,e,show g*y= -g* -y by grind,mI _ h]
 ·rw[Bi (by lia)];have f:=Tt e j (by lia);have a:=EY (r:=r) f c l;refine⟨gz,?_,?_⟩
  ·rw[a.1,i,mI _ gz]
  ·rw[a.2,e,mI _ gz]
theorem Dd(t b:Int)(a:b≠0):(Rat.divInt t b).num*b=t*(Rat.divInt t b).den:=(ll (dz _) a).mp (UV _)
theorem NL(t b:Int)(f:b≠0):(Rat.divInt t b).num.natAbs<=t.natAbs/\(Rat.divInt t b).den<=b.natAbs:=by
 have c:=Dd t b f;generalize Rat.divInt t b=r at*;have d:r.num.natAbs*b.natAbs=t.natAbs*r.den:=by have:=W1 Int.natAbs c;rw[Fh,Fh,Int.natAbs_natCast]at this;exact this
 have a:Nat.Coprime r.num.natAbs r.den:=r.reduced;have e:0<b.natAbs:=by lia
 have h:r.den∣b.natAbs:=a.symm.dvd_of_dvd_mul_left ⟨t.natAbs,by rw[d,kf]⟩;have g:r.num.natAbs∣t.natAbs:=a.dvd_of_dvd_mul_right ⟨b.natAbs,d.symm⟩;refine⟨?_,Nat.le_of_dvd e h⟩;rcases hZ t.natAbs with z|z
 ·rw[z,t4]at d;rcases Nat.mul_eq_zero.mp d with q|q
  ·lia
  ·lia
 ·exact Nat.le_of_dvd z g
noncomputable def ev(x:Rat):List Rat->Rat
 |[]=>0
 |r::rs=>r+x*ev x rs
noncomputable def wv(t b:Int):List Int->Int
 |[]=>0
 |x::s=>wv t b s*t+x*b^s.length
theorem EZ(x:Rat):x*((x.den:Int):Rat)=((x.num:Int):Rat):=by
 have h:=UV x;rw[XB]at h;have:((x.den:Int):Rat)≠0:=λz=>by have:=wy.mp (z.trans (show(0:Rat)=((0:Int):Rat)from rfl));have:=x.den_nz;lia
 grind
theorem Tw{b:Int}(h:b≠0):(b:Rat)≠0:=λz=>h (wy.mp (z.trans (show(0:Rat)=((0:Int):Rat)from rfl)))
theorem jD{x:Rat}{B:Int}(h:(x.den:Int)∣B):((x.num*(B/x.den):Int):Rat)=x*B:=by
 obtain⟨k,a⟩:=h;have e:B/(x.den:Int)=k:=by rw[a];exact fg _ (dz x)
 rw[e,a,FM,FM,←EZ x];grind
noncomputable def sm(f:Nat->Int):Nat->Int
 |0=>0
 |n+1=>sm f n+f n
theorem gg{f g:Nat->Int}:∀n,(∀i,i<n->f i=g i)->sm f n=sm g n
 |0,_=>rfl
 |n+1,h=>by rw[sm,sm,gg n λi a=>h i (by lia),h n (by lia)]
theorem yE(f:Nat->Int):∀n,sm f (n+1)=f 0+sm (λi=>f (i+1)) n
 |0=>by rw[sm,sm,sm];lia
 |n+1=>by rw[sm,yE f n,sm];lia
theorem De(f:Nat->Int):∀n,sm (λi=>f (n -i)) (n+1)=sm f (n+1)
 |0=>rfl
 |n+1=>by rw[yE,gg (g:=λi=>f (n -i)) (n+1) λi a=>by congr 1;lia,De f n];rw[sm,sm,sm];show f (n+1 -0)+(sm f n+f n)=_;rw[Nat.sub_zero];lia
theorem yF{f:Nat->Int}{m:Nat}:∀n,m<=n->(∀i,m<=i->i<n->f i=0)->sm f n=sm f m
 |0,h,_=>by
  have:m=0:=by lia
  rw[this]
 |n+1,h,z=>by
  by_cases e:m=n+1
  ·rw[e]
  ·rw[sm,yF n (by lia) (λi a b=>z i a (by lia)),z n (by lia) (by lia),de]
theorem AH(as bs:List Int)(k:Nat):∀n,cf as bs n k=sm (λi=>as.getD i 0*(if i<=k then bs.getD (k -i) 0 else 0)) n
 |0=>rfl
 |n+1=>by rw[cf,AH as bs k n,sm]
theorem sW(as bs:List Int)(k:Nat):cf as bs as.length k=sm (λi=>as.getD i 0*bs.getD (k -i) 0) (k+1):=by
 rw[AH];have a:∀i,as.length<=i->as.getD i 0=0:=λi h=>by rw[AC,FK h];rfl
 rcases Nat.le_total as.length (k+1)with h|h
 ·rw[←yF (k+1) h λi b _=>by rw[a i b,Ts]];exact gg _ λi c=>by rw[Bn (by lia)]
 ·rw[yF as.length h λi b _=>by rw[Bi (by lia),Pi]];exact gg _ λi c=>by rw[Bn (by lia)]
theorem NN(as bs:List Int)(k:Nat):cf as bs as.length k=cf bs as bs.length k:=by rw[sW,sW,←De];refine gg _ λi a=>?_;show as.getD (k -i) 0*bs.getD (k -(k -i)) 0=_;rw[show k -(k -i)=i by omega,UF]
noncomputable def ia(n:Nat)(f:Nat->Rat):List Rat:=(List.range n).map f
theorem fE(n:Nat)(f:Nat->Rat):(ia n f).length=n:=by unfold ia;simp
theorem E2{n:Nat}{f:Nat->Rat}{k:Nat}(h:k<n):(ia n f)[k]?=some (f k):=by unfold ia;rw[DD,Y2 h];rfl
theorem J8{n:Nat}{f g:Nat->Rat}{k:Nat}(h:k<n)(c:∀j,j<n->j≠k->g j=f j):(ia n f).set k (g k)=ia n g:=by
 apply cx;intro j;rw[oT];unfold ia;by_cases b:k=j
 ·subst b;rw[Bn rfl,Bn (by simpa using h)];simp[h]
 ·rw[Bi b];by_cases a:j<n
  ·simp[a,c j a (λz=>b z.symm)]
  ·simp[a]
theorem ux{n:Nat}{f:Nat->Rat}{x:Rat}(h:x∈ia n f):∃k,k<n/\x=f k:=by unfold ia at h;obtain⟨k,a,rfl⟩:=Hk.mp h;exact⟨k,cm.mp a,rfl⟩
theorem ic{rs:List Rat}{k:Nat}(h:rs.length<=k):rs.getD k 0=0:=by rw[AC,FK h];rfl
noncomputable def aH(l:List Rat):List Rat:=(l.reverse.dropWhile λx=>decide (x=0)).reverse
theorem oq(l:List Rat):aH (l++[0])=aH l:=by unfold aH;rw[List.reverse_append,List.reverse_singleton,List.singleton_append,List.dropWhile_cons,Bn (by simp)]
theorem ko(l:List Rat){x:Rat}(h:x≠0):aH (l++[x])=l++[x]:=by unfold aH;rw[List.reverse_append,List.reverse_singleton,List.singleton_append,List.dropWhile_cons,Bi (by simpa using h)];simp
theorem ou:∀(n:Nat)(l:List Rat)(k:Nat),l.length=n->k<=l.length->(∀j,k<=j->j<l.length->l.getD j 0=0)->(k=0\/l.getD (k -1) 0≠0)->aH l=l.take k
 |0,l,k,d,f,_,_=>by have:l=[]:=KE.mp d;subst this;simp[aH]
 |n+1,l,k,d,f,hz,h=>by
  have c:l≠[]:=λz=>by rw[z]at d;cases d
  obtain⟨b,x,rfl⟩:∃b x,l=b++[x]:=⟨l.dropLast,l.getLast c,(dA c).symm⟩;have a:b.length=n:=by simpa using d
  have g:(b++[x]).getD n 0=x:=by rw[AC,Fu (by lia),a,ei];rfl
  have i:∀j,j<n->(b++[x]).getD j 0=b.getD j 0:=λj q=>by rw[AC,He (by lia),←AC]
  rw[Ee,a]at f hz;simp only[List.length_cons,List.length_nil]at f hz;by_cases e:k=n+1
  ·subst e;rcases h with z|z
   ·lia
   ·rw[GM,g]at z;rw[ko _ z,wt (by simp[a])]
  ·have m:x=0:=by rw[←g];exact hz n (by lia) (by lia)
   subst m;rw[oq,List.take_append_of_le_length (by lia)];refine ou n b k a (by lia) (λj p r=>?_) ?_
   ·rw[←i j (by lia)];exact hz j p (by lia)
   ·rcases h with z|z
    ·exact .inl z
    ·by_cases o:k=0
     ·exact .inl o
     ·rw[i (k -1) (by lia)]at z;exact .inr z
theorem qT(l:List Rat):∃k,k<=l.length/\aH l=l.take k/\(k=0\/l.getD (k -1) 0≠0):=by
 generalize d:l.length=n
 induction n generalizing l with
 |zero=>have:l=[]:=KE.mp d;subst this;exact⟨0,Do _,rfl,.inl rfl⟩
 |succ n i=>
  have b:l≠[]:=λz=>by rw[z]at d;cases d
  obtain⟨c,x,rfl⟩:∃c x,l=c++[x]:=⟨l.dropLast,l.getLast b,(dA b).symm⟩;have a:c.length=n:=by simpa using d
  by_cases e:x=0
  ·subst e;obtain⟨k,j,g,f⟩:=i c a;refine⟨k,by lia,by rw[oq,g,List.take_append_of_le_length (by lia)],?_⟩;rcases f with z|z
   ·exact .inl z
   ·by_cases h:k=0
    ·exact .inl h
    ·right;rw[AC,He (by lia),←AC];exact z
  ·refine⟨n+1,Do _,by rw[ko _ e,wt (by simp[a])],.inr ?_⟩;rw[GM,AC,Fu (by lia),a,ei];exact e
theorem xy{l:List Rat}{x:Rat}(h:x∈aH l):x∈l:=by obtain⟨k,_,e,_⟩:=qT l;rw[e]at h;exact List.mem_of_mem_take h
theorem jE(l:List Rat):(aH l).length<=l.length:=by obtain⟨k,a,e,_⟩:=qT l;rw[e,du];lia
noncomputable def ay(l:List Rat):Prop:=∀x,l.getLast?=some x->x≠0
theorem bJ(l:List Rat):ay (aH l):=λx a=>by
 obtain⟨k,c,e,h⟩:=qT l;rw[e]at a;rcases h with z|z
 ·rw[z]at a;simp at a
 ·by_cases b:k=0
  ·rw[b]at a;simp at a
  ·have d:(l.take k).getLast?=some (l.getD (k -1) 0):=by rw[Ha,du,Nat.min_eq_left c,mB (by lia),AC,B1 (by lia)];rfl
   rw[d]at a;rw[←IR a];exact z
theorem uy{l:List Rat}(h:ay l):aH l=l:=by
 by_cases a:l=[]
 ·rw[a];rfl
 ·obtain⟨b,x,rfl⟩:∃b x,l=b++[x]:=⟨l.dropLast,l.getLast a,(dA a).symm⟩;exact ko _ (h x (by simp))
theorem rX{l:List Rat}(h:∀x∈l,x=0):aH l=[]:=by rw[ou _ l 0 rfl (Mo _) (λj _ a=>?_) (.inl rfl),List.take_zero];rw[AC,B1 a];exact h _ (Qr a)
noncomputable def yG(as bs:List Rat):Nat->Nat->Rat
 |0,_=>0
 |i+1,k=>yG as bs i k+as.getD i 0*(if i<=k then bs.getD (k -i) 0 else 0)
noncomputable def i6(as bs:List Rat)(i j k:Nat):Rat:=yG as bs i k+(if i<=k/\k<i+j then as.getD i 0*bs.getD (k -i) 0 else 0)
theorem Hx(as bs:List Rat)(i k:Nat):i6 as bs i 0 k=yG as bs i k:=by unfold i6;rw[Bi (by lia)];grind
theorem Hy(as bs:List Rat)(i k:Nat):i6 as bs i bs.length k=yG as bs (i+1) k:=by
 unfold i6;rw[yG];by_cases h:i<=k
 ·by_cases a:k<i+bs.length
  ·rw[Bn ⟨h,a⟩,Bn h]
  ·have e:bs.getD (k -i) 0=0:=ic (by omega);rw[Bi (by omega),Bn h,e,NA]
 ·rw[Bi (by omega),Bi h,NA]
theorem xA(as bs:List Rat)(i j k:Nat):i6 as bs i (j+1) k=i6 as bs i j k+(if k=i+j then as.getD i 0*bs.getD j 0 else 0):=by
 unfold i6;by_cases h:k=i+j
 ·subst h;rw[Bn (by lia),Bi (by lia),Bn rfl,Pl];grind
 ·rw[Bi h];by_cases a:i<=k/\k<i+j
  ·rw[Bn (by lia),Bn a];grind
  ·rw[Bi (by lia),Bi a];grind
noncomputable def mulQ(rs a:List Rat):List Rat:=ia (rs.length+a.length -1) (yG rs a rs.length)
theorem AI(rs:List Rat)(k:Nat):∀i,yG rs [] i k=0
 |0=>rfl
 |i+1=>by rw[yG,AI rs k i];have e:([]:List Rat).getD (k -i) 0=0:=rfl;rw[e];grind
theorem Ka{rs a:List Rat}(h:rs=[]\/a=[]):aH (mulQ rs a)=[]:=by
 refine rX λx b=>?_;obtain⟨k,_,rfl⟩:=ux b;rcases h with rfl|rfl
 ·rfl
 ·exact AI _ _ _
theorem Q4{n m:Nat}{as bs:List Int}(c:∀x∈as,x.natAbs<2^n)(b:∀x∈bs,x.natAbs<2^m)(k:Nat):∀i,(cf as bs i k).natAbs<=i*2^(n+m)
 |0=>by show 0<=_;lia
 |i+1=>by
  have g:∀{n:Nat}{as:List Int}(h:∀x∈as,x.natAbs<2^n)(j:Nat),(as.getD j 0).natAbs<2^n:=λ{n as} h j=>by
   by_cases a:j<as.length
   ·rw[AC,B1 a];exact h _ (Qr a)
   ·rw[AC,FK (by omega)];exact P2 (by decide)
  have d:=Q4 c b k i;have e:(as.getD i 0*(if i<=k then bs.getD (k -i) 0 else 0)).natAbs<2^(n+m):=by
   rw[Fh];refine lt_mul (g c i) ?_;split
   ·exact g b _
   ·exact P2 (by decide)
  rw[cf,ub];omega
theorem Kc{ns d:List Int}{B:Int}(a:B≠0)(h:gU ns d):d.map (λx=>Rat.divInt x B)=aH (ns.map λx=>Rat.divInt x B):=by
 obtain⟨k,m,rfl,l,i⟩:=h;have g:∀j,j<ns.length->(ns.map λx=>Rat.divInt x B).getD j 0=Rat.divInt (ns.getD j 0) B:=λj p=>by rw[AC,DD,AC,B1 p];rfl
 have f:∀x:Int,x≠0->Rat.divInt x B≠0:=λx o z=>by
  have e:Rat.divInt x B=Rat.divInt 0 B:=by rw[z,Rat.zero_divInt]
  have:=(ll a a).mp e;rw[Ts]at this;rcases Int.mul_eq_zero.mp this with q|q
  ·exact o q
  ·exact a q
 have c:=ou _ (ns.map λx=>Rat.divInt x B) k rfl (by rw[AN];exact m) (λj r b=>by
  rw[AN]at b;rw[g j b,l j r b,Rat.zero_divInt]) (by
  rcases i with z|z
  ·exact .inl z
  ·by_cases n:k=0
   ·exact .inl n
   ·rw[g (k -1) (by omega)];exact .inr (f _ z))
 rw[c,List.map_take]
theorem AJ(l:List Rat)(k:Nat):(l++[0]).getD k 0=l.getD k 0:=by
 rw[AC,AC];by_cases h:k<l.length
 ·rw[He h]
 ·rw[Fu (by lia),FK (l:=l) (by lia)];cases a:k -l.length with
  |zero=>rfl
  |succ n=>rfl
theorem o9(l:List Rat)(k:Nat):(aH l).getD k 0=l.getD k 0:=by
 generalize b:l.length=n
 induction n generalizing l with
 |zero=>have:l=[]:=KE.mp b;subst this;rfl
 |succ n e=>
  have a:l≠[]:=λz=>by rw[z]at b;cases b
  obtain⟨c,x,rfl⟩:∃c x,l=c++[x]:=⟨l.dropLast,l.getLast a,(dA a).symm⟩;by_cases d:x=0
  ·subst d;rw[oq,e c (by simpa using b),AJ]
  ·rw[ko _ d]
theorem Kd{l:List Rat}(h:ay l)(a:0<l.length):l.getD (l.length -1) 0≠0:=by refine h _ ?_;rw[Ha,B1 (by omega),AC,B1 (by omega)];rfl
theorem yH{a b:List Rat}(g:ay a)(c:ay b)(h:∀k,a.getD k 0=b.getD k 0):a=b:=by
 have d:∀{a b:List Rat},ay b->(∀k,a.getD k 0=b.getD k 0)->b.length<=a.length:=λ{a b} c h=>by
  rcases Nat.lt_or_ge a.length b.length with z|z
  ·exact absurd ((h _).symm.trans (ic (by lia))) (Kd c (by lia))
  ·exact z
 have e:a.length=b.length:=Nat.le_antisymm (d g λk=>(h k).symm) (d c h);apply cx;intro k;by_cases f:k<a.length
 ·have:=h k;rw[AC,AC,B1 f,B1 (show k<b.length by lia)]at this;rw[B1 f,B1 (show k<b.length by lia)];exact W1 some this
 ·rw[FK (by lia),FK (by lia)]
theorem yI{n:Nat}{f:Nat->Rat}(k:Nat):(ia n f).getD k 0=if k<n then f k else 0:=by
 by_cases h:k<n
 ·rw[Bn h,AC,E2 h];rfl
 ·rw[Bi h];exact ic (by rw[fE];lia)
noncomputable def gR(f:Nat->Rat):Nat->Rat
 |0=>0
 |n+1=>gR f n+f n
theorem gy{f g:Nat->Rat}:∀n,(∀i,i<n->f i=g i)->gR f n=gR g n
 |0,_=>rfl
 |n+1,h=>by rw[gR,gR,gy n λi a=>h i (by lia),h n (by lia)]
theorem jF{f:Nat->Rat}{m:Nat}:∀n,m<=n->(∀i,m<=i->i<n->f i=0)->gR f n=gR f m
 |0,h,_=>by
  have:m=0:=by lia
  rw[this]
 |n+1,h,z=>by
  by_cases e:m=n+1
  ·rw[e]
  ·rw[gR,jF n (by lia) (λi a b=>z i a (by lia)),z n (by lia) (by lia),Rat.add_zero]
noncomputable def aG(f g:Nat->Rat)(k:Nat):Rat:=gR (λi=>f i*g (k -i)) (k+1)
theorem Ke(as bs:List Rat)(k:Nat):∀n,yG as bs n k=gR (λi=>as.getD i 0*(if i<=k then bs.getD (k -i) 0 else 0)) n
 |0=>rfl
 |n+1=>by rw[yG,Ke as bs k n,gR]
theorem Tz(as bs:List Rat)(k:Nat):yG as bs as.length k=aG (λi=>as.getD i 0) (λi=>bs.getD i 0) k:=by
 rw[Ke];unfold aG;rcases Nat.le_total as.length (k+1)with h|h
 ·rw[←jF (k+1) h λi a _=>by rw[ic a,eP]];exact gy _ λi b=>by rw[Bn (by lia)]
 ·rw[jF as.length h λi a _=>by rw[Bi (by lia),NA]];exact gy _ λi b=>by rw[Bn (by lia)]
theorem Dg(a b:List Rat)(k:Nat):(mulQ a b).getD k 0=aG (λi=>a.getD i 0) (λi=>b.getD i 0) k:=by
 unfold mulQ;rw[yI];by_cases h:k<a.length+b.length -1
 ·rw[Bn h,Tz]
 ·rw[Bi h];unfold aG;rw[jF (m:=0) (k+1) (Mo _) λi _ d=>?_]
  ·rfl
  ·show a.getD i 0*b.getD (k -i) 0=0;by_cases c:i<a.length
   ·rw[ic (rs:=b) (by omega),NA]
   ·rw[ic (rs:=a) (by omega),eP]
theorem yJ(c:Int)(f:Nat->Int):∀n,sm (λi=>c*f i) n=c*sm f n
 |0=>by rw[sm,sm,Pi]
 |n+1=>by rw[sm,sm,yJ c f n,Int.mul_add]
theorem yK(f g:Nat->Int):∀n,sm (λi=>f i+g i) n=sm f n+sm g n
 |0=>rfl
 |n+1=>by rw[sm,sm,sm,yK f g n];lia
theorem yL(p:Nat)(v:Nat->Int):∀n,sm (λi=>if i=p then v i else 0) n=if p<n then v p else 0
 |0=>by rw[sm,Bi (by lia)]
 |n+1=>by
  rw[sm,yL p v n];by_cases h:p<n
  ·rw[Bn h,Bi (by lia),Bn (by lia)];lia
  ·rw[Bi h];by_cases e:n=p
   ·subst e;rw[Bn rfl,Bn (by lia)];lia
   ·rw[Bi e,Bi (by lia)];lia
noncomputable def bz(f g:Nat->Int)(k:Nat):Int:=sm (λi=>f i*g (k -i)) (k+1)
theorem pq(c h:Int)(Q O:Nat->Int)(p k:Nat):bz (λi=>c*Q i+if i=p then h else 0) O k=c*bz Q O k+if p<=k then h*O (k -p)else 0:=by
 unfold bz;rw[gg (g:=λi=>c*(Q i*O (k -i))+if i=p then h*O (k -i)else 0) (k+1) λi _=>?_,yK,yJ,yL p λi=>h*O (k -i)]
 ·by_cases a:p<=k
  ·rw[Bn a,Bn (show p<k+1 by lia)]
  ·rw[Bi a,Bi (show¬p<k+1 by lia)]
 ·split
  ·grind
  ·grind
theorem pA(O:Nat->Int)(k:Nat):bz (λ_=>0) O k=0:=by unfold bz;rw[gg (g:=λi=>0*0) (k+1) λi _=>by rw[Ts,Ts],yJ,Ts]
theorem yM{f g:Nat->Rat}{F G:Nat->Int}{A C:Rat}(c:∀i,f i*A=F i)(b:∀i,g i*C=G i)(k:Nat):aG f g k*(A*C)=((bz F G k:Int):Rat):=by
 unfold aG bz;have:∀n,gR (λi=>f i*g (k -i)) n*(A*C)=((sm (λi=>F i*G (k -i)) n:Int):Rat):=λn=>by
  induction n with
  |zero=>show 0*(A*C)=((0:Int):Rat);grind
  |succ n a=>rw[gR,sm,x5,FM,←a,←c n,←b (k -n)];grind
 exact this _
noncomputable def Dh(ns a:List Int)(l:Int)(s:Nat)(Q:Nat->Int)(R:List Int):Prop:=∀k,l^s*ns.getD k 0=bz Q (λi=>a.getD i 0) k+R.getD k 0
theorem Dh.start(ns a:List Int)(l:Int):Dh ns a l 0 (λ_=>0) ns:=λk=>by rw[pA,TC];lia
theorem outI{ns:List Int}{k:Nat}(h:ns.length<=k):ns.getD k 0=0:=by rw[AC,FK h];rfl
theorem Dh.step{ns a:List Int}{l:Int}{s p:Nat}{Q:Nat->Int}{R R':List Int}(h:Dh ns a l s Q R)(m:0<a.length)(c:l=a.getD (a.length -1) 0)(n:R.length=p+a.length)(d:R'.length=p+a.length -1)
 (b:∀k,k<p+a.length -1->R'.getD k 0=l*R.getD k 0 -if p<=k then R.getD (p+a.length -1) 0*a.getD (k -p) 0 else 0):
 Dh ns a l (s+1) (λi=>l*Q i+if i=p then R.getD (p+a.length -1) 0 else 0) R':=λk=>by
 rw[pq,Ki];have e:=h k;have j:l^s*l*ns.getD k 0=l*bz Q (λi=>a.getD i 0) k+l*R.getD k 0:=by rw[←Int.mul_add,←e];grind
 rw[j];by_cases g:k<p+a.length -1
 ·rw[b k g];lia
 ·by_cases f:k=p+a.length -1
  ·subst f;rw[outI (ns:=R') (by lia),Bn (by lia),show p+a.length -1 -p=a.length -1 by lia,←c];grind
  ·rw[outI (ns:=R) (k:=k) (by lia),outI (ns:=R') (by lia)];split
   ·rw[outI (ns:=a) (by lia)];grind
   ·grind
noncomputable def Cd(D:Int)(n:Nat)(x:Rat):Prop:=∃z:Int,x*D=z/\z.natAbs<2^n
theorem Cd.zero(D:Int)(n:Nat):Cd D n 0:=⟨0,by show(0:Rat)*D=((0:Int):Rat);grind,P2 (by decide)⟩
theorem Cd.up{D:Int}{n m:Nat}{x:Rat}(h:Cd D n x)(a:n<=m):Cd D m x:=by obtain⟨z,c,b⟩:=h;exact⟨z,c,Fk b (Kk (by decide) a)⟩
theorem Cd.dvd{D:Int}{n:Nat}{x:Rat}(h:Cd D n x):(x.den:Int)∣D/\(x.num*(D/x.den)).natAbs<2^n:=by
 obtain⟨z,a,f⟩:=h;have e:x.num*D=z*x.den:=by
  have e:=EZ x;have:((x.num*D:Int):Rat)=((z*x.den:Int):Rat):=by rw[FM,FM,←e,←a];grind
  exact wy.mp this
 have d:(x.den:Int)∣D:=by have c:Nat.Coprime x.den x.num.natAbs:=Nat.Coprime.symm x.reduced;have b:x.den∣x.num.natAbs*D.natAbs:=⟨z.natAbs,by have:=W1 Int.natAbs e;rw[Fh,Fh,Int.natAbs_natCast]at this;rw[this,kf]⟩;have:=c.dvd_of_dvd_mul_left b;rw[←Int.natAbs_natCast x.den]at this;exact pd.mp this
 refine⟨d,?_⟩;have:((x.num*(D/x.den):Int):Rat)=(z:Rat):=by rw[jD d,a]
 rw[wy.mp this];exact f
theorem Cd.of{D:Int}{n:Nat}{x:Rat}(d:(x.den:Int)∣D)(h:(x.num*(D/x.den)).natAbs<2^n):Cd D n x:=⟨_,(jD d).symm,h⟩
theorem Cd.eq{D:Int}{n:Nat}{x:Rat}(a:D≠0)(h:Cd D n x):∃z:Int,x=Rat.divInt z D/\z.natAbs<2^n:=by obtain⟨z,c,b⟩:=h;refine⟨z,?_,b⟩;rw[XB,←c];have:=Tw a;grind
theorem Cd.bd{D:Int}{n:Nat}{x:Rat}(a:D≠0)(h:Cd D n x)(b:D.natAbs<2^n):Bd n x:=by obtain⟨z,rfl,c⟩:=h.eq a;have:=NL z D a;exact⟨by lia,by lia⟩
theorem Cd.mul{b a:Int}{n m:Nat}{x y:Rat}(d:Cd b n x)(c:Cd a m y):Cd (b*a) (n+m) (x*y):=by obtain⟨z,g,a2⟩:=d;obtain⟨w,f,e⟩:=c;refine⟨z*w,by rw[FM,FM,←g,←f];grind,?_⟩;rw[Fh];exact lt_mul a2 e
theorem Cd.get{D:Int}{n:Nat}{rs:List Rat}(h:∀x∈rs,Cd D n x)(k:Nat):Cd D n (rs.getD k 0):=by
 by_cases a:k<rs.length
 ·rw[AC,B1 a];exact h _ (Qr a)
 ·rw[ic (by lia)];exact Cd.zero _ _
theorem Di{e b:Int}{n m:Nat}{rs a:List Rat}(d:∀x∈rs,Cd e n x)(c:∀x∈a,Cd b m x)(k:Nat):∀i,∃z:Int,yG rs a i k*((e*b:Int):Rat)=z/\z.natAbs<=i*2^(n+m)
 |0=>⟨0,by show(0:Rat)*_=((0:Int):Rat);grind,by simp⟩
 |i+1=>by
  obtain⟨z,h,a2⟩:=Di d c k i;have f:Cd b m (if i<=k then a.getD (k -i) 0 else 0):=by
   split
   ·exact Cd.get c _
   ·exact Cd.zero _ _
  obtain⟨w,g,j⟩:=(Cd.get d i).mul f;refine⟨z+w,?_,?_⟩
  ·rw[yG,x5,←h,←g];grind
  ·rw[ub];omega
theorem NO{c b:Int}{n m:Nat}{rs a:List Rat}(f:∀x∈rs,Cd c n x)(d:∀x∈a,Cd b m x)(i j k:Nat)(o:i<31):Cd (c*b) (n+m+5) (i6 rs a i j k):=by
 obtain⟨z,l,a2⟩:=Di f d k i;have g:Cd (c*b) (n+m) (if i<=k/\k<i+j then rs.getD i 0*a.getD (k -i) 0 else 0):=by
  split
  ·exact(Cd.get f i).mul (Cd.get d _)
  ·exact Cd.zero _ _
 obtain⟨w,h,p⟩:=g;unfold i6;refine⟨z+w,?_,?_⟩
 ·rw[x5,←l,←h];grind
 ·have e:2^(n+m+5)=32*2^(n+m):=by rw[cc];lia
  have:i*2^(n+m)<=30*2^(n+m):=P3 _ (by omega);omega
theorem NP{c b:Int}{n m:Nat}{rs a:List Rat}(g:∀x∈rs,Cd c n x)(f:∀x∈a,Cd b m x)(i:rs.length<31):∀x∈mulQ rs a,Cd (c*b) (n+m+5) x:=λx d=>by
 obtain⟨k,_,rfl⟩:=ux d;obtain⟨z,h,a2⟩:=Di g f k rs.length;refine⟨z,h,?_⟩;have e:2^(n+m+5)=32*2^(n+m):=by rw[cc];lia
 have:rs.length*2^(n+m)<=30*2^(n+m):=P3 _ (by lia);have:0<2^(n+m):=P2 (by decide);lia
theorem AK{a b c:Int}(h:Int.gcd a b=1)(e:a∣b*c):a∣c:=by
 have d:a.natAbs∣b.natAbs*c.natAbs:=by rw[←Fh];exact pd.mpr e
 exact pd.mp (Nat.Coprime.dvd_of_dvd_mul_left (show Nat.Coprime a.natAbs b.natAbs from h) d)
theorem Kf{B d D:Int}(k:d≠0)(m:B∣D)(l:d∣D):B/(Int.gcd B d:Nat)*d∣D:=by
 obtain⟨x,y,b,c,a,j⟩:=EX B d k;rw[show B/((Int.gcd B d:Nat):Int)=x from Num.NJ b j];obtain⟨u,f⟩:=m;obtain⟨v,i⟩:=l;generalize((Int.gcd B d:Nat):Int)=g at*;have e:x*u=y*v:=by
  have:g*(x*u)=g*(y*v):=by rw[←SU,←SU,←b,←c,←f,←i]
  exact SB (by lia) this
 obtain⟨w,h⟩:y∣u:=AK (by rw[Int.gcd_comm];exact a) ⟨v,e⟩;refine⟨w,?_⟩;rw[f,b,h,c];grind
theorem sX{ns b:List Int}(h:gU ns b)(k:Nat):b.getD k 0=ns.getD k 0:=by
 obtain⟨j,e,rfl,c,_⟩:=h;by_cases d:k<j
 ·rw[AC,mB d,←AC]
 ·rw[outI (by rw[du];lia)];by_cases a:k<ns.length
  ·exact(c k (by lia) a).symm
  ·exact(outI (by lia)).symm
theorem pB{ns a:List Int}(h:gU ns a):a.length<=ns.length:=by obtain⟨j,b,rfl,_⟩:=h;rw[du];lia
theorem Kg{l:Int}{M i:Nat}(h:l.natAbs<2^M):(l^i).natAbs<=2^(M*i):=by rw[Int.natAbs_pow,rg];exact dC (PQ h) _
theorem NQ{x y n m:Nat}(b:x<2^n)(a:y<=2^m):x*y<2^(n+m):=by rw[cc];exact On (GE _ a) (Nat.mul_lt_mul_of_pos_right b (P2 (by decide)))
end Num
namespace Sub
abbrev Ix:=Bool×Nat
abbrev Vc:=Ix->Int
noncomputable def ex(D:List Vc->Int)(r:Ix):List Vc->List Vc->Int
 |_,[]=>0
 |pre,c::post=>c r*D (pre++post) -ex D r (pre++[c]) post
noncomputable def det:List Ix->List Vc->Int
 |[],[]=>1
 |[],_::_=>0
 |r::rs,cs=>ex (det rs) r [] cs
noncomputable def Alt(D:List Vc->Int):Prop:=∀(p q:List Vc)(a b:Vc),D (p++a::b::q)= -D (p++b::a::q)
noncomputable def Hz(D:List Vc->Int):Prop:=∀(p q:List Vc)(x y:Int)(a b:Vc),D (p++(λi=>x*a i+y*b i)::q)=x*D (p++a::q)+y*D (p++b::q)
theorem E3{D:List Vc->Int}(h:Alt D)(r:Ix):∀(d p q:List Vc)(a b:Vc),ex D r (p++a::b::q) d= -ex D r (p++b::a::q) d
 |[],_,_,_,_=>rfl
 |c::d,p,q,a,b=>by have ih:=E3 h r d p (q++[c]) a b;have e:=h p (q++d) a b;simp only[ex,Kb,List.cons_append]at ih e⊢;rw[e,ih];grind
theorem E4{D:List Vc->Int}(h:Alt D)(r:Ix):∀(p d q:List Vc)(a b:Vc),ex D r d (p++a::b::q)= -ex D r d (p++b::a::q)
 |[],d,q,a,b=>by have e:=E3 h r q d [] a b;simp only[ex,List.nil_append,Kb,List.cons_append]at e⊢;rw[e];grind
 |c::p,d,q,a,b=>by have f:=E4 h r p (d++[c]) q a b;have e:=h (d++p) q a b;simp only[ex,List.cons_append,Kb]at f e⊢;rw[e,f];grind
theorem dH:∀rs:List Ix,Alt (det rs)
 |[]=>λp q a b=>by
  cases p<;>rfl
 |r::rs=>λp q a b=>E4 (dH rs) r p [] q a b
theorem E5{D:List Vc->Int}(h:Hz D)(r:Ix):∀(d p q:List Vc)(x y:Int)(a b:Vc),ex D r (p++(λi=>x*a i+y*b i)::q) d=x*ex D r (p++a::q) d+y*ex D r (p++b::q) d
 |[],_,_,_,_,_,_=>by simp[ex]
 |c::d,p,q,x,y,a,b=>by have ih:=E5 h r d p (q++[c]) x y a b;have e:=h p (q++d) x y a b;simp only[ex,Kb,List.cons_append]at ih e⊢;rw[e,ih];grind
theorem E6{D:List Vc->Int}(h:Hz D)(r:Ix):∀(p d q:List Vc)(x y:Int)(a b:Vc),ex D r d (p++(λi=>x*a i+y*b i)::q)=x*ex D r d (p++a::q)+y*ex D r d (p++b::q)
 |[],d,q,x,y,a,b=>by have e:=E5 h r q d [] x y a b;simp only[ex,List.nil_append]at e⊢;rw[e];grind
 |c::p,d,q,x,y,a,b=>by have f:=E6 h r p (d++[c]) q x y a b;have e:=h (d++p) q x y a b;simp only[ex,List.cons_append,Kb]at f e⊢;rw[e,f];grind
theorem jc:∀rs:List Ix,Hz (det rs)
 |[]=>λp q x y a b=>by
  cases p<;>simp[det]
 |r::rs=>λp q x y a b=>E6 (jc rs) r p [] q x y a b
theorem E7{D:List Vc->Int}{r:Ix}:∀(a b:List Vc),(∀c∈a,c r=0)->ex D r b a=0
 |[],_,_=>rfl
 |c::a,b,h=>by rw[ex,h c FV,E7 a _ λd e=>h d (FR _ e)];simp
theorem xB{r:Ix}{rs:List Ix}{c:Vc}{cs:List Vc}(h:∀d∈cs,d r=0):det (r::rs) (c::cs)=c r*det rs cs:=by rw[det,ex,E7 cs _ h,List.nil_append,oa]
theorem AL{D:List Vc->Int}(h:Alt D):∀(u p v:List Vc)(a:Vc),D (p++a::(u++a::v))=0
 |[],p,v,a=>by have:=h p v a a;simp only[List.nil_append]at this⊢;lia
 |c::u,p,v,a=>by have e:=h p (u++a::v) a c;have b:=AL h u (p++[c]) v a;simp only[Kb,List.cons_append,List.nil_append]at b e⊢;rw[e,b];rfl
theorem E8{D:List Vc->Int}(h:Alt D)(c:Hz D){p q:List Vc}{a b:Vc}(x y:Int)(d:b∈q):D (p++(λi=>x*a i+y*b i)::q)=x*D (p++a::q):=by obtain⟨u,v,rfl⟩:=List.append_of_mem d;rw[c,AL h u p v b,Pi,de]
noncomputable def sg(n:Nat):Int:=(-1)^n
theorem lD{D:List Vc->Int}(h:Alt D):∀(u p q:List Vc)(a:Vc),D (p++a::(u++q))=sg u.length*D (p++(u++a::q))
 |[],p,q,a=>by simp[sg]
 |c::u,p,q,a=>by have e:=h p (u++q) a c;have b:=lD h u (p++[c]) q a;simp only[Kb,List.cons_append,List.nil_append,List.length_cons]at b e⊢;rw[e,b];unfold sg;rw[Ki];grind
theorem gE{D:List Vc->Int}(h:Alt D):∀(w p u q:List Vc),D (p++(w++(u++q)))=sg (u.length*w.length)*D (p++(u++(w++q)))
 |[],p,u,q=>by simp[sg]
 |a::w,p,u,q=>by have ih:=gE h w (p++[a]) u q;have e:=lD h u p (w++q) a;simp only[Kb,List.cons_append,List.nil_append,List.length_cons]at ih e⊢;rw[ih,e];unfold sg;rw[Nat.mul_succ,kb];grind
noncomputable def sh(j:Nat)(P:Vc):Vc:=λi=>if j<=i.2 then P (i.1,i.2 -j)else 0
noncomputable def cE(P:Vc):Nat->List Vc
 |0=>[]
 |n+1=>sh n P::cE P n
noncomputable def rws:Nat->Nat->List Ix
 |_,0=>[]
 |0,_+1=>[]
 |E+1,c+1=>(false,E)::rws E c
theorem AM(E:Nat):rws E 0=[]:=by cases E<;>rfl
theorem NR(P:Vc):sh 0 P=P:=by funext i;unfold sh;rw[Bn (Mo _)];rfl
theorem Q5(j s:Nat)(P:Vc):sh j (sh s P)=sh (s+j) P:=by
 funext i;unfold sh;by_cases h:j<=i.2
 ·rw[Bn h];by_cases a:s+j<=i.2
  ·rw[Bn a,Bn (by show s<=i.2 -j;lia)];show P (i.1,i.2 -j -s)=P (i.1,i.2 -(s+j));congr 2;lia
  ·rw[Bi a,Bi (by show¬s<=i.2 -j;lia)]
 ·rw[Bi h,Bi (by lia)]
theorem eO(P:Vc):∀n,(cE P n).length=n
 |0=>rfl
 |n+1=>by rw[cE,List.length_cons,eO P n]
theorem yN{P:Vc}:∀{n i:Nat},i<n->sh i P∈cE P n
 |n+1,i,h=>by
  rw[cE];by_cases e:i=n
  ·rw[e];exact FV
  ·exact FR _ (yN (by lia))
theorem oz{P:Vc}:∀{n:Nat}{d:Vc},d∈cE P n->∃i,i<n/\d=sh i P
 |n+1,d,h=>by
  rw[cE]at h;rcases GT.mp h with h|h
  ·exact⟨n,by lia,h⟩
  ·obtain⟨i,a,e⟩:=oz h;exact⟨i,by lia,e⟩
theorem Dj{B:Vc}{n:Nat}{l:Int}(a:B (false,n)=l)(hz:∀t,n<t->B (false,t)=0){cs:List Vc}{b c:Nat}{tl:List Ix}(f:∀d∈cs,∀t,n+b<=t->d (false,t)=0):
 ∀s,det (rws (n+b+s) (c+s)++tl) (cE B (b+s)++cs)=l^s*det (rws (n+b) c++tl) (cE B b++cs)
 |0=>by simp
 |s+1=>by
  show det ((false,n+b+s)::(rws (n+b+s) (c+s)++tl)) (sh (b+s) B::(cE B (b+s)++cs))=_;rw[xB,Dj a hz f s]
  ·have e:sh (b+s) B (false,n+b+s)=l:=by unfold sh;rw[Bn (by show b+s<=n+b+s;lia),←a];show B (false,n+b+s -(b+s))=_;congr 2;lia
   rw[e,Ki];grind
  ·intro d g;rcases Iy.mp g with h|h
   ·obtain⟨i,j,rfl⟩:=oz h;unfold sh;split
    ·exact hz _ (by show n<n+b+s -i;lia)
    ·rfl
   ·exact f d h _ (by lia)
noncomputable def comb(c:Int)(a:Vc):List (Int×Vc)->Vc
 |[]=>λi=>c*a i+0*a i
 |z::L=>λi=>1*comb c a L i+z.1*z.2 i
theorem AO{D:List Vc->Int}(h:Alt D)(b:Hz D){p q:List Vc}{c:Int}{a:Vc}:∀{L:List (Int×Vc)},(∀z∈L,z.2∈q)->D (p++comb c a L::q)=c*D (p++a::q)
 |[],_=>by rw[comb,b];grind
 |z::L,d=>by rw[comb,E8 h b _ _ (d z FV),AO h b λy e=>d y (FR _ e),cq]
theorem E9(j:Nat)(c:Int)(a:Vc):∀L:List (Int×Vc),sh j (comb c a L)=comb c (sh j a) (L.map λz=>(z.1,sh j z.2))
 |[]=>by funext i;show sh j (comb c a []) i=c*sh j a i+0*sh j a i;unfold sh comb;split<;>simp
 |z::L=>by
  funext i;have ih:=congrFun (E9 j c a L) i;show sh j (comb c a (z::L)) i=1*comb c (sh j a) (L.map λz=>(z.1,sh j z.2)) i+z.1*sh j z.2 i;rw[←ih];unfold sh;split
  ·rfl
  ·simp
theorem pC{D:List Vc->Int}(h:Alt D)(d:Hz D){q:List Vc}{c:Int}{A:Vc}{L:List (Int×Vc)}:∀(a:Nat)(p:List Vc),(∀z∈L,∀j,j<a->sh j z.2∈q)->D (p++(cE (comb c A L) a++q))=c^a*D (p++(cE A a++q))
 |0,p,_=>by simp[cE]
 |a+1,p,b=>by
  have ih:=pC h d (c:=c) (A:=A) a (p++[sh a A]) λz hz j f=>b z hz j (by lia);rw[cE,cE,List.cons_append,E9,AO h d (λz hz=>?_)]
  ·simp only[Kb,List.cons_append,List.nil_append]at ih⊢;rw[ih,Ki];grind
  ·obtain⟨y,e,rfl⟩:=Hk.mp hz;exact Hn _ (b y e a (by lia))
noncomputable def SS(E:Nat)(A B:Vc)(a b:Nat)(c:Ix):Int:=det (rws E (a+b -1)++[c]) (cE A a++cE B b)
noncomputable def less(c:Int)(A B:Vc)(L:List (Int×Nat)):Vc:=comb c A (L.map λz=>(z.1,sh z.2 B))
theorem Fb{E:Nat}{A B:Vc}{c:Int}{L:List (Int×Nat)}{a b:Nat}(h:∀z∈L,z.2+a<=b)(d:Ix):SS E (less c A B L) B a b d=c^a*SS E A B a b d:=by
 unfold SS less;have e:=pC (dH (rws E (a+b -1)++[d])) (jc _) (q:=cE B b) (c:=c) (A:=A) (L:=L.map λz=>(z.1,sh z.2 B)) a [] λz hz j g=>by obtain⟨y,f,rfl⟩:=Hk.mp hz;rw[Q5];have:=h y f;exact yN (by lia)
 simp only[List.nil_append]at e;exact e
theorem Kh{E:Nat}{B R P:Vc}{c:Int}(h:∀i,R i=c*P i)(b a:Nat)(d:Ix):SS E B R b a d=c^a*SS E B P b a d:=by
 have f:R=comb c P []:=funext λi=>by rw[h i];show _=c*P i+0*P i;simp
 unfold SS;have e:=pC (dH (rws E (b+a -1)++[d])) (jc _) (q:=[]) (c:=c) (A:=P) (L:=[]) a (cE B b) λz hz=>nomatch hz;simp only[Kx]at e;rw[f,e]
theorem Fc{B R:Vc}{n:Nat}{l:Int}(f:B (false,n)=l)(hz:∀t,n<t->B (false,t)=0){z a b s:Nat}(h:∀t,z<=t->R (false,t)=0)(o:1<=a)(m:z+a<=n+b+1)(c:Ix):
 SS (n+b+s) R B a (b+s) c=sg ((b+s)*a)*(l^s*SS (n+b) B R b a c):=by
 unfold SS;have e:=gE (dH (rws (n+b+s) (a+(b+s) -1)++[c])) (cE R a) [] (cE B (b+s)) [];simp only[List.nil_append,Kx,eO]at e;rw[e];congr 1;rw[show a+(b+s) -1=b+a -1+s by lia];refine Dj f hz (λd g t j=>?_) s;obtain⟨i,k,rfl⟩:=oz g;unfold sh;split
 ·exact h _ (by show z<=t -i;lia)
 ·rfl
theorem Kl(E:Nat)(B R:Vc)(a:Ix):SS E B R 0 1 a=R a:=by unfold SS;show det (rws E 0++[a]) (sh 0 R::[])=_;rw[AM,List.nil_append,NR,xB (cs:=[]) (by intro d b;cases b)];show R a*1=R a;rw[dq]
theorem NS{A B:Vc}{n:Nat}{l:Int}(f:B (false,n)=l)(hz:∀t,n<t->B (false,t)=0)(s:Nat)(a:Ix):SS (n+1+s) A B 0 (1+s) a=l^s*B a:=by unfold SS;rw[show 0+(1+s) -1=0+s by lia];have e:=Dj f hz (cs:=[]) (b:=1) (c:=0) (tl:=[a]) (λd g=>nomatch g) s;simp only[Kx]at e;show det (rws (n+1+s) (0+s)++[a]) ([]++cE B (1+s))=_;rw[List.nil_append,e];congr 1;exact Kl (n+1) A B a
noncomputable def Km(a:Int):Prop:=a=1\/a= -1
theorem Km.sq{a:Int}(h:Km a):a*a=1:=by rcases h with rfl|rfl<;>rfl
theorem Km.mul{a b:Int}(h:Km a)(c:Km b):Km (a*b):=by rcases h with rfl|rfl<;>rcases c with rfl|rfl<;>first|exact .inl rfl|exact .inr rfl
theorem oA:∀n,Km (sg n)
 |0=>.inl rfl
 |n+1=>by have:=oA n;unfold sg at this⊢;rw[Ki];exact this.mul (.inr rfl)
theorem fF{x:Int}(h:x≠0):∀n:Nat,x^n≠0
 |0=>by rw[TC];decide
 |n+1=>by rw[Ki];exact PH (fF h n) h
theorem Kn(x y:Int):∀n:Nat,(x*y)^n=x^n*y^n
 |0=>by rw[TC,TC,TC];rfl
 |n+1=>by rw[Ki,Ki,Ki,Kn x y n];generalize x^n=a;generalize y^n=b;grind
theorem Ko(x:Int)(m:Nat):∀n:Nat,(x^m)^n=x^(m*n)
 |0=>by rw[Nat.mul_zero,TC,TC]
 |n+1=>by rw[Ki,Ko x m n,Nat.mul_succ,kb]
theorem Kq{l h h':Int}{b:Nat}(e:h'*h^b=l^b*h):∀a:Nat,(l^(b+1))^(a+1)*h^(b+a)=l^(b+(a+1))*h^(b*(a+1))*h'^a
 |0=>by rw[ke,Int.pow_one,TC,dq,Nat.mul_one];simp
 |a+1=>by
  have ih:=Kq e a;have d:(l^(b+1))^(a+1+1)*h^(b+(a+1))=((l^(b+1))^(a+1)*h^(b+a))*(l*(l^b*h)):=by rw[Ki (l^(b+1)) (a+1),←pj b a 1,Ki h (b+a),Ki l b];generalize(l^b*l)^(a+1)=x;generalize h^(b+a)=y;generalize l^b=z;grind
  have c:l^(b+(a+1+1))*h^(b*(a+1+1))*h'^(a+1)=(l^(b+(a+1))*h^(b*(a+1))*h'^a)*(l*(h'*h^b)):=by rw[←pj b (a+1) 1,Ki l (b+(a+1)),Nat.mul_succ b (a+1),kb h (b*(a+1)) b,Ki h' a];generalize l^(b+(a+1))=x;generalize h^(b*(a+1))=y;generalize h^b=z;generalize h'^a=u;grind
  rw[d,c,ih,e]
structure Ch(A B:Vc)(m n:Nat)(P Q:Vc)(p q:Nat)(lp lq h:Int):Prop where
 hpq:q<=p
 lp0:lp≠0
 h0:h≠0
 NT:lq≠0
 lead:Q (false,q)=lq
 zero:∀t,q<t->Q (false,t)=0
 inv:∀k,k<=q->k<p->∃ε:Int,Km ε/\∀ρ,SS (p+q -k) P Q (q -k) (p -k) ρ=ε*(lp^(q -k)*h^(p -k -1))*SS (m+n -k) A B (n -k) (m -k) ρ
theorem Ch.start{A B:Vc}{m n:Nat}{l:Int}(h:n<=m)(b:B (false,n)=l)(a:l≠0)(hz:∀t,n<t->B (false,t)=0):Ch A B m n A B m n 1 l 1:=
 ⟨h,by decide,by decide,a,b,hz,λk _ _=>⟨1,.inl rfl,λc=>by rw[Int.one_pow,Int.one_pow];simp⟩⟩
theorem Ch.rest{A B P Q:Vc}{m n p q:Nat}{g f h:Int}(H:Ch A B m n P Q p q g f h)(y:1<=q){L:List (Int×Nat)}(r:∀z∈L,z.2<=p -q)(o:∀t,q<=t->less (f^(p -q+1)) P Q L (false,t)=0):
 ∃e:Int,Km e/\∀d,less (f^(p -q+1)) P Q L d=e*(g*h^(p -q))*SS (m+n -(q -1)) A B (n -(q -1)) (m -(q -1)) d:=by
 have hpq:=H.hpq;obtain⟨e,x,inv⟩:=H.inv (q -1) (by lia) (by lia);refine⟨sg (p -q+1)*e,(oA _).mul x,λd=>?_⟩;have k:=inv d;rw[show p+q -(q -1)=q+0+(p -q+1) by lia,show q -(q -1)=1 by lia,show p -(q -1)=0+(p -q+1) by lia,show 0+(p -q+1) -1=p -q by lia,Int.pow_one]at k;have v:=Fb (E:=q+0+(p -q+1)) (A:=P) (B:=Q) (c:=f^(p -q+1)) (L:=L) (a:=1) (b:=0+(p -q+1)) (λz hz=>by have:=r z hz;lia) d;have j:=Fc H.lead H.zero (z:=q) (a:=1) (b:=0) (s:=p -q+1) o (Do _) (by lia) d;rw[v,Kl,Int.pow_one,show(0+(p -q+1))*1=p -q+1 by lia,k]at j;have w:=fF H.NT (p -q+1);have l:=(oA (p -q+1)).sq;generalize f^(p -q+1)=c at*;generalize less c P Q L d=R at*;generalize sg (p -q+1)=s at*;generalize h^(p -q)=i at*;generalize SS (m+n -(q -1)) A B (n -(q -1)) (m -(q -1)) d=S at*;have u:c*R=c*(s*e*(g*i)*S):=by
  have:c*(s*e*(g*i)*S)=s*(c*(e*(g*i)*S)):=by grind
  rw[this,j];have:s*(s*(c*R))=s*s*(c*R):=by grind
  rw[this,l,cq]
 exact SB w u
theorem Ch.step{A B P Q j:Vc}{m n p q r:Nat}{g d o h h':Int}(H:Ch A B m n P Q p q g d h){L:List (Int×Nat)}(T:∀z∈L,z.2<=p -q)(I:∀e,less (d^(p -q+1)) P Q L e=(g*h^(p -q))*j e)(N:r<q)(O:j (false,r)=o)(M:o≠0)(hz:∀t,r<t->j (false,t)=0)
 (D:h'*h^(p -q)=d^(p -q)*h):Ch A B m n Q j q r d o h':=by
 have hpq:=H.hpq;have F:h'≠0:=λz=>by rw[z,Ts]at D;exact PH (fF H.NT _) H.h0 D.symm
 refine⟨by lia,H.NT,F,M,O,hz,λk C f=>?_⟩;obtain⟨l,TF,inv⟩:=H.inv k (by lia) (by lia);refine⟨sg ((p -k)*(q -k))*l,(oA _).mul TF,λe=>?_⟩;have e0:=inv e;have e1:=Fb (E:=p+q -k) (A:=P) (B:=Q) (c:=d^(p -q+1)) (L:=L) (a:=q -k) (b:=p -k) (λz hz=>by have:=T z hz;lia) e;have G:=Fc (R:=less (d^(p -q+1)) P Q L) H.lead H.zero (z:=r+1) (a:=q -k) (b:=r -k) (s:=p -r) (λt ht=>by rw[I,hz t (by lia),Pi]) (by lia) (by lia) e;rw[Kh I,show q+(r -k)+(p -r)=p+q -k by lia,show r -k+(p -r)=p -k by lia,e1,e0,show q+(r -k)=q+r -k by lia]at G;have i:=Kq D (q -k -1);have K:=(oA ((p -k)*(q -k))).sq;have ck:(g*h^(p -q))^(q -k)=g^(q -k)*h^((p -q)*(q -k)):=by rw[Kn,Ko]
 have J:d^(p -r)*(g*h^(p -q))^(q -k)≠0:=PH (fF H.NT _) (fF (PH H.lp0 (fF H.h0 _)) _);refine SB J ?_;rw[Nat.sub_add_cancel (tx f),show p -q+(q -k -1)=p -k -1 by rw[Nat.sub_sub,wa hpq f,Nat.sub_sub],show p -q+(q -k)=(p -r)+(r -k) by rw[wa hpq (PQ f),wa (Da (PQ N) hpq) C],kb d (p -r) (r -k)]at i;rw[ck]at G⊢;generalize SS (q+r -k) Q j (r -k) (q -k) e=X at*;generalize SS (m+n -k) A B (n -k) (m -k) e=S at*;generalize sg ((p -k)*(q -k))=s at*;generalize(d^(p -q+1))^(q -k)=c at*;generalize g^(q -k)=u at*;generalize h^(p -k -1)=v at*;generalize d^(p -r)=x at*;generalize h^((p -q)*(q -k))=y at*;generalize d^(r -k)=z at*;generalize h'^(q -k -1)=w at*;have Z:x*(u*y)*X=s*s*(x*(u*y)*X):=by rw[K,cq]
 have Y:s*s*(x*(u*y)*X)=s*(s*(x*(u*y*X))):=by grind
 rw[Z,Y,←G];have U:s*(c*(l*(u*v)*S))=s*l*u*S*(c*v):=by grind
 rw[U,i];grind
end Sub
namespace Sub
open Num
theorem Q6{D:List Vc->Int}{r:Ix}{M b:Nat}:∀(a e:List Vc),(∀c∈a,(c r).natAbs<=M)->(∀u,(∀c∈u,c∈e\/c∈a)->u.length+1=e.length+a.length->(D u).natAbs<=b)->(ex D r e a).natAbs<=a.length*(M*b)
 |[],_,_,_=>by simp[ex]
 |c::a,e,h,g=>by
  rw[ex];have h1:=h c FV;have k:=g (e++a) (λd f=>by
   rcases Iy.mp f with z|z
   ·exact .inl z
   ·exact .inr (FR _ z)) (by simp only[Ee,List.length_cons];lia)
  have l:=Q6 (D:=D) (r:=r) (M:=M) (b:=b) a (e++[c]) (λd f=>h d (FR _ f)) (λu i j=>g u (λd f=>by
   rcases i d f with z|z
   ·rcases Iy.mp z with y|y
    ·exact .inl y
    ·rw[Fn]at y;rw[y];exact .inr FV
   ·exact .inr (FR _ z)) (by simp only[Ee,List.length_cons,List.length_nil]at j⊢;lia))
  have o:(c r*D (e++a)).natAbs<=M*b:=by rw[Fh];exact eI h1 k
  have n:(c r*D (e++a) -ex D r (e++[c]) a).natAbs<=(c r*D (e++a)).natAbs+(ex D r (e++[c]) a).natAbs:=by omega
  have m:(c::a).length*(M*b)=a.length*(M*b)+M*b:=by rw[List.length_cons,vw]
  omega
theorem Kr{N M:Nat}:∀(rs:List Ix)(cs:List Vc),cs.length<=N->(∀c∈cs,∀i,(c i).natAbs<=M)->(det rs cs).natAbs<=(N*M)^rs.length
 |[],[],_,_=>by simp[det]
 |[],_::_,_,_=>by simp[det]
 |r::rs,cs,g,e=>by
  rw[det];have:=Q6 (D:=det rs) (r:=r) (M:=M) (b:=(N*M)^rs.length) cs [] (λc d=>e c d r) (λu f a=>Kr rs u (by simp only[List.length_nil]at a;lia) λc d=>by
   rcases f c d with z|z
   ·cases z
   ·exact e c z)
  refine Da this ?_;rw[List.length_cons,Nat.pow_succ];have j:cs.length*(M*(N*M)^rs.length)<=N*(M*(N*M)^rs.length):=P3 _ g;have h:N*(M*(N*M)^rs.length)=(N*M)^rs.length*(N*M):=by generalize(N*M)^rs.length=x;grind
  lia
theorem Fd:∀(c E:Nat),(rws E c).length<=c
 |0,E=>by rw[AM];exact Do _
 |c+1,0=>Mo _
 |c+1,E+1=>by show(rws E c).length+1<=c+1;have:=Fd c E;lia
theorem Q7{P:Vc}{M:Nat}(h:∀i,(P i).natAbs<=M)(j:Nat)(i:Ix):(sh j P i).natAbs<=M:=by
 unfold sh;split
 ·exact h _
 ·exact Mo _
theorem Yc{A B:Vc}{N M a b:Nat}(l:∀i,(A i).natAbs<=M)(k:∀i,(B i).natAbs<=M)(g:a+b<=N)(m:1<=a+b)(f:1<=N*M)(E:Nat)(d:Ix):(SS E A B a b d).natAbs<=(N*M)^(a+b):=by
 unfold SS;have:=Kr (N:=N) (M:=M) (rws E (a+b -1)++[d]) (cE A a++cE B b) (by rw[Ee,eO,eO];exact g) (λc e i=>by
  rcases Iy.mp e with h|h
  ·obtain⟨j,_,rfl⟩:=oz h;exact Q7 l j i
  ·obtain⟨j,_,rfl⟩:=oz h;exact Q7 k j i)
 refine Da this (Kk f ?_);have:=Fd (a+b -1) E;rw[Ee];show _+1<=_;omega
theorem Km.abs{a x:Int}(h:Km a):(a*x).natAbs=x.natAbs:=by rcases h with rfl|rfl<;>lia
theorem Ch.NU{A B P Q:Vc}{m n p q:Nat}{e a h:Int}(H:Ch A B m n P Q p q e a h)(f:q<p):∃S:Int,a^(p -q)=h^(p -q -1)*S/\S.natAbs=(SS (m+n -q) A B (n -q) (m -q) (false,q)).natAbs:=by
 obtain⟨c,j,inv⟩:=H.inv q (Do _) f;obtain⟨d,k⟩:∃d,p=q+1+d:=⟨p -q -1,by lia⟩;have b:=inv (false,q);have i:=NS (A:=P) H.lead H.zero d (false,q);rw[show p+q -q=q+1+d by lia,show q -q=0 by lia,show p -q=1+d by lia,i,H.lead,show 1+d -1=d by lia,TC,cq]at b;have g:a^(p -q)=a^d*a:=by rw[←Ki];congr 1;lia
 refine⟨c*SS (m+n -q) A B (n -q) (m -q) (false,q),?_,j.abs⟩;rw[g,b,show p -q -1=d by lia];generalize SS (m+n -q) A B (n -q) (m -q) (false,q)=S;generalize h^d=x;grind
noncomputable def vc(r f:List Int):Vc:=λi=>if i.1 then f.getD i.2 0 else r.getD i.2 0
noncomputable def wj(Qs:List Int):Nat->List (Int×Nat)
 |0=>[]
 |n+1=>(-(Qs.getD n 0),n)::wj Qs n
theorem Fe{Qs:List Int}:∀{n:Nat}{z:Int×Nat},z∈wj Qs n->z.2<n
 |n+1,z,h=>by
  rcases GT.mp h with rfl|h
  ·exact OF n
  ·exact Ta (Fe h)
theorem Ff(c:Int)(A B:Vc)(Qs:List Int)(i:Ix):∀n,less c A B (wj Qs n) i=c*A i -sm (λj=>Qs.getD j 0*(if j<=i.2 then B (i.1,i.2 -j)else 0)) n
 |0=>by show c*A i+0*A i=c*A i -0;simp
 |n+1=>by
  have ih:=Ff c A B Qs i n;show 1*less c A B (wj Qs n) i+ -(Qs.getD n 0)*sh n B i=_;rw[ih,sm];have e:sh n B i=if n<=i.2 then B (i.1,i.2 -n)else 0:=rfl
  rw[e];generalize(if n<=i.2 then B (i.1,i.2 -n)else 0)=x;generalize sm _ n=y;generalize Qs.getD n 0=z;grind
theorem NV(c:Int)(P d Q a Qs:List Int)(b:Bool)(t:Nat):less c (vc P d) (vc Q a) (wj Qs Qs.length) (b,t)=c*(if b then d else P).getD t 0 -cf Qs (if b then a else Q) Qs.length t:=by
 rw[Ff,AH];cases b
 ·rfl
 ·rfl
end Sub
namespace Num
theorem yO{f g:Nat->Rat}(h:∀i,1<=i->f i=0)(k:Nat):aG f g k=f 0*g k:=by unfold aG;rw[jF (m:=1) (k+1) (by lia) λi a _=>by rw[h i a,eP]];show 0+f 0*g (k -0)=_;rw[Nat.sub_zero,so]
end Num
namespace Sub
open Num
structure CS(ns ms f0 g0:List Int)(w E b1:Nat)(P Q fP fQ:List Int)(ld h:Int):Prop where
 ch:Ch (vc ns f0) (vc ms g0) (ns.length -1) (ms.length -1) (vc P fP) (vc Q fQ) (P.length -1) (Q.length -1) ld (Q.getD (Q.length -1) 0) h
 lq:0<Q.length
 MS:Q.length<=P.length
 lp:P.length<=ns.length
 Q8:Q.length<=ms.length
 lf:fP.length+Q.length<=b1
 ZZ:fQ=[]\/fQ.length+P.length<=b1
 bP:∀i,(vc P fP i).natAbs<=2^(w*(ns.length -1+(ms.length -1)+1))
 bQ:∀i,(vc Q fQ i).natAbs<=2^(w*(ns.length -1+(ms.length -1)+1))
 bl:ld.natAbs<=2^(w*(ns.length -1+(ms.length -1)+1))
 bh:h.natAbs<=2^(w*(ns.length -1+(ms.length -1) -2*(P.length -1)))
structure FX(ns ms f0 g0:List Int)(w E:Nat):Prop where
 l1:ms.length<=ns.length
 l2:ns.length<=50
 M:∃M:Nat,(∀i,(vc ns f0 i).natAbs<=M)/\(∀i,(vc ms g0 i).natAbs<=M)/\1<=M/\(ns.length -1+(ms.length -1)+1)*M<=2^w
 E1:∀p,(ns.length -1+(ms.length -1) -2*p)*p+(ns.length -1+(ms.length -1)+1)<=E
theorem pD(x:Int):∀n:Nat,(x^n).natAbs=x.natAbs^n
 |0=>by simp
 |n+1=>by rw[Ki,Fh,pD x n,Nat.pow_succ]
theorem NW{a b k:Nat}(f:k<=b)(e:k<=a):b -k+(a -k)=a+b -2*k:=by obtain⟨c,rfl⟩:=Nat.exists_eq_add_of_le f;obtain⟨d,rfl⟩:=Nat.exists_eq_add_of_le e;rw[Pl,Pl,show k+d+(k+c)=c+d+2*k by lia,GM]
theorem Yd{ns a g f:List Int}{w E:Nat}(F:FX ns a g f w E){k:Nat}(d:k<=a.length -1)(o:1<=(a.length -1 -k)+(ns.length -1 -k))(e:Nat)(c:Ix):
 (SS e (vc ns g) (vc a f) (a.length -1 -k) (ns.length -1 -k) c).natAbs<=2^(w*(ns.length -1+(a.length -1) -2*k)):=by
 obtain⟨M,l,j,i,h⟩:=F.M;have l1:=F.l1;have n:1<=(ns.length -1+(a.length -1)+1)*M:=eI (show 1<=ns.length -1+(a.length -1)+1 by lia) i;have m:=Da d (rf l1 1);have b:=Yc (N:=ns.length -1+(a.length -1)+1) l j (Nat.le_succ_of_le (by rw[ey];exact Nat.add_le_add (Nat.sub_le _ _) (Nat.sub_le _ _))) o n e c;refine Da b ?_;rw[rg,NW d m];exact dC h _
theorem getD_mem'{ns:List Int}{k:Nat}(h:k<ns.length):ns.getD k 0∈ns:=by rw[AC,B1 h];exact Qr h
theorem mem_getD{ns:List Int}{x:Int}(h:x∈ns):∃k,k<ns.length/\ns.getD k 0=x:=by obtain⟨i,a,e⟩:=TK h;exact⟨i,a,by rw[AC,B1 a,←e];rfl⟩
theorem map_getD{ns:List Int}{f:Int->Int}(a:f 0=0)(k:Nat):(ns.map f).getD k 0=f (ns.getD k 0):=by
 rw[AC,DD,AC];cases ns[k]? with
 |none=>exact a.symm
 |some z=>rfl
noncomputable def hnext(h l:Int)(a:Nat):Int:=if a=0 then h else(l^a).fdiv (h^(a -1))
theorem CS.step{ns g D B P Q q n Qs R F:List Int}{w E b1:Nat}{d h c:Int}(X:FX ns g D B w E)(C:CS ns g D B w E b1 P Q q n d h)(G:2<=Q.length)(hc:c=Q.getD (Q.length -1) 0^(P.length -Q.length+1))(WH:Qs.length=P.length -Q.length+1)
 (hR:∀k,R.getD k 0=c*P.getD k 0 -cf Qs Q Qs.length k)(lR:R.length<Q.length)(zR:R=[]\/R.getD (R.length -1) 0≠0)(hF:∀k,F.getD k 0=c*q.getD k 0 -cf Qs n Qs.length k)(u:F.length<=max q.length (Qs.length+n.length -1))(WJ:n=[]->F.length<=q.length):
 d*h^(P.length -Q.length)≠0/\(d*h^(P.length -Q.length)).natAbs<=2^(w*E)/\(∀x∈R,d*h^(P.length -Q.length)∣x)/\(∀x∈F,d*h^(P.length -Q.length)∣x)/\(0<P.length -Q.length->h^(P.length -Q.length -1)≠0/\(h^(P.length -Q.length -1)).natAbs<=2^(w*E))/\
 (∀i,(vc (R.map λx=>x.fdiv (d*h^(P.length -Q.length))) (F.map λx=>x.fdiv (d*h^(P.length -Q.length))) i).natAbs<=2^(w*(ns.length -1+(g.length -1)+1)))/\
 (R≠[]->CS ns g D B w E b1 Q (R.map λx=>x.fdiv (d*h^(P.length -Q.length))) n (F.map λx=>x.fdiv (d*h^(P.length -Q.length))) (Q.getD (Q.length -1) 0) (hnext h (Q.getD (Q.length -1) 0) (P.length -Q.length))):=by
 have ch:=C.ch;have MS:=C.MS;have lp:=C.lp;have l1:=X.l1;have lf:=C.lf;have Q8:=C.Q8;obtain⟨a,r⟩:∃a,P.length -Q.length=a:=⟨_,rfl⟩;have j:P.length -1 -(Q.length -1)=a:=by rw[Nat.sub_sub,Nat.add_sub_cancel' (PQ G)];exact r
 have hL:∀z∈wj Qs Qs.length,z.2<=P.length -1 -(Q.length -1):=λz hz=>by have:=Fe hz;lia
 have O:∀(b:Bool)(t:Nat),less c (vc P q) (vc Q n) (wj Qs Qs.length) (b,t)=(if b then F else R).getD t 0:=λb t=>by
  rw[NV];cases b
  ·exact(hR t).symm
  ·exact(hF t).symm
 have NT:=ch.NT;generalize A:Q.getD (Q.length -1) 0=J at*;have l:J^(P.length -1 -(Q.length -1)+1)=c:=by rw[hc,j,r]
 have o:d*h^a≠0:=PH ch.lp0 (fF ch.h0 _);obtain⟨U,TF,rest⟩:=ch.rest (L:=wj Qs Qs.length) (by lia) hL (λt ht=>by rw[l,O];exact outI (by show R.length<=t;lia));rw[l,j]at rest;have bk:(d*h^a).natAbs<=2^(w*E):=by
  rw[Fh,pD];have m:=X.E1 (P.length -1);have H:h.natAbs^a<=2^(w*(ns.length -1+(g.length -1) -2*(P.length -1))*a):=by rw[rg];exact dC C.bh a
  refine Da (eI C.bl H) ?_;rw[←cc];refine Kk (by decide) ?_;rw[Nat.mul_assoc,←Nat.mul_add];refine GE _ ?_;have:(ns.length -1+(g.length -1) -2*(P.length -1))*a<=(ns.length -1+(g.length -1) -2*(P.length -1))*(P.length -1):=GE _ (by lia);lia
 have I:∀(b:Bool)(t:Nat),(d*h^a)∣(if b then F else R).getD t 0:=λb t=>by rw[←O,rest];exact⟨U*SS (ns.length -1+(g.length -1) -(Q.length -1 -1)) (vc ns D) (vc g B) (g.length -1 -(Q.length -1 -1)) (ns.length -1 -(Q.length -1 -1)) (b,t),by grind⟩
 have dR:∀x∈R,d*h^a∣x:=λx M=>by obtain⟨k,_,rfl⟩:=mem_getD M;exact I false k
 have dF:∀x∈F,d*h^a∣x:=λx M=>by obtain⟨k,_,rfl⟩:=mem_getD M;exact I true k
 have fd:∀(b:Bool)(t:Nat),((if b then F else R).map λx=>x.fdiv (d*h^a)).getD t 0*(d*h^a)=(if b then F else R).getD t 0:=λb t=>by rw[map_getD (f:=λx=>x.fdiv (d*h^a)) (Int.zero_fdiv _),mn (I b t),sk (I b t)]
 have Y:∀i,vc (R.map λx=>x.fdiv (d*h^a)) (F.map λx=>x.fdiv (d*h^a)) i*(d*h^a)=less c (vc P q) (vc Q n) (wj Qs Qs.length) i:=λi=>by obtain⟨b,t⟩:=i;rw[O,←fd b t];cases b<;>rfl
 have Z:∀i,(vc (R.map λx=>x.fdiv (d*h^a)) (F.map λx=>x.fdiv (d*h^a)) i).natAbs<=2^(w*(ns.length -1+(g.length -1)+1)):=λi=>by
  have m:=Y i;rw[rest]at m;have T:vc (R.map λx=>x.fdiv (d*h^a)) (F.map λx=>x.fdiv (d*h^a)) i=U*SS (ns.length -1+(g.length -1) -(Q.length -1 -1)) (vc ns D) (vc g B) (g.length -1 -(Q.length -1 -1)) (ns.length -1 -(Q.length -1 -1)) i:=by refine Int.eq_of_mul_eq_mul_right o ?_;rw[m];grind
  rw[T,TF.abs];refine Da (Yd X (Da (Nat.sub_le _ _) (rf Q8 1)) (Da (tx (Fk (Nat.sub_lt (tx G) Nat.one_pos) (rf Q8 1))) (T2 _ _)) _ _) (Kk (by decide) (GE _ (Nat.le_succ_of_le (Nat.sub_le _ _))))
 rw[r];refine⟨o,bk,dR,dF,λp=>⟨fF ch.h0 _,?_⟩,Z,λYe=>?_⟩
 ·rw[pD];have m:=X.E1 (P.length -1);have H:h.natAbs^(a -1)<=2^(w*(ns.length -1+(g.length -1) -2*(P.length -1))*(a -1)):=by rw[rg];exact dC C.bh _
  refine Da H (Kk (by decide) ?_);rw[Nat.mul_assoc];refine GE _ ?_;have:(ns.length -1+(g.length -1) -2*(P.length -1))*(a -1)<=(ns.length -1+(g.length -1) -2*(P.length -1))*(P.length -1):=GE _ (by clear H m p bk o l NT hc A j;lia);lia
 have AQ:0<R.length:=Dx.mpr Ye;have zl:=zR.resolve_left Ye;have h2:∃S:Int,hnext h J a=S/\S*h^a=J^a*h/\S.natAbs<=2^(w*(ns.length -1+(g.length -1) -2*(Q.length -1))):=by
  by_cases p:a=0
  ·refine⟨h,by unfold hnext;rw[Bn p],by rw[p,TC,TC,dq,cq],?_⟩;have:=C.bh;rw[Nat.le_antisymm (Nat.le_of_sub_eq_zero (r.trans p)) MS]at this;exact this
  ·have v:Q.length<P.length:=Nat.lt_of_sub_ne_zero (by rw[r];exact p);obtain⟨S,m,T⟩:=ch.NU (Nat.sub_lt_sub_right (PQ G) v);rw[j]at m;have N:h^(a -1)≠0:=fF ch.h0 _;refine⟨S,?_,?_,?_⟩
   ·unfold hnext;rw[Bi p,m,mn ⟨S,rfl⟩,fg S N]
   ·have e3:h^a=h^(a -1)*h:=by rw[←Ki];congr 1;lia
    rw[m,e3];generalize h^(a -1)=x;grind
   ·rw[T];exact Yd X (rf Q8 1) (Da (tx (Nat.sub_lt_sub_right (PQ G) (Fk v lp))) (Nat.le_add_left _ _)) _ _
 obtain⟨S,hS,hh,bS⟩:=h2;rw[hS];have s:(R.map λx=>x.fdiv (d*h^a)).length=R.length:=AN _;have K:(F.map λx=>x.fdiv (d*h^a)).length=F.length:=AN _;have ql:(R.map λx=>x.fdiv (d*h^a)).getD (R.length -1) 0≠0:=λz=>by have e:=fd false (R.length -1);simp only[Bool.false_eq_true,if_false]at e;rw[z,Ts]at e;exact zl e.symm
 refine⟨?_,by rw[s];exact AQ,by rw[s];exact PQ lR,Da Q8 l1,by rw[s];exact Da (PQ lR) Q8,?_,?_,C.bQ,Z,?_,bS⟩
 ·rw[s];refine ch.step (L:=wj Qs Qs.length) hL (λi=>?_) (by lia) rfl ql (λt ht=>?_) (by rw[j];exact hh)
  ·rw[l,j,←Y i,UF]
  ·exact outI (by show(R.map λx=>x.fdiv (d*h^a)).length<=t;rw[s];lia)
 ·rw[s];rcases C.ZZ with z|z
  ·rw[z];show 0+_<=_;lia
  ·lia
 ·rw[K];rcases C.ZZ with z|z
  ·right;exact Da (rk (WJ z) _) lf
  ·right;rw[WH,r,i5,GM]at u;rw[(Nat.sub_eq_iff_eq_add MS).mp r]at z;rcases Nat.le_total q.length (a+n.length)with y|y
   ·rw[Nat.max_eq_right y]at u;refine Da (rk u _) (Da (hV ?_) z);rw[ey a,pj]
   ·rw[Nat.max_eq_left y]at u;exact Da (rk u _) lf
 ·have:=C.bQ (false,Q.length -1);rw[←A];exact this
end Sub
namespace Num
noncomputable def yP(p:Int)(ns a:List Int)(Q:Nat->Int)(R:List Int):Prop:=∀k,p∣ns.getD k 0 -(bz Q (λi=>a.getD i 0) k+R.getD k 0)
theorem yP.start(p:Int)(ns a:List Int):yP p ns a (λ_=>0) ns:=λk=>by rw[pA,t5,km];exact Y1 _
theorem TH(h:Int)(Q O:Nat->Int)(p k:Nat):bz (λi=>Q i+if i=p then h else 0) O k=bz Q O k+if p<=k then h*O (k -p)else 0:=by have:=pq 1 h Q O p k;rw[cq]at this;rw[←this];congr 1;funext i;rw[cq]
theorem Fg{p a b:Int}(e:p∣a)(d:p∣b){c:Int}(h:c=a+b):p∣c:=by rw[h];exact n4 e d
theorem yP.step{p:Int}{ns a:List Int}{l:Int}{pl:Nat}{Q:Nat->Int}{R R':List Int}{h:Int}(d:yP p ns a Q R)(s:0<a.length)(j:l=a.getD (a.length -1) 0)(t:R.length=pl+a.length)(m:R'.length=pl+a.length -1)(b:p∣h*l -R.getD (pl+a.length -1) 0)
 (g:∀k,k<pl+a.length -1->p∣R'.getD k 0 -(R.getD k 0 -if pl<=k then h*a.getD (k -pl) 0 else 0)):
 yP p ns a (λi=>Q i+if i=pl then h else 0) R':=λk=>by
 rw[TH];have e:=d k;generalize ns.getD k 0=n at*;generalize bz Q (λi=>a.getD i 0) k=c at*;by_cases q:k<pl+a.length -1
 ·have:=g k q;generalize R'.getD k 0=f at*;generalize R.getD k 0=r at*;show p∣n -(c+(if pl<=k then h*a.getD (k -pl) 0 else 0)+f);generalize(if pl<=k then h*a.getD (k -pl) 0 else 0)=x at*;exact Fg e (Int.dvd_neg.mpr this) (by lia)
 ·by_cases o:k=pl+a.length -1
  ·rw[←o]at b;rw[outI (ns:=R') (by lia),Bn (by lia)];show p∣n -(c+h*a.getD (k -pl) 0+0);rw[show k -pl=a.length -1 by lia,←j];generalize R.getD k 0=r at*;exact Fg e (Int.dvd_neg.mpr b) (by lia)
  ·rw[outI (ns:=R) (k:=k) (by lia)]at e;rw[outI (ns:=R') (by lia)];have z:(if pl<=k then h*(λi=>a.getD i 0) (k -pl)else 0)=0:=by
    split
    ·show h*a.getD (k -pl) 0=0;rw[outI (by lia),Pi]
    ·rfl
   rw[z];rw[show n -(c+0+0)=n -(c+0) by lia];exact e
theorem sY{p:Int}(b:0<p){ns:List Int}(h:∀x∈ns,0<=x/\x<p)(k:Nat):0<=ns.getD k 0/\ns.getD k 0<p:=by
 by_cases a:k<ns.length
 ·rw[AC,B1 a];exact h _ (Qr a)
 ·rw[outI (by lia)];exact⟨by lia,b⟩
theorem HA{p x l:Int}(b:gW p)(a:0<l/\l<p)(h:p∣x*l):p∣x:=by have c:=nh b a.1 a.2;exact AK c (by rw[UF]at h;exact h)
theorem Dl(f g:Nat->Int):∀n,sm f n -sm g n=sm (λi=>f i -g i) n
 |0=>rfl
 |n+1=>by rw[sm,sm,sm,←Dl f g n];lia
theorem jG(f g:Nat->Int)(k:Nat):bz f g k=bz g f k:=by unfold bz;rw[←De];refine gg _ λi a=>?_;show f (k -i)*g (k -(k -i))=g i*f (k -i);rw[show k -(k -i)=i by lia,UF]
theorem pF{f f' g g':Nat->Int}(b:∀i,f i=f' i)(a:∀i,g i=g' i)(k:Nat):bz f g k=bz f' g' k:=by rw[show f=f' from funext b,show g=g' from funext a]
theorem pG(f g h:Nat->Int)(k:Nat):bz (λi=>f i+g i) h k=bz f h k+bz g h k:=by unfold bz;rw[←yK];exact gg _ λi _=>Int.add_mul ..
theorem pH(c:Int)(f h:Nat->Int)(k:Nat):bz (λi=>c*f i) h k=c*bz f h k:=by unfold bz;rw[←yJ];exact gg _ λi _=>SU ..
theorem Ks(f g h:Nat->Int)(k:Nat):bz f (λi=>g i+h i) k=bz f g k+bz f h k:=by rw[jG,pG,jG g,jG h]
theorem jH(f g:Nat->Int):bz f g 0=f 0*g 0:=by unfold bz;rw[sm,sm];show 0+f 0*g (0 -0)=_;rw[t5]
theorem pI(f g:Nat->Int)(k:Nat):bz f g (k+1)=f 0*g (k+1)+bz (λi=>f (i+1)) g k:=by unfold bz;rw[yE];congr 1;exact gg _ λi a=>by show f (i+1)*g (k+1 -(i+1))=f (i+1)*g (k -i);rw[show k+1 -(i+1)=k -i by lia]
theorem mL(g h:Nat->Int):∀(k:Nat)(f:Nat->Int),bz (bz f g) h k=bz f (bz g h) k
 |0,f=>by rw[jH,jH,jH,jH,SU]
 |k+1,f=>by rw[pI,pI f,jH,pI g];have e:(λi=>bz f g (i+1))=λi=>f 0*g (i+1)+bz (λi=>f (i+1)) g i:=funext λi=>pI f g i;rw[e,pG,pH,mL g h k];generalize bz (λi=>g (i+1)) h k=x;generalize bz (λi=>f (i+1)) (bz g h) k=y;generalize h (k+1)=z;grind
theorem NX{f g:Nat->Int}{n m:Nat}(d:∀i,n<=i->f i=0)(c:∀i,m<=i->g i=0){k:Nat}(h:n+m<=k+1):bz f g k=0:=by
 unfold bz;rw[gg (g:=λ_=>0) _ λi e=>?_]
 ·have:∀n,sm (λ_=>0) n=0:=λn=>by
   induction n with
   |zero=>rfl
   |succ n b=>rw[sm,b];rfl
  exact this _
 ·show f i*g (k -i)=0;by_cases a:n<=i
  ·rw[d i a,Ts]
  ·rw[c _ (by lia),Pi]
abbrev co(a:List Int):Nat->Int:=λi=>a.getD i 0
theorem Fi(a b:List Int)(k:Nat):cf a b a.length k=bz (co a) (co b) k:=sW a b k
end Num
namespace Sub
open Num
theorem CS.size{ns a f e P Q l k:List Int}{w E n:Nat}{c h:Int}(X:FX ns a f e w E)(C:CS ns a f e w E n P Q l k c h)(g:2<=Q.length):
 c*h^(P.length -Q.length)≠0/\(c*h^(P.length -Q.length)).natAbs<=2^(w*E)/\(0<P.length -Q.length->h^(P.length -Q.length -1)≠0/\(h^(P.length -Q.length -1)).natAbs<=2^(w*E)):=by
 have ch:=C.ch;have m:=X.E1 (P.length -1);have MS:=C.MS;generalize o:P.length -Q.length=b at*;have d:∀j,j<=b->(h^j).natAbs<=2^(w*((ns.length -1+(a.length -1) -2*(P.length -1))*(P.length -1))):=λj p=>by
  rw[pD];have i:h.natAbs^j<=2^(w*(ns.length -1+(a.length -1) -2*(P.length -1))*j):=by rw[rg];exact dC C.bh j
  refine Da i (Kk (by decide) ?_);rw[Nat.mul_assoc];exact GE _ (GE _ (by lia))
 refine⟨PH ch.lp0 (fF ch.h0 _),?_,λ_=>⟨fF ch.h0 _,?_⟩⟩
 ·rw[Fh];refine Da (eI C.bl (d b (Do _))) ?_;rw[←cc,←Nat.mul_add];exact Kk (by decide) (GE _ (by lia))
 ·exact Da (d (b -1) (by clear o MS m g;lia)) (Kk (by decide) (GE _ (by lia)))
theorem CS.start{ns a c b:List Int}{w E d:Nat}(X:FX ns a c b w E)(k:0<a.length)(f:a.getD (a.length -1) 0≠0)(m:c.length+a.length<=d)(l:b=[]\/b.length+ns.length<=d):CS ns a c b w E d ns a c b 1 1:=by
 obtain⟨M,j,h,n,g⟩:=X.M;have l1:=X.l1;have e:M<=2^(w*(ns.length -1+(a.length -1)+1)):=by refine Da (Da (wb M (show 0<ns.length -1+(a.length -1)+1 by omega)) g) (Kk (by decide) ?_);exact Wp w (by omega)
 refine⟨Ch.start (by omega) rfl f (λt o=>outI (by omega)),k,l1,Do _,Do _,m,l,λi=>Da (j i) e,λi=>Da (h i) e,P2 (by decide),P2 (by decide)⟩
theorem CS.bd{ns b g f P Q d c:List Int}{w E i:Nat}{e h:Int}(C:CS ns b g f w E i P Q d c e h):(∀x∈P,x.natAbs<=2^(w*(ns.length -1+(b.length -1)+1)))/\(∀x∈Q,x.natAbs<=2^(w*(ns.length -1+(b.length -1)+1)))/\(∀x∈d,x.natAbs<=2^(w*(ns.length -1+(b.length -1)+1)))/\∀x∈c,x.natAbs<=2^(w*(ns.length -1+(b.length -1)+1)):=by
 refine⟨λx a=>?_,λx a=>?_,λx a=>?_,λx a=>?_⟩
 ·obtain⟨k,_,rfl⟩:=mem_getD a;exact C.bP (false,k)
 ·obtain⟨k,_,rfl⟩:=mem_getD a;exact C.bQ (false,k)
 ·obtain⟨k,_,rfl⟩:=mem_getD a;exact C.bP (true,k)
 ·obtain⟨k,_,rfl⟩:=mem_getD a;exact C.bQ (true,k)
end Sub
namespace Num
noncomputable def hz(t:Int):List Int->List Int
 |[]=>[]
 |r::rs=>(r+t*(hz t rs).headD 0)::hz t rs
noncomputable def cs(l:List Int):List Rat:=l.map λx:Int=>((x:Int):Rat)
noncomputable def sc(u b:Rat):List Rat->List Rat
 |[]=>[]
 |r::rs=>r*u*b^rs.length::sc u b rs
theorem uz(x:Rat)(i:Nat):∀j:Nat,x^(i+j)=x^i*x^j
 |0=>by rw[sv,Nat.add_zero];grind
 |j+1=>by rw[show i+(j+1)=(i+j)+1 by lia,oC,oC,uz x i j];grind
noncomputable def gz(t:Int)(M:List Int)(k:Nat):Int:=(hz t (M.drop k)).headD 0
theorem uA(f:Nat->Rat):∀n,gR f (n+1)=f 0+gR (λi=>f (i+1)) n
 |0=>by rw[gR,gR,gR];grind
 |n+1=>by rw[gR,uA f n,gR];grind
theorem Fj(c:Rat)(f:Nat->Rat):∀n,gR (λi=>c*f i) n=c*gR f n
 |0=>by rw[gR,gR];grind
 |n+1=>by rw[gR,Fj c f n,gR];grind
theorem Fl(f g:Nat->Rat):∀n,gR (λi=>f i+g i) n=gR f n+gR g n
 |0=>by rw[gR,gR,gR];grind
 |n+1=>by rw[gR,Fl f g n,gR,gR];grind
theorem Fo:∀(n:Nat)(f:Nat->Rat),gR (λi=>f (n -i)) (n+1)=gR f (n+1)
 |0,f=>rfl
 |n+1,f=>by
  rw[uA,gy (g:=λi=>f (n -i)) (n+1) λi a=>by show f (n+1 -(i+1))=f (n -i);rw[show n+1 -(i+1)=n -i by lia],Fo n f,Nat.sub_zero];have:gR f (n+1+1)=gR f (n+1)+f (n+1):=by rw[gR]
  rw[this];grind
theorem dO(f g:Nat->Rat)(k:Nat):aG f g k=aG g f k:=by unfold aG;rw[←Fo];refine gy _ λi a=>?_;show f (k -i)*g (k -(k -i))=g i*f (k -i);rw[show k -(k -i)=i by omega,oI]
theorem bT{f f' g g':Nat->Rat}(b:∀i,f i=f' i)(a:∀i,g i=g' i)(k:Nat):aG f g k=aG f' g' k:=by rw[show f=f' from funext b,show g=g' from funext a]
theorem gF(f g h:Nat->Rat)(k:Nat):aG (λi=>f i+g i) h k=aG f h k+aG g h k:=by unfold aG;rw[←Fl];exact gy _ λi _=>Rat.add_mul ..
theorem fG(c:Rat)(f h:Nat->Rat)(k:Nat):aG (λi=>c*f i) h k=c*aG f h k:=by unfold aG;rw[←Fj];exact gy _ λi _=>ar ..
theorem AR(f g h:Nat->Rat)(k:Nat):aG f (λi=>g i+h i) k=aG f g k+aG f h k:=by rw[dO,gF,dO g,dO h]
theorem NY(c:Rat)(f h:Nat->Rat)(k:Nat):aG f (λi=>c*h i) k=c*aG f h k:=by rw[dO,fG,dO h]
theorem iC(f g:Nat->Rat):aG f g 0=f 0*g 0:=by unfold aG;rw[gR,gR];show 0+f 0*g (0 -0)=_;rw[so]
theorem lE(f g:Nat->Rat)(k:Nat):aG f g (k+1)=f 0*g (k+1)+aG (λi=>f (i+1)) g k:=by unfold aG;rw[uA];congr 1;exact gy _ λi a=>by show f (i+1)*g (k+1 -(i+1))=f (i+1)*g (k -i);rw[show k+1 -(i+1)=k -i by lia]
theorem mO(g h:Nat->Rat):∀(k:Nat)(f:Nat->Rat),aG (aG f g) h k=aG f (aG g h) k
 |0,f=>by rw[iC,iC,iC,iC,ar]
 |k+1,f=>by rw[lE,lE f,iC,lE g];have e:(λi=>aG f g (i+1))=λi=>f 0*g (i+1)+aG (λi=>f (i+1)) g i:=funext λi=>lE f g i;rw[e,gF,fG,mO g h k];generalize aG (λi=>g (i+1)) h k=x;generalize aG (λi=>f (i+1)) (aG g h) k=y;generalize h (k+1)=z;grind
theorem Fq{f g:Nat->Rat}{n m:Nat}(d:∀i,n<=i->f i=0)(c:∀i,m<=i->g i=0){k:Nat}(h:n+m<=k+1):aG f g k=0:=by
 unfold aG;rw[gy (g:=λ_=>0) _ λi e=>?_]
 ·have:∀n,gR (λ_=>0) n=0:=λn=>by
   induction n with
   |zero=>rfl
   |succ n b=>rw[gR,b];grind
  exact this _
 ·show f i*g (k -i)=0;by_cases a:n<=i
  ·rw[d i a,eP]
  ·rw[c _ (by lia),NA]
theorem kq{f g:Nat->Rat}{n m:Nat}(c:∀i,n<i->f i=0)(b:∀i,m<i->g i=0):aG f g (n+m)=f n*g m:=by
 unfold aG;have e:gR (λi=>f i*g (n+m -i)) (n+m+1)=gR (λi=>f i*g (n+m -i)) (n+1):=jF _ (by lia) λi h _=>by show f i*g (n+m -i)=0;rw[c i (by lia),eP]
 rw[e,gR];have z:gR (λi=>f i*g (n+m -i)) n=0:=by
  rw[gy (g:=λ_=>0) _ λi d=>by show f i*g (n+m -i)=0;rw[b _ (by lia),NA]];have:∀n,gR (λ_=>0) n=0:=λn=>by
   induction n with
   |zero=>rfl
   |succ n a=>rw[gR,a];grind
  exact this _
 rw[z,so,show n+m -n=m by lia]
abbrev cQ(a:List Rat):Nat->Rat:=λi=>a.getD i 0
noncomputable def Fin(f:Nat->Rat):Prop:=∃n,∀i,n<=i->f i=0
theorem aX(a:List Rat):Fin (cQ a):=⟨a.length,λi b=>ic b⟩
theorem Fin.add{f g:Nat->Rat}(d:Fin f)(c:Fin g):Fin λi=>f i+g i:=by obtain⟨n,a⟩:=d;obtain⟨m,b⟩:=c;exact⟨max n m,λi e=>by show f i+g i=0;rw[a i (by lia),b i (by lia)];grind⟩
theorem Fin.mul{f g:Nat->Rat}(d:Fin f)(c:Fin g):Fin (aG f g):=by obtain⟨n,a⟩:=d;obtain⟨m,b⟩:=c;exact⟨n+m,λi e=>Fq a b (by lia)⟩
noncomputable def DQ(g a:Nat->Rat):Prop:=∃s,Fin s/\∀k,a k=aG s g k
theorem DQ.add{g a b:Nat->Rat}(d:DQ g a)(c:DQ g b):DQ g λk=>a k+b k:=by obtain⟨s,f,j⟩:=d;obtain⟨t,e,h⟩:=c;exact⟨λi=>s i+t i,f.add e,λk=>by show a k+b k=_;rw[j k,h k,gF]⟩
theorem DQ.mul{g a:Nat->Rat}(u:Nat->Rat)(b:Fin u)(h:DQ g a):DQ g (aG u a):=by obtain⟨s,c,d⟩:=h;refine⟨aG u s,b.mul c,λk=>?_⟩;rw[mO];exact bT (λ_=>rfl) d k
theorem DQ.ext{g a b:Nat->Rat}(h:DQ g a)(e:∀k,b k=a k):DQ g b:=by obtain⟨s,c,d⟩:=h;exact⟨s,c,λk=>by rw[e k,d k]⟩
theorem oB(g:Nat->Rat)(k:Nat):aG (λi=>if i=0 then 1 else 0) g k=g k:=by rw[yO (λi a=>Bi (by lia))];show(1:Rat)*_=_;rw[Ya]
theorem DQ.refl(g:Nat->Rat):DQ g g:=⟨λi=>if i=0 then 1 else 0,⟨1,λi a=>Bi (by lia)⟩,λk=>(oB g k).symm⟩
theorem dI(g:Nat->Rat)(k:Nat):aG (λ_=>0) g k=0:=by
 unfold aG;have:∀n,gR (λi=>(0:Rat)*g (k -i)) n=0:=λn=>by
  induction n with
  |zero=>rfl
  |succ n a=>rw[gR,a];grind
 exact this _
theorem DQ.zero(g:Nat->Rat):DQ g λ_=>0:=⟨λ_=>0,⟨0,λ_ _=>rfl⟩,λk=>(dI g k).symm⟩
structure Mon(g:List Rat):Prop where
 ne:g≠[]
 one:g.getD (g.length -1) 0=1
theorem iH{f:Nat->Rat}(h:Fin f)(k:Nat)(c:f k≠0):∃n,f n≠0/\∀i,n<i->f i=0:=by
 obtain⟨n,a⟩:=h
 induction n with
 |zero=>exact absurd (a k (Mo _)) c
 |succ n b=>
  by_cases e:f n=0
  ·refine b λi d=>?_;by_cases g:i=n
   ·rw[g];exact e
   ·exact a i (by lia)
  ·exact⟨n,e,λi d=>a i (by lia)⟩
theorem DQ.len{g a:List Rat}(c:Mon g)(h:DQ (cQ g) (cQ a)){k:Nat}(l:a.getD k 0≠0):g.length<=a.length:=by
 obtain⟨s,p,d⟩:=h;have q:=Dx.mpr c.ne;have:∃j,s j≠0:=Gc λz=>l (by have z:∀j,s j=0:=λj=>Gc λy=>z ⟨j,y⟩;show cQ a k=0;rw[d k,bT (f':=λ_=>0) z (λ_=>rfl)];exact dI _ _);obtain⟨j,o⟩:=this;obtain⟨n,e,b⟩:=iH p j o;have t:=kq (f:=s) (g:=cQ g) (n:=n) (m:=g.length -1) b (λi r=>ic (by lia));rw[←d]at t;have:cQ a (n+(g.length -1))≠0:=by rw[t];show s n*g.getD (g.length -1) 0≠0;rw[c.one,dn];exact e
 have:n+(g.length -1)<a.length:=Gc λz=>this (ic (by lia));lia
theorem Mon.unique{g h:List Rat}(b:Mon g)(d:Mon h)(o:DQ (cQ g) (cQ h))(u:DQ (cQ h) (cQ g)):g=h:=by
 have C:=Dx.mpr b.ne;have B:=Dx.mpr d.ne;have A:=DQ.len b o (k:=h.length -1) (by rw[d.one];decide);have x:=DQ.len d u (k:=g.length -1) (by rw[b.one];decide);have q:g.length=h.length:=by lia
 obtain⟨s,v,j⟩:=o;have l:∀i,1<=i->s i=0:=λi c=>Gc λz=>by obtain⟨n,r,a⟩:=iH v i z;have w:i<=n:=Gc λy=>z (a i (by lia));have t:=kq (f:=s) (g:=cQ g) (n:=n) (m:=g.length -1) a (λi c=>ic (by lia));rw[←j]at t;have e:cQ h (n+(g.length -1))=0:=ic (by lia);rw[e]at t;have:s n*g.getD (g.length -1) 0=0:=t.symm;rw[b.one,dn]at this;exact r this
 have p:s 0=1:=by have t:=j (h.length -1);rw[yO l]at t;have t:h.getD (h.length -1) 0=s 0*g.getD (h.length -1) 0:=t;rw[d.one,←q,b.one,dn]at t;exact t.symm
 refine cx λi=>?_;by_cases c:i<g.length
 ·have t:=j i;rw[yO l,p,Ya]at t;have t:h.getD i 0=g.getD i 0:=t;rw[B1 c,B1 (by lia)];rw[AC,B1 (by lia),AC,B1 c]at t;exact W1 some t.symm
 ·rw[FK (by lia),FK (by lia)]
theorem DQ.sub{g a b:Nat->Rat}(f:DQ g a)(e:DQ g b):DQ g λk=>a k -b k:=by obtain⟨t,h,j⟩:=e;have:DQ g λk=> -1*b k:=⟨λi=> -1*t i,by obtain⟨n,c⟩:=h;exact⟨n,λi d=>by show-1*t i=0;rw[c i d];grind⟩,λk=>by show-1*b k=_;rw[j k,fG]⟩;exact(f.add this).ext λk=>by show a k -b k=a k+ -1*b k;grind
theorem TJ{a:List Rat}(b:ay a)(h:DQ (cQ []) (cQ a)):a=[]:=by
 obtain⟨s,d,c⟩:=h;rcases ik a with e|⟨t,y,e⟩
 ·exact e
 ·rw[il]at e;have z:=c t.length;rw[dO,bT (f':=λ_=>0) (λi=>by rfl) (λ_=>rfl),dI]at z;have:a.getD t.length 0=y:=by rw[e,AC,Fu (Do _),ei];rfl
  exact absurd (this.symm.trans z) (b y (by rw[e];exact fI))
theorem Mon.lnz{g:List Rat}(h:Mon g):ay g:=λx a=>by have e:=h.one;rw[Ha]at a;rw[AC,a]at e;have e:x=1:=e;rw[e];decide
theorem Ku{b r:List Rat}(u:ay b)(A:b≠[])(o:ay r)(C:r.length<b.length)(h:DQ (cQ b) (cQ r)):r=[]:=by
 rcases ik r with e|⟨t,y,e⟩
 ·exact e
 ·rw[il]at e;obtain⟨s,v,d⟩:=h;have B:=Dx.mpr A;have l:r.getD t.length 0=y:=by rw[e,AC,Fu (Do _),ei];rfl
  have k:y≠0:=o y (by rw[e];exact fI);have x:b.getD (b.length -1) 0≠0:=by refine u _ ?_;rw[Ha,AC,B1 (by lia)];rfl
  have:∃j,s j≠0:=Gc λz=>k (by have z:∀j,s j=0:=λj=>Gc λw=>z ⟨j,w⟩;have:=d t.length;rw[bT (f':=λ_=>0) z (λ_=>rfl),dI]at this;exact l.symm.trans this);obtain⟨j,q⟩:=this;obtain⟨n,p,c⟩:=iH v j q;have a:=kq (f:=s) (g:=cQ b) (n:=n) (m:=b.length -1) c (λi D=>ic (by lia));rw[←d]at a;have z:cQ r (n+(b.length -1))=0:=ic (by lia);rw[z]at a;rcases Pm.mp a.symm with w|w
  ·exact absurd w p
  ·exact absurd w x
theorem HB{s:Nat->Rat}{b:List Rat}(j:Fin s)(e:ay b)(o:b≠[])(h:∀k,aG s (cQ b) k=0):∀i,s i=0:=λi=>Gc λc=>by
 have p:=Dx.mpr o;have l:b.getD (b.length -1) 0≠0:=by refine e _ ?_;rw[Ha,AC,B1 (by lia)];rfl
 obtain⟨n,d,a⟩:=iH j i c;have t:=kq (f:=s) (g:=cQ b) (n:=n) (m:=b.length -1) a (λi c=>ic (by lia));rw[h]at t;rcases Pm.mp t.symm with w|w
 ·exact d w
 ·exact l w
end Num
namespace Sub
theorem Ft{D:List Vc->Int}{r:Ix}{n:Nat}(h:∀ds:List Vc,n<=ds.length->D ds=0):∀(a b:List Vc),n<b.length+a.length->ex D r b a=0
 |[],_,_=>rfl
 |c::a,b,d=>by rw[List.length_cons]at d;rw[ex,h _ (by rw[Ee];lia),Ft h a _ (by rw[Ee];show n<_+1+_;lia)];simp
theorem AS:∀(rs:List Ix)(cs:List Vc),rs.length+1<=cs.length->det rs cs=0
 |[],[],h=>by cases h
 |[],_::_,_=>rfl
 |r::rs,cs,h=>Ft (n:=rs.length+1) (λds a=>AS rs ds a) cs [] (by rw[List.length_cons]at h;show _<0+cs.length;lia)
noncomputable def lc(y:Ix->Vc)(c:Vc):List Ix->Vc
 |[]=>λ_=>0
 |r::rs=>λi=>1*lc y c rs i+c r*y r i
theorem Kv{D:List Vc->Int}(a:Hz D)(p q:List Vc):D (p++(λ_=>0)::q)=0:=by have:=a p q 0 0 (λ_=>0) (λ_=>0);simpa using this
theorem Kw{D:List Vc->Int}(h:Alt D)(f:Hz D){p q:List Vc}{a b:Vc}(x y:Int)(g:b∈p):D (p++(λi=>x*a i+y*b i)::q)=x*D (p++a::q):=by obtain⟨u,v,rfl⟩:=List.append_of_mem g;have e:=lD h (v++[λi=>x*a i+y*b i]) u q b;have d:=lD h (v++[a]) u q b;have c:=E8 h f (p:=u++v) (q:=b::q) (a:=a) x y FV;simp only[Kb,List.cons_append,List.nil_append,Ee,List.length_cons,List.length_nil]at e d c⊢;rw[e,c,d];grind
theorem AU{D:List Vc->Int}(h:Alt D)(f:Hz D){y:Ix->Vc}{r:Ix}{rs:List Ix}:∀(b p:List Vc),y r∈p->D (p++b.map λc=>lc y c (r::rs))=D (p++b.map λc=>lc y c rs)
 |[],_,_=>rfl
 |c::b,p,d=>by have e:=AU h f (rs:=rs) b (p++[lc y c rs]) (X1 _ d);have g:=Kw h f (q:=b.map λc=>lc y c (r::rs)) (a:=lc y c rs) 1 (c r) d;rw[cq]at g;rw[Kb,Kb]at e;exact g.trans e
theorem xC{D:List Vc->Int}(h:Alt D)(f:Hz D){y:Ix->Vc}{r:Ix}{rs:List Ix}(e:∀(p cs:List Vc),rs.length<=cs.length->D (p++cs.map λc=>lc y c rs)=det rs cs*D (p++rs.map y))(p:List Vc):
 ∀(b a:List Vc),rs.length+1<=a.length+b.length->D (p++((a.map λc=>lc y c rs)++b.map λc=>lc y c (r::rs)))=sg a.length*ex (det rs) r a b*D (p++y r::rs.map y)
 |[],a,d=>by rw[Xt,Kx,e p a (by simp at d;lia),AS rs a (by simpa using d),ex];simp
 |c::b,a,d=>by
  rw[List.length_cons]at d;have e1:=xC h f (r:=r) e p b (a++[c]) (by rw[Ee];show _<=_+1+_;lia);have l:=f (p++a.map λc=>lc y c rs) (b.map λc=>lc y c (r::rs)) 1 (c r) (lc y c rs) (y r);have k:=AU h f (y:=y) (r:=r) (rs:=rs) b ((p++a.map λc=>lc y c rs)++[y r]) (Hn _ (Fn.mpr rfl));have j:=lD h (a.map λc=>lc y c rs) p (b.map λc=>lc y c rs) (y r);have g:=e (p++[y r]) (a++b) (by rw[Ee];lia);have n:=(oA a.length).sq;have m:sg (a.length+1)= -sg a.length:=by unfold sg;rw[Ki];grind
  simp only[SL,Jn,Xt,Kb,List.cons_append,List.nil_append,Ee,List.length_cons,List.length_nil,AN,ke]at e1 l k j g⊢;have o:D (p++(List.map (λc=>lc y c rs) a++y r::List.map (λc=>lc y c rs) b))=sg a.length*(det rs (a++b)*D (p++y r::rs.map y)):=by
   rw[←g,j];have:∀X:Int,X=sg a.length*(sg a.length*X):=λX=>by
    have:sg a.length*(sg a.length*X)=(sg a.length*sg a.length)*X:=by grind
    rw[this,n,cq]
   exact this _
  show D (p++(List.map (λc=>lc y c rs) a++(λi=>1*lc y c rs i+c r*y r i)::List.map (λc=>lc y c (r::rs)) b))=_;rw[l,e1,k,o,ex,m];grind
theorem Dp{D:List Vc->Int}(h:Alt D)(a:Hz D)(y:Ix->Vc):∀(rs:List Ix)(p cs:List Vc),rs.length<=cs.length->D (p++cs.map λc=>lc y c rs)=det rs cs*D (p++rs.map y)
 |[],p,[],_=>by simp[det]
 |[],p,c::cs,_=>by rw[det,Ts];exact Kv a p _
 |r::rs,p,cs,b=>by have:=xC h a (y:=y) (r:=r) (Dp h a y rs) p cs [] (by simpa using b);rw[Xt,List.nil_append]at this;rw[this,det];unfold sg;simp
end Sub
namespace Sub
open Num
noncomputable def pc(f:Nat->Int):Vc:=λi=>f i.2
theorem sZ(p:Nat)(g:Nat->Int)(k:Nat):bz (λi=>if i=p then 1 else 0) g k=if p<=k then g (k -p)else 0:=by have e:=pq 0 1 (λ_=>0) g p k;rw[pF (f':=λi=>0*(λ_=>(0:Int)) i+if i=p then 1 else 0) (λi=>by simp) (λ_=>rfl) k,e];simp
theorem Ky(g:Nat->Int)(c:Vc)(i:Ix):∀N,lc (λr=>sh r.2 (pc g)) c (rws N N) i=bz (λt=>if t<N then c (false,t)else 0) g i.2
 |0=>by rw[pF (f':=λ_=>0) (λt=>Bi (Nat.not_lt_zero t)) (λ_=>rfl),pA];rfl
 |N+1=>by
  have e:=pq 1 (c (false,N)) (λt=>if t<N then c (false,t)else 0) g N i.2;rw[pF (f':=λt=>1*(if t<N then c (false,t)else 0)+if t=N then c (false,N)else 0) (λt=>?_) (λ_=>rfl),e,←Ky g c i N]
  ·show 1*lc _ c (rws N N) i+c (false,N)*sh N (pc g) i=_;unfold sh pc;by_cases h:N<=i.2
   ·rw[Bn h,Bn h]
   ·rw[Bi h,Bi h,Pi]
  ·by_cases b:t<N
   ·rw[Bn (by lia),Bn b,Bi (by lia)];simp
   ·by_cases a:t=N
    ·rw[Bn (by lia),Bi b,Bn a,a];simp
    ·rw[Bi (by lia),Bi b,Bi a];simp
theorem Yg{f g:Nat->Int}{N j:Nat}(h:∀t,N<=t+j->f t=0):lc (λr=>sh r.2 (pc g)) (sh j (pc f)) (rws N N)=sh j (pc (bz f g)):=by
 funext i;rw[Ky];have e:∀t,(if t<N then sh j (pc f) (false,t)else 0)=bz (λi=>if i=j then 1 else 0) f t:=λt=>by
  rw[sZ];unfold sh pc;by_cases b:t<N
  ·rw[Bn b]
  ·rw[Bi b];by_cases a:j<=t
   ·rw[Bn a,h _ (by lia)]
   ·rw[Bi a]
 rw[pF e (λ_=>rfl),mL,sZ];rfl
theorem uB{f g:Nat->Int}{N:Nat}:∀{a:Nat},(∀t j,j<a->N<=t+j->f t=0)->(cE (pc f) a).map (λc=>lc (λr=>sh r.2 (pc g)) c (rws N N))=cE (pc (bz f g)) a
 |0,_=>rfl
 |a+1,h=>by rw[cE,Jn,Yg (λt b=>h t a (OF _) b),uB λt j d=>h t j (by lia)];rfl
theorem yQ(y:Nat->Vc)(P:Vc)(h:∀t,y t=sh t P):∀N,(rws N N).map (λr=>y r.2)=cE P N
 |0=>rfl
 |N+1=>by rw[rws,Jn,yQ y P h N,h,cE]
theorem uC:∀N,(rws N N).length=N
 |0=>rfl
 |N+1=>by rw[rws,List.length_cons,uC N]
noncomputable def one:Nat->Int:=λi=>if i=0 then 1 else 0
theorem oB(f:Nat->Int):bz one f=f:=funext λk=>by rw[show one=λi=>if i=0 then 1 else 0 from rfl,sZ,Bn (Mo _)];rfl
theorem NZ(n:Nat):det (rws n n) (cE (pc one) n)=1:=by have e:=Dj (B:=pc one) (n:=0) (l:=1) rfl (λt f=>Bi (by lia)) (cs:=[]) (b:=0) (c:=0) (tl:=[]) (λd a=>nomatch a) n;simp only[Kx,ke,Int.one_pow]at e;rw[e];rfl
theorem Kz(a b:Nat):sg (a+b)=sg a*sg b:=by unfold sg;rw[kb]
theorem yR(a:Nat):sg a*sg a=1:=(oA a).sq
noncomputable def kQ(f g:Nat->Int)(m n:Nat):Int:=det (rws (m+n) (m+n)) (cE (pc f) n++cE (pc g) m)
theorem AV(f g:Nat->Int)(m n:Nat):kQ f g m n=sg (m*n)*kQ g f n m:=by unfold kQ;have e:=gE (dH (rws (m+n) (m+n))) (cE (pc f) n) [] (cE (pc g) m) [];simp only[List.nil_append,Kx,eO]at e;rw[e,ey m n]
theorem KA{f g:Nat->Int}{m n k:Nat}{l:Int}(o:∀t,m<t->f t=0)(j:g n=l)(hz:∀t,n<t->g t=0):
 det (rws (m+n+k) (m+n+k)) (cE (pc f) n++cE (pc g) (m+k))=sg (k*n)*(l^k*kQ f g m n):=by
 have e:=gE (dH (rws (m+n+k) (m+n+k))) (cE (pc f) n) [] (cE (pc g) (m+k)) [];have a:=Dj (B:=pc g) (n:=n) (l:=l) j hz (cs:=cE (pc f) n) (b:=m) (c:=m+n) (tl:=[]) (λd p t q=>by
  obtain⟨i,r,rfl⟩:=oz p;unfold sh pc;show(if i<=t then f (t -i)else 0)=0;split
  ·exact o _ (by lia)
  ·rfl) k
 have h:=AV f g m n;unfold kQ at h⊢;simp only[List.nil_append,Kx,eO]at e a;rw[e,show m+n+k=n+m+k by lia];rw[show n+m+k=m+n+k by lia]at a⊢;rw[a,h,ub,Kz,ey n m];have:=yR (m*n);generalize sg (m*n)=s at*;generalize sg (k*n)=t at*;generalize l^k=u at*;generalize det (rws (m+n) (m+n)) (cE (pc g) m++cE (pc f) n)=X at*;grind
theorem Fv{f g h:Nat->Int}{m n k:Nat}{l:Int}(y:∀t,m<t->f t=0)(x:g n=l)(hz:∀t,n<t->g t=0)(B:∀t,k<t->h t=0)(A:l≠0):kQ f (bz g h) m (n+k)=kQ f g m n*kQ f h m k:=by
 have C:m+n+k=m+(n+k):=by lia
 have o:=Dp (dH (rws (m+n+k) (m+n+k))) (jc _) (λr=>sh r.2 (pc g)) (rws (m+k) (m+k)) (cE (pc f) n) (cE (pc f) k++cE (pc h) m) (by rw[uC,Ee,eO,eO];lia);rw[SL,uB (λt j i c=>y t (by lia)),uB (λt j i c=>B t (by lia)),yQ (λt=>sh t (pc g)) (pc g) (λ_=>rfl),KA y x hz]at o;have d:=Dp (dH (rws (m+n+k) (m+n+k))) (jc _) (λr=>sh r.2 (pc f)) (rws (n+k) (n+k)) (cE (pc (bz h g)) m) (cE (pc one) n++cE (pc g) k) (by rw[uC,Ee,eO,eO];lia);rw[SL,uB (f:=one) (λt j i c=>Bi (by lia)),uB (f:=g) (λt j i c=>hz t (by lia)),yQ (λt=>sh t (pc f)) (pc f) (λ_=>rfl),oB,show bz g f=bz f g from funext (jG g f)]at d;have E:det (rws (n+k) (n+k)) (cE (pc one) n++cE (pc g) k)=sg (k*n)*l^k:=by have e:=KA (f:=one) (g:=g) (m:=0) (n:=n) (k:=k) (l:=l) (λt c=>Bi (by lia)) x hz;rw[ke,ke]at e;rw[e];unfold kQ;rw[ke,cE,Kx,NZ,dq]
 have w:=gE (dH (rws (m+n+k) (m+n+k))) (cE (pc (bz h g)) m) [] (cE (pc f) n++cE (pc (bz f g)) k) [];have v:=gE (dH (rws (m+n+k) (m+n+k))) (cE (pc (bz h g)) m) [] (cE (pc f) (n+k)) [];simp only[List.nil_append,Kx,eO,Ee,Kb]at w v o;rw[w,v,E,o]at d;unfold kQ at d⊢;rw[←C,show bz g h=bz h g from funext (jG g h)];have q:=yR ((n+k)*m);have p:=yR (k*n);have z:=fF A k;generalize sg ((n+k)*m)=s at*;generalize sg (k*n)=t at*;generalize l^k=u at*;generalize det (rws (m+n+k) (m+n+k)) (cE (pc f) (n+k)++cE (pc (bz h g)) m)=X at*;generalize det (rws (m+n) (m+n)) (cE (pc f) n++cE (pc g) m)=Y at*;generalize det (rws (m+k) (m+k)) (cE (pc f) k++cE (pc h) m)=Z at*;have D:u*X=u*(Y*Z):=by
  have a:s*(s*(t*(t*(u*X))))=u*X:=by
   have:s*(s*(t*(t*(u*X))))=(s*s)*((t*t)*(u*X)):=by grind
   rw[this,q,p];simp
  have b:s*(t*(s*(Z*(t*(u*Y)))))=u*(Y*Z):=by
   have:s*(t*(s*(Z*(t*(u*Y)))))=(s*s)*((t*t)*(u*(Y*Z))):=by grind
   rw[this,q,p];simp
  rw[←a,←b];congr 1;have:s*(t*(t*(u*X)))=t*(t*u*(s*X)):=by grind
  rw[this,←d]
 exact SB z D
theorem Dq(c:Int)(f:Nat->Int){D:List Vc->Int}(b:Hz D):∀(a:Nat)(p q:List Vc),D (p++(cE (pc λt=>c*f t) a++q))=c^a*D (p++(cE (pc f) a++q))
 |0,p,q=>by simp[cE]
 |a+1,p,q=>by have e:=Dq c f b a (p++[sh a (pc f)]) q;have d:=b p (cE (pc λt=>c*f t) a++q) c 0 (sh a (pc f)) (sh a (pc f));simp only[Kb,List.cons_append,List.nil_append,Ts,de]at e d;rw[cE,cE,List.cons_append,List.cons_append,show sh a (pc λt=>c*f t)=λi=>c*sh a (pc f) i from funext λi=>by unfold sh pc;show(if a<=i.2 then c*f (i.2 -a)else 0)=c*(if a<=i.2 then f (i.2 -a)else 0);split<;>simp,d,e,Ki];grind
theorem Fw(c:Int)(f g:Nat->Int)(m n:Nat):kQ f (λt=>c*g t) m n=c^m*kQ f g m n:=by have e:=Dq c g (jc (rws (m+n) (m+n))) m (cE (pc f) n) [];simp only[Kx]at e;exact e
theorem Fx(c:Int)(f g:Nat->Int)(m n:Nat):kQ (λt=>c*f t) g m n=c^n*kQ f g m n:=by have e:=Dq c f (jc (rws (m+n) (m+n))) n [] (cE (pc g) m);simp only[List.nil_append]at e;exact e
theorem AW(f g:Nat->Int)(m:Nat)(hz:∀t,0<t->g t=0):kQ f g m 0=g 0^m:=by unfold kQ;have e:=Dj (B:=pc g) (n:=0) (l:=g 0) rfl hz (cs:=[]) (b:=0) (c:=0) (tl:=[]) (λd a=>nomatch a) m;simp only[Kx,ke]at e;rw[cE,List.nil_append,Nat.add_zero,e];show _*1=_;rw[dq]
theorem Fy(c:Int)(a:Vc)(q:Nat->Int)(y:Nat->Vc)(i:Ix):∀rs:List Ix,comb c a (rs.map λr=>(q r.2,y r.2)) i=c*a i+lc (λr=>y r.2) (pc q) rs i
 |[]=>by show c*a i+0*a i=c*a i+0;simp
 |r::rs=>by show 1*comb c a _ i+q r.2*y r.2 i=c*a i+(1*lc _ _ rs i+q r.2*y r.2 i);rw[Fy c a q y i rs];grind
theorem KC:∀{N:Nat}{r:Ix},r∈rws N N->r.2<N
 |N+1,r,h=>by
  rw[rws]at h;rcases GT.mp h with e|h
  ·rw[e];exact OF _
  ·have:=KC h;lia
theorem KD{f g q r:Nat->Int}{c:Int}{D:List Vc->Int}(h:Alt D)(m:Hz D){n N a:Nat}(l:∀t,N<=t->q t=0)(k:∀t,r t=c*g t+bz q f t)(u:N+a<=n+1)(p:List Vc):D (p++(cE (pc r) a++cE (pc f) n))=c^a*D (p++(cE (pc g) a++cE (pc f) n)):=by
 have e:=pC h m (q:=cE (pc f) n) (c:=c) (A:=pc g) (L:=(rws N N).map λr=>(q r.2,sh r.2 (pc f))) a p λz hz j o=>by obtain⟨s,d,rfl⟩:=Hk.mp hz;have:=KC d;show sh j (sh s.2 (pc f))∈_;rw[Q5];exact yN (by lia)
 rw[←e];congr 4;funext i;rw[Fy c (pc g) q (λt=>sh t (pc f)) i,Ky,pF (f':=q) (λt=>?_) (λ_=>rfl)]
 ·exact k i.2
 ·by_cases b:t<N
  ·rw[Bn b];rfl
  ·rw[Bi b,l t (by lia)]
theorem AX{f g q r:Nat->Int}{c l:Int}{m n d N:Nat}(s:f m=l)(hz:∀t,m<t->f t=0)(v:∀t,d<t->r t=0)(u:d<=n)(p:∀t,N<=t->q t=0)(o:∀t,r t=c*g t+bz q f t)(w:N+m<=n+1):c^m*kQ f g m n=l^(n -d)*kQ f r m d:=by
 have j:=gE (dH (rws (m+n) (m+n))) (cE (pc f) n) [] (cE (pc r) m) [];have h:=gE (dH (rws (m+n) (m+n))) (cE (pc f) n) [] (cE (pc g) m) [];have e:=KD (dH (rws (m+n) (m+n))) (jc _) (f:=f) (g:=g) p o w [];have a:=Dj (B:=pc f) (n:=m) (l:=l) s hz (cs:=cE (pc r) m) (b:=d) (c:=m+d) (tl:=[]) (λx k t y=>by
  obtain⟨i,z,rfl⟩:=oz k;unfold sh pc;show(if i<=t then r (t -i)else 0)=0;split
  ·exact v _ (by lia)
  ·rfl) (n -d)
 simp only[List.nil_append,Kx,eO]at j h e a;rw[show m+d+(n -d)=m+n by lia,show d+(n -d)=n by lia]at a;unfold kQ;rw[h,←a,j,e];grind
end Sub
namespace Num
theorem kr(a b:List Rat)(k:Nat):cQ (aH (mulQ a b)) k=aG (cQ a) (cQ b) k:=(o9 _ k).trans (Dg a b k)
theorem mP{c:List Rat}(h:ay c)(a:c≠[]):c.getD (c.length -1) 0≠0:=by have l:=Dx.mpr a;refine h _ ?_;rw[Ha,AC,B1 (Nat.sub_lt l Nat.one_pos)];rfl
end Num
namespace Num
open Sub
structure HC(a:List Rat)(D:Int)(F:Nat->Int):Prop where
 ne:D≠0
 eq:∀t,cQ a t*(D:Rat)=(F t:Int)
theorem FA:∀a:List Rat,∃D:Int,D≠0/\∀x∈a,∃z:Int,x*(D:Rat)=z
 |[]=>⟨1,by decide,λx d=>nomatch d⟩
 |x::a=>by
  obtain⟨D,e,h⟩:=FA a;have c:(x.den:Int)≠0:=by exact_mod_cast x.den_nz
  refine⟨x.den*D,PH c e,λy b=>?_⟩;rcases GT.mp b with rfl|b
  ·obtain⟨z,hz,_⟩:=Cd.of (x:=y) (D:=y.den*D) (Int.dvd_mul_right _ _) Nat.lt_two_pow_self;exact⟨z,hz⟩
  ·obtain⟨z,hz⟩:=h y b;refine⟨x.den*z,?_⟩;rw[FM,FM,←hz];grind
theorem cJ(a:List Rat):∃(D:Int)(F:Nat->Int),HC a D F:=by
 obtain⟨D,c,h⟩:=FA a;have:∀t,∃z:Int,cQ a t*(D:Rat)=z:=λt=>by
  by_cases b:t<a.length
  ·have:cQ a t∈a:=by show a.getD t 0∈a;rw[AC,B1 b];exact Qr b
   exact h _ this
  ·exact⟨0,by rw[show cQ a t=0 from ic (by lia)];grind⟩
 exact⟨D,λt=>Classical.choose (this t),c,λt=>QP (this t)⟩
theorem HC.zero{a:List Rat}{D:Int}{F:Nat->Int}(h:HC a D F){t:Nat}(b:a.length<=t):F t=0:=by have e:=h.eq t;rw[show cQ a t=0 from ic b,eP]at e;exact_mod_cast e.symm
theorem HC.nz{a:List Rat}{D:Int}{F:Nat->Int}(h:HC a D F){t:Nat}(b:cQ a t≠0):F t≠0:=λz=>by
 have e:=h.eq t;rw[z]at e;have d:(D:Rat)≠0:=by exact_mod_cast h.ne
 rcases Pm.mp e with w|w
 ·exact b w
 ·exact d w
noncomputable def jI(a b:List Rat):Rat:=
 (kQ (Classical.choose (QP (cJ a))) (Classical.choose (QP (cJ b))) (a.length -1) (b.length -1):Int)/(((Classical.choose (cJ a):Int):Rat)^(b.length -1)*((Classical.choose (cJ b):Int):Rat)^(a.length -1))
theorem eV{x:Rat}(h:x≠0)(n:Nat):x^n≠0:=by
 induction n with
 |zero=>rw[sv];decide
 |succ n a=>rw[oC];exact λz=>(Pm.mp z).elim a h
theorem FD{x y z:Rat}(h:z≠0)(e:x*z=y*z):x=y:=by
 have:(x -y)*z=0:=by grind
 rcases Pm.mp this with w|w
 ·grind
 ·exact absurd w h
theorem ku{a b:List Rat}{D E:Int}{F G:Nat->Int}(q:HC a D F)(p:HC b E G):jI a b*((D:Rat)^(b.length -1)*(E:Rat)^(a.length -1))=(kQ F G (a.length -1) (b.length -1):Int):=by
 unfold jI;have k:=QP (QP (cJ a));have j:=QP (QP (cJ b));generalize Classical.choose (QP (cJ a))=e at*;generalize Classical.choose (QP (cJ b))=d at*;generalize Classical.choose (cJ a)=c at*;generalize Classical.choose (cJ b)=E0 at*;generalize a.length -1=m;generalize b.length -1=n;have x:(c:Rat)≠0:=by exact_mod_cast k.ne
 have w:(E0:Rat)≠0:=by exact_mod_cast j.ne
 have s:(λt=>D*e t)=λt=>c*F t:=funext λt=>by
  have g:=k.eq t;have f:=q.eq t;have:((D*e t:Int):Rat)=(c*F t:Int):=by rw[FM,FM,←g,←f];grind
  exact_mod_cast this
 have r:(λt=>E*d t)=λt=>E0*G t:=funext λt=>by
  have g:=j.eq t;have f:=p.eq t;have:((E*d t:Int):Rat)=(E0*G t:Int):=by rw[FM,FM,←g,←f];grind
  exact_mod_cast this
 have i:kQ (λt=>D*e t) (λt=>E*d t) m n=D^n*(E^m*kQ e d m n):=by rw[Fx,Fw]
 have o:kQ (λt=>c*F t) (λt=>E0*G t) m n=c^n*(E0^m*kQ F G m n):=by rw[Fx,Fw]
 rw[s,r,o]at i;have l:((c:Rat)^n*(E0:Rat)^m)*(kQ F G m n:Int)=((D:Rat)^n*(E:Rat)^m)*(kQ e d m n:Int):=by have:=W1 (λz:Int=>(z:Rat)) i;simp only[FM,Rat.intCast_pow]at this;grind
 have h:(c:Rat)^n*(E0:Rat)^m≠0:=λz=>(Pm.mp z).elim (eV x n) (eV w m);refine FD h ?_;generalize(c:Rat)^n*(E0:Rat)^m=u at*;generalize(D:Rat)^n*(E:Rat)^m=v at*;rw[show((kQ e d m n:Int):Rat)/u*v*u=((kQ e d m n:Int):Rat)/u*u*v by grind,hU h,oI,←l,oI]
theorem Dr{a b:List Rat}{D E:Int}{F G:Nat->Int}{x:Rat}(d:HC a D F)(c:HC b E G)(h:x*((D:Rat)^(b.length -1)*(E:Rat)^(a.length -1))=(kQ F G (a.length -1) (b.length -1):Int)):x=jI a b:=by
 have f:(D:Rat)≠0:=by exact_mod_cast d.ne
 have e:(E:Rat)≠0:=by exact_mod_cast c.ne
 exact FD (λz=>(Pm.mp z).elim (eV f _) (eV e _)) (h.trans (ku d c).symm)
theorem gG(x y:Rat):∀n:Nat,(x*y)^n=x^n*y^n
 |0=>by rw[sv,sv,sv,Ya]
 |n+1=>by rw[oC,oC,oC,gG x y n];grind
theorem N3(n:Nat):((sg n:Int):Rat)*((sg n:Int):Rat)=1:=by have:=yR n;exact_mod_cast this
theorem yS{b c:List Rat}(p:ay b)(j:b≠[])(o:ay c)(d:c≠[]):(aH (mulQ b c)).length=b.length+c.length -1:=by
 have r:=Dx.mpr j;have lc:=Dx.mpr d;have e:=kq (f:=cQ b) (g:=cQ c) (n:=b.length -1) (m:=c.length -1) (λi l=>ic (by lia)) (λi l=>ic (by lia));have k:cQ (aH (mulQ b c)) (b.length -1+(c.length -1))≠0:=by rw[kr,e];exact λz=>(Pm.mp z).elim (mP p j) (mP o d)
 have q:b.length -1+(c.length -1)<(aH (mulQ b c)).length:=Nat.lt_of_not_le λh=>k (ic h);have a:=jE (mulQ b c);unfold mulQ at a q⊢;rw[fE]at a;lia
theorem N4{b c:List Rat}{E H:Int}{G K:Nat->Int}(d:HC b E G)(a:HC c H K):HC (aH (mulQ b c)) (E*H) (bz G K):=by refine⟨PH d.ne a.ne,λt=>?_⟩;rw[kr,FM];exact yM d.eq a.eq t
theorem N5{a b c:List Rat}(v:a≠[])(o:ay b)(j:b≠[])(q:ay c)(p:c≠[]):jI a (aH (mulQ b c))=jI a b*jI a c:=by obtain⟨D,F,e⟩:=cJ a;obtain⟨E,G,d⟩:=cJ b;obtain⟨H,K,i⟩:=cJ c;have x:=Dx.mpr v;have w:=Dx.mpr j;have lc:=Dx.mpr p;refine(Dr e (N4 d i) ?_).symm;have u:=ku e d;have r:=ku e i;have s:=Fv (f:=F) (g:=G) (h:=K) (m:=a.length -1) (n:=b.length -1) (k:=c.length -1) (λt l=>e.zero (by lia)) rfl (λt l=>d.zero (by lia)) (λt l=>i.zero (by lia)) (d.nz (mP o j));rw[yS o j q p,show b.length+c.length -1 -1=b.length -1+(c.length -1) by lia,s,FM,FM,←u,←r,gG,uz];grind
theorem uD(a b:List Rat):jI b a=(sg ((a.length -1)*(b.length -1)):Int)*jI a b:=by
 obtain⟨D,F,d⟩:=cJ a;obtain⟨E,G,c⟩:=cJ b;refine(Dr c d ?_).symm;have e:=ku d c;have s:=AV F G (a.length -1) (b.length -1);have t:=N3 ((a.length -1)*(b.length -1));rw[s,FM]at e;generalize((sg ((a.length -1)*(b.length -1)):Int):Rat)=z at*;generalize(D:Rat)^(b.length -1)=u at*;generalize(E:Rat)^(a.length -1)=v at*;generalize((kQ G F (b.length -1) (a.length -1):Int):Rat)=w at*;have:z*(jI a b*(u*v))=z*(z*w):=by rw[e]
 rw[show z*(z*w)=z*z*w by grind,t]at this;grind
theorem KG{a b c:List Rat}(g:ay a)(e:a≠[])(f:ay c)(d:c≠[])(h:b≠[]):jI (aH (mulQ a c)) b=jI a b*jI c b:=by have i:=Dx.mpr e;have lc:=Dx.mpr d;rw[uD b (aH (mulQ a c)),N5 h g e f d,uD b a,uD b c,yS g e f d,show(b.length -1)*(a.length+c.length -1 -1)=(b.length -1)*(a.length -1)+(b.length -1)*(c.length -1) by rw[←Nat.mul_add];congr 1;lia,Kz,FM];grind
theorem KH(a:List Rat)(t:Rat):jI a [t]=t^(a.length -1):=by obtain⟨D,F,c⟩:=cJ a;obtain⟨E,G,b⟩:=cJ [t];refine(Dr c b ?_).symm;rw[show[t].length -1=0 from rfl,AW F G _ (λs d=>b.zero (show 1<=s by lia)),Rat.intCast_pow,←b.eq 0,gG,sv,Ya];rfl
theorem KI{a b q r:List Rat}(O:ay a)(E:a≠[])(C:b≠[])(L:r.length<=b.length)(M:q.length+a.length<=b.length+1)(e:∀k,cQ b k=aG (cQ q) (cQ a) k+cQ r k)(y:r≠[]):jI a b=a.getD (a.length -1) 0^(b.length -r.length)*jI a r:=by
 obtain⟨D,F,h⟩:=cJ a;obtain⟨X,G,i⟩:=cJ b;obtain⟨Y,K,rq⟩:=cJ q;have J:=Dx.mpr E;have I:=Dx.mpr C;have H:=Dx.mpr y;have v:HC r (X*(Y*D)) λt=>Y*D*G t+bz (λt=> -X*K t) F t:=by refine⟨PH i.ne (PH rq.ne h.ne),λt=>?_⟩;have u:=i.eq t;have j:=yM rq.eq h.eq t;have B:=e t;rw[pH,x5,FM,FM,FM,FM,FM,Rat.intCast_neg,←u,←j,B];grind
 have s:=AX (f:=F) (g:=G) (q:=λt=> -X*K t) (c:=Y*D) (l:=F (a.length -1)) (m:=a.length -1) (n:=b.length -1) (d:=r.length -1) (N:=q.length) rfl (λt p=>h.zero (by lia)) (λt p=>v.zero (by lia)) (by lia) (λt p=>by show-X*K t=0;rw[rq.zero p,Pi]) (λ_=>rfl) (by lia);have u:=ku h i;have j:=ku h v;have A:=h.eq (a.length -1);have o:=W1 (λz:Int=>(z:Rat)) s;simp only[FM,Rat.intCast_pow]at o j;rw[←A,←u,←j]at o;have w:((Y:Rat)*D)^(a.length -1)≠0:=eV (λz=>(Pm.mp z).elim (by exact_mod_cast rq.ne) (by exact_mod_cast h.ne)) _;have x:(D:Rat)^(b.length -1)*(X:Rat)^(a.length -1)≠0:=λz=>(Pm.mp z).elim (eV (by exact_mod_cast h.ne) _) (eV (by exact_mod_cast i.ne) _);refine FD x (FD w ?_);rw[oI,o,show b.length -1 -(r.length -1)=b.length -r.length by lia,gG,gG,show(D:Rat)^(b.length -1)=(D:Rat)^(b.length -r.length)*(D:Rat)^(r.length -1) by rw[←uz];congr 1;lia];grind
theorem res_none{a b q:List Rat}(g:ay a)(c:2<=a.length)(d:b≠[])(f:q.length+a.length<=b.length+1)(e:∀k,cQ b k=aG (cQ q) (cQ a) k):jI a b=0:=by
 have h:a≠[]:=λz=>by rw[z]at c;cases c
 have i:=Dx.mpr d;have:=KI (r:=[0]) g h d (by show 1<=_;lia) f (λk=>by rw[e k,show cQ [0] k=0 by cases k<;>rfl];grind) (by simp);rw[this,KH,show a.length -1=a.length -2+1 by lia,oC,NA,NA]
theorem N6{a b g:List Rat}(C:ay a)(H:a≠[])(B:ay b)(j:b≠[])(f:ay g)(d:2<=g.length)(G:∃t:List Rat,∀k,cQ b k=aG (cQ t) (cQ g) k)(h:∃s:List Rat,∀k,cQ a k=aG (cQ s) (cQ g) k):jI a b=0:=by
 have n:g≠[]:=λz=>by rw[z]at d;cases d
 have c:∀{x:List Rat},ay x->x≠[]->(∃t:List Rat,∀k,cQ x k=aG (cQ t) (cQ g) k)->∃t:List Rat,ay t/\t≠[]/\x=aH (mulQ t g):=λ{x} v p ⟨t,e⟩=>by
  have ex:x=aH (mulQ (aH t) g):=yH v (bJ _) λk=>by have F:=kr (aH t) g k;have E:aG (cQ (aH t)) (cQ g) k=aG (cQ t) (cQ g) k:=bT (λi=>o9 t i) (λ_=>rfl) k;exact(e k).trans (E.symm.trans F.symm)
  refine⟨aH t,bJ _,λz=>?_,ex⟩;rw[z]at ex;have u:(aH (mulQ [] g))=[]:=rX λy m=>by unfold mulQ at m;obtain⟨k,_,rfl⟩:=ux m;rfl
  exact p (ex.trans u)
 obtain⟨s,A,r,D⟩:=c C H h;obtain⟨t,w,l,o⟩:=c B j G;have z:jI g b=0:=by
  refine res_none (q:=t) f d j ?_ λk=>by rw[o];exact kr t g k
  have:=yS w l f n;rw[o,this];have:=Dx.mpr l;omega
 rw[D,KG A r f n j,z,NA]
end Num
namespace Sub
open Num
end Sub
namespace Num
open Sub
section
variable{ι:Type}
inductive Spn(P:List (ι->Rat)):(ι->Rat)->(ι->Rat)->Prop where
 |refl (o:ι->Rat):Spn P o o
 |add {o x a:ι->Rat} (y:Rat) (h:Spn P o x) (m:a∈P):Spn P o (λi=>1*x i+y*a i)
end
section
variable{ι α:Type}
end
noncomputable def line(N:Nat)(a:List Rat)(i:Nat):List Rat:=List.replicate i 0++a.reverse++List.replicate (N -i -a.length) 0
theorem yT(P:Vc):∀n,cE P n=(List.range n).map λi=>sh (n -1 -i) P
 |0=>rfl
 |n+1=>by rw[cE,yT P n,List.range_succ_eq_map,Jn,SZ];congr 1;exact kz λi _=>by show _=sh (n+1 -1 -(i+1)) P;rw[show n+1 -1 -(i+1)=n -1 -i by lia]
end Num
namespace Num
structure KJ(n:Nat)(a b x y u u2 v v2:Int):Prop where
 e1:u*a+v*b=x
 e2:u2*a+v2*b=y
 g:Int.gcd x y=Int.gcd a b
 bx:x.natAbs<2^n
 yU:y.natAbs<2^n
 bu:u.natAbs<2^(n+2)
 bv:v.natAbs<2^(n+2)
 bu2:u2.natAbs<2^(n+2)
 bv2:v2.natAbs<2^(n+2)
 or:(u=1/\u2=0/\v=0/\v2=1)\/(Sg x y/\Ib n x y u u2/\Ib n x y v v2)
theorem pow2(n:Nat):1<2^(n+2):=by have:=P2 (n:=n) (show 0<2 by decide);rw[cc];omega
theorem KJ.next{n:Nat}{a b x y u d v c:Int}(I:KJ n a b x y u d v c)(e:y≠0):KJ n a b y (x -x.fdiv y*y) d (u -x.fdiv y*d) c (v -x.fdiv y*c):=by
 have j:=NI x y e;have k:=qS x y e;have h:Ib n y (x -x.fdiv y*y) d (u -x.fdiv y*d)/\Ib n y (x -x.fdiv y*y) c (v -x.fdiv y*c):=by
  rcases I.or with⟨rfl,rfl,rfl,rfl⟩|⟨f,i,m⟩
  ·have o:=Q3 x y e;have f:=I.bx;have i:=I.yU;unfold Ib;constructor
   ·simp only[Pi,oa,Int.natAbs_zero,t4,Nat.add_zero];show 1*y.natAbs<=_;omega
   ·simp only[dq,Int.zero_sub,Int.natAbs_neg];show _+1*_<=_;have l:(x.fdiv y).natAbs*y.natAbs<=x.natAbs+(x -x.fdiv y*y).natAbs:=by rw[←Fh];omega
    omega
  ·exact⟨EW i f e,EW m f e⟩
 refine⟨I.e2,?_,?_,I.yU,Nat.lt_trans k I.yU,I.bu2,I.bv2,AF h.1 j,AF h.2 j,.inr ⟨j,h.1,h.2⟩⟩
 ·have f:=I.e1;have i:=I.e2;generalize x.fdiv y=q;subst f;subst i;grind
 ·rw[oZ,I.g]
end Num
namespace Num
open Sub
theorem FE{p:Int}{D D':List Vc->Int}{r:Ix}:∀(d f:List (Vc×Vc)),(∀x∈d,p∣x.1 r -x.2 r)->(∀ds:List (Vc×Vc),(∀x∈ds,x∈f\/x∈d)->p∣D (ds.map (·.1)) -D' (ds.map (·.2)))->p∣ex D r (f.map (·.1)) (d.map (·.1)) -ex D' r (f.map (·.2)) (d.map (·.2))
 |[],f,_,_=>by rw[Xt,Xt,ex,ex,km];exact Y1 _
 |c::d,f,h,i=>by
  have ih:=FE (D:=D) (D':=D') (r:=r) d (f++[c]) (λx g=>h x (FR _ g)) λds j=>i ds λx g=>by
   rcases j x g with z|z
   ·rcases Iy.mp z with z|z
    ·exact .inl z
    ·exact .inr (by rw[Fn.mp z];exact FV)
   ·exact .inr (FR _ z)
  have e:=i (f++d) λx g=>(Iy.mp g).imp id (FR _);have k:=h c FV;rw[SL,SL,Jn,Jn,Xt,Xt]at ih;rw[SL,SL]at e;rw[Jn,Jn,ex,ex];generalize ex D r _ _=a at*;generalize ex D' r _ _=b at*;generalize D _=x at*;generalize D' _=y at*;generalize c.1 r=s at*;generalize c.2 r=t at*;have l:s*x -a -(t*y -b)=s*(x -y)+(s -t)*y -(a -b):=by grind
  rw[l];exact xb (n4 (fo e) (vk k)) ih
theorem AY{p:Int}:∀(rs:List Ix)(L:List (Vc×Vc)),(∀x∈L,∀r,p∣x.1 r -x.2 r)->p∣det rs (L.map (·.1)) -det rs (L.map (·.2))
 |[],[],_=>by rw[Xt,Xt,km];exact Y1 _
 |[],x::L,_=>by rw[Jn,Jn,det,det,km];exact Y1 _
 |r::rs,L,h=>FE (D:=det rs) (D':=det rs) L [] (λx a=>h x a r) λds b=>AY rs ds λx a=>h x ((b x a).elim (λz=>nomatch z) id)
theorem AZ(P a:Vc)(n:Nat):cE P n=((List.range n).map λi=>(sh (n -1 -i) P,sh (n -1 -i) a)).map (·.1)/\cE a n=((List.range n).map λi=>(sh (n -1 -i) P,sh (n -1 -i) a)).map (·.2):=
 ⟨by rw[yT,SZ];rfl,by rw[yT,SZ];rfl⟩
theorem KL{p:Int}{f g g':Nat->Int}{m n:Nat}(h:∀t,p∣g t -g' t):p∣kQ f g m n -kQ f g' m n:=by
 unfold kQ;obtain⟨j,a2⟩:=AZ (pc f) (pc f) n;obtain⟨e,d⟩:=AZ (pc g) (pc g') m;have c:cE (pc f) n++cE (pc g) m=(((List.range n).map λi=>(sh (n -1 -i) (pc f),sh (n -1 -i) (pc f)))++(List.range m).map λi=>(sh (m -1 -i) (pc g),sh (m -1 -i) (pc g'))).map (·.1):=by rw[SL,←j,←e]
 have b:cE (pc f) n++cE (pc g') m=(((List.range n).map λi=>(sh (n -1 -i) (pc f),sh (n -1 -i) (pc f)))++(List.range m).map λi=>(sh (m -1 -i) (pc g),sh (m -1 -i) (pc g'))).map (·.2):=by rw[SL,←a2,←d]
 rw[c,b];refine AY _ _ λx a r=>?_;rcases Iy.mp a with a|a
 ·obtain⟨i,_,rfl⟩:=Hk.mp a;rw[km];exact Y1 _
 ·obtain⟨i,_,rfl⟩:=Hk.mp a;show p∣(if m -1 -i<=r.2 then g (r.2 -(m -1 -i))else 0) -(if m -1 -i<=r.2 then g' (r.2 -(m -1 -i))else 0);split
  ·exact h _
  ·exact Y1 _
noncomputable def Ap(p:Int)(f g:Nat->Int):Prop:=∃(u v:Nat->Int)(N:Nat)(c:Int),(∀t,N<=t->u t=0)/\(∀t,N<=t->v t=0)/\¬p∣c/\∀k,p∣bz u f k+bz v g k -if k=0 then c else 0
theorem uE{p x y:Int}(a:gW p)(h:p∣x*y):p∣x\/p∣y:=by
 have b:0<p:=by have:=a.1;lia
 by_cases c:y%p=0
 ·exact .inr (vi c)
 ·refine .inl (HA a (l:=y%p) ⟨?_,eM _ b⟩ ?_)
  ·have:=ma y (show p≠0 by lia);lia
  ·have e:=ip y p;have d:x*(y%p)=x*y -p*(x*(y/p)):=by
    have:y%p=y -p*(y/p):=by lia
    rw[this];grind
   rw[d];exact xb h ⟨_,rfl⟩
theorem qU{p x:Int}(a:gW p):∀n:Nat,p∣x^n->p∣x
 |0,h=>by rw[TC]at h;have:=bo (by decide) h;have:=a.1;lia
 |n+1,h=>by rw[Ki]at h;exact(uE a h).elim (qU a n) id
theorem TL{p:Int}{f g:Nat->Int}{m n:Nat}(a:gW p)(s:∀t,m<t->f t=0)(A:¬p∣f m)(B:∀t,n<t->g t=0)(D:g n≠0)(h:Ap p f g):kQ f g m n≠0:=by
 obtain⟨u,v,N,c,y,x,C,e⟩:=h;have w:∀t,N+m<t->v t=0:=λt o=>x t (by lia);have j:=Fv (f:=f) (g:=g) (h:=v) (k:=N+m) s rfl B w D
 let R:Nat->Int:=λt=>(if t=0 then c else 0) -bz u f t
 have i:p∣kQ f (bz g v) m (n+(N+m)) -kQ f R m (n+(N+m)):=KL λt=>by have:=e t;rw[jG v g]at this;show p∣bz g v t -((if t=0 then c else 0) -bz u f t);rw[show bz g v t -((if t=0 then c else 0) -bz u f t)=bz u f t+bz g v t -(if t=0 then c else 0) by lia];exact this
 have b:=AX (f:=f) (g:=R) (q:=u) (r:=λt=>if t=0 then c else 0) (c:=1) (l:=f m) (m:=m) (n:=n+(N+m)) (d:=0) (N:=N) rfl s (λt o=>Bi (by lia)) (Mo _) y (λt=>by show _=1*((if t=0 then c else 0) -bz u f t)+bz u f t;lia) (by lia);rw[Int.one_pow,cq,AW _ _ _ (λt o=>Bi (by lia)),Bn rfl]at b;intro z;rw[z,Ts]at j;rw[j,b,Int.zero_sub]at i;rcases uE a (Int.dvd_neg.mp i)with h|h
 ·exact A (qU a _ h)
 ·exact C (qU a _ h)
end Num
namespace Num
theorem KN{p:Int}{f:Nat->Int}(h:∀i,p∣f i):∀n,p∣sm f n
 |0=>Y1 _
 |n+1=>by rw[sm];exact n4 (KN h n) (h n)
theorem uF{p:Int}{f g g':Nat->Int}(h:∀i,p∣g i -g' i)(k:Nat):p∣bz f g k -bz f g' k:=by unfold bz;rw[Dl];refine KN (λi=>?_) _;show p∣f i*g (k -i) -f i*g' (k -i);rw[←Int.mul_sub];exact fo (h _)
noncomputable def HD(p:Int)(f g:Nat->Int)(A:List Int):Prop:=∃(u v:Nat->Int)(N:Nat),(∀t,N<=t->u t=0)/\(∀t,N<=t->v t=0)/\∀k,p∣bz u f k+bz v g k -A.getD k 0
theorem HD.one{p:Int}{f g:Nat->Int}{A:List Int}(h:∀k,f k=A.getD k 0):HD p f g A:=by refine⟨λi=>if i=0 then 1 else 0,λ_=>0,1,λt a=>Bi (by lia),λ_ _=>rfl,λk=>?_⟩;rw[Sub.sZ,pA,Bn (Mo _),Nat.sub_zero,h,de,km];exact Y1 _
theorem HD.swap{p:Int}{f g:Nat->Int}{A:List Int}(h:HD p f g A):HD p g f A:=by obtain⟨u,v,N,c,b,a⟩:=h;exact⟨v,u,N,b,c,λk=>by rw[Int.add_comm];exact a k⟩
theorem HD.rest{p:Int}{f g:Nat->Int}{A B a rs:List Int}(G:HD p f g A)(F:HD p f g B)(h:yP p A B (λi=>a.getD i 0) rs):HD p f g rs:=by obtain⟨u,v,N,D,C,J⟩:=G;obtain⟨d,c,l,q,o,I⟩:=F;have b:∀(w:Nat->Int),(∀t,l<=t->w t=0)->∀t,N+(a.length+l)<=t->bz (co a) w t=0:=λw z t e=>NX (n:=a.length) (m:=l) (λi E=>outI E) z (by lia);refine⟨λi=>u i+ -1*bz (co a) d i,λi=>v i+ -1*bz (co a) c i,N+(a.length+l),λt e=>by dsimp only;rw[D t (by lia),b d q t e];rfl,λt e=>by dsimp only;rw[C t (by lia),b c o t e];rfl,λk=>?_⟩;rw[pG,pG,pH,pH,mL,mL];have j:=uF (f:=co a) (g:=λi=>bz d f i+bz c g i) (g':=co B) I k;rw[Ks]at j;have r:=h k;have H:=J k;have r:p∣A.getD k 0 -(bz (co a) (co B) k+rs.getD k 0):=r;generalize bz u f k=y at*;generalize bz v g k=a2 at*;generalize bz (co a) (bz d f) k=a3 at*;generalize bz (co a) (bz c g) k=s at*;have j:p∣a3+s -bz (co a) (co B) k:=j;generalize bz (co a) (co B) k=x at*;have:=xb (n4 H r) j;rw[show y+ -1*a3+(a2+ -1*s) -rs.getD k 0=y+a2 -A.getD k 0+(A.getD k 0 -(x+rs.getD k 0)) -(a3+s -x) by lia];exact this
end Num
namespace Num
open Sub
abbrev cz(a:List Int):Nat->Rat:=λi=>((a.getD i 0:Int):Rat)
theorem FF(f g:Nat->Int)(k:Nat):aG (λi=>(f i:Rat)) (λi=>(g i:Rat)) k=((bz f g k:Int):Rat):=by have:=yM (f:=λi=>(f i:Rat)) (g:=λi=>(g i:Rat)) (F:=f) (G:=g) (A:=1) (C:=1) (λi=>dn _) (λi=>dn _) k;rw[dn,dn]at this;exact this
theorem DQ.sc{d f:Nat->Rat}(c:Rat)(h:DQ d f):DQ d λk=>c*f k:=by obtain⟨s,⟨n,a⟩,e⟩:=h;refine⟨λi=>c*s i,⟨n,λi b=>by dsimp only;rw[a i b,NA]⟩,λk=>?_⟩;dsimp only;rw[fG,e k]
theorem DQ.KO{d f:Nat->Rat}{c:Rat}(a:c≠0)(h:DQ d λk=>c*f k):DQ d f:=
 (h.sc c⁻¹).ext λk=>by have:=h8 c a;grind
theorem FG(a:List Int):Fin (cz a):=⟨a.length,λi b=>by show((a.getD i 0:Int):Rat)=0;rw[outI b];rfl⟩
theorem yV{A B Qs B':List Int}{c κ:Int}(m:c≠0)(k0:κ≠0)(h:∀k,κ*B'.getD k 0=c*A.getD k 0 -bz (co Qs) (co B) k)(d:Nat->Rat):(DQ d (cz B)/\DQ d (cz B'))↔(DQ d (cz A)/\DQ d (cz B)):=by
 have l:(c:Rat)≠0:=by exact_mod_cast m
 have f:(κ:Rat)≠0:=by exact_mod_cast k0
 have e:∀k,(κ:Rat)*cz B' k=(c:Rat)*cz A k -aG (cz Qs) (cz B) k:=λk=>by have j:=FF (co Qs) (co B) k;have g:=h k;show(κ:Rat)*((B'.getD k 0:Int):Rat)=(c:Rat)*((A.getD k 0:Int):Rat) -aG (λi=>(co Qs i:Rat)) (λi=>(co B i:Rat)) k;rw[j,←FM,←FM,←Rat.intCast_sub,g]
 constructor
 ·rintro⟨b,a⟩;refine⟨DQ.KO l ?_,b⟩;exact(DQ.add (a.sc (κ:Rat)) (DQ.mul (cz Qs) (FG Qs) b)).ext λk=>by have:=e k;grind
 ·rintro⟨b,a⟩;refine⟨a,DQ.KO f ?_⟩;exact(DQ.sub (b.sc (c:Rat)) (DQ.mul (cz Qs) (FG Qs) a)).ext λk=>e k
theorem N7(c:Rat)(p:Nat)(g:Nat->Rat)(k:Nat):aG (λi=>if i=p then c else 0) g k=if p<=k then c*g (k -p)else 0:=by
 have:∀(p:Nat)(k:Nat),aG (λi=>if i=p then c else 0) g k=if p<=k then c*g (k -p)else 0:=by
  intro p
  induction p with
  |zero=>
   intro k;have:=fG c (λi=>if i=0 then 1 else 0) g k;rw[oB]at this;rw[Bn (Mo _),Nat.sub_zero,←this];refine bT (λi=>?_) (λ_=>rfl) k;by_cases h:i=0
   ·rw[Bn h,Bn h,dn]
   ·rw[Bi h,Bi h,NA]
  |succ p a=>
   intro k;cases k with
   |zero=>rw[iC,Bi (by lia),Bi (by lia),eP]
   |succ k=>
    rw[lE,Bi (by lia),eP,so];have e:(λi=>if i+1=p+1 then c else 0)=λi=>if i=p then c else 0:=funext λi=>by
     by_cases h:i=p
     ·rw[Bn h,Bn (by lia)]
     ·rw[Bi h,Bi (by lia)]
    rw[e,a k];by_cases h:p<=k
    ·rw[Bn h,Bn (by lia),show k+1 -(p+1)=k -p by lia]
    ·rw[Bi h,Bi (by lia)]
 exact this p k
theorem N8{b:List Rat}(z:ay b)(C:b≠[]):∀(n:Nat)(a:List Rat),a.length<=n->∃(q:Nat->Rat)(r:List Rat),Fin q/\ay r/\r.length<b.length/\∀k,cQ a k=aG q (cQ b) k+cQ r k:=by
 have t:=Dx.mpr C;have s:b.getD (b.length -1) 0≠0:=by refine z _ ?_;rw[Ha,B1 (by lia),AC,B1 (by lia)];rfl
 intro n
 induction n with
 |zero=>intro a j;refine⟨λ_=>0,[],⟨0,λ_ _=>rfl⟩,λx v=>(by cases v),t,λk=>?_⟩;rw[KE.mp (Nat.le_zero.mp j),dI];show(0:Rat)=0+0;grind
 |succ n u=>
  intro a j;by_cases w:a.length<b.length
  ·exact⟨λ_=>0,aH a,⟨0,λ_ _=>rfl⟩,bJ a,On (jE a) w,λk=>by rw[dI,so];exact(o9 a k).symm⟩
  ·generalize E:a.length -b.length=d;generalize y:a.getD (a.length -1) 0*(b.getD (b.length -1) 0)⁻¹=c;obtain⟨q,r,B,o,p,e⟩:=u (ia (a.length -1) λk=>cQ a k -if d<=k then c*cQ b (k -d)else 0) (by rw[fE];lia);refine⟨λi=>q i+if i=d then c else 0,r,Fin.add B ⟨d+1,λi D=>Bi (by lia)⟩,o,p,λk=>?_⟩;rw[gF,N7];have f:=e k;have f:(ia (a.length -1) λk=>cQ a k -if d<=k then c*cQ b (k -d)else 0).getD k 0=_:=f;rw[yI]at f;by_cases m:k<a.length -1
   ·rw[Bn m]at f;grind
   ·rw[Bi m]at f;by_cases A:k=a.length -1
    ·have h:cQ b (k -d)=b.getD (b.length -1) 0:=by rw[show k -d=b.length -1 by lia]
     have g:cQ a k=a.getD (a.length -1) 0:=by rw[A]
     rw[Bn (by lia),h,g,←y];have:=h8 _ s;grind
    ·have h:cQ a k=0:=ic (by lia);have g:(if d<=k then c*cQ b (k -d)else 0)=0:=by
      by_cases l:d<=k
      ·rw[Bn l,show cQ b (k -d)=0 from ic (by lia),NA]
      ·rw[Bi l]
     rw[h,g];grind
theorem KQ:∀(n:Nat)(a b:List Rat),b.length<=n->ay a->ay b->∃(g:List Rat)(u v:Nat->Rat),ay g/\Fin u/\Fin v/\DQ (cQ g) (cQ a)/\DQ (cQ g) (cQ b)/\∀k,cQ g k=aG u (cQ a) k+aG v (cQ b) k:=by
 have c:∀(a:List Rat),ay a->∃(g:List Rat)(u v:Nat->Rat),ay g/\Fin u/\Fin v/\DQ (cQ g) (cQ a)/\DQ (cQ g) (cQ [])/\∀k,cQ g k=aG u (cQ a) k+aG v (cQ []) k:=λa z=>⟨a,λi=>if i=0 then 1 else 0,λ_=>0,z,⟨1,λi y=>Bi (by lia)⟩,⟨0,λ_ _=>rfl⟩,DQ.refl _,DQ.zero _,λk=>by rw[oB,dI,Rat.add_zero]⟩;intro n
 induction n with
 |zero=>intro a b h f d;rw[KE.mp (Nat.le_zero.mp h)];exact c a f
 |succ n x=>
  intro a b h f d;by_cases o:b=[]
  ·rw[o];exact c a f
  ·obtain⟨q,r,l,p,G,e⟩:=N8 d o a.length a (Do _);obtain⟨g,u,v,s,C,j,m,F,E⟩:=x b r (by lia) d p;refine⟨g,v,λi=>u i+ -1*aG v q i,s,j,?_,?_,m,λk=>?_⟩
   ·obtain⟨w,B⟩:=C;obtain⟨t,A⟩:=j.mul l;exact⟨w+t,λi y=>by dsimp only;rw[B i (by lia),A i (by lia)];grind⟩
   ·exact(DQ.add (DQ.mul q l m) F).ext λk=>e k
   ·rw[E k,gF,fG,mO];have D:aG v (cQ r) k=aG v (cQ a) k -aG v (aG q (cQ b)) k:=by have:aG v (cQ a) k=aG v (λi=>aG q (cQ b) i+cQ r i) k:=bT (λ_=>rfl) e k;rw[AR]at this;grind
    rw[D];grind
theorem N9{a b:List Rat}(m:ay a)(r:a≠[])(q:ay b)(H:b≠[])(h:jI a b≠0):∃u v:Nat->Rat,Fin u/\Fin v/\∀k,cQ [1] k=aG u (cQ a) k+aG v (cQ b) k:=by
 obtain⟨g,u,v,p,E,D,o,G,e⟩:=KQ b.length a b (Do _) m q;have d:∀{x:List Rat},DQ (cQ g) (cQ x)->∃t:List Rat,∀k,cQ x k=aG (cQ t) (cQ g) k:=λ⟨s,⟨n,f⟩,F⟩=>⟨ia n s,λk=>(F k).trans (bT (λi=>by
  show s i=(ia n s).getD i 0;rw[yI];by_cases c:i<n
  ·rw[Bn c]
  ·rw[Bi c,f i (by lia)]) (λ_=>rfl) k)⟩
 have B:¬2<=g.length:=λA=>h (N6 m r q H p A (d G) (d o));have C:g≠[]:=λz=>by rw[z]at o;exact r (TJ m o)
 obtain⟨x,rfl⟩:∃x,g=[x]:=by
  rcases g with _|⟨x,_|⟨y,l⟩⟩
  ·exact absurd rfl C
  ·exact⟨x,rfl⟩
  ·exact absurd (by simp) B
 have w:x≠0:=p x rfl;refine⟨λi=>x⁻¹*u i,λi=>x⁻¹*v i,?_,?_,λk=>?_⟩
 ·obtain⟨n,f⟩:=E;exact⟨n,λi c=>by dsimp only;rw[f i c,NA]⟩
 ·obtain⟨n,f⟩:=D;exact⟨n,λi c=>by dsimp only;rw[f i c,NA]⟩
 ·rw[fG,fG];have j:=e k;have:=h8 x w;cases k with
  |zero=>have j:x=aG u (cQ a) 0+aG v (cQ b) 0:=j;show(1:Rat)=_;grind
  |succ k=>have j:(0:Rat)=aG u (cQ a) (k+1)+aG v (cQ b) (k+1):=j;show(0:Rat)=_;grind
theorem yW{P:Nat->Prop}(h:∃i,¬P i):∃i,¬P i/\∀j,j<i->P j:=by
 obtain⟨i,d⟩:=h
 induction i using Nat.strongRecOn with
 |ind i c=>
  by_cases z:∃j,j<i/\¬P j
  ·obtain⟨j,b,a⟩:=z;exact c j b a
  ·exact⟨i,d,λj b=>Gc λa=>z ⟨j,b,a⟩⟩
theorem KR{p:Int}{f:Nat->Int}:∀n,(∀i,i<n->p∣f i)->p∣sm f n
 |0,_=>Y1 _
 |n+1,h=>by rw[sm];exact n4 (KR n λi a=>h i (by lia)) (h n (by lia))
theorem HE{p:Int}{f g:Nat->Int}(m:gW p)(o:∃i,¬p∣g i)(h:∀k,p∣bz f g k)(j:Nat):p∣f j:=by
 refine Gc λa=>?_;obtain⟨i,n,l⟩:=yW (P:=λi=>p∣g i) o;obtain⟨j,a,d⟩:=yW (P:=λj=>p∣f j) ⟨j,a⟩;have e:=h (j+i);unfold bz at e;have c:p∣sm (λt=>f t*g (j+i -t)) (j+i+1) -sm (λt=>if t=j then f j*g i else 0) (j+i+1):=by
  rw[Dl];refine KR _ λt s=>?_;show p∣f t*g (j+i -t) -(if t=j then f j*g i else 0);by_cases b:t=j
  ·rw[Bn b,b,show j+i -j=i by lia,km];exact Y1 _
  ·rw[Bi b,oa];by_cases q:t<j
   ·exact vk (d t q)
   ·exact fo (l _ (by lia))
 rw[yL j λ_=>f j*g i,Bn (by lia)]at c;have r:p∣f j*g i:=by have:=xb e c;rw[show sm (λt=>f t*g (j+i -t)) (j+i+1) -(sm (λt=>f t*g (j+i -t)) (j+i+1) -f j*g i)=f j*g i by lia]at this;exact this
 exact(uE m r).elim a n
theorem HF{d:Int}(h:2<=d):∃p,gW p/\p∣d:=by
 have g:∃i:Nat,¬(i<2\/¬(i:Int)∣d):=⟨d.toNat,λz=>z.elim (λz=>by lia) λz=>z (by rw[Int.toNat_of_nonneg (by lia)];exact Int.dvd_refl _)⟩;obtain⟨i,b,c⟩:=yW g;have k:2<=i:=by refine ph λz=>b (.inl z)
 have a:(i:Int)∣d:=Gc λz=>b (.inr z);refine⟨i,⟨by lia,λe n m z=>?_⟩,a⟩;have j:e∣(i:Int):=vi z;have f:e.toNat<i:=by have l:e*2<=e*e:=rn (by lia) (by lia);lia
 rcases c e.toNat f with z|z
 ·lia
 ·exact z (by rw[Int.toNat_of_nonneg (by lia)];exact Int.dvd_trans j a)
theorem Yh{f g n:Nat->Int}(u:∀e:Int,(∀i,e∣g i)->e∣1):∀(m:Nat)(d:Int)(f:Nat->Int),d.natAbs<=m->d≠0->(∀k,d*n k=bz f g k)->∀i,d∣f i:=by
 intro m
 induction m with
 |zero=>intro d f h c;exact absurd (by lia) c
 |succ m t=>
  intro d f h c e;by_cases v:d.natAbs=1
  ·intro i;exact⟨d*f i,by rcases Int.natAbs_eq d with z|z<;>rw[v]at z<;>rw[z]<;>grind⟩
  ·obtain⟨p,l,b⟩:=HF (d:=(d.natAbs:Int)) (by lia);have b:p∣d:=Int.dvd_natAbs.mp b;have w:=l.1;obtain⟨a,rfl⟩:=b;have r:∀i,p∣f i:=HE l (Gc λz=>by have:=bo (by decide) (u p λi=>Gc λy=>z ⟨i,y⟩);lia) λk=>⟨a*n k,by rw[←e k,SU]⟩;have j:a≠0:=λz=>c (by rw[z,Pi]);have o:∀i,f i=p*(f i/p):=λi=>(fe (r i)).symm;have s:a.natAbs<=m:=by
    rw[Fh]at h;have A:2*a.natAbs<=p.natAbs*a.natAbs:=P3 _ (by lia);have x:0<a.natAbs:=by lia
    lia
   have:=t a (λi=>f i/p) s j λk=>by have q:=e k;rw[show f=λi=>p*(f i/p)from funext o,pH,SU]at q;exact SB (by lia) q
   intro i;rw[o i];exact Int.mul_dvd_mul_left _ (this i)
theorem HG{u:Nat->Rat}(h:Fin u):∃(D:Int)(f:Nat->Int),D≠0/\∀i,(D:Rat)*u i=f i:=by
 obtain⟨n,b⟩:=h;have:∃D:Int,0<D/\∀i,i<n->∃z:Int,(D:Rat)*u i=z:=by
  clear b
  induction n with
  |zero=>exact⟨1,by decide,λi h=>by lia⟩
  |succ n k=>
   obtain⟨D,j,a⟩:=k;have l:=(u n).den_pos;refine⟨D*(u n).den,ui j (by lia),λi c=>?_⟩;by_cases e:i=n
   ·subst e;have g:=jD (x:=u i) (B:=(u i).den) (Int.dvd_refl _);rw[Int.ediv_self (by lia),dq]at g;refine⟨D*(u i).num,?_⟩;rw[FM,FM,g,ar,oI (u i)]
   ·obtain⟨z,hz⟩:=a i (by lia);refine⟨z*(u n).den,?_⟩;rw[FM,FM,←hz];grind
 obtain⟨D,j,a⟩:=this;have d:∀i,∃z:Int,(D:Rat)*u i=z:=λi=>if c:i<n then a i c else⟨0,by rw[b i (by lia),NA];rfl⟩
 exact⟨D,λi=>Classical.choose (d i),by lia,λi=>QP (d i)⟩
theorem Oa{u:Nat->Rat}{g n:Nat->Int}(j:Fin u)(c:∀e:Int,(∀i,e∣g i)->e∣1)(h:∀k,((n k:Int):Rat)=aG u (λi=>(g i:Rat)) k):∃z:Nat->Int,∀i,u i=(z i:Rat):=by
 obtain⟨D,f,a,e⟩:=HG j;have d:=Yh (f:=f) (n:=n) c D.natAbs D f (Do _) a λk=>by
  have:((D*n k:Int):Rat)=((bz f g k:Int):Rat):=by rw[←FF,FM,h k,←fG];exact bT e (λ_=>rfl) k
  exact_mod_cast this
 refine⟨λi=>f i/D,λi=>?_⟩;have l:(D:Rat)≠0:=by exact_mod_cast a
 have:=e i;rw[←fe (d i),FM]at this;have b:=h8 (D:Rat) l;have:=W1 ((D:Rat)⁻¹*·) this;rw[←ar,←ar,b,Ya,Ya]at this;exact this
theorem FH{ns g:List Int}(I:0<ns.length)(v:ns.getD (ns.length -1) 0≠0)(L:0<g.length)(A:g.getD (g.length -1) 0≠0)(one:∀d:Int,(∀x∈g,d∣x)->d∣1)(h:DQ (cz g) (cz ns)):
 ∃Z:List Int,0<Z.length/\ns.length+1=Z.length+g.length/\(∀k,ns.getD k 0=bz (co Z) (co g) k)/\ns.getD (ns.length -1) 0=Z.getD (Z.length -1) 0*g.getD (g.length -1) 0:=by
 obtain⟨u,r,e⟩:=h;obtain⟨z,hz⟩:=Oa (g:=co g) (n:=co ns) r (λd D=>one d λx B=>by obtain⟨i,c,e⟩:=TK B;have:=D i;unfold co at this;rw[AC,B1 c]at this;rw[←e];exact this) e;have l:((g.getD (g.length -1) 0:Int):Rat)≠0:=by exact_mod_cast A
 have j:((ns.getD (ns.length -1) 0:Int):Rat)≠0:=by exact_mod_cast v
 have q:∀i,g.length -1<i->cz g i=0:=λi c=>by show((g.getD i 0:Int):Rat)=0;rw[outI (by lia)];rfl
 have p:∃k,u k≠0:=Gc λy=>j (by have b:=e (ns.length -1);have:=bT (f':=λ_=>0) (g:=cz g) (λi=>Gc λw=>y ⟨i,w⟩) (λ_=>rfl) (ns.length -1);rw[this,dI]at b;exact b);obtain⟨k,p⟩:=p;obtain⟨t,C,o⟩:=iH r k p;have a:=kq (f:=u) (g:=cz g) (n:=t) (m:=g.length -1) o q;rw[←e]at a;have K:t+(g.length -1)<ns.length:=by
  refine Nat.lt_of_not_le λy=>?_;have b:cz ns (t+(g.length -1))=0:=by show((ns.getD _ 0:Int):Rat)=0;rw[outI y];rfl
  rw[b]at a;rcases Pm.mp a.symm with w|w
  ·exact C w
  ·exact l w
 have J:ns.length -1<=t+(g.length -1):=by refine ph λy=>j ?_;exact(e (ns.length -1)).trans (Fq (n:=t+1) (m:=g.length) (λi c=>o i (by lia)) (λi c=>q i (by lia)) (by lia))
 have E:ns.length -1=t+(g.length -1):=by lia
 have s:∀i,co ((List.range (t+1)).map z) i=z i:=λi=>by
  show((List.range (t+1)).map z).getD i 0=_;by_cases c:i<t+1
  ·rw[AC,DD,Y2 c];rfl
  ·rw[outI (by rw[AN,Pt];lia)];have:=o i (by lia);rw[hz i]at this;exact_mod_cast this.symm
 refine⟨(List.range (t+1)).map z,by rw[AN,Pt];lia,by rw[AN,Pt];lia,λk=>?_,?_⟩
 ·rw[show co ((List.range (t+1)).map z)=z from funext s];have b:=e k;rw[bT hz (λ_=>rfl) k]at b;have G:=FF z (co g) k;have F:((ns.getD k 0:Int):Rat)=((bz z (co g) k:Int):Rat):=b.trans G;exact_mod_cast F
 ·rw[AN,Pt,GM];have H:((List.range (t+1)).map z).getD t 0=z t:=s t;rw[H];rw[←E,hz t]at a;have a:((ns.getD (ns.length -1) 0:Int):Rat)=(z t:Rat)*((g.getD (g.length -1) 0:Int):Rat):=a;rw[←FM]at a;exact_mod_cast a
theorem KU{f:Nat->Int}{B:Nat}:∀n,(∀i,i<n->(f i).natAbs<=B)->(sm f n).natAbs<=n*B
 |0,_=>by rw[sm];simp
 |n+1,h=>by rw[sm];have h1:=KU n λi a=>h i (by lia);have c:=h n (by lia);have b:=Int.natAbs_add_le (sm f n) (f n);rw[vw];lia
theorem aa6{a b c:Int}{x P N K:Nat}(e:c=a+b)(j:c.natAbs<N)(i:N<=P)(g:b.natAbs<=K)(f:K<=15*P)(d:x<=a.natAbs):x<16*P:=by have h:=Int.natAbs_sub_le c b;rw[e,Int.add_sub_cancel,←e]at h;lia
theorem Ds{Z g ns:List Int}{n q:Nat}(e:∀k,ns.getD k 0=bz (co Z) (co g) k)(l:ns.length+1=Z.length+g.length)(r:ns.length<=14)(u:0<g.length)(o:g.getD (g.length -1) 0≠0)(d:∀x∈ns,x.natAbs<2^n)(f:∀x∈g,x.natAbs<2^q):
 ∀s i,Z.length<=i+s->(Z.getD i 0).natAbs<2^(n+s*(q+4))
 |0,i,h=>by rw[outI (by lia)];exact P2 (by decide)
 |s+1,i,h=>by
  by_cases t:Z.length<=i
  ·rw[outI t];exact P2 (by decide)
  have ih:=Ds e l r u o d f s;have c:=e (i+(g.length -1));generalize F:i+(g.length -1)=k at c;have a:∀(l:List Int)(m:Nat),(∀x∈l,x.natAbs<2^m)->∀j,(l.getD j 0).natAbs<2^m:=λl m h j=>by
   by_cases b:j<l.length
   ·exact h _ (getD_mem' b)
   ·rw[outI (by lia)];exact P2 (by decide)
  have p:bz (co Z) (co g) k=Z.getD i 0*g.getD (g.length -1) 0+sm (λj=>if j=i then 0 else Z.getD j 0*g.getD (k -j) 0) (k+1):=by
   unfold bz co;have v:∀j,Z.getD j 0*g.getD (k -j) 0=(if j=i then Z.getD j 0*g.getD (k -j) 0 else 0)+(if j=i then 0 else Z.getD j 0*g.getD (k -j) 0):=λj=>by
    by_cases z:j=i
    ·rw[Bn z,Bn z,de]
    ·rw[Bi z,Bi z,t5]
   rw[gg (k+1) λj _=>v j,yK,yL i (λj=>Z.getD j 0*g.getD (k -j) 0),Bn (by lia),show k -i=g.length -1 by lia]
  have w:(sm (λj=>if j=i then 0 else Z.getD j 0*g.getD (k -j) 0) (k+1)).natAbs<=(k+1)*2^(n+s*(q+4)+q):=by
   refine KU _ λj b=>?_;by_cases z:j=i
   ·rw[Bn z];exact Mo _
   ·rw[Bi z,Fh,cc 2 _ q];by_cases E:j<i
    ·rw[outI (ns:=g) (k:=k -j) (by lia)];exact Mo _
    ·exact eI (PQ (ih j (by lia))) (PQ (a g q f _))
  have D:=a ns n d k;have C:(Z.getD i 0).natAbs<=(Z.getD i 0*g.getD (g.length -1) 0).natAbs:=by rw[Fh];exact Wp _ (by lia)
  have B:(2:Nat)^n<=2^(n+s*(q+4)+q):=Kk (by decide) (by lia);have A:(k+1)*2^(n+s*(q+4)+q)<=15*2^(n+s*(q+4)+q):=P3 _ (by lia);have y:(2:Nat)^(n+(s+1)*(q+4))=16*2^(n+s*(q+4)+q):=by rw[vw,show n+(s*(q+4)+(q+4))=n+s*(q+4)+q+4 by lia,cc 2 _ 4,kf]
  rw[y];exact aa6 (c.trans p) D B w A C
instance:Std.Associative aG:=⟨λf g h=>funext λk=>mO g h k f⟩
instance:Std.Commutative aG:=⟨λf g=>funext λk=>dO f g k⟩
theorem uG{f h:Nat->Rat}{b:List Rat}(ff:Fin f)(j:Fin h)(d:ay b)(l:b≠[])(e:aG f (cQ b)=aG h (cQ b)):f=h:=funext λi=>by
 have g:Fin λi=> -1*h i:=by obtain⟨n,a⟩:=j;exact⟨n,λi c=>by show-1*h i=0;rw[a i c];grind⟩
 have:=HB (s:=λi=>f i+ -1*h i) (ff.add g) d l (λk=>by rw[gF,fG,e];grind) i;have this:f i+ -1*h i=0:=this;grind
theorem yX(g:Nat->Rat):aG (cQ [1]) g=g:=funext λk=>by rw[bT (f':=λi=>if i=0 then 1 else 0) (g':=g) (λi=>?_) (λ_=>rfl) k,oB];cases i<;>rfl
structure QT(a b s t:List Rat):Prop where
 zs:ay s
 mt:Mon t
 eq:aG (cQ s) (cQ b)=aG (cQ a) (cQ t)
 Z0:∃u v,Fin u/\Fin v/\cQ [1]=λk=>aG u (cQ s) k+aG v (cQ t) k
theorem KW{s t s' t':Nat->Rat}{u v:Nat->Rat}(c:Fin u)(a:Fin v)(f:Fin s')(d:Fin t')(b:cQ [1]=λk=>aG u s k+aG v t k)(e:aG s t'=aG s' t):DQ t t':=by
 refine⟨λk=>aG u s' k+aG v t' k,(c.mul f).add (a.mul d),λk=>?_⟩;have i:t'=aG (cQ [1]) t':=(yX t').symm;rw[gF];refine(congrFun i k).trans ?_;rw[b,gF];have h:aG (aG u s) t'=aG (aG u s') t:=by
  have:aG (aG u s) t'=aG u (aG s t'):=by ac_rfl
  rw[this,e]
  ac_rfl
 have g:aG (aG v t) t'=aG (aG v t') t:=by ac_rfl
 rw[h,g]
theorem QT.unique{a b s t d c s' t':List Rat}(h:QT a b s t)(h':QT d c s' t')(r:ay b)(A:b≠[])(g:ay c)(l:c≠[])(e:aG (cQ a) (cQ c)=aG (cQ d) (cQ b)):s=s'/\t=t':=by
 obtain⟨u,v,y,w,f⟩:=h.Z0;obtain⟨C,B,j,i,m⟩:=h'.Z0;have x:aG (cQ s) (cQ t')=aG (cQ s') (cQ t):=by
  refine uG ((aX s).mul (aX t')) ((aX s').mul (aX t)) r A ?_;refine uG (((aX s).mul (aX t')).mul (aX b)) (((aX s').mul (aX t)).mul (aX b)) g l ?_;have q:aG (aG (aG (cQ s) (cQ t')) (cQ b)) (cQ c)=aG (aG (cQ s) (cQ b)) (aG (cQ t') (cQ c)):=by ac_rfl
  have p:aG (aG (aG (cQ s') (cQ t)) (cQ b)) (cQ c)=aG (aG (cQ s') (cQ c)) (aG (cQ t) (cQ b)):=by ac_rfl
  rw[q,p,h.eq,h'.eq];have o:aG (aG (cQ a) (cQ t)) (aG (cQ t') (cQ c))=aG (aG (cQ a) (cQ c)) (aG (cQ t) (cQ t')):=by ac_rfl
  have n:aG (aG (cQ d) (cQ t')) (aG (cQ t) (cQ b))=aG (aG (cQ d) (cQ b)) (aG (cQ t) (cQ t')):=by ac_rfl
  rw[o,n,e]
 have z:t=t':=Mon.unique h.mt h'.mt (KW y w (aX s') (aX t') f x) (KW j i (aX s) (aX t) m x.symm);subst z;exact⟨yH h.zs h'.zs λk=>congrFun (uG (aX s) (aX s') h.mt.lnz h.mt.ne x) k,rfl⟩
theorem QT.cop{a b s t:List Rat}(h:QT a b s t){d:Nat->Rat}(f:DQ d (cQ s))(e:DQ d (cQ t)):DQ d (cQ [1]):=by obtain⟨u,v,i,g,c⟩:=h.Z0;rw[c];exact DQ.add (DQ.mul u i f) (DQ.mul v g e)
theorem Du(b:List Rat):QT [] b [] [1]:=by
 refine⟨λx a=>by simp at a,⟨by simp,rfl⟩,?_,cQ [],cQ [1],aX _,aX _,?_⟩
 ·funext k;have z:∀g:Nat->Rat,aG (cQ []) g k=0:=λg=>(bT (f':=λ_=>0) (λi=>by simp) (λ_=>rfl) k).trans (dI g k);rw[z,z]
 ·funext k;have z:aG (cQ []) (cQ []) k=0:=(bT (f':=λ_=>0) (λi=>by simp) (λ_=>rfl) k).trans (dI _ k);rw[z,yX,so]
theorem czF(f g:List Int):aG (cz f) (cz g)=λk=>((bz (co f) (co g) k:Int):Rat):=funext λk=>FF (co f) (co g) k
theorem yY(c:Rat)(f g:Nat->Rat):aG (λi=>c*f i) g=λi=>c*aG f g i:=funext λk=>fG c f g k
theorem tu(c:Rat)(f g:Nat->Rat):aG f (λi=>c*g i)=λi=>c*aG f g i:=funext λk=>NY c f g k
theorem pJ{ns:List Int}(z:ns.getD (ns.length -1) 0≠0):ay (ns.map λx:Int=>(x:Rat)):=λx b=>by rw[List.getLast?_map]at b;obtain⟨y,a,rfl⟩:=Oy.mp b;rw[Ha]at a;rw[AC,a]at z;have z:y≠0:=z;exact_mod_cast z
theorem uH(ns:List Int):cQ (ns.map λx:Int=>(x:Rat))=cz ns:=funext λi=>by show(ns.map λx:Int=>(x:Rat)).getD i 0=((ns.getD i 0:Int):Rat);rw[AC,AC,DD];cases ns[i]?<;>rfl
theorem Ob{ns i g Y Z:List Int}(j:0<g.length)(o:g.getD (g.length -1) 0≠0)(c:∀d,DQ d (cz ns)/\DQ d (cz i)->DQ d (cz g))(F:cz ns=aG (cz Y) (cz g))(E:cz i=aG (cz Z) (cz g))(q:Y.getD (Y.length -1) 0≠0)(p:Z.getD (Z.length -1) 0≠0):
 ∃u v,Fin u/\Fin v/\cQ [1]=λk=>aG u (cz Y) k+aG v (cz Z) k:=by
 obtain⟨a,u,v,_,B,A,n,m,e⟩:=KQ _ _ _ (Do _) (pJ q) (pJ p);rw[uH]at n m;rw[uH,uH]at e;have l:∀{X:List Int}{f:Nat->Rat},f=aG (cz X) (cz g)->DQ (cQ a) (cz X)->DQ (aG (cQ a) (cz g)) f:=λ{X f} C t=>by obtain⟨w,b,h⟩:=t;refine⟨w,b,λk=>?_⟩;rw[C,show cz X=aG w (cQ a)from funext h];exact congrFun (show aG (aG w (cQ a)) (cz g)=aG w (aG (cQ a) (cz g)) by ac_rfl) k
 obtain⟨w,b,h⟩:=c _ ⟨l F n,l E m⟩;have D:aG w (cQ a)=cQ [1]:=by
  have y:g.map (λx:Int=>(x:Rat))≠[]:=λz=>by rw[ky.mp z]at j;cases j
  refine uG (b.mul (aX a)) (aX [1]) (pJ o) y ?_;rw[uH,yX];have:aG (aG w (cQ a)) (cz g)=aG w (aG (cQ a) (cz g)):=by ac_rfl
  rw[this];exact(funext h).symm
 refine⟨aG w u,aG w v,b.mul B,b.mul A,?_⟩;rw[←D,show cQ a=λk=>aG u (cz Y) k+aG v (cz Z) k from funext e];funext k;rw[AR];have s:aG w (aG u (cz Y))=aG (aG w u) (cz Y):=by ac_rfl
 have r:aG w (aG v (cz Z))=aG (aG w v) (cz Z):=by ac_rfl
 rw[s,r]
theorem Yi{a b s t:List Rat}{ns m g Y Z:List Int}{κ κ' σ τ:Rat}(F:0<g.length)(x:g.getD (g.length -1) 0≠0)(o:∀d,DQ d (cz ns)/\DQ d (cz m)->DQ d (cz g))(w:cz ns=aG (cz Y) (cz g))(r:cz m=aG (cz Z) (cz g))(z:Y.getD (Y.length -1) 0≠0)(y:Z.getD (Z.length -1) 0≠0)
 (J:cQ a=λi=>κ*cz ns i)(I:cQ b=λi=>κ'*cz m i)(q:cQ s=λi=>σ*cz Y i)(p:cQ t=λi=>τ*cz Z i)(B:ay s)(A:Mon t)(l:σ≠0)(j:τ≠0)(D:σ*κ'=κ*τ):QT a b s t:=by
 refine⟨B,A,?_,?_⟩
 ·rw[q,I,J,p,yY,tu,yY,tu,w,r];have:aG (cz Y) (aG (cz Z) (cz g))=aG (aG (cz Y) (cz g)) (cz Z):=by ac_rfl
  rw[this];funext k;rw[←ar,D,ar]
 ·obtain⟨u,v,H,G,e⟩:=Ob F x o w r z y;have h:∀{f:Nat->Rat}(c:Rat),Fin f->Fin λi=>c*f i:=λ{f} c ⟨n,C⟩=>⟨n,λi E=>by show c*f i=0;rw[C i E,NA]⟩;refine⟨λi=>σ⁻¹*u i,λi=>τ⁻¹*v i,h _ H,h _ G,?_⟩;rw[e,q,p];funext k;rw[yY,yY,tu,tu];dsimp only;rw[←ar,←ar,h8 _ l,h8 _ j,Ya,Ya]
noncomputable def Lf(A B R:Nat->Int):Prop:=∃(c:Int)(Q:Nat->Int),c≠0/\(∃n,∀i,n<=i->Q i=0)/\∀k,R k=c*A k -bz Q B k
theorem Lf.start(A B:Nat->Int):Lf A B A:=⟨1,λ_=>0,by decide,⟨0,λ_ _=>rfl⟩,λk=>by rw[pA];lia⟩
theorem Lf.step{A B R R':Nat->Int}{l h:Int}{p:Nat}(d:Lf A B R)(a:l≠0)(e:∀k,R' k=l*R k -if p<=k then h*B (k -p)else 0):Lf A B R':=by
 obtain⟨c,Q,g,⟨n,b⟩,f⟩:=d;refine⟨l*c,λi=>l*Q i+if i=p then h else 0,PH a g,⟨max n (p+1),λi j=>?_⟩,λk=>?_⟩
 ·show l*Q i+(if i=p then h else 0)=0;rw[b i (by lia),Bi (by lia)];lia
 ·rw[pq,e k,f k,Int.mul_sub,SU];lia
theorem Lf.dv{A B:List Int}{R:Nat->Int}{C:List Int}{κ:Int}(h:Lf (co A) (co B) R)(k0:κ≠0)(e:∀k,R k=κ*C.getD k 0)(d:Nat->Rat):(DQ d (cz B)/\DQ d (cz C))↔(DQ d (cz A)/\DQ d (cz B)):=by
 obtain⟨c,Q,j,⟨n,a⟩,f⟩:=h;have g:co ((List.range n).map Q)=Q:=funext λi=>by
  show((List.range n).map Q).getD i 0=Q i;by_cases b:i<n
  ·rw[AC,DD,Y2 b];rfl
  ·rw[outI (by rw[AN,Pt];lia),a i (by lia)]
 exact yV (Qs:=(List.range n).map Q) j k0 (λk=>by rw[g,←e k,f k]) d
noncomputable def Tp(R:List Int):Prop:=0<R.length->R.getD (R.length -1) 0≠0
theorem KY(t:List Int)(k:Nat):(t++[0]).getD k 0=t.getD k 0:=by
 rw[AC,AC];by_cases h:k<t.length
 ·rw[He h]
 ·rw[Fu (by lia),FK (l:=t) (by lia)];cases k -t.length with
  |zero=>rfl
  |succ i=>rfl
theorem Oc(t:List Int){y:Int}(h:y≠0):Tp (t++[y]):=λ_=>by rw[Ee,List.length_singleton,GM,AC,Fu (Do _),ei];exact h
theorem Yj:∀h,h<8->∀a,a<h->(1+(h+1 -a))*3^(7 -h)<=3^(7 -a):=by decide
theorem Yk:∀h,h<8->∀a,a<8->1+(h+1 -a)<=2*3^(7 -a):=by decide
end Num
namespace VL
open PySem PySem.Spec PyProof.Rows L2
theorem ff{C:Prop}(h:false=true):C:=Bool.noConfusion h
theorem nn{α:Type}{a:α}{C:Prop}(h:none=some a):C:=Option.noConfusion rfl (heq_of_eq h)
inductive W where
 |bC|bl (b:Bool)|int (i:Int)|str (x:Str)|ty (n:String)|cls (C:Addr)|err (C:Addr)
 |tup (l:List W)|lst (l:List W)|dct (ks vs:List W)|obj (C:Addr) (fs:List Str) (vs:List W)|g9 (ns:List Int)
noncomputable def IX:HO->Bool
 |.lst _|.ins _ _ _|.dK _|.dT _|.set _ _=>true
 |_=>false
noncomputable def aa8:Key->W
 |.inl i=>.int i
 |.inr x=>.str x
noncomputable def Dv(K:Frag)(C:Addr)(a:List Str):Prop:=Nb K C/\a.length<1000/\a.Nodup/\∀x∈a,oh K C x
mutual
noncomputable def Rep(K:Frag)(A:Addr->Prop)(H:Hp):W->V->Prop
 |.bC,v=>v=.bC
 |.bl b,v=>v=.bl b
 |.int i,v=>v=.int i
 |.str x,v=>v=.str x
 |.ty n,v=>v=.ty n
 |.cls C,v=>v=.ref C
 |.err C,v=>∃a,v=.ref a/\H a=some (yC a C)/\¬A a
 |.tup l,v=>∃p vs,v=.ref p/\H p=some (.tup vs)/\ak K A H l vs
 |.lst l,v=>∃p vs,v=.ref p/\¬A p/\Rd H p (.lst vs)/\ak K A H l vs
 |.dct f d,v=>∃p c,v=.ref p/\¬A p/\H p=some (.dK c)/\f=c.map (λx=>aa8 x.1)/\ak K A H d (c.map (·.2))
 |.obj C e d,v=>∃p g vs,v=.ref p/\¬A p/\H p=some (.ins C g (e.zip vs))/\vs.length=e.length/\Dv K C e/\ak K A H d vs
 |.g9 ns,v=>∃p,v=.ref p/\((∃o,H p=some (.An o (.lst (ns.map V.int))))\/kI K (λ_=>none) p (ns.map V.int))
noncomputable def ak(K:Frag)(A:Addr->Prop)(H:Hp):List W->List V->Prop
 |[],vs=>vs=[]
 |w::a,vs=>∃v r,vs=v::r/\Rep K A H w v/\ak K A H a r
end
section
variable{K:Frag}{A B:Addr->Prop}{H H':Hp}
theorem aE.rd{p:Addr}{u:HO}(s:aE H H')(h:Rd H p u):Rd H' p u:=by
 rcases h with h|⟨o,h⟩
 ·exact .inl (s _ _ h)
 ·exact .inr ⟨o,s _ _ h⟩
noncomputable def Ai(B:Addr->Prop)(H H':Hp):Prop:=∀p o,H p=some o->(IX o=true/\B p)\/H' p=some o
theorem Ai.un{p:Addr}{o:HO}(h:Ai A H H')(e:H p=some o)(n:IX o=true->¬A p):H' p=some o:=by
 rcases h p o e with⟨z,y⟩|z
 ·exact(n z y).elim
 ·exact z
mutual
theorem Rep.chg(h:Ai A H H')(d:∀p o,H p=some o->B p->A p):∀(w:W){v:V},Rep K A H w v->Rep K B H' w v
 |.bC,_,r=>by rw[Rep]at r⊢;exact r
 |.bl _,_,r=>by rw[Rep]at r⊢;exact r
 |.int _,_,r=>by rw[Rep]at r⊢;exact r
 |.str _,_,r=>by rw[Rep]at r⊢;exact r
 |.ty _,_,r=>by rw[Rep]at r⊢;exact r
 |.cls _,_,r=>by rw[Rep]at r⊢;exact r
 |.err C,v,r=>by rw[Rep]at r⊢;obtain⟨a,e,b,c⟩:=r;exact⟨a,e,h.un b (λz=>by cases z),λz=>c (d a _ b z)⟩
 |.tup l,v,r=>by rw[Rep]at r⊢;obtain⟨p,f,e,b,c⟩:=r;exact⟨p,f,e,h.un b (λz=>by cases z),ak.chg h d l c⟩
 |.lst l,v,r=>by
  rw[Rep]at r⊢;obtain⟨p,f,e,n,b,c⟩:=r;refine⟨p,f,e,λz=>?_,?_,ak.chg h d l c⟩
  ·rcases b with b|⟨o,b⟩<;>exact n (d p _ b z)
  ·rcases b with b|⟨o,b⟩
   ·exact .inl (h.un b λ_=>n)
   ·exact .inr ⟨o,h.un b λz=>by cases z⟩
 |.dct s g,v,r=>by rw[Rep]at r⊢;obtain⟨p,i,e,n,b,c,j⟩:=r;exact⟨p,i,e,λz=>n (d p _ b z),h.un b λ_=>n,c,ak.chg h d g j⟩
 |.obj C t g,v,r=>by rw[Rep]at r⊢;obtain⟨p,m,f,e,n,b,c,k,j⟩:=r;exact⟨p,m,f,e,λz=>n (d p _ b z),h.un b λ_=>n,c,k,ak.chg h d g j⟩
 |.g9 q,v,r=>by rw[Rep]at r⊢;obtain⟨p,e,b⟩:=r;exact⟨p,e,b.imp (by rintro⟨o,z⟩;exact⟨o,h.un z λz=>by cases z⟩) id⟩
theorem ak.chg(h:Ai A H H')(a:∀p o,H p=some o->B p->A p):∀(l:List W){vs:List V},ak K A H l vs->ak K B H' l vs
 |[],_,r=>by rw[ak]at r⊢;exact r
 |w::l,vs,r=>by rw[ak]at r⊢;obtain⟨v,b,e,d,c⟩:=r;exact⟨v,b,e,Rep.chg h a w d,ak.chg h a l c⟩
end
theorem Ai.same(s:aE H H'):Ai A H H':=λ_ _ e=>.inr (s _ _ e)
theorem Ai.put{p:Addr}{a o:HO}(b:H p=some a)(c:IX a=true)(d:A p):Ai A H (upd H p o):=λq u e=>by
 by_cases n:q=p
 ·subst n;rw[b]at e;cases e;exact .inl ⟨c,d⟩
 ·exact .inr (by rw[ao n];exact e)
theorem Rep.mv(s:aE H H')(a:∀p o,H p=some o->B p->A p)(w:W){v:V}(h:Rep K A H w v):Rep K B H' w v:=Rep.chg (.same s) a w h
theorem ak.mv(s:aE H H')(a:∀p o,H p=some o->B p->A p)(l:List W){vs:List V}(h:ak K A H l vs):ak K B H' l vs:=ak.chg (.same s) a l h
theorem Rep.same{w:W}{v:V}(s:aE H H')(h:Rep K A H w v):Rep K A H' w v:=Rep.mv s (λ_ _ _ z=>z) w h
theorem ak.same{l:List W}{vs:List V}(s:aE H H')(h:ak K A H l vs):ak K A H' l vs:=ak.mv s (λ_ _ _ z=>z) l h
theorem Rep.less{w:W}{v:V}(a:∀p,B p->A p)(h:Rep K A H w v):Rep K B H w v:=Rep.mv (aE.refl H) (λp _ _ z=>a p z) w h
theorem ak.less{l:List W}{vs:List V}(a:∀p,B p->A p)(h:ak K A H l vs):ak K B H l vs:=ak.mv (aE.refl H) (λp _ _ z=>a p z) l h
theorem ak.put{p:Addr}{a:List V}{o:HO}(b:H p=some (.lst a))(c:A p)(l:List W){vs:List V}(h:ak K A H l vs):ak K A (upd H p o) l vs:=ak.chg (.put b rfl c) (λ_ _ _ z=>z) l h
theorem ak.nil:ak K A H [] []:=by rw[ak]
theorem ak.cons{w:W}{v:V}{l:List W}{vs:List V}(b:Rep K A H w v)(a:ak K A H l vs):ak K A H (w::l) (v::vs):=by rw[ak];exact⟨v,vs,rfl,b,a⟩
theorem ak.nil_inv{vs:List V}(h:ak K A H [] vs):vs=[]:=by rw[ak]at h;exact h
theorem ak.cons_inv{w:W}{l:List W}{vs:List V}(h:ak K A H (w::l) vs):∃v r,vs=v::r/\Rep K A H w v/\ak K A H l r:=by rw[ak]at h;exact h
theorem ak.len:∀{l:List W}{vs:List V},ak K A H l vs->vs.length=l.length
 |[],vs,h=>by rw[h.nil_inv];rfl
 |w::l,vs,h=>by obtain⟨v,r,rfl,_,a⟩:=h.cons_inv;rw[List.length_cons,List.length_cons,a.len]
theorem ak.app:∀{l m:List W}{vs us:List V},ak K A H l vs->ak K A H m us->ak K A H (l++m) (vs++us)
 |[],m,vs,us,h,k=>by rw[h.nil_inv];exact k
 |w::l,m,vs,us,h,k=>by obtain⟨v,r,rfl,b,a⟩:=h.cons_inv;exact .cons b (a.app k)
theorem ak.get:∀{l:List W}{vs:List V}{i:Nat}{w:W},ak K A H l vs->l[i]?=some w->∃v,vs[i]?=some v/\Rep K A H w v
 |[],_,_,_,_,e=>by simp at e
 |x::l,vs,0,w,h,e=>by obtain⟨v,r,rfl,b,a⟩:=h.cons_inv;simp at e;subst e;exact⟨v,rfl,b⟩
 |x::l,vs,i+1,w,h,e=>by obtain⟨v,r,rfl,b,a⟩:=h.cons_inv;obtain⟨u,d,c⟩:=a.get (i:=i) (by simpa using e);exact⟨u,by simpa using d,c⟩
theorem ak.set:∀{l:List W}{vs:List V}{i:Nat}{w:W}{v:V},ak K A H l vs->Rep K A H w v->ak K A H (l.set i w) (vs.set i v)
 |[],_,_,_,_,h,_=>by rw[h.nil_inv];exact .nil
 |x::l,vs,0,w,v,h,e=>by obtain⟨c,r,rfl,b,a⟩:=h.cons_inv;exact .cons e a
 |x::l,vs,i+1,w,v,h,e=>by obtain⟨c,r,rfl,b,a⟩:=h.cons_inv;exact .cons b (a.set e)
theorem ak.take:∀{l:List W}{vs:List V}(n:Nat),ak K A H l vs->ak K A H (l.take n) (vs.take n)
 |_,_,0,_=>.nil
 |[],vs,n+1,h=>by rw[h.nil_inv];exact .nil
 |x::l,vs,n+1,h=>by obtain⟨c,r,rfl,b,a⟩:=h.cons_inv;exact .cons b (a.take n)
theorem ak.drop:∀{l:List W}{vs:List V}(n:Nat),ak K A H l vs->ak K A H (l.drop n) (vs.drop n)
 |_,_,0,h=>h
 |[],vs,n+1,h=>by rw[h.nil_inv];exact .nil
 |x::l,vs,n+1,h=>by obtain⟨b,r,rfl,c,a⟩:=h.cons_inv;exact a.drop n
theorem ak.dropLast{l:List W}{vs:List V}(h:ak K A H l vs):ak K A H l.dropLast vs.dropLast:=by rw[List.dropLast_eq_take,List.dropLast_eq_take,h.len];exact h.take _
theorem ak.rev:∀{l:List W}{vs:List V},ak K A H l vs->ak K A H l.reverse vs.reverse
 |[],vs,h=>by rw[h.nil_inv];exact .nil
 |x::l,vs,h=>by obtain⟨c,r,rfl,b,a⟩:=h.cons_inv;rw[js,js];exact a.rev.app (.cons b .nil)
theorem ak.rep{l:List W}{vs:List V}(h:ak K A H l vs):∀n:Nat,ak K A H (List.replicate n l).flatten (List.replicate n vs).flatten
 |0=>.nil
 |n+1=>by rw[List.replicate_succ,List.replicate_succ,List.flatten_cons,List.flatten_cons];exact h.app (h.rep n)
theorem ak.ints{ns:List Int}:∀{vs:List V},ak K A H (ns.map W.int) vs->vs=ns.map V.int:=by
 induction ns with
 |nil=>intro vs h;exact h.nil_inv
 |cons n ns b=>intro vs h;obtain⟨v,r,rfl,a,c⟩:=h.cons_inv;rw[Rep]at a;rw[a,b c];rfl
theorem ak.Od(ns:List Int):ak K A H (ns.map W.int) (ns.map V.int):=by
 induction ns with
 |nil=>exact .nil
 |cons n ns a=>exact .cons (by rw[Rep]) a
theorem ak.bls{bs:List Bool}:∀{vs:List V},ak K A H (bs.map W.bl) vs->vs=bs.map V.bl:=by
 induction bs with
 |nil=>intro vs h;exact h.nil_inv
 |cons n d b=>intro vs h;obtain⟨v,r,rfl,a,c⟩:=h.cons_inv;rw[Rep]at a;rw[a,b c];rfl
end
end VL
namespace VL
open PySem PySem.Spec
open PyProof.Rows hiding St
open L2
inductive Md where
 |s|f|t (ms:List Md)|o (fs:List Str) (ms:List Md)
 |io (m:Md)
mutual
noncomputable def Fp(K:Frag)(B:Addr->Prop)(H:Hp):Md->W->V->List Addr->Prop
 |.s,w,v,F=>F=[]/\Rep K B H w v
 |.f,w,v,F=>∃a p vs,w=.lst a/\v=.ref p/\F=[p]/\H p=some (.lst vs)/\ak K B H a vs
 |.t c,w,v,F=>∃a p vs,w=.tup a/\v=.ref p/\H p=some (.tup vs)/\gh K B H c a vs F
 |.o b c,w,v,F=>∃C d a p vs F',w=.obj C b a/\v=.ref p/\F=p::F'/\H p=some (.ins C d (b.zip vs))/\vs.length=b.length/\Dv K C b/\gh K B H c a vs F'
 |.io _,_,_,_=>False
noncomputable def gh(K:Frag)(B:Addr->Prop)(H:Hp):List Md->List W->List V->List Addr->Prop
 |[],b,vs,F=>b=[]/\vs=[]/\F=[]
 |m::f,b,vs,F=>∃w c v a e d,b=w::c/\vs=v::a/\F=e++d/\Fp K B H m w v e/\gh K B H f c a d
end
noncomputable def wk(B G:Addr->Prop)(H H':Hp):Prop:=∀p o,H p=some o->(IX o=true/\B p/\¬G p)\/H' p=some o
section
variable{K:Frag}{A B G:Addr->Prop}{H H':Hp}
theorem wk.c(h:wk A G H H'):Ai A H H':=λp o e=>(h p o e).imp (λz=>⟨z.1,z.2.1⟩) id
theorem wk.un{p:Addr}{o:HO}(h:wk A G H H')(e:H p=some o)(g:IX o=true->G p):H' p=some o:=by
 rcases h p o e with⟨z,_,y⟩|z
 ·exact(y (g z)).elim
 ·exact z
mutual
theorem Fp.chg(h:wk A G H H')(k:∀p o,H p=some o->B p->A p):∀(m:Md){w:W}{v:V}{F:List Addr},(∀p∈F,G p)->Fp K A H m w v F->Fp K B H' m w v F
 |.s,w,v,F,a,r=>by rw[Fp]at r⊢;exact⟨r.1,Rep.chg h.c k w r.2⟩
 |.f,w,v,F,a,r=>by rw[Fp]at r⊢;obtain⟨b,p,vs,j,i,d,g,e⟩:=r;exact⟨b,p,vs,j,i,d,h.un g (λ_=>a p (by rw[d];exact FV)),ak.chg h.c k b e⟩
 |.t l,w,v,F,a,r=>by rw[Fp]at r⊢;obtain⟨b,p,vs,j,i,g,e⟩:=r;exact⟨b,p,vs,j,i,h.un g (λz=>by cases z),gh.chg h k l a e⟩
 |.o E l,w,v,F,a,r=>by rw[Fp]at r⊢;obtain⟨C,y,b,p,vs,D,j,i,d,g,e,u,x⟩:=r;exact⟨C,y,b,p,vs,D,j,i,d,h.un g (λ_=>a p (by rw[d];exact FV)),e,u,gh.chg h k l (λq n=>a q (by rw[d];exact FR _ n)) x⟩
 |.io _,w,v,F,a,r=>by rw[Fp]at r;exact r.elim
theorem gh.chg(h:wk A G H H')(f:∀p o,H p=some o->B p->A p):∀(a:List Md){b:List W}{vs:List V}{F:List Addr},(∀p∈F,G p)->gh K A H a b vs F->gh K B H' a b vs F
 |[],_,_,_,_,r=>by rw[gh]at r⊢;exact r
 |m::a,b,vs,F,g,r=>by rw[gh]at r⊢;obtain⟨w,i,v,c,s,q,n,l,e,k,j⟩:=r;exact⟨w,i,v,c,s,q,n,l,e,Fp.chg h f m (λp d=>g p (by rw[e];exact X1 _ d)) k,gh.chg h f a (λp d=>g p (by rw[e];exact Hn _ d)) j⟩
end
theorem wk.same(s:aE H H'):wk A (λ_=>True) H H':=λ_ _ e=>.inr (s _ _ e)
theorem Fp.mv(s:aE H H')(a:∀p o,H p=some o->B p->A p)(m:Md){w:W}{v:V}{F:List Addr}(h:Fp K A H m w v F):Fp K B H' m w v F:=Fp.chg (.same s) a m (λ_ _=>trivial) h
theorem gh.mv(s:aE H H')(b:∀p o,H p=some o->B p->A p)(a:List Md){w:List W}{v:List V}{F:List Addr}(h:gh K A H a w v F):gh K B H' a w v F:=gh.chg (.same s) b a (λ_ _=>trivial) h
mutual
theorem Fp.rep(d:∀p,B p->A p):∀(m:Md){w:W}{v:V}{F:List Addr},(∀p∈F,¬B p)->Fp K A H m w v F->Rep K B H w v
 |.s,w,v,F,a,h=>by rw[Fp]at h;exact h.2.less d
 |.f,w,v,F,a,h=>by rw[Fp]at h;obtain⟨g,p,vs,rfl,rfl,rfl,c,b⟩:=h;rw[Rep];exact⟨p,vs,rfl,a p (Fn.mpr rfl),.inl c,b.less d⟩
 |.t e,w,v,F,a,h=>by rw[Fp]at h;obtain⟨g,p,vs,rfl,rfl,c,b⟩:=h;rw[Rep];exact⟨p,vs,rfl,c,gh.rep d e a b⟩
 |.o n e,w,v,F,a,h=>by rw[Fp]at h;obtain⟨C,l,g,p,vs,r,rfl,rfl,rfl,c,b,j,k⟩:=h;rw[Rep];exact⟨p,l,vs,rfl,a p FV,c,b,j,gh.rep d e (λq i=>a q (FR _ i)) k⟩
 |.io _,w,v,F,a,h=>by rw[Fp]at h;exact h.elim
theorem gh.rep(e:∀p,B p->A p):∀(b:List Md){a:List W}{vs:List V}{F:List Addr},(∀p∈F,¬B p)->gh K A H b a vs F->ak K B H a vs
 |[],_,_,_,_,h=>by rw[gh]at h;obtain⟨rfl,rfl,_⟩:=h;exact .nil
 |m::b,a,vs,F,d,h=>by rw[gh]at h;obtain⟨w,j,v,f,l,k,rfl,rfl,rfl,i,g⟩:=h;exact .cons (Fp.rep e m (λp c=>d p (X1 _ c)) i) (gh.rep e b (λp c=>d p (Hn _ c)) g)
end
mutual
theorem Fp.mu:∀(m:Md){w:W}{v:V}{F:List Addr},Fp K A H m w v F->∀p∈F,∃o,H p=some o/\IX o=true
 |.s,w,v,F,h,p,a=>by rw[Fp]at h;rw[h.1]at a;cases a
 |.f,w,v,F,h,p,a=>by rw[Fp]at h;obtain⟨d,q,vs,_,_,rfl,b,_⟩:=h;rw[Fn.mp a];exact⟨_,b,rfl⟩
 |.t c,w,v,F,h,p,a=>by rw[Fp]at h;obtain⟨d,q,vs,_,_,b,g⟩:=h;exact gh.mu c g p a
 |.o i c,w,v,F,h,p,a=>by
  rw[Fp]at h;obtain⟨C,j,d,q,vs,k,_,_,rfl,b,_,_,e⟩:=h;rcases GT.mp a with rfl|a
  ·exact⟨_,b,rfl⟩
  ·exact gh.mu c e p a
 |.io _,w,v,F,h,p,a=>by rw[Fp]at h;exact h.elim
theorem gh.mu:∀(b:List Md){c:List W}{vs:List V}{F:List Addr},gh K A H b c vs F->∀p∈F,∃o,H p=some o/\IX o=true
 |[],_,_,_,h,p,a=>by rw[gh]at h;rw[h.2.2]at a;cases a
 |m::b,c,vs,F,h,p,a=>by
  rw[gh]at h;obtain⟨w,g,v,d,j,i,_,_,rfl,f,e⟩:=h;rcases Iy.mp a with a|a
  ·exact Fp.mu m f p a
  ·exact gh.mu b e p a
end
inductive oE where
 |ix (n:Nat)|fl (n:Nat) (x:Str)
noncomputable def cH:W->List oE->Option W
 |w,[]=>some w
 |.tup l,.ix n::π=>match l[n]? with
  |some u=>cH u π
  |none=>none
 |.obj _ _ l,.fl n _::π=>match l[n]? with
  |some u=>cH u π
  |none=>none
 |_,_=>none
noncomputable def setAt:W->List oE->W->W
 |_,[],u=>u
 |.tup l,.ix n::π,u=>match l[n]? with
  |some x=>.tup (l.set n (setAt x π u))
  |none=>.tup l
 |.obj C a l,.fl n _::π,u=>match l[n]? with
  |some x=>.obj C a (l.set n (setAt x π u))
  |none=>.obj C a l
 |w,_,_=>w
noncomputable def lG:Md->List oE->Option Md
 |m,[]=>some m
 |.t a,.ix n::π=>match a[n]? with
  |some m=>lG m π
  |none=>none
 |.o b a,.fl n x::π=>if b[n]?=some x then(match a[n]? with
  |some m=>lG m π
  |none=>none)else none
 |_,_=>none
noncomputable def Aj(K:Frag)(H:Hp):V->List oE->V->Prop
 |v,[],u=>u=v
 |v,.ix n::π,u=>∃p vs x,v=.ref p/\H p=some (.tup vs)/\vs[n]?=some x/\Aj K H x π u
 |v,.fl n f::π,u=>∃p vs x,v=.ref p/\(∃(C b:Addr)(a:List Str),H p=some (.ins C b (a.zip vs))/\vs.length=a.length/\Dv K C a/\a[n]?=some f)/\vs[n]?=some x/\Aj K H x π u
theorem uI{α:Type}:∀{l:List α}{n:Nat}{x:α},l[n]?=some x->l.set n x=l
 |[],_,_,e=>by cases e
 |y::l,0,x,e=>by cases e;rfl
 |y::l,n+1,x,e=>by rw[List.set_cons_succ,uI (by simpa using e)]
theorem gh.at:∀(i:List Md){l:List W}{vs:List V}{F:List Addr}{n:Nat}{m:Md}{w:W},gh K A H i l vs F->i[n]?=some m->l[n]?=some w->
 ∃v d F' j,vs[n]?=some v/\F=d++F'++j/\Fp K A H m w v F'/\∀(H':Hp)(B:Addr->Prop) w' g k,Fp K B H' m w' g k->wk A (·∈d++j) H H'->(∀p o,H p=some o->B p->A p)->gh K B H' i (l.set n w') (vs.set n g) (d++k++j)
 |[],_,_,_,n,m,w,_,e,_=>by cases e
 |m0::i,l,vs,F,0,m,w,h,E,D=>by rw[gh]at h;obtain⟨I,s,v,f,d,j,rfl,rfl,rfl,y,x⟩:=h;cases E;cases D;refine⟨v,[],d,j,rfl,by simp,y,λH' B w' g k C q r=>?_⟩;rw[gh];exact⟨w',s,g,f,k,j,rfl,rfl,by simp,C,gh.chg q r i (λp t=>by simpa using t) x⟩
 |m0::i,l,vs,F,n+1,m,w,h,E,D=>by rw[gh]at h;obtain⟨I,s,v,f,d,j,rfl,rfl,rfl,y,x⟩:=h;obtain⟨u,L,P,J,O,rfl,N,M⟩:=gh.at i x (n:=n) (by simpa using E) (by simpa using D);refine⟨u,d++L,P,J,by simpa using O,by simp,N,λH' B w' g k C q r=>?_⟩;rw[gh];refine⟨I,s.set n w',v,f.set n g,d,L++k++J,rfl,rfl,by simp,Fp.chg q r m0 (λp t=>by simp[t]) y,M H' B w' g k C (λp o e=>(q p o e).imp (λ⟨a,b,c⟩=>⟨a,b,λz=>c ?_⟩) id) r⟩;rcases Iy.mp z with z|z<;>simp[z]
noncomputable def Pth(K:Frag)(A:Addr->Prop)(H:Hp)(m:Md)(w:W)(v:V)(F:List Addr)(π:List oE)(e:Md)(w':W):Prop:=
 ∃b d f c,F=d++f++c/\Aj K H v π b/\Fp K A H e w' b f/\∀(H':Hp)(B:Addr->Prop) a g,Fp K B H' e a b g->wk A (·∈d++c) H H'->(∀p o,H p=some o->B p->A p)->Fp K B H' m (setAt w π a) v (d++g++c)
theorem Fp.path:∀(π:List oE)(m:Md){w:W}{v:V}{F:List Addr}{i:Md}{w':W},Fp K A H m w v F->lG m π=some i->cH w π=some w'->Pth K A H m w v F π i w'
 |[],m,w,v,F,i,w',h,d,g=>by rw[lG]at d;rw[cH]at g;cases d;cases g;refine⟨v,[],F,[],by simp,rfl,h,λH' B j I h' _ _=>?_⟩;rw[setAt];simpa using h'
 |n::π,.s,w,v,F,i,w',h,d,g=>by cases n<;>exact nn d
 |n::π,.f,w,v,F,i,w',h,d,g=>by cases n<;>exact nn d
 |n::π,.io _,w,v,F,i,w',h,d,g=>by cases n<;>exact nn d
 |.fl n _::π,.t l,w,v,F,i,w',h,d,g=>by cases d
 |.ix n::π,.o fs l,w,v,F,i,w',h,d,g=>by cases d
 |.ix n::π,.t l,w,v,F,i,w',h,d,g=>by
  rw[Fp]at h;obtain⟨O,p,vs,rfl,rfl,E,Z⟩:=h;rw[lG]at d;rw[cH]at g;cases r:l[n]? with
  |none=>rw[r]at d;exact nn d
  |some X=>
   cases k:O[n]? with
   |none=>rw[k]at g;exact nn g
   |some w1=>rw[r]at d;rw[k]at g;obtain⟨u,N,F',M,x,rfl,U,T⟩:=gh.at l Z r k;obtain⟨P,L,G',J,rfl,S,R,Q⟩:=Fp.path π X U d g;refine⟨P,N++L,G',J++M,by simp,⟨p,vs,u,rfl,E,x,S⟩,R,λH' B j I h' q D=>?_⟩;rw[setAt,k,Fp];have a:=T H' B _ u _ (Q H' B j I h' (λp o e=>(q p o e).imp (by rintro⟨a,b,c⟩;exact⟨a,b,λz=>c (by rcases Iy.mp z with z|z<;>simp[z])⟩) id) D) (λp o e=>(q p o e).imp (by rintro⟨a,b,c⟩;exact⟨a,b,λz=>c (by rcases Iy.mp z with z|z<;>simp[z])⟩) id) D;rw[uI x]at a;refine⟨_,p,vs,rfl,rfl,q.un E (λz=>by cases z),?_⟩;simpa using a
 |.fl n f::π,.o fs l,w,v,F,i,w',h,d,g=>by
  rw[Fp]at h;obtain⟨C,dx,O,p,vs,F0,rfl,rfl,rfl,E,hl,y,Z⟩:=h;rw[lG]at d;rw[cH]at g;by_cases Y:fs[n]?=some f;rotate_left
  ·rw[Bi Y]at d;cases d
  rw[Bn Y]at d;cases r:l[n]? with
  |none=>rw[r]at d;exact nn d
  |some X=>
   cases k:O[n]? with
   |none=>rw[k]at g;exact nn g
   |some w1=>rw[r]at d;rw[k]at g;obtain⟨u,N,F',M,x,rfl,U,T⟩:=gh.at l Z r k;obtain⟨P,L,G',J,rfl,S,R,Q⟩:=Fp.path π X U d g;refine⟨P,p::N++L,G',J++M,by simp,⟨p,vs,u,rfl,⟨C,dx,fs,E,hl,y,Y⟩,x,S⟩,R,λH' B j I h' q D=>?_⟩;rw[setAt,k,Fp];have a:=T H' B _ u _ (Q H' B j I h' (λp o e=>(q p o e).imp (by rintro⟨a,b,c⟩;exact⟨a,b,λz=>c (by rcases Iy.mp z with z|z<;>simp[z])⟩) id) D) (λp o e=>(q p o e).imp (by rintro⟨a,b,c⟩;exact⟨a,b,λz=>c (by rcases Iy.mp z with z|z<;>simp[z])⟩) id) D;rw[uI x]at a;refine⟨C,dx,_,p,vs,N++(L++I++J)++M,rfl,rfl,by simp,q.un E (λ_=>by simp),hl,y,a⟩
end
noncomputable def gi(K:Frag)(A:Addr->Prop)(H H':Hp)(m:Md)(w:W)(v:V):Prop:=
 ∃F:List Addr,F.Nodup/\(∀p∈F,H p=none)/\Fp K (λq=>A q\/q∈F) H' m w v F
noncomputable def Dom(A:Addr->Prop)(H:Hp):Prop:=∀p,A p->∃o,H p=some o
theorem Dom.no{A:Addr->Prop}{H:Hp}(d:Dom A H){p:Addr}(h:H p=none):¬A p:=λz=>by obtain⟨o,e⟩:=d p z;rw[h]at e;cases e
theorem Dom.same{A:Addr->Prop}{H H':Hp}(d:Dom A H)(s:aE H H'):Dom A H':=λp z=>by obtain⟨o,e⟩:=d p z;exact⟨o,s _ _ e⟩
section
variable{K:Frag}{A B:Addr->Prop}{H H':Hp}{m:Md}{w:W}{v:V}
theorem gi.rep(d:Dom A H)(h:gi K A H H' m w v):Rep K A H' w v:=by obtain⟨F,c,a,h⟩:=h;exact Fp.rep (λp z=>.inl z) m (λp b=>d.no (a p b)) h
theorem gi.of(h:Rep K A H' w v):gi K A H H' .s w v:=⟨[],tJ,by simp,by rw[Fp];exact⟨rfl,h.less λp z=>by simpa using z⟩⟩
theorem gi.s(d:Dom A H)(h:gi K A H H' m w v):gi K A H H' .s w v:=.of (h.rep d)
theorem gi.new{a:List W}{p:Addr}{vs:List V}(b:H p=none)(d:H' p=some (.lst vs))(e:ak K A H' a vs)(c:ak K (λq=>A q\/q=p) H' a vs):gi K A H H' .f (.lst a) (.ref p):=
 ⟨[p],(by simp),(by simpa using b),by rw[Fp];exact⟨a,p,vs,rfl,rfl,rfl,d,c.less λq z=>by simpa using z⟩⟩
theorem gi.fresh{a:List W}{p:Addr}{vs:List V}{H1:Hp}(s:aE H H1)(b:H1 p=none)(h:ak K A H1 a vs):gi K A H (upd H1 p (.lst vs)) .f (.lst a) (.ref p):=by
 have sm:=aO b (.lst vs);refine .new (s.free b) aD (h.same sm) (ak.mv sm (λq o z y=>?_) a h);rcases y with y|y
 ·exact y
 ·rw[y,b]at z;cases z
theorem gi.Yl(h:gi K A H H' .f w v):∃a p vs,w=.lst a/\v=.ref p/\H p=none/\H' p=some (.lst vs)/\ak K (λq=>A q\/q=p) H' a vs:=by obtain⟨F,e,b,h⟩:=h;rw[Fp]at h;obtain⟨a,p,vs,rfl,rfl,rfl,d,c⟩:=h;exact⟨a,p,vs,rfl,rfl,b p (Fn.mpr rfl),d,c.less λq z=>by simpa using z⟩
theorem gi.back{a:Hp}(s:aE a H)(e:∀p,B p->A p)(h:gi K A H H' m w v):gi K B a H' m w v:=by obtain⟨F,c,b,h⟩:=h;exact⟨F,c,λp d=>s.free (b p d),Fp.mv (aE.refl _) (λp o _ z=>z.imp (e p) id) m h⟩
end
abbrev Ev:=List (Option W)
noncomputable def look:Ev->Nat->Option W
 |[],_=>none
 |x::_,0=>x
 |_::l,n+1=>look l n
theorem cu:∀{a:Ev}{i:Nat}{w:W},look a i=some w↔a[i]?=some (some w)
 |[],i,w=>by simp[look]
 |x::l,0,w=>by simp[look]
 |x::l,i+1,w=>by rw[look,cu];simp
abbrev Ms:=List (Nat×Md)
noncomputable def bI(M:Ms)(i:Nat):Prop:=∃m,(i,m)∈M
structure Fz where
 ab:Addr->Prop
 B:Addr->Prop
 s0:Option V
abbrev FB(A:Fz)(M:Ms)(σ:St):Addr->Prop:=A.B
structure WL(K:Frag)(M:Ms)(A:Fz)(H0:Hp)(σ:St)(H:Hp)(ε:Ev)(F:Nat->List Addr):Prop where
 un:∀i m m',(i,m)∈M->(i,m')∈M->m=m'
 val:∀i m w,(i,m)∈M->look ε i=some w->∃v,σ[i]?=some (some v)/\Fp K A.B H m w v (F i)
 emp:∀i,bI M i->look ε i=none->F i=[]
 nd:∀i,bI M i->(F i).Nodup
 ds:∀i j p,bI M i->bI M j->p∈F i->p∈F j->i=j
 nw:∀i p,bI M i->p∈F i->H0 p=none
 na:∀i p,bI M i->p∈F i->¬A.ab p
 all:∀p,A.B p↔A.ab p\/∃i,bI M i/\p∈F i
structure SR(K:Frag)(M:Ms)(A:Fz)(H0:Hp)(σ:St)(H:Hp)(ε:Ev):Prop where
 len:σ.length=ε.length
 sh:∀i w,¬bI M i->look ε i=some w->∃v,σ[i]?=some (some v)/\Rep K A.B H w v
 sm:aE H0 H
 dm:Dom A.ab H
 sl:∀v,A.s0=some v->σ[0]?=some (some v)/\bI M 0
 ow:∃F,WL K M A H0 σ H ε F
theorem bD{a:Ev}{i j:Nat}{x:Option W}(h:i≠j):look (a.set i x) j=look a j:=by
 cases e:look a j with
 |none=>
  cases b:look (a.set i x) j with
  |none=>rfl
  |some w=>rw[cu,Kt h,←cu,e]at b;cases b
 |some w=>rw[cu,Kt h,←cu];exact e
theorem pK{a:Ev}{i:Nat}{w w':W}(h:look (a.set i (some w)) i=some w'):w'=w:=by
 rw[cu,oT]at h;rw[Bn rfl]at h;split at h
 ·cases h;rfl
 ·cases h
theorem yZ{a:Ev}{i:Nat}{w:W}(h:look a i=some w):i<a.length:=by rw[cu]at h;exact(Fs.mp h).1
section
variable{K:Frag}{M M':Ms}{A:Fz}{H0 H H1:Hp}{σ:St}{ε:Ev}{F:Nat->List Addr}
theorem WL.has(O:WL K M A H0 σ H ε F){i:Nat}{p:Addr}(c:bI M i)(a:p∈F i):∃o,H p=some o/\IX o=true:=by
 cases b:look ε i with
 |none=>rw[O.emp i c b]at a;cases a
 |some w=>obtain⟨m,d⟩:=c;obtain⟨v,_,h⟩:=O.val i m w d b;exact Fp.mu m h p a
theorem SR.dom(S:SR K M A H0 σ H ε):Dom A.B H:=λp z=>by
 obtain⟨F,O⟩:=S.ow;rcases(O.all p).mp z with z|⟨i,b,a⟩
 ·exact S.dm p z
 ·obtain⟨o,e,_⟩:=O.has b a;exact⟨o,e⟩
theorem SR.sub'(S:SR K M A H0 σ H ε):∀p,A.ab p->A.B p:=λp z=>by obtain⟨F,O⟩:=S.ow;exact(O.all p).mpr (.inl z)
theorem SR.same(S:SR K M A H0 σ H ε)(s:aE H H1):SR K M A H0 σ H1 ε:=by
 obtain⟨F,O⟩:=S.ow;exact⟨S.len,λi w b e=>let⟨v,h1,h2⟩:=S.sh i w b e;⟨v,h1,h2.same s⟩,S.sm.trans s,S.dm.same s,S.sl,F,
  ⟨O.un,λi m w a e=>let⟨v,h1,h2⟩:=O.val i m w a e;⟨v,h1,Fp.mv s (λ_ _ _ z=>z) m h2⟩,O.emp,O.nd,O.ds,O.nw,O.na,O.all⟩⟩
theorem SR.sub(S:SR K M A H0 σ H ε)(h:∀x∈M',x∈M)(s:Option V)(hz:∀v,s=some v->A.s0=some v/\bI M' 0):∃r,r.ab=A.ab/\r.s0=s/\(∀p,r.B p->A.B p)/\SR K M' r H0 σ H ε:=by
 obtain⟨F,O⟩:=S.ow;have d:∀i,bI M' i->bI M i:=by rintro i ⟨m,f⟩;exact⟨m,h _ f⟩
 have q:∀p,(A.ab p\/∃i,bI M' i/\p∈F i)->A.B p:=λp z=>(O.all p).mpr (z.imp id<|by rintro⟨i,c,n⟩;exact⟨i,d i c,n⟩);refine⟨⟨A.ab,λp=>A.ab p\/∃i,bI M' i/\p∈F i,s⟩,rfl,rfl,q,S.len,λi w u e=>?_,S.sm,S.dm,λv e=>⟨(S.sl v (hz v e).1).1,(hz v e).2⟩,F,⟨λi m y a b=>O.un i m y (h _ a) (h _ b),λi m w f e=>?_,λi c=>O.emp i (d i c),λi c=>O.nd i (d i c),λi j p c o=>O.ds i j p (d i c) (d j o),λi p c=>O.nw i p (d i c),λi p c=>O.na i p (d i c),λp=>Iff.rfl⟩⟩
 ·by_cases c:bI M i
  ·have g:=c;obtain⟨m,f⟩:=c;obtain⟨v,l,k⟩:=O.val i m w f e;refine⟨v,l,Fp.rep q m (λp n z=>?_) k⟩;rcases z with z|⟨j,o,t⟩
   ·exact O.na i p g n z
   ·have:=O.ds i j p g (d j o) n t;subst this;exact u o
  ·obtain⟨v,l,k⟩:=S.sh i w c e;exact⟨v,l,k.less q⟩
 ·obtain⟨v,l,k⟩:=O.val i m w (h _ f) e;exact⟨v,l,Fp.mv (aE.refl _) (λp _ _ z=>q p z) m k⟩
theorem SR.go(S:SR K M A H0 σ H ε):SR K [] ⟨A.ab,A.ab,none⟩ H0 σ H ε:=by
 obtain⟨a,b,c,h,d⟩:=S.sub (M':=[]) (λx f=>by cases f) none (λv e=>by cases e);obtain⟨F,O⟩:=d.ow;have e:∀p,a.B p↔A.ab p:=λp=>by rw[O.all p,b];exact⟨λz=>z.elim id (by rintro⟨i,⟨m,g⟩,_⟩;cases g),.inl⟩
 have:a.B=A.ab:=funext λp=>propext (e p);have:a=⟨A.ab,A.ab,none⟩:=by
  cases a;simp only at b c this;rw[b,this,c]
 rw[←this];exact d
theorem SR.set(S:SR K M A H0 σ H ε){i:Nat}{w:W}{v:V}(g:¬bI M i)(h:Rep K A.B H w v):SR K M A H0 (σ.set i (some v)) H (ε.set i (some w)):=by
 obtain⟨F,O⟩:=S.ow;refine⟨by rw[Qb,Qb];exact S.len,λj f d e=>?_,S.sm,S.dm,λu e=>?_,F,⟨O.un,λj m f k e=>?_,λj d e=>?_,O.nd,O.ds,O.nw,O.na,O.all⟩⟩
 ·by_cases a:i=j
  ·subst a;have l:i<σ.length:=by rw[S.len];have:=yZ e;rwa [Qb]at this
   have:=pK e;subst this;exact⟨v,SC l,h⟩
  ·rw[bD a]at e;obtain⟨u,c,b⟩:=S.sh j f d e;exact⟨u,by rw[Kt a];exact c,b⟩
 ·obtain⟨c,b⟩:=S.sl u e;exact⟨by rw[Kt (by rintro rfl;exact g b)];exact c,b⟩
 ·have a:i≠j:=by rintro rfl;exact g ⟨m,k⟩
  rw[bD a]at e;obtain⟨u,c,b⟩:=O.val j m f k e;exact⟨u,by rw[Kt a];exact c,b⟩
 ·have a:i≠j:=by rintro rfl;exact g d
  rw[bD a]at e;exact O.emp j d e
theorem SR.own(S:SR K M' A H0 σ H ε){i:Nat}{m:Md}{w:W}{v:V}(y:∀x,x∈M↔x=(i,m)\/x∈M')(Q:¬bI M' i)(s:aE H H1)(h:gi K A.B H H1 m w v):
 ∃N,N.ab=A.ab/\N.s0=A.s0/\(∀p o,H p=some o->N.B p->A.B p)/\SR K M N H0 (σ.set i (some v)) H1 (ε.set i (some w)):=by
 obtain⟨F,O⟩:=S.ow;obtain⟨G,nd,nw,L⟩:∃G:List Addr,G.Nodup/\(∀p∈G,H p=none)/\(i<ε.length->Fp K (λq=>A.B q\/q∈G) H1 m w v G)/\(ε.length<=i->G=[]):=by
  by_cases g:i<ε.length
  ·obtain⟨G,nd,nw,L⟩:=h;exact⟨G,nd,nw,λ_=>L,λz=>by lia⟩
  ·exact⟨[],tJ,by simp,λz=>(g z).elim,λ_=>rfl⟩
 have f:∀j,bI M j↔j=i\/bI M' j:=λj=>by
  constructor
  ·rintro⟨r,R⟩;rcases(y _).mp R with e|e
   ·cases e;exact .inl rfl
   ·exact .inr ⟨r,e⟩
  ·rintro(rfl|⟨r,R⟩)
   ·exact⟨m,(y _).mpr (.inl rfl)⟩
   ·exact⟨r,(y _).mpr (.inr R)⟩
 have P:∀j,bI M' j->j≠i:=λj c e=>by subst e;exact Q c
 have E:∀j p,bI M' j->p∈F j->p∉G:=λj p c d z=>by obtain⟨o,e,_⟩:=O.has c d;rw[nw p z]at e;cases e
 have T:∀p o,H p=some o->(A.B p\/p∈G)->A.B p:=λp o e z=>by
  rcases z with z|z
  ·exact z
  ·rw[nw p z]at e;cases e
 refine⟨⟨A.ab,λp=>A.B p\/p∈G,A.s0⟩,rfl,rfl,T,by rw[Qb,Qb];exact S.len,λj J c e=>?_,S.sm.trans s,S.dm.same s,λu e=>?_,λj=>if j=i then G else F j,⟨λj Y X a b=>?_,λj r J c e=>?_,λj c e=>?_,λj c=>?_,λj k p c U a b=>?_,λj p c d=>?_,λj p c d=>?_,λp=>?_⟩⟩
 ·have t:j≠i/\¬bI M' j:=⟨λz=>c ((f j).mpr (.inl z)),λz=>c ((f j).mpr (.inr z))⟩;rw[bD (RF t.1)]at e;obtain⟨u,I,D⟩:=S.sh j J t.2 e;exact⟨u,by rw[Kt (RF t.1)];exact I,Rep.mv s T J D⟩
 ·obtain⟨I,D⟩:=S.sl u e;exact⟨by rw[Kt (RF (P 0 D))];exact I,(f 0).mpr (.inr D)⟩
 ·rcases(y _).mp a with a|a
  ·rcases(y _).mp b with b|b
   ·cases a;cases b;rfl
   ·cases a;exact(Q ⟨_,b⟩).elim
  ·rcases(y _).mp b with b|b
   ·cases b;exact(Q ⟨_,a⟩).elim
   ·exact O.un j Y X a b
 ·rcases(y _).mp c with a|a
  ·cases a;have g:i<ε.length:=by have:=yZ e;rwa [Qb]at this
   have:=pK e;subst this;exact⟨v,SC (by rw[S.len];exact g),by rw[Bn rfl];exact L.1 g⟩
  ·have n:=P j ⟨r,a⟩;rw[bD (RF n)]at e;obtain⟨u,I,D⟩:=O.val j r J a e;exact⟨u,by rw[Kt (RF n)];exact I,by rw[Bi n];exact Fp.mv s T r D⟩
 ·by_cases n:j=i
  ·subst n;rw[Bn rfl];refine L.2 (ph λg=>?_);have:look (ε.set j (some w)) j=some w:=by rw[cu];exact SC g
   rw[this]at e;cases e
  ·rw[bD (RF n)]at e;rw[Bi n];exact O.emp j (((f j).mp c).resolve_left n) e
 ·by_cases n:j=i
  ·rw[Bn n];exact nd
  ·rw[Bi n];exact O.nd j (((f j).mp c).resolve_left n)
 ·by_cases C:j=i
  ·by_cases l:k=i
   ·rw[C,l]
   ·rw[Bn C]at a;rw[Bi l]at b;exact(E k p (((f k).mp U).resolve_left l) b a).elim
  ·by_cases l:k=i
   ·rw[Bi C]at a;rw[Bn l]at b;exact(E j p (((f j).mp c).resolve_left C) a b).elim
   ·rw[Bi C]at a;rw[Bi l]at b;exact O.ds j k p (((f j).mp c).resolve_left C) (((f k).mp U).resolve_left l) a b
 ·by_cases n:j=i
  ·rw[Bn n]at d;exact S.sm.free (nw p d)
  ·rw[Bi n]at d;exact O.nw j p (((f j).mp c).resolve_left n) d
 ·by_cases n:j=i
  ·rw[Bn n]at d;exact S.dm.no (nw p d)
  ·rw[Bi n]at d;exact O.na j p (((f j).mp c).resolve_left n) d
 ·constructor
  ·rintro(z|z)
   ·rcases(O.all p).mp z with z|⟨j,c,d⟩
    ·exact .inl z
    ·exact .inr ⟨j,(f j).mpr (.inr c),by rw[Bi (P j c)];exact d⟩
   ·exact .inr ⟨i,(f i).mpr (.inl rfl),by rw[Bn rfl];exact z⟩
  ·rintro(z|⟨j,c,d⟩)
   ·exact .inl ((O.all p).mpr (.inl z))
   ·by_cases n:j=i
    ·rw[Bn n]at d;exact .inr d
    ·rw[Bi n]at d;exact .inl ((O.all p).mpr (.inr ⟨j,((f j).mp c).resolve_left n,d⟩))
theorem WL.chg(S:SR K M A H0 σ H ε)(O:WL K M A H0 σ H ε F){i:Nat}{m:Md}{w w':W}{v:V}{F':List Addr}(N:(i,m)∈M)(R:look ε i=some w)(Q:σ[i]?=some (some v))
 (x:∀p o,H p=some o->(IX o=true/\p∈F i)\/H1 p=some o)(nd:F'.Nodup)(nw:∀p∈F',p∈F i\/H p=none)(h:Fp K (λp=>(A.B p/\p∉F i)\/p∈F') H1 m w' v F'):
 ∃s,s.ab=A.ab/\s.s0=A.s0/\(∀p,s.B p↔(A.B p/\p∉F i)\/p∈F')/\(∀p o,H p=some o->s.B p->A.B p)/\Ai A.B H H1/\SR K M s H0 σ H1 (ε.set i (some w')):=by
 have f:bI M i:=⟨m,N⟩;have J:∀p,p∈F i->A.B p:=λp c=>(O.all p).mpr (.inr ⟨i,f,c⟩);have P:Ai A.B H H1:=λp o e=>(x p o e).imp (λz=>⟨z.1,J p z.2⟩) id;have I:∀p o,H p=some o->((A.B p/\p∉F i)\/p∈F')->A.B p:=λp o e z=>by
  rcases z with z|z
  ·exact z.1
  ·rcases nw p z with z|z
   ·exact J p z
   ·rw[z]at e;cases e
 have C:∀j p,bI M j->j≠i->p∈F j->p∉F i/\p∉F':=λj p d n c=>by
  have a:p∉F i:=λz=>n (O.ds j i p d f c z);refine⟨a,λz=>?_⟩;rcases nw p z with z|z
  ·exact a z
  ·obtain⟨o,e,_⟩:=O.has d c;rw[z]at e;cases e
 refine⟨⟨A.ab,λp=>(A.B p/\p∉F i)\/p∈F',A.s0⟩,rfl,rfl,λ_=>Iff.rfl,I,P,by rw[Qb];exact S.len,λj g d e=>?_,λp o e=>?_,λp z=>?_,S.sl,λj=>if j=i then F' else F j,⟨O.un,λj t g d e=>?_,λj d e=>?_,λj d=>?_,λj k p d L a b=>?_,λj p d c=>?_,λj p d c=>?_,λp=>?_⟩⟩
 ·have n:i≠j:=by rintro rfl;exact d f
  rw[bD n]at e;obtain⟨u,E,D⟩:=S.sh j g d e;exact⟨u,E,Rep.chg P I g D⟩
 ·rcases x p o (S.sm p o e)with⟨_,z⟩|z
  ·rw[O.nw i p f z]at e;cases e
  ·exact z
 ·obtain⟨o,e⟩:=S.dm p z;rcases x p o e with⟨_,y⟩|y
  ·exact(O.na i p f y z).elim
  ·exact⟨o,y⟩
 ·by_cases n:j=i
  ·subst n;have T:=O.un j m t N d;subst T;have:=pK e;subst this;exact⟨v,Q,by rw[Bn rfl];exact h⟩
  ·rw[bD (RF n)]at e;obtain⟨u,E,D⟩:=O.val j t g d e;refine⟨u,E,?_⟩;rw[Bi n];refine Fp.chg (G:=λp=>p∈F j) (λp o e=>?_) I t (λp c=>c) D;rcases x p o e with⟨z,y⟩|z
   ·exact .inl ⟨z,J p y,λq=>(C j p ⟨t,d⟩ n q).1 y⟩
   ·exact .inr z
 ·by_cases n:j=i
  ·subst n;have:look (ε.set j (some w')) j=some w':=by rw[cu];exact SC (yZ R)
   rw[this]at e;cases e
  ·rw[bD (RF n)]at e;rw[Bi n];exact O.emp j d e
 ·by_cases n:j=i
  ·rw[Bn n];exact nd
  ·rw[Bi n];exact O.nd j d
 ·by_cases r:j=i
  ·by_cases l:k=i
   ·rw[r,l]
   ·rw[Bn r]at a;rw[Bi l]at b;exact((C k p L l b).2 a).elim
  ·by_cases l:k=i
   ·rw[Bi r]at a;rw[Bn l]at b;exact((C j p d r a).2 b).elim
   ·rw[Bi r]at a;rw[Bi l]at b;exact O.ds j k p d L a b
 ·by_cases n:j=i
  ·rw[Bn n]at c;rcases nw p c with z|z
   ·exact O.nw i p f z
   ·exact S.sm.free z
  ·rw[Bi n]at c;exact O.nw j p d c
 ·by_cases n:j=i
  ·rw[Bn n]at c;rcases nw p c with z|z
   ·exact O.na i p f z
   ·exact S.dm.no z
  ·rw[Bi n]at c;exact O.na j p d c
 ·constructor
  ·rintro(⟨z,y⟩|z)
   ·rcases(O.all p).mp z with z|⟨j,d,c⟩
    ·exact .inl z
    ·have n:j≠i:=by rintro rfl;exact y c
     exact .inr ⟨j,d,by rw[Bi n];exact c⟩
   ·exact .inr ⟨i,f,by rw[Bn rfl];exact z⟩
  ·rintro(z|⟨j,d,c⟩)
   ·exact .inl ⟨(O.all p).mpr (.inl z),λy=>O.na i p f y z⟩
   ·by_cases n:j=i
    ·rw[Bn n]at c;exact .inr c
    ·rw[Bi n]at c;exact .inl ⟨(O.all p).mpr (.inr ⟨j,d,c⟩),(C j p d n c).1⟩
end
inductive BI where
 |len|abs|max2|min2|sum|all|any|list|tuple|Cy|int
 deriving DecidableEq
inductive CE where
 |var (i:Nat)|int (i:Int)|bl (b:Bool)|str (x:Str)|bC|FI (n:String)|glob (g:Nat)
 |bin (op:Operator) (a b:CE)|neg (a:CE)|not (a:CE)
 |cmp (op:CmpOp) (a b:CE)
 |and (as:List CE)|or (as:List CE)|ite (c a b:CE)
 |tup (as:List CE)|lst (as:List CE)
 |ix (a i:CE)|sl (a lo hi:CE)
 |call (f:Nat) (as:List CE)|blt (b:BI) (as:List CE)|bits (a:CE)
 |comp (ts:List Nat) (one:Bool) (n:Nat) (it:CE) (c:CE) (e:CE)
 |oO (as:List CE)|y9 (a:CE)|rev (a:CE)
 |pop (i:Nat)
 |own (i:Nat) (π:List oE)|Oe (i g f:Nat) (as:List CE)
 |Cz (is:List Nat) (a:CE)
inductive CS where
 |set (i:Nat) (e:CE)|FJ (ts:List Nat) (e:CE)|par (ts:List Nat) (es:List CE)
 |app (i:Nat) (e:CE)|put (i:Nat) (k e:CE)|drop (i:Nat)|A3 (j:Nat) (e:CE)
 |ret (e:CE)|iff (c:CE) (a b:List CS)|xD (c:CE) (b:List CS)
 |fr (ts:List Nat) (one:Bool) (it:CE) (b:List CS)
 |brk|raise (c:Nat) (e:CE)
 |Ym (i:Nat) (π:List oE) (e:CE)|HH (i n:Nat) (e:CE)
 |WM (e:CE)|Yn (e:CE)
 |Yo (i:Nat) (π:List oE) (k e:CE)
 |HJ
 |TM (is:List Nat) (b:List CS)
noncomputable def Yp:W->W->(W->Prop)->Prop
 |.int i,.int j,Q=>Q (.int (i+j))
 |.lst a,.lst b,Q=>a.length+b.length<=sizeLine/\Q (.lst (a++b))
 |.tup a,.tup b,Q=>a≠[]/\a.length+b.length<=sizeLine/\Q (.tup (a++b))
 |.str a,.str b,Q=>a.length+b.length<=sizeLine/\Q (.str (a++b))
 |_,_,_=>False
noncomputable def Yq:W->W->(W->Prop)->Prop
 |.int i,.int j,Q=>IntMulOk i j/\Q (.int (i*j))
 |.lst a,.int k,Q=> -(2^63)<=k/\k<2^63/\a.length*k.toNat<=sizeLine/\Q (.lst (List.replicate k.toNat a).flatten)
 |_,_,_=>False
noncomputable def WO(C:Int->Int->Prop)(g:Int->Int->Int):W->W->(W->Prop)->Prop
 |.int i,.int j,Q=>C i j/\Q (.int (g i j))
 |_,_,_=>False
noncomputable def Yr:W->W->(W->Prop)->Prop
 |.int i,.int j,Q=>Q (.int (i -j))
 |_,_,_=>False
noncomputable def jJ:Operator->W->W->(W->Prop)->Prop
 |.Add=>Yp
 |.Sub=>Yr
 |.Mult=>Yq
 |.FloorDiv=>WO ET λi j=>i.fdiv j
 |.Mod=>WO (λ_ j=>j≠0) λi j=>i.fmod j
 |.Pow=>WO GV λi j=>i^j.toNat
 |.LShift=>WO GV λi j=>i*2^j.toNat
 |.RShift=>WO (λ_ j=>0<=j) λi j=>i/2^j.toNat
 |_=>λ_ _ _=>False
noncomputable def gj:Nat->W->Bool
 |_,.int _=>true
 |_,.str x=>PyData.strOk x
 |_,.bC=>true
 |n+1,.lst l=>l.all (gj n)
 |n+1,.tup l=>l.all (gj n)
 |_,_=>false
noncomputable def kX:Nat->W->Bool
 |_,.bl _=>true
 |_,.str x=>PyData.strOk x
 |_,.bC=>true
 |n+1,.lst l=>l.all (kX n)
 |n+1,.tup l=>l.all (kX n)
 |_,_=>false
noncomputable def wEq(a:Bool):W->W->(W->Prop)->Prop
 |.int i,.int j,Q=>Q (.bl (if a then !decide (i=j)else decide (i=j)))
 |.str i,.str j,Q=>Q (.bl (if a then !decide (i=j)else decide (i=j)))
 |.bl i,.bl j,Q=>Q (.bl (if a then !decide (i=j)else decide (i=j)))
 |x,y,Q=>((gj 9 x=true/\gj 9 y=true)\/(kX 9 x=true/\kX 9 y=true))/\∀b:Bool,(b=true↔x=y)->Q (.bl (if a then !b else b))
noncomputable def KZ(p:Int->Int->Bool):W->W->(W->Prop)->Prop
 |.int i,.int j,Q=>Q (.bl (p i j))
 |_,_,_=>False
noncomputable def wIs(a:Bool):W->W->(W->Prop)->Prop
 |.bC,.bC,Q=>Q (.bl (!a))
 |.bl _,.bC,Q=>Q (.bl a)
 |.int _,.bC,Q=>Q (.bl a)
 |.str _,.bC,Q=>Q (.bl a)
 |.lst _,.bC,Q=>Q (.bl a)
 |.tup _,.bC,Q=>Q (.bl a)
 |.err _,.bC,Q=>Q (.bl a)
 |_,_,_=>False
noncomputable def ie:CmpOp->W->W->(W->Prop)->Prop
 |.Eq=>wEq false
 |.NotEq=>wEq true
 |.Lt=>KZ λi j=>decide (i<j)
 |.LtE=>KZ λi j=>decide (i<=j)
 |.Gt=>KZ λi j=>decide (j<i)
 |.GtE=>KZ λi j=>decide (j<=i)
 |.Is=>wIs false
 |.IsNot=>wIs true
 |_=>λ_ _ _=>False
noncomputable def TN:W->W->(W->Prop)->Prop
 |.lst l,.int i,Q=>∃w,m9 l i=some w/\Q w
 |.tup l,.int i,Q=>∃w,m9 l i=some w/\Q w
 |.g9 ns,.int i,Q=>∃n,m9 ns i=some n/\Q (.int n)
 |_,_,_=>False
noncomputable def zc(l:List W)(a b:Option Int):List W:=(l.drop (HT.xo l.length 0 a)).take (HT.xo l.length l.length b -HT.xo l.length 0 a)
noncomputable def nj:CE->Bool
 |.bC=>true
 |_=>false
noncomputable def prI:W->(Option Int->Prop)->Prop
 |.int i,Q=>Q (some i)
 |_,_=>False
noncomputable def Of(c:CE)(y:W)(Q:Option Int->Prop):Prop:=cond (nj c) (Q none) (prI y Q)
noncomputable def Z2:W->Option Int->Option Int->(W->Prop)->Prop
 |.lst l,a,b,Q=>Q (.lst (zc l a b))
 |.g9 ns,a,b,Q=>Q (.lst (zc (ns.map W.int) a b))
 |_,_,_,_=>False
noncomputable def tyW:W->Option String
 |.bC=>some "NoneType"
 |.bl _=>some "bool"
 |.int _=>some "int"
 |.str _=>some "str"
 |.lst _=>some "list"
 |.tup _=>some "tuple"
 |_=>none
noncomputable def HK(a b:String):Bool:=a==b||(a=="bool"&&b=="int")
noncomputable def wm:BI->List W->(W->Prop)->Prop
 |.len,[.lst l],Q=>Q (.int l.length)
 |.len,[.tup l],Q=>Q (.int l.length)
 |.len,[.g9 ns],Q=>Q (.int ns.length)
 |.abs,[.int i],Q=>Q (.int (if i<0 then-i else i))
 |.max2,[.int i,.int j],Q=>Q (.int (if j>i then j else i))
 |.min2,[.int i,.int j],Q=>Q (.int (if j<i then j else i))
 |.sum,[.lst l],Q=>∃ns:List Int,l=ns.map W.int/\Q (.int ns.sum)
 |.all,[.lst l],Q=>∃bs:List Bool,l=bs.map W.bl/\Q (.bl (bs.all id))
 |.list,[.lst l],Q=>Q (.lst l)
 |.list,[.tup l],Q=>Q (.lst l)
 |.tuple,[.lst l],Q=>Q (.tup l)
 |.tuple,[.tup l],Q=>Q (.tup l)
 |.Cy,[w,.ty n],Q=>∃a,tyW w=some a/\Q (.bl (HK a n))
 |.int,[.bl b],Q=>Q (.int (if b then 1 else 0))
 |_,_,_=>False
noncomputable def cW(a:Ev):List Nat->List W->Ev
 |i::c,w::b=>cW (a.set i (some w)) c b
 |_,_=>a
noncomputable def wT(one:Bool)(a:List Nat)(w:W)(b:Ev)(Q:Ev->Prop):Prop:=
 match one,a,w with
 |true,[i],w=>Q (b.set i (some w))
 |false,a,.tup l=>l.length=a.length/\Q (cW b a l)
 |_,_,_=>False
noncomputable def sE(f:W->(Option W->Prop)->Prop):List W->List W->(List W->Prop)->Prop
 |[],acc,Q=>Q acc
 |w::a,acc,Q=>f w λr=>match r with
  |some y=>acc.length<sizeLine/\sE f a (acc++[y]) Q
  |none=>sE f a acc Q
noncomputable def truth:W->(Bool->Prop)->Prop
 |.bl b,Q=>Q b
 |_,_=>False
noncomputable def items:W->(List W->Prop)->Prop
 |.lst l,Q=>Q l
 |.tup l,Q=>Q l
 |_,_=>False
noncomputable def jK(a st:Int)(n:Nat):List W:=(List.range n).map λ(i:Nat)=>W.int (a+(i:Int)*st)
noncomputable def K0:List W->(List W->Prop)->Prop
 |[.int j],Q=> -(2^62)<=j/\j<2^62/\Q (jK 0 1 j.toNat)
 |[.int i,.int j],Q=>(-(2^62)<=i/\i<2^62/\-(2^62)<=j/\j<2^62)/\Q (jK i 1 (j -i).toNat)
 |[.int i,.int j,.int k],Q=>∃n:Nat,(k≠0/\k.natAbs<1073741824/\Builtin.Range.small i j k=true/\Builtin.Range.rangeSize i j k=(n:Int))/\Q (jK i k n)
 |_,_=>False
noncomputable def kK(l:List W):List W:=List.zipWith (λ(i:Nat) w=>W.tup [.int i,w]) (List.range l.length) l
abbrev cA:=List W->(W->Prop)->(Addr->Prop)->Prop
noncomputable def TQ:W->Bool
 |.bC|.bl _|.int _|.str _=>true
 |_=>false
section
variable(Φ:Nat->cA)(G:Nat->W)
mutual
noncomputable def wE(R:Addr->Prop):CE->Ev->(W->Prop)->Prop
 |.var i,d,Q=>match look d i with
  |some w=>Q w
  |none=>False
 |.int i,_,Q=>Q (.int i)
 |.bl b,_,Q=>Q (.bl b)
 |.str x,_,Q=>Q (.str x)
 |.bC,_,Q=>Q .bC
 |.FI n,_,Q=>Q (.ty n)
 |.glob g,_,Q=>Q (G g)
 |.bin op a b,d,Q=>wE R a d λx=>wE R b d λy=>jJ op x y Q
 |.neg a,d,Q=>wE R a d λx=>match x with
  |.int i=>Q (.int (-i))
  |_=>False
 |.not a,d,Q=>wE R a d λx=>truth x λb=>Q (.bl (!b))
 |.cmp op a b,d,Q=>wE R a d λx=>wE R b d λy=>ie op x y Q
 |.and as,d,Q=>CB R as d Q
 |.or as,d,Q=>RZ R as d Q
 |.ite c a b,d,Q=>wE R c d λx=>truth x λk=>if k=true then wE R a d Q else wE R b d Q
 |.tup as,d,Q=>wA R as d λj=>j.length<=sizeLine/\Q (.tup j)
 |.lst as,d,Q=>wA R as d λj=>j.length<=sizeLine/\Q (.lst j)
 |.ix a i,d,Q=>wE R a d λx=>wE R i d λy=>TN x y Q
 |.sl a o p,d,Q=>wE R a d λx=>wE R o d λy=>Of o y λl=>wE R p d λz=>Of p z λh=>Z2 x l h Q
 |.call f as,d,Q=>wA R as d λj=>Φ f j Q R
 |.blt b as,d,Q=>wA R as d λj=>wm b j Q
 |.bits a,d,Q=>wE R a d λx=>match x with
  |.int i=>Q (.int (Builtin.Int.intBits i:Nat))
  |_=>False
 |.comp q one n r c e,d,Q=>wE R r d λz=>items z λj=>sE (λw K=>wT one q w (List.replicate n none++d) λm=>wE (λ_=>False) c m λx=>truth x λk=>if k=true then wE (λ_=>False) e m λy=>K (some y)else K none) j [] λl=>Q (.lst l)
 |.oO as,d,Q=>wA R as d λj=>K0 j λl=>Q (.lst l)
 |.y9 a,d,Q=>wE R a d λx=>match x with
  |.lst l=>Q (.lst (kK l))
  |_=>False
 |.rev a,d,Q=>wE R a d λx=>match x with
  |.lst l=>Q (.lst l.reverse)
  |_=>False
 |.pop _,_,_=>False
 |.own i π,d,Q=>match look d i with
  |some w=>match cH w π with
   |some u=>Q u
   |none=>False
  |none=>False
 |.Cz _ a,d,Q=>wE R a d λw=>TQ w=true/\Q w
 |.Oe _ _ _ _,_,_=>False
noncomputable def wA(R:Addr->Prop):List CE->Ev->(List W->Prop)->Prop
 |[],_,Q=>Q []
 |a::as,b,Q=>wE R a b λx=>wA R as b λc=>Q (x::c)
noncomputable def CB(R:Addr->Prop):List CE->Ev->(W->Prop)->Prop
 |[],_,_=>False
 |a::as,c,Q=>match as with
  |[]=>wE R a c Q
  |b::bs=>wE R a c λx=>truth x λk=>if k=true then CB R (b::bs) c Q else Q (.bl false)
noncomputable def RZ(R:Addr->Prop):List CE->Ev->(W->Prop)->Prop
 |[],_,_=>False
 |a::as,c,Q=>match as with
  |[]=>wE R a c Q
  |b::bs=>wE R a c λx=>truth x λk=>if k=true then Q (.bl true)else RZ R (b::bs) c Q
end
structure Dn where
 nx:Ev->Prop
 rt:W->Prop
 bk:Ev->Prop
 ct:Ev->Prop
 ex:Addr->Prop
mutual
noncomputable def wP(R:Addr->Prop):CE->Ev->(W->Ev->Prop)->Prop
 |.pop i,c,Q=>match look c i with
  |some (.lst l)=>∃w,l[l.length -1]?=some w/\Q w (c.set i (some (.lst l.dropLast)))
  |_=>False
 |.Oe i g f as,c,Q=>match look c i with
  |some (.obj C _ _)=>G g=.cls C/\R3 R as c λh d=>match look d i with
   |some m=>Φ f (m::h) (λr=>∃w y,r=.tup [w,y]/\Q w (d.set i (some y))) R
   |none=>False
  |_=>False
 |.bin op a b,c,Q=>wP R a c λx k=>wP R b k λy j=>jJ op x y λz=>Q z j
 |.cmp op a b,c,Q=>wP R a c λx k=>wP R b k λy j=>ie op x y λz=>Q z j
 |.call f as,c,Q=>R3 R as c λh d=>Φ f h (λw=>Q w d) R
 |.blt b as,c,Q=>R3 R as c λh d=>wm b h λw=>Q w d
 |.ix a b,c,Q=>wP R a c λx k=>wP R b k λy j=>TN x y λz=>Q z j
 |.and as,c,Q=>Ez R as c Q
 |e,c,Q=>wE Φ G R e c λw=>Q w c
noncomputable def R3(R:Addr->Prop):List CE->Ev->(List W->Ev->Prop)->Prop
 |[],b,Q=>Q [] b
 |a::as,b,Q=>wP R a b λx e=>R3 R as e λc d=>Q (x::c) d
noncomputable def Ez(R:Addr->Prop):List CE->Ev->(W->Ev->Prop)->Prop
 |[],_,_=>False
 |a::as,d,Q=>match as with
  |[]=>wP R a d Q
  |b::bs=>wP R a d λx c=>truth x λk=>if k=true then Ez R (b::bs) c Q else Q (.bl false) c
end
noncomputable def oF(b:W->Dn->Ev->Prop)(D:Dn):List W->Ev->Prop
 |[],a=>D.nx a
 |w::c,a=>b w {nx:=oF b D c,rt:=D.rt,bk:=D.nx,ct:=oF b D c,ex:=λ_=>False} a
noncomputable def Og(c:Ev->(Bool->Prop)->Prop)(b:Dn->Ev->Prop)(D:Dn)(a:Ev):Prop:=
 ∃J:Nat->Ev->Prop,(∃m,J m a)/\∀m a,J m a->c a λk=>if k=true then∃N:Ev->Prop,(∀d,N d->∃e,e<m/\J e d)/\b {nx:=N,rt:=D.rt,bk:=D.nx,ct:=N,ex:=λ_=>False} a else D.nx a
mutual
noncomputable def wS:CS->Dn->Ev->Prop
 |.set i e,D,d=>wE Φ G D.ex e d λw=>D.nx (d.set i (some w))
 |.FJ o e,D,d=>wE Φ G D.ex e d λw=>match w with
  |.tup l=>l.length=o.length/\D.nx (cW d o l)
  |_=>False
 |.par o s,D,d=>wA Φ G D.ex s d λh=>h.length=o.length/\D.nx (cW d o h)
 |.app i e,D,d=>match look d i with
  |some (.lst l)=>wE Φ G D.ex e d λw=>l.length<sizeLine/\D.nx (d.set i (some (.lst (l++[w]))))
  |_=>False
 |.put i k e,D,d=>wE Φ G D.ex e d λw=>match look d i with
  |some (.lst l)=>wE Φ G D.ex k d λx=>match x with
   |.int j=>∃n,yv l.length j=some n/\D.nx (d.set i (some (.lst (l.set n w))))
   |_=>False
  |_=>False
 |.drop i,D,d=>wP Φ G D.ex (.pop i) d λ_ f=>D.nx f
 |.A3 j e,D,d=>wP Φ G D.ex e d λw f=>D.nx (f.set j (some w))
 |.ret e,D,d=>wE Φ G D.ex e d D.rt
 |.iff c a b,D,d=>wE Φ G D.ex c d λx=>truth x λk=>if k=true then wSs a D d else wSs b D d
 |.xD c b,D,d=>Og (λd Q=>wE Φ G (λ_=>False) c d λx=>truth x Q) (wSs b) D d
 |.fr o one q b,D,d=>wE Φ G (λ_=>False) q d λz=>items z λh=>oF (λw D' f=>wT one o w f λp=>wSs b D' p) D h d
 |.brk,D,d=>D.bk d
 |.raise g e,D,d=>match G g with
  |.cls C=>wE Φ G D.ex e d λ_=>D.ex C
  |_=>False
 |.Ym i π e,D,d=>match look d i with
  |some m=>match cH m π with
   |some (.lst l)=>wE Φ G D.ex e d λw=>l.length<sizeLine/\D.nx (d.set i (some (setAt m π (.lst (l++[w])))))
   |_=>False
  |none=>False
 |.Yo i π k e,D,d=>wE Φ G D.ex e d λw=>match look d i with
  |some m=>match cH m π with
   |some (.lst l)=>wE Φ G D.ex k d λx=>match x with
    |.int j=>∃n,yv l.length j=some n/\D.nx (d.set i (some (setAt m π (.lst (l.set n w)))))
    |_=>False
   |_=>False
  |none=>False
 |.HH i n e,D,d=>wE Φ G D.ex e d λw=>match look d i with
  |some (.obj C r h)=>n<h.length/\D.nx (d.set i (some (.obj C r (h.set n w))))
  |_=>False
 |.WM e,D,d=>wE Φ G D.ex e d λw=>match look d 0 with
  |some m=>D.rt (.tup [w,m])
  |none=>False
 |.Yn e,D,d=>wP Φ G D.ex e d λ_ f=>D.nx f
 |.HJ,_,_=>False
 |.TM _ b,D,d=>wSs b {D with nx:=λ_=>False,bk:=λ_=>False,ct:=λ_=>False} d
noncomputable def wSs:List CS->Dn->Ev->Prop
 |[],D,a=>D.nx a
 |s::c,D,a=>match c with
  |[]=>wS s D a
  |t::b=>wS s {D with nx:=wSs (t::b) D} a
end
end
noncomputable def bK(K:Frag)(B:Addr->Prop)(H:Hp)(w:W)(v:V):Prop:=
 match w with
 |.lst l=>∃p a,v=.ref p/\Rd H p (.lst a)/\ak K B H l a
 |w=>Rep K B H w v
section
variable{K:Frag}{A B:Addr->Prop}{H H':Hp}{w:W}{v:V}
theorem Rep.b(h:Rep K B H w v):bK K B H w v:=by
 cases w with
 |lst l=>rw[Rep]at h;obtain⟨p,a,e,_,d,c⟩:=h;exact⟨p,a,e,d,c⟩
 |_=>exact h
theorem bK.same(s:aE H H')(h:bK K B H w v):bK K B H' w v:=by
 cases w with
 |lst l=>obtain⟨p,a,e,c,b⟩:=h;exact⟨p,a,e,VL.aE.rd s c,b.same s⟩
 |_=>exact Rep.same s h
theorem bK.lst{l:List W}(h:bK K B H (.lst l) v):∃p vs,v=.ref p/\Rd H p (.lst vs)/\ak K B H l vs:=h
theorem bK.Ys{l:List W}(h:bK K B H (.tup l) v):∃p vs,v=.ref p/\H p=some (.tup vs)/\ak K B H l vs:=by have h:Rep K B H (.tup l) v:=h;rw[Rep]at h;exact h
theorem bK.tup{l:List W}(h:bK K B H (.tup l) v):∃p vs,v=.ref p/\mK K H p vs/\ak K B H l vs:=by have h:Rep K B H (.tup l) v:=h;rw[Rep]at h;obtain⟨p,vs,e,b,a⟩:=h;exact⟨p,vs,e,mK.of b,a⟩
theorem bK.int{i:Int}(h:bK K B H (.int i) v):v=.int i:=by have h:Rep K B H (.int i) v:=h;rw[Rep]at h;exact h
theorem bK.bl{i:Bool}(h:bK K B H (.bl i) v):v=.bl i:=by have h:Rep K B H (.bl i) v:=h;rw[Rep]at h;exact h
theorem bK.str{i:Str}(h:bK K B H (.str i) v):v=.str i:=by have h:Rep K B H (.str i) v:=h;rw[Rep]at h;exact h
theorem bK.bC(h:bK K B H .bC v):v=.bC:=by have h:Rep K B H .bC v:=h;rw[Rep]at h;exact h
theorem bK.ty{n:String}(h:bK K B H (.ty n) v):v=.ty n:=by have h:Rep K B H (.ty n) v:=h;rw[Rep]at h;exact h
theorem jL(i:Int):Rep K B H (.int i) (.int i):=by rw[Rep]
theorem FL(i:Bool):Rep K B H (.bl i) (.bl i):=by rw[Rep]
theorem Yt(i:Str):Rep K B H (.str i) (.str i):=by rw[Rep]
theorem Yu:Rep K B H .bC .bC:=by rw[Rep]
theorem rTy(n:String):Rep K B H (.ty n) (.ty n):=by rw[Rep]
theorem HL{l:List W}{p:Addr}{vs:List V}(b:H p=some (.tup vs))(a:ak K B H l vs):Rep K B H (.tup l) (.ref p):=by rw[Rep];exact⟨p,vs,rfl,b,a⟩
end
abbrev KP:=W->Prop
noncomputable def Cont(K:Frag)(B:Addr->Prop)(H:Hp)(m:Md)(P:KP)(Q:VK):Prop:=∀w v a,P w->aE H a->gi K B H a m w v->Q v a
theorem Cont.now{K:Frag}{B:Addr->Prop}{H:Hp}{P:KP}{Q:VK}(c:Cont K B H .s P Q){w:W}{v:V}(p:P w)(h:Rep K B H w v):Q v H:=c w v H p (aE.refl H) (.of h)
theorem Cont.s{K:Frag}{B:Addr->Prop}{H:Hp}{m:Md}{P:KP}{Q:VK}(d:Dom B H)(c:Cont K B H .s P Q):Cont K B H m P Q:=λw v b p a h=>c w v b p a (h.s d)
noncomputable def Oh(X:Cx)(f:Value->Value->Sem Value)(r:W->W->KP->Prop)(m:W->W->Md):Prop:=
 ∀(a:List (Addr×Obj))(s:Shared)(b:St)(H:Hp)(B:Addr->Prop)(x y:W)(d c:V)(v u:Value)(P:KP)(Q:VK),Inv X a b H s->Dom B H->RelV d v->RelV c u->bK X.K B H x d->bK X.K B H y c->r x y P->Cont X.K B H (m x y) P Q->
  wpAny (model X.prog X.w) X.A (f v u) (EP X a b Q) X.xe s
section
variable{X:Cx}
theorem Oi:n9 X (binaryOp .Add) (λx y H Q=>∃l b f d,x=.ref l/\y=.ref b/\Rd H l (.lst f)/\Rd H b (.lst d)/\f.length+d.length<=sizeLine/\∀p,H p=none->Q (.ref p) (upd H p (.lst (f++d)))):=by
 intro i s B H x y v u Q I k j h;obtain⟨l,b,f,d,rfl,rfl,o,t,hz,q⟩:=h;cases k;cases j;obtain⟨z,c,n,r,e⟩:=o.ok I.hok;obtain⟨C,a,D,g,A⟩:=t.ok I.hok;have E:=r.length;have m:=g.length;refine PySem.P.add_list e A ?_ (by rw[Fm,Fm];lia);have w:c.toArray++a.toArray=(c++a).toArray:=by simp
 rw[w];exact⟨.ref _,_,I.SY (t':=s.toks) (r.append g) (by rw[Ee];lia),rfl,q _ I.fresh⟩
theorem Oj:n9 X (binaryOp .Mult) (λx y H Q=>∃l k i,x=.ref l/\y=.int k/\Rd H l (.lst i)/\-(2^63)<=k/\k<2^63/\i.length*k.toNat<=sizeLine/\∀p,H p=none->Q (.ref p) (upd H p (.lst (List.replicate k.toNat i).flatten))):=by
 intro w s M H x y v u Q I C B h;obtain⟨l,k,i,rfl,rfl,E,J,G,hz,q⟩:=h;cases C;obtain⟨t,rfl⟩:=B;obtain⟨z,b,n,r,e⟩:=E.ok I.hok;have D:=r.length;have d:b.toArray.size*k.toNat<=sizeLine:=by rw[Fm,←D];exact hz
 have g:¬b.toArray.size*k.toNat>(2^63 -1)/8:=by
  have:(sizeLine:Nat)<=(2^63 -1)/8:=by decide
  lia
 have f:¬(!Builtin.List.listFitsIndex k)=true:=by rw[fitsIndex_both J G];exact Kj
 have L:¬Builtin.List.listTooLong (b.toArray.size*k.toNat)=true:=by rw[JG d];exact Kj
 have c:List.foldl (λo j=>o++j) #[] (List.replicate (if b.toArray.isEmpty=true then 0 else k.toNat) b.toArray)=(List.replicate k.toNat b).flatten.toArray:=by
  have K:∀m:Nat,List.foldl (λo j=>o++j) #[] (List.replicate m b.toArray)=(List.replicate m b).flatten.toArray:=λm=>by have:=foldl_rep b m [];rw[List.nil_append]at this;exact this
  rw[K];cases b with
  |nil=>simp
  |cons a N=>rw[Bi (by simp)]
 refine wpAny_binaryOp_repeat_ref (T:="list") (U:="int") (by decide) ⟨_,e,rfl⟩ (λA=>typeIs_int A k t) noFill_list_mul F.fills_int_mul F.slot_int_rmul repeat_list F.slot_int_index.lookup
  (call_meets F.slot_int_rmul (typeIs_int s k t) F.entry_int_rmul (F.args_int_rmul_2 _ _) (int___rmul___int_list k t l b.toArray n)
    ⟨e,rfl,⟨_,e,rfl⟩,call_meets F.slot_list_mul ⟨_,e,rfl⟩ F.entry_list_mul (F.args_list_mul_2 _ _) (AutoListH.list___mul___list_int_3 l b.toArray n k t f g L) ⟨e,?_⟩⟩)
 rw[c];exact⟨.ref _,_,I.SY (t':=s.toks) (r.rep k.toNat) (by rw[len_rep,kf];exact hz),rfl,q _ I.fresh⟩
noncomputable def Ol:W->W->Md
 |.lst _,_=>.f
 |_,_=>.s
theorem TR:Oh X (binaryOp .Add) Yp Ol:=by
 intro f s m H B x y M L v u P Q I d t o A w h c;cases x with
 |int i=>
  cases y with
  |int j=>
   cases A.int;cases w.int;exact Sz f s m H _ _ v u Q I t o ⟨i,j,rfl,rfl,c.now h (jL _)⟩
  |_=>exact h.elim
 |str i=>
  cases y with
  |str j=>
   cases A.str;cases w.str;exact CL f s m H _ _ v u Q I t o ⟨i,j,rfl,rfl,h.1,c.now h.2 (Yt _)⟩
  |_=>exact h.elim
 |lst a=>
  cases y with
  |lst b=>obtain⟨p,n,rfl,G,g⟩:=A.lst;obtain⟨q,C,rfl,D,k⟩:=w.lst;obtain⟨F,h⟩:=h;refine Oi f s m H _ _ v u Q I t o ⟨p,q,n,C,rfl,rfl,G,D,by rw[g.len,k.len];exact F,λr l=>?_⟩;exact c _ _ _ h (aO l _) (.fresh (aE.refl H) l (g.app k))
  |_=>exact h.elim
 |tup a=>
  cases y with
  |tup b=>
   obtain⟨p,n,rfl,J,g⟩:=A.Ys;have G:mK X.K H p n:=mK.of J;obtain⟨q,C,rfl,D,k⟩:=w.tup;obtain⟨E,F,h⟩:=h;refine Nj f s m H _ _ v u Q I t o ⟨p,q,n,C,rfl,rfl,G,D,λz=>E ?_,by rw[g.len,k.len];exact F,λz=>?_,λ_ r l=>?_⟩
   ·have:=g.len;rw[z]at this;exact KE.mp this.symm
   ·have:=k.len;rw[z]at this;have e:b=[]:=KE.mp this.symm;subst e;rw[Kx]at h;exact c.now h (HL J g)
   ·exact c _ _ _ h (aO l _) (.of (HL aD ((g.app k).same (aO l _))))
  |_=>exact h.elim
 |_=>exact h.elim
theorem TU:Oh X (binaryOp .Mult) Yq Ol:=by
 intro b s e H B x y D C v u P Q I d g f m l h c;cases x with
 |int i=>
  cases y with
  |int j=>
   cases m.int;cases l.int;exact Nr b s e H _ _ v u Q I g f ⟨i,j,rfl,rfl,h.1,c.now h.2 (jL _)⟩
  |_=>exact h.elim
 |lst a=>
  cases y with
  |int k=>obtain⟨p,q,rfl,A,o⟩:=m.lst;cases l.int;obtain⟨w,t,z,h⟩:=h;refine Oj b s e H _ _ v u Q I g f ⟨p,k,q,rfl,rfl,A,w,t,by rw[o.len];exact z,λr n=>?_⟩;exact c _ _ _ h (aO n _) (.fresh (aE.refl H) n (o.rep _))
  |_=>exact h.elim
 |_=>exact h.elim
noncomputable def mS:W->W->Md:=λ_ _=>.s
theorem TV:Oh X (binaryOp .Sub) Yr mS:=by
 intro a s b H B x y m l v u P Q I d f e k g h c;cases x with
 |int i=>
  cases y with
  |int j=>
   cases k.int;cases g.int;exact SA a s b H _ _ v u Q I f e ⟨i,j,rfl,rfl,c.now h (jL _)⟩
  |_=>exact h.elim
 |_=>exact h.elim
theorem A4{f:Value->Value->Sem Value}{C:Int->Int->Prop}{g:Int->Int->Int}(n:n9 X f (rI C λi j=>.int (g i j))):Oh X f (WO C g) mS:=by
 intro a s b H B x y p o v u P Q I d k e m l h c;cases x with
 |int i=>
  cases y with
  |int j=>
   cases m.int;cases l.int;exact n a s b H _ _ v u Q I k e ⟨i,j,rfl,rfl,h.1,c.now h.2 (jL _)⟩
  |_=>exact h.elim
 |_=>exact h.elim
noncomputable def Om:Operator->W->W->Md
 |.Add=>Ol
 |.Mult=>Ol
 |_=>mS
theorem Dw(op:Operator):Oh X (binaryOp op) (jJ op) (Om op):=by
 cases op with
 |Add=>exact TR
 |Sub=>exact TV
 |Mult=>exact TU
 |FloorDiv=>exact A4 JL
 |Mod=>exact A4 M7
 |Pow=>exact A4 SD
 |LShift=>exact A4 SG
 |RShift=>exact A4 SH
 |_=>exact λa s b H B x y f e v u P Q I d i g k j h c=>h.elim
theorem zd{f:Value->Value->Sem Value}{p:Int->Int->Bool}(m:n9 X f (M5 λi j=>.bl (p i j))):Oh X f (KZ p) mS:=by
 intro a s b H B x y o n v u P Q I d g e l k h c;cases x with
 |int i=>
  cases y with
  |int j=>
   cases l.int;cases k.int;exact m a s b H _ _ v u Q I g e ⟨i,j,rfl,rfl,c.now h (FL _)⟩
  |_=>exact h.elim
 |_=>exact h.elim
end
mutual
noncomputable def toD:W->PyData
 |.bC=>.none
 |.bl b=>.bool b
 |.int i=>.int i
 |.str x=>.str x
 |.lst l=>.list (toDL l)
 |.tup l=>.tuple (toDL l)
 |_=>.none
noncomputable def toDL:List W->List PyData
 |[]=>[]
 |w::l=>toD w::toDL l
end
mutual
noncomputable def iD:W->Bool
 |.bC=>true
 |.bl _=>true
 |.int _=>true
 |.str x=>PyData.strOk x
 |.lst l=>qV l
 |.tup l=>qV l
 |_=>false
noncomputable def qV:List W->Bool
 |[]=>true
 |w::l=>iD w&&qV l
end
section
variable{X:Cx}{B:Addr->Prop}{H:Hp}
mutual
theorem Yx:∀(w:W){v:V},iD w=true->Rep X.K B H w v->Dt X H v (toD w)
 |.bC,v,_,h=>by rw[Rep]at h;subst h;rw[toD];exact Tj
 |.bl b,v,_,h=>by rw[Rep]at h;subst h;rw[toD];exact Q2 b
 |.int i,v,_,h=>by rw[Rep]at h;subst h;rw[toD];exact Th i
 |.str x,v,_,h=>by rw[Rep]at h;subst h;rw[toD];exact Ti x
 |.lst l,v,d,h=>by rw[Rep]at h;rw[iD]at d;rw[toD];obtain⟨p,vs,rfl,_,c,a⟩:=h;exact JW (.inl c) (FN l d a)
 |.tup l,v,d,h=>by rw[Rep]at h;rw[iD]at d;rw[toD];obtain⟨p,vs,rfl,c,a⟩:=h;exact Dc (mK.of c) (FN l d a)
 |.ty _,_,d,_=>by simp[iD]at d
 |.cls _,_,d,_=>by simp[iD]at d
 |.err _,_,d,_=>by simp[iD]at d
 |.dct _ _,_,d,_=>by simp[iD]at d
 |.obj _ _ _,_,d,_=>by simp[iD]at d
 |.g9 _,_,d,_=>by simp[iD]at d
theorem FN:∀(l:List W){vs:List V},qV l=true->ak X.K B H l vs->Paired (Dt X H) vs (toDL l)
 |[],vs,_,h=>by rw[h.nil_inv,toDL];exact .nil
 |w::l,vs,d,h=>by obtain⟨v,r,rfl,b,a⟩:=h.cons_inv;rw[qV,BM]at d;rw[toDL];exact .cons (Yx w d.1 b) (FN l d.2 a)
end
theorem Oo{w:W}{v:V}(d:iD w=true)(h:bK X.K B H w v):Dt X H v (toD w):=by
 cases w with
 |lst l=>obtain⟨p,c,rfl,b,a⟩:=h.lst;rw[iD]at d;rw[toD];exact JW (.inl b) (FN l d a)
 |_=>exact Yx (B:=B) _ d h
end
mutual
theorem toD_lay:∀w:W,iD w=true->(toD w).canLay0=true
 |.bC,_=>by simp[toD,PyData.canLay0]
 |.bl _,_=>by simp[toD,PyData.canLay0]
 |.int _,_=>by simp[toD,PyData.canLay0]
 |.str x,d=>by rw[iD]at d;simp[toD,PyData.canLay0,d]
 |.lst l,d=>by rw[iD]at d;rw[toD,PyData.canLay0];exact toDL_lay l d
 |.tup l,d=>by rw[iD]at d;rw[toD,PyData.canLay0];exact toDL_lay l d
 |.ty _,d=>by simp[iD]at d
 |.cls _,d=>by simp[iD]at d
 |.err _,d=>by simp[iD]at d
 |.dct _ _,d=>by simp[iD]at d
 |.obj _ _ _,d=>by simp[iD]at d
 |.g9 _,d=>by simp[iD]at d
theorem toDL_lay:∀l:List W,qV l=true->PyData.canLayAll0 (toDL l)=true
 |[],_=>by simp[toDL,PyData.canLayAll0]
 |w::l,d=>by rw[qV,BM]at d;rw[toDL,PyData.canLayAll0,toD_lay w d.1,toDL_lay l d.2];rfl
end
mutual
theorem toD_same:∀x y:W,iD x=true->iD y=true->(same (toD x) (toD y)=true↔x=y)
 |.bC,.bC,_,_=>by simp[toD,same]
 |.bC,.bl _,_,_=>by simp[toD,same]
 |.bC,.int _,_,_=>by simp[toD,same]
 |.bC,.str _,_,_=>by simp[toD,same]
 |.bC,.lst _,_,_=>by simp[toD,same]
 |.bC,.tup _,_,_=>by simp[toD,same]
 |.bl _,.bC,_,_=>by simp[toD,same]
 |.bl a,.bl b,_,_=>by simp[toD,same]
 |.bl _,.int _,_,_=>by simp[toD,same]
 |.bl _,.str _,_,_=>by simp[toD,same]
 |.bl _,.lst _,_,_=>by simp[toD,same]
 |.bl _,.tup _,_,_=>by simp[toD,same]
 |.int _,.bC,_,_=>by simp[toD,same]
 |.int _,.bl _,_,_=>by simp[toD,same]
 |.int _,.int _,_,_=>by simp[toD,same]
 |.int _,.str _,_,_=>by simp[toD,same]
 |.int _,.lst _,_,_=>by simp[toD,same]
 |.int _,.tup _,_,_=>by simp[toD,same]
 |.str _,.bC,_,_=>by simp[toD,same]
 |.str _,.bl _,_,_=>by simp[toD,same]
 |.str _,.int _,_,_=>by simp[toD,same]
 |.str _,.str _,_,_=>by simp[toD,same]
 |.str _,.lst _,_,_=>by simp[toD,same]
 |.str _,.tup _,_,_=>by simp[toD,same]
 |.lst _,.bC,_,_=>by simp[toD,same]
 |.lst _,.bl _,_,_=>by simp[toD,same]
 |.lst _,.int _,_,_=>by simp[toD,same]
 |.lst _,.str _,_,_=>by simp[toD,same]
 |.lst a,.lst b,d,e=>by rw[iD]at d e;rw[toD,toD,same,toDL_same a b d e,W.lst.injEq]
 |.lst _,.tup _,_,_=>by simp[toD,same]
 |.tup _,.bC,_,_=>by simp[toD,same]
 |.tup _,.bl _,_,_=>by simp[toD,same]
 |.tup _,.int _,_,_=>by simp[toD,same]
 |.tup _,.str _,_,_=>by simp[toD,same]
 |.tup _,.lst _,_,_=>by simp[toD,same]
 |.tup a,.tup b,d,e=>by rw[iD]at d e;rw[toD,toD,same,toDL_same a b d e,W.tup.injEq]
 |.ty _,_,d,_=>by simp[iD]at d
 |.cls _,_,d,_=>by simp[iD]at d
 |.err _,_,d,_=>by simp[iD]at d
 |.dct _ _,_,d,_=>by simp[iD]at d
 |.obj _ _ _,_,d,_=>by simp[iD]at d
 |.g9 _,_,d,_=>by simp[iD]at d
 |_,.ty _,_,d=>by simp[iD]at d
 |_,.cls _,_,d=>by simp[iD]at d
 |_,.err _,_,d=>by simp[iD]at d
 |_,.dct _ _,_,d=>by simp[iD]at d
 |_,.obj _ _ _,_,d=>by simp[iD]at d
 |_,.g9 _,_,d=>by simp[iD]at d
theorem toDL_same:∀x y:List W,qV x=true->qV y=true->(sameAll (toDL x) (toDL y)=true↔x=y)
 |[],[],_,_=>by simp[toDL,sameAll]
 |[],_::_,_,_=>by simp[toDL,sameAll]
 |_::_,[],_,_=>by simp[toDL,sameAll]
 |x::b,y::a,d,e=>by rw[qV,BM]at d e;rw[toDL,toDL,sameAll,BM,toD_same x y d.1 e.1,toDL_same b a d.2 e.2,mM]
end
theorem toDL_map:∀l:List W,toDL l=l.map toD
 |[]=>by rw[toDL];rfl
 |w::l=>by rw[toDL,toDL_map l];rfl
theorem uJ:∀l:List W,qV l=l.all iD
 |[]=>by rw[qV];rfl
 |w::l=>by rw[qV,uJ l];rfl
theorem Oq:∀(n:Nat)(w:W),(gj n w=true\/kX n w=true)->iD w=true/\(toD w).depth<=n+1
 |n,.bC,_=>by simp[iD,toD,PyData.depth]
 |n,.bl _,_=>by simp[iD,toD,PyData.depth]
 |n,.int _,_=>by simp[iD,toD,PyData.depth]
 |n,.str x,h=>by
  have:PyData.strOk x=true:=by
   rcases h with h|h
   ·unfold gj at h;exact h
   ·unfold kX at h;exact h
  simp[iD,toD,PyData.depth,this]
 |0,.lst l,h=>by rcases h with h|h<;>simp[gj,kX]at h
 |0,.tup l,h=>by rcases h with h|h<;>simp[gj,kX]at h
 |n+1,.lst l,h=>by
  have b:∀w∈l,iD w=true/\(toD w).depth<=n+1:=λw a=>by
   refine Oq n w ?_;rcases h with h|h
   ·rw[gj]at h;exact .inl (IH.mp h w a)
   ·rw[kX]at h;exact .inr (IH.mp h w a)
  refine⟨by rw[iD,uJ];exact IH.mpr λw a=>(b w a).1,?_⟩;rw[toD,toDL_map];exact Nat.succ_le_succ (AE λx c=>by obtain⟨w,a,rfl⟩:=Hk.mp c;exact(b w a).2)
 |n+1,.tup l,h=>by
  have b:∀w∈l,iD w=true/\(toD w).depth<=n+1:=λw a=>by
   refine Oq n w ?_;rcases h with h|h
   ·rw[gj]at h;exact .inl (IH.mp h w a)
   ·rw[kX]at h;exact .inr (IH.mp h w a)
  refine⟨by rw[iD,uJ];exact IH.mpr λw a=>(b w a).1,?_⟩;rw[toD,toDL_map];exact Nat.succ_le_succ (AE λx c=>by obtain⟨w,a,rfl⟩:=Hk.mp c;exact(b w a).2)
 |0,.ty _,h=>by rcases h with h|h<;>simp[gj,kX]at h
 |0,.cls _,h=>by rcases h with h|h<;>simp[gj,kX]at h
 |0,.err _,h=>by rcases h with h|h<;>simp[gj,kX]at h
 |0,.dct _ _,h=>by rcases h with h|h<;>simp[gj,kX]at h
 |0,.obj _ _ _,h=>by rcases h with h|h<;>simp[gj,kX]at h
 |0,.g9 _,h=>by rcases h with h|h<;>simp[gj,kX]at h
 |n+1,.ty _,h=>by rcases h with h|h<;>simp[gj,kX]at h
 |n+1,.cls _,h=>by rcases h with h|h<;>simp[gj,kX]at h
 |n+1,.err _,h=>by rcases h with h|h<;>simp[gj,kX]at h
 |n+1,.dct _ _,h=>by rcases h with h|h<;>simp[gj,kX]at h
 |n+1,.obj _ _ _,h=>by rcases h with h|h<;>simp[gj,kX]at h
 |n+1,.g9 _,h=>by rcases h with h|h<;>simp[gj,kX]at h
inductive FO(b:Bool):PyData->Prop where
 |none:FO b .none
 |str (x:Str):FO b (.str x)
 |bool (x:Bool) (h:b=true):FO b (.bool x)
 |int (x:Int) (h:b=false):FO b (.int x)
 |list {l:List PyData} (h:∀x∈l,FO b x):FO b (.list l)
 |tuple {l:List PyData} (h:∀x∈l,FO b x):FO b (.tuple l)
mutual
theorem ze{b:Bool}:∀d e:PyData,FO b d->FO b e->SeqAt.noMix d e=true
 |.list c,.list a,h,k=>by
  cases h with
  |list h=>
   cases k with
   |list k=>rw[SeqAt.noMix];exact uK c a h k
 |.tuple c,.tuple a,h,k=>by
  cases h with
  |tuple h=>
   cases k with
   |tuple k=>rw[SeqAt.noMix];exact uK c a h k
 |.bool _,.int _,h,k=>by
  cases h with
  |bool _ h=>
   cases k with
   |int _ k=>rw[h]at k;cases k
 |.int _,.bool _,h,k=>by
  cases h with
  |int _ h=>
   cases k with
   |bool _ k=>rw[h]at k;exact ff k
 |.dict _,_,h,_=>by cases h
 |.none,.none,_,_=>by simp[SeqAt.noMix]
 |.none,.bool _,_,_=>by simp[SeqAt.noMix]
 |.none,.int _,_,_=>by simp[SeqAt.noMix]
 |.none,.str _,_,_=>by simp[SeqAt.noMix]
 |.none,.list _,_,_=>by simp[SeqAt.noMix]
 |.none,.tuple _,_,_=>by simp[SeqAt.noMix]
 |.none,.dict _,_,_=>by simp[SeqAt.noMix]
 |.bool _,.none,_,_=>by simp[SeqAt.noMix]
 |.bool _,.bool _,_,_=>by simp[SeqAt.noMix]
 |.bool _,.str _,_,_=>by simp[SeqAt.noMix]
 |.bool _,.list _,_,_=>by simp[SeqAt.noMix]
 |.bool _,.tuple _,_,_=>by simp[SeqAt.noMix]
 |.bool _,.dict _,_,_=>by simp[SeqAt.noMix]
 |.int _,.none,_,_=>by simp[SeqAt.noMix]
 |.int _,.int _,_,_=>by simp[SeqAt.noMix]
 |.int _,.str _,_,_=>by simp[SeqAt.noMix]
 |.int _,.list _,_,_=>by simp[SeqAt.noMix]
 |.int _,.tuple _,_,_=>by simp[SeqAt.noMix]
 |.int _,.dict _,_,_=>by simp[SeqAt.noMix]
 |.str _,.none,_,_=>by simp[SeqAt.noMix]
 |.str _,.bool _,_,_=>by simp[SeqAt.noMix]
 |.str _,.int _,_,_=>by simp[SeqAt.noMix]
 |.str _,.str _,_,_=>by simp[SeqAt.noMix]
 |.str _,.list _,_,_=>by simp[SeqAt.noMix]
 |.str _,.tuple _,_,_=>by simp[SeqAt.noMix]
 |.str _,.dict _,_,_=>by simp[SeqAt.noMix]
 |.list _,.none,_,_=>by simp[SeqAt.noMix]
 |.list _,.bool _,_,_=>by simp[SeqAt.noMix]
 |.list _,.int _,_,_=>by simp[SeqAt.noMix]
 |.list _,.str _,_,_=>by simp[SeqAt.noMix]
 |.list _,.tuple _,_,_=>by simp[SeqAt.noMix]
 |.list _,.dict _,_,_=>by simp[SeqAt.noMix]
 |.tuple _,.none,_,_=>by simp[SeqAt.noMix]
 |.tuple _,.bool _,_,_=>by simp[SeqAt.noMix]
 |.tuple _,.int _,_,_=>by simp[SeqAt.noMix]
 |.tuple _,.str _,_,_=>by simp[SeqAt.noMix]
 |.tuple _,.list _,_,_=>by simp[SeqAt.noMix]
 |.tuple _,.dict _,_,_=>by simp[SeqAt.noMix]
theorem uK{b:Bool}:∀c a:List PyData,(∀x∈c,FO b x)->(∀y∈a,FO b y)->SeqAt.noMixAll c a=true
 |[],[],_,_=>by simp[SeqAt.noMixAll]
 |[],_::_,_,_=>by simp[SeqAt.noMixAll]
 |_::_,[],_,_=>by simp[SeqAt.noMixAll]
 |x::c,y::a,h,k=>by rw[SeqAt.noMixAll,ze x y (h x FV) (k y FV),uK c a (λz hz=>h z (FR _ hz)) λz hz=>k z (FR _ hz)];rfl
end
theorem zf:∀(n:Nat)(w:W),gj n w=true->FO false (toD w)
 |n,.bC,_=>by rw[toD];exact .none
 |n,.int i,_=>by rw[toD];exact .int i rfl
 |n,.str x,_=>by rw[toD];exact .str x
 |n,.bl _,h=>by cases n<;>simp[gj]at h
 |n+1,.lst l,h=>by rw[gj]at h;rw[toD,toDL_map];exact .list λx a=>by obtain⟨w,b,rfl⟩:=Hk.mp a;exact zf n w (IH.mp h w b)
 |n+1,.tup l,h=>by rw[gj]at h;rw[toD,toDL_map];exact .tuple λx a=>by obtain⟨w,b,rfl⟩:=Hk.mp a;exact zf n w (IH.mp h w b)
 |0,.lst l,h=>by simp[gj]at h
 |0,.tup l,h=>by simp[gj]at h
 |n,.ty _,h=>by cases n<;>simp[gj]at h
 |n,.cls _,h=>by cases n<;>simp[gj]at h
 |n,.err _,h=>by cases n<;>simp[gj]at h
 |n,.dct _ _,h=>by cases n<;>simp[gj]at h
 |n,.obj _ _ _,h=>by cases n<;>simp[gj]at h
 |n,.g9 _,h=>by cases n<;>simp[gj]at h
theorem zh:∀(n:Nat)(w:W),kX n w=true->FO true (toD w)
 |n,.bC,_=>by rw[toD];exact .none
 |n,.bl i,_=>by rw[toD];exact .bool i rfl
 |n,.str x,_=>by rw[toD];exact .str x
 |n,.int _,h=>by cases n<;>simp[kX]at h
 |n+1,.lst l,h=>by rw[kX]at h;rw[toD,toDL_map];exact .list λx a=>by obtain⟨w,b,rfl⟩:=Hk.mp a;exact zh n w (IH.mp h w b)
 |n+1,.tup l,h=>by rw[kX]at h;rw[toD,toDL_map];exact .tuple λx a=>by obtain⟨w,b,rfl⟩:=Hk.mp a;exact zh n w (IH.mp h w b)
 |0,.lst l,h=>by simp[kX]at h
 |0,.tup l,h=>by simp[kX]at h
 |n,.ty _,h=>by cases n<;>simp[kX]at h
 |n,.cls _,h=>by cases n<;>simp[kX]at h
 |n,.err _,h=>by cases n<;>simp[kX]at h
 |n,.dct _ _,h=>by cases n<;>simp[kX]at h
 |n,.obj _ _ _,h=>by cases n<;>simp[kX]at h
 |n,.g9 _,h=>by cases n<;>simp[kX]at h
section
variable{X:Cx}
theorem zj(C:X.A.units+64<cLine)(f:Bool){a:List (Addr×Obj)}{s:Shared}{σ:St}{H:Hp}{B:Addr->Prop}{x y:W}{l k:V}{v u:Value}{P:KP}{Q:VK}(I:Inv X a σ H s)(p:RelV l v)(o:RelV k u)(z:bK X.K B H x l)(t:bK X.K B H y k)
 (h:((gj 9 x=true/\gj 9 y=true)\/(kX 9 x=true/\kX 9 y=true))/\∀b:Bool,(b=true↔x=y)->P (.bl (if f then !b else b)))(c:Cont X.K B H .s P Q):
 wpAny (model X.prog X.w) X.A (compareOp (if f then .NotEq else .Eq) v u) (EP X a σ Q) X.xe s:=by
 obtain⟨g,h⟩:=h;have e:=Oq 9 x (g.imp And.left And.left);have d:=Oq 9 y (g.imp And.right And.right);have n:SeqAt.shaped (toD x)=true:=by unfold SeqAt.shaped;rw[toD_lay x e.1,Os (Da e.2 (by decide))];rfl
 have m:SeqAt.shaped (toD y)=true:=by unfold SeqAt.shaped;rw[toD_lay y d.1,Os (Da d.2 (by decide))];rfl
 have r:SeqAt.noMix (toD x) (toD y)=true:=by
  rcases g with⟨j,i⟩|⟨j,i⟩
  ·exact ze _ _ (zf 9 x j) (zf 9 y i)
  ·exact ze _ _ (zh 9 x j) (zh 9 y i)
 have q:=h (same (toD x) (toD y)) (toD_same x y e.1 d.1);cases f with
 |true=>exact Tn C a s σ H _ _ v u Q I p o ⟨_,_,Oo e.1 z,Oo d.1 t,⟨n,m,r⟩,c.now q (FL _)⟩
 |false=>exact JX C a s σ H _ _ v u Q I p o ⟨_,_,Oo e.1 z,Oo d.1 t,⟨n,m,r⟩,c.now q (FL _)⟩
theorem Q9(p:X.A.units+64<cLine)(e:Bool):Oh X (compareOp (if e then .NotEq else .Eq)) (wEq e) mS:=by
 intro f s r H B x y E D v u P Q I d l g n m h c;have sc:∀a b:V,SJ a b=true->(∀k:Bool,k=decide (a=b)->Q (.bl (if e then !k else k)) H)->RelV a v->RelV b u->wpAny (model X.prog X.w) X.A (compareOp (if e then .NotEq else .Eq) v u) (EP X f r Q) X.xe s:=λa b C q z t=>by
  cases e with
  |true=>exact XA f s r H _ _ v u Q I z t ⟨C,q _ rfl⟩
  |false=>exact Xz f s r H _ _ v u Q I z t ⟨C,q _ rfl⟩
 cases x with
 |int i=>
  cases y with
  |int j=>
   cases n.int;cases m.int;refine sc _ _ rfl (λk o=>c.now (w:=.bl (if e then !k else k)) ?_ (FL _)) l g;rw[o,show decide (V.int i=V.int j)=decide (i=j)from by simp];exact h
  |_=>exact zj p e I l g n m h c
 |str i=>
  cases y with
  |str j=>
   cases n.str;cases m.str;refine sc _ _ rfl (λk o=>c.now (w:=.bl (if e then !k else k)) ?_ (FL _)) l g;rw[o,show decide (V.str i=V.str j)=decide (i=j)from by simp];exact h
  |_=>exact zj p e I l g n m h c
 |bl i=>
  cases y with
  |bl j=>
   cases n.bl;cases m.bl;refine sc _ _ rfl (λk o=>c.now (w:=.bl (if e then !k else k)) ?_ (FL _)) l g;rw[o,show decide (V.bl i=V.bl j)=decide (i=j)from by simp];exact h
  |_=>exact zj p e I l g n m h c
 |_=>exact zj p e I l g n m h c
theorem Ra(i:Bool):Oh X (compareOp (if i then .IsNot else .Is)) (wIs i) mS:=by
 intro j s m H B x y n t v u P Q I d r o l C h c;have a:t=.bC->(∀k:Bool,k=decide (n=.bC)->P (.bl (if i then !k else k)))->wpAny (model X.prog X.w) X.A (compareOp (if i then .IsNot else .Is) v u) (EP X j m Q) X.xe s:=λe q=>by
  cases i with
  |true=>exact M8 j s m H _ _ v u Q I r o ⟨e,c.now (q _ rfl) (FL _)⟩
  |false=>exact SK j s m H _ _ v u Q I r o ⟨e,c.now (q _ rfl) (FL _)⟩
 cases y with
 |bC=>
  have e:=C.bC;cases x with
  |bC=>have g:=l.bC;refine a e λk f=>?_;rw[f,g];cases i<;>exact h
  |bl b=>have g:=l.bl;refine a e λk f=>?_;rw[f,g];cases i<;>exact h
  |int b=>have g:=l.int;refine a e λk f=>?_;rw[f,g];cases i<;>exact h
  |str b=>have g:=l.str;refine a e λk f=>?_;rw[f,g];cases i<;>exact h
  |lst b=>obtain⟨p,z,g,_⟩:=l.lst;refine a e λk f=>?_;rw[f,g];cases i<;>exact h
  |tup b=>obtain⟨p,z,g,_⟩:=l.tup;refine a e λk f=>?_;rw[f,g];cases i<;>exact h
  |err b=>have l:Rep X.K B H (.err b) n:=l;rw[Rep]at l;obtain⟨p,g,_⟩:=l;refine a e λk f=>?_;rw[f,g];cases i<;>exact h
  |_=>exact h.elim
 |_=>
  exfalso
  cases x<;>exact h
theorem Dy(b:X.A.units+64<cLine)(op:CmpOp):Oh X (compareOp op) (ie op) mS:=by
 cases op with
 |Eq=>exact Q9 b false
 |NotEq=>exact Q9 b true
 |Lt=>exact zd XC
 |LtE=>exact zd XD
 |Gt=>exact zd XE
 |GtE=>exact zd XF
 |Is=>exact Ra false
 |IsNot=>exact Ra true
 |_=>exact λa s e H B x y g f v u P Q I d j i l k h c=>h.elim
end
noncomputable def ER(X:Cx)(b:Hp)(R:Addr->Prop):Prop:=∃E:XK,Passes (dD X.prog X.w) X E/\(∀C a,R C->aE b a->E (.ref C) none a)/\C5 X (λC a=>R C/\aE b a)
theorem HM{X:Cx}:Passes (dD X.prog X.w) X E0:=λ_ _ _ _ _ _ _ h=>by obtain⟨_,_,_,_,_,q⟩:=h;exact q.elim
theorem ER.none{X:Cx}{a:Hp}:ER X a λ_=>False:=⟨E0,HM,λ_ _ z=>z.elim,λ_ _ _ _ _ _ _ _ _ _ z=>z.1.elim⟩
abbrev RL:=(Addr->Prop)->Hp->Hp->W->V->Prop
abbrev WT:=Ev->(W->Prop)->Prop
noncomputable def TY(K:Frag)(m:Md):RL:=λB H a w v=>gi K B H a m w v
noncomputable def ρB(K:Frag):RL:=λB _ a w v=>bK K B a w v
noncomputable def tV(X:Cx)(M:Ms)(R:Addr->Prop)(e:RL)(t:WT):TE:=λb H Q=>∃A d c P,SR X.K M A d b H c/\ER X d R/\t c P/\∀w v a,P w->aE H a->e (FB A M b) H a w v->Q v a
noncomputable def tVT(X:Cx)(M:Ms)(R:Addr->Prop)(t:WT):TT:=λe H Q=>∃A c a P,SR X.K M A c e H a/\ER X c R/\t a P/\∀x d,P x->aE H d->∃b,x=.bl b/\Q b d
abbrev RLL:=(Addr->Prop)->Hp->List W->List V->Prop
noncomputable def tVA(X:Cx)(M:Ms)(R:Addr->Prop)(g:RLL)(t:Ev->(List W->Prop)->Prop):TA:=λb H Q=>∃A f c P,SR X.K M A f b H c/\ER X f R/\t c P/\∀d e a,P d->aE H a->g (FB A M b) a d e->Q e a
abbrev VE(X:Cx)(M:Ms)(R:Addr->Prop)(m:Md)(e:Expr)(t:WT):Prop:=PE X e (tV X M R (TY X.K m) t)
abbrev VB(X:Cx)(M:Ms)(R:Addr->Prop)(e:Expr)(t:WT):Prop:=PE X e (tV X M R (ρB X.K) t)
abbrev VT(X:Cx)(M:Ms)(R:Addr->Prop)(e:Expr)(t:WT):Prop:=PT X e (tVT X M R t)
noncomputable def rZ(K:Frag)(B:Addr->Prop)(H:Hp):List W->List V->Prop
 |[],vs=>vs=[]
 |w::a,vs=>∃v r,vs=v::r/\bK K B H w v/\rZ K B H a r
noncomputable def ρL(K:Frag):RLL:=λB H a b=>ak K B H a b
noncomputable def abd(K:Frag):RLL:=λB H a b=>rZ K B H a b
abbrev VA(X:Cx)(M:Ms)(R:Addr->Prop)(es:List Expr)(t:Ev->(List W->Prop)->Prop):Prop:=PA X es (tVA X M R (ρL X.K) t)
abbrev WQ(X:Cx)(M:Ms)(R:Addr->Prop)(es:List Expr)(t:Ev->(List W->Prop)->Prop):Prop:=PA X es (tVA X M R (abd X.K) t)
theorem PE.imp{X:Cx}{e:Expr}{t t':TE}(h:PE X e t)(k:∀σ H Q,t' σ H Q->t σ H Q):PE X e t':=λa s σ H Q I w=>h a s σ H Q I (k σ H Q w)
theorem PT.imp{X:Cx}{e:Expr}{t t':TT}(h:PT X e t)(k:∀σ H Q,t' σ H Q->t σ H Q):PT X e t':=λa s σ H Q I w=>h a s σ H Q I (k σ H Q w)
theorem PW.imp{X:Cx}{e:Expr}{t t':TT}(h:PW X e t)(k:∀σ H Q,t' σ H Q->t σ H Q):PW X e t':=λb a s σ H Q I w=>h b a s σ H Q I (k σ H Q w)
theorem PA.imp{X:Cx}{e:List Expr}{t t':TA}(h:PA X e t)(k:∀σ H Q,t' σ H Q->t σ H Q):PA X e t':=λb a s σ H Q I w=>h b a s σ H Q I (k σ H Q w)
section
variable{X:Cx}{M:Ms}{R:Addr->Prop}{e a b c:Expr}{t ta tb tc:WT}{m:Md}{pos:Pos}
theorem HN(h:VE X M R m e t):VE X M R .s e t:=PE.imp h<|by rintro l H Q ⟨A,i,d,P,S,g,p,k⟩;exact⟨A,i,d,P,S,g,p,λw v j f s r=>k w v j f s (r.s S.dom)⟩
theorem Yy(h:VE X M R m e t):VB X M R e t:=PE.imp h<|by rintro l H Q ⟨A,i,d,P,S,g,p,k⟩;exact⟨A,i,d,P,S,g,p,λw v j f s r=>k w v j f s (r.rep S.dom).b⟩
theorem K1{i:Nat}(h:PE X e (qL i))(r:bI M i->(i,.f)∈M):VB X M R e (λg Q=>match look g i with|some w=>Q w|none=>False):=PE.imp h<|by
 rintro x H Q ⟨A,B,g,P,S,z,p,k⟩
 revert p
 cases l:look g i with
 |none=>exact λp=>p.elim
 |some w=>
  intro p;by_cases n:bI M i
  ·obtain⟨F,O⟩:=S.ow;obtain⟨v,j,d⟩:=O.val i .f w (r n) l;rw[Fp]at d;obtain⟨y,q,o,rfl,rfl,_,u,s⟩:=d;exact⟨_,j,k _ _ H p (aE.refl H) ⟨q,o,rfl,.inl u,s⟩⟩
  ·obtain⟨v,j,d⟩:=S.sh i w n l;exact⟨v,j,k _ _ H p (aE.refl H) d.b⟩
theorem TZ{i:Nat}(h:PE X e (qL i))(g:¬bI M i):VE X M R .s e (λd Q=>match look d i with|some w=>Q w|none=>False):=PE.imp h<|by
 rintro n H Q ⟨A,q,d,P,S,o,p,k⟩
 revert p
 cases f:look d i with
 |none=>exact λp=>p.elim
 |some w=>intro p;obtain⟨v,l,j⟩:=S.sh i w g f;exact⟨v,l,k _ _ H p (aE.refl H) (.of j)⟩
noncomputable def uL(K:Frag)(i:Nat)(π:List oE):TE:=λd H Q=>∃v u,d[i]?=some (some v)/\Aj K H v π u/\Q u H
theorem K2{i:Nat}{π:List oE}{m g:Md}{K:Frag}{A:Fz}{q H:Hp}{σ:St}{f:Ev}{w u:W}(S:SR K M A q σ H f)(k:(i,m)∈M)(j:lG m π=some g)(l:look f i=some w)(h:cH w π=some u):
 ∃v d F,σ[i]?=some (some v)/\Aj K H v π d/\Fp K A.B H g u d F:=by
 obtain⟨F,O⟩:=S.ow;obtain⟨v,o,n⟩:=O.val i m w k l;obtain⟨d,y,s,x,_,r,p,_⟩:=Fp.path π m n j h;exact⟨v,d,s,o,r,p⟩
theorem A5{d:Ev}{i:Nat}{π:List oE}{Q:W->Prop}(h:match look d i with|some w=>(match cH w π with|some u=>Q u|none=>False)|none=>False):∃w u,look d i=some w/\cH w π=some u/\Q u:=by
 cases g:look d i with
 |none=>rw[g]at h;exact h.elim
 |some w=>
  rw[g]at h;dsimp only at h;cases f:cH w π with
  |none=>rw[f]at h;exact h.elim
  |some u=>rw[f]at h;exact⟨w,u,rfl,f,h⟩
theorem T3{i:Nat}{π:List oE}{j:Md}(h:PE X e (uL X.K i π))(r:(i,j)∈M)(o:lG j π=some .f):VB X M R e (λg Q=>match look g i with|some w=>(match cH w π with|some u=>Q u|none=>False)|none=>False):=PE.imp h<|by rintro C H Q ⟨A,I,g,P,S,G,p,k⟩;obtain⟨w,u,B,z,q⟩:=A5 p;obtain⟨v,E,F,y,x,d⟩:=K2 S r o B z;rw[Fp]at d;obtain⟨D,n,l,rfl,rfl,_,d,s⟩:=d;exact⟨v,_,y,x,k _ _ H q (aE.refl H) ⟨n,l,rfl,.inl d,s⟩⟩
theorem T4{i:Nat}{π:List oE}{f:Md}(h:PE X e (uL X.K i π))(n:(i,f)∈M)(l:lG f π=some .s):VE X M R .s e (λd Q=>match look d i with|some w=>(match cH w π with|some u=>Q u|none=>False)|none=>False):=PE.imp h<|by rintro z H Q ⟨A,C,d,P,S,B,p,k⟩;obtain⟨w,u,y,x,q⟩:=A5 p;obtain⟨v,j,F,r,o,g⟩:=K2 S n l y x;rw[Fp]at g;exact⟨v,j,r,o,k _ _ H q (aE.refl H) (.of g.2)⟩
theorem HP{v:V}{w:W}(h:PE X e (tC v))(d:∀B H,Rep X.K B H w v):VE X M R .s e (λ_ Q=>Q w):=PE.imp h<|by rintro f H Q ⟨A,j,g,P,S,i,p,k⟩;exact k _ _ H p (aE.refl H) (.of (d _ _))
theorem K3{op:Operator}(U:VB X M R a ta)(T:VB X M R b tb)(O:∀x y,Om op x y=m\/m=.s):VE X M R m (.BinOp a op b pos) (λi Q=>ta i λx=>tb i λy=>jJ op x y Q):=by
 rintro j s g H Q I ⟨A,E,i,P,S,D,p,k⟩;refine wpAny_BinOp (bin U T I (R:=λn l f=>∃x y,jJ op x y P/\aE H f/\bK X.K (FB A M g) f x n/\bK X.K (FB A M g) f y l) ⟨A,E,i,_,S,D,p,λx n H1 B C J=>⟨A,E,i,_,S.same C,D,B,λy l f q o G=>⟨x,y,q,C.trans o,bK.same o J,G⟩⟩⟩ ?_);rintro v u o n l f Y rv L ⟨x,y,h,sm,B,q⟩;have d:=(S.same sm).dom;refine Dw op j o g f (FB A M g) x y n l v u P Q Y d rv L B q h ?_;have c:Cont X.K (FB A M g) f m P Q:=λw z Z N F r=>k w z Z N (sm.trans F) (r.back sm λ_ z=>z);rcases O x y with e|e
 ·rw[e];exact c
 ·subst e;exact Cont.s d c
end
theorem cV{x:W}{Q:Bool->Prop}(h:truth x Q):∃b,x=.bl b/\Q b:=by
 cases x with
 |bl b=>exact⟨b,rfl,h⟩
 |_=>exact h.elim
theorem Rep.uM{K:Frag}{B:Addr->Prop}{H:Hp}{b:Bool}{v:V}(h:Rep K B H (.bl b) v):v=.bl b:=by rw[Rep]at h;exact h
theorem Rep.int_inv{K:Frag}{B:Addr->Prop}{H:Hp}{b:Int}{v:V}(h:Rep K B H (.int b) v):v=.int b:=by rw[Rep]at h;exact h
theorem gi.cg{K:Frag}{B:Addr->Prop}{H H':Hp}{w:W}{v:V}(h:gi K B H H' .s w v):Rep K B H' w v:=by obtain⟨F,_,_,h⟩:=h;rw[Fp]at h;obtain⟨rfl,h⟩:=h;exact h.less λp z=>.inl z
section
variable{X:Cx}{M:Ms}{R:Addr->Prop}{e a b c:Expr}{t ta tb tc:WT}{m:Md}{pos:Pos}{rest es:List Expr}
noncomputable def T5:W->Bool
 |.lst _=>true
 |_=>false
theorem T6{op:Operator}{x y:W}{P:W->Prop}(h:jJ op x y P)(d:(op=.Add/\(T5 x=true\/T5 y=true))\/(op=.Mult/\T5 x=true)):Om op x y=.f:=by
 rcases d with⟨rfl,d⟩|⟨rfl,d⟩
 ·cases x with
  |lst l=>rfl
  |_=>
   rcases d with d|d
   ·cases d
   ·cases y<;>first|exact h.elim|exact ff d
 ·cases x<;>first|rfl|exact ff d
theorem Dz{op:Operator}{j i:RL}(ha:PE X a (tV X M R j ta))(hb:PE X b (tV X M R i tb))(h1:∀B H H' w v,Dom B H->j B H H' w v->bK X.K B H' w v)(h2:∀B H H' w v,Dom B H->i B H H' w v->bK X.K B H' w v)
 (ho:∀B H H' w v B2 g J L Y,j B H H' w v->i B2 g J L Y->(op=.Add/\(T5 w=true\/T5 L=true))\/(op=.Mult/\T5 w=true)):VE X M R .f (.BinOp a op b pos) (λl Q=>ta l λx=>tb l λy=>jJ op x y Q):=by
 rintro n s o H Q I ⟨A,U,l,P,S,T,p,k⟩;refine wpAny_BinOp (bin ha hb I (R:=λC q g=>∃x y,jJ op x y P/\aE H g/\bK X.K (FB A M o) g x C/\bK X.K (FB A M o) g y q/\Om op x y=.f) ⟨A,U,l,_,S,T,p,λx C H1 G F O=>⟨A,U,l,_,S.same F,T,G,λy q g E D N=>⟨x,y,E,F.trans D,bK.same D (h1 _ _ _ _ _ S.dom O),h2 _ _ _ _ _ (S.same F).dom N,T6 E (ho _ _ _ _ _ _ _ _ _ _ O N)⟩⟩⟩ ?_);rintro v u D C q g I2 rv ru ⟨x,y,h,sm,G,E,em⟩;have d:=(S.same sm).dom;refine Dw op n D o g (FB A M o) x y C q v u P Q I2 d rv ru G E h ?_;rw[em];exact λw z H' pw Z r=>k w z H' pw (sm.trans Z) (r.back sm λ_ z=>z)
theorem T7(j:VE X M R .s a ta):VE X M R .s (.UnaryOp .USub a pos) (λd Q=>ta d λx=>match x with|.int i=>Q (.int (-i))|_=>False):=PE.imp (Xw SI j)<|by
 rintro q H Q ⟨A,o,d,P,S,l,p,k⟩;refine⟨A,o,d,_,S,l,p,λx r n f g h=>?_⟩;cases x with
 |int i=>exact⟨i,h.cg.int_inv,k _ _ n f g (.of (jL _))⟩
 |_=>exact f.elim
theorem T8(i:VE X M R .s a ta):VE X M R .s (.UnaryOp .Not a pos) (λd Q=>ta d λx=>truth x λb=>Q (.bl (!b))):=PE.imp (Sk i)<|by rintro o H Q ⟨A,n,d,P,S,j,p,k⟩;refine⟨A,n,d,_,S,j,p,λx q l f g h=>?_⟩;obtain⟨b,rfl,f⟩:=cV f;exact⟨b,h.cg.uM,k _ _ l f g (.of (FL _))⟩
theorem T9{op:CmpOp}(N:X.A.units+64<cLine)(O:behindInMarks op b=false)(U:VB X M R a ta)(T:VB X M R b tb):VE X M R .s (.Compare a [op] [b] pos) (λf Q=>ta f λx=>tb f λy=>ie op x y Q):=by rintro g s i H Q I ⟨A,D,f,P,S,C,p,k⟩;refine wpAny_Compare1 (bin U T I (R:=λl j d=>∃x y,ie op x y P/\aE H d/\bK X.K (FB A M i) d x l/\bK X.K (FB A M i) d y j) ⟨A,D,f,_,S,C,p,λx l H1 q B G=>⟨A,D,f,_,S.same B,C,q,λy j d o n F=>⟨x,y,o,B.trans n,bK.same n G,F⟩⟩⟩ ?_) O;rintro v u n l j d Y rv J ⟨x,y,h,sm,q,o⟩;exact Dy N op g n i d (FB A M i) x y l j v u P Q Y (S.same sm).dom rv J q o h λw z Z L E r=>k w z Z L (sm.trans E) (r.back sm λ_ z=>z)
theorem Ua{op:CmpOp}(hu:X.A.units+64<cLine)(hm:behindInMarks op b=false)(ha:VB X M R a ta)(hb:VB X M R b tb):VT X M R (.Compare a [op] [b] pos) (λj Q=>ta j λx=>tb j λy=>ie op x y Q):=by
 rintro d s i H Q I ⟨A,G,j,P,S,F,p,k⟩;have q:=bin ha hb I (R:=λo n g=>∃x y,ie op x y P/\aE H g/\bK X.K (FB A M i) g x o/\bK X.K (FB A M i) g y n) ⟨A,G,j,_,S,F,p,λx o H1 D B N=>⟨A,G,j,_,S.same B,F,D,λy n g C l L=>⟨x,y,C,B.trans l,bK.same l N,L⟩⟩⟩
  (f:=compareOp op) (Q:=EP X d i λz E=>∃b,z=.bl b/\Q b E)<|by rintro v u l o n g I2 rv O ⟨x,y,h,sm,D,C⟩;refine Dy hu op d l i g (FB A M i) x y o n v u _ _ I2 (S.same sm).dom rv O D C h λw z E pw J r=>?_;obtain⟨b,rfl,q⟩:=k w E pw (sm.trans J);exact⟨b,r.cg.uM,q⟩
 refine wpAny_isTrue_Compare1 (cM q λv B Z=>cM Z λu l Y=>cM Y λc s3 ⟨z,H3,I3,T,b,ez,U⟩=>?_) hm;subst ez;cases T;exact gL ⟨H3,I3,U⟩
theorem Ub(u:VE X M R .s a ta)(r:VE X M R .s (.BoolOp .And (b::rest) pos) tb):VE X M R .s (.BoolOp .And (a::b::rest) pos) (λd Q=>ta d λx=>truth x λk=>if k=true then tb d Q else Q (.bl false)):=
 PE.imp (Sj u r)<|by
  rintro B H Q ⟨A,j,d,P,S,i,h,k⟩;refine⟨A,j,d,_,S,i,h,λx D w g f o=>?_⟩;obtain⟨q,rfl,g⟩:=cV g;refine⟨q,o.cg.uM,?_⟩;cases q with
  |true=>exact⟨A,j,d,_,S.same f,i,g,λy C v p l n=>k _ _ v p (f.trans l) (n.back f λ_ z=>z)⟩
  |false=>exact k _ _ w g f (.of (FL _))
theorem Yz(u:VE X M R .s a ta)(r:VE X M R .s (.BoolOp .Or (b::rest) pos) tb):VE X M R .s (.BoolOp .Or (a::b::rest) pos) (λd Q=>ta d λx=>truth x λk=>if k=true then Q (.bl true)else tb d Q):=
 PE.imp (Xj u r)<|by
  rintro B H Q ⟨A,j,d,P,S,i,h,k⟩;refine⟨A,j,d,_,S,i,h,λx D w g f o=>?_⟩;obtain⟨q,rfl,g⟩:=cV g;refine⟨q,o.cg.uM,?_⟩;cases q with
  |false=>exact⟨A,j,d,_,S.same f,i,g,λy C v p l n=>k _ _ v p (f.trans l) (n.back f λ_ z=>z)⟩
  |true=>exact k _ _ w g f (.of (FL _))
abbrev Rb(X:Cx)(M:Ms)(R:Addr->Prop)(e:Expr)(t:WT):Prop:=PW X e (tVT X M R t)
theorem Ot(d:VT X M R a ta):Rb X M R (.BoolOp .And [a] pos) ta:=M0 d
theorem Uc(d:VT X M R a ta):Rb X M R (.BoolOp .Or [a] pos) ta:=Se d
theorem Ud(p:VT X M R a ta)(o:Rb X M R (.BoolOp .And (b::rest) pos) tb):Rb X M R (.BoolOp .And (a::b::rest) pos) (λd Q=>ta d λx=>truth x λk=>if k=true then tb d Q else Q (.bl false)):=
 PW.imp (Sh p o)<|by
  rintro u H Q ⟨A,j,d,P,S,i,h,k⟩;refine⟨A,j,d,_,S,i,h,λx s f g=>?_⟩;obtain⟨q,rfl,f⟩:=cV f;refine⟨q,rfl,?_⟩;cases q with
  |true=>exact⟨A,j,d,P,S.same g,i,f,λy r n l=>k _ r n (g.trans l)⟩
  |false=>obtain⟨b,e,q⟩:=k _ s f g;cases e;exact q
theorem YA(p:VT X M R a ta)(o:Rb X M R (.BoolOp .Or (b::rest) pos) tb):Rb X M R (.BoolOp .Or (a::b::rest) pos) (λd Q=>ta d λx=>truth x λk=>if k=true then Q (.bl true)else tb d Q):=
 PW.imp (Xg p o)<|by
  rintro u H Q ⟨A,j,d,P,S,i,h,k⟩;refine⟨A,j,d,_,S,i,h,λx s f g=>?_⟩;obtain⟨q,rfl,f⟩:=cV f;refine⟨q,rfl,?_⟩;cases q with
  |false=>exact⟨A,j,d,P,S.same g,i,f,λy r n l=>k _ r n (g.trans l)⟩
  |true=>obtain⟨b,e,q⟩:=k _ s f g;cases e;exact q
theorem Ue(i:VT X M R a ta):VT X M R (.UnaryOp .Not a pos) (λd Q=>ta d λx=>truth x λb=>Q (.bl (!b))):=PT.imp (Si i)<|by rintro o H Q ⟨A,n,d,P,S,j,h,k⟩;refine⟨A,n,d,_,S,j,h,λx l f g=>?_⟩;obtain⟨q,rfl,f⟩:=cV f;obtain⟨b,e,z⟩:=k _ l f g;cases e;exact⟨q,rfl,z⟩
theorem zk(l:∀d,isTrue e X.env d=(do let v←d;standAt e.pos;holding [v] (truthy v)))(h:VE X M R .s e t):VT X M R e t:=PT.imp (Sd h l)<|by rintro q H Q ⟨A,p,f,P,S,n,h,k⟩;refine⟨A,p,f,P,S,n,h,λx r o j g i=>?_⟩;obtain⟨b,rfl,z⟩:=k _ o j g;exact⟨b,i.cg.uM,z⟩
theorem K4(s:VT X M R c tc)(v:VE X M R m a ta)(u:VE X M R m b tb):VE X M R m (.IfExp c a b pos) (λd Q=>tc d λx=>truth x λk=>if k=true then ta d Q else tb d Q):=PE.imp (Jm s v u)<|by
 rintro w H Q ⟨A,p,d,P,S,n,h,k⟩;refine⟨A,p,d,_,S,n,h,λx B g f=>?_⟩;obtain⟨q,rfl,g⟩:=cV g;refine⟨q,rfl,?_⟩;cases q with
 |true=>exact⟨A,p,d,_,S.same f,n,g,λy r o l i j=>k _ _ o l (f.trans i) (j.back f λ_ z=>z)⟩
 |false=>exact⟨A,p,d,_,S.same f,n,g,λy r o l i j=>k _ _ o l (f.trans i) (j.back f λ_ z=>z)⟩
theorem Ug:VA X M R [] (λ_ Q=>Q []):=PA.imp bf<|by rintro d H Q ⟨A,i,f,P,S,g,h,k⟩;exact k [] [] H h (aE.refl H) .nil
theorem Ou{i:Ev->(List W->Prop)->Prop}(u:starEach (a::es) X.env=(false,eval a X.env)::starEach es X.env)(w:VE X M R .s a ta)(v:VA X M R es i):VA X M R (a::es) (λd Q=>ta d λx=>i d λg=>Q (x::g)):=
 PA.imp (aq w v u)<|by rintro z H Q ⟨A,o,d,P,S,n,h,k⟩;refine⟨A,o,d,_,S,n,h,λx B D r l p=>⟨A,o,d,_,S.same l,n,r,λg C y f j q=>?_⟩⟩;exact k _ _ y f (l.trans j) (.cons (p.cg.same j) q)
theorem Ov:WQ X M R [] (λ_ Q=>Q []):=PA.imp bf<|by rintro d H Q ⟨A,i,f,P,S,g,h,k⟩;exact k [] [] H h (aE.refl H) rfl
theorem K5{i:Ev->(List W->Prop)->Prop}(v:starEach (a::es) X.env=(false,eval a X.env)::starEach es X.env)(y:VB X M R a ta)(w:WQ X M R es i):WQ X M R (a::es) (λd Q=>ta d λx=>i d λg=>Q (x::g)):=
 PA.imp (aq y w v)<|by rintro B H Q ⟨A,o,d,P,S,n,h,k⟩;refine⟨A,o,d,_,S,n,h,λx p C u l r=>⟨A,o,d,_,S.same l,n,u,λg q z f j s=>?_⟩⟩;exact k _ _ z f (l.trans j) ⟨p,q,rfl,bK.same j r,s⟩
theorem Uh{i:Ev->(List W->Prop)->Prop}(h:VA X M R es i):VE X M R .f (.List es pos) (λd Q=>i d λg=>g.length<=sizeLine/\Q (.lst g)):=PE.imp (ua h)<|by rintro s H Q ⟨A,r,d,P,S,q,h,k⟩;refine⟨A,r,d,_,S,q,h,λg u v n j l=>?_⟩;refine⟨by rw[ak.len l];exact n.1,λp o=>?_⟩;exact k _ _ _ n.2 (j.trans (aO o _)) (.fresh j o l)
theorem Ui{g:Ev->(List W->Prop)->Prop}{n:Nat}(h:VA X M R es g):VE X M R .s (.Tuple es n pos) (λd Q=>g d λf=>f.length<=sizeLine/\Q (.tup f)):=PE.imp (yt h)<|by rintro u H Q ⟨A,r,d,P,S,q,h,k⟩;refine⟨A,r,d,_,S,q,h,λf v w j o i=>?_⟩;refine⟨by rw[ak.len i];exact j.1,λp l=>?_⟩;exact k _ _ _ j.2 (o.trans (aO l _)) (.of (HL aD (ak.same (aO l _) i)))
theorem FP{K:Frag}{B:Addr->Prop}{H:Hp}{l:List W}{vs:List V}{i:Int}{w:W}(h:ak K B H l vs)(e:m9 l i=some w):∃v,m9 vs i=some v/\Rep K B H w v:=by
 unfold m9 at e⊢;rw[h.len];cases d:yv l.length i with
 |none=>rw[d]at e;exact nn e
 |some j=>rw[d]at e;exact h.get e
theorem bK.g9{K:Frag}{B:Addr->Prop}{H:Hp}{ns:List Int}{v:V}(h:bK K B H (.g9 ns) v):∃p,v=.ref p/\kI K H p (ns.map V.int):=by
 have h:Rep K B H (.g9 ns) v:=h;rw[Rep]at h;obtain⟨p,e,h⟩:=h;refine⟨p,e,?_⟩;rcases h with⟨o,h⟩|h
 ·exact .inl (.inr ⟨o,h⟩)
 ·rcases h with(h|⟨o,h⟩)|h
  ·cases h
  ·cases h
  ·exact .inr h
theorem FQ{ns:List Int}{i n:Int}(e:m9 ns i=some n):m9 (ns.map V.int) i=some (.int n):=by
 unfold m9 at e⊢;rw[AN];cases d:yv ns.length i with
 |none=>rw[d]at e;exact nn e
 |some j=>rw[d]at e;show(ns.map V.int)[j]?=_;have e:ns[j]?=some n:=e;rw[DD,e];rfl
theorem YB(I:oW b)(K:VB X M R a ta)(J:VE X M R .s b tb):VE X M R .s (.Subscript a b pos) (λf Q=>ta f λx=>tb f λy=>TN x y Q):=PE.imp (JC CW K J I)<|by
 rintro L H Q ⟨A,F,f,P,S,E,h,k⟩;refine⟨A,F,f,_,S,E,h,λx O U G q g=>⟨A,F,f,_,S.same q,E,G,λy N D d o u=>?_⟩⟩;have g:=bK.same o g;cases x with
 |lst l=>
  cases y with
  |int i=>obtain⟨p,r,rfl,j,B⟩:=g.lst;obtain⟨w,e,d⟩:=d;obtain⟨v,C,z⟩:=FP B e;exact .inl ⟨p,r,i,v,rfl,u.cg.int_inv,.inl j,C,k _ _ D d (q.trans o) (.of z)⟩
  |_=>exact d.elim
 |tup l=>
  cases y with
  |int i=>obtain⟨p,r,rfl,j,B⟩:=g.tup;obtain⟨w,e,d⟩:=d;obtain⟨v,C,z⟩:=FP B e;exact .inr (.inl ⟨p,r,i,v,rfl,u.cg.int_inv,j,C,k _ _ D d (q.trans o) (.of z)⟩)
  |_=>exact d.elim
 |g9 T=>
  cases y with
  |int i=>obtain⟨p,rfl,j⟩:=g.g9;obtain⟨n,e,d⟩:=d;exact .inl ⟨p,_,i,_,rfl,u.cg.int_inv,j,FQ e,k _ _ D d (q.trans o) (.of (jL _))⟩
  |_=>exact d.elim
 |_=>exact d.elim
theorem Rc{K:Frag}{B:Addr->Prop}{H:Hp}{l:List W}{vs:List V}(h:ak K B H l vs)(d f:Option Int):ak K B H (zc l d f) (G8 vs d f):=by unfold zc G8;rw[h.len];exact(h.drop _).take _
noncomputable def YC(X:Cx)(M:Ms)(R:Addr->Prop)(t:Ev->(Option Int->Prop)->Prop):TO:=λh H Q=>∃A f d P,SR X.K M A f h H d/\ER X f R/\t d P/\∀o g,P o->aE H g->Q o g
theorem PO.imp{e:Option Expr}{t t':TO}(h:PO X e t)(k:∀σ H Q,t' σ H Q->t σ H Q):PO X e t':=λd s σ H Q I w=>h d s σ H Q I (k σ H Q w)
theorem Ow:PO X none (YC X M R λ_ Q=>Q none):=PO.imp Nh<|by rintro d H Q ⟨A,i,f,P,S,g,h,k⟩;exact k none H h (aE.refl H)
theorem Ox(l:VE X M R .s a ta):PO X (some a) (YC X M R λd Q=>ta d λy=>match y with|.int i=>Q (some i)|_=>False):=PO.imp (Ni l)<|by
 rintro q H Q ⟨A,p,d,P,S,n,h,k⟩;refine⟨A,p,d,_,S,n,h,λx r o f g j=>?_⟩;cases x with
 |int i=>exact⟨i,j.cg.int_inv,k _ o f g⟩
 |_=>exact f.elim
theorem YD{z B:Option Expr}{p2:Pos}{tl y:Ev->(Option Int->Prop)->Prop}(F:VB X M R a ta)(s:PO X z (YC X M R tl))(o:PO X B (YC X M R y)):VE X M R .f (.Subscript a (.Slice z B none p2) pos) (λd Q=>ta d λx=>tl d λl=>y d λh=>Z2 x l h Q):=
 PE.imp (JB Nm F s o)<|by
  rintro I H Q ⟨A,w,d,P,S,v,h,k⟩;refine⟨A,w,d,_,S,v,h,λx K O E i r=>⟨A,w,d,_,S.same i,v,E,λl N s g=>⟨A,w,d,_,S.same (i.trans g),v,s,λh L o j=>?_⟩⟩⟩;have r:=bK.same (g.trans j) r;cases x with
  |lst J=>obtain⟨p,C,rfl,u,G⟩:=r.lst;refine⟨p,C,rfl,.inl u,λq n=>?_⟩;exact k _ _ _ o (((i.trans g).trans j).trans (aO n _)) (.fresh ((i.trans g).trans j) n (Rc G l h))
  |g9 D=>obtain⟨p,rfl,u⟩:=r.g9;refine⟨p,_,rfl,u,λq n=>?_⟩;exact k _ _ _ o (((i.trans g).trans j).trans (aO n _)) (.fresh ((i.trans g).trans j) n (Rc (ak.Od D) l h))
  |_=>exact o.elim
noncomputable def YE:BI->Md
 |.list=>.f
 |_=>.s
noncomputable def lI(X:Cx)(f:Value)(b:BI):Prop:=
 ∀(d:List (Addr×Obj))(s:Shared)(g:St)(H:Hp)(B:Addr->Prop)(h:List W)(i:List V)(j:List Value)(P:KP)(Q:VK),Inv X d g H s->Dom B H->Vals i j->rZ X.K B H h i->wm b h P->Cont X.K B H (YE b) P Q->
  wpAny (model X.prog X.w) X.A (call f j) (EP X d g Q) X.xe s
noncomputable def WR(K:Frag)(b:BI):List V->Hp->VK->Prop:=λf H Q=>∃(B:Addr->Prop)(d:List W)(P:KP),Dom B H/\rZ K B H d f/\wm b d P/\Cont K B H (YE b) P Q
theorem lI.r{f:Value}{b:BI}(h:lI X f b):e9 X f (WR X.K b):=by rintro g s i H l n Q I r ⟨B,j,P,d,p,o,k⟩;exact h g s i H B j l n P Q I d r p o k
theorem kL{K:Frag}{B:Addr->Prop}{H:Hp}{w:W}{vs:List V}(h:rZ K B H [w] vs):∃v,vs=[v]/\bK K B H w v:=by obtain⟨v,r,rfl,f,d⟩:=h;cases(show r=[]from d);exact⟨v,rfl,f⟩
theorem K6{K:Frag}{B:Addr->Prop}{H:Hp}{w w':W}{vs:List V}(h:rZ K B H [w,w'] vs):∃v d,vs=[v,d]/\bK K B H w v/\bK K B H w' d:=by obtain⟨v,r,rfl,i,g⟩:=h;obtain⟨d,rfl,f⟩:=kL g;exact⟨v,d,rfl,i,f⟩
theorem cw_len:lI X (.builtin "len") .len:=by
 intro f s k H B q u n P Q I d r o h c
 match q,h with
 |[.lst l],h=>obtain⟨v,rfl,g⟩:=kL o;obtain⟨p,i,rfl,g,j⟩:=g.lst;exact kh f s k H _ n Q I r ⟨p,i,rfl,.inl (.inl g),c.now (w:=.int i.length) (by rw[j.len];exact h) (jL _)⟩
 |[.tup l],h=>obtain⟨v,rfl,g⟩:=kL o;obtain⟨p,i,rfl,g,j⟩:=g.tup;exact kh f s k H _ n Q I r ⟨p,i,rfl,.inr g,c.now (w:=.int i.length) (by rw[j.len];exact h) (jL _)⟩
 |[.g9 ns],h=>obtain⟨v,rfl,g⟩:=kL o;obtain⟨p,rfl,j⟩:=g.g9;exact kh f s k H _ n Q I r ⟨p,_,rfl,.inl j,c.now (w:=.int ns.length) h (by rw[AN];exact jL _)⟩
theorem cw_abs:lI X (.builtin "abs") .abs:=by
 intro f s g H B j o k P Q I d r l h c
 match j,h with
 |[.int i],h=>obtain⟨v,rfl,n⟩:=kL l;cases n.int;exact Ju f s g H _ k Q I r ⟨i,rfl,c.now h (jL _)⟩
theorem cw_max(n:X.calm=true):lI X (.builtin "max") .max2:=by
 intro f s g H B k u l P Q I d r o h c
 match k,h with
 |[.int i,.int j],h=>obtain⟨v,w,rfl,q,p⟩:=K6 o;cases q.int;cases p.int;exact GW n f s g H _ l Q I r ⟨i,j,rfl,c.now h (jL _)⟩
theorem cw_min(n:X.calm=true):lI X (.builtin "min") .min2:=by
 intro f s g H B k u l P Q I d r o h c
 match k,h with
 |[.int i,.int j],h=>obtain⟨v,w,rfl,q,p⟩:=K6 o;cases q.int;cases p.int;exact GX n f s g H _ l Q I r ⟨i,j,rfl,c.now h (jL _)⟩
theorem cw_sum(o:X.calm=true):lI X (.builtin "sum") .sum:=by
 intro f s i H B j x k P Q I d r q h c
 match j,h with
 |[.lst l],h=>obtain⟨n,rfl,h⟩:=h;obtain⟨v,rfl,g⟩:=kL q;obtain⟨p,w,rfl,g,u⟩:=g.lst;have e:=ak.ints u;subst e;exact Ho o f s i H _ k Q I r ⟨p,n,rfl,.inl g,c.now h (jL _)⟩
theorem cw_all(n:X.calm=true):lI X (.builtin "all") .all:=by
 intro f s i H B j x k P Q I d r o h c
 match j,h with
 |[.lst l],h=>obtain⟨u,rfl,h⟩:=h;obtain⟨v,rfl,g⟩:=kL o;obtain⟨p,w,rfl,g,q⟩:=g.lst;have e:=ak.bls q;subst e;exact Hq n f s i H _ k Q I r ⟨p,u,rfl,.inl g,c.now h (FL _)⟩
theorem cw_list:lI X (.type "list") .list:=by
 intro f s n H B w x o P Q I d r u h c
 match w,h with
 |[.lst l],h=>obtain⟨v,rfl,g⟩:=kL u;obtain⟨p,j,rfl,g,k⟩:=g.lst;exact oX f s n H _ o Q I r ⟨p,j,rfl,.inl (.inl g),λq i=>c _ _ _ h (aO i _) (.fresh (aE.refl H) i k)⟩
 |[.tup l],h=>obtain⟨v,rfl,g⟩:=kL u;obtain⟨p,j,rfl,g,k⟩:=g.tup;exact oX f s n H _ o Q I r ⟨p,j,rfl,.inr g,λq i=>c _ _ _ h (aO i _) (.fresh (aE.refl H) i k)⟩
theorem cw_int:lI X (.type "int") .int:=by
 intro f s g H B j o k P Q I d r l h c
 match j,h with
 |[.bl i],h=>obtain⟨v,rfl,n⟩:=kL l;cases n.bl;exact GY f s g H _ k Q I r (.inr ⟨i,rfl,c.now h (jL _)⟩)
theorem cw_tuple:lI X (.type "tuple") .tuple:=by
 intro f s k H B x y n P Q I d r u h c
 match x,h with
 |[.lst l],h=>obtain⟨v,rfl,g⟩:=kL u;obtain⟨p,i,rfl,g,j⟩:=g.lst;exact nc f s k H _ n Q I r ⟨p,i,rfl,.inl ⟨.inl g,λq o=>c _ _ _ h (aO o _) (.of (HL aD (ak.same (aO o _) j)))⟩⟩
 |[.tup l],h=>obtain⟨v,rfl,g⟩:=kL u;obtain⟨p,i,rfl,w,j⟩:=g.Ys;have g:mK X.K H p i:=mK.of w;exact nc f s k H _ n Q I r ⟨p,i,rfl,.inr ⟨g,c.now h (HL w j)⟩⟩
noncomputable def A6(K:Frag):Prop:=∀a∈["NoneType","bool","int","str","list","tuple"],∀b∈["int","bool","tuple","list","str","dict"],kitOne K (.type a) (.type b)=some (HK a b)
theorem cw_isi(N:A6 X.K):e9 X (.builtin "isinstance") (λvs H Q=>∃(B:Addr->Prop)(w:W)(n:String)(P:KP),n∈["int","bool","tuple","list","str","dict"]/\rZ X.K B H [w,.ty n] vs/\wm .Cy [w,.ty n] P/\Cont X.K B H .s P Q):=by
 rintro q s A H vs Z Q I r ⟨B,w,n,P,L,O,h,c⟩;obtain⟨v,Y,rfl,k,S⟩:=K6 O;cases S.ty;obtain⟨a,i,h⟩:=h;have x:Q (.bl (HK a n)) H:=c.now h (FL _);obtain⟨E,D,rfl,d,F⟩:=vals2 r;cases(show D=Value.type n from F);have g:∀u,u∈["NoneType","bool","int","str","list","tuple"]->a=u->kitOne X.K (.type u) (.type n)=some (HK a n):=λu m e=>by rw[e];exact N u m n L
 have j:∀y:Tok,EP X q A Q (.bool (HK a n)) {s with toks:=y}:=λy=>⟨.bl _,H,I.tok _,rfl,x⟩;cases w with
 |bC=>
  cases k.bC;cases i;exact iB I d .bC (g _ (by simp) rfl) j
 |bl b=>
  cases k.bl;cases i;exact iB I d (.bl b) (g _ (by simp) rfl) j
 |int b=>
  cases k.int;cases i;exact iB I d (.int b) (g _ (by simp) rfl) j
 |str b=>
  cases k.str;cases i;exact iB I d (.str b) (g _ (by simp) rfl) j
 |lst l=>
  obtain⟨p,C,rfl,f,G⟩:=k.lst;cases i;rcases f with f|⟨o,f⟩
  ·exact iB I d (.lst f) (g _ (by simp) rfl) j
  ·exact iB I d (.An f) (g _ (by simp) rfl) j
 |tup l=>obtain⟨p,C,rfl,f,G⟩:=k.tup;cases i;cases(show E=Value.ref p from d);obtain⟨J,r',⟨o,U,T,_⟩,_⟩:=I.tuple f;exact SF PySem.W.kitx_tuple I.oR ⟨o,U,T⟩ (g _ (by simp) rfl) (λz=>nomatch z) j
 |_=>exact nn i
end
noncomputable def Rf(K:Frag)(n:Nat)(m:Md)(sp:cA):Sp:=λc H Q E=>∃A a P R,a.length=n/\ak K A H a c/\Dom A H/\sp a P R/\Cont K A H m P Q/\∀C b,R C->aE H b->E (.ref C) none b
noncomputable def YF(K:Frag)(n:Nat)(h:Md)(sp:cA):Sp:=λi H Q E=>∃(b:Addr->Prop)(F:List Addr)(g:W)(f:V)(e:List W)(c:List V)(P:W->Prop)(R:Addr->Prop),i=f::c/\e.length+1=n/\F.Nodup/\(∀p∈F,¬b p)/\Dom b H/\Fp K (λp=>b p\/p∈F) H h g f F/\ak K (λp=>b p\/p∈F) H e c/\sp (g::e) P R/\
 (∀w y v d a,P (.tup [w,y])->Ai (·∈F) H a->d.Nodup->(∀p∈d,p∈F\/H p=none)->Fp K (λp=>b p\/p∈d) a h y f d->Rep K (λp=>b p\/p∈d) a w v->Q v a)/\(∀C a,R C->Ai (·∈F) H a->E (.ref C) none a)
noncomputable def fz(K:Frag)(n:Nat)(m:Md)(sp:cA):Sp:=
 match m with
 |.io a=>YF K n a sp
 |m=>Rf K n m sp
inductive gf(P:Program)(w:World)(K:Frag)(mg:Str->Option Value)(base:Heap):Nat->Value->Nat->Sp->Prop where
 |fn {k:Nat} {f:Addr} {fd:FuncData} {ps:List Str} {sp:Sp} (kp:keepIn K (.ref f)=true) (b:Binds K fd ps []) (F:aN P w K mg base (dD P w) k f fd ps sp):gf P w K mg base k (.ref f) ps.length sp
 |mk {k n:Nat} {C f:Addr} {fd:FuncData} {ps:List Str} {sp spi:Sp} (M:Mk K C f) (b:Binds K fd ps []) (F:aN P w K mg base (dD P w) k f fd ps spi)
  (h:∀vs H Q E,sp vs H Q E->∀x dx,H x=none->H dx=none->dx≠x->spi (.ref x::vs) (upd (upd H dx (.own x)) x (.ins C dx [])) (λv H2=>v=.bC/\Q (.ref x) H2) E):gf P w K mg base (k+1) (.ref C) n sp
theorem gf.keep{P:Program}{w:World}{K:Frag}{b:Str->Option Value}{base:Heap}{k n:Nat}{a:Value}{sp:Sp}(c:gf P w K b base k a n sp):keepIn K a=true:=by
 cases c with
 |fn kp _ _=>exact kp
 |mk M _ _ _=>exact M.kp
theorem gf.run{X:Cx}{k n:Nat}{f:Value}{sp:Sp}{a:List (Addr×Obj)}{σ:St}{H:Hp}{s:Shared}{Q:VK}{E:XK}{us:List Value}{vs:List V}(c:gf X.prog X.w X.K X.mg X.base k f n sp)(e:fy k X.A)(d:Passes (dD X.prog X.w) X E)(I:Inv X a σ H s)(r:Vals vs us)(h:sp vs H Q E):
 wpAny (model X.prog X.w) X.A (call f us) (EP X a σ Q) X.xe s:=by
 cases c with
 |fn o b F=>exact CU (ds:=[]) (Jy:=[]) F e b .nil d I r (by rw[Kx];exact h)
 |mk M b F l=>exact Jz (ds:=[]) (Jy:=[]) M F e b .nil d I r (λx m j i g=>by rw[Kx];exact l vs H Q E h x m j i g)
section
variable{X:Cx}{M:Ms}{R:Addr->Prop}{e a b c:Expr}{t ta tb tc:WT}{m:Md}{pos p:Pos}{es:List Expr}{x:Str}
theorem FT{D:Ev->(List W->Prop)->Prop}{k n:Nat}{N:Value}{sp:cA}(F:gf X.prog X.w X.K X.mg X.base k N n (Rf X.K n m sp))(hr:fy k X.A)(hg:Gl X x)(hm:X.mg x=some N)
 (hn:∀d P R,sp d P R->d.length=n)(ha:VA X M R (e::es) D)(y:(x==("__debug__":Str))=false)(he:starEach (e::es) X.env=(false,eval e X.env)::starEach es X.env)(u:(backTo pos (starEach es X.env)).any (·.1)=false):
 VE X M R m (.Call (.Name x p) (e::es) [] pos) (λj Q=>D j λd=>sp d Q R):=by
 rintro f s i H Q I ⟨A,H0,j,P,S,er,h,kk⟩;obtain⟨E,J,L,hR⟩:=er;refine kA (mJ I hg hm ?_ y);refine tI (h₀:=X.base) I.ok.mod.Sa F.keep (cM (ha pos f s i H (λl g=>∃d,aE H g/\ak X.K (FB A M i) g d l/\sp d P R) I ⟨A,H0,j,_,S,⟨E,J,L,hR⟩,h,λd l g hw G q=>⟨d,G,q,hw⟩⟩) λus G ⟨l,g,O,r,d,sm,q,T⟩=>⟨O.oR,?_⟩) he u;exact F.run hr J O r ⟨FB A M i,d,P,R,hn _ _ _ T,q,(S.same sm).dom,T,λw v B Z o Y=>kk w v B Z (sm.trans o) (Y.back sm λ_ z=>z),λC B U o=>L C B U (S.sm.trans (sm.trans o))⟩
theorem Uj{n:Ev->(List W->Prop)->Prop}{l:BI}{o:String}(I:e9 X (.builtin o) (WR X.K l))(F:Gl X x)(E:X.mg x=none)(C:bootBuiltins x=some (.builtin o))(J:WQ X M R (e::es) n)(D:x≠"__name__")(j:(x==("__debug__":Str))=false)
 (G:starEach (e::es) X.env=(false,eval e X.env)::starEach es X.env)(i:(backTo pos (starEach es X.env)).any (·.1)=false):VE X M R (YE l) (.Call (.Name x p) (e::es) [] pos) (λd Q=>n d λf=>wm l f Q):=
 PE.imp (cO I F E C J D j G i)<|by rintro q H Q ⟨A,N,d,P,S,L,h,k⟩;exact⟨A,N,d,_,S,L,h,λf T U B g u=>⟨FB A M q,f,P,(S.same g).dom,u,B,λw v O y s r=>k w v O y (g.trans s) (r.back g λ_ z=>z)⟩⟩
theorem Uk{n:Ev->(List W->Prop)->Prop}{l:BI}{o:String}(I:e9 X (.type o) (WR X.K l))(F:Gl X x)(E:X.mg x=none)(C:bootBuiltins x=some (.type o))(J:WQ X M R (e::es) n)(D:x≠"__name__")(j:(x==("__debug__":Str))=false)
 (G:starEach (e::es) X.env=(false,eval e X.env)::starEach es X.env)(i:(backTo pos (starEach es X.env)).any (·.1)=false):VE X M R (YE l) (.Call (.Name x p) (e::es) [] pos) (λd Q=>n d λf=>wm l f Q):=
 PE.imp (G7 I F E C J D j G i)<|by rintro q H Q ⟨A,N,d,P,S,L,h,k⟩;exact⟨A,N,d,_,S,L,h,λf T U B g u=>⟨FB A M q,f,P,(S.same g).dom,u,B,λw v O y s r=>k w v O y (g.trans s) (r.back g λ_ z=>z)⟩⟩
theorem Ul{n:String}(Y:A6 X.K)(j:n∈["int","bool","tuple","list","str","dict"])(Z:Gl X x)(U:X.mg x=none)(O:bootBuiltins x=some (.builtin "isinstance"))(ha:VB X M R a ta)(hb:VB X M R b (λ_ Q=>Q (.ty n)))(T:x≠"__name__")(o:(x==("__debug__":Str))=false)
 (y:starEach [a,b] X.env=(false,eval a X.env)::starEach [b] X.env)(l:starEach [b] X.env=(false,eval b X.env)::starEach [] X.env)(i:(backTo pos (starEach [b] X.env)).any (·.1)=false):
 VE X M R .s (.Call (.Name x p) [a,b] [] pos) (λd Q=>ta d λw=>wm .Cy [w,.ty n] Q):=
 PE.imp (cO (cw_isi Y) Z U O (aq ha (aq hb bf l) y) T o y i)<|by rintro D H Q ⟨A,C,d,P,S,B,h,k⟩;refine⟨A,C,d,_,S,B,h,λw v H1 N g J=>⟨A,C,d,λq=>q=.ty n,S.same g,B,rfl,λq u H2 Ak f I=>?_⟩⟩;subst Ak;exact⟨FB A M D,w,n,P,j,⟨v,[u],rfl,bK.same f J,u,[],rfl,I,rfl⟩,N,λE F H' L G r=>k E F H' L ((g.trans f).trans G) (r.back (g.trans f) λ_ z=>z)⟩
theorem Oz{d f:Pos}(r:VE X M R .s a ta)(j:attributeBase a "bit_length" X.env (eval a X.env)=eval a X.env)(g:(f.endLine==d.line)=true):
 VE X M R .s (.Call (.Attribute a "bit_length" f) [] [] d) (λl Q=>ta l λx=>match x with|.int i=>Q (.int (Builtin.Int.intBits i:Nat))|_=>False):=
 PE.imp (JF PySem.F.plainAttrs_int PySem.F.slot_int_bit_length PySem.F.type_int_bit_length NC r j g)<|by
  rintro B H Q ⟨A,z,l,P,S,u,h,k⟩;refine⟨A,z,l,_,S,u,h,λw v y n o q=>?_⟩;cases w with
  |int i=>have e:=q.cg.int_inv;subst e;exact⟨rfl,i,rfl,rfl,k _ _ y n o (.of (jL _))⟩
  |_=>exact n.elim
end
inductive HQ(K:Frag)(br:Bool)(B:Addr->Prop)(H:Hp):It->List W->Prop where
 |lst {a:Addr} {vs:List V} {ws:List W} (h:Rd H a (.lst vs)) (n:br=false->¬B a) (r:ak K B H ws vs):HQ K br B H (Itl K a) ws
 |tup {a:Addr} {vs:List V} {ws:List W} (h:mK K H a vs) (r:ak K B H ws vs):HQ K br B H (Itt K a) ws
 |oO (lo:Int) (n:Nat):HQ K br B H (Xr lo n) (jK lo 1 n)
 |OA (lo st:Int) (n:Nat):HQ K br B H (ZX lo st n) (jK lo st n)
 |y9 {a:Addr} {vs:List V} {ws:List W} (h:Rd H a (.lst vs)) (n:br=false->¬B a) (r:ak K B H ws vs):HQ K br B H (Ite K a) (kK ws)
 |rev {a:Addr} {vs:List V} {ws:List W} (h:Rd H a (.lst vs)) (n:br=false->¬B a) (r:ak K B H ws vs):HQ K br B H (Itv K a vs.length) ws.reverse
structure IW(K:Frag)(B:Addr->Prop)(Hs:Hp)(J:It)(ws:List W):Prop where
 go:∀i H,aE Hs H->i<ws.length->J.go i H
 yl:∀i H x H' w,aE Hs H->ws[i]?=some w->J.Xq i H x H'->aE H H'/\∀B':Addr->Prop,(∀p o,Hs p=some o->B' p->B p)->Rep K B' H' w x
 st:∀i H,aE Hs H->i=ws.length->J.stop i H
theorem pL(a st:Int)(n:Nat):(jK a st n).length=n:=by unfold jK;simp
theorem A7{b st:Int}{n i:Nat}{w:W}(h:(jK b st n)[i]?=some w):w=.int (b+i*st)/\i<n:=by
 unfold jK at h;rw[DD]at h;by_cases a:i<n
 ·rw[Y2 a]at h;cases h;exact⟨rfl,a⟩
 ·rw[FK (by simpa using a)]at h;cases h
theorem xE(l:List W):(kK l).length=l.length:=by unfold kK;simp
theorem qW{l:List W}{i:Nat}{w:W}(h:(kK l)[i]?=some w):∃x,l[i]?=some x/\w=.tup [.int i,x]:=by
 unfold kK at h;rw[List.getElem?_zipWith]at h;by_cases a:i<l.length
 ·rw[Y2 a,B1 a]at h;cases h;exact⟨_,B1 a,rfl⟩
 ·rw[FK (by simpa using a)]at h;cases h
theorem HQ.iw{K:Frag}{br:Bool}{B:Addr->Prop}{k:Hp}{J:It}{l:List W}(h:HQ K br B k J l):IW K B k J l:=by
 cases h with
 |@lst a c _ h n r=>
  have q:∀H,aE k H->kI K H a c:=λH s=>.inl (VL.aE.rd s h);refine⟨λi H s b=>?_,λi H x m w s d y=>?_,λi H s b=>⟨c,q H s,by rw[r.len,b];exact Do _⟩⟩
  ·have f:i<c.length:=by rw[r.len];exact b
   exact⟨c,c[i],q H s,B1 f⟩
  ·obtain⟨rfl,y⟩:=y;obtain⟨v,e,g⟩:=r.get d;have:=y c (q _ s);rw[e]at this;cases this;exact⟨aE.refl _,λo j=>Rep.mv s j w g⟩
 |@tup a c _ h r=>
  have q:∀H,aE k H->mK K H a c:=λH s=>L2.aE.tup s h;refine⟨λi H s b=>?_,λi H x m w s d y=>?_,λi H s b=>⟨c,q H s,by rw[r.len,b];exact Do _⟩⟩
  ·have f:i<c.length:=by rw[r.len];exact b
   exact⟨c,c[i],q H s,B1 f⟩
  ·obtain⟨rfl,y⟩:=y;obtain⟨v,e,g⟩:=r.get d;have:=y c (q _ s);rw[e]at this;cases this;exact⟨aE.refl _,λo j=>Rep.mv s j w g⟩
 |oO D n=>refine⟨λi H s b=>by rw[pL]at b;exact b,λi H x m w s d y=>?_,λi H s b=>by rw[pL]at b;exact hV b.symm⟩;obtain⟨rfl,rfl⟩:=y;obtain⟨rfl,_⟩:=A7 d;exact⟨aE.refl _,λo _=>by rw[dq];exact jL _⟩
 |OA D G n=>refine⟨λi H s b=>by rw[pL]at b;exact b,λi H x m w s d y=>?_,λi H s b=>by rw[pL]at b;exact hV b.symm⟩;obtain⟨rfl,rfl⟩:=y;obtain⟨rfl,_⟩:=A7 d;exact⟨aE.refl _,λo _=>jL _⟩
 |@y9 a c l h n r=>
  have q:∀H,aE k H->kI K H a c:=λH s=>.inl (VL.aE.rd s h);refine⟨λi H s b=>?_,λi H x m w s d y=>?_,λi H s b=>⟨c,q H s,by rw[r.len,b,xE]⟩⟩
  ·rw[xE]at b;have f:i<c.length:=by rw[r.len];exact b
   exact⟨c,c[i],q H s,B1 f⟩
  ·obtain⟨p,y,F,rfl,rfl,E⟩:=y;obtain⟨C,t,rfl⟩:=qW d;obtain⟨v,e,g⟩:=r.get t;have A:=E c (q _ s);rw[e]at A;obtain rfl:v=y:=IR A;have z:=aO (H:=H) F (.tup [.int i,v]);exact⟨z,λo j=>HL aD (.cons (jL _) (.cons (Rep.mv (s.trans z) j C g) .nil))⟩
 |@rev a c l h n r=>
  have q:∀H,aE k H->kI K H a c:=λH s=>.inl (VL.aE.rd s h);have u:=r.len;refine⟨λi H s b=>?_,λi H x m w s d y=>?_,λi H s b=>?_⟩
  ·rw[lh]at b;exact⟨c,q H s,rfl,by rw[u];exact b⟩
  ·obtain⟨rfl,y⟩:=y;have b:i<l.length:=by have:=(Fs.mp d).1;rwa [lh]at this
   rw[List.getElem?_reverse b]at d;obtain⟨v,e,g⟩:=r.get d;have:=y c (q _ s) rfl;rw[u,e]at this;cases this;exact⟨aE.refl _,λo j=>Rep.mv s j w g⟩
  ·rw[lh]at b;show i=c.length;rw[u,b]
noncomputable def itemsOf:W->Option (List W)
 |.lst l=>some l
 |.tup l=>some l
 |_=>none
theorem xF{z:W}{Q:List W->Prop}:items z Q↔∃a,itemsOf z=some a/\Q a:=by
 cases z<;>simp[items,itemsOf]
noncomputable def K7(X:Cx)(M:Ms)(R:Addr->Prop)(br:Bool)(t:WT):TI:=λb H Q=>∃A e c P,SR X.K M A e b H c/\ER X e R/\t c P/\∀z,P z->∃d,itemsOf z=some d/\∀J a,aE H a->HQ X.K br (FB A M b) a J d->Q J a
theorem PI.imp{X:Cx}{tg e:Expr}{t t':TI}(h:PI X tg e t)(k:∀σ H Q,t' σ H Q->t σ H Q):PI X tg e t':=λa s σ H Q I w=>h a s σ H Q I (k σ H Q w)
section
variable{X:Cx}{M:Ms}{R:Addr->Prop}{e a b c tg:Expr}{t ta tb tc:WT}{m:Md}{pos p:Pos}{es:List Expr}{x:Str}{br:Bool}
theorem Um{l:Expr}{tl:TE}(w:PE X l tl):PI X tg l (λσ H Q=>tl σ H λx H1=>∃a,x=.ref a/\(((∃g,kI X.K H1 a g)/\Q (Itl X.K a) H1)\/((∃g,mK X.K H1 a g)/\Q (Itt X.K a) H1))):=by
 intro i s σ H Q I h;refine cM (w i s σ H _ I h) ?_;rintro v d ⟨x,H1,f,r,u⟩;obtain⟨a,e,q⟩:=u;subst e;cases r;rcases q with⟨⟨g,k⟩,q⟩|⟨⟨g,k⟩,q⟩
 ·obtain⟨j,rv,p,hz⟩:=f.list k;refine wpAny_pyIter_list p.isList ?_;refine⟨d.heap.objs.size,[d.heap.objs.size],_,_,H1,rfl,f.kept (t':=d.toks) λb o e=>DL _ e,GQ a _,⟨_,Hb _ rfl,rfl,rfl⟩,λb n=>?_,q⟩;have e:b=d.heap.objs.size:=by simpa using n
  subst e;exact f.Ao (Do _) (f.hok.fresh (Do _))
 ·obtain⟨j,rv,p,hz⟩:=f.tuple k;refine wpAny_pyIter_tuple (show d.heap.IsTuple a j.toArray from p) ?_;refine⟨d.heap.objs.size,[d.heap.objs.size],_,_,H1,rfl,f.kept (t':=d.toks) λb o e=>DL _ e,CF a _,⟨_,Hb _ rfl,rfl,rfl⟩,λb n=>?_,q⟩;have e:b=d.heap.objs.size:=by simpa using n
  subst e;exact f.Ao (Do _) (f.hok.fresh (Do _))
noncomputable def Uo(K:Frag)(br:Bool):RL:=λB _ d w v=>bK K B d w v/\(br=false->Rep K B d w v)
theorem lJ(h:VE X M R m e t):PE X e (tV X M R (Uo X.K br) t):=PE.imp h<|by rintro l H Q ⟨A,i,d,P,S,g,p,k⟩;exact⟨A,i,d,P,S,g,p,λw v j f s r=>k w v j f s ⟨(r.rep S.dom).b,λ_=>r.rep S.dom⟩⟩
theorem YG(h:VB X M R e t):PE X e (tV X M R (Uo X.K true) t):=PE.imp h<|by rintro l H Q ⟨A,i,d,P,S,g,p,k⟩;exact⟨A,i,d,P,S,g,p,λw v j f s r=>k w v j f s ⟨r,λz=>by cases z⟩⟩
theorem Uo.lst{K:Frag}{B:Addr->Prop}{H H':Hp}{l:List W}{v:V}(h:Uo K br B H H' (.lst l) v):∃p vs,v=.ref p/\Rd H' p (.lst vs)/\(br=false->¬B p)/\ak K B H' l vs:=by obtain⟨p,vs,rfl,f,d⟩:=h.1.lst;refine⟨p,vs,rfl,f,λe=>?_,d⟩;have:=h.2 e;rw[Rep]at this;obtain⟨i,_,g,n,_⟩:=this;cases g;exact n
theorem iI(r:PE X a (tV X M R (Uo X.K br) ta)):PI X tg a (K7 X M R br ta):=PI.imp (Um r)<|by
 rintro y H Q ⟨A,w,q,P,S,u,h,k⟩;refine⟨A,w,q,P,S,u,h,λz v o hz j n=>?_⟩;obtain⟨B,g,k⟩:=k z hz;cases z with
 |lst l=>
  cases g;obtain⟨p,f,rfl,d,i,s⟩:=n.lst;exact⟨p,rfl,.inl ⟨⟨f,.inl d⟩,k _ o j (.lst d i s)⟩⟩
 |tup l=>
  cases g;obtain⟨p,f,rfl,d,i⟩:=n.1.tup;exact⟨p,rfl,.inr ⟨⟨f,d⟩,k _ o j (.tup d i)⟩⟩
 |_=>exact nn g
theorem Up{d:List Expr}{r:Nat}{n:Pos}(w:Gl X "enumerate")(s:X.mg "enumerate"=none)(y:PE X a (tV X M R (Uo X.K br) ta))(g:starEach [a] X.env=(false,eval a X.env)::starEach [] X.env):
 PI X (.Tuple d r n) (.Call (.Name "enumerate" p) [a] [] pos) (K7 X M R br (λf Q=>ta f λx=>match x with|.lst l=>Q (.lst (kK l))|_=>False)):=
 PI.imp (ND w s (aq y bf g) rfl g)<|by
  rintro G H Q ⟨A,F,f,P,S,D,h,k⟩;refine⟨A,F,f,_,S,D,h,λz v E hz o q=>?_⟩;cases z with
  |lst l=>obtain⟨I,u,k⟩:=k _ hz;cases u;obtain⟨p,j,rfl,i,C,B⟩:=q.lst;exact⟨p,rfl,⟨j,.inl i⟩,k _ E o (.y9 i C B)⟩
  |_=>exact hz.elim
theorem Uq(r:Gl X "reversed")(o:X.mg "reversed"=none)(s:PE X a (tV X M R (Uo X.K br) ta))(f:starEach [a] X.env=(false,eval a X.env)::starEach [] X.env):
 PI X tg (.Call (.Name "reversed" p) [a] [] pos) (K7 X M R br (λd Q=>ta d λx=>match x with|.lst l=>Q (.lst l.reverse)|_=>False)):=
 PI.imp (To r o (aq s bf f) rfl f)<|by
  rintro D H Q ⟨A,C,d,P,S,y,h,k⟩;refine⟨A,C,d,_,S,y,h,λz v B hz j n=>?_⟩;cases z with
  |lst l=>obtain⟨E,q,k⟩:=k _ hz;cases q;obtain⟨p,i,rfl,g,w,u⟩:=n.lst;exact⟨p,i,rfl,.inl g,k _ B j (.rev g w u)⟩
  |_=>exact hz.elim
theorem OB{p2 d:Pos}(B:X.calm=true)(y:Gl X "list")(w:X.mg "list"=none)(j:Gl X "reversed")(i:X.mg "reversed"=none)(C:VB X M R a ta)(o:starEach [a] X.env=(false,eval a X.env)::starEach [] X.env):
 VE X M R .f (.Call (.Name "list" p) [.Call (.Name "reversed" p2) [a] [] d] [] pos) (λg Q=>ta g λx=>match x with|.lst l=>Q (.lst l.reverse)|_=>False):=
 PE.imp (NH B y w j i (aq C bf o) o)<|by
  rintro I H Q ⟨A,G,g,P,S,F,h,k⟩;refine⟨A,G,g,_,S,F,h,λz v J hz n u=>?_⟩;cases z with
  |lst l=>obtain⟨p,s,rfl,E,D⟩:=bK.lst u;exact⟨p,s,rfl,.inl E,λq r=>k _ _ _ hz (n.trans (aO r _)) (.fresh n r D.rev)⟩
  |_=>exact hz.elim
theorem OC(u:Gl X "range")(q:X.mg "range"=none)(v:VE X M R .s a ta)(f:starEach [a] X.env=(false,eval a X.env)::starEach [] X.env):
 PI X tg (.Call (.Name "range" p) [a] [] pos) (K7 X M R br (λd Q=>ta d λx=>K0 [x] λl=>Q (.lst l))):=
 PI.imp (GR u q (aq v bf f) f)<|by
  rintro B H Q ⟨A,z,d,P,S,w,h,k⟩;refine⟨A,z,d,_,S,w,h,λx C y hz g i=>?_⟩;cases x with
  |int j=>obtain⟨o,n,hz⟩:=hz;obtain⟨D,r,k⟩:=k _ hz;cases r;cases i.cg.int_inv;exact⟨j,rfl,o,n,k _ y g (.oO 0 j.toNat)⟩
  |_=>exact hz.elim
theorem OD(C:Gl X "range")(z:X.mg "range"=none)(E:VE X M R .s a ta)(D:VE X M R .s b tb)(n:starEach [a,b] X.env=(false,eval a X.env)::starEach [b] X.env)(d:starEach [b] X.env=(false,eval b X.env)::starEach [] X.env):
 PI X tg (.Call (.Name "range" p) [a,b] [] pos) (K7 X M R br (λf Q=>ta f λx=>tb f λy=>K0 [x,y] λl=>Q (.lst l))):=
 PI.imp (GS C z (aq E (aq D bf d) n) (by rw[n,d];rfl) d)<|by
  rintro G H Q ⟨A,q,f,P,S,o,h,k⟩;refine⟨A,q,f,_,S,o,h,λx J L hz g v=>⟨A,q,f,_,S.same g,o,hz,λy I F hz r u=>?_⟩⟩;cases x with
  |int i=>
   cases y with
   |int j=>obtain⟨w,hz⟩:=hz;obtain⟨K,B,k⟩:=k _ hz;cases B;cases v.cg.int_inv;cases u.cg.int_inv;exact⟨i,j,rfl,w,k _ F (g.trans r) (.oO i (j -i).toNat)⟩
   |_=>exact hz.elim
  |_=>exact hz.elim
theorem OE(I:Gl X "range")(F:X.mg "range"=none)(L:VE X M R .s a ta)(K:VE X M R .s b tb)(J:VE X M R .s c tc)(v:starEach [a,b,c] X.env=(false,eval a X.env)::starEach [b,c] X.env)(f:starEach [b,c] X.env=(false,eval b X.env)::starEach [c] X.env)(q:starEach [c] X.env=(false,eval c X.env)::starEach [] X.env):
 PI X tg (.Call (.Name "range" p) [a,b,c] [] pos) (K7 X M R br (λd Q=>ta d λx=>tb d λy=>tc d λz=>K0 [x,y,z] λl=>Q (.lst l))):=
 PI.imp (Ht I F (aq L (aq K (aq J bf q) f) v) (by rw[v,f,q];rfl) (by rw[f,q];rfl))<|by
  rintro O H Q ⟨A,r,d,P,S,o,h,k⟩;refine⟨A,r,d,_,S,o,h,λx Y H1 hz g D=>⟨A,r,d,_,S.same g,o,hz,λy U H2 hz u C=>⟨A,r,d,_,S.same (g.trans u),o,hz,λz T N hz w B=>?_⟩⟩⟩;cases x with
  |int i=>
   cases y with
   |int j=>
    cases z with
    |int l=>obtain⟨n,E,hz⟩:=hz;obtain⟨Z,G,k⟩:=k _ hz;cases G;cases D.cg.int_inv;cases C.cg.int_inv;cases B.cg.int_inv;exact⟨i,j,l,n,rfl,E,k _ N ((g.trans u).trans w) (.OA i l n)⟩
    |_=>exact hz.elim
   |_=>exact hz.elim
  |_=>exact hz.elim
end
noncomputable def up(M:Ms)(n:Nat):Ms:=M.map λx=>(x.1+n,x.2)
section
variable{K:Frag}{M:Ms}{A:Fz}{H0 H H1:Hp}{σ v0:St}{ε δ:Ev}
theorem qX{n i:Nat}{m:Md}:(i,m)∈up M n↔n<=i/\(i -n,m)∈M:=by
 unfold up;rw[Hk];constructor
 ·rintro⟨⟨j,b⟩,a,e⟩;cases e;exact⟨Nat.le_add_left _ _,by rw[GM];exact a⟩
 ·rintro⟨h,a⟩;exact⟨(i -n,m),a,by simp;omega⟩
theorem gk{n i:Nat}:bI (up M n) i↔n<=i/\bI M (i -n):=by
 constructor
 ·rintro⟨m,h⟩;exact⟨(qX.mp h).1,m,(qX.mp h).2⟩
 ·rintro⟨h,m,a⟩;exact⟨m,qX.mpr ⟨h,a⟩⟩
theorem uN{n i:Nat}(c:δ.length=n)(h:n<=i):look (δ++ε) i=look ε (i -n):=by
 have e:∀w,look (δ++ε) i=some w↔look ε (i -n)=some w:=λw=>by rw[cu,cu,Fu (by lia),c]
 cases b:look ε (i -n)with
 |none=>
  cases a:look (δ++ε) i with
  |none=>rfl
  |some w=>rw[e]at a;rw[b]at a;cases a
 |some w=>exact(e w).mpr b
theorem SR.block(S:SR K M A H0 σ H ε){n:Nat}(u:v0.length=n)(s:aE H H1){D:Addr}{o:HO}(C:H D=none)(t:H1 D=some o):SR K (up M n) ⟨λq=>A.ab q\/q=D,λq=>A.B q\/q=D,none⟩ H0 (v0++σ) H1 (List.replicate n none++ε):=by
 obtain⟨F,O⟩:=S.ow;have g:(List.replicate n (none:Option W)).length=n:=by simp
 have E:∀{i:Nat},n<=i->(v0++σ)[i]?=σ[i -n]?:=λ{i} h=>by rw[Fu (by lia),u]
 have y:∀p o,H p=some o->(A.B p\/p=D)->A.B p:=λp o e z=>by
  rcases z with z|rfl
  ·exact z
  ·rw[C]at e;cases e
 refine⟨by rw[Ee,Ee,u,g,S.len],λi w c e=>?_,S.sm.trans s,λp z=>?_,(λv e=>by cases e),λi=>F (i -n),⟨λi m G a b=>O.un _ m G (qX.mp a).2 (qX.mp b).2,λi m w I e=>?_,λi c e=>?_,λi c=>O.nd _ (gk.mp c).2,λi j p c x a b=>?_,λi p c d=>O.nw _ p (gk.mp c).2 d,λi p c d z=>?_,λp=>?_⟩⟩
 ·by_cases f:n<=i
  ·rw[uN g f]at e;rw[E f];obtain⟨v,l,k⟩:=S.sh (i -n) w (λz=>c (gk.mpr ⟨f,z⟩)) e;exact⟨v,l,Rep.mv s y w k⟩
  ·rw[cu,He (by rw[g];lia),ml,Bn (by lia)]at e;cases e
 ·rcases z with z|rfl
  ·exact(S.dm.same s) p z
  ·exact⟨_,t⟩
 ·obtain⟨f,r⟩:=qX.mp I;rw[uN g f]at e;rw[E f];obtain⟨v,l,k⟩:=O.val _ m w r e;exact⟨v,l,Fp.mv s y m k⟩
 ·obtain⟨f,r⟩:=gk.mp c;rw[uN g f]at e;exact O.emp _ r e
 ·have:=O.ds _ _ p (gk.mp c).2 (gk.mp x).2 a b;have:=(gk.mp c).1;have:=(gk.mp x).1;lia
 ·rcases z with z|rfl
  ·exact O.na _ p (gk.mp c).2 d z
  ·obtain⟨o,e,_⟩:=O.has (gk.mp c).2 d;rw[C]at e;cases e
 ·constructor
  ·rintro(z|rfl)
   ·rcases(O.all p).mp z with z|⟨i,c,d⟩
    ·exact .inl (.inl z)
    ·exact .inr ⟨i+n,gk.mpr ⟨by lia,by rw[GM];exact c⟩,by rw[GM];exact d⟩
   ·exact .inl (.inr rfl)
  ·rintro((z|rfl)|⟨i,c,d⟩)
   ·exact .inl ((O.all p).mpr (.inl z))
   ·exact .inr rfl
   ·exact .inl ((O.all p).mpr (.inr ⟨i -n,(gk.mp c).2,d⟩))
end
noncomputable def YH:List Nat->QV
 |[]=>Xp
 |i::a=>QW (kJ i) (YH a)
noncomputable def gT(K:Frag)(one:Bool)(a:List Nat):TG:=
 match one,a with
 |true,[i]=>kJ i
 |true,_=>λ_ _ _ _=>False
 |false,a=>Sn K a.length (YH a)
noncomputable def eW(σ:St):List Nat->List V->St
 |i::a,v::vs=>eW (σ.set i (some v)) a vs
 |_,_=>σ
theorem A8:∀(a:List Nat)(vs:List V)(σ:St),(eW σ a vs).length=σ.length
 |[],vs,σ=>by rw[eW];simp
 |i::a,[],σ=>by rw[eW];simp
 |i::a,v::vs,σ=>by rw[eW,A8 a vs,Qb]
theorem A9{n:Nat}:∀(b:List Nat)(vs:List V)(a σ:St),a.length=n->(∀i∈b,i<n)->eW (a++σ) b vs=eW a b vs++σ
 |[],vs,a,σ,_,_=>by rw[eW,eW]<;>simp
 |i::b,[],a,σ,_,_=>by rw[eW,eW]<;>simp
 |i::b,v::vs,a,σ,c,h=>by have hi:=h i FV;rw[eW,eW,List.set_append_left _ _ (by lia),A9 b vs _ σ (by rw[Qb];exact c) λj d=>h j (FR _ d)]
section
variable{K:Frag}{M:Ms}{A:Fz}{H0 H:Hp}
theorem K8:∀(a:List Nat)(vs:List V)(σ:St)(Q:St->Hp->Prop),vs.length=a.length->Q (eW σ a vs) H->YH a vs σ H Q
 |[],[],σ,Q,_,q=>⟨rfl,q⟩
 |[],_::_,_,_,h,_=>by cases h
 |_::_,[],_,_,h,_=>by cases h
 |i::a,v::vs,σ,Q,h,q=>⟨v,vs,rfl,K8 a vs _ Q (by simpa using h) (by rw[eW]at q;exact q)⟩
theorem SR.cW:∀(a:List Nat)(b:List W)(vs:List V){σ:St}{c:Ev},(∀i∈a,¬bI M i)->SR K M A H0 σ H c->ak K (FB A M σ) H b vs->b.length=a.length->SR K M A H0 (eW σ a vs) H (cW c a b)
 |[],b,vs,σ,c,_,S,_,_=>by rw[eW,VL.cW]<;>first|exact S|simp
 |i::a,[],vs,σ,c,_,S,_,h=>by cases h
 |i::a,w::b,vs,σ,c,d,S,r,h=>by obtain⟨v,e,rfl,l,k⟩:=r.cons_inv;rw[eW,VL.cW];have g:=d i FV;exact SR.cW a b e (λj f=>d j (FR _ f)) (S.set g l) k (by simpa using h)
theorem tgt{σ:St}{c:Ev}{one:Bool}{a:List Nat}{w:W}{v:V}{P:Ev->Prop}{Q:St->Hp->Prop}(g:∀i∈a,¬bI M i)(S:SR K M A H0 σ H c)(d:Rep K (FB A M σ) H w v)(h:wT one a w c P)
 (k:∀vs b,P b->SR K M A H0 (eW σ a vs) H b->Q (eW σ a vs) H):gT K one a v σ H Q:=by
 cases one with
 |true=>
  match a,h with
  |[i],h=>
   have:=k [v] (c.set i (some w)) h (by rw[eW,eW]<;>first|exact S.set (g i FV) d|simp);rw[eW,eW]at this
   ·exact this
   ·simp
 |false=>
  cases w with
  |tup l=>obtain⟨e,h⟩:=h;rw[Rep]at d;obtain⟨p,vs,rfl,j,f⟩:=d;exact⟨p,vs,rfl,mK.of j,by rw[f.len,e],K8 a vs σ Q (by rw[f.len,e]) (k vs _ h (SR.cW a l vs g S f e))⟩
  |_=>exact h.elim
end
theorem PF.imp{X:Cx}{e:List Expr}{t t':TT}(h:PF X e t)(k:∀σ H Q,t' σ H Q->t σ H Q):PF X e t':=λa s σ H Q I w=>h a s σ H Q I (k σ H Q w)
noncomputable def tV0(K:Frag)(M:Ms)(t:WT):TE:=λb H Q=>∃A d c P,SR K M A d b H c/\t c P/\∀w v a,P w->aE H a->Rep K (FB A M b) a w v->Q v a
noncomputable def tT0(K:Frag)(M:Ms)(t:WT):TT:=λd H Q=>∃A e a P,SR K M A e d H a/\t a P/\∀x c,P x->aE H c->∃b,x=.bl b/\Q b c
section
variable{X:Cx}{M:Ms}{R:Addr->Prop}{tg iter elt:Expr}{ifs:List Expr}{scope:Scope}{xs N':List Str}{pos:Pos}{ti tc te:WT}{one:Bool}{ts:List Nat}
theorem Bc(I:∀i∈ts,i<xs.length)(σ:St)(H:Hp)(Q:VK)
 (hh:tV X M R (TY X.K .f) (λu Q=>ti u λz=>items z λc=>sE (λw K=>wT one ts w (List.replicate xs.length none++u) λa=>tc a λx=>truth x λk=>if k=true then te a λy=>K (some y)else K none) c [] λl=>Q (.lst l)) σ H Q):
 JT xs.length (K7 X M R true ti) (gT X.K one ts) (tT0 X.K (up M xs.length) tc) (tV0 X.K (up M xs.length) te) σ H Q:=by
 obtain⟨A,H0,u,P,S,er,h,k⟩:=hh;refine⟨A,H0,u,_,S,er,h,λz hz=>?_⟩;obtain⟨c,ez,hw⟩:=xF.mp hz;refine⟨c,ez,λJ H1 s1 it D hD=>?_⟩;have iw:=it.iw;generalize N:(λ(w:W)(K:Option W->Prop)=>wT one ts w (List.replicate xs.length none++u) λa=>tc a λx=>truth x λk=>if k=true then te a λy=>K (some y)else K none)=f at hw;have O:H D=none:=s1.free hD;refine⟨λi m g=>∃d n,m=c.length -i/\i<=c.length/\aE H1 g/\g D=some (.lst n)/\ak X.K (λq=>FB A M σ q\/q=D) g d n/\sE f (c.drop i) d (λl=>P (.lst l)),
  ⟨c.length,[],[],rfl,Mo _,aO hD _,aD,.nil,hw⟩,?_⟩
 rintro i m g ⟨d,n,rfl,hi,s,Z3,F,C⟩;by_cases U:i<c.length
 ·refine .inr ⟨iw.go i g s U,λx Y y v t=>?_⟩;have hwi:c[i]?=some c[i]:=B1 U;rw[tm U]at C;generalize c[i]=w at*;obtain⟨s3,G⟩:=iw.yl i g x Y w s hwi y;have s13:aE H Y:=s1.trans (s.trans s3);have h3D:Y D=some (.lst n):=s3 _ _ Z3;have S3:SR X.K (up M xs.length) ⟨λq=>A.ab q\/q=D,λq=>A.B q\/q=D,none⟩ H0 (v++σ) Y (List.replicate xs.length none++u):=S.block t s13 O h3D;have hr3:Rep X.K (λq=>A.B q\/q=D) Y w x:=by
   refine G _ λp o e z=>?_;rcases z with z|rfl
   ·exact z
   ·rw[hD]at e;cases e
  have hM:∀j∈ts,¬bI (up M xs.length) j:=λj hj z=>by have:=(gk.mp z).1;have:=I j hj;lia
  rw[sE,←N]at C;rw[N]at C;refine tgt hM S3 hr3 C λE a hp S4=>?_;have e4:eW (v++σ) ts E=eW v ts E++σ:=A9 ts E v σ t I;rw[e4]at S4⊢;have hv1:(eW v ts E).length=xs.length:=by rw[A8];exact t
  refine⟨eW v ts E,hv1,rfl,⟨_,H0,a,_,S4,hp,λq H5 Z s5=>?_⟩⟩;obtain⟨b,rfl,Z⟩:=cV Z;refine⟨b,rfl,?_⟩;have Z4:aE g H5:=s3.trans s5;cases b with
  |false=>exact⟨c.length -(i+1),by lia,d,n,rfl,U,s.trans Z4,Z4 _ _ Z3,F.same Z4,Z⟩
  |true=>
   refine⟨_,H0,a,_,S4.same s5,Z,λy vy H6 hy s6 ry=>?_⟩;obtain⟨L,hy⟩:=hy;have r:=Z4.trans s6;have T:=r _ _ Z3;refine⟨n,T,by rw[F.len];exact L,c.length -(i+1),by lia,d++[y],n++[vy],rfl,U,λb o e=>?_,aD,?_,hy⟩
   ·rw[ao (aV e hD)];exact r _ _ (s _ _ e)
   ·have ry2:Rep X.K (λq=>A.B q\/q=D) H6 y vy:=ry;exact ak.put T (.inr rfl) _ ((F.same r).app (.cons ry2 .nil))
 ·have e:i=c.length:=by lia
  subst e;refine .inl ⟨iw.st _ g s rfl,?_⟩;rw[List.drop_length,sE]at C;exact k _ _ g C (s1.trans s) (.new O Z3 (F.less λp z=>.inl z) F)
theorem OG(t:X.calm=true)(o:gS scope X.env.scope X.N N' xs=true)(e:∀i∈ts,i<xs.length)(p:PI X tg iter (K7 X M R true ti))(q:∀C b d c,PG (bG X scope C xs N' b d c) tg (gT X.K one ts))
 (r:∀C b d c,PF (bG X scope C xs N' b d c) ifs (tT0 X.K (up M xs.length) tc))(s:∀C b d c,PE (bG X scope C xs N' b d c) elt (tV0 X.K (up M xs.length) te))(n:∀z,foldedSetIterable iter X.env z=pure z):
 VE X M R .f (.ListComp elt [⟨tg,iter,ifs,0⟩] scope pos) (λg Q=>ti g λz=>items z λm=>sE (λw K=>wT one ts w (List.replicate xs.length none++g) λa=>tc a λx=>truth x λk=>if k=true then te a λy=>K (some y)else K none) m [] λl=>Q (.lst l)):=
 PE.imp (Nz xs N' t o p q r s n) λj H Q h=>Bc e j H Q h
end
section
variable{K:Frag}{M M':Ms}{A:Fz}{H0 H H1:Hp}{σ:St}{ε:Ev}
theorem SR.rb(S:SR K M A H0 σ H ε):∃f,SR K M A f σ H ε/\aE H0 f/\aE f H/\(∀p o,H p=some o->(IX o=true/\A.B p)\/f p=some o):=by
 classical
 obtain⟨F,O⟩:=S.ow;have d:∀p o,(if(∃i,bI M i/\p∈F i)then none else H p)=some o->H p=some o:=λp o z=>by
  split at z
  ·cases z
  ·exact z
 refine⟨λp=>if(∃i,bI M i/\p∈F i)then none else H p,⟨S.len,S.sh,d,S.dm,S.sl,F,⟨O.un,O.val,O.emp,O.nd,O.ds,λi p c a=>Bn ⟨i,c,a⟩,O.na,O.all⟩⟩,λb o z=>?_,d,λp o z=>?_⟩
 ·try dsimp only
  rw[Bi]
  ·exact S.sm _ _ z
  ·rintro⟨i,c,e⟩;rw[O.nw i b c e]at z;cases z
 ·by_cases a:∃i,bI M i/\p∈F i
  ·have g:=a;obtain⟨i,c,a⟩:=a;obtain⟨j,e,h⟩:=O.has c a;rw[z]at e;cases e;exact .inl ⟨h,(O.all p).mpr (.inr g)⟩
  ·exact .inr ((Bi a).trans z)
end
section
variable{K:Frag}{B A:Addr->Prop}{H Hs:Hp}
theorem HQ.low{J:It}{g:List W}(h:∀p o,H p=some o->(IX o=true/\B p)\/Hs p=some o)(b:∀p,A p->B p)(i:HQ K false B H J g):HQ K false A Hs J g:=by
 have d:∀{a:Addr}{c:List V},Rd H a (.lst c)->¬B a->Rd Hs a (.lst c):=λ{a c} r n=>by
  rcases r with r|⟨o,r⟩
  ·rcases h a _ r with⟨_,z⟩|z
   ·exact(n z).elim
   ·exact .inl z
  ·rcases h a _ r with⟨_,z⟩|z
   ·exact(n z).elim
   ·exact .inr ⟨o,z⟩
 cases i with
 |lst q n r=>exact .lst (d q (n rfl)) (λe z=>n e (b _ z)) (ak.chg h (λp _ _ z=>b p z) _ r)
 |@tup a c _ q r=>
  refine .tup ?_ (ak.chg h (λp _ _ z=>b p z) _ r);rcases q with(q|⟨o,q⟩)|q
  ·rcases h a _ q with⟨z,_⟩|z
   ·cases z
   ·exact .inl (.inl z)
  ·rcases h a _ q with⟨z,_⟩|z
   ·cases z
   ·exact .inl (.inr ⟨o,z⟩)
  ·exact .inr q
 |oO f n=>exact .oO f n
 |OA f j n=>exact .OA f j n
 |y9 q n r=>exact .y9 (d q (n rfl)) (λe z=>n e (b _ z)) (ak.chg h (λp _ _ z=>b p z) _ r)
 |rev q n r=>exact .rev (d q (n rfl)) (λe z=>n e (b _ z)) (ak.chg h (λp _ _ z=>b p z) _ r)
end
abbrev WS:=Dn->Ev->Prop
noncomputable def kT:Md->Bool
 |.io _=>true
 |_=>false
noncomputable def DC(K:Frag)(ab:Addr->Prop)(f:Option V)(e H':Hp)(m:Md)(w:W)(v:V):Prop:=
 match m with
 |.io g=>∃b c d a,w=.tup [b,c]/\f=some d/\a.Nodup/\(∀p∈a,e p=none/\¬ab p)/\Fp K (λp=>ab p\/p∈a) H' g c d a/\Rep K (λp=>ab p\/p∈a) H' b v
 |m=>gi K ab e H' m w v
theorem DC.of{K:Frag}{ab:Addr->Prop}{b:Option V}{a H':Hp}{m:Md}{w:W}{v:V}(c:kT m=false)(h:gi K ab a H' m w v):DC K ab b a H' m w v:=by
 cases m with
 |io _=>cases c
 |_=>exact h
theorem DC.back{K:Frag}{ab:Addr->Prop}{a:Option V}{e d H':Hp}{m:Md}{w:W}{v:V}(s:aE e d)(h:DC K ab a d H' m w v):DC K ab a e H' m w v:=by
 cases m with
 |io q=>obtain⟨f,g,i,o,n,l,k,c,j⟩:=h;exact⟨f,g,i,o,n,l,k,λp b=>⟨s.free (c p b).1,(c p b).2⟩,j⟩
 |_=>exact gi.back s (λ_ z=>z) h
structure KS(X:Cx)(M:Ms)(m:Md)(ab:Addr->Prop)(s0:Option V)(H0:Hp)(d:Dn)(D:Ends):Prop where
 nx:∀A ε σ H,A.ab=ab->A.s0=s0->d.nx ε->SR X.K M A H0 σ H ε->D.nx σ H
 rt:∀w v H',d.rt w->aE H0 H'->DC X.K ab s0 H0 H' m w v->D.rt v H'
 bk:∀A ε σ H,A.ab=ab->A.s0=s0->d.bk ε->SR X.K M A H0 σ H ε->D.bk σ H
 ct:∀A ε σ H,A.ab=ab->A.s0=s0->d.ct ε->SR X.K M A H0 σ H ε->D.ct σ H
noncomputable def sV(X:Cx)(M:Ms)(m:Md)(t:WS):TS:=λD c H=>∃A a b d,SR X.K M A a c H b/\ER X a d.ex/\A.s0.isSome=kT m/\t d b/\KS X M m A.ab A.s0 a d D
abbrev VS(X:Cx)(M:Ms)(m:Md)(st:Stmt)(t:WS):Prop:=PS X st (sV X M m t)
abbrev La(X:Cx)(M:Ms)(m:Md)(st:List Stmt)(t:WS):Prop:=Ag X st (sV X M m t)
theorem PS.imp{X:Cx}{e:Stmt}{t t':TS}(h:PS X e t)(k:∀D σ H,t' D σ H->t D σ H):PS X e t':=λa s σ H D I w=>h a s σ H D I (k D σ H w)
theorem Ag.imp{X:Cx}{e:List Stmt}{t t':TS}(h:Ag X e t)(k:∀D σ H,t' D σ H->t D σ H):Ag X e t':=λa s σ H D I w=>h a s σ H D I (k D σ H w)
section
variable{X:Cx}{M M':Ms}{R:Addr->Prop}{m mr m0:Md}{st:Stmt}{rest:List Stmt}{t u:WS}{e e1 e2 c:Expr}{te t1 t2 tc:(Addr->Prop)->WT}{pos pos':Pos}{x:Str}{i:Nat}{π:List oE}
theorem OH:La X M m [] (λd a=>d.nx a):=Ag.imp M1<|by rintro D b H ⟨A,g,a,d,S,f,hz,h,k⟩;exact k.nx A a b H rfl rfl h S
theorem OI(h:VS X M m st t):La X M m [st] t:=sO h
theorem Lb(h:VS X M m st t)(k:La X M m rest u):La X M m (st::rest) (λd b=>t {d with nx:=u d} b):=
 Ag.imp (cI h k)<|by rintro D r H ⟨A,j,b,d,S,f,hz,h,k⟩;exact⟨A,j,b,{d with nx:=u d},S,f,hz,h,λq a l s o g n p=>⟨q,j,a,d,p,f,(by rw[g];exact hz),n,by rw[o,g];exact k⟩,k.rt,k.bk,k.ct⟩
theorem OJ{st:List Stmt}(h:La X M' m st t)(j:∀x∈M',x∈M)(b:kT m=false):La X M m st (λd a=>t {d with nx:=λ_=>False,bk:=λ_=>False,ct:=λ_=>False} a):=Ag.imp h<|by
 rintro D B H ⟨A,p,a,d,S,l,hz,h,k⟩;obtain⟨y,n,f,_,o⟩:=S.sub (M':=M') j none (λv e=>by cases e);have e1:A.s0=none:=by rw[b]at hz;exact Option.not_isSome_iff_eq_none.mp (by rw[hz];decide)
 refine⟨y,p,a,{d with nx:=λ_=>False,bk:=λ_=>False,ct:=λ_=>False},o,l,by rw[f,b];rfl,h,λ_ _ _ _ _ _ z=>z.elim,λw v q g s r=>k.rt w v q g s ?_,λ_ _ _ _ _ _ z=>z.elim,λ_ _ _ _ _ _ z=>z.elim⟩;rw[e1];rw[f,n]at r;exact r
theorem Ur:VS X M m (.Break pos) (λd a=>d.bk a):=PS.imp Jo<|by rintro D b H ⟨A,g,a,d,S,f,hz,h,k⟩;exact k.bk A a b H rfl rfl h S
theorem Us{f:List Nat}(g:∀{j:TE},PE X e j->PS X st (tW j (gT X.K false f)))(z:∀i∈f,¬bI M i)(B:∀R,VE X M R .s e (te R)):
 VS X M m st (λd b=>te d.ex b λw=>match w with|.tup l=>l.length=f.length/\d.nx (cW b f l)|_=>False):=by
 rintro a s o H D I ⟨A,G,b,d,S,C,hz,h,k⟩;refine g (B d.ex) a s o H D I ⟨A,G,b,_,S,C,h,λw v F n q r=>?_⟩;cases w with
 |tup l=>exact tgt (P:=d.nx) z (S.same q) r.cg n λJ p y E=>k.nx A _ _ F rfl rfl y E
 |_=>exact n.elim
theorem Ut{a:List Nat}{o:List Expr}{ta:(Addr->Prop)->Ev->(List W->Prop)->Prop}(l:∀{n:TA},PA X o n->PS X st (λD σ H=>n σ H λvs H1=>vs.length=a.length/\D.nx (eW σ a vs) H1))(q:∀i∈a,¬bI M i)(v:∀R,VA X M R o (ta R)):
 VS X M m st (λd f=>ta d.ex f λg=>g.length=a.length/\d.nx (cW f a g)):=by
 rintro b s σ H D I ⟨A,y,f,d,S,w,hz,h,k⟩;refine l (v d.ex) b s σ H D I ⟨A,y,f,_,S,w,h,λg vs H1 j p r=>?_⟩;exact⟨by rw[ak.len r,j.1],k.nx A _ _ H1 rfl rfl j.2 (SR.cW a g vs q (S.same p) r j.1)⟩
theorem pM{K:Frag}{A:Fz}{N H:Hp}{σ:St}{E:Ev}{w:W}{l:List W}(S:SR K M A N σ H E)(d:(i,m0)∈M)(hp:lG m0 π=some .f)(P:look E i=some w)(hu:cH w π=some (.lst l)):
 ∃v p vs,σ[i]?=some (some v)/\Aj K H v π (.ref p)/\H p=some (.lst vs)/\ak K A.B H l vs/\A.B p/\∀H1,aE H H1->∀(b:List W)(a:List V),ak K A.B H1 b a->
  ∃j,j.ab=A.ab/\j.s0=A.s0/\(∀q o,H1 q=some o->j.B q->A.B q)/\Ai A.B H1 (upd H1 p (.lst a))/\SR K M j N σ (upd H1 p (.lst a)) (E.set i (some (setAt w π (.lst b)))):=by
 obtain⟨F,O⟩:=S.ow;obtain⟨v,h,y⟩:=O.val i m0 w d P;obtain⟨v',F1,F',Z,L,r,Q,D⟩:=Fp.path π m0 y hp hu;rw[Fp]at Q;obtain⟨ws,p,vs,e1,rfl,rfl,I,h4⟩:=Q;cases e1;have U:p∈F i:=by rw[L];simp
 have g:A.B p:=(O.all p).mpr (.inr ⟨i,⟨m0,d⟩,U⟩);refine⟨v,p,vs,h,r,I,h4,g,λH1 s b a hr=>?_⟩;have Y:=S.same s;obtain⟨F0,O0⟩:=Y.ow;have O1:WL K M A N σ H1 E F:=⟨O.un,λi m w d e=>let⟨v,h,y⟩:=O.val i m w d e;⟨v,h,Fp.mv s (λ_ _ _ z=>z) m y⟩,O.emp,O.nd,O.ds,O.nw,O.na,O.all⟩;have k:=s _ _ I;have T:Ai A.B H1 (upd H1 p (.lst a)):=.put k rfl g;have G:p∉F1++Z:=by
  have:=O.nd i ⟨m0,d⟩;rw[L]at this;intro z;have h:=List.nodup_append.mp this;rcases Iy.mp z with z|z
  ·have y:=List.nodup_append.mp h.1;exact y.2.2 p z p (by simp) rfl
  ·exact h.2.2 p (by simp) p z rfl
 have C:Fp K A.B (upd H1 p (.lst a)) m0 (setAt w π (.lst b)) v (F1++[p]++Z):=by
  refine D (upd H1 p (.lst a)) A.B (.lst b) [p] ?_ (λq o e=>?_) (λq _ _ z=>z)
  ·rw[Fp];exact⟨b,p,a,rfl,rfl,rfl,aD,ak.chg T (λ_ _ _ z=>z) b hr⟩
  ·by_cases n:q=p
   ·subst n;rw[I]at e;cases e;exact .inl ⟨rfl,g,G⟩
   ·exact .inr (by rw[ao n];exact s _ _ e)
 rw[←L]at C;have hc:∀q o,H1 q=some o->(IX o=true/\q∈F i)\/upd H1 p (.lst a) q=some o:=λq o e=>by
  by_cases n:q=p
  ·subst n;rw[k]at e;cases e;exact .inl ⟨rfl,U⟩
  ·exact .inr (by rw[ao n];exact e)
 have J:Fp K (λq=>(A.B q/\q∉F i)\/q∈F i) (upd H1 p (.lst a)) m0 (setAt w π (.lst b)) v (F i):=Fp.mv (aE.refl _) (λq _ _ z=>by
  rcases z with z|z
  ·exact z.1
  ·exact(O.all q).mpr (.inr ⟨i,⟨m0,d⟩,z⟩)) m0 C
 obtain⟨j,a1,a2,_,a3,a4,a5⟩:=O1.chg (F':=F i) Y d P h hc (O.nd i ⟨m0,d⟩) (λq hq=>.inl hq) J;exact⟨j,a1,a2,a3,T,a5⟩
theorem DE{a:Ev}{P:List W->Prop}(h:match look a i with|some (.lst l)=>P l|_=>False):∃l,look a i=some (.lst l)/\P l:=by
 cases b:look a i with
 |none=>rw[b]at h;exact h.elim
 |some d=>
  rw[b]at h;cases d with
  |lst l=>exact⟨l,rfl,h⟩
  |_=>exact h.elim
theorem Lc{b:Ev}{P:W->List W->Prop}(h:match look b i with|some a=>(match cH a π with|some (.lst l)=>P a l|_=>False)|none=>False):∃a l,look b i=some a/\cH a π=some (.lst l)/\P a l:=by
 cases f:look b i with
 |none=>rw[f]at h;exact h.elim
 |some a=>
  rw[f]at h;dsimp only at h;cases d:cH a π with
  |none=>rw[d]at h;exact h.elim
  |some u=>
   rw[d]at h;cases u with
   |lst l=>exact⟨a,l,rfl,d,h⟩
   |_=>exact h.elim
theorem md0:lG m0 []=some m0:=by cases m0<;>rw[lG]
theorem Uu{w:W}:cH w []=some w:=by cases w<;>rw[cH]
theorem Uv{w u:W}:setAt w [] u=u:=by cases w<;>rw[setAt]
theorem Uw(q:∀{y:TE},PE X e y->PS X st (EK (tBM X.K "list" yy (uL X.K i π) (Jx y SN))))(J:(i,m0)∈M)(G:lG m0 π=some .f)(L:∀R,VE X M R .s e (te R)):
 VS X M m st (λd a=>match look a i with|some j=>(match cH j π with|some (.lst l)=>te d.ex a λw=>l.length<sizeLine/\d.nx (a.set i (some (setAt j π (.lst (l++[w])))))|_=>False)|none=>False):=by
 rintro g s E H D I ⟨A,Y,a,d,S,P,hz,h,k⟩;obtain⟨j,l,e1,e2,h⟩:=Lc h;obtain⟨F,p,n,O,N,C,B,hB,b⟩:=pM S J G e1 e2;refine q (L d.ex) g s E H D I ⟨F,_,O,N,.inl ⟨rfl,n,.inl (.inl C)⟩,A,Y,a,_,S,P,h,λw v U z o r=>?_⟩;obtain⟨Z,Q,a2,_,_,T⟩:=b U o (l++[w]) (n++[v]) ((B.same o).app (.cons r.cg .nil));exact⟨p,n,v,rfl,rfl,o _ _ C,by rw[B.len];exact z.1,k.nx Z _ _ _ Q a2 z.2 T⟩
theorem Ux(C:∀{F G:TE},PE X e F->PE X e1 G->PS X st (tW F (Sq (uL X.K i π) G JD)))(Y:(i,m0)∈M)(U:lG m0 π=some .f)(he:∀R,VE X M R .s e (te R))(Z:∀R,VE X M R .s e1 (t1 R)):
 VS X M m st (λd b=>te d.ex b λw=>match look b i with|some y=>(match cH y π with|some (.lst l)=>(t1 d.ex b λx=>(match x with|.int j=>∃n,yv l.length j=some n/\d.nx (b.set i (some (setAt y π (.lst (l.set n w)))))|_=>False))|_=>False)|none=>False):=by
 rintro o s P H D I ⟨A,O,b,d,S,N,hz,h,k⟩;refine C (he d.ex) (Z d.ex) o s P H D I ⟨A,O,b,_,S,N,h,λw v H1 B J r=>?_⟩;obtain⟨y,l,e1,e2,B⟩:=Lc B;obtain⟨Q,p,E,h1,h2,h3,L,hB,g⟩:=pM (S.same J) Y U e1 e2;refine⟨Q,_,h1,h2,A,O,b,_,S.same J,N,B,λz vz H2 a q T=>?_⟩;cases z with
 |int j=>obtain⟨n,e,a⟩:=a;obtain⟨A',a1,a2,_,_,S'⟩:=g H2 q (l.set n w) (E.set n v) ((L.same q).set (r.cg.same q));exact⟨p,E,j,n,rfl,T.cg.int_inv,q _ _ h3,by rw[L.len];exact e,k.nx A' _ _ _ a1 a2 a S'⟩
 |_=>exact a.elim
theorem Uy(o:∀{q:TE},PE X e q->PS X st (EK (tBM X.K "list" yy (qL i) (Jx q SN))))(F:(i,.f)∈M)(G:∀R,VE X M R .s e (te R)):
 VS X M m st (λd a=>match look a i with|some (.lst l)=>te d.ex a λw=>l.length<sizeLine/\d.nx (a.set i (some (.lst (l++[w]))))|_=>False):=by
 rintro g s E H D I ⟨A,Q,a,d,S,N,hz,h,k⟩;obtain⟨l,e1,h⟩:=DE h;obtain⟨U,p,j,L,J,B,z,Y,b⟩:=pM (π:=[]) S F md0 e1 Uu;cases J;refine o (G d.ex) g s E H D I ⟨_,L,.inl ⟨rfl,j,.inl (.inl B)⟩,A,Q,a,_,S,N,h,λw v P y n r=>?_⟩;obtain⟨T,O,a2,_,_,C⟩:=b P n (l++[w]) (j++[v]) ((z.same n).app (.cons r.cg .nil));rw[Uv]at C;exact⟨p,j,v,rfl,rfl,n _ _ B,by rw[z.len];exact y.1,k.nx T _ _ _ O a2 y.2 C⟩
theorem Uz(B:∀{E F:TE},PE X e E->PE X e1 F->PS X st (tW E (Sq (qL i) F JD)))(U:(i,.f)∈M)(Y:∀R,VE X M R .s e (te R))(T:∀R,VE X M R .s e1 (t1 R)):
 VS X M m st (λd b=>te d.ex b λw=>match look b i with|some (.lst l)=>(t1 d.ex b λx=>(match x with|.int j=>∃n,yv l.length j=some n/\d.nx (b.set i (some (.lst (l.set n w))))|_=>False))|_=>False):=by
 rintro q s P H D I ⟨A,O,b,d,S,L,hz,h,k⟩;refine B (Y d.ex) (T d.ex) q s P H D I ⟨A,O,b,_,S,L,h,λw v H1 y J r=>?_⟩;obtain⟨l,e1,y⟩:=DE y;obtain⟨v0,p,C,h1,h2,Z,K,hB,o⟩:=pM (π:=[]) S U md0 e1 Uu;cases h2;refine⟨_,h1,A,O,b,_,S.same J,L,y,λz vz H2 a G Q=>?_⟩;cases z with
 |int j=>obtain⟨n,e,a⟩:=a;have g:=J.trans G;obtain⟨A',a1,a2,_,_,N⟩:=o H2 g (l.set n w) (C.set n v) ((K.same g).set (r.cg.same G));rw[Uv]at N;exact⟨p,C,j,n,rfl,Q.cg.int_inv,g _ _ Z,by rw[K.len];exact e,k.nx A' _ _ _ a1 a2 a N⟩
 |_=>exact a.elim
theorem Ld(p:∀R,VE X [] R mr e (te R))(o:mr=m\/m=.s)(j:kT m=false):VS X M m (.Return (some e) pos) (λd b=>te d.ex b d.rt):=by
 rintro a s n H D I ⟨A,y,b,d,S,q,hz,h,k⟩;refine tU (p d.ex) a s n H D I ⟨_,y,b,_,S.go,q,h,λw v l g f r=>?_⟩;rcases o with rfl|rfl
 ·exact k.rt w v l g (S.sm.trans f) (.of j (r.back S.sm λ_ z=>z))
 ·exact k.rt w v l g (S.sm.trans f) (.of j ((r.s S.dm).back S.sm λ_ z=>z))
theorem OL(l:∀R,VE X M R .s e (te R)):VS X M .s (.Return (some e) pos) (λd b=>te d.ex b d.rt):=by rintro a s f H D I ⟨A,p,b,d,S,n,hz,h,k⟩;refine tU (l d.ex) a s f H D I ⟨A,p,b,_,S,n,h,λw v o j g r=>?_⟩;exact k.rt w v o j (S.sm.trans g) (.of rfl (gi.back S.sm S.sub' r))
theorem OM(o:PE X e (qL i))(b:(i,m)∈M)(n:kT m=false):VS X M m (.Return (some e) pos) (λd f=>match look f i with|some w=>d.rt w|none=>False):=by
 rintro a s j H D I ⟨A,C,f,d,S,B,hz,h,k⟩
 try dsimp only at h
 cases g:look f i with
 |none=>rw[g]at h;exact h.elim
 |some w=>
  rw[g]at h;obtain⟨F,O⟩:=S.ow;obtain⟨v,y,r⟩:=O.val i m w b g;refine tU o a s j H D I ⟨_,y,k.rt _ _ H h S.sm (.of n ⟨F i,O.nd i ⟨m,b⟩,λp l=>O.nw i p ⟨m,b⟩ l,Fp.mv (aE.refl _) (λq _ _ z=>?_) m r⟩)⟩;rcases z with z|z
  ·exact(O.all q).mpr (.inl z)
  ·exact(O.all q).mpr (.inr ⟨i,⟨m,b⟩,z⟩)
theorem zo{K:Frag}{A:Fz}{n H:Hp}{σ:St}{h:Ev}{g b:W}{v:V}(S:SR K M A n σ H h)(a:(0,m0)∈M)(o:look h 0=some b)(f:∃d,A.s0=some d)(r:Rep K A.B H g v):DC K A.ab A.s0 n H (.io m0) (.tup [g,b]) v:=by obtain⟨d,f⟩:=f;obtain⟨F,O⟩:=S.ow;obtain⟨u,l,q⟩:=O.val 0 m0 b a o;rw[(S.sl d f).1]at l;cases l;have k:∀p,(A.ab p\/p∈F 0)->A.B p:=λp z=>(O.all p).mpr (z.imp id λz=>⟨0,⟨m0,a⟩,z⟩);exact⟨g,b,d,F 0,rfl,f,O.nd 0 ⟨m0,a⟩,λp j=>⟨O.nw 0 p ⟨m0,a⟩ j,O.na 0 p ⟨m0,a⟩ j⟩,Fp.mv (aE.refl _) (λp _ _ z=>k p z) m0 q,r.less k⟩
theorem YI{a b:List Stmt}(r:∀R,VT X M R c (tc R))(w:La X M m a t)(v:La X M m b u):VS X M m (.If c a b pos) (λd f=>tc d.ex f λx=>truth x λk=>if k=true then t d f else u d f):=by
 rintro g s p H D I ⟨A,n,f,d,S,l,hz,h,k⟩;refine Xm (r d.ex) w v g s p H D I ⟨A,n,f,_,S,l,h,λx y j o=>?_⟩;obtain⟨q,rfl,j⟩:=cV j;refine⟨q,rfl,?_⟩;cases q with
 |true=>exact⟨A,n,f,d,S.same o,l,hz,j,k⟩
 |false=>exact⟨A,n,f,d,S.same o,l,hz,j,k⟩
end
theorem Le{X:Cx}{st:Stmt}{t:TS}(h:PS X.tT st t):PS X st t:=PS.tT h
section
variable{X:Cx}{M:Ms}{m:Md}{body:List Stmt}{tb:WS}{c iter tg:Expr}{tc:WT}{ti:(Addr->Prop)->WT}{pos:Pos}{one:Bool}{ts:List Nat}
theorem UA(L:VT X.tT M (λ_=>False) c tc)(O:La X.tT M m body tb):VS X M m (.While c body [] pos) (λd r=>Og (λr Q=>tc r λx=>truth x Q) tb d r):=by
 refine PS.imp (Le (Jr PassesOwn.never L O)) ?_;rintro D T H ⟨A,u,r,d,S,U,hz,h,k⟩;obtain⟨J,⟨C,G⟩,s⟩:=h;refine⟨λn b f=>∃e a,e.ab=A.ab/\e.s0=A.s0/\J n a/\SR X.K M e u b f a,⟨C,A,r,rfl,rfl,G,S⟩,?_⟩;rintro n B Y ⟨y,v,t,p,F,w⟩;refine⟨y,u,v,_,w,.none,s n v F,λx R o z=>?_⟩;obtain⟨q,rfl,o⟩:=cV o;refine⟨q,rfl,?_⟩;cases q with
 |true=>obtain⟨N,P,o⟩:=o;refine⟨λb f=>∃e a,e.ab=A.ab/\e.s0=A.s0/\N a/\SR X.K M e u b f a,λb f ⟨e,a,j,a2,i,g⟩=>?_,y,u,v,_,w.same z,.none,(by rw[p];exact hz),o,⟨λe a b f j a2 i g=>⟨e,a,j.trans t,a2.trans p,i,g⟩,by rw[t,p];exact k.rt,λe a b f j a2 i g=>k.nx e a b f (j.trans t) (a2.trans p) i g,λe a b f j a2 i g=>⟨e,a,j.trans t,a2.trans p,i,g⟩⟩⟩;obtain⟨E,l,I⟩:=P a i;exact⟨E,l,e,a,j,a2,I,g⟩
 |false=>exact k.nx y _ _ R t p o (w.same z)
theorem UB(hc:X.calm=true)(hM:∀i∈ts,¬bI M i)(Y:PI X.tT tg iter (K7 X.tT M (λ_=>False) false (ti λ_=>False)))(hg:PG X.tT tg (gT X.K one ts))(hb:La X.tT M m body tb)(hs:∀x,foldedSetIterable iter X.env x=pure x):
 VS X M m (.For tg iter body [] pos) (λd G=>ti (λ_=>False) G λz=>items z λg=>oF (λw D' a=>wT one ts w a λl=>tb D' l) d g G):=by
 refine PS.imp (Le (Sw PassesOwn.never hc Y hg hb hs)) ?_;rintro D σ H ⟨A,H0,G,d,S,er,hz,h,k⟩;refine⟨A,H0,G,_,S,.none,h,λz T=>?_⟩;obtain⟨g,ez,hw⟩:=xF.mp T;refine⟨g,ez,λJ H1 s1 it=>?_⟩;have S1:=S.same s1;obtain⟨L,Ss,P,b1,b2⟩:=S1.rb;have low:HQ X.K false A.ab L J g:=it.low (λp o e=>b2 p o e) λp z=>S.sub' p z;have iw:=low.iw;refine⟨λi n f r=>n=g.length -i/\i<=g.length/\∃b a,b.ab=A.ab/\b.s0=A.s0/\SR X.K M b L f r a/\oF (λw D' a=>wT one ts w a λl=>tb D' l) d (g.drop i) a,⟨g.length,rfl,Mo _,A,G,rfl,rfl,Ss,hw⟩,?_⟩;have up:∀{b:Fz}{f:St}{r:Hp}{a:Ev},SR X.K M b L f r a->SR X.K M b H0 f r a:=λ{b f r a} q=>by obtain⟨F,O⟩:=q.ow;exact⟨q.len,q.sh,P.trans q.sm,q.dm,q.sl,F,⟨O.un,O.val,O.emp,O.nd,O.ds,λi p Y e=>P.free (O.nw i p Y e),O.na,O.all⟩⟩
 rintro i n R Z ⟨rfl,hi2,A2,kY,C,B,E,Q⟩;by_cases u:i<g.length
 ·refine .inr ⟨iw.go i Z E.sm u,λf r=>∃b a,b.ab=A.ab/\b.s0=A.s0/\SR X.K M b L f r a/\oF (λw D' a=>wT one ts w a λl=>tb D' l) d (g.drop (i+1)) a,by rintro f r ⟨b,a,v,a2,t,s⟩;exact⟨g.length -(i+1),by omega,rfl,u,b,a,v,a2,t,s⟩,λx H3 y=>?_⟩;have U:g[i]?=some g[i]:=B1 u;rw[tm u,oF]at Q;generalize g[i]=w at*;obtain⟨s3,I⟩:=iw.yl i Z x H3 w E.sm U y;have hr:Rep X.K (FB A2 M R) H3 w x:=I _ λp o e z=>by
   obtain⟨F,O⟩:=E.ow;rcases(O.all p).mp z with z|⟨j,hj,e2⟩
   ·rw[C]at z;exact z
   ·rw[O.nw j p hj e2]at e;cases e
  refine tgt hM (E.same s3) hr Q λvs a hp S4=>?_;exact⟨A2,L,a,_,S4,.none,(by rw[B];exact hz),hp,⟨λb l YJ N v a2 t s=>⟨b,l,v.trans C,a2.trans B,s,t⟩,λw' v' r t s q3=>k.rt w' v' r t (P.trans s) (by rw[C,B]at q3;exact q3.back P),λb l YJ N v a2 t s=>k.nx b _ _ _ (v.trans C) (a2.trans B) t (up s),λb l YJ N v a2 t s=>⟨b,l,v.trans C,a2.trans B,s,t⟩⟩⟩
 ·have e:i=g.length:=by omega
  subst e;refine .inl ⟨iw.st _ Z E.sm rfl,?_⟩;rw[List.drop_length,oF]at Q;exact k.nx A2 _ _ _ C B Q (up E)
end
structure Go(A:Fz)(H:Hp)(A':Fz)(H':Hp):Prop where
 ab:A'.ab=A.ab
 s0:A'.s0=A.s0
 B:∀p o,H p=some o->A'.B p->A.B p
 ch:Ai A.B H H'
theorem Go.same{A:Fz}{H H':Hp}(s:aE H H'):Go A H A H':=⟨rfl,rfl,λ_ _ _ z=>z,.same s⟩
theorem Go.trans{A c b:Fz}{H H1 a:Hp}(g:Go A H c H1)(k:Go c H1 b a):Go A H b a:=by
 refine⟨k.ab.trans g.ab,k.s0.trans g.s0,λp o e z=>?_,λp o e=>?_⟩
 ·rcases g.ch p o e with⟨_,y⟩|y
  ·exact y
  ·exact g.B p o e (k.B p o y z)
 ·rcases g.ch p o e with y|y
  ·exact .inl y
  ·rcases k.ch p o y with⟨f,d⟩|h
   ·exact .inl ⟨f,g.B p o e d⟩
   ·exact .inr h
theorem Go.rep{K:Frag}{A a:Fz}{H H1:Hp}{w:W}{v:V}(g:Go A H a H1)(h:Rep K A.B H w v):Rep K a.B H1 w v:=Rep.chg g.ch g.B w h
abbrev UC:=Ev->(W->Ev->Prop)->Prop
abbrev YK:=Ev->(List W->Ev->Prop)->Prop
noncomputable def tP(X:Cx)(M:Ms)(R:Addr->Prop)(t:UC):TE:=λe H Q=>∃A c f P,SR X.K M A c e H f/\ER X c R/\t f P/\∀d w v b a,P w a->Go A H d b->SR X.K M d c e b a->Rep X.K d.B b w v->Q v b
noncomputable def tPA(X:Cx)(M:Ms)(R:Addr->Prop)(t:YK):TA:=λe H Q=>∃A c f P,SR X.K M A c e H f/\ER X c R/\t f P/\∀d g h b a,P g a->Go A H d b->SR X.K M d c e b a->ak X.K d.B b g h->Q h b
abbrev VP(X:Cx)(M:Ms)(R:Addr->Prop)(e:Expr)(t:UC):Prop:=PE X e (tP X M R t)
abbrev UD(X:Cx)(M:Ms)(R:Addr->Prop)(es:List Expr)(t:YK):Prop:=PA X es (tPA X M R t)
section
variable{X:Cx}{M:Ms}{R:Addr->Prop}{m m0:Md}{e a b c:Expr}{es rest:List Expr}{t ta tb:UC}{tl:YK}{pos apos cpos p:Pos}{i j:Nat}{st:Stmt}{x:Str}{π:List oE}
theorem YL{t:WT}(h:VE X M R .s e t):VP X M R e (λd Q=>t d λw=>Q w d):=PE.imp h<|by rintro o H Q ⟨A,l,d,P,S,g,h,k⟩;exact⟨A,l,d,_,S,g,h,λw v n f s r=>k A w v n d f (.same s) (S.same s) r.cg⟩
theorem UE(E:(i,.f)∈M)(C:PE X e (qL i))(n:attributeBase e "pop" X.env (eval e X.env)=eval e X.env)(d:(apos.endLine==cpos.line)=true):
 VP X M R (.Call (.Attribute e "pop" apos) [] [] cpos) (λs Q=>match look s i with|some (.lst l)=>∃w,l[l.length -1]?=some w/\Q w (s.set i (some (.lst l.dropLast)))|_=>False):=
 PE.imp (JF va PySem.F.slot_list_pop PySem.F.type_list_pop S5 C n d)<|by rintro T H Q ⟨A,H0,s,P,S,Z,h,k⟩;obtain⟨l,L,w,K,h⟩:=DE h;obtain⟨U,q,r,I,G,y,u,Y,o⟩:=pM (π:=[]) S E md0 L Uu;cases G;obtain⟨v,J,D⟩:=u.get K;obtain⟨B,O,a2,a3,N,z⟩:=o H (aE.refl H) l.dropLast r.dropLast u.dropLast;rw[Uv]at z;have g:Go A H B (upd H q (.lst r.dropLast)):=⟨O,a2,a3,N⟩;exact⟨_,I,.inl ⟨rfl,r,.inl (.inl y)⟩,q,r,v,rfl,rfl,y,by rw[u.len];exact J,k B w v _ _ h g z (g.rep D)⟩
theorem UG{op:Operator}(ha:VP X M R a ta)(hb:VP X M R b tb):VP X M R (.BinOp a op b pos) (λD Q=>ta D λx E=>tb E λy f=>jJ op x y λz=>Q z f):=by rintro n s L H Q I ⟨A,J,D,P,S,T,p,k⟩;refine wpAny_BinOp (bin ha hb I (R:=λC q l=>∃x y d f,jJ op x y (λz=>P z f)/\Go A H d l/\SR X.K M d J L l f/\Rep X.K d.B l x C/\Rep X.K d.B l y q) ⟨A,J,D,_,S,T,p,λA1 x C H1 E G g1 S1 Z=>⟨A1,J,E,_,S1,T,G,λd y q l f F O o Y=>⟨x,y,d,f,F,g1.trans O,o,O.rep Z,Y⟩⟩⟩ ?_);rintro v u U C q l I2 rv ru ⟨x,y,d,f,h,g,o,G,F⟩;exact Dw op n U L l d.B x y C q v u _ Q I2 o.dom rv ru G.b F.b h λw z H' pw N r=>k d w z H' f pw (g.trans (.same N)) (o.same N) (r.rep o.dom)
theorem UH{op:CmpOp}(hu:X.A.units+64<cLine)(hm:behindInMarks op b=false)(ha:VP X M R a ta)(hb:VP X M R b tb):VP X M R (.Compare a [op] [b] pos) (λD Q=>ta D λx E=>tb E λy f=>ie op x y λz=>Q z f):=by rintro n s L H Q I ⟨A,J,D,P,S,T,p,k⟩;refine wpAny_Compare1 (bin ha hb I (R:=λC q l=>∃x y d f,ie op x y (λz=>P z f)/\Go A H d l/\SR X.K M d J L l f/\Rep X.K d.B l x C/\Rep X.K d.B l y q) ⟨A,J,D,_,S,T,p,λA1 x C H1 E G g1 S1 Z=>⟨A1,J,E,_,S1,T,G,λd y q l f F O o Y=>⟨x,y,d,f,F,g1.trans O,o,O.rep Z,Y⟩⟩⟩ ?_) hm;rintro v u U C q l I2 rv ru ⟨x,y,d,f,h,g,o,G,F⟩;exact Dy hu op n U L l d.B x y C q v u _ Q I2 o.dom rv ru G.b F.b h λw z H' pw N r=>k d w z H' f pw (g.trans (.same N)) (o.same N) (r.rep o.dom)
theorem ON:UD X M R [] (λd Q=>Q [] d):=PA.imp bf<|by rintro f H Q ⟨A,l,d,P,S,g,h,k⟩;exact k A [] [] H d h (.same (aE.refl H)) S .nil
theorem Lg(w:starEach (a::es) X.env=(false,eval a X.env)::starEach es X.env)(z:VP X M R a ta)(y:UD X M R es tl):UD X M R (a::es) (λd Q=>ta d λx g=>tl g λn f=>Q (x::n) f):=
 PA.imp (aq z y w)<|by rintro I H Q ⟨A,r,d,P,S,q,h,k⟩;refine⟨A,r,d,_,S,q,h,λG x J L g v B D s=>⟨G,r,g,_,D,q,v,λF n K E f l o C u=>?_⟩⟩;exact k F _ _ E f l (B.trans o) C (.cons (o.rep s) u)
theorem YM(O:oW b)(U:VP X M R a ta)(T:VP X M R b tb):VP X M R (.Subscript a b pos) (λr Q=>ta r λx B=>tb B λy g=>TN x y λz=>Q z g):=PE.imp (JC CW U T O)<|by
 rintro σ H Q ⟨A,L,r,P,S,K,h,k⟩;refine⟨A,L,r,_,S,K,h,λZ x vx H1 B N E Y f=>⟨Z,L,B,_,Y,K,N,λJ y vy I g d q G u=>?_⟩⟩;have f:=(q.rep f).b;cases x with
 |lst l=>
  cases y with
  |int i=>obtain⟨p,s,rfl,o,D⟩:=f.lst;obtain⟨w,e,d⟩:=d;obtain⟨v,F,C⟩:=FP D e;exact .inl ⟨p,s,i,v,rfl,u.int_inv,.inl o,F,k J _ _ I g d (E.trans q) G C⟩
  |_=>exact d.elim
 |tup l=>
  cases y with
  |int i=>obtain⟨p,s,rfl,o,D⟩:=f.tup;obtain⟨w,e,d⟩:=d;obtain⟨v,F,C⟩:=FP D e;exact .inr (.inl ⟨p,s,i,v,rfl,u.int_inv,o,F,k J _ _ I g d (E.trans q) G C⟩)
  |_=>exact d.elim
 |g9 ns=>
  cases y with
  |int i=>obtain⟨p,rfl,o⟩:=f.g9;obtain⟨n,e,d⟩:=d;exact .inl ⟨p,_,i,_,rfl,u.int_inv,o,FQ e,k J _ _ I g d (E.trans q) G (jL _)⟩
  |_=>exact d.elim
 |_=>exact d.elim
theorem ak.bl{K:Frag}{B:Addr->Prop}{H:Hp}:∀{d:List W}{vs:List V},ak K B H d vs->rZ K B H d vs
 |[],_,h=>h.nil_inv
 |w::d,_,h=>by obtain⟨v,r,rfl,g,f⟩:=h.cons_inv;exact⟨v,r,rfl,g.b,f.bl⟩
theorem UI{y:BI}{s:String}(N:e9 X (.builtin s) (WR X.K y))(J:Gl X x)(I:X.mg x=none)(F:bootBuiltins x=some (.builtin s))(O:UD X M R (e::es) tl)(G:x≠"__name__")(n:(x==("__debug__":Str))=false)
 (L:starEach (e::es) X.env=(false,eval e X.env)::starEach es X.env)(l:(backTo pos (starEach es X.env)).any (·.1)=false):VP X M R (.Call (.Name x p) (e::es) [] pos) (λf Q=>tl f λg d=>wm y g λw=>Q w d):=
 PE.imp (cO N J I F O G n L l)<|by rintro σ H Q ⟨A,Y,f,P,S,U,h,k⟩;exact⟨A,Y,f,_,S,U,h,λz g vs H1 u E T o C=>⟨z.B,g,λw=>P w u,o.dom,C.bl,E,λw v Z D q r=>k z w v Z u D (T.trans (.same q)) (o.same q) (r.rep o.dom)⟩⟩
theorem OO(o:∀{q:TE},PE X e q->PS X st (tW q (kJ j)))(z:¬bI M j){tt:(Addr->Prop)->UC}(B:∀R,VP X M R e (tt R)):VS X M m st (λd n=>tt d.ex n λw f=>d.nx (f.set j (some w))):=by rintro l s u H D I ⟨A,G,n,d,S,C,hz,h,k⟩;exact o (B d.ex) l s u H D I ⟨A,G,n,_,S,C,h,λJ w v F f y g E r=>k.nx J _ _ F g.ab g.s0 y (E.set z r)⟩
theorem FU{tt:(Addr->Prop)->UC}(o:∀R,PS X st (EK (tP X M R (tt R)))):VS X M m st (λd n=>tt d.ex n λw f=>d.nx f):=by rintro l s q H D I ⟨A,C,n,d,S,y,hz,h,k⟩;exact o d.ex l s q H D I ⟨A,C,n,_,S,y,h,λE w v B f u g z r=>k.nx E _ _ B g.ab g.s0 u z⟩
theorem UJ{te:(Addr->Prop)->WT}(y:∀R,VE X M R .s e (te R))(z:(0,m0)∈M):VS X M (.io m0) (.Return (some e) pos) (λd f=>te d.ex f λw=>match look f 0 with|some o=>(d.rt (.tup [w,o]))|none=>False):=by
 rintro g s u H D I ⟨A,E,f,d,S,B,hz,h,k⟩;refine tU (y d.ex) g s u H D I ⟨A,E,f,_,S,B,h,λw v C l q r=>?_⟩;cases n:look f 0 with
 |none=>rw[n]at l;exact l.elim
 |some o=>rw[n]at l;exact k.rt _ v C l (S.sm.trans q) (zo (S.same q) z n (aw.mp hz) r.cg)
theorem UK(q:(0,m0)∈M):VS X M (.io m0) (.Return none pos) (λd g=>match look g 0 with|some n=>(d.rt (.tup [.bC,n]))|none=>False):=by
 rintro f s o H D I ⟨A,u,g,d,S,r,hz,h,k⟩
 try dsimp only at h
 cases l:look g 0 with
 |none=>rw[l]at h;exact h.elim
 |some n=>rw[l]at h;exact EL f s o H D I (k.rt _ _ H h S.sm (zo S q l (aw.mp hz) Yu))
end
section
variable{X:Cx}{M:Ms}{R:Addr->Prop}{m m0:Md}{e o a b c:Expr}{es rest:List Expr}{t ta tb:UC}{tl:YK}{pos apos cpos p:Pos}{i j n:Nat}{st:Stmt}{x:Str}{π:List oE}
theorem OP{k n:Nat}{fv:Value}{sp:cA}(F:gf X.prog X.w X.K X.mg X.base k fv n (Rf X.K n m sp))(hr:fy k X.A)(hg:Gl X x)(hm:X.mg x=some fv)
 (hn:∀d P R,sp d P R->d.length=n)(ha:UD X M R (e::es) tl)(N:(x==("__debug__":Str))=false)(he:starEach (e::es) X.env=(false,eval e X.env)::starEach es X.env)(L:(backTo pos (starEach es X.env)).any (·.1)=false):
 VP X M R (.Call (.Name x p) (e::es) [] pos) (λD Q=>tl D λd z=>sp d (λw=>Q w z) R):=by
 rintro q s U H Q I ⟨A,H0,D,P,S,er,h,kk⟩;obtain⟨E,Y,Z,hR⟩:=er;refine kA (mJ I hg hm ?_ N);refine tI (h₀:=X.base) I.ok.mod.Sa F.keep (cM (ha pos q s U H (λG u=>∃d f g,Go A H f u/\SR X.K M f H0 U u g/\ak X.K f.B u d G/\sp d (λw=>P w g) R) I ⟨A,H0,D,_,S,⟨E,Y,Z,hR⟩,h,λf d G u g hw O l J=>⟨d,f,g,O,l,J,hw⟩⟩) λus s1 hz=>?_) he L;obtain⟨G,u,I1,r,d,f,g,O,l,J,CV⟩:=hz;exact⟨I1.oR,F.run hr Y I1 r ⟨f.B,d,_,R,hn _ _ _ CV,J,l.dom,CV,λw v T pw y r'=>kk f w v T g pw (O.trans (.same y)) (l.same y) (r'.rep l.dom),λC T rc y=>Z C T rc (l.sm.trans y)⟩⟩
theorem Rg{K:Frag}{A:Fz}{J H:Hp}{σ:St}{l:Ev}{k:W}{sp:cA}{g:List W}{vs:List V}{P:W->Ev->Prop}{Q:VK}{E:XK}{q:V}(S:SR K M A J σ H l)(D:(i,m0)∈M)(N:look l i=some k)(L:σ[i]?=some (some q))(rs:ak K A.B H g vs)(hn:g.length+1=n)
 (h:sp (k::g) (λr=>∃w y,r=.tup [w,y]/\P w (l.set i (some y))) R)(hE:∀C H',R C->aE J H'->E (.ref C) none H')(Z:∀f w v H' d,P w d->Go A H f H'->SR K M f J σ H' d->Rep K f.B H' w v->Q v H'):YF K n m0 sp (q::vs) H Q E:=by
 obtain⟨F,O⟩:=S.ow;obtain⟨v,T,h2⟩:=O.val i m0 k D N;rw[L]at T;cases T;have G:bI M i:=⟨m0,D⟩;have U:∀p,((A.B p/\p∉F i)\/p∈F i)->A.B p:=λp z=>by
  rcases z with z|z
  ·exact z.1
  ·exact(O.all p).mpr (.inr ⟨i,G,z⟩)
 refine⟨λp=>A.B p/\p∉F i,F i,k,q,g,vs,_,R,rfl,hn,O.nd i G,λp hp z=>z.2 hp,λp z=>S.dom p z.1,Fp.mv (aE.refl _) (λp _ _ z=>U p z) m0 h2,rs.less U,h,λw y v F' H' u I nd nw fp s=>?_,λC H' Y I=>hE C H' Y λp o e=>?_⟩
 ·obtain⟨w',y',e,u⟩:=u;cases e;obtain⟨f,a1,a2,aB,a3,a4,S'⟩:=O.chg (F':=F') S D N L (λp o e=>(I p o e).imp (λz=>⟨z.1,z.2⟩) id) nd nw fp;exact Z f w v H' _ u ⟨a1,a2,a3,a4⟩ S' (s.less λp z=>(aB p).mp z)
 ·rcases I p o (S.sm p o e)with⟨_,z⟩|z
  ·rw[O.nw i p G z]at e;cases e
  ·exact z
theorem UL{pl:Sem Bool}{G:W}{k n:Nat}{f:Addr}{fd:FuncData}{ps fs:List Str}{ms:List Md}{sp:cA}(hG:∀C,G=.cls C->Meth X.K C x f)(F:aN X.prog X.w X.K X.mg X.base (dD X.prog X.w) k f fd ps (YF X.K n (.o fs ms) sp))(hr:fy k X.A)(hb:Binds X.K fd ps [])(hi:(i,.o fs ms)∈M)(hx:fs.contains x=false)
 (hn:∀D P R,sp D P R->D.length=n)(hv:PE X o (qL i))(ha:UD X M R (e::es) tl)(hst:starEach (e::es) X.env=(false,eval e X.env)::starEach es X.env)(hpl:(backTo pos (starEach es X.env)).any (·.1)=false)
 (ht:eval (.Call (.Attribute o x apos) (e::es) [] pos) X.env=(do
   let ov←eval o X.env
   standAt apos.atName
   let(f,first)←holding [ov] (getMethod ov x pl)
   callWith pos f first (backTo pos (starEach (e::es) X.env)) (backToKw pos (keywordEach [] X.env)))):
 VP X M R (.Call (.Attribute o x apos) (e::es) [] pos) (λZ Q=>match look Z i with|some (.obj C _ _)=>G=.cls C/\(tl Z λD J=>match look J i with|some N=>sp (N::D) (λr=>∃w y,r=.tup [w,y]/\Q w (J.set i (some y))) R|none=>False)|_=>False):=by
 rintro L s σ H Q I ⟨A,H0,Z,P,S,er,h,kk⟩;obtain⟨E,pE,hE,hR⟩:=er
 try dsimp only at h
 cases hl:look Z i with
 |none=>rw[hl]at h;exact h.elim
 |some w1=>
  rw[hl]at h;cases w1 with
  |obj C fs' ws1=>
   obtain⟨hg,h⟩:=h;obtain⟨F0,O0⟩:=S.ow;obtain⟨v0,hv0,YN⟩:=O0.val i _ _ hi hl;rw[Fp]at YN;obtain⟨C',dx,rY,q,Z5,F',e1,rfl,e3,h1,h2,hc,_⟩:=YN;cases e1;have lk:(fs.zip Z5).lookup x=none:=by
    have:∀(l:List Str)(r:List V),l.contains x=false->(l.zip r).lookup x=none:=λl=>by
     induction l with
     |nil=>intro r _;rfl
     |cons y l ih=>
      intro r hx;cases r with
      |nil=>rfl
      |cons z r=>rw[List.contains_cons,Bool.or_eq_false_iff]at hx;rw[List.zip_cons_cons,List.lookup_cons,hx.1];exact ih r hx.2
    exact this fs Z5 hx
   have mt:=hG C hg;refine PySem.W.methodCall_KW (pl:=pl) (cM (hv L s σ H (λv' H'=>v'=V.ref q/\H'=H) I ⟨_,hv0,rfl,rfl⟩) λu s1 ⟨x1,H1,I1,rx,ex,eh⟩=>?_) ht;subst ex;subst eh;obtain rfl:u=Value.ref q:=rx;refine t9 I1 h1 hc.1 mt lk ?_;refine tI (first:=[.ref q]) (h₀:=X.base) I.ok.mod.Sa mt.kp (cM (ha pos L s1 σ H1 (λvs' U=>∃D Y O N,Go A H1 Y U/\SR X.K M Y H0 σ U O/\ak X.K Y.B U D vs'/\look O i=some N/\sp (N::D) (λr=>∃w y,r=.tup [w,y]/\P w (O.set i (some y))) R) I1 ⟨A,H0,Z,_,S,⟨E,pE,hE,hR⟩,h,λY D vs H1 O T g1 S1 rs=>?_⟩) λus s2 hz=>?_) hst hpl
   ·try dsimp only at T
    cases d:look O i with
    |none=>rw[d]at T;exact T.elim
    |some N=>rw[d]at T;exact⟨D,Y,O,N,g1,S1,rs,d,T⟩
   ·obtain⟨vs,H2,I2,r,D,Y,O,N,g1,S1,rs,d,CV⟩:=hz;refine⟨I2.oR,CU (us:=.ref q::us) (vs:=.ref q::vs) (ds:=[]) (Jy:=[]) F hr hb .nil pE I2 (.cons rfl r) ?_⟩;rw[Kx];exact Rg S1 hi d hv0 rs (by have:=hn _ _ _ CV;simpa using this) CV hE λA' w v H' J T g S' rr=>kk A' w v H' J T (g1.trans g) S' rr
  |_=>exact h.elim
end
theorem UM{x:Str}:∀(l:List Str)(r:List V),l.contains x=false->(l.zip r).lookup x=none:=λl=>by
 induction l with
 |nil=>intro r _;rfl
 |cons y l b=>
  intro r a;cases r with
  |nil=>rfl
  |cons z r=>rw[List.contains_cons,Bool.or_eq_false_iff]at a;rw[List.zip_cons_cons,List.lookup_cons,a.1];exact b r a.2
theorem UN{x:Str}{n:Nat}{v:V}:∀(l:List Str)(r:List V)(n:Nat),l.Nodup->l[n]?=some x->r[n]?=some v->(l.zip r).lookup x=some v:=λl=>by
 induction l with
 |nil=>intro r n _ e _;exact nn e
 |cons y l g=>
  intro r n b c a;cases r with
  |nil=>exact nn a
  |cons z r=>
   rw[List.zip_cons_cons,List.lookup_cons];cases n with
   |zero=>
    cases c;cases a;rw[uk]
   |succ n=>
    have d:l[n]?=some x:=by simpa using c
    have f:(x==y)=false:=by rw[kv];rintro rfl;exact(Tb.mp b).1 (KB d)
    rw[f];exact g r n (Tb.mp b).2 d (by simpa using a)
theorem OQ{x:Str}{v:V}:∀(l:List Str)(r:List V)(n:Nat),l.Nodup->l[n]?=some x->r.length=l.length->kg x v (l.zip r)=l.zip (r.set n v):=λl=>by
 induction l with
 |nil=>intro r n _ e _;exact nn e
 |cons y l g=>
  intro r n b d c;cases r with
  |nil=>cases c
  |cons z r=>
   cases n with
   |zero=>
    cases d;rw[List.set_cons_zero,List.zip_cons_cons,List.zip_cons_cons,kg];rw[Bn (by first|rfl|simp)]
   |succ n=>
    have f:l[n]?=some x:=by simpa using d
    have a:y≠x:=by rintro rfl;exact(Tb.mp b).1 (KB f)
    rw[List.set_cons_succ,List.zip_cons_cons,List.zip_cons_cons,kg];rw[Bi (by first|exact a|simpa using a),g r n (Tb.mp b).2 f (by simpa using c)]
section
variable{X:Cx}{M:Ms}{R:Addr->Prop}{m m0:Md}{e o a b c:Expr}{es rest:List Expr}{t ta tb:UC}{tl:YK}{pos apos cpos p:Pos}{i j n:Nat}{st:Stmt}{x:Str}{π:List oE}
theorem OR{pl:Sem Bool}{G:W}{k n:Nat}{f:Addr}{Z:FuncData}{ps D:List Str}{U:List Md}{sp:cA}(hG:∀C,G=.cls C->Meth X.K C x f)(F:aN X.prog X.w X.K X.mg X.base (dD X.prog X.w) k f Z ps (YF X.K n (.o D U) sp))(hr:fy k X.A)(hb:Binds X.K Z ps [])(Y:(i,.o D U)∈M)(hx:D.contains x=false)
 (hn:∀O P R,sp O P R->O.length=n)(hv:PE X o (qL i))
 (ht:eval (.Call (.Attribute o x apos) [] [] pos) X.env=(do
   let ov←eval o X.env
   standAt apos.atName
   let(f,first)←holding [ov] (getMethod ov x pl)
   callWith pos f first (backTo pos (starEach [] X.env)) (backToKw pos (keywordEach [] X.env)))):
 VP X M R (.Call (.Attribute o x apos) [] [] pos) (λd Q=>match look d i with|some (.obj C _ _)=>G=.cls C/\(match look d i with|some w0=>sp [w0] (λr=>∃w y,r=.tup [w,y]/\Q w (d.set i (some y))) R|none=>False)|_=>False):=by
 rintro l s σ H Q I ⟨A,H0,d,P,S,er,h,kk⟩;obtain⟨E,pE,hE,hR⟩:=er
 try dsimp only at h
 cases B:look d i with
 |none=>rw[B]at h;exact h.elim
 |some w1=>
  rw[B]at h;cases w1 with
  |obj C fs' ws1=>obtain⟨hg,h⟩:=h;obtain⟨F0,O0⟩:=S.ow;obtain⟨v0,z,YN⟩:=O0.val i _ _ Y B;rw[Fp]at YN;obtain⟨C',dx,rY,q,Z5,F',e1,rfl,e3,h1,h2,hc,_⟩:=YN;cases e1;have T:=hG C hg;refine PySem.W.methodCall_KW (pl:=pl) (cM (hv l s σ H (λv' N=>v'=V.ref q/\N=H) I ⟨_,z,rfl,rfl⟩) λu s1 ⟨x1,H1,L,rx,ex,eh⟩=>?_) ht;subst ex;subst eh;obtain rfl:u=Value.ref q:=rx;refine t9 L h1 hc.1 T (UM D Z5 hx) ?_;refine PySem.W.callWith_K0 (first:=[.ref q]) L.oR T.kp (CU (us:=[.ref q]) (vs:=[.ref q]) (ds:=[]) (Jy:=[]) F hr hb .nil pE L (.cons rfl .nil) ?_);exact Rg S Y B z .nil (by have:=hn _ _ _ h;simpa using this) h hE λA' w v N J hw g S' rr=>kk A' w v N J hw g S' rr
  |_=>exact h.elim
theorem SR.more{K:Frag}{A:Fz}{r H H1:Hp}{σ:St}{h:Ev}{G:List Addr}(S:SR K M A r σ H h)(s:aE H H1)(nw:∀q∈G,H q=none)(ex:∀q∈G,∃o,H1 q=some o):SR K M ⟨λq=>A.ab q\/q∈G,λq=>A.B q\/q∈G,A.s0⟩ r σ H1 h:=by
 obtain⟨F,O⟩:=S.ow;have l:∀p o,H p=some o->(A.B p\/p∈G)->A.B p:=λp o e z=>by
  rcases z with z|z
  ·exact z
  ·rw[nw p z]at e;cases e
 refine⟨S.len,λi w d e=>?_,S.sm.trans s,λp z=>?_,S.sl,F,⟨O.un,λi m w u e=>?_,O.emp,O.nd,O.ds,O.nw,λi p d k z=>?_,λp=>?_⟩⟩
 ·obtain⟨v,g,f⟩:=S.sh i w d e;exact⟨v,g,Rep.mv s l w f⟩
 ·rcases z with z|z
  ·exact S.dm.same s p z
  ·exact ex p z
 ·obtain⟨v,g,f⟩:=O.val i m w u e;exact⟨v,g,Fp.mv s l m f⟩
 ·rcases z with z|z
  ·exact O.na i p d k z
  ·obtain⟨o,e,_⟩:=O.has d k;rw[nw p z]at e;cases e
 ·show(A.B p\/p∈G)↔_;rw[O.all p];constructor
  ·rintro((z|z)|z)
   ·exact .inl (.inl z)
   ·exact .inr z
   ·exact .inl (.inr z)
  ·rintro((z|z)|z)
   ·exact .inl (.inl z)
   ·exact .inr z
   ·exact .inl (.inr z)
theorem UO(h:PE X e (qL i)):PE X e (uL X.K i []):=PE.imp h<|by rintro g H Q ⟨v,u,f,d,q⟩;cases d;exact⟨v,f,q⟩
theorem Aj.ix{K:Frag}{H:Hp}{n:Nat}:∀(π:List oE){v u:V},Aj K H v (π++[.ix n]) u->∃p vs,Aj K H v π (.ref p)/\H p=some (.tup vs)/\vs[n]?=some u
 |[],v,u,h=>by obtain⟨p,vs,x,e,k,g,f⟩:=h;cases f;exact⟨p,vs,by rw[e];rfl,k,g⟩
 |.ix m::π,v,u,h=>by obtain⟨p,vs,x,e,k,g,f⟩:=h;obtain⟨q,d,a,b,c⟩:=Aj.ix π f;exact⟨q,d,⟨p,vs,x,e,k,g,a⟩,b,c⟩
 |.fl m _::π,v,u,h=>by obtain⟨p,vs,x,e,k,g,f⟩:=h;obtain⟨q,d,a,b,c⟩:=Aj.ix π f;exact⟨q,d,⟨p,vs,x,e,k,g,a⟩,b,c⟩
theorem YO(h:PE X a (uL X.K i π))(k:PE X b (tC (.int n)))(f:oW b):PE X (.Subscript a b pos) (uL X.K i (π++[.ix n])):=
 PE.imp (JC CW h k f)<|by rintro z H Q ⟨v,u,y,w,g⟩;obtain⟨q,d,r,s,l⟩:=Aj.ix π w;exact⟨v,.ref q,y,r,.inr (.inl ⟨q,d,n,u,rfl,rfl,mK.of s,b8 l,g⟩)⟩
theorem Aj.fl{K:Frag}{H:Hp}{n:Nat}{f:Str}:∀(π:List oE){v u:V},Aj K H v (π++[.fl n f]) u->∃p vs C k d,Aj K H v π (.ref p)/\H p=some (.ins C k (List.zip d vs))/\Dv K C d/\d[n]?=some f/\vs[n]?=some u
 |[],v,u,h=>by obtain⟨p,vs,x,e,⟨C,k,d,s,_,y,w⟩,r,l⟩:=h;cases l;exact⟨p,vs,C,k,d,by rw[e];rfl,s,y,w,r⟩
 |.ix m::π,v,u,h=>by obtain⟨p,vs,x,e,s,r,l⟩:=h;obtain⟨q,g,C,k,d,a,b,c⟩:=Aj.fl π l;exact⟨q,g,C,k,d,⟨p,vs,x,e,s,r,a⟩,b,c⟩
 |.fl m _::π,v,u,h=>by obtain⟨p,vs,x,e,s,r,l⟩:=h;obtain⟨q,g,C,k,d,a,b,c⟩:=Aj.fl π l;exact⟨q,g,C,k,d,⟨p,vs,x,e,s,r,a⟩,b,c⟩
theorem UP{f:Str}(h:PE X a (uL X.K i π))(s:attributeBase a f X.env (eval a X.env)=eval a X.env):PE X (.Attribute a f pos) (uL X.K i (π++[.fl n f])):=
 PE.imp (SM h s)<|by rintro E H Q ⟨v,u,A,z,l⟩;obtain⟨q,k,C,D,B,r,y,d,g,w⟩:=Aj.fl π z;exact⟨v,.ref q,A,r,q,C,D,_,u,rfl,y,d.1,d.2.2.2 f (KB g),UN (v:=u) (n:=n) B k n d.2.2.1 g w,l⟩
theorem UQ{f:Str}{g:List Str}{U:List Md}{te:(Addr->Prop)->WT}(hps:∀{tv:TE},PE X e tv->PS X st (XH X.K (qL i) tv f))(J:(i,.o g U)∈M)(hf:g[n]?=some f)(hm:U[n]?=some .s)(he:∀R,VE X M R .s e (te R)):
 VS X M m st (λd y=>te d.ex y λw=>match look y i with|some (.obj C g u)=>n<u.length/\d.nx (y.set i (some (.obj C g (u.set n w))))|_=>False):=by
 rintro L s σ H D I ⟨A,H0,y,d,S,er,hz,h,k⟩;refine hps (he d.ex) L s σ H D I ⟨A,H0,y,_,S,er,h,λw v H1 l s1 r=>?_⟩
 try dsimp only at l
 cases Y:look y i with
 |none=>rw[Y]at l;exact l.elim
 |some w1=>
  rw[Y]at l;cases w1 with
  |obj C fs' u=>
   obtain⟨hn,l⟩:=l;have S1:=S.same s1;obtain⟨F,O⟩:=S1.ow;obtain⟨v0,P,fp⟩:=O.val i _ _ J Y;rw[Fp]at fp;obtain⟨C',T,rY,q,E,F',e1,rfl,e3,Z,h2,Q,h3⟩:=fp;cases e1;have r:=r.cg;have hB:A.B q:=(O.all q).mpr (.inr ⟨i,⟨_,J⟩,by rw[e3];exact FV⟩);obtain⟨w0,hw0⟩:∃w0,u[n]?=some w0:=⟨_,B1 hn⟩;obtain⟨v1,F1,G,F2,q1,e4,q3,q4⟩:=gh.at U h3 hm hw0;rw[Fp]at q3;obtain⟨rfl,_⟩:=q3;have cB:Ai A.B H1 (upd H1 q (.ins C T (g.zip (E.set n v)))):=.put Z rfl hB;have nin:q∉F':=by have:=O.nd i ⟨_,J⟩;rw[e3]at this;exact(Tb.mp this).1
   have fp':gh X.K A.B (upd H1 q (.ins C T (g.zip (E.set n v)))) U (u.set n w) (E.set n v) F':=by
    rw[e4];refine q4 _ A.B w v [] ?_ (λp o e=>?_) (λ_ _ _ z=>z)
    ·rw[Fp];exact⟨rfl,Rep.chg cB (λ_ _ _ z=>z) w r⟩
    ·by_cases N:p=q
     ·subst N;rw[Z]at e;cases e;refine .inl ⟨rfl,hB,λz=>nin ?_⟩;rw[e4];rcases Iy.mp z with z|z<;>simp[z]
     ·exact .inr (by rw[ao N];exact e)
   refine⟨_,P,q,C,T,_,rfl,Z,Q.1,Q.2.2.2 f (KB hf),?_,?_⟩
   ·rw[List.length_zip,h2,Nat.min_self];exact Q.2.1
   ·rw[OQ g E n Q.2.2.1 hf h2];obtain⟨A',a1,a2,_,_,_,S'⟩:=O.chg (F':=F i) (H1:=upd H1 q (.ins C T (g.zip (E.set n v)))) (w':=.obj C g (u.set n w)) S1 J Y P (λp o e=>by
     by_cases N:p=q
     ·subst N;rw[Z]at e;cases e;exact .inl ⟨rfl,by rw[e3];exact FV⟩
     ·exact .inr (by rw[ao N];exact e)) (O.nd i ⟨_,J⟩) (λp hp=>.inl hp) (Fp.mv (aE.refl _) (λp _ _ z=>by
      rcases z with z|z
      ·exact z.1
      ·exact(O.all p).mpr (.inr ⟨i,⟨_,J⟩,z⟩)) _ (by rw[Fp];exact⟨C,T,u.set n w,q,E.set n v,F',rfl,rfl,e3,aD,by rw[Qb];exact h2,Q,fp'⟩))
    exact k.nx A' _ _ _ a1 a2 l S'
  |_=>exact l.elim
end
end VL
namespace L2
open PySem PySem.Spec PyProof.Rows
section
variable{pr:Program}{wo:World}{B:Around}{EE:Value->Shared->Prop}
end
section
variable{X:Cx}{pos:Pos}
end
end L2
namespace VL
open PySem PySem.Spec
open PyProof.Rows hiding St
open L2
section
variable{K:Frag}{M M':Ms}{A:Fz}{H0 H H1:Hp}{σ:St}{ε:Ev}
theorem SR.take(S:SR K M' A H0 σ H ε){i:Nat}{m:Md}{w:W}{v:V}{F:List Addr}(l:∀x,x∈M↔x=(i,m)\/x∈M')(E:¬bI M' i)(s:i<ε.length)(nd:F.Nodup)(I:∀p∈F,A.ab p)(nw:∀p∈F,H0 p=none)(Q:Fp K A.B H m w v F):
 SR K M ⟨λp=>A.ab p/\p∉F,A.B,A.s0⟩ H0 (σ.set i (some v)) H (ε.set i (some w)):=by
 obtain⟨G,O⟩:=S.ow;have f:∀j,bI M j↔j=i\/bI M' j:=λj=>by
  constructor
  ·rintro⟨q,J⟩;rcases(l _).mp J with e|e
   ·cases e;exact .inl rfl
   ·exact .inr ⟨q,e⟩
  ·rintro(rfl|⟨q,J⟩)
   ·exact⟨m,(l _).mpr (.inl rfl)⟩
   ·exact⟨q,(l _).mpr (.inr J)⟩
 have C:∀j,bI M' j->j≠i:=λj c e=>by subst e;exact E c
 refine⟨by rw[Qb,Qb];exact S.len,λj y c e=>?_,S.sm,λp z=>S.dm p z.1,λu e=>?_,λj=>if j=i then F else G j,⟨λj P N a b=>?_,λj q y c e=>?_,λj c e=>?_,λj c=>?_,λj k p c L a b=>?_,λj p c d=>?_,λj p c d=>?_,λp=>?_⟩⟩
 ·have h:j≠i/\¬bI M' j:=⟨λz=>c ((f j).mpr (.inl z)),λz=>c ((f j).mpr (.inr z))⟩;rw[bD (RF h.1)]at e;obtain⟨u,t,r⟩:=S.sh j y h.2 e;exact⟨u,by rw[Kt (RF h.1)];exact t,r⟩
 ·obtain⟨t,r⟩:=S.sl u e;exact⟨by rw[Kt (RF (C 0 r))];exact t,(f 0).mpr (.inr r)⟩
 ·rcases(l _).mp a with a|a
  ·rcases(l _).mp b with b|b
   ·cases a;cases b;rfl
   ·cases a;exact(E ⟨_,b⟩).elim
  ·rcases(l _).mp b with b|b
   ·cases b;exact(E ⟨_,a⟩).elim
   ·exact O.un j P N a b
 ·rcases(l _).mp c with a|a
  ·cases a;have:=pK e;subst this;exact⟨v,SC (by rw[S.len];exact s),by rw[Bn rfl];exact Q⟩
  ·have n:=C j ⟨q,a⟩;rw[bD (RF n)]at e;obtain⟨u,t,r⟩:=O.val j q y a e;exact⟨u,by rw[Kt (RF n)];exact t,by rw[Bi n];exact r⟩
 ·by_cases n:j=i
  ·subst n;have:look (ε.set j (some w)) j=some w:=by rw[cu];exact SC s
   rw[this]at e;cases e
  ·rw[bD (RF n)]at e;rw[Bi n];exact O.emp j (((f j).mp c).resolve_left n) e
 ·by_cases n:j=i
  ·rw[Bn n];exact nd
  ·rw[Bi n];exact O.nd j (((f j).mp c).resolve_left n)
 ·by_cases o:j=i
  ·by_cases g:k=i
   ·rw[o,g]
   ·rw[Bn o]at a;rw[Bi g]at b;exact(O.na k p (((f k).mp L).resolve_left g) b (I p a)).elim
  ·by_cases g:k=i
   ·rw[Bi o]at a;rw[Bn g]at b;exact(O.na j p (((f j).mp c).resolve_left o) a (I p b)).elim
   ·rw[Bi o]at a;rw[Bi g]at b;exact O.ds j k p (((f j).mp c).resolve_left o) (((f k).mp L).resolve_left g) a b
 ·by_cases n:j=i
  ·rw[Bn n]at d;exact nw p d
  ·rw[Bi n]at d;exact O.nw j p (((f j).mp c).resolve_left n) d
 ·by_cases n:j=i
  ·rw[Bn n]at d;exact λz=>z.2 d
  ·rw[Bi n]at d;exact λz=>O.na j p (((f j).mp c).resolve_left n) d z.1
 ·constructor
  ·intro z;by_cases d:p∈F
   ·exact .inr ⟨i,(f i).mpr (.inl rfl),by rw[Bn rfl];exact d⟩
   ·rcases(O.all p).mp z with z|⟨j,c,D⟩
    ·exact .inl ⟨z,d⟩
    ·exact .inr ⟨j,(f j).mpr (.inr c),by rw[Bi (C j c)];exact D⟩
  ·rintro(z|⟨j,c,d⟩)
   ·exact(O.all p).mpr (.inl z.1)
   ·by_cases n:j=i
    ·rw[Bn n]at d;exact(O.all p).mpr (.inl (I p d))
    ·rw[Bi n]at d;exact(O.all p).mpr (.inr ⟨j,((f j).mp c).resolve_left n,d⟩)
end
section
variable{X:Cx}{M M':Ms}{m:Md}{st:Stmt}{te:(Addr->Prop)->WT}
end
theorem a2{a b:Bool}(z:(a&&b)=true):a=true/\b=true:=by cases a<;>cases b<;>first|exact⟨rfl,rfl⟩|exact ff z
theorem a3{a b c:Bool}(z:((a&&b)&&c)=true):(a=true/\b=true)/\c=true:=⟨a2 (a2 z).1,(a2 z).2⟩
structure SE where
 N:List Str
 nk:List (Str×NameKind)
 M:Ms
 fn:List Str
 gn:List Str
 zn:List Str
 md:List Md
 mt:List (Nat×Nat)
noncomputable def bO:List Md->Nat->Md
 |[],_=>.s
 |x::_,0=>x
 |_::l,n+1=>bO l n
noncomputable def UR:Md->Bool
 |.f=>true
 |_=>false
noncomputable def OS:Md->Bool
 |.s=>true
 |_=>false
noncomputable def Be(M:Ms)(i:Nat):Bool:=(M.lookup i).isSome
theorem pN{M:Ms}{i:Nat}(h:Be M i=false):¬bI M i:=by
 rintro⟨m,d⟩;unfold Be at h;have:∀M:Ms,(i,m)∈M->(M.lookup i).isSome=true:=λM=>by
  induction M with
  |nil=>intro z;cases z
  |cons x M c=>
   intro z;obtain⟨a,b⟩:=x;rw[List.lookup_cons];cases e:i==a with
   |true=>rfl
   |false=>
    rcases GT.mp z with z|z
    ·cases z;rw[uk]at e;cases e
    ·exact c z
 rw[this M d]at h;cases h
theorem lK{M:Ms}{i:Nat}{m:Md}(h:M.lookup i=some m):(i,m)∈M:=by
 induction M with
 |nil=>exact nn h
 |cons x M c=>
  obtain⟨a,b⟩:=x;rw[List.lookup_cons]at h;cases e:i==a with
  |true=>rw[e]at h;cases h;cases Nw.mp e;exact FV
  |false=>rw[e]at h;exact FR _ (c h)
noncomputable def Bf(M:Ms)(i:Nat):Bool:=match M.lookup i with
 |none=>true
 |some m=>UR m
theorem Bg{M:Ms}{i:Nat}(h:Bf M i=true):bI M i->(i,.f)∈M:=λa=>by
 unfold Bf at h;cases e:M.lookup i with
 |none=>exact(pN (by unfold Be;rw[e];rfl) a).elim
 |some m=>rw[e]at h;cases m<;>first|exact lK e|exact ff h
noncomputable def HR(M:Ms)(i:Nat):Bool:=match M.lookup i with
 |none=>false
 |some m=>UR m
theorem tw{M:Ms}{i:Nat}(h:HR M i=true):(i,.f)∈M:=by
 unfold HR at h;cases e:M.lookup i with
 |none=>rw[e]at h;exact ff h
 |some m=>rw[e]at h;cases m<;>first|exact lK e|exact ff h
noncomputable def SE.sc(S:SE):Scope:={kind:=.function,names:=S.nk,isGenerator:=false,isCoroutine:=false}
noncomputable def YQ(S:SE)(x:Str):Bool:=match S.nk.lookup x with
 |some .local=>true
 |some .cell=>true
 |some .free=>true
 |_=>false
noncomputable def okN(x:Str):Bool:=!(x==("__debug__":Str))&&!(x==("__classdict__":Str))&&!(x==("__name__":Str))
noncomputable def lM(S:SE)(x:Str):Bool:=(S.nk.lookup x==some .globalImplicit)&&okN x
noncomputable def tys:List String:=["int","bool","tuple","list","str","dict"]
noncomputable def zp:Expr->Bool
 |.Call _ _ _ _=>false
 |_=>true
noncomputable def pO(S:SE)(i:Nat):Expr->Bool
 |.Name x _=>S.N[i]?==some x&&YQ S x&&okN x
 |_=>false
noncomputable def mC(f:Const->Bool):Expr->Bool
 |.Constant c _ _=>f c
 |_=>false
noncomputable def oNm(f:Str->Pos->Bool):Expr->Bool
 |.Name x p=>f x p
 |_=>false
noncomputable def Bh(f:Str->Bool):Expr->Bool:=oNm λx _=>f x
noncomputable def o1{α:Type}(f:α->Bool):List α->Bool
 |[a]=>f a
 |_=>false
noncomputable def YR(f:Expr->List CmpOp->List Expr->Bool):Expr->Bool
 |.Compare l a rs _=>f l a rs
 |_=>false
noncomputable def xG(f:Expr->List Expr->Bool->Pos->Bool):Expr->Bool
 |.Call g b a p=>f g b a.isEmpty p
 |_=>false
noncomputable def HS(f:Expr->Str->Pos->Bool):Expr->Bool
 |.Attribute o m p=>f o m p
 |_=>false
noncomputable def oSl(f:Option Expr->Option Expr->Option Expr->Bool):Expr->Bool
 |.Slice l h t _=>f l h t
 |_=>false
noncomputable def oLC(f:Expr->List Comprehension->Scope->Bool):Expr->Bool
 |.ListComp x a s _=>f x a s
 |_=>false
noncomputable def Lh(f:Operator->Expr->Expr->Bool):Expr->Bool
 |.BinOp l o r _=>f o l r
 |_=>false
noncomputable def mUn(f:UnaryOp->Expr->Bool):Expr->Bool
 |.UnaryOp o x _=>f o x
 |_=>false
noncomputable def Li(f:CmpOp->Expr->Expr->Bool):Expr->Bool:=YR λl b a=>o1 (λo=>o1 (λr=>f o l r) a) b
noncomputable def o2{α:Type}(f:α->α->Bool):List α->Bool
 |a::l=>o1 (f a) l
 |_=>false
noncomputable def o3{α:Type}(f:α->α->α->Bool):List α->Bool
 |a::l=>o2 (f a) l
 |_=>false
noncomputable def mBo(f:BoolOp->List Expr->Bool):Expr->Bool
 |.BoolOp o a _=>f o a
 |_=>false
noncomputable def mIf(f:Expr->Expr->Expr->Bool):Expr->Bool
 |.IfExp t x y _=>f t x y
 |_=>false
noncomputable def HU(f:List Expr->Bool):Expr->Bool
 |.Tuple a _ _=>f a
 |_=>false
noncomputable def YS(f:List Expr->Bool):Expr->Bool
 |.List a _=>f a
 |_=>false
noncomputable def HV(f:Expr->Expr->Bool):Expr->Bool
 |.Subscript v s _=>f v s
 |_=>false
noncomputable def mSl(f:Expr->Option Expr->Option Expr->Bool):Expr->Bool:=HV λv s=>oSl (λl h t=>t.isNone&&f v l h) s
noncomputable def nq(f:Str->List Expr->Bool):Expr->Bool:=xG λg a k _=>k&&Bh (λx=>f x a) g
noncomputable def DF(f:Expr->Str->Pos->Pos->Bool):Expr->Bool:=xG λg b k c=>k&&b.isEmpty&&HS (λo m a=>f o m a c) g
noncomputable def Rh(f:Expr->Expr->Expr->List Expr->Scope->Bool):Expr->Bool:=oLC λx a s=>o1 (λg=>decide (g.is_async=0)&&f x g.target g.iter g.ifs s) a
theorem jl{f:Const->Bool}{e:Expr}(h:mC f e=true):∃c k p,e=.Constant c k p/\f c=true:=by cases e<;>first|exact⟨_,_,_,rfl,h⟩|exact ff h
theorem FW{f:Str->Pos->Bool}{e:Expr}(h:oNm f e=true):∃x p,e=.Name x p/\f x p=true:=by cases e<;>first|exact⟨_,_,rfl,h⟩|exact ff h
theorem Lj{f:Expr->List CmpOp->List Expr->Bool}{e:Expr}(h:YR f e=true):∃l a rs p,e=.Compare l a rs p/\f l a rs=true:=by cases e<;>first|exact⟨_,_,_,_,rfl,h⟩|exact ff h
theorem jM{f:Expr->List Expr->Bool->Pos->Bool}{e:Expr}(h:xG f e=true):∃g b a p,e=.Call g b a p/\f g b a.isEmpty p=true:=by cases e<;>first|exact⟨_,_,_,_,rfl,h⟩|exact ff h
theorem jN{f:Expr->Str->Pos->Bool}{e:Expr}(h:HS f e=true):∃o m p,e=.Attribute o m p/\f o m p=true:=by cases e<;>first|exact⟨_,_,_,rfl,h⟩|exact ff h
theorem OT{f:Option Expr->Option Expr->Option Expr->Bool}{e:Expr}(h:oSl f e=true):∃l r t p,e=.Slice l r t p/\f l r t=true:=by cases e<;>first|exact⟨_,_,_,_,rfl,h⟩|exact ff h
theorem OU{f:Expr->List Comprehension->Scope->Bool}{e:Expr}(h:oLC f e=true):∃x a s p,e=.ListComp x a s p/\f x a s=true:=by cases e<;>first|exact⟨_,_,_,_,rfl,h⟩|exact ff h
theorem iJ{α:Type}{f:α->Bool}{l:List α}(h:o1 f l=true):∃a,l=[a]/\f a=true:=by rcases l with _|⟨a,_|_⟩<;>first|exact⟨_,rfl,h⟩|exact ff h
theorem gm{f:Str->Bool}{e:Expr}(h:Bh f e=true):∃x p,e=.Name x p/\f x=true:=FW h
theorem qY{f:Operator->Expr->Expr->Bool}{e:Expr}(h:Lh f e=true):∃l o r p,e=.BinOp l o r p/\f o l r=true:=by cases e<;>first|exact⟨_,_,_,_,rfl,h⟩|exact ff h
theorem tD{f:UnaryOp->Expr->Bool}{e:Expr}(h:mUn f e=true):∃o x p,e=.UnaryOp o x p/\f o x=true:=by cases e<;>first|exact⟨_,_,_,rfl,h⟩|exact ff h
theorem xH{f:CmpOp->Expr->Expr->Bool}{e:Expr}(h:Li f e=true):∃l o r p,e=.Compare l [o] [r] p/\f o l r=true:=by obtain⟨l,g,d,p,rfl,c⟩:=Lj h;obtain⟨o,rfl,b⟩:=iJ c;obtain⟨r,rfl,a⟩:=iJ b;exact⟨_,_,_,_,rfl,a⟩
theorem tE{f:BoolOp->List Expr->Bool}{e:Expr}(h:mBo f e=true):∃o a p,e=.BoolOp o a p/\f o a=true:=by cases e<;>first|exact⟨_,_,_,rfl,h⟩|exact ff h
theorem OV{f:Expr->Expr->Expr->Bool}{e:Expr}(h:mIf f e=true):∃t x y p,e=.IfExp t x y p/\f t x y=true:=by cases e<;>first|exact⟨_,_,_,_,rfl,h⟩|exact ff h
theorem iK{f:List Expr->Bool}{e:Expr}(h:HU f e=true):∃a k p,e=.Tuple a k p/\f a=true:=by cases e<;>first|exact⟨_,_,_,rfl,h⟩|exact ff h
theorem Bj{f:List Expr->Bool}{e:Expr}(h:YS f e=true):∃a p,e=.List a p/\f a=true:=by cases e<;>first|exact⟨_,_,rfl,h⟩|exact ff h
theorem iL{f:Expr->Expr->Bool}{e:Expr}(h:HV f e=true):∃v s p,e=.Subscript v s p/\f v s=true:=by cases e<;>first|exact⟨_,_,_,rfl,h⟩|exact ff h
theorem FY{f:Expr->Option Expr->Option Expr->Bool}{e:Expr}(h:mSl f e=true):∃v l r q p,e=.Subscript v (.Slice l r none q) p/\f v l r=true:=by obtain⟨v,s,p,rfl,c⟩:=iL h;obtain⟨l,r,t,q,rfl,b⟩:=OT c;obtain⟨k,a⟩:=a2 b;rw[Option.isNone_iff_eq_none.mp k];exact⟨_,_,_,_,_,rfl,a⟩
theorem aW{f:Str->List Expr->Bool}{e:Expr}(h:nq f e=true):∃x q a p,e=.Call (.Name x q) a [] p/\f x a=true:=by obtain⟨g,a,i,p,rfl,d⟩:=jM h;obtain⟨k,c⟩:=a2 d;obtain⟨x,q,rfl,b⟩:=gm c;rw[HI.mp k];exact⟨_,_,_,_,rfl,b⟩
theorem oG{f:Expr->Str->Pos->Pos->Bool}{e:Expr}(h:DF f e=true):∃o m a c,e=.Call (.Attribute o m a) [] [] c/\f o m a c=true:=by obtain⟨g,n,j,p,rfl,i⟩:=jM h;obtain⟨⟨k,l⟩,d⟩:=a3 i;obtain⟨o,m,a,rfl,b⟩:=jN d;rw[HI.mp k,HI.mp l];exact⟨_,_,_,_,rfl,b⟩
theorem xJ{f:Expr->Expr->Expr->List Expr->Scope->Bool}{e:Expr}(h:Rh f e=true):∃d tg b c a p,e=.ListComp d [⟨tg,b,c,0⟩] a p/\f d tg b c a=true:=by obtain⟨x,m,s,p,rfl,j⟩:=OU h;obtain⟨⟨tg,l,n,z⟩,rfl,i⟩:=iJ j;obtain⟨k,g⟩:=a2 i;cases Bz k;exact⟨_,_,_,_,_,_,rfl,g⟩
noncomputable def isI(n:Int):Const->Bool
 |.int j=>decide (j=n)
 |_=>false
noncomputable def Bk(S:SE)(i:Nat):List oE->Expr->Bool
 |[],e=>pO S i e
 |.fl _ x::π,e=>HS (λa f _=>decide (f=x)&&zp a&&Bk S i π a) e
 |.ix n::π,e=>HV (λa k=>mC (isI n) k&&Bk S i π a) e
noncomputable def nt(S:SE)(m:Md->Bool)(i:Nat)(π:List oE)(e:Expr):Bool:=!π.isEmpty&&Bk S i π.reverse e&&(match S.M.lookup i with
 |some a=>(match lG a π with
  |some k=>m k
  |none=>false)
 |none=>false)
noncomputable def gX(S:SE):CE->Expr->Bool
 |.var i,e=>pO S i e&&Bf S.M i
 |.own i π,e=>nt S UR i π e
 |_,_=>false
noncomputable def YT:BI->Str
 |.len=>"len"
 |.abs=>"abs"
 |.max2=>"max"
 |.min2=>"min"
 |.sum=>"sum"
 |.all=>"all"
 |.any=>"any"
 |.list=>"list"
 |.tuple=>"tuple"
 |.Cy=>"isinstance"
 |.int=>"int"
noncomputable def biA:BI->Nat->Bool
 |.any,_=>false
 |_,n=>0<n
noncomputable def Lk:CE->Bool
 |.ite _ _ _=>false
 |.not a=>Lk a
 |.Cz _ a=>Lk a
 |.and as=>Ll as
 |.or as=>Ll as
 |_=>true
where Ll:List CE->Bool
 |[]=>true
 |a::as=>Lk a&&Ll as
noncomputable def Bl:Expr->Bool
 |.Slice _ _ _ _=>false
 |_=>true
noncomputable def DG:Expr->Bool
 |.Set _ _ _=>false
 |_=>true
noncomputable def IY:List Expr->Option (List Str)
 |[]=>some []
 |.Name x _::a=>(IY a).map λl=>x::l
 |_::_=>none
noncomputable def YU:Expr->Option (Bool×List Str)
 |.Name x _=>some (true,[x])
 |.Tuple a _ _=>(IY a).map λl=>(false,l)
 |_=>none
noncomputable def mask(a:List Str)(N:List Str):List Str:=N.map λy=>if a.contains y then y++("!":Str)else y
noncomputable def SE.comp(S:SE)(a:Scope)(b:List Str):SE:=
 {S with N:=b++mask b S.N,nk:=a.names.map λp=>(p.1,if p.2=.free then .cell else p.2),M:=up S.M b.length}
noncomputable def SE.lend(S:SE)(a:List Nat):SE:={S with M:=S.M.filter (λx=>!a.contains x.1)}
noncomputable def brE:Expr->Bool
 |.Call (.Name _ _) (_::_) _ _=>true
 |.Compare _ _ _ _=>true
 |_=>false
noncomputable def YV:CE->Option String
 |.FI n=>some n
 |_=>none
noncomputable def Lm:CE->Bool
 |.y9 _=>true
 |_=>false
noncomputable def US(n:Bool)(f:Expr->Bool):Option Expr->Bool
 |none=>n
 |some e=>!n&&f e
noncomputable def Ri:CE->Bool
 |.bl b=>b
 |_=>false
noncomputable def YW:BI->List CE->Bool
 |.Cy,[_,c]=>(YV c).isSome
 |.Cy,_=>false
 |_,_=>true
noncomputable def abr(y:Bool)(f:Expr->Bool):List Expr->Bool
 |[]=>y
 |[e]=>f e
 |_=>false
noncomputable def Bm(f:Expr->Bool)(g:List Expr->Bool):List Expr->Bool
 |e::a=>f e&&g a
 |[]=>false
noncomputable def Bo(f:Expr->Bool):List Expr->Bool:=o1 f
noncomputable def Bp(S:SE)(g:List Nat)(one:Bool)(n:Nat)(f:Bool)(i:Expr->Bool)(j:SE->List Expr->Bool)(h:SE->Expr->Bool)(e tg b:Expr)(d:List Expr)(a:Scope):Bool:=
 match YU tg with
 |some (o,c)=>(one==o)&&(n==c.length)&&(g==List.range n)&&gS a S.sc S.N (mask c S.N) c&&decide (c++mask c S.N).Nodup&&DG b&&(!f||!one)&&i b&&j (S.comp a c) d&&h (S.comp a c) e
 |none=>false
noncomputable def kU(c:Nat->Md):CE->Bool
 |.lst _=>true
 |.comp _ _ _ _ _ _=>true
 |.blt .list _=>true
 |.rev _=>true
 |.sl _ _ _=>true
 |.bin .Add a b=>kU c a||kU c b
 |.bin .Mult a _=>kU c a
 |.call f _=>match c f with
  |.f=>true
  |_=>false
 |.ite _ a b=>kU c a&&kU c b
 |_=>false
noncomputable def mo(a:Nat->Md)(c:CE):Md:=if kU a c=true then .f else .s
mutual
noncomputable def aL(S:SE)(w:Bool):CE->Expr->Bool
 |.var i,e=>pO S i e&&!Be S.M i
 |.int i,e=>mC (λc=>decide (c=.int i)) e
 |.bl b,e=>mC (λc=>decide (c=.bool b)) e
 |.str x,e=>mC (λc=>decide (c=.str x)) e
 |.bC,e=>mC (λc=>decide (c=.none)) e
 |.FI n,e=>Bh (λx=>decide (x=Str.ofString n)&&lM S x&&S.zn.contains x&&tys.contains n) e
 |.glob g,e=>Bh (λx=>S.gn[g]?==some x&&lM S x) e
 |.bin op a b,e=>Lh (λo l r=>decide (op=o)&&(aL S false a l||gX S a l)&&(aL S false b r||gX S b r)) e
 |.neg a,e=>mUn (λo x=>decide (o=.USub)&&aL S false a x) e
 |.not a,e=>mUn (λo x=>decide (o=.Not)&&aL S false a x) e
 |.cmp op a b,e=>Li (λo l r=>decide (op=o)&&!decide (op=.In)&&!decide (op=.NotIn)&&(aL S false a l||gX S a l)&&(aL S false b r||gX S b r)) e
 |.and as,e=>mBo (λo d=>decide (o=.And)&&!d.isEmpty&&i8 S as d) e
 |.or as,e=>mBo (λo d=>decide (o=.Or)&&!d.isEmpty&&i8 S as d) e
 |.ite c a b,e=>mIf (λt x y=>aL S false c t&&Lk c&&aL S false a x&&aL S false b y) e
 |.tup as,e=>HU (λd=>i8 S as d) e
 |.lst as,e=>YS (λd=>i8 S as d) e
 |.ix a i,e=>HV (λv s=>Bl s&&(aL S false a v||gX S a v)&&aL S false i s) e
 |.sl a A B,e=>mSl (λv l h=>(aL S false a v||gX S a v)&&US (nj A) (λx=>aL S false A x) l&&US (nj B) (λx=>aL S false B x) h) e
 |.call f as,e=>nq (λx d=>S.fn[f]?==some x&&lM S x&&!d.isEmpty&&!kT (bO S.md f)&&!S.mt.any (·.1==f)&&i8 S as d) e
 |.blt b as,e=>nq (λx d=>decide (x=YT b)&&lM S x&&S.zn.contains x&&biA b d.length&&YW b as&&pP S as d) e
 |.bits a,e=>DF (λo m F E=>decide (m=("bit_length":Str))&&(F.endLine==E.line)&&zp o&&aL S false a o) e
 |.comp C one n i c x,e=>Rh (λq tg j p k=>Bp S C one n (Lm i) (λj=>aL S true i j||gX S i j) (λz p=>abr (Ri c) (λf=>aL z false c f&&Lk c) p) (λz q=>aL z false x q) q tg j p k) e
 |.oO as,e=>nq (λx d=>w&&decide (x=("range":Str))&&lM S x&&S.zn.contains x&&(as.length==1||as.length==2||as.length==3)&&i8 S as d) e
 |.y9 a,e=>nq (λx d=>w&&decide (x=("enumerate":Str))&&lM S x&&S.zn.contains x&&Bo (λv=>aL S false a v) d) e
 |.rev a,e=>nq (λx d=>cond w (decide (x=("reversed":Str))&&lM S x&&S.zn.contains x&&Bo (λv=>aL S false a v) d)
  (decide (x=("list":Str))&&lM S x&&S.zn.contains x&&Bo (λv=>nq (λy d=>decide (y=("reversed":Str))&&lM S y&&S.zn.contains y&&Bo (λu=>aL S false a u||gX S a u) d) v) d)) e
 |.pop _,_=>false
 |.own i π,e=>nt S OS i π e
 |.Cz D a,e=>brE e&&aL (S.lend D) false a e
 |.Oe _ _ _ _,_=>false
noncomputable def i8(S:SE):List CE->List Expr->Bool
 |[],b=>b.isEmpty
 |a::as,b=>Bm (λe=>aL S false a e) (λb=>i8 S as b) b
noncomputable def pP(S:SE):List CE->List Expr->Bool
 |[],b=>b.isEmpty
 |a::as,b=>Bm (λe=>aL S false a e||gX S a e) (λb=>pP S as b) b
end
structure XOk(S:SE)(Φ:Nat->cA)(Ψ:Nat->Md)(G:Nat->W)(X:Cx):Prop where
 hN:X.N=S.N
 nd:X.N.Nodup
 calm:X.calm=true
 un:X.A.units+64<cLine
 nk:∀x,X.env.scope.names.lookup x=S.nk.lookup x
 fns:∀(j:Nat)(x:Str),S.fn[j]?=some x->S.mt.any (·.1==j)=false->∃fv n k,X.mg x=some fv/\gf X.prog X.w X.K X.mg X.base k fv n (fz X.K n (Ψ j) (Φ j))/\fy k X.A/\∀ws P R,Φ j ws P R->ws.length=n
 OW:∀(j g:Nat)(x:Str),S.fn[j]?=some x->(j,g)∈S.mt->∃f fd ps n k,(∀C,G g=.cls C->Meth X.K C x f)/\Binds X.K fd ps []/\aN X.prog X.w X.K X.mg X.base (dD X.prog X.w) k f fd ps (fz X.K n (Ψ j) (Φ j))/\fy k X.A/\∀ws P R,Φ j ws P R->ws.length=n
 MU:Ψ=bO S.md
 MV:∀(j:Nat)(x:Str),S.gn[j]?=some x->∃u v,X.mg x=some u/\RelV v u/\∀B H,Rep X.K B H (G j) v
 xK:∀x∈S.zn,X.mg x=none
 kit:A6 X.K
section
variable{S:SE}{Φ:Nat->cA}{Ψ:Nat->Md}{G:Nat->W}{X:Cx}
theorem XOk.tT(h:XOk S Φ Ψ G X):XOk S Φ Ψ G X.tT:=⟨h.hN,h.nd,h.calm,h.un,h.nk,h.fns,h.OW,h.MU,h.MV,h.xK,h.kit⟩
theorem FZ{x:Str}(h:okN x=true):(x==("__debug__":Str))=false/\(x==("__classdict__":Str))=false/\x≠"__name__":=by unfold okN at h;simp only[BM,ox]at h;exact⟨h.1.1,h.1.2,λz=>by rw[z]at h;exact absurd h.2 (by simp)⟩
theorem cK{x:Str}(a:XOk S Φ Ψ G X)(h:lM S x=true):Gl X x/\(x==("__debug__":Str))=false/\x≠"__name__":=by unfold lM at h;rw[BM]at h;obtain⟨c,d,b⟩:=FZ h.2;refine⟨?_,c,b⟩;show X.env.scope.names.lookup x=_;rw[a.nk];exact Nw.mp h.1
theorem iM(b:XOk S Φ Ψ G X){i:Nat}{e:Expr}(h:pO S i e=true):PE X e (qL i):=by
 cases e with
 |Name x pos=>simp only[pO,BM]at h;obtain⟨⟨d,a⟩,c⟩:=h;obtain⟨g,f,_⟩:=FZ c;refine Jj (by rw[b.hN];exact Nw.mp d) ?_ g f;unfold YQ at a;rw[←b.nk]at a;unfold Wz;split at a<;>first|exact .inl (by assumption)|exact .inr (.inl (by assumption))|exact .inr (.inr (by assumption))|exact ff a
 |_=>exact ff h
noncomputable def noStar:Expr->Bool
 |.Starred _ _=>false
 |_=>true
theorem aJ{e:Expr}(h:noStar e=true)(a:List Expr)(env:Env):starEach (e::a) env=(false,eval e env)::starEach a env:=by
 cases e<;>first|rfl|exact ff h
theorem dh:∀{a:List Expr}(h:a.all noStar=true)(pos:Pos)(env:Env),(backTo pos (starEach a env)).any (·.1)=false
 |[],_,_,_=>rfl
 |e::a,h,pos,env=>by rw[List.all_cons,BM]at h;rw[aJ h.1];show(false||(backTo pos (starEach a env)).any (·.1))=false;rw[dh h.2];rfl
theorem gq{m:Md->Bool}{i:Nat}{π:List oE}{e:Expr}(h:nt S m i π e=true):
 (∃g k,π≠[]/\Bk S i π.reverse e=true/\S.M.lookup i=some g/\lG g π=some k/\m k=true)/\((∃a f q,e=.Attribute a f q)\/∃a j c d q,e=.Subscript a (.Constant (.int j) c d) q):=by
 unfold nt at h;rw[BM,BM]at h;obtain⟨⟨y,l⟩,b⟩:=h;have u:π≠[]:=λz=>by rw[z]at y;exact ff y
 constructor
 ·split at b
  ·rename_i g hl
   split at b
   ·rename_i k hk
    exact⟨g,k,u,l,hl,hk,b⟩
   ·cases b
  ·cases b
 ·cases t:π.reverse with
  |nil=>exact(u (by simpa using t)).elim
  |cons s r=>
   rw[t]at l;cases s with
   |ix n=>obtain⟨v,s,p,rfl,w⟩:=iL l;obtain⟨c,k,q,rfl,A⟩:=jl (a2 w).1;cases c<;>first|exact .inr ⟨_,_,_,_,_,rfl⟩|exact ff A
   |fl n x=>obtain⟨o,m,p,rfl,w⟩:=jN l;exact .inl ⟨_,_,_,rfl⟩
theorem uO{m:Md->Bool}{i:Nat}{π:List oE}{v:Expr}{p:Pos}(h:nt S m i π (.Starred v p)=true):False:=by rcases(gq h).2 with⟨_,_,_,e⟩|⟨_,_,_,_,_,e⟩<;>cases e
theorem bE{b:Bool}{c:CE}{e:Expr}(h:aL S b c e=true\/gX S c e=true):noStar e=true:=by
 cases e with
 |Starred v p=>
  rcases h with h|h
  ·cases c with
   |own i d=>exact(uO h).elim
   |Cz f a=>exact ff h
   |_=>exact ff h
  ·cases c<;>first|exact ff h|exact(uO h).elim
 |_=>rfl
theorem jd{a b:Bool}(h:(a||b)=true):a=true\/b=true:=by
 cases a
 ·exact .inr h
 ·exact .inl rfl
theorem qZ:∀{cs:List CE}{a:List Expr},i8 S cs a=true->a.all noStar=true
 |[],a,h=>by
  cases a with
  |nil=>rfl
  |cons _ _=>exact ff h
 |c::cs,[],h=>by cases h
 |c::cs,e::a,h=>by have h:=a2 h;rw[List.all_cons,bE (.inl h.1),qZ h.2];rfl
theorem uP:∀{cs:List CE}{a:List Expr},pP S cs a=true->a.all noStar=true
 |[],a,h=>by
  cases a with
  |nil=>rfl
  |cons _ _=>exact ff h
 |c::cs,[],h=>by cases h
 |c::cs,e::a,h=>by have h:=a2 h;rw[List.all_cons,bE (jd h.1),uP h.2];rfl
theorem zq{b:Expr}(h:Bl b=true):oW b:=λo i=>by cases b<;>first|rfl|exact ff h
theorem xM{a:Expr}(h:zp a=true)(f:Str)(env:Env)(b:Sem Value):attributeBase a f env b=b:=by cases a<;>first|rfl|exact ff h
theorem uQ(b:XOk S Φ Ψ G X){i:Nat}:∀(π:List oE)(e:Expr),Bk S i π e=true->PE X e (uL X.K i π.reverse)
 |[],e,h=>UO (iM b h)
 |.fl n x::π,e,h=>by obtain⟨o,m,p,rfl,g⟩:=jN h;obtain⟨⟨a,f⟩,d⟩:=a3 g;have a:=Bz a;subst a;rw[js];exact UP (uQ b π _ d) (xM f _ _ _)
 |.ix n::π,e,h=>by
  obtain⟨v,s,p,rfl,g⟩:=iL h;obtain⟨f,d⟩:=a2 g;obtain⟨c,k,q,rfl,j⟩:=jl f;cases c<;>try exact ff j
  have a:=Bz j;subst a;rw[js];exact YO (uQ b π _ d) n6 (zq rfl)
theorem zu(b:XOk S Φ Ψ G X){m:Md->Bool}{i:Nat}{π:List oE}{e:Expr}(h:nt S m i π e=true):∃a k,(i,a)∈S.M/\lG a π=some k/\m k=true/\PE X e (uL X.K i π):=by obtain⟨⟨a,k,_,g,f,d,c⟩,_⟩:=gq h;have:=uQ b π.reverse e g;rw[List.reverse_reverse]at this;exact⟨a,k,lK f,d,c,this⟩
theorem YX(g:XOk S Φ Ψ G X){i:Nat}{π:List oE}{e:Expr}(h:nt S OS i π e=true)(R:Addr->Prop):VE X S.M R .s e (λa Q=>match look a i with|some w=>(match cH w π with|some u=>Q u|none=>False)|none=>False):=by
 obtain⟨j,k,d,c,f,b⟩:=zu g h;cases k<;>first|(cases f;done)|skip
 exact T4 b d c
theorem Rj(g:XOk S Φ Ψ G X){i:Nat}{π:List oE}{e:Expr}(h:nt S UR i π e=true)(R:Addr->Prop):VB X S.M R e (λa Q=>match look a i with|some w=>(match cH w π with|some u=>Q u|none=>False)|none=>False):=by
 obtain⟨j,k,d,c,f,b⟩:=zu g h;cases k<;>first|(cases f;done)|skip
 exact T3 b d c
end
structure dP(Φ:Nat->cA)(Ψ:Nat->Md)(G:Nat->W)(c:CE):Prop where
 e:∀{S:SE}{X:Cx},XOk S Φ Ψ G X->∀ex,aL S false c ex=true->∀R,VE X S.M R (mo Ψ c) ex (wE Φ G R c)
 t:∀{S:SE}{X:Cx},XOk S Φ Ψ G X->∀ex,aL S false c ex=true->Lk c=true->∀R,VT X S.M R ex (wE Φ G R c)
 i:∀{S:SE}{X:Cx},XOk S Φ Ψ G X->∀tg br ex,(aL S true c ex||(br&&gX S c ex))=true->(Lm c=true->∃elts kk tp,tg=Expr.Tuple elts kk tp)->∀R,PI X tg ex (K7 X S.M R br (wE Φ G R c))
structure wu(Φ:Nat->cA)(Ψ:Nat->Md)(G:Nat->W)(cs:List CE):Prop where
 a:∀{S:SE}{X:Cx},XOk S Φ Ψ G X->∀es,i8 S cs es=true->∀R,VA X S.M R es (wA Φ G R cs)
 b:∀{S:SE}{X:Cx},XOk S Φ Ψ G X->∀es,pP S cs es=true->∀R,WQ X S.M R es (wA Φ G R cs)
 av:∀{S:SE}{X:Cx},XOk S Φ Ψ G X->∀es pos,es≠[]->i8 S cs es=true->∀R,VE X S.M R .s (.BoolOp .And es pos) (CB Φ G R cs)
 ov:∀{S:SE}{X:Cx},XOk S Φ Ψ G X->∀es pos,es≠[]->i8 S cs es=true->∀R,VE X S.M R .s (.BoolOp .Or es pos) (RZ Φ G R cs)
 «at»:∀{S:SE}{X:Cx},XOk S Φ Ψ G X->∀es pos,es≠[]->i8 S cs es=true->Lk.Ll cs=true->∀R,Rb X S.M R (.BoolOp .And es pos) (CB Φ G R cs)
 ot:∀{S:SE}{X:Cx},XOk S Φ Ψ G X->∀es pos,es≠[]->i8 S cs es=true->Lk.Ll cs=true->∀R,Rb X S.M R (.BoolOp .Or es pos) (RZ Φ G R cs)
section
variable{Φ:Nat->cA}{Ψ:Nat->Md}{G:Nat->W}
theorem ig{c:CE}(h:kU Ψ c=false):mo Ψ c=.s:=by unfold mo;rw[h];rfl
theorem m7{c:CE}(h:kU Ψ c=true):mo Ψ c=.f:=by unfold mo;rw[h];rfl
theorem dP.s{c:CE}(h:dP Φ Ψ G c){S:SE}{X:Cx}(a:XOk S Φ Ψ G X){ex:Expr}(k:aL S false c ex=true)(R:Addr->Prop):VE X S.M R .s ex (wE Φ G R c):=HN (h.e a ex k R)
theorem dP.b{c:CE}(h:dP Φ Ψ G c){S:SE}{X:Cx}(a:XOk S Φ Ψ G X){ex:Expr}(k:(aL S false c ex||gX S c ex)=true)(R:Addr->Prop):VB X S.M R ex (wE Φ G R c):=by
 rcases jd k with k|k
 ·exact Yy (h.e a ex k R)
 ·cases c with
  |var i=>have k:(pO S i ex&&Bf S.M i)=true:=k;rw[BM]at k;exact K1 (iM a k.1) (Bg k.2)
  |own i d=>exact Rj a k R
  |_=>exact ff k
theorem dP.mk1{c:CE}(b:∀{S:SE}{X:Cx},XOk S Φ Ψ G X->∀ex,aL S false c ex=true->∀R,VE X S.M R (mo Ψ c) ex (wE Φ G R c))
 (f:∀{S:SE}{ex:Expr}(env:Env),aL S false c ex=true->∀a,isTrue ex env a=(do let v←a;standAt ex.pos;holding [v] (truthy v)))
 (g:∀(S:SE)(ex:Expr),aL S true c ex=true->aL S false c ex=true)(e:∀(S:SE)(ex:Expr),gX S c ex=false):dP Φ Ψ G c:=
 ⟨b,λd ex k _ R=>zk (f _ k) (HN (b d ex k R)),λ{S X} d h i ex k _ R=>by rw[e,cw,X9]at k;exact iI (lJ (b d ex (g _ _ k) R))⟩
theorem UT(i:Nat):dP Φ Ψ G (.var i):=by
 have d:∀{S:SE}{X:Cx},XOk S Φ Ψ G X->∀ex,aL S false (.var i) ex=true->∀R,VE X S.M R (mo Ψ (.var i)) ex (wE Φ G R (.var i)):=λ{S X} a ex k R=>by have k:=a2 k;have e:¬bI S.M i:=pN (by simpa using k.2);rw[ig rfl];exact TZ (iM a k.1) e
 refine⟨d,λ{S X} a ex k _ R=>zk (λc=>?_) (HN (d a ex k R)),λ{S X} a f g ex k _ R=>?_⟩
 ·have k:=a2 k;cases ex<;>first|rfl|(have:=k.1;exact ff this)
 ·rcases jd k with k|k
  ·exact iI (lJ (d a ex (by exact k) R))
  ·rw[BM]at k;obtain⟨rfl,b⟩:=k;have b:(pO S i ex&&Bf S.M i)=true:=b;rw[BM]at b;exact iI (YG (K1 (iM a b.1) (Bg b.2)))
theorem UU(i:Nat)(π:List oE):dP Φ Ψ G (.own i π):=by
 have d:∀R,wE Φ G R (.own i π)=λe Q=>match look e i with|some w=>(match cH w π with|some u=>Q u|none=>False)|none=>False:=λR=>rfl
 have c:∀{S:SE}{X:Cx},XOk S Φ Ψ G X->∀ex,aL S false (.own i π) ex=true->∀R,VE X S.M R (mo Ψ (.own i π)) ex (wE Φ G R (.own i π)):=λ{S X} a ex k R=>by rw[ig rfl,d];exact YX a k R
 refine⟨c,λ{S X} a ex k _ R=>zk (λb=>?_) (HN (c a ex k R)),λ{S X} a g h ex k _ R=>?_⟩
 ·rcases(gq k).2 with⟨_,_,_,rfl⟩|⟨_,_,_,_,_,rfl⟩<;>rfl
 ·rcases jd k with k|k
  ·exact iI (lJ (c a ex (by exact k) R))
  ·rw[BM]at k;obtain⟨rfl,f⟩:=k;rw[d];exact iI (YG (Rj a f R))
theorem UW(i:Int):dP Φ Ψ G (.int i):=by
 refine .mk1 (λ{S X} d ex k R=>?_) (λ{S ex} b k a=>?_) (λS ex k=>by exact k) (λ_ _=>rfl)
 ·obtain⟨c,q,p,rfl,k⟩:=jl k;cases Bz k;rw[ig rfl];exact HP n6 λ_ _=>jL _
 ·obtain⟨c,q,p,rfl,k⟩:=jl k;rfl
theorem YY(i:Bool):dP Φ Ψ G (.bl i):=by
 refine .mk1 (λ{S X} d ex k R=>?_) (λ{S ex} b k a=>?_) (λS ex k=>by exact k) (λ_ _=>rfl)
 ·obtain⟨c,q,p,rfl,k⟩:=jl k;cases Bz k;rw[ig rfl];exact HP EI λ_ _=>FL _
 ·obtain⟨c,q,p,rfl,k⟩:=jl k;rfl
theorem UX(i:Str):dP Φ Ψ G (.str i):=by
 refine .mk1 (λ{S X} d ex k R=>?_) (λ{S ex} b k a=>?_) (λS ex k=>by exact k) (λ_ _=>rfl)
 ·obtain⟨c,q,p,rfl,k⟩:=jl k;cases Bz k;rw[ig rfl];exact HP Sb λ_ _=>Yt _
 ·obtain⟨c,q,p,rfl,k⟩:=jl k;rfl
theorem UY:dP Φ Ψ G .bC:=by
 refine .mk1 (λ{S X} d ex k R=>?_) (λ{S ex} b k a=>?_) (λS ex k=>by exact k) (λ_ _=>rfl)
 ·obtain⟨c,q,p,rfl,k⟩:=jl k;cases Bz k;rw[ig rfl];exact HP Jk λ_ _=>Yu
 ·obtain⟨c,q,p,rfl,k⟩:=jl k;rfl
theorem OX{n:String}(h:tys.contains n=true):bootBuiltins (Str.ofString n)=some (.type n):=by
 have:n∈tys:=by simpa using h
 unfold tys at this;simp only[GT,TB,nr]at this;rcases this with rfl|rfl|rfl|rfl|rfl|rfl<;>rfl
theorem UZ(n:String):dP Φ Ψ G (.FI n):=by
 refine .mk1 (λ{S X} d ex k R=>?_) (λ{S ex} l k a=>?_) (λS ex k=>by exact k) (λ_ _=>rfl)
 ·obtain⟨x,q,rfl,b⟩:=gm k
  replace k:=b
  simp only[BM]at k;obtain⟨⟨⟨c,g⟩,f⟩,e⟩:=k;obtain⟨j,i,h⟩:=cK d g;have c:=Bz c;subst c;rw[ig rfl];exact HP (v:=.ty n) (EJ j (d.xK _ (by simpa using f)) (OX e) rfl h i) λ_ _=>rTy _
 ·obtain⟨x,q,rfl,b⟩:=gm k
  replace k:=b
  rfl
theorem OY(g:Nat):dP Φ Ψ G (.glob g):=by
 refine .mk1 (λ{S X} c ex k R=>?_) (λ{S ex} m k a=>?_) (λS ex k=>by exact k) (λ_ _=>rfl)
 ·obtain⟨x,q,rfl,b⟩:=gm k
  replace k:=b
  simp only[BM]at k;obtain⟨e,d⟩:=k;obtain⟨l,j,n⟩:=cK c d;obtain⟨u,v,i,h,f⟩:=c.MV g _ (Nw.mp e);rw[ig rfl];exact HP (jb l i h j) f
 ·obtain⟨x,q,rfl,b⟩:=gm k
  replace k:=b
  rfl
theorem DH{K:Frag}{B:Addr->Prop}{H H':Hp}{w:W}{v:V}(h:gi K B H H' .f w v):T5 w=true:=by obtain⟨a,p,b,rfl,_⟩:=h.Yl;rfl
theorem Ln{S:SE}{a:CE}{l:Expr}(k:gX S a l=true)(z:kU Ψ a=true):False:=by cases a<;>first|exact ff k|exact ff z
theorem U0(op:Operator){a b:CE}(J:dP Φ Ψ G a)(I:dP Φ Ψ G b):dP Φ Ψ G (.bin op a b):=by
 refine .mk1 (λ{S X} n ex k R=>?_) (λ{S ex} P k s=>?_) (λS ex k=>by exact k) (λ_ _=>rfl)
 ·obtain⟨l,o,r,t,rfl,u⟩:=qY k
  replace k:=u
  simp only[BM]at k;obtain⟨⟨A,i⟩,g⟩:=k;have A:=Bz A;subst A;show VE X S.M R _ _ λF Q=>wE Φ G R a F λx=>wE Φ G R b F λy=>jJ op x y Q;have E:∀B H m w v,Dom B H->ρB X.K B H m w v->bK X.K B m w v:=λ_ _ _ _ _ _ h=>h;have D:∀B H m w v,Dom B H->TY X.K .f B H m w v->bK X.K B m w v:=λ_ _ _ _ _ d h=>(gi.rep d h).b;have p:=J.b n i R;have j:=I.b n g R;have L:kU Ψ a=true->VE X S.M R .f l (wE Φ G R a):=λz=>by
   rcases jd i with i|i
   ·have:=J.e n l i R;rw[m7 z]at this;exact this
   ·exact(Ln i z).elim
  have O:kU Ψ b=true->VE X S.M R .f r (wE Φ G R b):=λz=>by
   rcases jd g with g|g
   ·have:=I.e n r g R;rw[m7 z]at this;exact this
   ·exact(Ln g z).elim
  cases op with
  |Add=>
   by_cases c:kU Ψ a=true
   ·rw[m7 (show kU Ψ (.bin .Add a b)=true by show(kU Ψ a||kU Ψ b)=true;rw[c];rfl)];exact Dz (L c) j D E λ_ _ _ _ _ _ _ _ _ _ C _=>.inl ⟨rfl,.inl (DH C)⟩
   ·by_cases q:kU Ψ b=true
    ·rw[m7 (show kU Ψ (.bin .Add a b)=true by show(kU Ψ a||kU Ψ b)=true;rw[q,Bool.or_true])];exact Dz p (O q) E D λ_ _ _ _ _ _ _ _ _ _ _ N=>.inl ⟨rfl,.inr (DH N)⟩
    ·rw[ig (show kU Ψ (.bin .Add a b)=false by show(kU Ψ a||kU Ψ b)=false;rw[gd _|>.mp c,gd _|>.mp q];rfl)];exact K3 p j λ_ _=>.inr rfl
  |Mult=>
   by_cases c:kU Ψ a=true
   ·rw[m7 (show kU Ψ (.bin .Mult a b)=true from c)];exact Dz (L c) j D E λ_ _ _ _ _ _ _ _ _ _ C _=>.inr ⟨rfl,DH C⟩
   ·rw[ig (show kU Ψ (.bin .Mult a b)=false from gd _|>.mp c)];exact K3 p j λ_ _=>.inr rfl
  |_=>rw[ig rfl];exact K3 p j λ_ _=>.inr rfl
 ·obtain⟨l,o,r,t,rfl,u⟩:=qY k
  replace k:=u
  rfl
theorem U1{a:CE}(e:dP Φ Ψ G a):dP Φ Ψ G (.neg a):=by
 refine .mk1 (λ{S X} f ex k R=>?_) (λ{S ex} g k b=>?_) (λS ex k=>by exact k) (λ_ _=>rfl)
 ·obtain⟨o,x,c,rfl,d⟩:=tD k
  replace k:=d
  rw[BM]at k;cases Bz k.1;rw[ig rfl];exact T7 (e.s f k.2 R)
 ·obtain⟨o,x,c,rfl,d⟩:=tD k
  replace k:=d
  rw[BM]at k;cases Bz k.1;rfl
theorem U3{a:CE}(h:dP Φ Ψ G a):dP Φ Ψ G (.not a):=by
 have e:∀R,wE Φ G R (.not a)=λi Q=>wE Φ G R a i λx=>truth x λb=>Q (.bl (!b)):=λR=>rfl;have g:∀{S:SE}{X:Cx},XOk S Φ Ψ G X->∀ex,aL S false (.not a) ex=true->∀R,VE X S.M R (mo Ψ (.not a)) ex (wE Φ G R (.not a)):=λ{S X} c ex k R=>by
  obtain⟨o,x,d,rfl,f⟩:=tD k
  replace k:=f
  rw[BM]at k;cases Bz k.1;rw[ig rfl,e];exact T8 (h.s c k.2 R)
 refine⟨g,λ{S X} c ex k j R=>?_,λ{S X} c m n ex k _ R=>?_⟩
 ·obtain⟨o,x,d,rfl,f⟩:=tD k
  replace k:=f
  rw[BM]at k;cases Bz k.1;rw[e];exact Ue (h.t c _ k.2 (by exact j) R)
 ·have l:gX S (.not a) ex=false:=rfl;rw[l,cw,X9]at k;exact iI (lJ (g c ex (by exact k) R))
theorem U4(op:CmpOp){a b:CE}(n:dP Φ Ψ G a)(m:dP Φ Ψ G b):dP Φ Ψ G (.cmp op a b):=by
 have e:∀R,wE Φ G R (.cmp op a b)=λg Q=>wE Φ G R a g λx=>wE Φ G R b g λy=>ie op x y Q:=λR=>rfl;have f:∀{S:SE}{X:Cx},XOk S Φ Ψ G X->∀ex,aL S false (.cmp op a b) ex=true->∀R,VE X S.M R .s ex (wE Φ G R (.cmp op a b))/\VT X S.M R ex (wE Φ G R (.cmp op a b)):=λ{S X} c ex k R=>by
  obtain⟨l,o,r,p,rfl,q⟩:=xH k
  replace k:=q
  simp only[BM,ox]at k;obtain⟨⟨⟨⟨d,u⟩,t⟩,i⟩,h⟩:=k;have d:=Bz d;subst d;have j:=CK r (op:=op) (Sr u) (Sr t);rw[e];exact⟨T9 c.un j (n.b c i R) (m.b c h R),Ua c.un j (n.b c i R) (m.b c h R)⟩
 refine⟨λc ex k R=>by rw[ig rfl];exact(f c ex k R).1,λc ex k _ R=>(f c ex k R).2,λ{S X} c w z ex k _ R=>?_⟩;have v:gX S (.cmp op a b) ex=false:=rfl;rw[v,cw,X9]at k;exact iI (lJ (f c ex (by exact k) R).1)
theorem mQ{a:List Expr}(h:(!a.isEmpty)=true):a≠[]:=by rintro rfl;cases h
theorem U5{as:List CE}(f:wu Φ Ψ G as):dP Φ Ψ G (.and as):=by
 have e:∀R,wE Φ G R (.and as)=CB Φ G R as:=λR=>rfl;have d:∀{S:SE}{X:Cx},XOk S Φ Ψ G X->∀ex,aL S false (.and as) ex=true->∀R,VE X S.M R .s ex (wE Φ G R (.and as)):=λ{S X} a ex k R=>by
  obtain⟨o,i,b,rfl,c⟩:=tE k
  replace k:=c
  rw[BM,BM]at k;cases Bz k.1.1;rw[e];exact f.av a _ _ (mQ k.1.2) k.2 R
 refine⟨λa ex k R=>by rw[ig rfl];exact d a ex k R,λ{S X} a ex k g R=>?_,λ{S X} a j l ex k _ R=>?_⟩
 ·obtain⟨o,i,b,rfl,c⟩:=tE k
  replace k:=c
  rw[BM,BM]at k;cases Bz k.1.1;rw[e];exact(f.at a _ _ (mQ k.1.2) k.2 (by exact g) R).pt
 ·have h:gX S (.and as) ex=false:=rfl;rw[h,cw,X9]at k;exact iI (lJ (d a ex (by exact k) R))
theorem Y0{as:List CE}(f:wu Φ Ψ G as):dP Φ Ψ G (.or as):=by
 have e:∀R,wE Φ G R (.or as)=RZ Φ G R as:=λR=>rfl;have d:∀{S:SE}{X:Cx},XOk S Φ Ψ G X->∀ex,aL S false (.or as) ex=true->∀R,VE X S.M R .s ex (wE Φ G R (.or as)):=λ{S X} a ex k R=>by
  obtain⟨o,i,b,rfl,c⟩:=tE k
  replace k:=c
  rw[BM,BM]at k;cases Bz k.1.1;rw[e];exact f.ov a _ _ (mQ k.1.2) k.2 R
 refine⟨λa ex k R=>by rw[ig rfl];exact d a ex k R,λ{S X} a ex k g R=>?_,λ{S X} a j l ex k _ R=>?_⟩
 ·obtain⟨o,i,b,rfl,c⟩:=tE k
  replace k:=c
  rw[BM,BM]at k;cases Bz k.1.1;rw[e];exact(f.ot a _ _ (mQ k.1.2) k.2 (by exact g) R).pt
 ·have h:gX S (.or as) ex=false:=rfl;rw[h,cw,X9]at k;exact iI (lJ (d a ex (by exact k) R))
theorem Y3{X:Cx}{M:Ms}{R:Addr->Prop}{m:Md}{e:Expr}{t:WT}{c:CE}(h:VE X M R m e t)(a:mo Ψ c=m\/mo Ψ c=.s):VE X M R (mo Ψ c) e t:=by
 rcases a with z|z
 ·rw[z];exact h
 ·rw[z];exact HN h
theorem U6{c a b:CE}(q:dP Φ Ψ G c)(u:dP Φ Ψ G a)(r:dP Φ Ψ G b):dP Φ Ψ G (.ite c a b):=by
 have e:∀R,wE Φ G R (.ite c a b)=λh Q=>wE Φ G R c h λx=>truth x λk=>if k=true then wE Φ G R a h Q else wE Φ G R b h Q:=λR=>rfl
 have o:∀{S:SE}{X:Cx},XOk S Φ Ψ G X->∀ex,aL S false (.ite c a b) ex=true->∀R,VE X S.M R (mo Ψ (.ite c a b)) ex (wE Φ G R (.ite c a b)):=λ{S X} d ex k R=>by
  obtain⟨t,x,y,p,rfl,i⟩:=OV k;simp only[BM]at i;obtain⟨⟨⟨n,m⟩,l⟩,j⟩:=i;rw[e];by_cases z:kU Ψ a=true/\kU Ψ b=true
  ·rw[m7 (show kU Ψ (.ite c a b)=true by show(kU Ψ a&&kU Ψ b)=true;rw[z.1,z.2];rfl)];have g:=u.e d x l R;have f:=r.e d y j R;rw[m7 z.1]at g;rw[m7 z.2]at f;exact K4 (q.t d t n m R) g f
  ·rw[ig (show kU Ψ (.ite c a b)=false by
    show(kU Ψ a&&kU Ψ b)=false;cases g:kU Ψ a
    ·rfl
    ·cases f:kU Ψ b
     ·rfl
     ·exact absurd ⟨g,f⟩ z)]
   exact K4 (q.t d t n m R) (u.s d l R) (r.s d j R)
 refine⟨o,(λd ex k v R=>by exact ff v),λ{S X} d A B ex k _ R=>?_⟩;have w:gX S (.ite c a b) ex=false:=rfl;rw[w,cw,X9]at k;exact iI (lJ (o d ex (by exact k) R))
theorem U7{as:List CE}(e:wu Φ Ψ G as):dP Φ Ψ G (.tup as):=by
 refine .mk1 (λ{S X} f ex k R=>?_) (λ{S ex} g k b=>?_) (λS ex k=>by exact k) (λ_ _=>rfl)
 ·obtain⟨d,q,p,rfl,c⟩:=iK k;rw[ig rfl];exact Ui (e.a f d c R)
 ·obtain⟨d,q,p,rfl,c⟩:=iK k;rfl
theorem U8{as:List CE}(e:wu Φ Ψ G as):dP Φ Ψ G (.lst as):=by
 refine .mk1 (λ{S X} f ex k R=>?_) (λ{S ex} g k b=>?_) (λS ex k=>by exact k) (λ_ _=>rfl)
 ·obtain⟨d,p,rfl,c⟩:=Bj k;rw[m7 rfl];exact Uh (e.a f d c R)
 ·obtain⟨d,p,rfl,c⟩:=Bj k;rfl
theorem Y4{a i:CE}(g:dP Φ Ψ G a)(f:dP Φ Ψ G i):dP Φ Ψ G (.ix a i):=by
 refine .mk1 (λ{S X} e ex k R=>?_) (λ{S ex} h k d=>?_) (λS ex k=>by exact k) (λ_ _=>rfl)
 ·obtain⟨v,s,p,rfl,c⟩:=iL k;simp only[BM]at c;rw[ig rfl];exact YB (zq c.1.1) (g.b e c.1.2 R) (f.s e c.2 R)
 ·obtain⟨v,s,p,rfl,c⟩:=iL k;rfl
theorem Rk{a:CE}(d:dP Φ Ψ G a){S:SE}{X:Cx}(f:XOk S Φ Ψ G X){l:Option Expr}(k:US (nj a) (λx=>aL S false a x) l=true)(R:Addr->Prop):PO X l (YC X S.M R λb Q=>wE Φ G R a b λy=>Of a y Q):=by
 cases l with
 |none=>
  have z:nj a=true:=k;cases a with
  |bC=>exact Ow
  |_=>exact ff z
 |some x=>
  have k:(!nj a&&aL S false a x)=true:=k;rw[BM]at k;have e:(λ(b:Ev)(Q:Option Int->Prop)=>wE Φ G R a b λy=>Of a y Q)=λb Q=>wE Φ G R a b λy=>match y with|.int i=>Q (some i)|_=>False:=by
   have c:nj a=false:=by simpa using k.1
   unfold Of;rw[c];funext b Q;congr 1;funext y;cases y<;>rfl
  rw[e];exact Ox (d.s f k.2 R)
theorem Y5{a f g:CE}(j:dP Φ Ψ G a)(h:dP Φ Ψ G f)(i:dP Φ Ψ G g):dP Φ Ψ G (.sl a f g):=by
 refine .mk1 (λ{S X} e ex k R=>?_) (λ{S ex} m k d=>?_) (λS ex k=>by exact k) (λ_ _=>rfl)
 ·obtain⟨v,l,r,q,p,rfl,c⟩:=FY k;simp only[BM]at c;rw[m7 rfl];exact YD (j.b e c.1.1 R) (Rk h e c.1.2 R) (Rk i e c.2 R)
 ·obtain⟨v,l,r,q,p,rfl,c⟩:=FY k;rfl
theorem OZ(f:Nat){as:List CE}(B:wu Φ Ψ G as):dP Φ Ψ G (.call f as):=by
 refine .mk1 (λ{S X} b ex k R=>?_) (λ{S ex} H k c=>?_) (λS ex k=>by exact k) (λ_ _=>rfl)
 ·obtain⟨x,q,l,p,rfl,g⟩:=aW k;simp only[BM]at g;obtain⟨⟨⟨⟨⟨u,t⟩,s⟩,i⟩,r⟩,m⟩:=g;obtain⟨D,C,I⟩:=cK b t;obtain⟨E,n,o,A,F,v,y⟩:=b.fns f x (Nw.mp u) (by simpa using r);have F:gf X.prog X.w X.K X.mg X.base o E n (Rf X.K n (Ψ f) (Φ f)):=by rw[←b.MU]at i;cases j:Ψ f<;>rw[j]at i F<;>first|exact F|exact ff i
  have d:=qZ m;cases l with
  |nil=>exact ff s
  |cons e l=>
   rw[List.all_cons,BM]at d;have h:=FT (M:=S.M) (R:=R) (p:=q) (pos:=p) F v D A y (B.a b _ m R) C (aJ d.1 _ _) (dh d.2 _ _);refine Y3 h ?_;by_cases z:kU Ψ (.call f as)=true
   ·rw[m7 z];left;have z:(match Ψ f with|.f=>true|_=>false)=true:=z;cases j:Ψ f<;>rw[j]at z<;>first|rfl|exact ff z
   ·exact .inr (ig (by simpa using z))
 ·obtain⟨x,q,l,p,rfl,g⟩:=aW k;rfl
theorem Bq{X:Cx}(c:X.calm=true):∀b:BI,b≠.any->b≠.Cy->(∃a,bootBuiltins (YT b)=some (.builtin a)/\e9 X (.builtin a) (WR X.K b))\/(∃a,bootBuiltins (YT b)=some (.type a)/\e9 X (.type a) (WR X.K b))
 |.len,_,_=>.inl ⟨"len",rfl,cw_len.r⟩
 |.abs,_,_=>.inl ⟨"abs",rfl,cw_abs.r⟩
 |.max2,_,_=>.inl ⟨"max",rfl,(cw_max c).r⟩
 |.min2,_,_=>.inl ⟨"min",rfl,(cw_min c).r⟩
 |.sum,_,_=>.inl ⟨"sum",rfl,(cw_sum c).r⟩
 |.all,_,_=>.inl ⟨"all",rfl,(cw_all c).r⟩
 |.list,_,_=>.inr ⟨"list",rfl,cw_list.r⟩
 |.tuple,_,_=>.inr ⟨"tuple",rfl,cw_tuple.r⟩
 |.int,_,_=>.inr ⟨"int",rfl,cw_int.r⟩
 |.any,h,_=>absurd rfl h
 |.Cy,_,h=>absurd rfl h
theorem iE{S:SE}{a:CE}{as:List CE}{b:List Expr}(k:i8 S (a::as) b=true):∃e r,b=e::r/\aL S false a e=true/\i8 S as r=true:=by
 cases b with
 |nil=>exact ff k
 |cons e r=>exact⟨e,r,rfl,a2 k⟩
theorem uR{S:SE}{a:List Expr}(k:i8 S [] a=true):a=[]:=HI.mp k
theorem DI{S:SE}{a:CE}{as:List CE}{b:List Expr}(k:pP S (a::as) b=true):∃e r,b=e::r/\(aL S false a e||gX S a e)=true/\pP S as r=true:=by
 cases b with
 |nil=>exact ff k
 |cons e r=>exact⟨e,r,rfl,a2 k⟩
theorem HW{S:SE}{a:List Expr}(k:pP S [] a=true):a=[]:=HI.mp k
theorem U9(b:BI){as:List CE}(I:wu Φ Ψ G as)(g:∀c∈as,dP Φ Ψ G c):dP Φ Ψ G (.blt b as):=by
 refine .mk1 (λ{S X} h ex k R=>?_) (λ{S ex} Y k s=>?_) (λS ex k=>by exact k) (λ_ _=>rfl)
 ·obtain⟨x,q,B,p,rfl,j⟩:=aW k;simp only[BM]at j;obtain⟨⟨⟨⟨⟨l,O⟩,N⟩,E⟩,D⟩,o⟩:=j;have l:=Bz l;obtain⟨A,w,v⟩:=cK h O;have hz:=h.xK x (by simpa using N);have f:=uP o;cases B with
  |nil=>cases b<;>exact ff E
  |cons e B=>
   rw[List.all_cons,BM]at f;by_cases H:b=.Cy
   ·subst H;rw[ig rfl];rcases as with _|⟨a,_|⟨c,_|⟨d,as⟩⟩⟩<;>try exact ff D
    obtain⟨n,F⟩:=aw.mp D;have Z:c=.FI n:=by cases c<;>first|(cases F;rfl)|exact nn F
    subst Z;obtain⟨L,K⟩:=a2 o;obtain⟨e2,r,rfl,C,Rl⟩:=DI K;cases HW Rl;have i:=f.2;rw[List.all_cons,BM]at i;have J:aL S false (.FI n) e2=true:=by
     rcases jd C with z|z
     ·exact z
     ·exact ff z
    have t:n∈["int","bool","tuple","list","str","dict"]:=by obtain⟨y,q2,rfl,j⟩:=gm J;have:=(a2 j).2;unfold tys at this;exact List.contains_iff_mem.mp this
    have U:=(g a FV).b h L R;have T:=(g (.FI n) (FR _ FV)).b h C R;have m:bootBuiltins x=some (.builtin "isinstance"):=by rw[l];rfl
    exact Ul (M:=S.M) (R:=R) (p:=q) (pos:=p) h.kit t A hz m U T v w (aJ f.1 _ _) (aJ i.1 _ _) (dh f.2 _ _)
   ·have Q:mo Ψ (.blt b as)=YE b:=by
     cases b<;>first|rfl|exact ig rfl|exact m7 rfl
    rw[Q];rcases Bq h.calm b (by rintro rfl;exact ff E) H with⟨P,m,u⟩|⟨P,m,u⟩
    ·exact Uj u A hz (by rw[l];exact m) (I.b h _ o R) v w (aJ f.1 _ _) (dh f.2 _ _)
    ·exact Uk u A hz (by rw[l];exact m) (I.b h _ o R) v w (aJ f.1 _ _) (dh f.2 _ _)
 ·obtain⟨x,q,B,p,rfl,j⟩:=aW k;rfl
theorem O2{a:CE}(h:dP Φ Ψ G a):dP Φ Ψ G (.bits a):=by
 refine .mk1 (λ{S X} i ex k R=>?_) (λ{S ex} j k b=>?_) (λS ex k=>by exact k) (λ_ _=>rfl)
 ·obtain⟨o,m,n,l,rfl,c⟩:=oG k;simp only[BM]at c;obtain⟨⟨⟨d,g⟩,e⟩,f⟩:=c;have d:=Bz d;subst d;rw[ig rfl];exact Oz (h.s i f R) (xM e _ _ _) g
 ·obtain⟨o,m,n,l,rfl,c⟩:=oG k;rfl
theorem Va{K:Frag}{B B':Addr->Prop}{H:Hp}{w:W}{v:V}(a:TQ w=true)(r:Rep K B H w v):Rep K B' H w v:=by
 cases w<;>first|(rw[Rep]at r⊢;exact r)|exact ff a
theorem lN{S:SE}{a:List Nat}:∀x∈(S.lend a).M,x∈S.M:=λx b=>(ij.mp b).1
theorem Vb(c:List Nat){a:CE}(u:dP Φ Ψ G a):dP Φ Ψ G (.Cz c a):=by
 have x:∀R,wE Φ G R (.Cz c a)=λd Q=>wE Φ G R a d λw=>TQ w=true/\Q w:=λR=>rfl;have q:∀{S:SE}{X:Cx},XOk S Φ Ψ G X->∀ex,aL S false (.Cz c a) ex=true->∀R,VE X S.M R .s ex (wE Φ G R (.Cz c a)):=λ{S X} b ex k R=>by have k:=a2 k;have m:XOk (S.lend c) Φ Ψ G X:=⟨b.hN,b.nd,b.calm,b.un,b.nk,b.fns,b.OW,b.MU,b.MV,b.xK,b.kit⟩;rw[x];refine PE.imp (u.s m k.2 R) ?_;rintro y H Q ⟨A,n,d,P,l,i,h,g⟩;obtain⟨p,D,E,C,j⟩:=l.sub (M':=(S.lend c).M) lN none (λv e=>by cases e);exact⟨p,n,d,_,j,i,h,λw v o f s r=>g w v o f.2 s (.of (Va f.1 r.cg))⟩
 refine⟨λ{S X} b ex k R=>by rw[ig rfl];exact q b ex k R,λ{S X} b ex k z R=>?_,λ{S X} b F I ex k _ R=>?_⟩
 ·have k:=a2 k;have m:XOk (S.lend c) Φ Ψ G X:=⟨b.hN,b.nd,b.calm,b.un,b.nk,b.fns,b.OW,b.MU,b.MV,b.xK,b.kit⟩;rw[x];refine PT.imp (u.t m ex k.2 z R) ?_;rintro y H Q ⟨A,n,d,P,l,i,h,g⟩;obtain⟨p,D,E,C,j⟩:=l.sub (M':=(S.lend c).M) lN none (λv e=>by cases e);exact⟨p,n,d,_,j,i,h,λw o f s=>g w o f.2 s⟩
 ·have B:gX S (.Cz c a) ex=false:=rfl;rw[B,cw,X9]at k;exact iI (lJ (q b ex (by exact k) R))
theorem Vd(i g f:Nat)(as:List CE):dP Φ Ψ G (.Oe i g f as):=.mk1 (λc ex k R=>by cases k) (λb k a=>by cases k) (λS ex k=>by cases k) (λ_ _=>rfl)
theorem Ve(i:Nat):dP Φ Ψ G (.pop i):=.mk1 (λc ex k R=>by cases k) (λb k a=>by cases k) (λS ex k=>by cases k) (λ_ _=>rfl)
theorem Vf{as:List CE}(h:∀c∈as,dP Φ Ψ G c):dP Φ Ψ G (.oO as):=by
 refine⟨λ{S X} i ex k R=>?_,λ{S X} i ex k _ R=>?_,λ{S X} i tg br ex k _ R=>?_⟩
 ·obtain⟨x,q,z,p,rfl,l⟩:=aW k;simp at l
 ·obtain⟨x,q,z,p,rfl,l⟩:=aW k;simp at l
 ·have D:gX S (.oO as) ex=false:=rfl;rw[D,cw,X9]at k;obtain⟨x,q,z,p,rfl,l⟩:=aW k;simp only[BM]at l;obtain⟨⟨⟨⟨⟨_,v⟩,C⟩,B⟩,y⟩,t⟩:=l;have v:=Bz v;subst v;obtain⟨w,F,E⟩:=cK i C;have hz:=i.xK _ (by simpa using B);rcases as with _|⟨a,_|⟨b,_|⟨c,_|⟨d,as⟩⟩⟩⟩
  ·simp at y
  ·obtain⟨e,r,rfl,j,n⟩:=iE t;cases uR n;exact OC (M:=S.M) (R:=R) (br:=br) (tg:=tg) (p:=q) (pos:=p) w hz ((h a FV).s i j R) (aJ (bE (.inl j)) _ _)
  ·obtain⟨e,r,rfl,j,n⟩:=iE t;obtain⟨f,r,rfl,m,o⟩:=iE n;cases uR o;exact OD (M:=S.M) (R:=R) (br:=br) (tg:=tg) (p:=q) (pos:=p) w hz ((h a (by simp)).s i j R) ((h b (by simp)).s i m R) (aJ (bE (.inl j)) _ _) (aJ (bE (.inl m)) _ _)
  ·obtain⟨e,r,rfl,j,n⟩:=iE t;obtain⟨f,r,rfl,m,o⟩:=iE n;obtain⟨g,r,rfl,A,u⟩:=iE o;cases uR u;exact OE (M:=S.M) (R:=R) (br:=br) (tg:=tg) (p:=q) (pos:=p) w hz ((h a (by simp)).s i j R) ((h b (by simp)).s i m R) ((h c (by simp)).s i A R) (aJ (bE (.inl j)) _ _) (aJ (bE (.inl m)) _ _) (aJ (bE (.inl A)) _ _)
  ·simp at y
theorem pQ{f:Expr->Bool}{a:List Expr}(h:Bo f a=true):∃e,a=[e]/\f e=true:=iJ h
theorem Vg{a:CE}(n:dP Φ Ψ G a):dP Φ Ψ G (.y9 a):=by
 refine⟨λ{S X} c ex k R=>?_,λ{S X} c ex k _ R=>?_,λ{S X} c s v ex k m R=>?_⟩
 ·obtain⟨x,q,g,p,rfl,b⟩:=aW k;simp at b
 ·obtain⟨x,q,g,p,rfl,b⟩:=aW k;simp at b
 ·have l:gX S (.y9 a) ex=false:=rfl;rw[l,cw,X9]at k;obtain⟨x,q,g,p,rfl,b⟩:=aW k;simp only[BM]at b;obtain⟨⟨⟨⟨_,f⟩,j⟩,i⟩,d⟩:=b;have f:=Bz f;subst f;obtain⟨e,rfl,d⟩:=pQ d;obtain⟨o,u,t⟩:=cK c j;obtain⟨h,b,r,rfl⟩:=m rfl;exact Up o (c.xK _ (by simpa using i)) (lJ (n.e c e d R)) (aJ (bE (.inl d)) _ _)
theorem Vh{a:CE}(s:dP Φ Ψ G a):dP Φ Ψ G (.rev a):=by
 have r:∀{S:SE}{X:Cx},XOk S Φ Ψ G X->∀ex,aL S false (.rev a) ex=true->∀R,VE X S.M R (mo Ψ (.rev a)) ex (wE Φ G R (.rev a)):=λ{S X} d ex k R=>by obtain⟨x,q,h,p,rfl,c⟩:=aW k;have c:(decide (x=("list":Str))&&lM S x&&S.zn.contains x&&Bo (λv=>nq (λy h=>decide (y=("reversed":Str))&&lM S y&&S.zn.contains y&&Bo (λu=>aL S false a u||gX S a u) h) v) h)=true:=c;simp only[BM]at c;obtain⟨⟨⟨g,n⟩,m⟩,l⟩:=c;clear k c;have g:=Bz g;subst g;obtain⟨e,rfl,l⟩:=pQ l;obtain⟨y,E,h,F,rfl,c⟩:=aW l;simp only[BM]at c;obtain⟨⟨⟨f,w⟩,t⟩,i⟩:=c;have f:=Bz f;subst f;obtain⟨u,rfl,i⟩:=pQ i;obtain⟨o,C,B⟩:=cK d n;obtain⟨A,J,I⟩:=cK d w;rw[m7 rfl];exact OB d.calm o (d.xK _ (by simpa using m)) A (d.xK _ (by simpa using t)) (s.b d i R) (aJ (bE (jd i)) _ _)
 refine⟨r,λ{S X} d ex k _ R=>zk (λj=>?_) (HN (r d ex k R)),λ{S X} d D K ex k H R=>?_⟩
 ·obtain⟨x,q,h,p,rfl,c⟩:=aW k;rfl
 ·have z:gX S (.rev a) ex=false:=rfl;rw[z,cw,X9]at k;obtain⟨x,q,h,p,rfl,c⟩:=aW k;have c:(decide (x=("reversed":Str))&&lM S x&&S.zn.contains x&&Bo (λv=>aL S false a v) h)=true:=c;simp only[BM]at c;obtain⟨⟨⟨g,n⟩,m⟩,f⟩:=c;have g:=Bz g;subst g;obtain⟨e,rfl,f⟩:=pQ f;obtain⟨o,C,B⟩:=cK d n;exact Uq o (d.xK _ (by simpa using m)) (lJ (s.e d e f R)) (aJ (bE (.inl f)) _ _)
theorem uS{f:NameKind->NameKind}:∀(l:List (Str×NameKind))(y:Str),(l.map λp=>(p.1,f p.2)).lookup y=(l.lookup y).map f
 |[],_=>rfl
 |(n,k)::r,y=>by
  rw[Jn,List.lookup_cons,List.lookup_cons];by_cases e:(y==n)=true
  ·rw[e];rfl
  ·rw[gd]at e;rw[e];exact uS r y
theorem zv{sc a b:Scope}{N d c:List Str}(h:∀x,a.names.lookup x=b.names.lookup x):gS sc a N d c=gS sc b N d c:=by unfold gS;simp only[h]
theorem zw{S:SE}{X:Cx}(a:XOk S Φ Ψ G X){scope:Scope}{b:List Str}(e:gS scope X.env.scope X.N (mask b S.N) b=true)(g:(b++mask b S.N).Nodup){c:List (Addr×Obj)}{σ:St}{H:Hp}{s:Shared}(I:Inv X c σ H s)(C:Addr)(d:Shared)(i:Hp)(h:List Addr):
 XOk (S.comp scope b) Φ Ψ G (bG X scope C b (mask b S.N) d i h):=by
 refine⟨rfl,g,a.calm,a.un,λx=>?_,a.fns,a.OW,a.MU,a.MV,a.xK,a.kit⟩;show(relabel scope X.env).names.lookup x=_;rw[jC I (jk.of e)];show _=(scope.names.map λp=>(p.1,if p.2=.free then NameKind.cell else p.2)).lookup x;rw[uS (f:=λk=>if k=.free then NameKind.cell else k)]
noncomputable def jm(X:Cx)(i:Nat)(x:Str):Prop:=X.N[i]?=some x/\Loc X.env.scope x/\(X.fn x=true\/X.env.scope.names.lookup x=some .local)
noncomputable def fH(X:Cx):List Nat->List Str->Prop
 |[],a=>a=[]
 |i::b,a=>∃x r,a=x::r/\jm X i x/\fH X b r
theorem Rn{X:Cx}(a:X.N.Nodup){i:Nat}{x:Str}{p:Pos}(h:jm X i x):PG X (.Name x p) (kJ i):=M3 a h.1 h.2.1 h.2.2
theorem Lo{X:Cx}(f:X.N.Nodup):∀(a:List Expr)(c:List Str)(b:List Nat),IY a=some c->fH X b c->Xn X a (YH b)/\(assignEach a X.env).length=b.length/\(assignEach a X.env).findIdx? (·.1)=none
 |[],c,b,h,k=>by
  cases h;cases b with
  |nil=>exact⟨M4,rfl,rfl⟩
  |cons i d=>obtain⟨x,r,e,_⟩:=k;cases e
 |.Name x p::a,c,b,h,k=>by
  rw[IY]at h;obtain⟨l,n,rfl⟩:=Oy.mp h;cases b with
  |nil=>cases k
  |cons i d=>obtain⟨s,r,e,q,o⟩:=k;cases e;obtain⟨m,j,g⟩:=Lo f a l d n o;have e:assignEach (.Name x p::a) X.env=(false,assign (.Name x p) X.env)::assignEach a X.env:=rfl;refine⟨Jp (Rn f q) m rfl,by rw[e,List.length_cons,j,List.length_cons],?_⟩;rw[e,List.findIdx?_cons,g];rfl
 |.BoolOp ..::a,c,b,h,k=>by cases h
 |.NamedExpr ..::a,c,b,h,k=>by cases h
 |.BinOp ..::a,c,b,h,k=>by cases h
 |.UnaryOp ..::a,c,b,h,k=>by cases h
 |.Lambda ..::a,c,b,h,k=>by cases h
 |.IfExp ..::a,c,b,h,k=>by cases h
 |.Dict ..::a,c,b,h,k=>by cases h
 |.Set ..::a,c,b,h,k=>by cases h
 |.ListComp ..::a,c,b,h,k=>by cases h
 |.SetComp ..::a,c,b,h,k=>by cases h
 |.DictComp ..::a,c,b,h,k=>by cases h
 |.GeneratorExp ..::a,c,b,h,k=>by cases h
 |.Await ..::a,c,b,h,k=>by cases h
 |.Yield ..::a,c,b,h,k=>by cases h
 |.YieldFrom ..::a,c,b,h,k=>by cases h
 |.Compare ..::a,c,b,h,k=>by cases h
 |.Call ..::a,c,b,h,k=>by cases h
 |.FormattedValue ..::a,c,b,h,k=>by cases h
 |.JoinedStr ..::a,c,b,h,k=>by cases h
 |.Constant ..::a,c,b,h,k=>by cases h
 |.Attribute ..::a,c,b,h,k=>by cases h
 |.Subscript ..::a,c,b,h,k=>by cases h
 |.Starred ..::a,c,b,h,k=>by cases h
 |.List ..::a,c,b,h,k=>by cases h
 |.Tuple ..::a,c,b,h,k=>by cases h
 |.Slice ..::a,c,b,h,k=>by cases h
theorem Vi{X:Cx}(q:X.calm=true)(c:X.N.Nodup){tg:Expr}{one:Bool}{b:List Str}{a:List Nat}(h:YU tg=some (one,b))(k:fH X a b):PG X tg (gT X.K one a):=by
 cases tg with
 |Name x p=>
  cases h
  match a,k with
  |[i],k=>obtain⟨g,r,e,f,d⟩:=k;cases e;exact Rn c f
  |[],k=>cases k
  |_::_::_,k=>obtain⟨g,r,e,f,d⟩:=k;cases e;obtain⟨u,v,t,_⟩:=d;cases t
 |Tuple s w p=>
  rw[YU]at h;obtain⟨l,o,e⟩:=Oy.mp h;cases e;obtain⟨n,m,j⟩:=Lo c s b a o k;have:gT X.K false a=Sn X.K a.length (YH a):=by cases a<;>rfl
  rw[this];exact So q n m j
 |_=>exact nn h
theorem r6{X:Cx}:∀(a:List Str)(n:Nat),(∀k x,a[k]?=some x->jm X (n+k) x)->fH X ((List.range a.length).map (n+·)) a
 |[],n,_=>by simp[fH]
 |x::a,n,h=>by
  rw[List.length_cons,List.range_succ_eq_map,Jn];refine⟨x,a,rfl,h 0 x rfl,?_⟩;have:=r6 a (n+1) λk y b=>by have:=h (k+1) y (by simpa using b);rw[show n+1+k=n+(k+1) by lia];exact this
  rw[SZ];have e:(List.range a.length).map (n+1+·)=(List.range a.length).map ((n+·)∘Nat.succ):=kz λk _=>by show n+1+k=n+(k+1);lia
  rw[←e];exact this
theorem Br{a:Expr}(h:DG a=true)(env:Env)(x:Value):foldedSetIterable a env x=pure x:=by
 cases a<;>first|rfl|exact ff h
theorem F3{d:List Nat}{one:Bool}{n:Nat}{i c x:CE}{R:Addr->Prop}:wE Φ G R (.comp d one n i c x)=λb Q=>wE Φ G R i b λz=>items z λf=>sE (λw K=>wT one d w (List.replicate n none++b) λa=>wE Φ G (λ_=>False) c a λe=>truth e λk=>if k=true then wE Φ G (λ_=>False) x a λy=>K (some y)else K none) f [] λl=>Q (.lst l):=rfl
theorem uT{ts:List Nat}{one:Bool}{n:Nat}{i c x:CE}(hi:dP Φ Ψ G i)(hc:dP Φ Ψ G c)(hx:dP Φ Ψ G x){S:SE}{X:Cx}(L:XOk S Φ Ψ G X){ex:Expr}(k:aL S false (.comp ts one n i c x) ex=true)(R:Addr->Prop):
 ∃D tg d B scope p a,ex=.ListComp D [⟨tg,d,B,0⟩] scope p/\n=a.length/\(∀j∈ts,j<a.length)/\gS scope X.env.scope X.N (mask a S.N) a=true/\(∀z,foldedSetIterable d X.env z=pure z)/\PI X tg d (K7 X S.M R true (wE Φ G R i))/\
  ∀E s σ H,Inv X E σ H s->(∀C m g u,PG (bG X scope C a (mask a S.N) m g u) tg (gT X.K one ts))/\(∀C m g u,PF (bG X scope C a (mask a S.N) m g u) B (tT0 X.K (up S.M a.length) (wE Φ G (λ_=>False) c)))/\
   ∀C m g u,PE (bG X scope C a (mask a S.N) m g u) D (tV0 X.K (up S.M a.length) (wE Φ G (λ_=>False) x)):=by
 obtain⟨D,tg,d,B,scope,p,rfl,J⟩:=xJ k;unfold Bp at J;split at J;rotate_left
 ·cases J
 rename_i o a Vj
 simp only[BM]at J;obtain⟨⟨⟨⟨⟨⟨⟨⟨⟨k1,k2⟩,k3⟩,k4⟩,k5⟩,k6⟩,k7⟩,k8⟩,l⟩,Rl⟩:=J;have k1:=Nw.mp k1;have k2:=Nw.mp k2;have k3:=Nw.mp k3;subst k1 k2 k3;have F:=Bz k5;have U:gS scope X.env.scope X.N (mask a S.N) a=true:=by rw[L.hN,zv (b:=S.sc) λy=>L.nk y];exact k4
 have O:=jk.of U;refine⟨D,tg,d,B,scope,p,a,rfl,rfl,λj hj=>cm.mp hj,U,Br k6 _,hi.i L tg true d (by rw[Bool.true_and];exact k8) (λz=>?_) R,λE s σ H I=>⟨λC m g u=>?_,λC m g u=>?_,λC m g u=>?_⟩⟩
 ·have:one=false:=by rw[z]at k7;simpa using k7
  subst this;cases tg with
  |Tuple es J p=>exact⟨_,_,_,rfl⟩
  |Name y p=>cases Vj
  |_=>exact nn Vj
 ·have T:=zw L U F I C m g u;refine Vi T.calm T.nd Vj ?_;have:=r6 (X:=bG X scope C a (mask a S.N) m g u) a 0 λk y hy=>?_
  ·simpa using this
  ·have hm:y∈a:=KB hy;have l1:(bG X scope C a (mask a S.N) m g u).env.scope.names.lookup y=some .local:=by show(relabel scope X.env).names.lookup y=_;rw[jC I O,(O.own y hm).1];rfl
   refine⟨?_,.inl l1,.inr l1⟩;show(a++mask a S.N)[0+k]?=some y;rw[ke,He (Fs.mp hy).1];exact hy
 ·have T:=zw L U F I C m g u
  match B,l with
  |[],l=>
   have l:Ri c=true:=l;cases c with
   |bl b=>have:b=true:=l;subst this;refine PF.imp Tf ?_;rintro σ H Q ⟨A,g,Y,P,Z,h,k⟩;obtain⟨b,e,q⟩:=k _ H h (aE.refl H);cases e;exact q
   |_=>exact ff l
  |[f],l=>have l:(aL (S.comp scope a) false c f&&Lk c)=true:=l;rw[BM]at l;exact PF.imp (Tg (hc.t T f l.1 l.2 λ_=>False))<|by rintro σ H Q ⟨A,g,Y,P,Z,h,k⟩;exact⟨A,g,Y,P,Z,.none,h,k⟩
  |_::_::_,l=>exact ff l
 ·have T:=zw L U F I C m g u;exact PE.imp (hx.s T Rl λ_=>False)<|by rintro σ H Q ⟨A,g,Y,P,Z,h,k⟩;exact⟨A,g,Y,P,Z,.none,h,λw v H' pw s r=>k w v H' pw s r.cg⟩
theorem O3(o:List Nat)(one:Bool)(n:Nat){i c x:CE}(A:dP Φ Ψ G i)(B:dP Φ Ψ G c)(v:dP Φ Ψ G x):dP Φ Ψ G (.comp o one n i c x):=by
 refine .mk1 (λ{S X} m ex k R=>?_) (λ{S ex} C k e=>?_) (λS ex k=>by exact k) (λ_ _=>rfl)
 ·obtain⟨j,q,d,f,b,p,E,rfl,rfl,g,z,h,D,y⟩:=uT A B v m k R;rw[m7 rfl];rw[F3];intro a s l H Q I w;obtain⟨u,t,r⟩:=y a s l H I;exact OG m.calm z g D u t r h a s l H Q I w
 ·obtain⟨j,q,d,f,b,p,rfl,F⟩:=xJ k;rfl
theorem Vk:wu Φ Ψ G []:=by
 have e:∀{S:SE}{a:List Expr},i8 S [] a=true->a=[]:=λ{S a} h=>by exact HI.mp h
 have f:∀{S:SE}{a:List Expr},pP S [] a=true->a=[]:=λ{S a} h=>by exact HI.mp h
 refine⟨λd a k R=>?_,λd a k R=>?_,λd a b c k R=>absurd (e k) c,λd a b c k R=>absurd (e k) c,λd a b c k _ R=>absurd (e k) c,λd a b c k _ R=>absurd (e k) c⟩
 ·rw[e k];exact Ug
 ·rw[f k];exact Ov
theorem O4{a:CE}{as:List CE}(l:dP Φ Ψ G a)(n:wu Φ Ψ G as):wu Φ Ψ G (a::as):=by
 have o:∀{S:SE}{j:List Expr},i8 S (a::as) j=true->∃e r,j=e::r/\aL S false a e=true/\i8 S as r=true:=λ{S j} h=>by
  rw[i8]at h;cases j with
  |nil=>exact ff h
  |cons e r=>rw[Bm,BM]at h;exact⟨e,r,rfl,h.1,h.2⟩
 have v:∀R,wA Φ G R (a::as)=λu Q=>wE Φ G R a u λx=>wA Φ G R as u λw=>Q (x::w):=λR=>rfl;refine⟨λc j k R=>?_,λ{S X} c j k R=>?_,λ{S X} c j f p k R=>?_,λ{S X} c j f p k R=>?_,λ{S X} c j f p k i R=>?_,λ{S X} c j f p k i R=>?_⟩
 ·obtain⟨e,r,rfl,g,d⟩:=o k;rw[v];exact Ou (aJ (bE (.inl g)) _ _) (l.s c g R) (n.a c r d R)
 ·rw[pP]at k;cases j with
  |nil=>exact ff k
  |cons e r=>rw[Bm,BM]at k;rw[v];exact K5 (aJ (bE (jd k.1)) _ _) (l.b c k.1 R) (n.b c r k.2 R)
 ·obtain⟨e,r,rfl,g,d⟩:=o k;cases as with
  |nil=>
   have:r=[]:=by exact HI.mp d
   subst this;exact Jl (l.s c g R)
  |cons b q=>
   cases r with
   |nil=>exact ff d
   |cons m r=>exact Ub (l.s c g R) (n.av c (m::r) f (by simp) d R)
 ·obtain⟨e,r,rfl,g,d⟩:=o k;cases as with
  |nil=>
   have:r=[]:=by exact HI.mp d
   subst this;exact Jl (l.s c g R)
  |cons b q=>
   cases r with
   |nil=>exact ff d
   |cons m r=>exact Yz (l.s c g R) (n.ov c (m::r) f (by simp) d R)
 ·obtain⟨e,r,rfl,g,d⟩:=o k;have i:=a2 i;cases as with
  |nil=>
   have:r=[]:=by exact HI.mp d
   subst this;exact Ot (l.t c e g i.1 R)
  |cons b q=>
   cases r with
   |nil=>exact ff d
   |cons m r=>exact Ud (l.t c e g i.1 R) (n.at c (m::r) f (by simp) d i.2 R)
 ·obtain⟨e,r,rfl,g,d⟩:=o k;have i:=a2 i;cases as with
  |nil=>
   have:r=[]:=by exact HI.mp d
   subst this;exact Uc (l.t c e g i.1 R)
  |cons b q=>
   cases r with
   |nil=>exact ff d
   |cons m r=>exact YA (l.t c e g i.1 R) (n.ot c (m::r) f (by simp) d i.2 R)
variable(Φ Ψ G)
mutual
theorem snd:∀c:CE,dP Φ Ψ G c
 |.var i=>UT i
 |.int i=>UW i
 |.bl b=>YY b
 |.str x=>UX x
 |.bC=>UY
 |.FI n=>UZ n
 |.glob g=>OY g
 |.bin op a b=>U0 op (snd a) (snd b)
 |.neg a=>U1 (snd a)
 |.not a=>U3 (snd a)
 |.cmp op a b=>U4 op (snd a) (snd b)
 |.and as=>U5 (sG as).1
 |.or as=>Y0 (sG as).1
 |.ite c a b=>U6 (snd c) (snd a) (snd b)
 |.tup as=>U7 (sG as).1
 |.lst as=>U8 (sG as).1
 |.ix a i=>Y4 (snd a) (snd i)
 |.sl a e j=>Y5 (snd a) (snd e) (snd j)
 |.call f as=>OZ f (sG as).1
 |.blt b as=>U9 b (sG as).1 (sG as).2
 |.bits a=>O2 (snd a)
 |.comp d one n i c x=>O3 d one n (snd i) (snd c) (snd x)
 |.oO as=>Vf (sG as).2
 |.y9 a=>Vg (snd a)
 |.rev a=>Vh (snd a)
 |.pop i=>Ve i
 |.own i π=>UU i π
 |.Cz h a=>Vb h (snd a)
 |.Oe i g f as=>Vd i g f as
theorem sG:∀cs:List CE,wu Φ Ψ G cs/\∀c∈cs,dP Φ Ψ G c
 |[]=>⟨Vk,by simp⟩
 |c::cs=>⟨O4 (snd c) (sG cs).1,λd a=>by
  rcases GT.mp a with e|h
  ·rw[e];exact snd c
  ·exact(sG cs).2 d h⟩
end
end
noncomputable def WV(S:SE)(i:Nat)(x:Str):Bool:=S.N[i]?==some x&&(S.nk.lookup x==some .local||S.nk.lookup x==some .cell)
noncomputable def HX(S:SE):List Nat->List Str->Bool
 |[],a=>a.isEmpty
 |i::b,a=>match a with
  |x::r=>WV S i x&&HX S b r
  |[]=>false
noncomputable def O5(S:SE)(a:List Nat):Bool:=a.all λi=>!Be S.M i
noncomputable def SE.less(S:SE)(i:Nat):SE:={S with M:=S.M.filter (·.1 !=i)}
noncomputable def SE.bare(S:SE):SE:={S with M:=[]}
noncomputable def Lp:Expr->Bool
 |.Tuple _ _ _=>false
 |_=>true
noncomputable def F4:Expr->Bool
 |.ListComp _ _ _ _=>false
 |_=>true
noncomputable def WW(S:SE)(b vs:List Expr):Option (Option (List Str)):=
 if !(b.length==2||b.length==3)||vs.length !=b.length then some none
 else if vs.any λ|.Starred ..=>true|_=>false then some none
 else
  let line:=(b.head?.map (·.pos.line)).getD 0
  let a:=b.filterMap λ
   |.Name c pos=>if S.nk.lookup c==some .local&&pos.line==line then some c else none
   |_=>none
  if a.length !=b.length||a.eraseDups.length !=a.length then some none
  else if vs.all (foldedForSure 8)then some none
  else if vs.all (constantsAlone 8)then none
  else some (some a)
noncomputable def HY(f:List Expr->Expr->Bool):Stmt->Bool
 |.Assign a v _=>f a v
 |_=>false
noncomputable def oWh(f:Expr->List Stmt->List Stmt->Bool):Stmt->Bool
 |.While c a b _=>f c a b
 |_=>false
noncomputable def oFr(f:Expr->Expr->List Stmt->List Stmt->Bool):Stmt->Bool
 |.For t i a b _=>f t i a b
 |_=>false
noncomputable def oRs(f:Expr->Bool):Stmt->Bool
 |.Raise (some x) none _=>f x
 |_=>false
noncomputable def O6(f:Expr->Bool):Stmt->Bool
 |.Expr v _=>f v
 |_=>false
noncomputable def Lq(f:Str->Pos->Expr->Bool):Stmt->Bool:=HY λa v=>o1 (oNm λx p=>f x p v) a
noncomputable def Ro(f:List Expr->Expr->Bool):Stmt->Bool:=HY λa v=>o1 (HU λb=>f b v) a
noncomputable def Rp(f:List Expr->List Expr->Bool):Stmt->Bool:=HY λb v=>o1 (HU λc=>HU (λa=>f c a) v) b
noncomputable def Lr(f:Expr->Expr->Expr->Bool):Stmt->Bool:=HY λa v=>o1 (HV λo k=>f o k v) a
noncomputable def Vl(f:Expr->Str->Pos->Pos->Expr->Bool):Stmt->Bool:=O6 (xG λg b k c=>k&&o1 (λv=>HS (λo m a=>f o m a c v) g) b)
noncomputable def Vm(n:Bool)(f:Expr->Bool):Stmt->Bool
 |.Return (some v) _=>f v
 |.Return none _=>n
 |_=>false
noncomputable def Y6(f:Expr->List Stmt->List Stmt->Bool):Stmt->Bool
 |.If c a b _=>f c a b
 |_=>false
noncomputable def Y7(f:Expr->List Stmt->Bool):Stmt->Bool:=oWh λc a b=>b.isEmpty&&f c a
noncomputable def Y8(f:Expr->Expr->List Stmt->Bool):Stmt->Bool:=oFr λt i a b=>b.isEmpty&&f t i a
noncomputable def abt:Stmt->Bool
 |.Break _=>true
 |_=>false
noncomputable def Ls(f:Str->Expr->Bool):Stmt->Bool:=oRs (xG λg a k _=>k&&o1 (λe=>Bh (λx=>f x e) g) a)
noncomputable def Lu(f:Stmt->Bool)(g:List Stmt->Bool):List Stmt->Bool
 |e::a=>f e&&g a
 |[]=>false
mutual
noncomputable def HZ:Md->Md->Bool
 |.s,m=>OS m
 |.f,m=>UR m
 |.t a,m=>match m with
  |.t b=>DJ a b
  |_=>false
 |.o d a,m=>match m with
  |.o c b=>decide (d=c)&&DJ a b
  |_=>false
 |.io a,m=>match m with
  |.io b=>HZ a b
  |_=>false
noncomputable def DJ:List Md->List Md->Bool
 |[],l=>l.isEmpty
 |a::as,l=>match l with
  |b::bs=>HZ a b&&DJ as bs
  |[]=>false
end
mutual
theorem zx:∀{a b:Md},HZ a b=true->a=b
 |.s,m,h=>by rw[HZ]at h;cases m<;>first|rfl|exact ff h
 |.f,m,h=>by rw[HZ]at h;cases m<;>first|rfl|exact ff h
 |.t a,m,h=>by
  cases m with
  |t b=>simp only[HZ]at h;rw[zy h]
  |_=>simp[HZ]at h
 |.o d a,m,h=>by
  cases m with
  |o c b=>simp only[HZ,BM]at h;rw[Bz h.1,zy h.2]
  |_=>simp[HZ]at h
 |.io a,m,h=>by
  cases m with
  |io b=>simp only[HZ]at h;rw[zx h]
  |_=>simp[HZ]at h
theorem zy:∀{a b:List Md},DJ a b=true->a=b
 |[],l,h=>by
  cases l with
  |nil=>rfl
  |cons b bs=>simp[DJ]at h
 |a::as,l,h=>by
  cases l with
  |nil=>simp[DJ]at h
  |cons b bs=>simp only[DJ,BM]at h;rw[zx h.1,zy h.2]
end
noncomputable def hasB(M:Ms)(i:Nat)(m:Md):Bool:=match M.lookup i with
 |some k=>HZ k m
 |none=>false
theorem mR{M:Ms}{i:Nat}{m:Md}(h:hasB M i m=true):(i,m)∈M:=by
 unfold hasB at h;cases e:M.lookup i with
 |none=>rw[e]at h;exact ff h
 |some k=>rw[e]at h;rw[←zx h];exact lK e
noncomputable def Rq(f:Expr->Str->List Expr->Bool):Expr->Bool:=xG λg b k c=>k&&HS (λo m a=>(a.endLine==c.line)&&decide (b.length<30)&&f o m b) g
mutual
noncomputable def pR(S:SE):CE->Expr->Bool
 |.pop i,e=>DF (λo m n k=>decide (m=("pop":Str))&&(n.endLine==k.line)&&HR S.M i&&pO S i o) e
 |.Oe i g f as,e=>Rq (λo x d=>S.fn[f]?==some x&&S.mt.any (λy=>y.1==f&&y.2==g)&&(match bO S.md f with
  |.io (.o h j)=>hasB S.M i (.o h j)&&!h.contains x
  |_=>false)&&pO S i o&&xN S as d) e
 |.bin op a b,e=>Lh (λo l r=>decide (op=o)&&pR S a l&&pR S b r) e
 |.cmp op a b,e=>Li (λo l r=>decide (op=o)&&!decide (op=.In)&&!decide (op=.NotIn)&&pR S a l&&pR S b r) e
 |.call f as,e=>nq (λx d=>S.fn[f]?==some x&&lM S x&&!d.isEmpty&&!kT (bO S.md f)&&!S.mt.any (·.1==f)&&xN S as d) e
 |.blt b as,e=>nq (λx d=>decide (x=YT b)&&lM S x&&S.zn.contains x&&biA b d.length&&!decide (b=.Cy)&&!decide (b=.list)&&!decide (b=.tuple)&&!decide (b=.int)&&!d.isEmpty&&xN S as d) e
 |.ix a b,e=>HV (λv s=>Bl s&&pR S a v&&pR S b s) e
 |.and _,_=>false
 |c,e=>aL S false c e
noncomputable def xN(S:SE):List CE->List Expr->Bool
 |[],b=>b.isEmpty
 |a::as,b=>Bm (λe=>pR S a e) (λb=>xN S as b) b
end
noncomputable def isS:Md->Bool
 |.s=>true
 |_=>false
noncomputable def rmd(a:Nat->Md):CE->Md
 |.tup as=>.t (as.map (mo a))
 |.call f _=>a f
 |c=>mo a c
noncomputable def isVar:CE->Option Nat
 |.var i=>some i
 |_=>none
noncomputable def Y9(S:SE)(m:Md)(e:CE)(v:Expr):Bool:=match isVar e with
 |some i=>hasB S.M i m&&pO S i v
 |none=>false
noncomputable def Za(S:SE)(a:Nat->Md)(m:Md)(e:CE)(v:Expr):Bool:=
 !kT m&&((isS m&&(aL S.bare false e v||aL S false e v))||(HZ (rmd a e) m&&aL S.bare false e v)||Y9 S m e v)
noncomputable def Vn(S:SE)(m:Md):Bool:=match m with
 |.io k=>hasB S.M 0 k
 |_=>false
noncomputable def Rr(f:Expr->Str->Expr->Bool):Stmt->Bool:=HY λa v=>o1 (HS λo x _=>f o x v) a
noncomputable def isCall:CE->Bool
 |.call _ _=>true
 |_=>false
noncomputable def Vo(S:SE)(i n:Nat)(x:Str):Bool:=match S.M.lookup i with
 |some (.o b a)=>b[n]?==some x&&(match a[n]? with
  |some k=>OS k
  |none=>false)
 |_=>false
noncomputable def frB(S:SE)(a:List Nat)(one d:Bool)(f:Expr->Bool)(g:List Stmt->Bool)(tg c:Expr)(b:List Stmt):Bool:=
 match YU tg with
 |some (o,e)=>(one==o)&&HX S a e&&O5 S a&&DG c&&(!d||!one)&&f c&&g b
 |none=>false
noncomputable def zA:Expr->Bool
 |.SetComp _ _ _ _=>false
 |.DictComp _ _ _ _ _=>false
 |_=>true
mutual
noncomputable def O7(S:SE)(d:Nat->Md)(m:Md):CS->Stmt->Bool
 |.set i e,st=>Lq (λx _ v=>WV S i x&&(if Be S.M i=true then(!kT m||!(i==0))&&((HR S.M i&&kU d e)||(isCall e&&hasB S.M i (rmd d e)))&&aL (S.less i) false e v else aL S false e v)) st
 |.FJ f e,st=>Ro (λl v=>(match IY l with|some h=>HX S f h|none=>false)&&O5 S f&&aL S false e v&&(Lp v||HU (λvs=>decide (WW S l vs=some none)) v)) st
 |.par f l,st=>Rp (λtg vs=>(match IY tg with|some h=>HX S f h&&decide (WW S tg vs=some (some h))&&decide h.Nodup&&h.all (λx=>S.nk.lookup x==some .local)|none=>false)&&O5 S f&&i8 S l vs) st
 |.app i e,st=>Vl (λo p r q v=>decide (p=("append":Str))&&(r.endLine==q.line)&&HR S.M i&&pO S i o&&aL S false e v) st
 |.put i k e,st=>Lr (λo j v=>HR S.M i&&pO S i o&&Bl j&&aL S false k j&&aL S false e v) st
 |.drop i,st=>O6 (λv=>F4 v&&zA v&&pR S (.pop i) v) st
 |.A3 j e,st=>Lq (λx _ v=>WV S j x&&!Be S.M j&&F4 v&&zA v&&pR S e v) st
 |.ret e,st=>Vm (nj e&&isS m) (λv=>Za S d m e v) st
 |.iff c a b,st=>Y6 (λt x y=>aL S false c t&&Lk c&&aK S d m a x&&aK S d m b y) st
 |.xD c b,st=>Y7 (λt x=>aL S false c t&&Lk c&&aK S d m b x) st
 |.fr f one s b,st=>Y8 (λtg i x=>frB S f one (Lm s) (λi=>aL S true s i) (λx=>aK S d m b x) tg i x) st
 |.brk,st=>abt st
 |.raise g e,st=>Ls (λx v=>S.gn[g]?==some x&&lM S x&&aL S false e v) st
 |.Ym i π e,st=>Vl (λo p r q v=>decide (p=("append":Str))&&(r.endLine==q.line)&&nt S UR i π o&&aL S false e v) st
 |.Yo i π k e,st=>Lr (λo j v=>nt S UR i π o&&Bl j&&aL S false k j&&aL S false e v) st
 |.HH i n e,st=>Rr (λo x v=>Vo S i n x&&pO S i o&&aL S false e v) st
 |.WM e,st=>Vm (nj e&&Vn S m) (λv=>Vn S m&&aL S false e v) st
 |.Yn e,st=>O6 (λv=>F4 v&&zA v&&pR S e v) st
 |.HJ,_=>true
 |.TM _ _,_=>false
noncomputable def aK(S:SE)(d:Nat->Md)(m:Md):List CS->List Stmt->Bool
 |[],c=>c.isEmpty
 |a::as,c=>match a with
  |.TM f b=>as.isEmpty&&!kT m&&aK (S.lend f) d m b c
  |a=>Lu (λe=>O7 S d m a e) (λc=>aK S d m as c) c
end
structure DK(S:SE)(Φ:Nat->cA)(Ψ:Nat->Md)(G:Nat->W)(X:Cx):Prop extends XOk S Φ Ψ G X where
 bk:X.env.blockKind=.function
 WX:∀x,X.fn x=true
 IZ:∀j x C,S.gn[j]?=some x->G j=.cls C->Ah X.K C
 Vp:∀i m m',(i,m)∈S.M->(i,m')∈S.M->m=m'
section
variable{S:SE}{Φ:Nat->cA}{Ψ:Nat->Md}{G:Nat->W}{X:Cx}
theorem DK.tT(h:DK S Φ Ψ G X):DK S Φ Ψ G X.tT:={toXOk:=h.toXOk.tT,bk:=h.bk,WX:=h.WX,IZ:=h.IZ,Vp:=h.Vp}
theorem XOk.mT(h:XOk S Φ Ψ G X)(M:Ms):XOk {S with M:=M} Φ Ψ G X:=⟨h.hN,h.nd,h.calm,h.un,h.nk,h.fns,h.OW,h.MU,h.MV,h.xK,h.kit⟩
theorem zC(h:DK S Φ Ψ G X){i:Nat}{x:Str}(k:WV S i x=true):jm X i x:=by unfold WV at k;simp only[BM,rp,Nw]at k;refine⟨by rw[h.hN];exact k.1,?_,.inl (h.WX x)⟩;unfold L2.Loc;rw[h.nk];exact k.2
theorem tF(h:DK S Φ Ψ G X):∀{b:List Nat}{a:List Str},HX S b a=true->fH X b a
 |[],a,k=>HI.mp k
 |i::c,[],k=>by cases k
 |i::c,x::r,k=>by rw[HX,BM]at k;exact⟨x,r,rfl,zC h k.1,tF h k.2⟩
theorem zD{a:List Nat}(h:O5 S a=true):∀i∈a,¬bI S.M i:=λi b=>pN (by simpa using IH.mp h i b)
theorem Lv{i:Nat}{m:Md}(f:(i,m)∈S.M)(d:∀c,(i,c)∈S.M->c=m){x:Nat×Md}:x∈S.M↔x=(i,m)\/x∈(S.less i).M:=by
 show _↔_\/x∈S.M.filter (·.1 !=i);rw[ij,bne_iff_ne];obtain⟨a,b⟩:=x;constructor
 ·intro h;by_cases e:a=i
  ·subst e;rw[d b h];exact .inl rfl
  ·exact .inr ⟨h,e⟩
 ·rintro(e|h)
  ·cases e;exact f
  ·exact h.1
theorem Lw{i:Nat}:¬bI (S.less i).M i:=by rintro⟨m,h⟩;have h:(i,m)∈S.M.filter (·.1 !=i):=h;rw[ij,bne_iff_ne]at h;exact h.2 rfl
noncomputable def F5:Expr->Bool
 |.SetComp _ _ _ _=>false
 |.DictComp _ _ _ _ _=>false
 |_=>true
theorem Vq{d:Bool}{c:CE}{e:Expr}(h:aL S d c e=true):F5 e=true:=by
 cases e with
 |SetComp _ _ _ _=>
  cases c with
  |own i b=>rcases(gq h).2 with⟨_,_,_,e⟩|⟨_,_,_,_,_,e⟩<;>cases e
  |Cz f a=>exact ff h
  |_=>exact ff h
 |DictComp _ _ _ _ _=>
  cases c with
  |own i b=>rcases(gq h).2 with⟨_,_,_,e⟩|⟨_,_,_,_,_,e⟩<;>cases e
  |Cz f a=>exact ff h
  |_=>exact ff h
 |_=>rfl
noncomputable def swB(S:SE)(x:Str)(p:Pos):Expr->Bool
 |.ListComp _ _ scope q=>(S.nk.lookup x==some .local)&&(p.line==q.line)&&!(scope.names.any λ(n,k)=>n==x&&(k==.local||k==.cell))
 |_=>false
theorem Zb(h:DK S Φ Ψ G X){e:Expr}(c:F5 e=true)(x:Str)(p:Pos)(l:Nat):swapsWith e (some (.Name x p)) l X.env=pure (swB S x p e):=by
 cases e with
 |ListComp a b scope q=>show(pure _:Sem Bool)=pure _;rw[h.bk];show(pure (true&&(X.env.scope.names.lookup x==some .local)&&(p.line==q.line)&&_):Sem Bool)=_;rw[h.nk,Bool.true_and];rfl
 |SetComp _ _ _ _=>exact ff c
 |DictComp _ _ _ _ _=>exact ff c
 |_=>rfl
theorem O8{e:Expr}{a:List Expr}{k:Nat}{p:Pos}(l:Nat)(env:Env):swapsWithSole [.Tuple a k p] e l env=pure false:=by
 cases e<;>rfl
theorem Bs{e o i:Expr}{p:Pos}(l:Nat)(env:Env):swapsWithSole [.Subscript o i p] e l env=pure false:=by
 cases e<;>rfl
theorem O9{e:Expr}(a:Lp e=true)(b:List Expr)(k:Nat)(p:Pos)(env:Env):swappedStores [.Tuple b k p] e env=pure none:=by
 cases e<;>first|rfl|exact ff a
theorem Bt{e o i:Expr}{p:Pos}(env:Env):swappedStores [.Subscript o i p] e env=pure none:=by
 cases e<;>rfl
theorem Lx(h:DK S Φ Ψ G X){a vs:List Expr}{k k2:Nat}{p p2:Pos}{o:Option (List Str)}(e:WW S a vs=some o):swappedStores [.Tuple a k p] (.Tuple vs k2 p2) X.env=pure o:=by
 unfold swappedStores;unfold WW at e;have b:∀x,X.env.kindOf x=S.nk.lookup x:=λx=>h.nk x;simp only[b,h.bk,bne_self_eq_false,X9];dsimp only at e;split at e
 ·rename_i c
  cases e;exact Bn c
 rename_i c1
 refine(Bi c1).trans ?_;split at e
 ·rename_i c
  cases e;exact Bn c
 rename_i c2
 refine(Bi c2).trans ?_;split at e
 ·rename_i c
  cases e;exact Bn c
 rename_i c3
 refine(Bi c3).trans ?_;split at e
 ·rename_i c
  cases e;exact Bn c
 rename_i c4
 refine(Bi c4).trans ?_;split at e
 ·cases e
 rename_i c5
 cases e;exact Bi c5
end
theorem lO{f:List Expr->Expr->Bool}{e:Stmt}(h:HY f e=true):∃a v q,e=.Assign a v q/\f a v=true:=by cases e<;>first|exact⟨_,_,_,rfl,h⟩|exact ff h
theorem Pa{f:Expr->List Stmt->List Stmt->Bool}{e:Stmt}(h:oWh f e=true):∃c a b q,e=.While c a b q/\f c a b=true:=by cases e<;>first|exact⟨_,_,_,_,rfl,h⟩|exact ff h
theorem Pb{f:Expr->Expr->List Stmt->List Stmt->Bool}{e:Stmt}(h:oFr f e=true):∃t i a b q,e=.For t i a b q/\f t i a b=true:=by cases e<;>first|exact⟨_,_,_,_,_,rfl,h⟩|exact ff h
theorem Pc{f:Expr->Bool}{e:Stmt}(h:oRs f e=true):∃x q,e=.Raise (some x) none q/\f x=true:=by
 cases e<;>try exact ff h
 rename_i x y q
 cases x<;>cases y<;>first|exact⟨_,_,rfl,h⟩|exact ff h
theorem uU{f:Expr->Bool}{st:Stmt}(h:O6 f st=true):∃v q,st=.Expr v q/\f v=true:=by cases st<;>first|exact⟨_,_,rfl,h⟩|exact ff h
theorem xO{f:Str->Pos->Expr->Bool}{st:Stmt}(h:Lq f st=true):∃x p v q,st=.Assign [.Name x p] v q/\f x p v=true:=by obtain⟨d,v,q,rfl,c⟩:=lO h;obtain⟨t,rfl,b⟩:=iJ c;obtain⟨x,p,rfl,a⟩:=FW b;exact⟨_,_,_,_,rfl,a⟩
theorem Ia{f:List Expr->Expr->Bool}{st:Stmt}(h:Ro f st=true):∃a k p v q,st=.Assign [.Tuple a k p] v q/\f a v=true:=by obtain⟨e,v,q,rfl,d⟩:=lO h;obtain⟨t,rfl,c⟩:=iJ d;obtain⟨a,k,p,rfl,b⟩:=iK c;exact⟨_,_,_,_,_,rfl,b⟩
theorem Ic{f:List Expr->List Expr->Bool}{st:Stmt}(h:Rp f st=true):∃a k p vs c b q,st=.Assign [.Tuple a k p] (.Tuple vs c b) q/\f a vs=true:=by obtain⟨j,v,q,rfl,i⟩:=lO h;obtain⟨t,rfl,g⟩:=iJ i;obtain⟨a,k,p,rfl,e⟩:=iK g;obtain⟨vs,c,b,rfl,d⟩:=iK e;exact⟨_,_,_,_,_,_,_,rfl,d⟩
theorem xP{f:Expr->Expr->Expr->Bool}{st:Stmt}(h:Lr f st=true):∃o k p v q,st=.Assign [.Subscript o k p] v q/\f o k v=true:=by obtain⟨d,v,q,rfl,c⟩:=lO h;obtain⟨t,rfl,b⟩:=iJ c;obtain⟨o,k,p,rfl,a⟩:=iL b;exact⟨_,_,_,_,_,rfl,a⟩
theorem Bu{f:Expr->Str->Pos->Pos->Expr->Bool}{st:Stmt}(h:Vl f st=true):∃o m c v b q,st=.Expr (.Call (.Attribute o m c) [v] [] b) q/\f o m c b v=true:=by obtain⟨v,q,rfl,n⟩:=uU h;obtain⟨g,s,r,p,rfl,l⟩:=jM n;obtain⟨k,j⟩:=a2 l;obtain⟨e,rfl,i⟩:=iJ j;obtain⟨o,m,a,rfl,d⟩:=jN i;rw[HI.mp k];exact⟨_,_,_,_,_,_,rfl,d⟩
theorem Bv{n:Bool}{f:Expr->Bool}{st:Stmt}(h:Vm n f st=true):(∃v q,st=.Return (some v) q/\f v=true)\/∃q,st=.Return none q/\n=true:=by
 cases st<;>try exact ff h
 rename_i v q
 cases v
 ·exact .inr ⟨_,rfl,h⟩
 ·exact .inl ⟨_,_,rfl,h⟩
theorem Ly{f:Expr->List Stmt->List Stmt->Bool}{st:Stmt}(h:Y6 f st=true):∃c a b q,st=.If c a b q/\f c a b=true:=by
 cases st<;>try exact ff h
 exact⟨_,_,_,_,rfl,h⟩
theorem Lz{f:Expr->List Stmt->Bool}{st:Stmt}(h:Y7 f st=true):∃c a q,st=.While c a [] q/\f c a=true:=by obtain⟨c,a,b,q,rfl,e⟩:=Pa h;obtain⟨k,d⟩:=a2 e;rw[HI.mp k];exact⟨_,_,_,rfl,d⟩
theorem LA{f:Expr->Expr->List Stmt->Bool}{st:Stmt}(h:Y8 f st=true):∃tg c a q,st=.For tg c a [] q/\f tg c a=true:=by obtain⟨t,i,a,b,q,rfl,e⟩:=Pb h;obtain⟨k,d⟩:=a2 e;rw[HI.mp k];exact⟨_,_,_,_,rfl,d⟩
theorem DM{f:Str->Expr->Bool}{st:Stmt}(h:Ls f st=true):∃x a e l q,st=.Raise (some (.Call (.Name x a) [e] [] l)) none q/\f x e=true:=by obtain⟨x,q,rfl,j⟩:=Pc h;obtain⟨g,n,m,p,rfl,i⟩:=jM j;obtain⟨k,d⟩:=a2 i;obtain⟨e,rfl,c⟩:=iJ d;obtain⟨y,a,rfl,b⟩:=gm c;rw[HI.mp k];exact⟨_,_,_,_,_,rfl,b⟩
section
variable{X:Cx}{M:Ms}{m:Md}{st:Stmt}{i j k:Nat}{e:Expr}{te:(Addr->Prop)->WT}{M':Ms}{m0:Md}
theorem Pd{x y z:Str}{a b c:Expr}{ta:TA}{P O L Q pos:Pos}{R k2 U}(hc:X.calm=true)(K:X.N.Nodup)(hi:X.N[i]?=some x)(hj:X.N[j]?=some y)(hk:X.N[k]?=some z)(J:i≠j)(G:i≠k)(F:j≠k)
 (T:X.env.scope.names.lookup x=some .local)(S:X.env.scope.names.lookup y=some .local)(hz:X.env.scope.names.lookup z=some .local)(ha:PA X [a,b,c] ta)
 (hw:swappedStores [.Tuple [.Name x P,.Name y O,.Name z L] R Q] (.Tuple [a,b,c] k2 U) X.env=pure (some [x,y,z])):
 PS X (.Assign [.Tuple [.Name x P,.Name y O,.Name z L] R Q] (.Tuple [a,b,c] k2 U) pos) (λD σ H=>ta σ H λvs H1=>∃v w u,vs=[v,w,u]/\D.nx (((σ.set i (some v)).set j (some w)).set k (some u)) H1):=by
 intro d s σ H D I h;rw[exec_Assign_arm];refine FC (xI ?_);refine FC (NM ?_);rw[Bi (by decide)];refine FC (Tuple_ (cM (ha _ d s σ H _ I h) λZ n ⟨vs,H1,I1,r1,t⟩=>?_));obtain⟨v,w,u,e1,t⟩:=t;subst e1;obtain⟨l,g,f,rfl,rv,r,ru⟩:∃l g f,Z=[l,g,f]/\RelV v l/\RelV w g/\RelV u f:=by
  cases r1 with
  |cons p q=>
   cases q with
   |cons p' q'=>
    cases q' with
    |cons C B=>
     cases B;exact⟨_,_,_,rfl,p,p',C⟩
 refine pk ?_ (by show 3<=sizeLine;decide);have I2:Inv X d σ H1 {n with heap:=n.heap.push {cls:=.type "tuple",data:=.seq [l,g,f].toArray}}:=I1.kept (t':=n.toks) λb o e=>DL _ e;rw[hw];refine FC (NM ?_);show wpAny (model X.prog X.w) X.A (do rule "assign.swapped-stores";let items←unpackItems (.ref n.heap.objs.size) 3 none;assignInOrder [λv=>bindName X.env z v,λv=>bindName X.env y v,λv=>bindName X.env x v] items.reverse;pure Flow.next) _ _ _;refine FC (wpAny_rule (FC (unpackItems_tuple (items:= #[l,g,f]) (I.ok.hd hc) (IsTup.new n.heap _) λh' E=>?_)));have I3:=I2.kept (h':=h') (t':=n.toks) λb o e=>E b o (KM (FS e)) e;show wpAny _ _ (assignInOrder [λv=>bindName X.env z v,λv=>bindName X.env y v,λv=>bindName X.env x v] [f,g,l]>>=λ_=>pure Flow.next) _ _ _;refine FC (lj (vT (gD I3 K hk (.inl hz) ru (λs2 I4=>?_) (.inr hz))));refine lj (vT (gD I4 K hj (.inl S) r (λs3 I5=>?_) (.inr S)));refine lj (vT (gD I5 K hi (.inl T) rv (λs4 Y=>assignInOrder_nil (NM ?_)) (.inr T)));have e6:((σ.set k (some u)).set j (some w)).set i (some v)=((σ.set i (some v)).set j (some w)).set k (some u):=by rw[List.set_comm _ _ (RF F),List.set_comm _ _ (RF G),List.set_comm _ _ (RF J)]
 rw[e6]at Y;exact⟨_,H1,Y,t⟩
theorem Pe(c:∀R,PS X st (tW (tV X M R (TY X.K .s) (te R)) (kJ i)))(n:¬bI M i):VS X M m st (λd b=>te d.ex b λw=>d.nx (b.set i (some w))):=by rintro a s f H D I ⟨A,q,b,d,S,o,hz,h,k⟩;refine c d.ex a s f H D I ⟨A,q,b,_,S,o,h,λw v p l g r=>?_⟩;exact k.nx A _ _ p rfl rfl l ((S.same g).set n r.cg)
theorem LB(c:∀R,PS X st (tW (tV X M' R (TY X.K m0) (te R)) (kJ i)))(g:∀x,x∈M↔x=(i,m0)\/x∈M')(C:¬bI M' i)(f:kT m=true->i≠0):VS X M m st (λd b=>te d.ex b λw=>d.nx (b.set i (some w))):=by
 rintro a s p H D I ⟨A,P,b,d,S,G,hz,h,k⟩;have F:∀v,A.s0=some v->A.s0=some v/\bI M' 0:=λv e=>by
  refine⟨e,?_⟩;have B:kT m=true:=by rw[←hz,e];rfl
  obtain⟨t,E⟩:=(S.sl v e).2;rcases(g _).mp E with z|z
  ·cases z;exact(f B rfl).elim
  ·exact⟨t,z⟩
 obtain⟨T,L,J,U,o⟩:=S.sub (M':=M') (λx u=>(g x).mpr (.inr u)) A.s0 F;refine c d.ex a s p H D I ⟨T,P,b,_,o,G,h,λw v O y q r=>?_⟩;obtain⟨Q,n,l,_,N⟩:=o.own g C q r;exact k.nx Q _ _ O (n.trans L) (l.trans J) y N
theorem Pf{pos:Pos}:VS X M .s (.Return none pos) (λd c=>d.rt .bC):=by rintro a s b H D I ⟨A,g,c,d,S,f,hz,h,k⟩;exact EL a s b H D I (k.rt _ _ H h S.sm (.of rfl (.of (by rw[Rep]))))
theorem LC{x:Str}{C:Addr}{p b pos:Pos}(F:X.calm=true)(y:Gl X x)(u:X.mg x=some (.ref C))(q:Ah X.K C)(z:∀R,VE X M R .s e (te R))(f:starEach [e] X.env=[(false,eval e X.env)])(B:(x==("__debug__":Str))=false):
 VS X M m (.Raise (some (.Call (.Name x p) [e] [] b)) none pos) (λd c=>te d.ex c λ_=>d.ex C):=by
 rintro a s l H D I ⟨A,J,c,d,S,⟨E,o,G,g⟩,hz,h,k⟩;exact JP g F y u q (aq (z d.ex) bf f) f B a s l H D I ⟨A,J,c,_,S,⟨E,o,G,g⟩,h,λw v L t n r=>⟨by show 1<=sizeLine;decide,t,S.sm.trans n⟩⟩
end
theorem Ie{f:Expr->Str->List Expr->Bool}{e:Expr}(h:Rq f e=true):∃o m a b c,e=.Call (.Attribute o m a) b [] c/\f o m b=true/\(a.endLine==c.line)=true/\b.length<30:=by obtain⟨g,b,n,p,rfl,l⟩:=jM h;obtain⟨k,j⟩:=a2 l;obtain⟨o,m,a,rfl,i⟩:=jN j;rw[HI.mp k];have d:=a3 i;exact⟨_,_,_,_,_,rfl,d.2,d.1.1,Bz d.1.2⟩
theorem xQ{y x:Str}{c a pos:Pos}{b:List Expr}{env:Env}(e:(backTo pos (starEach b env)).any (·.1)=false)(h:b.length<30)(d:(a.endLine==pos.line)=true):
 eval (.Call (.Attribute (.Name y c) x a) b [] pos) env=(do
  let ov←eval (.Name y c) env
  standAt a.atName
  let(f,first)←holding [ov] (getMethod ov x (do return (←importBound (.Name y c) env).getD true))
  callWith pos f first (backTo pos (starEach b env)) (backToKw pos (keywordEach [] env))):=by
 have j:methodCallForm (b.length+([]:List Keyword).length) (backTo pos (starEach b env)) (backToKw pos (keywordEach [] env))=true:=by
  unfold methodCallForm;have i:(backTo pos (starEach b env)).all (λx=>!x.1)=true:=by rw[IH];intro z hz;rw[List.any_eq_false]at e;simpa using e z hz
  rw[i];show(true&&true&&decide (b.length+0+0<30))=true;simpa using h
 have g:methodCallPos true (.Name y c) env a pos=pure pos:=by unfold methodCallPos;simp[d]
 rw[arm_eval_Call,show attributeBase (.Name y c) x env (eval (.Name y c) env)=eval (.Name y c) env from rfl];unfold methodCall;rw[j,g];rfl
theorem Ig{f:Expr->Str->Expr->Bool}{st:Stmt}(h:Rr f st=true):∃o x p v q,st=.Assign [.Attribute o x p] v q/\f o x v=true:=by obtain⟨d,v,q,rfl,c⟩:=lO h;obtain⟨t,rfl,b⟩:=iJ c;obtain⟨o,x,p,rfl,a⟩:=jN b;exact⟨_,_,_,_,_,rfl,a⟩
noncomputable def LD(X:Cx)(M:Ms)(R:Addr->Prop)(g:List Md)(t:Ev->(List W->Prop)->Prop):TA:=λf H Q=>∃A e b P,SR X.K M A e f H b/\ER X e R/\t b P/\∀c d a F,P c->aE H a->F.Nodup->(∀p∈F,H p=none)->gh X.K (λq=>A.B q\/q∈F) a g c d F->Q d a
section
variable{X:Cx}{M:Ms}{R:Addr->Prop}{a:Expr}{es:List Expr}{ta:WT}{m:Md}{ms:List Md}{pos:Pos}
theorem Pg:PA X [] (LD X M R [] λ_ Q=>Q []):=PA.imp bf<|by rintro b H Q ⟨A,e,c,P,S,d,h,k⟩;exact k [] [] H [] h (aE.refl H) tJ (by simp) (by rw[gh];exact⟨rfl,rfl,rfl⟩)
theorem LF{s:Ev->(List W->Prop)->Prop}(J:starEach (a::es) X.env=(false,eval a X.env)::starEach es X.env)(L:VE X M R m a ta)(K:PA X es (LD X M R ms s)):PA X (a::es) (LD X M R (m::ms) λd Q=>ta d λx=>s d λg=>Q (x::g)):=
 PA.imp (aq L K J)<|by
  rintro T H Q ⟨A,y,d,P,S,w,h,k⟩;refine⟨A,y,d,_,S,w,h,λx B O I i D=>?_⟩;obtain⟨G,E,u,v⟩:=D;have f:∀q∈G,∃o,O q=some o:=λq n=>let⟨o,e,_⟩:=Fp.mu m v q n;⟨o,e⟩
  refine⟨_,y,d,_,S.more i u f,w,I,λg C N F l t j b r=>?_⟩;refine k _ _ N (G++F) l (i.trans t) ?_ (λp c=>?_) ?_
  ·refine List.nodup_append.mpr ⟨E,j,λp c q n e=>?_⟩;subst e;obtain⟨o,e⟩:=f p c;rw[b p n]at e;cases e
  ·rcases Iy.mp c with c|c
   ·exact u p c
   ·exact i.free (b p c)
  ·rw[gh];refine⟨x,g,B,C,G,F,rfl,rfl,rfl,Fp.mv t (λp o e z=>?_) m v,gh.mv (aE.refl _) (λp o e z=>?_) ms r⟩
   ·rcases z with z|z
    ·exact .inl z
    ·rcases Iy.mp z with z|z
     ·exact .inr z
     ·rw[b p z]at e;cases e
   ·rcases z with z|z
    ·exact .inl (.inl z)
    ·rcases Iy.mp z with z|z
     ·exact .inl (.inr z)
     ·exact .inr z
theorem Ph{e:Ev->(List W->Prop)->Prop}{j:Nat}(h:PA X es (LD X M R ms e)):VE X M R (.t ms) (.Tuple es j pos) (λd Q=>e d λb=>b.length<=sizeLine/\Q (.tup b)):=PE.imp (yt h)<|by
 rintro E H Q ⟨A,D,d,P,S,y,h,k⟩;refine⟨A,D,d,_,S,y,h,λb c C F g n q o i=>?_⟩;have u:∀(ms:List Md){b:List W}{c:List V}{F:List Addr}{B:Addr->Prop},gh X.K B C ms b c F->c.length=b.length:=λms=>by
  induction ms with
  |nil=>intro b c F B h;rw[gh]at h;rw[h.1,h.2.1];rfl
  |cons m ms r=>intro b c F B h;rw[gh]at h;obtain⟨w,G,v,l,J,I,rfl,rfl,_,_,x⟩:=h;rw[List.length_cons,List.length_cons,r x]
 refine⟨by rw[u ms i];exact g.1,λp s=>?_⟩;have f:=aO s (.tup c);refine k _ _ _ g.2 (n.trans f) ⟨F,q,o,?_⟩;rw[Fp];exact⟨b,p,c,rfl,rfl,aD,gh.mv f (λ_ _ _ z=>z) ms i⟩
end
noncomputable def i9(b:Nat->cA)(a:Nat->Md)(G:Nat->W)(s:CS):Prop:=∀{S:SE}{X:Cx}{m:Md},DK S b a G X->∀c,O7 S a m s c=true->VS X S.M m c (wS b G s)
noncomputable def ny(b:Nat->cA)(a:Nat->Md)(G:Nat->W)(s:List CS):Prop:=∀{S:SE}{X:Cx}{m:Md},DK S b a G X->∀c,aK S a m s c=true->La X S.M m c (wSs b G s)
section
variable{Φ:Nat->cA}{Ψ:Nat->Md}{G:Nat->W}
theorem DK.mT{S:SE}{X:Cx}(h:DK S Φ Ψ G X)(M:Ms)(b:∀i m a,(i,m)∈M->(i,a)∈M->m=a):DK {S with M:=M} Φ Ψ G X:={toXOk:=h.toXOk.mT M,bk:=h.bk,WX:=h.WX,IZ:=h.IZ,Vp:=b}
theorem LG{S:SE}{X:Cx}(b:XOk S Φ Ψ G X){f:Nat}{as:List CE}{v:Expr}(k:aL S false (.call f as) v=true)(R:Addr->Prop):VE X S.M R (Ψ f) v (wE Φ G R (.call f as))/\∃g c p,v=.Call g c [] p:=by
 obtain⟨x,q,c,p,rfl,i⟩:=aW k;simp only[BM]at i;obtain⟨⟨⟨⟨⟨s,r⟩,o⟩,h⟩,m⟩,j⟩:=i;obtain⟨B,A,D⟩:=cK b r;obtain⟨C,n,l,z,F,t,y⟩:=b.fns f x (Nw.mp s) (by simpa using m);have F:gf X.prog X.w X.K X.mg X.base l C n (Rf X.K n (Ψ f) (Φ f)):=by rw[←b.MU]at h;cases u:Ψ f<;>rw[u]at h F<;>first|exact F|exact ff h
 have d:=qZ j;cases c with
 |nil=>exact ff o
 |cons e c=>rw[List.all_cons,BM]at d;refine⟨?_,_,_,_,rfl⟩;exact FT (M:=S.M) (R:=R) (p:=q) (pos:=p) F t B z y ((sG Φ Ψ G as).1.a b _ j R) A (aJ d.1 _ _) (dh d.2 _ _)
theorem LH{S:SE}{X:Cx}(c:XOk S Φ Ψ G X):∀(as:List CE)(b:List Expr),i8 S as b=true->∀R,PA X b (LD X S.M R (as.map (mo Ψ)) (wA Φ G R as))
 |[],b,k,R=>by rw[HI.mp k];exact Pg
 |a::as,[],k,R=>by cases k
 |a::as,e::b,k,R=>by have k:=a2 k;exact LF (aJ (bE (.inl k.1)) _ _) ((snd Φ Ψ G a).e c e k.1 R) (LH c as b k.2 R)
theorem Vr{S:SE}{X:Cx}(a:XOk S Φ Ψ G X){e:CE}{v:Expr}(k:aL S false e v=true)(R:Addr->Prop):VE X S.M R (rmd Ψ e) v (wE Φ G R e):=by
 cases e with
 |tup b=>obtain⟨c,d,p,rfl,k⟩:=iK k;exact Ph (LH a b c k R)
 |call f b=>exact(LG a k R).1
 |_=>exact(snd Φ Ψ G _).e a v k R
theorem DN{e:CE}(h:isCall e=true):∃f as,e=.call f as:=by cases e<;>first|exact⟨_,_,rfl⟩|exact ff h
theorem xR{e:CE}(h:nj e=true):e=.bC:=by cases e<;>first|rfl|exact ff h
theorem Ih{e:CE}{i:Nat}(h:isVar e=some i):e=.var i:=by cases e<;>first|(cases h;rfl)|exact nn h
theorem Pj{S:SE}{x:Str}{p:Pos}{v:Expr}(h:swB S x p v=true):∃a b c d,v=.ListComp a b c d:=by cases v<;>first|exact⟨_,_,_,_,rfl⟩|exact ff h
theorem Vs{S:SE}{e:CE}{a:Expr}{b:List Comprehension}{c:Scope}{d:Pos}(k:aL S false e (.ListComp a b c d)=true):∃f one n i c x,e=.comp f one n i c x:=by
 cases e with
 |comp f one n i c x=>exact⟨_,_,_,_,_,_,rfl⟩
 |own i g=>rcases(gq k).2 with⟨_,_,_,e⟩|⟨_,_,_,_,_,e⟩<;>cases e
 |_=>exact ff k
theorem F6{S:SE}{X:Cx}(d:DK S Φ Ψ G X){i:Nat}{x:Str}{p q:Pos}{e:CE}{v:Expr}(J:WV S i x=true)(k:aL S false e v=true)(R:Addr->Prop):
 PS X (.Assign [.Name x p] v q) (tW (tV X S.M R (TY X.K (mo Ψ e)) (wE Φ G R e)) (kJ i)):=by
 have n:=zC d J;have a:=Zb d (Vq k) x p q.line;cases m:swB S x p v with
 |false=>rw[m]at a;exact n8 d.nd n.1 n.2.1 ((snd Φ Ψ G e).e d.toXOk v k R) a n.2.2
 |true=>rw[m]at a;obtain⟨L,gs,h,U,rfl⟩:=Pj m;obtain⟨Q,one,Z,A,c,y,rfl⟩:=Vs k;obtain⟨t,T,r,B,f,Y,o,O,rfl,j,F,l,P,E⟩:=uT (snd Φ Ψ G A) (snd Φ Ψ G c) (snd Φ Ψ G y) d.toXOk k R;cases O;rw[m7 rfl,F3];intro b s g H D I C;obtain⟨z,w,u⟩:=E b s g H I;exact NB o (mask o S.N) d.nd n.1 n.2.1 d.calm F P z w u a l n.2.2 b s g H D I (Bc j g H _ C)
theorem Vt(i:Nat)(e:CE):i9 Φ Ψ G (.set i e):=by
 intro S X m l st k;obtain⟨x,p,v,q,rfl,h⟩:=xO k;rw[BM]at h;by_cases y:Be S.M i=true
 ·rw[Bn y]at h;simp only[BM]at h;obtain⟨F,⟨E,d⟩,C⟩:=h;have u:kT m=true->i≠0:=λz e=>by rw[z,e]at E;cases E
  have L:∀{t:Md},(i,t)∈S.M->(∀R,PS X (.Assign [.Name x p] v q) (tW (tV X (S.less i).M R (TY X.K t) (wE Φ G R e)) (kJ i)))->VS X S.M m (.Assign [.Name x p] v q) (λD o=>wE Φ G D.ex e o λw=>D.nx (o.set i (some w))):=λ{t} I O=>LB (M':=(S.less i).M) (te:=λR=>wE Φ G R e) O (λj=>Lv I (λm' T=>l.Vp i _ _ T I)) Lw u;have J:DK (S.less i) Φ Ψ G X:=l.mT (S.less i).M λa b c B Q=>l.Vp a b c (ij.mp B).1 (ij.mp Q).1;rcases jd d with d|d
  ·rw[BM]at d;refine L (tw d.1) λR=>?_;have:=F6 J (p:=p) (q:=q) F C R;rw[m7 d.2]at this;exact this
  ·rw[BM]at d;refine L (mR d.2) λR=>?_;obtain⟨f,as,rfl⟩:=DN d.1;obtain⟨B,g,es,pp,rfl⟩:=LG J.toXOk C R;have n:=zC l F;exact n8 l.nd n.1 n.2.1 B rfl n.2.2
 ·rw[Bi y]at h;refine Pe (te:=λR=>wE Φ G R e) (λR=>?_) (pN (by simpa using y));refine PS.imp (F6 l (p:=p) (q:=q) h.1 h.2 R)<|by rintro D σ H ⟨A,Y,o,P,S,U,p,k⟩;exact⟨A,Y,o,P,S,U,p,λw v Z N s r=>k w v Z N s (r.s S.dom)⟩
theorem Vu(f:List Nat)(e:CE):i9 Φ Ψ G (.FJ f e):=by
 intro S X m b w k;obtain⟨j,h,p,v,q,rfl,g⟩:=Ia k;simp only[BM]at g;obtain⟨⟨⟨c,i⟩,n⟩,a⟩:=g;split at c;rotate_left
 ·cases c
 rename_i xs hxs
 have r:PG X (.Tuple j h p) (gT X.K false f):=Vi b.calm b.nd (by rw[YU,hxs];rfl) (tF b c);have d:swappedStores [.Tuple j h p] v X.env=pure none:=by
  rcases jd a with a|a
  ·exact O9 a _ _ _ _
  ·obtain⟨t,i,x,rfl,l⟩:=iK a;exact Lx b (Bz l)
 exact Us (te:=λR=>wE Φ G R e) (λ{u} o=>CD o r (O8 _ _) d rfl) (zD i) λR=>(snd Φ Ψ G e).s b.toXOk n R
theorem uV{X:Cx}{a:List Nat}{x:Str}{b:List Str}(h:fH X a (x::b)):∃i r,a=i::r/\jm X i x/\fH X r b:=by
 cases a with
 |nil=>cases h
 |cons i r=>obtain⟨_,_,e,d,c⟩:=h;cases e;exact⟨i,r,rfl,d,c⟩
theorem Pk{X:Cx}{a:List Nat}(h:fH X a []):a=[]:=by
 cases a with
 |nil=>rfl
 |cons i r=>obtain⟨_,_,e,_⟩:=h;cases e
theorem F7{X:Cx}{a:List Nat}{x y:Str}(h:fH X a [x,y]):∃i j,a=[i,j]/\jm X i x/\jm X j y:=by obtain⟨i,r,rfl,e,d⟩:=uV h;obtain⟨j,r,rfl,c,b⟩:=uV d;cases Pk b;exact⟨i,j,rfl,e,c⟩
theorem Ii{X:Cx}{a:List Nat}{x y z:Str}(h:fH X a [x,y,z]):∃i j k,a=[i,j,k]/\jm X i x/\jm X j y/\jm X k z:=by obtain⟨i,r,rfl,e,d⟩:=uV h;obtain⟨j,k,rfl,c,b⟩:=F7 d;exact⟨i,j,k,rfl,e,c,b⟩
theorem Pn{α:Type}{l:List α}(h:l.length=2):∃a b,l=[a,b]:=by rcases l with _|⟨a,_|⟨b,_|_⟩⟩<;>first|exact⟨_,_,rfl⟩|(simp at h;done)
theorem Vv{α:Type}{l:List α}(h:l.length=3):∃a b c,l=[a,b,c]:=by
 cases l with
 |nil=>cases h
 |cons a l=>obtain⟨b,c,rfl⟩:=Pn (w8 h);exact⟨_,_,_,rfl⟩
theorem pS{b:List Expr}{x:Str}{c:List Str}(h:IY b=some (x::c)):∃p r,b=.Name x p::r/\IY r=some c:=by
 cases b with
 |nil=>cases h
 |cons e b=>
  cases e with
  |Name a p=>obtain⟨l,d,e⟩:=Oy.mp h;cases e;exact⟨_,_,rfl,d⟩
  |_=>exact nn h
theorem F8{b:List Expr}(h:IY b=some []):b=[]:=by
 cases b with
 |nil=>rfl
 |cons e b=>
  cases e with
  |Name a p=>obtain⟨l,c,e⟩:=Oy.mp h;cases e
  |_=>exact nn h
theorem F9{a:List Expr}{x y:Str}(h:IY a=some [x,y]):∃p q,a=[.Name x p,.Name y q]:=by obtain⟨p,r,rfl,c⟩:=pS h;obtain⟨q,r,rfl,b⟩:=pS c;rw[F8 b];exact⟨_,_,rfl⟩
theorem Ij{a:List Expr}{x y z:Str}(h:IY a=some [x,y,z]):∃p q r,a=[.Name x p,.Name y q,.Name z r]:=by obtain⟨p,r,rfl,b⟩:=pS h;obtain⟨q,s,rfl⟩:=F9 b;exact⟨_,_,_,rfl⟩
theorem Po{S:SE}{a vs:List Expr}{b:List Str}(h:WW S a vs=some (some b)):(a.length=2\/a.length=3)/\vs.length=a.length:=by
 unfold WW at h;split at h
 ·cases h
 ·rename_i c
  simp only[rp,ox,bne_iff_ne,not_or,Bool.not_eq_false,Nw,ne_eq,Decidable.not_not]at c;exact c
theorem Ga{b:List Expr}{a:List Str}(h:IY b=some a):b.length=a.length:=by
 induction a generalizing b with
 |nil=>rw[F8 h];rfl
 |cons x a c=>obtain⟨p,r,rfl,d⟩:=pS h;rw[List.length_cons,List.length_cons,c d]
theorem Vw(Y:List Nat)(O:List CE):i9 Φ Ψ G (.par Y O):=by
 intro S X m o st k;obtain⟨tg,kd,p,f,L,p',q,rfl,A⟩:=Ic k;simp only[BM]at A;obtain⟨⟨C,k2⟩,k3⟩:=A;split at C;rotate_left
 ·cases C
 rename_i xs hxs
 simp only[BM]at C;obtain⟨⟨⟨C,I⟩,B⟩,k6⟩:=C;have I:=Bz I;have B:=Bz B;obtain⟨r,Q⟩:=Po I;have P:=Lx o (k:=kd) (k2:=L) (p:=p) (p2:=p') I;have d:∀x∈xs,X.env.scope.names.lookup x=some .local:=λx hx=>by rw[o.nk];exact Nw.mp (IH.mp k6 x hx)
 have T:=tF o C;refine Ut (ta:=λR=>wA Φ G R O) (λ{tv} U=>?_) (zD k2) λR=>(sG Φ Ψ G O).1.a o.toXOk f k3 R;have J:∀{a b:Nat}{x y:Str},x≠y->X.N[a]?=some x->X.N[b]?=some y->a≠b:=λn E g e=>by rw[e,g]at E;exact n (IR E).symm
 rcases r with r|r
 ·obtain⟨x,y,rfl⟩:=Pn ((Ga hxs).symm.trans r);obtain⟨Z,p2,rfl⟩:=F9 hxs;obtain⟨i,j,rfl,t,s⟩:=F7 T;obtain⟨a,b,rfl⟩:=Pn (Q.trans r);refine PS.imp (Su o.calm o.nd t.1 s.1 (J (by simpa using B) t.1 s.1) (d x (by simp)) (d y (by simp)) U P) λD F H h=>?_;have e:(λ(f:List V) l=>f.length=[i,j].length/\D.nx (eW F [i,j] f) l)=λf l=>∃v w,f=[v,w]/\D.nx ((F.set i (some v)).set j (some w)) l:=by
   funext f l;refine propext ⟨?_,?_⟩
   ·rintro⟨E,g⟩;obtain⟨v,w,rfl⟩:=Pn E;exact⟨v,w,rfl,g⟩
   ·rintro⟨v,w,rfl,g⟩;exact⟨rfl,g⟩
  rw[e]at h;exact h
 ·obtain⟨x,y,z,rfl⟩:=Vv ((Ga hxs).symm.trans r);obtain⟨Z,p2,p3,rfl⟩:=Ij hxs;obtain⟨i,j,A,rfl,t,s,K⟩:=Ii T;obtain⟨a,b,c,rfl⟩:=Vv (Q.trans r);have M:(x≠y/\x≠z)/\y≠z:=by simp only[Tb,GT,TB,nr,not_or]at B;exact⟨B.1,B.2.1⟩
  refine PS.imp (Pd o.calm o.nd t.1 s.1 K.1 (J M.1.1 t.1 s.1) (J M.1.2 t.1 K.1) (J M.2 s.1 K.1) (d x (by simp)) (d y (by simp)) (d z (by simp)) U P) λD F H h=>?_;have e:(λ(f:List V) l=>f.length=[i,j,A].length/\D.nx (eW F [i,j,A] f) l)=λf l=>∃v w u,f=[v,w,u]/\D.nx (((F.set i (some v)).set j (some w)).set A (some u)) l:=by
   funext f l;refine propext ⟨?_,?_⟩
   ·rintro⟨E,g⟩;obtain⟨v,w,u,rfl⟩:=Vv E;exact⟨v,w,u,rfl,g⟩
   ·rintro⟨v,w,u,rfl,g⟩;exact⟨rfl,g⟩
  rw[e]at h;exact h
theorem Bw{S:SE}{i:Nat}{o:Expr}(h:pO S i o=true)(nm:Str)(env:Env):attributeBase o nm env (eval o env)=eval o env:=by
 cases o with
 |Name x p=>rfl
 |_=>exact ff h
theorem Vx(i:Nat)(e:CE):i9 Φ Ψ G (.app i e):=by intro S X m g p k;obtain⟨o,r,u,v,t,q,rfl,c⟩:=Bu k;simp only[BM]at c;obtain⟨⟨⟨⟨a,j⟩,h⟩,f⟩,d⟩:=c;have a:=Bz a;subst a;have b:=aJ (bE (.inl d)) [] X.env;refine Uy (te:=λR=>wE Φ G R e) (λ{n} l=>?_) (tw h) λR=>(snd Φ Ψ G e).s g.toXOk d R;exact sP (QX va PySem.F.slot_list_append PySem.F.type_list_append qN (iM g.toXOk f) (aq l bf b) (Bw f _ _) (by rw[b];rfl) j b rfl) rfl
theorem Vy(i:Nat)(a e:CE):i9 Φ Ψ G (.put i a e):=by
 intro S X m b y k;obtain⟨o,j,p,v,q,rfl,c⟩:=xP k;simp only[BM]at c;obtain⟨⟨⟨⟨l,h⟩,g⟩,f⟩,d⟩:=c;have t:∀u,assign (.Subscript o j p) X.env u=(do
  let ov←holding [u] (eval o X.env)
  let iv←holding [u,ov] (eval j X.env)
  standAt p
  holding [u,ov,iv] (setItem ov iv u)
  release [u,ov,iv] []):=by
  intro u;cases j with
  |Slice _ _ _ _=>exact ff g
  |_=>rfl
 refine Uz (te:=λR=>wE Φ G R e) (t1:=λR=>wE Φ G R a) (λ{w x} n r=>?_) (tw l) (λR=>(snd Φ Ψ G e).s b.toXOk d R) λR=>(snd Φ Ψ G a).s b.toXOk f R;exact CD (pos:=q) n (Jq (iM b.toXOk h) r set_list t) (Bs _ _) (Bt _) rfl
theorem Vz{c:List (Nat×Nat)}{f g:Nat}(h:c.any (λy=>y.1==f&&y.2==g)=true):(f,g)∈c:=by obtain⟨⟨a,b⟩,d,e⟩:=List.any_eq_true.mp h;rw[BM]at e;cases Nw.mp e.1;cases Nw.mp e.2;exact d
theorem LI:∀{S:SE}{c:CE}{e:Expr},pR S c e=true->noStar e=true:=λ{S c e} h=>by
 cases e with
 |Starred v p=>
  have f:aL S false c (.Starred v p)=true->False:=λz=>by have:=bE (.inl z);exact ff this
  cases c<;>first|exact ff h;done|exact(f h).elim
 |_=>rfl
theorem rj{S:SE}:∀{as:List CE}{b:List Expr},xN S as b=true->b.all noStar=true
 |[],b,h=>by rw[HI.mp h];rfl
 |a::as,[],h=>by cases h
 |a::as,e::b,h=>by have h:=a2 h;rw[List.all_cons,LI h.1,rj h.2];rfl
theorem dQ{S:SE}{X:Cx}(b:XOk S Φ Ψ G X)(R:Addr->Prop){c:CE}{v:Expr}(e:pR S c v=aL S false c v)(d:wP Φ G R c=λa Q=>wE Φ G R c a λw=>Q w a)(k:pR S c v=true):VP X S.M R v (wP Φ G R c):=by rw[e]at k;rw[d];exact YL ((snd Φ Ψ G c).s b k R)
mutual
theorem gA{S:SE}{X:Cx}(d:XOk S Φ Ψ G X)(R:Addr->Prop):∀(e:CE)(v:Expr),pR S e v=true->VP X S.M R v (wP Φ G R e)
 |.pop i,v,k=>by obtain⟨o,mt,ap,cp,rfl,m⟩:=oG k;simp only[BM]at m;obtain⟨⟨⟨j,u⟩,h⟩,t⟩:=m;have j:=Bz j;subst j;exact UE (tw h) (iM d t) (Bw t _ _) u
 |.Oe i g f z,v,k=>by
  obtain⟨o,x,ap,A,p,rfl,m,D,C⟩:=Ie k;simp only[BM]at m;obtain⟨⟨⟨⟨j,u⟩,h⟩,t⟩,s⟩:=m;obtain⟨fa,fd,ps,n,Q,Y,U,F,I,L⟩:=d.OW f g x (Nw.mp j) (Vz u);rw[←d.MU]at h;cases o with
  |Name y py=>
   cases J:Ψ f with
   |io m0=>
    rw[J]at h F;cases m0 with
    |o fs ms=>
     have h:(hasB S.M i (.o fs ms)&&!fs.contains x)=true:=h;rw[BM]at h;cases z with
     |nil=>
      have:A=[]:=by exact HI.mp s
      subst this;exact OR (G:=G g) Y F I U (mR h.1) (by simpa using h.2) L (iM d t) (xQ (dh (rj s) _ _) C D)
     |cons a z=>
      cases A with
      |nil=>exact ff s
      |cons e A=>have N:=s;have N:=a2 N;exact UL (G:=G g) Y F I U (mR h.1) (by simpa using h.2) L (iM d t) (pT d R (a::z) (e::A) s) (aJ (LI N.1) _ _) (dh (rj N.2) _ _) (xQ (dh (rj s) _ _) C D)
    |_=>exact ff h
   |_=>rw[J]at h;exact ff h
  |_=>exact ff t
 |.bin op a b,v,k=>by obtain⟨l,o,r,p,rfl,m⟩:=qY k;simp only[BM]at m;obtain⟨⟨j,u⟩,h⟩:=m;have j:=Bz j;subst j;exact UG (gA d R a l u) (gA d R b r h)
 |.cmp op a b,v,k=>by obtain⟨l,o,r,p,rfl,m⟩:=xH k;simp only[BM]at m;obtain⟨⟨⟨⟨j,t⟩,s⟩,u⟩,h⟩:=m;have j:=Bz j;subst j;exact UH d.un (CK r (op:=op) (by simpa using t) (by simpa using s)) (gA d R a l u) (gA d R b r h)
 |.call f z,v,k=>by
  obtain⟨x,q,A,p,rfl,m⟩:=aW k;simp only[BM]at m;obtain⟨⟨⟨⟨⟨j,u⟩,h⟩,s⟩,E⟩,t⟩:=m;obtain⟨P,O,Z⟩:=cK d u;obtain⟨fv,n,Q,hm,F,I,L⟩:=d.fns f x (Nw.mp j) (by simpa using E);have F:gf X.prog X.w X.K X.mg X.base Q fv n (Rf X.K n (Ψ f) (Φ f)):=by rw[←d.MU]at s;cases J:Ψ f<;>rw[J]at s F<;>first|exact F|exact ff s
  have B:=rj t;cases A with
  |nil=>exact ff h
  |cons e A=>rw[List.all_cons,BM]at B;exact OP (p:=q) (pos:=p) F I P hm L (pT d R z _ t) O (aJ B.1 _ _) (dh B.2 _ _)
 |.blt b z,v,k=>by
  obtain⟨x,q,A,p,rfl,m⟩:=aW k;simp only[BM]at m;obtain⟨⟨⟨⟨⟨⟨⟨⟨⟨j,u⟩,h⟩,t⟩,s⟩,k7⟩,k8⟩,Rl⟩,k9⟩,E⟩:=m;have j:=Bz j;obtain⟨P,O,Z⟩:=cK d u;have hz:=d.xK x (List.contains_iff_mem.mp h);have B:=rj E;cases A with
  |nil=>exact ff k9
  |cons e A=>
   rw[List.all_cons,BM]at B;rcases Bq d.calm b (by rintro rfl;exact ff t) (by simpa using s)with⟨id,H,T⟩|⟨id,H,T⟩
   ·exact UI T P hz (by rw[j];exact H) (pT d R z _ E) Z O (aJ B.1 _ _) (dh B.2 _ _)
   ·exfalso
    cases b<;>first|(cases k7;done)|(cases k8;done)|(cases Rl;done)|(simp[YT]at H;done)|cases H
 |.ix a b,v,k=>by obtain⟨l,r,p,rfl,m⟩:=iL k;simp only[BM]at m;obtain⟨⟨j,u⟩,h⟩:=m;exact YM (zq j) (gA d R a l u) (gA d R b r h)
 |.and _,v,k=>by cases k
 |.var i,v,k=>dQ d R rfl rfl k
 |.int i,v,k=>dQ d R rfl rfl k
 |.bl i,v,k=>dQ d R rfl rfl k
 |.str i,v,k=>dQ d R rfl rfl k
 |.bC,v,k=>dQ d R rfl rfl k
 |.FI n,v,k=>dQ d R rfl rfl k
 |.glob g,v,k=>dQ d R rfl rfl k
 |.neg a,v,k=>dQ d R rfl rfl k
 |.not a,v,k=>dQ d R rfl rfl k
 |.or z,v,k=>dQ d R rfl rfl k
 |.ite c a b,v,k=>dQ d R rfl rfl k
 |.tup z,v,k=>dQ d R rfl rfl k
 |.lst z,v,k=>dQ d R rfl rfl k
 |.sl a b c,v,k=>dQ d R rfl rfl k
 |.bits a,v,k=>dQ d R rfl rfl k
 |.comp ts one n i c x,v,k=>dQ d R rfl rfl k
 |.oO z,v,k=>dQ d R rfl rfl k
 |.y9 a,v,k=>dQ d R rfl rfl k
 |.rev a,v,k=>dQ d R rfl rfl k
 |.own i π,v,k=>dQ d R rfl rfl k
 |.Cz is a,v,k=>dQ d R rfl rfl k
theorem pT{S:SE}{X:Cx}(c:XOk S Φ Ψ G X)(R:Addr->Prop):∀(as:List CE)(b:List Expr),xN S as b=true->UD X S.M R b (R3 Φ G R as)
 |[],b,k=>by rw[HI.mp k];exact ON
 |a::as,[],k=>by cases k
 |a::as,e::b,k=>by have k:=a2 k;exact Lg (aJ (LI k.1) _ _) (gA c R a e k.1) (pT c R as b k.2)
end
theorem zE{v:Expr}(a:F5 v=true)(b:F4 v=true)(t:Option Expr)(l:Nat)(env:Env):swapsWith v t l env=pure false:=by
 cases v with
 |ListComp _ _ _ _=>exact ff b
 |SetComp _ _ _ _=>exact ff a
 |DictComp _ _ _ _ _=>exact ff a
 |_=>rfl
theorem nsc{v:Expr}(h:zA v=true):F5 v=true:=by cases v<;>first|rfl|exact ff h
theorem Pp(i:Nat):i9 Φ Ψ G (.drop i):=by intro S X m e f k;obtain⟨v,q,rfl,a⟩:=uU k;simp only[BM]at a;obtain⟨⟨d,c⟩,b⟩:=a;exact FU (tt:=λR=>wP Φ G R (.pop i)) λR=>sP (gA e.toXOk R _ v b) (zE (nsc c) d _ _ _)
theorem VC(e:CE):i9 Φ Ψ G (.Yn e):=by intro S X m f g k;obtain⟨v,q,rfl,a⟩:=uU k;simp only[BM]at a;obtain⟨⟨d,c⟩,b⟩:=a;exact FU (tt:=λR=>wP Φ G R e) λR=>sP (gA f.toXOk R _ v b) (zE (nsc c) d _ _ _)
theorem Pq(j:Nat)(e:CE):i9 Φ Ψ G (.A3 j e):=by intro S X m a o k;obtain⟨x,p,v,q,rfl,b⟩:=xO k;simp only[BM]at b;obtain⟨⟨⟨⟨h,g⟩,d⟩,c⟩,f⟩:=b;have n:=zC a h;exact OO (tt:=λR=>wP Φ G R e) (λ{l} i=>n8 a.nd n.1 n.2.1 i (zE (nsc c) d _ _ _) n.2.2) (pN (by simpa using g)) λR=>gA a.toXOk R _ v f
theorem VD(e:CE):i9 Φ Ψ G (.ret e):=by
 intro S X m f h k;rcases Bv k with⟨v,q,rfl,a⟩|⟨q,rfl,a⟩
 ·unfold Za at a;rw[BM]at a;obtain⟨c,a⟩:=a;have c:kT m=false:=by simpa using c
  rcases jd a with a|d
  ·rcases jd a with a|a
   ·rw[BM]at a;have g:m=.s:=by cases m<;>first|rfl|exact ff a.1
    rcases jd a.2 with b|b
    ·exact Ld (te:=λR=>wE Φ G R e) (λR=>(snd Φ Ψ G e).e (f.toXOk.mT []) v b R) (.inr g) c
    ·subst g;exact OL (te:=λR=>wE Φ G R e) λR=>(snd Φ Ψ G e).s f.toXOk b R
   ·rw[BM]at a;exact Ld (te:=λR=>wE Φ G R e) (λR=>Vr (f.toXOk.mT []) a.2 R) (.inl (zx a.1)) c
  ·unfold Y9 at d;split at d
   ·rename_i i hv
    obtain rfl:=Ih hv;have b:=a2 d;exact OM (iM f.toXOk b.2) (mR b.1) c
   ·exact ff d
 ·rw[BM]at a;obtain rfl:=xR a.1;cases m<;>try exact ff a.2
  exact Pf
theorem Gb{S:SE}{m:Md}(h:Vn S m=true):∃k,m=.io k/\(0,k)∈S.M:=by
 cases m with
 |io k=>exact⟨k,rfl,mR h⟩
 |_=>exact ff h
theorem VF(e:CE):i9 Φ Ψ G (.WM e):=by
 intro S X m d f k;rcases Bv k with⟨v,q,rfl,a⟩|⟨q,rfl,a⟩
 ·rw[BM]at a;obtain⟨c,rfl,b⟩:=Gb a.1;exact UJ (te:=λR=>wE Φ G R e) (λR=>(snd Φ Ψ G e).s d.toXOk a.2 R) b
 ·rw[BM]at a;obtain⟨c,rfl,b⟩:=Gb a.2;obtain rfl:=xR a.1;exact UK b
theorem Pr{S:SE}{i n:Nat}{x:Str}(h:Vo S i n x=true):∃b a,(i,.o b a)∈S.M/\b[n]?=some x/\a[n]?=some .s:=by
 unfold Vo at h;split at h
 ·rename_i b a hl
  rw[BM]at h;obtain⟨d,c⟩:=h;split at c
  ·rename_i k hk
   have:k=.s:=by cases k<;>first|rfl|exact ff c
   subst this;exact⟨b,a,lK hl,Nw.mp d,hk⟩
  ·cases c
 ·cases h
theorem VG(i n:Nat)(e:CE):i9 Φ Ψ G (.HH i n e):=by intro S X m b t k;obtain⟨o,x,p,v,q,rfl,a⟩:=Ig k;simp only[BM]at a;obtain⟨⟨f,d⟩,c⟩:=a;obtain⟨w,u,l,j,h⟩:=Pr f;exact UQ (te:=λR=>wE Φ G R e) (λ{r} g=>jj (iM b.toXOk d) g (by cases v<;>rfl)) l j h λR=>(snd Φ Ψ G e).s b.toXOk c R
theorem VH(i:Nat)(π:List oE)(e:CE):i9 Φ Ψ G (.Ym i π e):=by
 intro S X m h w k;obtain⟨o,x,A,v,z,q,rfl,c⟩:=Bu k;simp only[BM]at c;obtain⟨⟨⟨a,l⟩,g⟩,d⟩:=c;have a:=Bz a;subst a;have b:=aJ (bE (.inl d)) [] X.env;obtain⟨y,k,r,p,t,j⟩:=zu h.toXOk g;have:k=.f:=by cases k<;>first|rfl|exact ff t
 subst this;refine Uw (te:=λR=>wE Φ G R e) (λ{u} n=>?_) r p λR=>(snd Φ Ψ G e).s h.toXOk d R;exact sP (QX va PySem.F.slot_list_append PySem.F.type_list_append qN j (aq n bf b) (by rcases(gq g).2 with⟨_,_,_,rfl⟩|⟨_,_,_,_,_,rfl⟩<;>rfl) (by rw[b];rfl) l b rfl) rfl
theorem VI(i:Nat)(π:List oE)(a e:CE):i9 Φ Ψ G (.Yo i π a e):=by
 intro S X m c B k;obtain⟨o,j,p,v,q,rfl,d⟩:=xP k;simp only[BM]at d;obtain⟨⟨⟨r,n⟩,l⟩,h⟩:=d;obtain⟨C,k,x,w,b,g⟩:=zu c.toXOk r;have:k=.f:=by cases k<;>first|rfl|exact ff b
 subst this;have y:∀u,assign (.Subscript o j p) X.env u=(do
  let ov←holding [u] (eval o X.env)
  let iv←holding [u,ov] (eval j X.env)
  standAt p
  holding [u,ov,iv] (setItem ov iv u)
  release [u,ov,iv] []):=by
  intro u;cases j with
  |Slice _ _ _ _=>exact ff n
  |_=>rfl
 refine Ux (te:=λR=>wE Φ G R e) (t1:=λR=>wE Φ G R a) (λ{z A} t b=>?_) x w (λR=>(snd Φ Ψ G e).s c.toXOk h R) λR=>(snd Φ Ψ G a).s c.toXOk l R;exact CD (pos:=q) t (Jq g b set_list y) (Bs _ _) (Bt _) rfl
theorem VJ:i9 Φ Ψ G .brk:=by
 intro S X m b a k;cases a with
 |Break _=>exact Ur
 |_=>exact ff k
theorem LJ(g:Nat)(e:CE):i9 Φ Ψ G (.raise g e):=by
 intro S X m b E k;obtain⟨x,F,v,L,q,rfl,l⟩:=DM k;simp only[BM]at l;obtain⟨⟨f,p⟩,n⟩:=l;have f:=Nw.mp f;show VS X S.M m _ (λD i=>match G g with|.cls C=>wE Φ G D.ex e i λ_=>D.ex C|_=>False);obtain⟨u,z,t,r,a⟩:=b.MV g x f;obtain⟨y,w,J⟩:=cK b.toXOk p;by_cases o:∃C,G g=.cls C
 ·obtain⟨C,c⟩:=o;rw[c]at a⊢;have hz:=a (λ_=>False) (λ_=>none);rw[Rep]at hz;subst hz;cases r;exact LC (te:=λR=>wE Φ G R e) b.calm y t (b.IZ g x C f c) (λR=>(snd Φ Ψ G e).s b.toXOk n R) (aJ (bE (.inl n)) [] X.env) w
 ·rintro j s B H D I ⟨A,N,i,d,S,K,hz,h,_⟩;cases c:G g<;>rw[c]at h<;>first|exact h.elim|exact(o ⟨_,c⟩).elim
theorem Zd(c:CE){a b:List CS}(l:ny Φ Ψ G a)(j:ny Φ Ψ G b):i9 Φ Ψ G (.iff c a b):=by intro S X m d n k;obtain⟨t,x,y,q,rfl,e⟩:=Ly k;simp only[BM]at e;obtain⟨⟨⟨i,h⟩,g⟩,f⟩:=e;exact YI (tc:=λR=>wE Φ G R c) (λR=>(snd Φ Ψ G c).t d.toXOk t i h R) (l d x g) (j d y f)
theorem VM(c:CE){b:List CS}(h:ny Φ Ψ G b):i9 Φ Ψ G (.xD c b):=by intro S X m d i k;obtain⟨t,x,q,rfl,a⟩:=Lz k;simp only[BM]at a;obtain⟨⟨g,f⟩,e⟩:=a;exact UA ((snd Φ Ψ G c).t d.tT.toXOk t g f _) (h d.tT x e)
theorem VN(h:List Nat)(one:Bool)(e:CE){b:List CS}(t:ny Φ Ψ G b):i9 Φ Ψ G (.fr h one e b):=by
 intro S X m c u k;obtain⟨f,i,x,q,rfl,a⟩:=LA k;unfold frB at a;split at a;rotate_left
 ·cases a
 rename_i o xs Vj
 simp only[BM]at a;obtain⟨⟨⟨⟨⟨⟨d,s⟩,r⟩,n⟩,g⟩,l⟩,j⟩:=a;have d:=Nw.mp d;subst d;refine UB (ti:=λR=>wE Φ G R e) c.calm (zD r) ((snd Φ Ψ G e).i c.tT.toXOk f false i (by rw[l];rfl) (λz=>?_) _) (Vi (X:=X.tT) c.calm c.tT.nd Vj (tF c.tT s)) (t c.tT x j) (Br n _);have:one=false:=by rw[z]at g;simpa using g
 subst this;cases f with
 |Tuple v a p=>exact⟨_,_,_,rfl⟩
 |Name y p=>cases Vj
 |_=>exact nn Vj
theorem Pu:ny Φ Ψ G []:=by intro S X m b a k;rw[HI.mp k];exact OH
noncomputable def Rt(Φ:Nat->cA)(Ψ:Nat->Md)(G:Nat->W):CS->Prop
 |.TM _ b=>ny Φ Ψ G b
 |_=>True
theorem Pw{S:SE}{m:Md}{s:CS}{a:List CS}{st:List Stmt}(k:aK S Ψ m (s::a) st=true):(∃c b,s=.TM c b/\(a.isEmpty&&!kT m&&aK (S.lend c) Ψ m b st)=true)\/Lu (λe=>O7 S Ψ m s e) (λd=>aK S Ψ m a d) st=true:=by
 cases s<;>first|exact .inr k|exact .inl ⟨_,_,rfl,k⟩
theorem LK{s:CS}{c:List CS}(h:i9 Φ Ψ G s/\Rt Φ Ψ G s)(q:ny Φ Ψ G c):ny Φ Ψ G (s::c):=by
 intro S X m a d k;rcases Pw k with⟨y,b,rfl,n⟩|k
 ·obtain⟨l,o⟩:=a2 n;obtain⟨j,f⟩:=a2 l;cases HI.mp j;have p:kT m=false:=by
   cases e:kT m with
   |false=>rfl
   |true=>rw[e]at f;cases f
  have u:ny Φ Ψ G b:=h.2;exact OJ (u (a.mT _ λi m g w v=>a.Vp i m g (lN _ w) (lN _ v)) d o) lN p
 have h:i9 Φ Ψ G s:=h.1;cases d with
 |nil=>exact ff k
 |cons e r=>
  have k:O7 S Ψ m s e=true/\aK S Ψ m c r=true:=a2 k;cases c with
  |nil=>
   have:r=[]:=by have:=k.2;exact HI.mp this
   subst this;exact OI (h a e k.1)
  |cons t x=>have z:=Lb (h a e k.1) (q a r k.2);exact z
theorem VO:i9 Φ Ψ G .HJ:=by rintro S X m g e k a s b H D I ⟨A,j,c,d,S,i,hz,h,f⟩;exact False.elim h
variable(Φ Ψ G)
mutual
theorem aby:∀s:CS,i9 Φ Ψ G s/\Rt Φ Ψ G s
 |.set i e=>⟨Vt i e,trivial⟩
 |.FJ d e=>⟨Vu d e,trivial⟩
 |.par d h=>⟨Vw d h,trivial⟩
 |.app i e=>⟨Vx i e,trivial⟩
 |.put i k e=>⟨Vy i k e,trivial⟩
 |.drop i=>⟨Pp i,trivial⟩
 |.A3 j e=>⟨Pq j e,trivial⟩
 |.ret e=>⟨VD e,trivial⟩
 |.iff c a b=>⟨Zd c (r8 a) (r8 b),trivial⟩
 |.xD c b=>⟨VM c (r8 b),trivial⟩
 |.fr d one f b=>⟨VN d one f (r8 b),trivial⟩
 |.brk=>⟨VJ,trivial⟩
 |.raise g e=>⟨LJ g e,trivial⟩
 |.Ym i π e=>⟨VH i π e,trivial⟩
 |.Yo i π k e=>⟨VI i π k e,trivial⟩
 |.HH i n e=>⟨VG i n e,trivial⟩
 |.WM e=>⟨VF e,trivial⟩
 |.Yn e=>⟨VC e,trivial⟩
 |.HJ=>⟨VO,trivial⟩
 |.TM l b=>⟨λ_ _ k=>(by cases k),r8 b⟩
theorem r8:∀a:List CS,ny Φ Ψ G a
 |[]=>Pu
 |s::a=>LK (aby s) (r8 a)
end
end
structure Tab(P:Program)(w:World)(K:Frag)(mg:Str->Option Value)(base:Heap)(fn gn zn:List Str)(md:List Md)(mt:List (Nat×Nat))(Φ:Nat->cA)(G:Nat->W)(k:Nat):Prop where
 fns:∀(j:Nat)(x:Str),fn[j]?=some x->mt.any (·.1==j)=false->∃fv n k',mg x=some fv/\gf P w K mg base k' fv n (fz K n (bO md j) (Φ j))/\k'<=k/\∀ws P R,Φ j ws P R->ws.length=n
 OW:∀(j g:Nat)(x:Str),fn[j]?=some x->(j,g)∈mt->∃f fd ps n k',(∀C,G g=.cls C->Meth K C x f)/\Binds K fd ps []/\aN P w K mg base (dD P w) k' f fd ps (fz K n (bO md j) (Φ j))/\k'<=k/\∀ws P R,Φ j ws P R->ws.length=n
 MV:∀(j:Nat)(x:Str),gn[j]?=some x->∃u v,mg x=some u/\RelV v u/\∀B H,Rep K B H (G j) v
 xK:∀x∈zn,mg x=none
 kit:A6 K
 IZ:∀j x C,gn[j]?=some x->G j=.cls C->Ah K C
noncomputable def aA(n:Nat)(a:List W):Ev:=a.map some++List.replicate (n -a.length) none
noncomputable def fall:Md->(W->Prop)->Ev->Prop
 |.s,P,_=>P .bC
 |.io _,P,a=>match look a 0 with
  |some b=>P (.tup [.bC,b])
  |none=>False
 |_,_,_=>False
section
variable{K:Frag}{A:Addr->Prop}{H:Hp}{N:List Str}{ws:List W}{vs:List V}{M:Ms}
theorem oH{i:Nat}{w:W}(a:ws.length<=i)(e:look (aA N.length ws) i=some w):False:=by
 rw[cu]at e;unfold aA at e;rw[Fu (by simp;omega),ml]at e;split at e
 ·cases e
 ·cases e
theorem xS{i:Nat}{w:W}(h:ak K A H ws vs)(e:look (aA N.length ws) i=some w):∃v,(start N vs)[i]?=some (some v)/\Rep K A H w v:=by
 have f:=h.len;by_cases a:i<ws.length
 ·rw[cu]at e;unfold aA at e;rw[He (by simpa using a),DD]at e;obtain⟨d,c,b⟩:=Oy.mp e;cases b;obtain⟨v,b,r⟩:=h.get c;refine⟨v,?_,r⟩;unfold L2.start;rw[He (by simp;lia),DD,b];rfl
 ·exact(oH (by lia) e).elim
theorem LL(h:ak K A H ws vs)(d:Dom A H)(g:∀i m,(i,m)∈M->ws.length<=i)(b:∀i m a,(i,m)∈M->(i,a)∈M->m=a):SR K M ⟨A,A,none⟩ H (start N vs) H (aA N.length ws):=by have f:=h.len;refine⟨by simp[L2.start,aA,f],λi w k e=>xS h e,aE.refl _,d,(λv e=>by cases e),λ_=>[],⟨b,λi m w c e=>(oH (g i m c) e).elim,λ_ _ _=>rfl,λ_ _=>tJ,(λi j p _ _ z=>by cases z),(λi p _ z=>by cases z),(λi p _ z=>by cases z),λp=>⟨.inl,λz=>z.elim id<|by rintro⟨_,_,z⟩;cases z⟩⟩⟩
open Classical in
noncomputable def era(F:List Addr)(H:Hp):Hp:=λp=>if p∈F then none else H p
theorem LM{F:List Addr}{p:Addr}{o:HO}(h:era F H p=some o):p∉F/\H p=some o:=by
 unfold era at h;split at h
 ·cases h
 ·exact⟨by assumption,h⟩
theorem LN{F:List Addr}{p:Addr}(h:era F H p=none):p∈F\/H p=none:=by
 unfold era at h;split at h
 ·exact .inl (by assumption)
 ·exact .inr h
theorem VQ{F:List Addr}{p:Addr}(h:p∈F):era F H p=none:=by unfold era;rw[Bn h]
theorem Px{F:List Addr}{p:Addr}(h:p∉F):era F H p=H p:=by unfold era;rw[Bi h]
theorem LP{F:List Addr}{k:W}{l:V}{q:Md}(E:F.Nodup)(G:∀p∈F,¬A p)(d:Dom A H)(P:Fp K (λp=>A p\/p∈F) H q k l F)(h:ak K (λp=>A p\/p∈F) H ws vs)
 (t:(0,q)∈M)(O:∀i m,(i,m)∈M->i=0\/ws.length+1<=i)(B:∀i m C,(i,m)∈M->(i,C)∈M->m=C)(L:0<N.length):
 SR K M ⟨A,λp=>A p\/p∈F,some l⟩ (era F H) (start N (l::vs)) H (aA N.length (k::ws)):=by
 have I:=h.len;have D:look (aA N.length (k::ws)) 0=some k:=rfl;have r:(start N (l::vs))[0]?=some (some l):=rfl;have y:∀i,bI M i->i≠0->∀w,look (aA N.length (k::ws)) i=some w->False:=λi ⟨m,s⟩ n w e=>oH (by rcases O i m s with z|z;exact(n z).elim;simpa using z) e;refine⟨by simp[L2.start,aA,I],λi w g e=>?_,λp o e=>(LM e).2,d,λv e=>?_,λi=>if i=0 then F else[],⟨B,λi m w s e=>?_,λi g e=>?_,λi g=>?_,λi j p g R a b=>?_,λi p g c=>?_,λi p g c=>?_,λp=>?_⟩⟩
 ·cases i with
  |zero=>exact(g ⟨q,t⟩).elim
  |succ i=>
   have Q:look (ws.map some++List.replicate (N.length -(k::ws).length) none) i=some w:=e;have:look (aA (N.length -1) ws) i=some w:=by unfold aA;rw[show N.length -1 -ws.length=N.length -(k::ws).length by simp;lia];exact Q
   cases N with
   |nil=>cases L
   |cons x N=>obtain⟨v,f,u⟩:=xS (N:=N) h this;refine⟨v,?_,u⟩;unfold L2.start at f⊢;rw[Jn,List.cons_append,List.getElem?_cons_succ,show(x::N).length -(l::vs).length=N.length -vs.length by simp];exact f
 ·cases e;exact⟨r,q,t⟩
 ·rcases hZ i with rfl|g
  ·have:=B 0 m q s t;subst this;rw[D]at e;cases e;exact⟨l,r,by rw[Bn rfl];exact P⟩
  ·exact(y i ⟨m,s⟩ (by lia) w e).elim
 ·rcases hZ i with rfl|J
  ·rw[D]at e;cases e
  ·rw[Bi (by lia)]
 ·split
  ·exact E
  ·exact tJ
 ·by_cases f:i=0
  ·by_cases u:j=0
   ·rw[f,u]
   ·rw[Bi u]at b;cases b
  ·rw[Bi f]at a;cases a
 ·by_cases f:i=0
  ·rw[Bn f]at c;exact VQ c
  ·rw[Bi f]at c;cases c
 ·by_cases f:i=0
  ·rw[Bn f]at c;exact G p c
  ·rw[Bi f]at c;cases c
 ·constructor
  ·rintro(z|z)
   ·exact .inl z
   ·exact .inr ⟨0,⟨q,t⟩,by rw[Bn rfl];exact z⟩
  ·rintro(z|⟨i,g,c⟩)
   ·exact .inl z
   ·by_cases f:i=0
    ·rw[Bn f]at c;exact .inr c
    ·rw[Bi f]at c;cases c
end
theorem Rv{M:Ms}(h:(M.map (·.1)).Nodup):∀i m c,(i,m)∈M->(i,c)∈M->m=c:=by
 induction M with
 |nil=>intro i m c a;cases a
 |cons x M d=>
  obtain⟨j,k⟩:=x;rw[Jn,Tb]at h;intro i m c a b;rcases GT.mp a with a|a
  ·rcases GT.mp b with b|b
   ·cases a;cases b;rfl
   ·cases a;exact(h.1 (Hk.mpr ⟨_,b,rfl⟩)).elim
  ·rcases GT.mp b with b|b
   ·cases b;exact(h.1 (Hk.mpr ⟨_,a,rfl⟩)).elim
   ·exact d h.2 i m c a b
section
variable{P:Program}{w:World}{K:Frag}{mg:Str->Option Value}{base:Heap}{x qual:Str}{st:Stmt}{f:Addr}{fd:FuncData}{N ps:List Str}{k:Nat}{fn gn zn:List Str}{md:List Md}{mt:List (Nat×Nat)}{Φ:Nat->cA}{G:Nat->W}
theorem LQ{M:Ms}{b:Value}{A:Around}{a:List Env}{s:Shared}{H:Hp}{E:XK}(t:az N ps (aa st))(T:Tab P w K mg base fn gn zn md mt Φ G k)(q:fy k (oS P w K mg base N qual (aa st) f b A a s H E).A)(un:∀i m r,(i,m)∈M->(i,r)∈M->m=r):
 DK ⟨N,(aa st).names,M,fn,gn,zn,md,mt⟩ Φ (bO md) G (oS P w K mg base N qual (aa st) f b A a s H E):=
 {hN:=rfl,nd:=t.nd,calm:=rfl,un:=q.units,nk:=λ_=>rfl,
  fns:=λj x e h=>by obtain⟨v,n,p,o,l,d,c⟩:=T.fns j x e h;exact⟨v,n,p,o,l,q.mono d,c⟩
  OW:=λj g x e h=>by obtain⟨f,fd,ps,n,p,o,l,d,c,u⟩:=T.OW j g x e h;exact⟨f,fd,ps,n,p,o,l,d,q.mono c,u⟩
  MU:=rfl,MV:=T.MV,xK:=T.xK,kit:=T.kit,
  bk:=by show(if(aa st).kind.isAnnotationScope then ScopeKind.function else(aa st).kind)=_;rw[t.kind];rfl
  WX:=λ_=>rfl,IZ:=T.IZ,Vp:=un}
theorem aP(F:JJ K x qual st f fd)(O:az N ps (aa st))(T:Tab P w K mg base fn gn zn md mt Φ G k)(b:List CS)(M:Ms)(m:Md)(t:cA)(hM:M.all (λi=>decide (ps.length<=i.1))=true)(hu:(M.map (·.1)).Nodup)(d:kT m=false)
 (g:aK ⟨N,(aa st).names,M,fn,gn,zn,md,mt⟩ (bO md) m b (aj st)=true)(B:∀c P R,t c P R->c.length=ps.length)
 (hp:∀c P R,t c P R->wSs Φ G b ⟨fall m P,P,λ_=>False,λ_=>False,R⟩ (aA N.length c)):aN P w K mg base (dD P w) (k+1) f fd ps (Rf K ps.length m t):=by
 refine JJ.ZV F O (by rintro vs H Q E ⟨A,c,P,R,p,o,_⟩;rw[o.len,p]) λcdv A n s H vs Q E hr hz=>?_;obtain⟨U,c,u,R,p,o,h3,h4,L,J⟩:=hz;have y:=Rv hu;refine⟨_,r8 Φ (bO md) G b (LQ O T hr y) (aj st) g,⟨U,U,none⟩,H,aA N.length c,⟨fall m u,u,λ_=>False,λ_=>False,R⟩,LL o h3 (λi m hi=>?_) y,⟨E,QZ,λC j rc l=>J C j rc l,λe Y S s1 h' a C h I hx q=>EV e Y S s1 h' a C h I hx (J C S q.1 q.2)⟩,(by rw[d];rfl),hp c u R h4,⟨λA' Z X j ea eb D S'=>?_,λw v j hw l r=>?_,λ_ _ _ _ _ _ z=>z.elim,λ_ _ _ _ _ _ z=>z.elim⟩⟩
 ·rw[p];exact Bz (IH.mp hM (i,m) hi)
 ·cases m with
  |s=>exact L .bC .bC j D S'.sm (.of (by rw[Rep]))
  |io _=>cases d
  |_=>exact D.elim
 ·cases m with
  |io _=>cases d
  |_=>exact L w v j hw l r
theorem Gd(F:JJ K x qual st f fd)(Sc:az N ps (aa st))(T:Tab P w K mg base fn gn zn md mt Φ G k)(b:List CS)(M:Ms)(l:Md)(Sf:cA)(hM:M.all (λi=>i.1==0||decide (ps.length<=i.1))=true)(hu:(M.map (·.1)).Nodup)(X:hasB M 0 l=true)(hN:0<N.length)
 (L:aK ⟨N,(aa st).names,M,fn,gn,zn,md,mt⟩ (bO md) (.io l) b (aj st)=true)(hlen:∀h P R,Sf h P R->h.length=ps.length)
 (J:∀h P R,Sf h P R->wSs Φ G b ⟨fall (.io l) P,P,λ_=>False,λ_=>False,R⟩ (aA N.length h)):aN P w K mg base (dD P w) (k+1) f fd ps (YF K ps.length l Sf):=by
 refine JJ.ZV F Sc (by rintro vs H Q E ⟨ab,F,S,v0,h,vs',P,R,e,h1,_,_,_,_,h2,_⟩;rw[e,List.length_cons,h2.len,h1]) λcdv A outer s H vs Q E hr hz=>?_;obtain⟨ab,F,S,v0,h,vs',P0,R,e,h1,nd,na,d,fp,h2,h4,h5,h6⟩:=hz;subst e;have un:=Rv hu;have X:=mR X;have Z:∀{c},aE (era F H) c->Ai (·∈F) H c:=λ{c} u p o e=>by
  by_cases WU:p∈F
  ·obtain⟨o',e',hm⟩:=Fp.mu l fp p WU;rw[e]at e';cases e';exact .inl ⟨hm,WU⟩
  ·exact .inr (u p o (by rw[Px WU];exact e))
 refine⟨_,r8 Φ (bO md) G b (LQ Sc T hr un) (aj st) L,⟨ab,λp=>ab p\/p∈F,some v0⟩,era F H,aA N.length (S::h),⟨fall (.io l) P0,P0,λ_=>False,λ_=>False,R⟩,LP nd na d fp h2 X (λi m hi=>?_) un hN,⟨E,QZ,λC c rc u=>h6 C c rc (Z u),λD σ H1 s1 h' a C O I hx q=>EV D σ H1 s1 h' a C O I hx (h6 C H1 q.1 (Z q.2))⟩,rfl,J _ P0 R h4,⟨λA' t σ' c ea eb n S'=>?_,λw v c hw u r=>?_,λ_ _ _ _ _ _ z=>z.elim,λ_ _ _ _ _ _ z=>z.elim⟩⟩
 ·have:=IH.mp hM (i,m) hi;rw[rp]at this;rcases this with z|z
  ·exact .inl (Nw.mp z)
  ·exact .inr (by rw[h1];exact Bz z)
 ·have n:(match look t 0 with|some S=>P0 (.tup [.bC,S])|none=>False):=n;cases hl:look t 0 with
  |none=>rw[hl]at n;exact n.elim
  |some y=>rw[hl]at n;obtain⟨wr,y',v0',F',e1,Y,j,Z7,g,U⟩:=zo (v:=.bC) S' X hl ⟨v0,eb⟩ (by rw[Rep]:Rep K A'.B c .bC .bC);cases e1;rw[eb]at Y;cases Y;rw[ea]at g U Z7;exact h5 .bC y .bC F' c n (Z S'.sm) j (λp J=>LN (Z7 p J).1) g U
 ·obtain⟨wr,y,v0',F',rfl,Y,j,Z7,g,U⟩:=r;cases Y;exact h5 wr y v F' c hw (Z u) j (λp J=>LN (Z7 p J).1) g U
end
end VL
namespace L2
open PySem PySem.Spec PyProof.Rows
abbrev rv(as:List (Addr×Rat)):List V:=as.map λx=>V.ref x.1
abbrev rq(as:List (Addr×Rat)):List Rat:=as.map λx=>x.2
section
variable{X:Cx}{H:Hp}
end
theorem xT{α:Type}{a:List α}{x:α}(h:a.getLast?=some x):m9 a (-1)=some x:=by
 have c:a≠[]:=by intro z;rw[z]at h;cases h
 have b:0<a.length:=Dx.mpr c;unfold m9;have e:yv a.length (-1)=some (a.length -1):=by unfold yv;rw[Bi (by decide),Bn (by lia)];congr 1;lia
 rw[e];show a[a.length -1]?=_;rw[←h,Ha]
end L2
namespace VL
open PySem PySem.Spec
open PyProof.Rows hiding St
open L2
noncomputable def wq(r:Rat):W:=.tup [.int r.num,.int r.den]
noncomputable def af(rs:List Rat):W:=.lst (rs.map wq)
section
variable{K:Frag}{A:Addr->Prop}{H H':Hp}{v:V}{p:Addr}{r:Rat}{rs:List Rat}
end
noncomputable def cN:List cA->Nat->cA
 |[],_=>λ_ _ _=>False
 |x::_,0=>x
 |_::l,n+1=>cN l n
noncomputable def qJ:List W->Nat->W
 |[],_=>.bC
 |x::_,0=>x
 |_::l,n+1=>qJ l n
section
variable{Q:W->Prop}{l a b:List W}{i j:Int}{x y:Str}{p q:Bool}
theorem x_len:wm .len [.lst l] Q=Q (.int l.length):=rfl
theorem Jc{ns:List Int}:wm .len [.g9 ns] Q=Q (.int ns.length):=rfl
theorem Jb:wm .len [.tup l] Q=Q (.int l.length):=rfl
theorem Qp:wm .abs [.int i] Q=Q (.int (if i<0 then-i else i)):=rfl
theorem Qq:wm .max2 [.int i,.int j] Q=Q (.int (if j>i then j else i)):=rfl
theorem Qt:wm .min2 [.int i,.int j] Q=Q (.int (if j<i then j else i)):=rfl
theorem Jd:wm .list [.lst l] Q=Q (.lst l):=rfl
theorem EA:wm .list [.tup l] Q=Q (.lst l):=rfl
theorem EB:wm .tuple [.lst l] Q=Q (.tup l):=rfl
theorem Al:wm .tuple [.tup l] Q=Q (.tup l):=rfl
theorem Qu:wm .int [.bl p] Q=Q (.int (if p then 1 else 0)):=rfl
theorem Ge{w:W}{n:String}:wm .Cy [w,.ty n] Q=∃a,tyW w=some a/\Q (.bl (HK a n)):=rfl
theorem Qv:jJ .Add (.int i) (.int j) Q=Q (.int (i+j)):=rfl
theorem Qw:jJ .Add (.lst a) (.lst b) Q=(a.length+b.length<=sizeLine/\Q (.lst (a++b))):=rfl
theorem Qx:jJ .Sub (.int i) (.int j) Q=Q (.int (i -j)):=rfl
theorem Qy:jJ .Mult (.int i) (.int j) Q=(IntMulOk i j/\Q (.int (i*j))):=rfl
theorem Qz:jJ .Mult (.lst a) (.int j) Q=(-(2^63)<=j/\j<2^63/\a.length*j.toNat<=sizeLine/\Q (.lst (List.replicate j.toNat a).flatten)):=rfl
theorem Je:jJ .FloorDiv (.int i) (.int j) Q=(ET i j/\Q (.int (i.fdiv j))):=rfl
theorem QA:jJ .Mod (.int i) (.int j) Q=(j≠0/\Q (.int (i.fmod j))):=rfl
theorem QB:jJ .Pow (.int i) (.int j) Q=(GV i j/\Q (.int (i^j.toNat))):=rfl
theorem QC:jJ .RShift (.int i) (.int j) Q=(0<=j/\Q (.int (i/2^j.toNat))):=rfl
theorem W2:ie .Eq (.int i) (.int j) Q=Q (.bl (decide (i=j))):=rfl
theorem W3:ie .NotEq (.int i) (.int j) Q=Q (.bl (!decide (i=j))):=rfl
theorem x_lt:ie .Lt (.int i) (.int j) Q=Q (.bl (decide (i<j))):=rfl
theorem W4:ie .LtE (.int i) (.int j) Q=Q (.bl (decide (i<=j))):=rfl
theorem W5:ie .Gt (.int i) (.int j) Q=Q (.bl (decide (j<i))):=rfl
theorem W6:ie .GtE (.int i) (.int j) Q=Q (.bl (decide (j<=i))):=rfl
theorem EC{Q:Bool->Prop}:truth (.bl p) Q=Q p:=rfl
theorem W7:TN (.lst l) (.int i) Q=∃w,m9 l i=some w/\Q w:=rfl
theorem QE{ns:List Int}:TN (.g9 ns) (.int i) Q=∃n,m9 ns i=some n/\Q (.int n):=rfl
theorem QF{ns:List Int}{c d:Option Int}:Z2 (.g9 ns) c d Q=Q (.lst (zc (ns.map W.int) c d)):=rfl
theorem QD:TN (.tup l) (.int i) Q=∃w,m9 l i=some w/\Q w:=rfl
theorem W8{c d:Option Int}:Z2 (.lst l) c d Q=Q (.lst (zc l c d)):=rfl
theorem QG{w:W}{Q:Option Int->Prop}:Of .bC w Q=Q none:=rfl
theorem QH{n:Int}{Q:Option Int->Prop}:Of (.int n) (.int i) Q=Q (some i):=rfl
theorem QI{n:Nat}{Q:Option Int->Prop}:Of (.var n) (.int i) Q=Q (some i):=rfl
theorem QJ{o:Operator}{c d:CE}{Q:Option Int->Prop}:Of (.bin o c d) (.int i) Q=Q (some i):=rfl
theorem ED{Q:List W->Prop}:items (.lst l) Q=Q l:=rfl
theorem Am{Q:List W->Prop}:items (.tup l) Q=Q l:=rfl
theorem W9{n:Nat}{w:W}{c:Ev}{Q:Ev->Prop}:wT true [n] w c Q=Q (c.set n (some w)):=rfl
theorem Xa{c:List Nat}{d:Ev}{Q:Ev->Prop}:wT false c (.tup l) d Q=(l.length=c.length/\Q (cW d c l)):=by
 cases c<;>rfl
theorem QK{i j:Nat}{c:Ev}{Q:Ev->Prop}:wT false [i,j] (.tup l) c Q=(l.length=2/\Q (cW c [i,j] l)):=rfl
theorem QL{i j k:Nat}{c:Ev}{Q:Ev->Prop}:wT false [i,j,k] (.tup l) c Q=(l.length=3/\Q (cW c [i,j,k] l)):=rfl
theorem Jf{A B:Prop}:(if true=true then A else B)=A:=rfl
theorem EF{A B:Prop}:(if false=true then A else B)=B:=rfl
end
noncomputable def WN{α:Type}(S:α->Ev)(J:α->Prop)(c:α->Nat)(s:α):Ev->Prop:=λa=>∃b,a=S b/\J b/\c b<c s
noncomputable def Z8{α:Type}(S:α->Ev)(J:α->Prop)(d:α->Nat)(b:Dn->Ev->Prop)(D:Dn)(s:α)(k:Bool):Prop:=
 if k=true then∃N:Ev->Prop,(∀a,N a->∃e,e<d s/\∃c,a=S c/\e=d c/\J c)/\b {nx:=N,rt:=D.rt,bk:=D.nx,ct:=N,ex:=λ_=>False} (S s)else D.nx (S s)
theorem dj{α:Type}{S:α->Ev}{J:α->Prop}{a:α->Nat}{b:Dn->Ev->Prop}{D:Dn}{s:α}{k:Bool}(g:k=true->b {nx:=WN S J a s,rt:=D.rt,bk:=D.nx,ct:=WN S J a s,ex:=λ_=>False} (S s))(f:k=false->D.nx (S s)):Z8 S J a b D s k:=by
 unfold Z8;cases k with
 |true=>exact⟨_,by rintro c ⟨d,e,j,l⟩;exact⟨_,l,d,e,rfl,j⟩,g rfl⟩
 |false=>exact f rfl
theorem jn{c:Ev->(Bool->Prop)->Prop}{b:Dn->Ev->Prop}{D:Dn}{a:Ev}{α:Type}(S:α->Ev)(J:α->Prop)(e:α->Nat)(d:α)(h:a=S d)(g:J d)(f:∀s,J s->c (S s) (Z8 S J e b D s)):Og c b D a:=by refine⟨λm a=>∃s,a=S s/\m=e s/\J s,⟨_,d,h,rfl,g⟩,?_⟩;rintro m _ ⟨s,rfl,rfl,j⟩;exact f s j
theorem cP{α:Type}{f:W->(Option W->Prop)->Prop}{h g:α->W}:∀(b:List α)(a:List W)(Q:List W->Prop),(∀x∈b,∀K:Option W->Prop,K (some (g x))->f (h x) K)->a.length+b.length<=sizeLine->Q (a++b.map g)->sE f (b.map h) a Q
 |[],a,Q,_,_,q=>by rw[Xt,sE];simpa using q
 |w::b,a,Q,c,l,q=>by
  rw[Jn,sE];refine c w (FV ..) _ ⟨?_,cP b _ Q (λx d=>c x (FR _ d)) ?_ ?_⟩
  ·rw[List.length_cons]at l;lia
  ·rw[Ee,List.length_singleton];rw[List.length_cons]at l;lia
  ·rw[Kb];exact q
theorem iN{α:Type}(x:α):∀n,(List.replicate n [x]).flatten=List.replicate n x
 |0=>rfl
 |n+1=>by rw[List.replicate_succ,List.flatten_cons,iN x n];rfl
theorem Py{rs:List Rat}{y:Rat}(a:0<rs.length)(h:rs.getD (rs.length -1) 0=y):rs.getLast?=some y:=by rw[Ha,B1 (by omega)];rw[AC,B1 (by omega)]at h;exact W1 some h
theorem uW{rs:List Rat}{y:Rat}(h:rs.getLast?=some y):m9 (rs.map wq) (-1)=some (wq y):=xT (by rw[List.getLast?_map,h];rfl)
theorem ai{n:Nat}(h:n<=1000):n<=sizeLine:=Da h (by decide)
theorem uX(K:Frag):A6 K:=by intro a d b c;simp only[GT,TB,nr]at d c;rcases d with rfl|rfl|rfl|rfl|rfl|rfl<;>rcases c with rfl|rfl|rfl|rfl|rfl|rfl<;>rfl
theorem DO{n:Nat}(h:n<=1000):n<sizeLine:=On h (by decide)
theorem tG(i:Int)(n:Nat):gj n (.int i)=true:=by
 cases n<;>rw[gj]
theorem DP(r:Rat)(n:Nat):gj (n+1) (wq r)=true:=by unfold wq;rw[gj,List.all_cons,List.all_cons,tG,tG];rfl
theorem je(rs:List Rat)(n:Nat):gj (n+2) (.lst (rs.map wq))=true:=by rw[gj,IH];intro x a;obtain⟨r,_,rfl⟩:=Hk.mp a;exact DP r n
theorem VR{r s:Rat}(h:wq r=wq s):r=s:=by unfold wq at h;simp only[W.tup.injEq,mM,W.int.injEq,and_true]at h;exact Rat.ext h.1 (by have:=h.2;lia)
theorem Gf{rs c:List Rat}(h:W.lst (rs.map wq)=.lst (c.map wq)):rs=c:=by rw[W.lst.injEq]at h;exact(tf (λa b e=>VR e)).mp h
theorem jo{x y:List Rat}{Q:W->Prop}(h:∀k:Bool,(k=true↔x=y)->Q (.bl k)):ie .Eq (af x) (af y) Q:=
 ⟨.inl ⟨je x 7,je y 7⟩,λk a=>h k (a.trans ⟨λe=>Gf e,λe=>by rw[e]⟩)⟩
theorem VU{x y:List Rat}{Q:W->Prop}(h:∀k:Bool,(k=true↔x=y)->Q (.bl (!k))):ie .NotEq (af x) (af y) Q:=
 ⟨.inl ⟨je x 7,je y 7⟩,λk a=>h k (a.trans ⟨λe=>Gf e,λe=>by rw[e]⟩)⟩
theorem b9{k:Bool}{p:Prop}(h:k=true↔p)(q:p):k=true:=h.mpr q
theorem b7{k:Bool}{p:Prop}(h:k=true↔p)(q:¬p):k=false:=by
 cases k with
 |false=>rfl
 |true=>exact absurd (h.mp rfl) q
noncomputable def Hd(K:Frag)(x:Str)(st:Stmt):Prop:=∃(f:Addr)(d i:Option Addr)(b:Array (Option Value))(e kV g c a h:Value),
 nsIn K mainGlobals x=some (some (.ref f))/\K.lookup f=some ⟨e,d,.func (fnOf x x (dG st) (aj st) (aa st) .none kV g c i a h),b⟩/\codeIn K a x=true/\keepIn K (.ref f)=true
noncomputable def Hm(K:Frag)(C:Addr)(x q:Str)(st:Stmt):Prop:=∃(f:Addr)(d i:Option Addr)(b:Array (Option Value))(e kV g c a h:Value),
 findIn K (.ref C) x=some (some (.ref f))/\isFn K (.ref f)=true/\K.lookup f=some ⟨e,d,.func (fnOf x q (dG st) (aj st) (aa st) .none kV g c i a h),b⟩/\codeIn K a q=true/\keepIn K (.ref f)=true
structure Df(K:Frag)(mg:Str->Option Value)(x:Str)(st:Stmt)(ps:List Str)(f:Addr)(fd:FuncData):Prop where
 F:JJ K x x st f fd
 m:mg x=some (.ref f)
 b:Binds K fd ps []
 bt:∀(s:Shared)(us:List Value),us.length=ps.length->BindsTo s fd ⟨us,[]⟩ (ps.zip us)
structure Dm(K:Frag)(C:Addr)(x q:Str)(st:Stmt)(ps:List Str)(f:Addr)(fd:FuncData):Prop where
 F:JJ K x q st f fd
 M:Meth K C x f
 b:Binds K fd ps []
abbrev mU(x q:Str)(st:Stmt)(ps:List Str):Prop:=∀(kV doc pm:Value)(an:Option Addr)(cdv ct:Value)(us:List Value),us.length=ps.length->bindArgs (fnOf x q (dG st) (aj st) (aa st) .none kV doc pm an cdv ct) ⟨us,[]⟩=pure (ps.zip us)
theorem bw{K:Frag}{h:Heap}{d:Str->Option Value}{x:Str}{st:Stmt}{ps:List Str}(X:K.In h)(G:h.Ns mainGlobals d)(j:Hd K x st)(b:mU x x st ps):∃f m,Df K d x st ps f m:=by obtain⟨f,t,q,r,u,kV,n,g,p,o,a,l,c,k⟩:=j;have F:=JK (st:=st) l c k;exact⟨f,_,F,X2 X G a,F.binds b,λs e i=>.of_eq (b kV n g q p o e i)⟩
theorem Gg{K:Frag}{C:Addr}{x q:Str}{st:Stmt}{ps:List Str}(d:Hm K C x q st)(b:mU x q st ps):∃f e,Dm K C x q st ps f e:=by obtain⟨f,j,r,g,m,kV,n,h,p,o,a,i,l,c,k⟩:=d;have F:=JK (st:=st) l c k;exact⟨f,_,F,⟨a,i,k⟩,F.binds b⟩
structure Hc(K:Frag)(mg:Str->Option Value)(x:Str)(C:Addr)(fs:List Str):Prop where
 c:mg x=some (.ref C)
 ok:Dv K C fs
 mks:makesIn K C=true
 kp:keepIn K (.ref C)=true
theorem DR{K:Frag}{H:Hp}{a:Addr}{ns:List Int}(c:JH H)(b:kI K H a (ns.map V.int)):Rep K (λ_=>False) H (.g9 ns) (.ref a):=by
 rw[Rep];refine⟨a,rfl,?_⟩;rcases b with(h|⟨o,h⟩)|h
 ·rcases c a with z|⟨o,d,z⟩
  ·rw[z]at h;cases h
  ·rw[z]at h;cases h
 ·exact .inl ⟨o,h⟩
 ·exact .inr (.inr h)
noncomputable def Pz:cA:=λb Q _=>∃a:List Int,b=[.g9 a]/\a.length<=63/\Q (.bl true)
noncomputable def Gh(K:Frag):Sp:=λc H Q _=>∃(a:Addr)(b:List Int),c=[.ref a]/\JH H/\kI K H a (b.map V.int)/\b.length<=63/\∀d,Q (.bl true) d
theorem VV{P:Program}{w:World}{K:Frag}{c:Str->Option Value}{base:Heap}{k:Nat}{f:Addr}{d:FuncData}{x:Str}(F:aN P w K c base (dD P w) k f d [x] (Rf K 1 .s Pz)):aN P w K c base XU k f d [x] (Gh K):=by refine(aN.XY F).imp λm H Q E ⟨a,b,e,j,i,h,q⟩=>?_;subst e;refine⟨λ_=>False,[.g9 b],λw=>w=.bl true,λ_=>False,rfl,.cons (DR j i) .nil,λ_ z=>z.elim,⟨b,rfl,h,rfl⟩,λw v l g _ r=>?_,λ_ _ z=>z.elim⟩;subst g;have r:=r.cg;rw[Rep]at r;subst r;exact q l
theorem walk{l:PySem.W.OpenLaw}{q:Program}{b:List Str}{C:(Str->Option Value)->Heap->Prop}{o:World->Heap->Prop}{d:DefRec}{K:Params->Frag}{k:Nat}(t:l.most=some 63)(i:d.params.defaults=[])(r:fy k callerA)(g:importsNone q=true)(e:l.prog.given.tree=none)
 (y:∀(w:World)(h:Heap),o w h->(K w.params).In h)
 (F:∀(w:World)(c:Str->Option Value)(m:Addr)(h:Heap),(K w.params).In h->h.Ns mainGlobals c->c d.name=some (.ref m)->
   ∃j:FuncData,(∀(s:Shared)(u:Value),BindsTo s j ⟨[u],[]⟩ [("_law_script",u)])/\∀base:Heap,(K w.params).In base->base.Ns mainGlobals c->aN l.prog w (K w.params) c base XU k m j ["_law_script"] (Gh (K w.params))):
 PySem.W.WalkO q b C o l.row.toRowW d [] (λf us=>PySem.call f us):=
 L2.Nq (n:=63) (k:=k) (x:="_law_script") (CX:=λ_=>XU) (sp:=λw=>Gh (K w.params)) t (by decide) i r g e y F (λ_ _ a p v B A=>⟨a,p,rfl,B,A,v,λ_=>rfl⟩) λ_ _ _ _ _ z=>z
noncomputable def Z9:cA:=λ_ _ _=>False
theorem LR{P:Program}{w:World}{K:Frag}{d:Str->Option Value}{base:Heap}{k n:Nat}{f:Addr}{e:FuncData}{ps:List Str}:aN P w K d base (dD P w) k f e ps (fz K n .s Z9):=
 ⟨by rintro c H Q E ⟨_,_,_,_,_,_,_,z,_⟩;exact z.elim,by rintro A a s H b g c Q E h j i r ⟨_,_,_,_,_,_,_,z,_⟩;exact z.elim⟩
theorem Df.fD{P:Program}{w:World}{K:Frag}{d:Str->Option Value}{base:Heap}{x:Str}{st:Stmt}{ps:List Str}{f:Addr}{h:FuncData}{k n:Nat}{m:Md}{sp:cA}(D:Df K d x st ps f h)(F:aN P w K d base (dD P w) k f h ps (fz K n m sp))(j:n=ps.length)(i:∀a P R,sp a P R->a.length=n){e:Nat}(l:k<=e):
 ∃g n c,d x=some g/\gf P w K d base c g n (fz K n m sp)/\c<=e/\∀a P R,sp a P R->a.length=n:=by
 subst j;exact⟨_,_,k,D.m,.fn D.F.kp D.b F,l,i⟩
theorem Dm.fD{P:Program}{w:World}{K:Frag}{g:Str->Option Value}{base:Heap}{x q:Str}{st:Stmt}{ps:List Str}{C f:Addr}{a:FuncData}{k n:Nat}{m:Md}{sp:cA}(D:Dm K C x q st ps f a)(F:aN P w K g base (dD P w) k f a ps (fz K n m sp))(i:∀c P R,sp c P R->c.length=n){h:Nat}(j:k<=h){G:W}(l:G=.cls C):
 ∃f a ps n d,(∀C,G=.cls C->Meth K C x f)/\Binds K a ps []/\aN P w K g base (dD P w) d f a ps (fz K n m sp)/\d<=h/\∀c P R,sp c P R->c.length=n:=
 ⟨f,a,ps,n,k,λo e=>by rw[l]at e;cases e;exact D.M,D.b,F,j,i⟩
end VL
namespace VL
open PySem PySem.Spec
open PyProof.Rows hiding St
open L2 Num
abbrev cC(m:Md)(P:W->Prop)(R:Addr->Prop):Dn:=⟨fall m P,P,λ_=>False,λ_=>False,R⟩
noncomputable def wI(ns:List Int):W:=.lst (ns.map W.int)
theorem bU{b:W->Dn->Ev->Prop}{D:Dn}{d:List W}{a:Ev}(J:Nat->Ev->Prop)(n:J 0 a)(l:∀i w a N,d[i]?=some w->J i a->(∀c,J (i+1) c->N c)->b w ⟨N,D.rt,D.nx,N,λ_=>False⟩ a)(m:∀a,J d.length a->D.nx a):oF b D d a:=by
 have:∀k i a,i+k=d.length->J i a->oF b D (d.drop i) a:=by
  intro k
  induction k with
  |zero=>intro i a e j;rw[List.drop_of_length_le (by lia),oF];exact m a (by rw[←e];exact j)
  |succ k h=>
   intro i a e j;have f:i<d.length:=by lia
   rw[tm f,oF];exact l i _ a _ (B1 f) j λc g=>h (i+1) c (by lia) g
 exact this d.length 0 a (by lia) n
theorem aI{x y:Int}{n m:Nat}(h:x.natAbs<2^n)(b:y.natAbs<2^m)(a:n+m<=134217728):IntMulOk x y:=C0 (Da (Nat.add_le_add (bits_le h) (bits_le b)) a)
theorem gY{y:Int}{n:Nat}(h:y.natAbs<2^n)(a:n<=8000):y.natAbs.log2<1000000000:=by
 rcases hZ y.natAbs with e|e
 ·rw[e];decide
 ·have:=(Nat.log2_lt (oP e)).mpr h;lia
theorem Bx(r:Rat):(r.den:Int).natAbs=r.den:=Int.natAbs_natCast _
theorem By(r:Rat):(r.den:Int)≠0:=by have:=r.den_pos;lia
theorem Ze(a b:Rat):Rat.divInt (a.num*b.den+b.num*a.den) (a.den*b.den)=a+b:=by
 conv=>rhs;rw[←UV a,←UV b]
 exact(Rat.divInt_add_divInt _ _ (By a) (By b)).symm
theorem VW(a b:Rat):Rat.divInt (a.num*b.num) (a.den*b.den)=a*b:=by
 conv=>rhs;rw[←UV a,←UV b]
 exact(Rat.divInt_mul_divInt _ _).symm
noncomputable def lP:List CS:=[.ret (.comp [0] true 1 (.var 0) (.bl true) (.bin .Mult (.var 2) (.var 0)))]
noncomputable def jf:cA:=λc Q _=>∃(a:List Int)(b:Int),c=[wI a,.int b]/\a.length<=1000/\(∀x∈a,IntMulOk b x)/\Q (wI (a.map (b*·)))
theorem LS{e:Nat->cA}{G:Nat->W}{m:Md}(c:List W)(Q:W->Prop)(R:Addr->Prop)(h:jf c Q R):wSs e G lP (cC m Q R) (aA 2 c):=by obtain⟨d,b,rfl,i,j,a⟩:=h;show wSs _ _ lP _ [some (wI d),some (.int b)];unfold lP wI;walk_at "vs";refine cP (g:=λx=>.int (b*x)) d [] _ (λx f K k=>⟨j x f,k⟩) (ai (by simpa using i)) ?_;rw[List.nil_append];unfold wI at a;rw[SZ]at a;exact a
noncomputable def BA:List CS:=[.ret (.call 0 [(.bin .Add (.bin .Mult (.ix (.var 0) (.int 0)) (.ix (.var 1) (.int 1))) (.bin .Mult (.ix (.var 1) (.int 0)) (.ix (.var 0) (.int 1)))),(.bin .Mult (.ix (.var 0) (.int 1)) (.ix (.var 1) (.int 1)))])]
noncomputable def BB(f:Rat->Rat->Rat):cA:=λc Q _=>∃(a b:Rat)(n m:Nat),c=[wq a,wq b]/\Bd n a/\Bd m b/\n+m<=8000/\Q (wq (f a b))
noncomputable def jO:List CS:=[.ret (.call 0 [(.bin .Mult (.ix (.var 0) (.int 0)) (.ix (.var 1) (.int 0))),(.bin .Mult (.ix (.var 0) (.int 1)) (.ix (.var 1) (.int 1)))])]
theorem oJ{n i:Nat}{w:W}(h:(jK 0 1 n)[i]?=some w):i<n/\w=.int i:=by unfold jK at h;rw[DD]at h;obtain⟨j,e,rfl⟩:=Oy.mp h;obtain⟨b,a⟩:=Fs.mp e;rw[List.getElem_range]at a;rw[Pt]at b;refine⟨b,?_⟩;rw[←a];simp
noncomputable def BC:cA:=λd Q _=>∃(a b:List Rat)(n m:Nat),d=[af a,af b]/\(∀x∈a,Bd n x)/\(∀x∈b,Bd m x)/\(∃c:Nat,(∀i j k,i<a.length->Bd c (i6 a b i j k))/\c+(n+m)<=8000)/\a.length<=100/\b.length<=100/\Q (af (aH (mulQ a b)))
theorem zF(n:Nat):(jK 0 1 n).length=n:=by unfold jK;simp
theorem b8{l:List W}{k:Nat}{w:W}(h:l[k]?=some w):m9 l (k:Int)=some w:=by unfold m9 yv;have:=(Fs.mp h).1;rw[Bn (by lia),Bn (by lia)];simpa using h
theorem gZ{n k:Nat}(h:k<n):yv n (k:Int)=some k:=by unfold yv;rw[Bn (by lia),Bn (by lia)];simp
theorem DS{rs:List Rat}{k:Nat}(h:k<rs.length):(rs.map wq)[k]?=some (wq (rs.getD k 0)):=by rw[DD,AC,B1 h];rfl
theorem fm{x:Int}{n:Int}(a:0<n):0<=x.fmod n/\x.fmod n<n:=⟨wx x a,Int.fmod_lt_of_pos x a⟩
theorem aF{b:Nat->cA}{G:Nat->W}{s t:CS}{d:List CS}{D:Dn}{c:Ev}(J:Ev->Prop)(f:∀N:Ev->Prop,(∀a,J a->N a)->wS b G s {D with nx:=N} c)(e:∀a,J a->wSs b G (t::d) D a):wSs b G (s::t::d) D c:=f _ e
theorem int_at{ns:List Int}{k:Nat}(h:k<ns.length):(ns.map W.int)[k]?=some (.int (ns.getD k 0)):=by rw[DD,AC,B1 h];rfl
theorem DT{ns:List Int}{P:Int->Prop}(h:∀n∈ns,P n){k:Nat}(a:k<ns.length):P (ns.getD k 0):=by rw[AC,B1 a];exact h _ (Qr _)
theorem LU(ns:List Int)(k:Nat)(h:k<=ns.length):zc (ns.map W.int) none (some (k:Int))=(ns.take k).map W.int:=by unfold zc;rw[HT.Nf,HT.JA,AN,List.drop_zero,show min k ns.length -0=k by lia,List.map_take]
noncomputable def jP:List CS:=[.set 1 (.blt .len [(.var 0)]),.xD (.and [(.cmp .Gt (.var 1) (.int 0)),(.cmp .Eq (.ix (.var 0) (.bin .Sub (.var 1) (.int 1))) (.int 0))]) [.set 1 (.bin .Sub (.var 1) (.int 1))],.ret (.sl (.var 0) .bC (.var 1))]
noncomputable def gH:cA:=λc Q _=>∃a:List Int,c=[wI a]/\∀b,gU a b->Q (wI b)
theorem Ik{l:Nat->cA}{G:Nat->W}{m:Md}(i:List W)(Q:W->Prop)(R:Addr->Prop)(h:gH i Q R):wSs l G jP (cC m Q R) (aA 2 i):=by
 obtain⟨c,rfl,n⟩:=h;show wSs _ _ jP _ [some (wI c),none];unfold jP wI;walk_at "vs";refine jn (α:=Nat) (λk=>[some (.lst (c.map W.int)),some (.int k)]) (λk=>k<=c.length/\∀j,k<=j->j<c.length->c.getD j 0=0) (λk=>k) c.length (by rw[AN]) ⟨Do _,λj g f=>by lia⟩ ?_;rintro k ⟨g,f⟩;walk_at "vs";have d:(k=0\/c.getD (k -1) 0≠0)->Q (.lst (zc (c.map W.int) none (some (k:Int)))):=λh=>by rw[LU c k g];exact n _ ⟨k,g,rfl,f,h⟩
 by_cases o:0<k
 ·rw[Bn (Os (by lia))];rw[show(k:Int) -1=((k -1:Nat):Int) by lia];refine⟨_,b8 (int_at (by lia)),?_⟩;walk_at "vs";refine dj (λz=>?_) (λz=>?_)
  ·have z:=Bz z;walk_at "vs";refine⟨k -1,by rw[show(k:Int) -1=((k -1:Nat):Int) by lia],⟨by lia,λj a b=>?_⟩,by show k -1<k;lia⟩;by_cases e:j=k -1
   ·rw[e];exact z
   ·exact f j (by lia) b
  ·have z:=Sr z;walk_at "vs";exact d (.inr z)
 ·rw[Bi (by rw[L9];lia)];refine dj (λz=>by cases z) (λ_=>?_);walk_at "vs";exact d (.inl (by lia))
noncomputable def fJ:List CS:=[.set 2 (.blt .max2 [(.blt .len [(.var 0)]),(.blt .len [(.var 1)])]),.set 3 (.bin .Add (.blt .list [(.var 0)]) (.bin .Mult (.lst [(.int 0)]) (.bin .Sub (.var 2) (.blt .len [(.var 0)])))),.fr [4,5] false (.y9 (.var 1)) [.put 3 (.var 4) (.bin .Add (.ix (.var 3) (.var 4)) (.var 5))],.ret (.call 0 [(.var 3)])]
noncomputable def jg:cA:=λd Q _=>∃a b:List Int,d=[wI a,wI b]/\a.length<=200/\b.length<=200/\∀c,gU ((List.range (max a.length b.length)).map λk=>a.getD k 0+b.getD k 0) c->Q (wI c)
theorem zG{G:Nat->W}{m:Md}(t:List W)(Q:W->Prop)(R:Addr->Prop)(h:jg t Q R):wSs (cN [gH]) G fJ (cC m Q R) (aA 6 t):=by
 obtain⟨b,a,rfl,u,v,H⟩:=h;show wSs _ _ fJ _ [some (wI b),some (wI a),none,none,none,none];unfold fJ wI;walk_at "vs";have c:(if((a.map W.int).length:Int)>((b.map W.int).length:Int)then((a.map W.int).length:Int)else((b.map W.int).length:Int))=((max b.length a.length:Nat):Int):=by rw[AN,AN];split<;>lia
 rw[c];have d:((max b.length a.length:Nat):Int) -((b.map W.int).length:Int)=((max b.length a.length -b.length:Nat):Int):=by rw[AN];clear c v u;lia
 rw[d,Int.toNat_natCast,iN];generalize z:max b.length a.length=L at*;refine⟨ai (by simp),by clear d c z v u;lia,by clear d c;lia,ai (by simp;clear d c;lia),ai (by simp;clear d c;lia),?_⟩;have g:∀(f:Nat->Int)(k:Nat),k<L->((List.range L).map f)[k]?=some (f k):=λf k I=>by rw[DD,Y2 I];rfl
 refine bU (λi B=>∃o n,B=[some (.lst (b.map W.int)),some (.lst (a.map W.int)),some (.int L),some (.lst (((List.range L).map λk=>b.getD k 0+if k<i then a.getD k 0 else 0).map W.int)),o,n]) ⟨none,none,?_⟩ ?_ ?_
 ·have:b.map W.int++List.replicate (L -b.length) (W.int 0)=((List.range L).map λk=>b.getD k 0+if k<0 then a.getD k 0 else 0).map W.int:=by
   refine cx λq=>?_;by_cases s:q<b.length
   ·rw[He (by simpa using s),int_at s,DD,g _ q (by lia),Bi (by lia),de];rfl
   ·by_cases j:q<L
    ·rw[Fu (by simpa using s),ml,Bn (by rw[AN];omega),DD,g _ q j,Bi (by lia),AC,FK (by lia)];rfl
    ·rw[FK (by simp;omega),FK (by simp;lia)]
  rw[this]
 ·rintro i w _ N E ⟨o,n,rfl⟩ J;obtain⟨x,p,rfl⟩:=qW E;have y:i<a.length:=by have:=(Fs.mp p).1;simpa using this
  rw[int_at y]at p;cases p;walk_at "vs";have r:i<L:=by rw[←z];exact Fk y (Nat.le_max_right _ _)
  refine⟨rfl,_,b8 (by rw[DD,g _ i r];rfl),?_⟩;walk_at "vs";refine⟨i,gZ (by simpa using r),J _ ⟨some (.int i),some (.int (a.getD i 0)),?_⟩⟩;have:((List.range L).map λk=>b.getD k 0+if k<i then a.getD k 0 else 0).set i (b.getD i 0+(if i<i then a.getD i 0 else 0)+a.getD i 0)=(List.range L).map λk=>b.getD k 0+if k<i+1 then a.getD k 0 else 0:=by
   refine cx λq=>?_;rw[oT];by_cases j:q<L
   ·rw[g _ q j,g _ q j];by_cases e:i=q
    ·subst e;rw[Bn rfl,Bn (by simpa using r),Bi (by lia),Bn (by lia)];congr 1;lia
    ·rw[Bi e];by_cases A:q<i
     ·rw[Bn A,Bn (by lia)]
     ·rw[Bi A,Bi (by lia)]
   ·rw[Bi (by lia),FK (by simp;lia),FK (by simp;lia)]
  rw[←this,dE]
 ·rintro _ ⟨o,n,rfl⟩;have D:(kK (a.map W.int)).length=a.length:=by unfold kK;simp
  rw[D];walk_at "vs";refine⟨_,rfl,λC F=>H C ?_⟩;have:((List.range L).map λk=>b.getD k 0+if k<a.length then a.getD k 0 else 0)=(List.range L).map λk=>b.getD k 0+a.getD k 0:=by
   refine kz λk _=>?_;by_cases h:k<a.length
   ·rw[Bn h]
   ·rw[Bi h,AC (l:=a),FK (by lia)];rfl
  rw[←this];exact F
noncomputable def dS:List CS:=[.ret (.call 0 [(.var 0),(.call 1 [(.var 1),(.neg (.int 1))])])]
noncomputable def ir:cA:=λe Q _=>∃(c a:List Int)(b:Nat),e=[wI c,wI a]/\c.length<=200/\a.length<=200/\b<=100000000/\(∀x∈a,x.natAbs<2^b)/\∀d,gU ((List.range (max c.length a.length)).map λk=>c.getD k 0 -a.getD k 0) d->Q (wI d)
theorem wz{G:Nat->W}{m:Md}(e:List W)(Q:W->Prop)(R:Addr->Prop)(h:ir e Q R):wSs (cN [jg,jf]) G dS (cC m Q R) (aA 2 e):=by
 obtain⟨c,a,b,rfl,i,j,q,d,p⟩:=h;show wSs _ _ dS _ [some (wI c),some (wI a)];unfold dS;walk_at "vs";refine⟨a,-1,rfl,by lia,λx o=>aI (n:=1) (m:=b) (by decide) (d x o) (by lia),?_⟩;refine⟨c,a.map (-1*·),rfl,i,by rw[AN];exact j,λg f=>p g ?_⟩;rw[AN]at f;have:((List.range (max c.length a.length)).map λk=>c.getD k 0+(a.map (-1*·)).getD k 0)=(List.range (max c.length a.length)).map λk=>c.getD k 0 -a.getD k 0:=by
  refine kz λk _=>?_;rw[AC (l:=a.map _),DD,AC (l:=a)];cases a[k]? with
  |none=>show _+(0:Int)=_ -(0:Int);lia
  |some z=>show _+ -1*z=_ -z;lia
 rw[←this];exact f
noncomputable def lS:List CS:=[.set 2 (.int 1),.xD (.cmp .Gt (.var 1) (.int 0)) [.iff (.cmp .Eq (.bin .Mod (.var 1) (.int 2)) (.int 1)) [.set 2 (.bin .Mult (.var 2) (.var 0))] [],.set 1 (.bin .FloorDiv (.var 1) (.int 2)),.iff (.cmp .Gt (.var 1) (.int 0)) [.set 0 (.bin .Mult (.var 0) (.var 0))] []],.ret (.var 2)]
noncomputable def pU:cA:=λa Q _=>∃(x:Int)(e n:Nat),a=[.int x,.int e]/\x.natAbs<2^n/\n*(e+1)<=60000000/\Q (.int (x^e))
theorem abA{x:Int}{n:Nat}(h:x.natAbs<2^n)(e:Nat):(x^e).natAbs<2^(n*e+1):=by rw[Int.natAbs_pow];have:x.natAbs^e<=(2^n)^e:=dC (PQ h) e;rw[←rg]at this;rw[Nat.pow_succ];have:=P2 (n:=n*e) (show 0<2 by decide);lia
theorem LV{u:Nat->cA}{G:Nat->W}{m:Md}(j:List W)(Q:W->Prop)(R:Addr->Prop)(h:pU j Q R):wSs u G lS (cC m Q R) (aA 3 j):=by
 obtain⟨x,e,n,rfl,y,C,B⟩:=h;show wSs _ _ lS _ [some (.int x),some (.int e),none];unfold lS;walk_at "vs";refine jn (α:=Nat×Nat×Nat) (λs=>[some (.int (x^s.1)),some (.int s.2.1),some (.int (x^s.2.2))]) (λs=>s.1*s.2.1+s.2.2=e/\(0<s.2.1->0<s.1)) (λs=>s.2.1) (1,e,0) (by show _=[some (W.int (x^1)),some (W.int (e:Int)),some (W.int (x^0))];rw[Ki,TC,cq]) ⟨by show 1*e+0=e;lia,λ_=>by show 0<1;decide⟩ ?_;rintro⟨a,d,p⟩ ⟨A,k⟩;dsimp only at A k;walk_at "vs";refine dj (λz=>?_) (λz=>?_)
 ·have f:0<d:=by have:=Bz z;lia
  have I:=k f;have c:a<=e:=by have:a*1<=a*d:=GE a f;lia
  have w:p<=e:=by lia
  have t:∀q,q<=e->(x^q).natAbs<2^(n*e+1):=λq g=>Fk (abA y q) (Kk (by decide) (rk (GE n g) 1));have J:n*e<=60000000:=Da (GE n (Nat.le_succ e)) C;have mo:∀q r,q<=e->r<=e->IntMulOk (x^q) (x^r):=λq r D b=>aI (t q D) (t r b) (by lia);have H:(d:Int).fmod 2=((d%2:Nat):Int):=by rw[T1 _ (by decide)];lia
  have F:(d:Int).fdiv 2=((d/2:Nat):Int):=by rw[PP _ (by decide)];lia
  have l:ET (d:Int) 2:=⟨by decide,by decide⟩;walk_at "vs";rw[H,F];refine⟨by decide,?_⟩;have i:a*d=a*(2*(d/2))+a*(d%2):=by rw[←Nat.mul_add,Nat.div_add_mod]
  have E:a*(2*(d/2))=2*a*(d/2):=by rw[kf 2 a,Nat.mul_assoc]
  split
  ·rename_i h
   have h:=Bz h;have o:d%2=1:=by lia
   rw[o,Nat.mul_one]at i;refine⟨mo p a w c,l,?_⟩;split
   ·refine⟨mo a a c c,(2*a,d/2,p+a),?_,⟨?_,λ_=>?_⟩,?_⟩
    ·show[some (W.int (x^a*x^a)),some (W.int ((d/2:Nat):Int)),some (W.int (x^p*x^a))]=[some (W.int (x^(2*a))),some (W.int ((d/2:Nat):Int)),some (W.int (x^(p+a)))];rw[kb,Nat.two_mul,kb]
    ·show 2*a*(d/2)+(p+a)=e;lia
    ·show 0<2*a;lia
    ·show d/2<d;lia
   ·rename_i b
    rw[L9]at b;refine⟨(a,d/2,p+a),?_,⟨?_,λz=>?_⟩,?_⟩
    ·show[some (W.int (x^a)),some (W.int ((d/2:Nat):Int)),some (W.int (x^p*x^a))]=[some (W.int (x^a)),some (W.int ((d/2:Nat):Int)),some (W.int (x^(p+a)))];rw[kb]
    ·show a*(d/2)+(p+a)=e;have v:d/2=0:=by lia
     rw[v]at i E⊢;lia
    ·exact I
    ·show d/2<d;lia
  ·rename_i h
   rw[L9]at h;have o:d%2=0:=by lia
   rw[o,Nat.mul_zero]at i;refine⟨l,?_⟩;split
   ·refine⟨mo a a c c,(2*a,d/2,p),?_,⟨?_,λ_=>?_⟩,?_⟩
    ·show[some (W.int (x^a*x^a)),some (W.int ((d/2:Nat):Int)),some (W.int (x^p))]=[some (W.int (x^(2*a))),some (W.int ((d/2:Nat):Int)),some (W.int (x^p))];rw[Nat.two_mul,kb]
    ·show 2*a*(d/2)+p=e;lia
    ·show 0<2*a;lia
    ·show d/2<d;lia
   ·rename_i b
    rw[L9]at b;lia
 ·have f:d=0:=by have:=Sr z;lia
  subst f;walk_at "vs";have:p=e:=by lia
  rw[this];exact B
noncomputable def tabI(n:Nat)(f:Nat->Int):List Int:=(List.range n).map f
theorem iu{n k:Nat}{f:Nat->Int}(h:k<n):(tabI n f)[k]?=some (f k):=by unfold tabI;rw[DD,Y2 h];rfl
theorem aT(n:Nat)(f:Nat->Int):(tabI n f).length=n:=by unfold tabI;simp
theorem gI{n k:Nat}{f g:Nat->Int}(h:k<n)(b:∀j,j<n->j≠k->g j=f j):(tabI n f).set k (g k)=tabI n g:=by
 refine cx λq=>?_;rw[oT];by_cases a:q<n
 ·rw[iu a,iu a];by_cases e:k=q
  ·subst e;rw[Bn rfl,Bn (by rw[aT];exact h)]
  ·rw[Bi e,b q a (RF e)]
 ·rw[Bi (by lia),FK (by rw[aT];lia),FK (by rw[aT];lia)]
theorem PB{x y:List Int}{Q:W->Prop}(h:∀k:Bool,(k=true↔x=y)->Q (.bl k)):ie .Eq (wI x) (wI y) Q:=by
 have c:∀z:List Int,gj 9 (.lst (z.map W.int))=true:=λz=>by rw[gj,IH];intro w d;obtain⟨i,_,rfl⟩:=Hk.mp d;exact tG i 8
 refine⟨.inl ⟨c x,c y⟩,λk f=>h k (f.trans ⟨λe=>?_,λe=>by rw[e]⟩)⟩;unfold wI at e;rw[W.lst.injEq]at e;exact(tf (λa b e=>W.int.inj e)).mp e
theorem Gi{a:List Int}{i:Nat}{w:W}(h:(kK (a.map W.int))[i]?=some w):i<a.length/\w=.tup [.int i,.int (a.getD i 0)]:=by
 obtain⟨x,b,rfl⟩:=qW h;have c:i<a.length:=by have:=(Fs.mp b).1;simpa using this
 rw[int_at c]at b;cases b;exact⟨c,rfl⟩
theorem BD(a:List Int):(kK (a.map W.int)).length=a.length:=by unfold kK;simp
noncomputable def dU:List CS:=[.iff (.or [(.cmp .Eq (.var 0) (.lst [])),(.cmp .Eq (.var 1) (.lst []))]) [.ret (.lst [])] [],.set 2 (.bin .Mult (.lst [(.int 0)]) (.bin .Sub (.bin .Add (.blt .len [(.var 0)]) (.blt .len [(.var 1)])) (.int 1))),.fr [3,4] false (.y9 (.var 0)) [.iff (.cmp .NotEq (.var 4) (.int 0)) [.fr [5,6] false (.y9 (.var 1)) [.put 2 (.bin .Add (.var 3) (.var 5)) (.bin .Add (.ix (.var 2) (.bin .Add (.var 3) (.var 5))) (.bin .Mult (.var 4) (.var 6)))]] []],.ret (.var 2)]
noncomputable def iy:cA:=λc Q _=>∃a b:List Int,c=[wI a,wI b]/\a.length<=200/\b.length<=200/\(∀x∈a,∀y∈b,IntMulOk x y)/\Q (wI (if a=[]\/b=[]then[]else tabI (a.length+b.length -1) (cf a b a.length)))
theorem wB{D:Nat->cA}{G:Nat->W}{m:Md}(A:List W)(Q:W->Prop)(R:Addr->Prop)(h:iy A Q R):wSs D G dU (cC m Q R) (aA 7 A):=by
 obtain⟨a,b,rfl,S,O,H,l⟩:=h;show wSs _ _ dU _ [some (wI a),some (wI b),none,none,none,none,none];unfold dU;refine aF (λs=>(a≠[]/\b≠[])/\s=[some (wI a),some (wI b),none,none,none,none,none]) (λN r=>?_) ?_
 ·walk_at "vs";refine⟨ai (by simp),PB (y:=[]) λU C=>?_⟩;walk_at "vs";by_cases o:a=[]
  ·cases b9 C o;rw[Bn rfl];rw[Bn (.inl o)]at l;exact⟨ai (by simp),l⟩
  ·cases b7 C o;rw[Bi (by decide)];refine⟨ai (by simp),PB (y:=[]) λT B=>?_⟩;walk_at "vs";by_cases p:b=[]
   ·cases b9 B p;rw[Bn rfl];rw[Bn (.inr p)]at l;exact⟨ai (by simp),l⟩
   ·cases b7 B p;rw[Bi (by decide)];exact r _ ⟨⟨o,p⟩,rfl⟩
 rintro _ ⟨⟨o,p⟩,rfl⟩;rw[Bi (λz=>z.elim o p)]at l;have X:=Dx.mpr o;unfold wI at*;walk_at "vs";have K:((a.map W.int).length:Int)+((b.map W.int).length:Int) -1=((a.length+b.length -1:Nat):Int):=by rw[AN,AN];lia
 rw[K,Int.toNat_natCast,iN];refine⟨ai (by simp),by lia,by lia,ai (by simp;lia),?_⟩;refine bU (λi t=>∃o3 u d c,t=[some (.lst (a.map W.int)),some (.lst (b.map W.int)),some (.lst ((tabI (a.length+b.length -1) (cf a b i)).map W.int)),o3,u,d,c]) ⟨none,none,none,none,?_⟩ ?_ ?_
 ·have:tabI (a.length+b.length -1) (cf a b 0)=List.replicate (a.length+b.length -1) 0:=by unfold tabI;have:cf a b 0=λ_=>0:=rfl;rw[this,List.map_const',Pt]
  rw[this,td]
 ·rintro i w _ N F ⟨o3,u,d,c,rfl⟩ r;obtain⟨J,rfl⟩:=Gi F;walk_at "vs";refine⟨rfl,?_⟩;by_cases z:a.getD i 0=0
  ·rw[Os z];walk_at "vs";refine r _ ⟨some (.int i),some (.int (a.getD i 0)),d,c,?_⟩;rw[show cf a b (i+1)=cf a b i from funext λk=>NK z k]
  ·rw[QR z];walk_at "vs";refine bU (λj t=>∃d c,t=[some (.lst (a.map W.int)),some (.lst (b.map W.int)),some (.lst ((tabI (a.length+b.length -1) (IV a b i j)).map W.int)),some (.int i),some (.int (a.getD i 0)),d,c]) ⟨d,c,?_⟩ ?_ ?_
   ·rw[show IV a b i 0=cf a b i from funext λk=>J6 a b i k]
   ·rintro j w _ Y M ⟨d,c,rfl⟩ L;obtain⟨I,rfl⟩:=Gi M;have v:i+j<a.length+b.length -1:=by lia
    walk_at "vs";rw[show(i:Int)+(j:Int)=((i+j:Nat):Int) by lia];refine⟨rfl,_,b8 (by rw[DD,iu v];rfl),?_⟩;walk_at "vs";refine⟨DT (P:=λx=>IntMulOk x (b.getD j 0)) (λx E=>DT (P:=λy=>IntMulOk x y) (H x E) I) J,i+j,gZ (by rw[AN,aT];exact v),L _ ⟨some (.int j),some (.int (b.getD j 0)),?_⟩⟩;have e:=gI (n:=a.length+b.length -1) (f:=IV a b i j) (g:=IV a b i (j+1)) (k:=i+j) v (λq _ l=>by rw[AG,Bi l,de]);rw[AG,Bn rfl]at e;rw[←e,dE]
   ·rintro _ ⟨d,c,rfl⟩;refine r _ ⟨some (.int i),some (.int (a.getD i 0)),d,c,?_⟩;rw[BD,show IV a b i b.length=cf a b (i+1)from funext λk=>J7 a b i k]
 ·rintro _ ⟨o3,u,d,c,rfl⟩;rw[BD];walk_at "vs";exact l
noncomputable def BE:List CS:=[.par [0,1] [(.blt .abs [(.var 0)]),(.blt .abs [(.var 1)])],.xD (.cmp .Gt (.bits (.var 1)) (.glob 0)) [.par [0,1] [(.var 1),(.bin .Mod (.var 0) (.var 1))],.FJ [0,1] (.call 0 [(.call 1 [(.var 0),(.var 1)]),(.var 0),(.var 1)]),.par [0,1] [(.blt .abs [(.var 0)]),(.blt .abs [(.var 1)])]],.xD (.cmp .NotEq (.var 1) (.int 0)) [.par [0,1] [(.var 1),(.bin .Mod (.var 0) (.var 1))]],.ret (.var 0)]
noncomputable def Il:cA:=λc Q _=>∃(a b:Int)(n:Nat),c=[.int a,.int b]/\b.natAbs<2^n/\n<=6000/\Q (.int (Int.gcd a b:Nat))
theorem Zg{r:Nat->cA}{m:Md}(p:List W)(Q:W->Prop)(R:Addr->Prop)(h:Il p Q R):wSs r (qJ [.int 6000]) BE (cC m Q R) (aA 2 p):=by
 obtain⟨a,b,n,rfl,v,B,t⟩:=h;show wSs _ _ BE _ [some (.int a),some (.int b)];unfold BE;have A:(if a<0 then-a else a)=(a.natAbs:Int):=by split<;>lia
 have w:(if b<0 then-b else b)=(b.natAbs:Int):=by split<;>lia
 have u:Int.gcd (a.natAbs:Int) (b.natAbs:Int)=Int.gcd a b:=rfl;refine aF (λc=>c=[some (.int (a.natAbs:Int)),some (.int (b.natAbs:Int))]) (λN k=>?_) ?_
 ·walk_at "vs";rw[A,w];exact⟨rfl,k _ rfl⟩
 rintro _ rfl;have q:Builtin.Int.intBits (b.natAbs:Int)<=n:=bits_le (by rw[Int.natAbs_natCast];exact v);refine aF (λc=>c=[some (.int (a.natAbs:Int)),some (.int (b.natAbs:Int))]) (λN k=>?_) ?_
 ·rw[wS];refine jn (α:=Unit) (λ_=>[some (.int (a.natAbs:Int)),some (.int (b.natAbs:Int))]) (λ_=>True) (λ_=>0) () rfl trivial ?_;rintro _ _;walk_at "vs";refine dj (λz=>?_) (λ_=>k _ rfl);have:=Bz z;lia
 rintro _ rfl;walk_at "vs";refine jn (α:=Int×Int) (λx=>[some (.int x.1),some (.int x.2)]) (λx=>Int.gcd x.1 x.2=Int.gcd a b/\0<=x.1/\0<=x.2) (λx=>x.2.natAbs) (a.natAbs,b.natAbs) rfl ⟨u,Int.natCast_nonneg _,Int.natCast_nonneg _⟩ ?_;rintro⟨x,y⟩ ⟨i,s,d⟩;dsimp only at i s d;walk_at "vs";refine dj (λj=>?_) (λj=>?_)
 ·have g:y≠0:=by simpa using j
  have o:=oZ x y (x.fdiv y);have l:=qS x y g;have f:=fm (x:=x) (n:=y) (by clear l o g;lia);rw[←Num.fmod_eq]at o l;walk_at "vs";exact⟨g,rfl,(y,x.fmod y),rfl,⟨o.trans i,d,f.1⟩,l⟩
 ·have g:y=0:=by simpa using j
  subst g;walk_at "vs";have e:x=((Int.gcd a b:Nat):Int):=by rw[←i,mf];lia
  rw[e];exact t
noncomputable def iO:List CS:=[.iff (.cmp .Eq (.var 1) (.int 0)) [.HJ] [],.set 2 (.call 0 [(.var 0),(.var 1)]),.iff (.cmp .Lt (.var 1) (.int 0)) [.set 2 (.neg (.var 2))] [],.ret (.tup [(.bin .FloorDiv (.var 0) (.var 2)),(.bin .FloorDiv (.var 1) (.var 2))])]
noncomputable def mV:cA:=λa Q R=>∃(t b:Int)(n:Nat),a=[.int t,.int b]/\b.natAbs<2^n/\n<=6000/\(b=0->False)/\(b≠0->Q (wq (Rat.divInt t b)))
theorem DU{G:Nat->W}{m:Md}(k:List W)(Q:W->Prop)(R:Addr->Prop)(h:mV k Q R):wSs (cN [Il]) G iO (cC m Q R) (aA 3 k):=by
 obtain⟨t,b,n,rfl,j,i,q,a⟩:=h;show wSs _ _ iO _ [some (.int t),some (.int b),none];unfold iO;walk_at "vs";by_cases e:b=0
 ·rw[Bn (Os e)];exact q e
 rw[Bi (by rw[L9];exact e)];have a:=a e;refine⟨t,b,n,rfl,j,i,?_⟩;obtain⟨c,o,l⟩:=uw t b e;have p:((Int.gcd t b:Nat):Int).natAbs<2^n:=by have:((Int.gcd t b:Nat):Int)<=b.natAbs:=bo (by clear l o c;lia) (by rw[Int.dvd_natAbs];exact Re ..);lia
 unfold wq at a;generalize((Int.gcd t b:Nat):Int)=g at*;rw[o,l]at a;by_cases f:b<0
 ·rw[Bn f]at c a;rw[Bn (Os f)];walk_at "vs";have d:=gY (y:= -g) (by lia) (Da i (by decide));exact⟨⟨c,d⟩,⟨c,d⟩,ai (by simp),a⟩
 ·rw[Bi f]at c a;rw[Bi (by rw[L9];exact f)];have d:=gY (y:=g) p (Da i (by decide));exact⟨⟨c,d⟩,⟨c,d⟩,ai (by simp),a⟩
end VL
namespace L2
open PySem
theorem xU{r:Nat}:Builtin.Range.rangeSize ((r:Int) -1) (-1) (-1)=(r:Int):=by
 unfold Builtin.Range.rangeSize;rw[Bi (by decide)];split
 ·show((r:Int) -1 - -1 -1)/1+1=_;lia
 ·lia
theorem DV{r:Nat}(h:r<=1000):Builtin.Range.small ((r:Int) -1) (-1) (-1)=true:=by
 unfold Builtin.Range.small;rw[xU];have f:∀x:Int,-2000<=x->x<=2000->Builtin.Range.rangeFitsLong x=true:=λx b a=>by unfold Builtin.Range.rangeFitsLong;simp;lia
 rw[f _ (by lia) (by lia),f _ (by lia) (by lia),f _ (by lia) (by lia),Bi (by decide),f (-1+(-1+1)) (by decide) (by decide)];simp
end L2
namespace VL
open PySem PySem.Spec
open PyProof.Rows hiding St
open L2 Num
theorem VX{rs:List Rat}{i:Nat}{w:W}(h:(rs.map wq)[i]?=some w):∃x,rs[i]?=some x/\w=wq x:=by
 rw[DD]at h;cases e:rs[i]? with
 |none=>rw[e]at h;cases h
 |some x=>rw[e]at h;cases h;exact⟨x,rfl,rfl⟩
structure Clr(rs:List Rat)(ns:List Int)(B:Int):Prop where
 pos:0<B
 eq:ns=rs.map λx=>x.num*(B/x.den)
 dv:∀x∈rs,(x.den:Int)∣B
noncomputable def jQ:List CS:=[.set 1 (.int 1),.fr [2] true (.var 0) [.set 3 (.ix (.var 2) (.int 1)),.iff (.cmp .NotEq (.bin .Mod (.var 1) (.var 3)) (.int 0)) [.set 1 (.bin .Mult (.bin .FloorDiv (.var 1) (.call 0 [(.var 1),(.var 3)])) (.var 3))] []],.ret (.tup [(.comp [0] true 1 (.var 0) (.bl true) (.bin .Mult (.ix (.var 0) (.int 0)) (.bin .FloorDiv (.var 2) (.ix (.var 0) (.int 1))))),(.var 1)])]
noncomputable def pV:cA:=λc Q _=>∃(a:List Rat)(D:Int)(n k:Nat),c=[af a]/\((∀x∈a,Cd D n x)/\0<D/\D.natAbs<2^k/\k<=6000/\n<=100000/\a.length<=100)/\∀(b:List Int)(B:Int),Clr a b B->B∣D->B.natAbs<2^k->(∀x∈b,x.natAbs<2^n)->Q (.tup [wI b,.int B])
theorem Im{G:Nat->W}{m:Md}(S:List W)(Q:W->Prop)(R:Addr->Prop)(h:pV S Q R):wSs (cN [Il]) G jQ (cC m Q R) (aA 4 S):=by
 obtain⟨o,D,n,k,rfl,⟨F,hD,hDk,hk,hn,hl⟩,hq⟩:=h;have a:∀y:Int,0<y->y∣D->y.natAbs<2^k:=λy I H=>by have:=bo hD H;lia
 show wSs _ _ jQ _ [some (af o),none,none,none];unfold jQ;simp only[wSs,wS,wE,look,List.set];unfold af;walk_at "vs";refine bU (λi Y=>∃B o2 o3,(0<B/\B∣D/\∀j x,j<i->o[j]?=some x->(x.den:Int)∣B)/\Y=[some (.lst (o.map wq)),some (.int B),o2,o3]) ⟨1,none,none,⟨by decide,Int.one_dvd _,λj x h=>by lia⟩,rfl⟩ ?_ ?_
 ·rintro i w _ N hw ⟨B,o2,o3,⟨d,b,v⟩,rfl⟩ hN;obtain⟨x,c,rfl⟩:=VX hw;have u:=KB c;have U:=(F x u).dvd.1;have q:0<(x.den:Int):=by have:=x.den_pos;lia
  have A:=a _ q U;have X:=a _ d b;have f:∀r:Int,0<r->r∣D->B∣r->(x.den:Int)∣r->N [some (.lst (o.map wq)),some (.int r),some (wq x),some (.int x.den)]:=λr I H h3 h4=>
   hN _ ⟨r,_,_,⟨I,H,λj z l hz=>by
    by_cases C:j=i
    ·subst C;rw[c]at hz;cases hz;exact h4
    ·exact Int.dvd_trans (v j z (by lia) hz) h3⟩,rfl⟩
  walk_at "vs";refine⟨_,rfl,?_⟩;walk_at "vs";refine⟨By x,?_⟩;by_cases hz:B.fmod x.den=0
  ·rw[Os hz];walk_at "vs";refine f B d b (Int.dvd_refl _) (Int.dvd_of_fmod_eq_zero hz)
  ·rw[QR hz];walk_at "vs";have hg:((Int.gcd B x.den:Nat):Int)<=x.den:=bo q (Re ..);have s:0<((Int.gcd B x.den:Nat):Int):=by have:0<Int.gcd B x.den:=Int.gcd_pos_of_ne_zero_left _ (by lia);lia
   have t:((Int.gcd B x.den:Nat):Int)∣B:=ag ..;have P:((Int.gcd B x.den:Nat):Int)∣(x.den:Int):=Re ..;have O:=Kf (By x) b U;refine⟨B,x.den,k,rfl,A,hk,?_⟩;generalize((Int.gcd B x.den:Nat):Int)=g at*;have Z:g.natAbs<2^k:=by lia
   have ZY:0<B/g:=tj d (bj s) t;have hqB:B/g<=B:=Int.ediv_le_self _ (bj d);have p:(B/g).natAbs<2^k:=by lia
   walk_at "vs";rw[PP _ (bj s)];refine⟨⟨by lia,gY Z (by lia)⟩,aI p A (by lia),f _ (ui ZY q) O ?_ ⟨B/g,UF _ _⟩⟩;obtain⟨j,l⟩:=P;refine⟨j,?_⟩;rw[l,←SU,sk t]
 ·rintro _ ⟨B,o2,o3,⟨d,b,v⟩,rfl⟩;rw[AN]at v;have J:∀x∈o,(x.den:Int)∣B:=λx c=>by obtain⟨j,l,e⟩:=TK c;exact v j x l (by rw[←e];exact B1 l)
  have X:=a _ d b;have T:∀x∈o,(x.num*(B/x.den)).natAbs<2^n:=λx u=>by
   have E:=J x u;have e:=(F x u).dvd;obtain⟨j,l⟩:=b;have e2:D/x.den=B/x.den*j:=by rw[l];exact Int.mul_ediv_assoc' _ E|>λh=>by rw[←h]
   have j0:j≠0:=λz=>by rw[z,Pi]at l;lia
   refine On ?_ e.2;rw[e2,←SU,Fh (x.num*(B/x.den)) j];exact Wp _ (by lia)
  walk_at "vs";refine cP (h:=wq) (g:=λx=>.int (x.num*(B/x.den))) o [] _ (λx c K hK=>?_) (ai (by simpa using Da hl (by decide))) ?_
  ·have q:0<(x.den:Int):=by have:=x.den_pos;lia
   have A:=a _ q (F x c).dvd.1;have L:=T x c;have q0:0<B/x.den:=tj d (bj q) (J x c);have p:(B/x.den).natAbs<2^k:=by have I:=Int.ediv_le_self (x.den:Int) (bj d);lia
   have M:x.num.natAbs<2^n:=by refine On ?_ L;rw[Fh];exact Wp _ (by lia)
   refine⟨_,rfl,_,rfl,⟨By x,gY A (by lia)⟩,?_⟩;walk_at "vs";rw[PP _ (bj q)];exact⟨aI M p (by lia),hK⟩
  ·refine⟨ai (by simp),?_⟩;have:=hq _ B ⟨d,rfl,J⟩ b X (λz hz=>by obtain⟨x,c,rfl⟩:=Hk.mp hz;exact T x c);unfold wI at this;rw[SZ]at this;exact this
noncomputable def iP:List CS:=[.ret (.comp [0] true 1 (.call 0 [(.var 0)]) (.bl true) (.call 1 [(.var 0),(.var 2)]))]
noncomputable def jR:cA:=λb Q _=>∃(a:List Int)(B:Int)(n:Nat),b=[wI a,.int B]/\(B≠0/\B.natAbs<2^n/\n<=6000/\a.length<=500)/\Q (af (aH (a.map λx=>Rat.divInt x B)))
theorem DW{G:Nat->W}{m:Md}(b:List W)(Q:W->Prop)(R:Addr->Prop)(h:jR b Q R):wSs (cN [gH,mV]) G iP (cC m Q R) (aA 2 b):=by
 obtain⟨d,B,n,rfl,⟨i,p,l,s⟩,a⟩:=h;show wSs _ _ iP _ [some (wI d),some (.int B)];unfold iP;walk_at "vs";refine⟨d,rfl,λf c=>?_⟩;have e:=Kc i c;rw[←e]at a;have j:f.length<=500:=by obtain⟨k,q,rfl,_⟩:=c;rw[du];lia
 unfold wI;walk_at "vs";refine cP (h:=W.int) (g:=λx=>wq (Rat.divInt x B)) f [] _ (λx r K o=>?_) (ai (by simpa using Da j (by decide))) ?_
 ·walk_at "vs";exact⟨x,B,n,rfl,p,l,λz=>absurd z i,λ_=>o⟩
 ·unfold af at a;rw[SZ]at a;exact a
noncomputable def gJ:List CS:=[.set 1 (.int 0),.fr [2] true (.var 0) [.set 1 (.call 0 [(.var 2),(.var 1)]),.iff (.cmp .Eq (.var 1) (.int 1)) [.ret (.tup [(.int 1),(.blt .list [(.var 0)])])] []],.ret (.tup [(.var 1),(.comp [0] true 1 (.var 0) (.bl true) (.bin .FloorDiv (.var 0) (.var 2)))])]
structure Srt(ns:List Int)(c:Int)(ms:List Int):Prop where
 pos:0<c
 dv:∀x∈ns,c∣x
 all:∀d:Int,(∀x∈ns,d∣x)->d∣c
 eq:ms=ns.map (·/c)
noncomputable def gr:cA:=λd Q _=>∃(a:List Int)(n:Nat),d=[wI a]/\((∃x∈a,x≠0)/\a.length<=500/\n<=6000/\∀x∈a,x.natAbs<2^n)/\∀c b,Srt a c b->c.natAbs<2^n->Q (.tup [.int c,wI b])
theorem BF{G:Nat->W}{m:Md}(u:List W)(Q:W->Prop)(R:Addr->Prop)(h:gr u Q R):wSs (cN [Il]) G gJ (cC m Q R) (aA 3 u):=by
 obtain⟨a,n,rfl,⟨⟨I,o,J⟩,q,L,M⟩,y⟩:=h;show wSs _ _ gJ _ [some (wI a),none,none];unfold gJ;simp only[wSs,wS,wE,look,List.set];unfold wI at*;walk_at "vs";refine bU (λi H=>∃(c:Int)(o2:Option W),(0<=c/\(∀j,j<i->j<a.length->c∣a.getD j 0)/\(∀d:Int,(∀x∈a,d∣x)->d∣c)/\c.natAbs<2^n)/\H=[some (.lst (a.map W.int)),some (.int c),o2]) ⟨0,none,⟨by decide,λj h=>by lia,λd _=>Y1 d,P2 (by decide)⟩,rfl⟩ ?_ ?_
 ·rintro i w _ N p ⟨c,o2,⟨t,f,r,l⟩,rfl⟩ O;have B:i<a.length:=by have:=(Fs.mp p).1;simpa using this
  rw[int_at B]at p;cases p;have A:a.getD i 0∈a:=Sub.getD_mem' B;walk_at "vs";refine⟨a.getD i 0,c,n,rfl,l,L,?_⟩;have S:((Int.gcd (a.getD i 0) c:Nat):Int)∣a.getD i 0:=ag ..;have E:((Int.gcd (a.getD i 0) c:Nat):Int)∣c:=Re ..;have D:∀d:Int,(∀x∈a,d∣x)->d∣((Int.gcd (a.getD i 0) c:Nat):Int):=λd h=>Int.dvd_coe_gcd (h _ A) (r d h);have C:((Int.gcd (a.getD i 0) c:Nat):Int).natAbs<2^n:=by
   rcases Int.lt_or_eq_of_le t with s|s
   ·have:=bo s E;lia
   ·rw[←s,mf];have:=M _ A;lia
  have T:0<=((Int.gcd (a.getD i 0) c:Nat):Int):=by lia
  generalize((Int.gcd (a.getD i 0) c:Nat):Int)=g at*;have k:∀j,j<i+1->j<a.length->g∣a.getD j 0:=λj b q=>by
   by_cases e:j=i
   ·subst e;exact S
   ·exact Int.dvd_trans E (f j (by lia) q)
  walk_at "vs";by_cases e:g=1
  ·rw[Os e];walk_at "vs";subst e;have:=y 1 a ⟨by decide,λx _=>Int.one_dvd x,D,by simp⟩ C;exact⟨ai (by simp),this⟩
  ·rw[QR e];walk_at "vs";exact O _ ⟨g,_,⟨T,k,D,C⟩,rfl⟩
 ·rintro _ ⟨c,o2,⟨t,f,r,l⟩,rfl⟩;rw[AN]at f;have k:∀x∈a,c∣x:=λx v=>by obtain⟨j,b,e⟩:=TK v;have:=f j b b;rw[AC,B1 b]at this;rw[←e];exact this
  have F:0<c:=by
   rcases Int.lt_or_eq_of_le t with z|z
   ·exact z
   ·have:=k I o;rw[←z,Int.zero_dvd]at this;exact absurd this J
  walk_at "vs";refine cP (h:=W.int) (g:=λx=>.int (x/c)) a [] _ (λx v K P=>?_) (ai (by simpa using Da q (by decide))) ?_
  ·walk_at "vs";rw[PP _ (bj F)];exact⟨⟨by lia,gY l (by lia)⟩,P⟩
  ·refine⟨ai (by simp),?_⟩;have:=y c _ ⟨F,k,r,rfl⟩ l;rw[SZ]at this;exact this
noncomputable def gK:List CS:=[.FJ [1,2] (.call 0 [(.var 0)]),.FJ [3,1] (.call 1 [(.var 1)]),.ret (.tup [(.var 1),(.var 2),(.var 3)])]
structure Prim(rs:List Rat)(ms:List Int)(B c:Int):Prop where
 bpos:0<B
 cpos:0<c
 len:ms.length=rs.length
 at_:∀i,(ms.getD i 0:Rat)*c=rs.getD i 0*B
 one:∀d:Int,(∀x∈ms,d∣x)->d∣1
noncomputable def iQ:cA:=λd Q _=>∃(a:List Rat)(D:Int)(n k:Nat),d=[af a]/\((∃x∈a,x≠0)/\(∀x∈a,Cd D n x)/\0<D/\D.natAbs<2^k/\k<=6000/\n<=6000/\a.length<=100)/\∀(b:List Int)(B c:Int),Prim a b B c->B.natAbs<2^k->c.natAbs<2^n->(∀x∈b,x.natAbs<2^n)->Q (.tup [wI b,.int B,.int c])
theorem xV{α:Type}{l:List α}{f:α->Int}{i:Nat}{x:α}(h:l[i]?=some x):(l.map f).getD i 0=f x:=by rw[AC,DD,h];rfl
theorem PC{rs:List Rat}{ns b:List Int}{B c:Int}(f:Clr rs ns B)(a:Srt ns c b):Prim rs b B c:=by
 have o:ns.length=rs.length:=by rw[f.eq,AN]
 have n:b.length=rs.length:=by rw[a.eq,AN,o]
 refine⟨f.pos,a.pos,n,λi=>?_,λd q=>?_⟩
 ·by_cases p:i<rs.length
  ·have j:=B1 p;have u:ns.getD i 0=rs[i].num*(B/rs[i].den):=by rw[f.eq];exact xV j
   have k:ns[i]?=some (ns.getD i 0):=by rw[AC,B1 (by lia)];rfl
   have t:b.getD i 0=ns.getD i 0/c:=by rw[a.eq];exact xV k
   have v:=a.dv _ (KB k);have:b.getD i 0*c=ns.getD i 0:=by rw[t];exact sk v
   have s:((b.getD i 0:Int):Rat)*(c:Rat)=((ns.getD i 0:Int):Rat):=by rw[←this,FM]
   rw[s,u];have r:rs.getD i 0=rs[i]:=by rw[AC,j];rfl
   rw[r];exact jD (f.dv _ (Qr _))
  ·have m:b.getD i 0=0:=by rw[AC,FK (by lia)];rfl
   have l:rs.getD i 0=0:=by rw[AC,FK (by lia)];rfl
   rw[m,l];show((0:Int):Rat)*_=0*_;grind
 ·have:=a.all (d*c) λx h=>by have e:=q (x/c) (by rw[a.eq];exact Hk.mpr ⟨x,h,rfl⟩);obtain⟨y,g⟩:=e;refine⟨y,?_⟩;rw[←sk (a.dv x h),g];grind
  obtain⟨y,g⟩:=this;refine⟨y,?_⟩;have w:=a.pos;have:c*1=c*(d*y):=by rw[dq];rw[UF c,SU,UF y c,←SU];exact g
  exact SB (by lia) this
theorem BG{G:Nat->W}{m:Md}(i:List W)(Q:W->Prop)(R:Addr->Prop)(h:iQ i Q R):wSs (cN [pV,gr]) G gK (cC m Q R) (aA 4 i):=by
 obtain⟨f,D,n,k,rfl,⟨⟨a,b,q⟩,A,C,g,w,u,v⟩,t⟩:=h;show wSs _ _ gK _ [some (af f),none,none,none];unfold gK;walk_at "vs";refine⟨f,D,n,k,rfl,⟨A,C,g,w,by lia,v⟩,λj B e J H p=>?_⟩;refine⟨rfl,?_⟩;walk_at "vs";have I:j.length=f.length:=by rw[e.eq,AN]
 refine⟨j,n,rfl,⟨⟨a.num*(B/a.den),by rw[e.eq];exact Hk.mpr ⟨a,b,rfl⟩,?_⟩,by lia,u,p⟩,λc r o F=>?_⟩
 ·have d:=e.dv a b;have E:0<(a.den:Int):=by have:=a.den_pos;lia
  have:0<B/a.den:=tj e.pos (bj E) d;exact PH (λz=>q (Rat.num_eq_zero.mp z)) (by lia)
 ·refine⟨rfl,?_⟩;walk_at "vs";refine⟨ai (by simp),t r B c (PC e o) H F λx l=>?_⟩;rw[o.eq]at l;obtain⟨y,s,rfl⟩:=Hk.mp l;have:=tq y c;have:=p y s;lia
noncomputable def dW:List CS:=[.iff (.cmp .Eq (.var 2) (.int 0)) [.ret (.var 0)] [],.ret (.bin .FloorDiv (.call 0 [(.var 1),(.var 2)]) (.call 0 [(.var 0),(.bin .Sub (.var 2) (.int 1))]))]
noncomputable def iz:cA:=λb Q _=>∃(h l:Int)(a n:Nat),b=[.int h,.int l,.int a]/\(h.natAbs<2^n/\l.natAbs<2^n/\n*(a+1)<=60000000/\(0<a->h^(a -1)≠0/\(h^(a -1)).natAbs.log2<1000000000))/\Q (.int (Sub.hnext h l a))
theorem wC{G:Nat->W}{m:Md}(c:List W)(Q:W->Prop)(R:Addr->Prop)(h:iz c Q R):wSs (cN [pU]) G dW (cC m Q R) (aA 3 c):=by
 obtain⟨h,l,a,n,rfl,⟨k,j,d,f⟩,b⟩:=h;show wSs _ _ dW _ [some (.int h),some (.int l),some (.int a)];unfold dW;walk_at "vs";by_cases z:(a:Int)=0
 ·rw[Os z];walk_at "vs";have e:Sub.hnext h l a=h:=by unfold Sub.hnext;rw[Bn (by lia)]
  rw[e]at b;exact b
 ·rw[QR z];walk_at "vs";obtain⟨i,g⟩:=f (by lia);have e:Sub.hnext h l a=(l^a).fdiv (h^(a -1)):=by unfold Sub.hnext;rw[Bi (by lia)]
  rw[e]at b;refine⟨l,a,n,rfl,j,d,?_⟩;rw[show(a:Int) -1=((a -1:Nat):Int) by lia];refine⟨h,a -1,n,rfl,k,Da (GE _ (by lia)) d,?_⟩;walk_at "vs";exact⟨⟨i,g⟩,b⟩
theorem c7{x:Nat}{n m:Nat}(h:x<2^n)(a:n<=m):x<2^m:=Fk h (Kk (by decide) a)
theorem BH{a b:Int}{n:Nat}(d:a.natAbs<n)(c:b.natAbs<n):(a -b).natAbs<2*n:=by have:=Int.natAbs_sub_le a b;lia
theorem abF{p i:Nat}(h:p<i):i -p=(i -(p+1))+1:=by lia
theorem jq{ns:List Int}{n:Nat}(h:∀x∈ns,x.natAbs<2^n)(k:Nat):(ns.getD k 0).natAbs<2^n:=by
 by_cases a:k<ns.length
 ·rw[AC,B1 a];exact h _ (Qr a)
 ·rw[outI (by lia)];exact P2 (by decide)
theorem pW{ns:List Int}(h:0<ns.length):m9 (ns.map W.int) (-1)=some (.int (ns.getD (ns.length -1) 0)):=by refine xT ?_;rw[Ha,AN,int_at (by omega)]
theorem lT{n k:Nat}{f:Nat->Int}(h:k<n):(tabI n f).getD k 0=f k:=by rw[AC,iu h];rfl
theorem zH(n:Nat)(f:Nat->Int)(k:Nat):(tabI n f).getD k 0=if k<n then f k else 0:=by
 by_cases h:k<n
 ·rw[Bn h,lT h]
 ·rw[Bi h];exact outI (by rw[aT];lia)
theorem lU{n:Nat}{f:Nat->Int}{x:Int}(h:x∈tabI n f):∃k,k<n/\x=f k:=by unfold tabI at h;obtain⟨k,a,rfl⟩:=Hk.mp h;exact⟨k,cm.mp a,rfl⟩
theorem jS{n:Nat}{f g:Nat->Int}(h:∀k,k<n->f k=g k):tabI n f=tabI n g:=by unfold tabI;exact kz λk a=>h k (cm.mp a)
theorem uY(n:Nat)(x:Int):List.replicate n (W.int x)=(tabI n λ_=>x).map W.int:=by unfold tabI;rw[List.map_const',Pt,td]
theorem mW{n:Nat}(ns:List Int)(h:ns.length=n):ns=tabI n λk=>ns.getD k 0:=by
 refine cx λj=>?_;by_cases a:j<n
 ·rw[iu a,AC,B1 (by lia)];rfl
 ·rw[FK (by lia),FK (by rw[aT];lia)]
theorem zI{r n s:Nat}{w:W}(h:(jK ((r:Int) -1) (-1) n)[s]?=some w):s<n/\w=.int ((r:Int) -1 -s):=by unfold jK at h;rw[DD]at h;obtain⟨j,e,rfl⟩:=Oy.mp h;obtain⟨b,a⟩:=Fs.mp e;rw[List.getElem_range]at a;rw[Pt]at b;refine⟨b,?_⟩;rw[←a];congr 1;lia
theorem DX(a st:Int)(n:Nat):(jK a st n).length=n:=by unfold jK;simp
theorem rm{r:Nat}{Q:List W->Prop}(h:r<=1000)(q:Q (jK ((r:Int) -1) (-1) r)):K0 [.int ((r:Int) -1),.int (-1),.int (-1)] Q:=
 ⟨r,⟨by decide,by decide,DV h,xU⟩,q⟩
theorem zJ{R:List Int}(h:0<R.length):∃a x,R=a++[x]:=
 ⟨R.dropLast,R.getLast (λz=>by rw[z]at h;cases h),(dA _).symm⟩
theorem pop_at{a:List Int}{x:Int}:((a++[x]).map W.int)[((a++[x]).map W.int).length -1]?=some (.int x):=by simp
theorem DY{a:List Int}{x:Int}:((a++[x]).map W.int).dropLast=a.map W.int:=by simp
noncomputable def cS:List CS:=[.set 2 (.blt .max2 [(.bin .Add (.bin .Sub (.blt .len [(.var 0)]) (.blt .len [(.var 1)])) (.int 1)),(.int 0)]),.set 3 (.ix (.var 1) (.neg (.int 1))),.set 4 (.blt .list [(.var 0)]),.set 5 (.bin .Mult (.lst [(.int 0)]) (.var 2)),.fr [6] true (.oO [(.bin .Sub (.var 2) (.int 1)),(.neg (.int 1)),(.neg (.int 1))]) [.A3 7 (.pop 4),.put 5 (.var 6) (.var 7),.set 4 (.call 0 [(.var 4),(.var 3)]),.fr [8] true (.oO [(.bin .Sub (.blt .len [(.var 1)]) (.int 1))]) [.put 4 (.bin .Add (.var 6) (.var 8)) (.bin .Sub (.ix (.var 4) (.bin .Add (.var 6) (.var 8))) (.bin .Mult (.var 7) (.ix (.var 1) (.var 8))))]],.set 9 (.int 1),.fr [6] true (.oO [(.var 2)]) [.put 5 (.var 6) (.bin .Mult (.ix (.var 5) (.var 6)) (.var 9)),.set 9 (.bin .Mult (.var 9) (.var 3))],.ret (.tup [(.var 5),(.call 1 [(.var 4)]),(.var 9)])]
structure VY(ns ms:List Int)(N M:Nat)(Qs R:List Int):Prop where
 Zh:Qs.length=ns.length+1 -ms.length
 Zi:R.length<ms.length
 eq:∀k,(ms.getD (ms.length -1) 0)^(ns.length+1 -ms.length)*ns.getD k 0=bz (λi=>Qs.getD i 0) (λi=>ms.getD i 0) k+R.getD k 0
 bQ:∀x∈Qs,x.natAbs<2^(N+(ns.length+1 -ms.length)*(M+1))
 bR:∀x∈R,x.natAbs<2^(N+(ns.length+1 -ms.length)*(M+1))
 last:R=[]\/R.getD (R.length -1) 0≠0
noncomputable def fK:cA:=λd Q _=>∃(b a:List Int)(N M:Nat),d=[wI b,wI a]/\(0<a.length/\b.length<=100/\a.length<=100/\(∀x∈b,x.natAbs<2^N)/\(∀x∈a,x.natAbs<2^M)/\N+101*(M+1)<=1000000)/\
 ∀c R:List Int,VY b a N M c R->Q (.tup [wI c,wI R,.int ((a.getD (a.length -1) 0)^(b.length+1 -a.length))])
theorem sH{G:Nat->W}{m:Md}(ws:List W)(Q:W->Prop)(R:Addr->Prop)(h:fK ws Q R):wSs (cN [jf,gH]) G cS (cC m Q R) (aA 10 ws):=by
 obtain⟨u,b,N,M,rfl,⟨lm,la,lb,bn,bm,hNM⟩,q⟩:=h;show wSs _ _ cS _ [some (wI u),some (wI b),none,none,none,none,none,none,none,none];unfold cS wI;walk_at "vs";have eR:(if(0:Int)>((u.map W.int).length:Int) -((b.map W.int).length:Int)+1 then(0:Int)else((u.map W.int).length:Int) -((b.map W.int).length:Int)+1)=((u.length+1 -b.length:Nat):Int):=by rw[AN,AN];split<;>lia
 have Z:=jq bm (b.length -1);have eL:=pW lm;have o:∀s,s<=u.length+1 -b.length->s*(M+1)<=101*(M+1):=λs r=>P3 _ (by lia);rw[eR];have VZ:(b.map W.int).length=b.length:=AN _;generalize hl:b.getD (b.length -1) 0=l at*;generalize S:u.length+1 -b.length=a at*;refine⟨_,eL,?_⟩;walk_at "vs";rw[Int.toNat_natCast,iN,uY];refine⟨ai (by simp),by lia,by lia,ai (by simp;lia),?_⟩;refine rm (by lia) ?_;walk_at "vs";refine bU (λs P=>∃(R:List Int)(r H:Nat->Int)(I v7 B:Option W),(Dh u b l s H R/\R.length=u.length -s/\(∀x∈R,x.natAbs<2^(N+s*(M+1)))/\(∀i,i<a->a -s<=i->H i=r i*l^(i -(a -s))/\(r i).natAbs<2^(N+(a -1 -i)*(M+1)))/\(∀i,(i<a -s\/a<=i)->H i=0))/\P=[some (.lst (u.map W.int)),some (.lst (b.map W.int)),some (.int a),some (.int l),some (.lst (R.map W.int)),some (.lst ((tabI a r).map W.int)),I,v7,B,none]) ⟨u,λ_=>0,λ_=>0,none,none,none,⟨Dh.start u b l,by lia,λx hx=>by rw[t4];exact bn x hx,λi h1 h2=>by lia,λ_ _=>rfl⟩,rfl⟩ ?_ ?_
 ·rintro s w _ N1 hw ⟨R,L,H,I,v7,B,⟨O,lR,Y,D,hz⟩,rfl⟩ oK;obtain⟨r,rfl⟩:=zI hw;have hp:((a:Nat):Int) -1 -(s:Int)=((a -1 -s:Nat):Int):=by lia
  rw[hp];generalize hpp:a -1 -s=p at*;have J:a=p+s+1:=by lia
  obtain⟨d,A⟩:∃d,b.length=d+1:=⟨_,(vb lm).symm⟩;have hn:u.length=p+d+(s+1):=by lia
  have bs:=o s (PQ r);have T:=o (s+1) r;clear hpp hp S;have r2:a -s=p+1:=by rw[J,i5,GM]
  have r1:a -(s+1)=p:=by rw[J];exact GM p (s+1)
  have e1:p+b.length -1=p+d:=by rw[A];rfl
  have Io:R.length=p+b.length:=by rw[lR,hn,A,←pj,i5,GM];rfl
  obtain⟨c,x,rfl⟩:=zJ (R:=R) (by rw[Io,A];exact Nat.succ_pos _);have AQ:c.length=p+d:=by rw[Ee,A]at Io;exact w8 Io
  have ex:(c++[x]).getD (p+d) 0=x:=by rw[AC,Fu (hV AQ),AQ,ei];rfl
  have eg:∀k,k<p+d->(c++[x]).getD k 0=c.getD k 0:=λk v=>by rw[AC,He (by rw[AQ];exact v),←AC]
  have bx:x.natAbs<2^(N+s*(M+1)):=Y x (Hn _ (Fn.mpr rfl));have X:∀y∈c,y.natAbs<2^(N+s*(M+1)):=λy C=>Y y (X1 _ C);walk_at "vs";refine⟨_,pop_at,?_⟩;rw[DY];walk_at "vs";refine⟨p,gZ (by rw[AN,aT,J];exact iq (T2 _ _)),?_⟩;have et:=gI (n:=a) (f:=L) (g:=λk=>if k=p then x else L k) (k:=p) (by rw[J];exact iq (T2 _ _)) (λj _ hj=>Bi hj);rw[Bn rfl]at et;rw[←dE,et];refine⟨c,l,rfl,by lia,λy C=>aI Z (X y C) (by lia),?_⟩;have em:(c.map λy=>l*y)=tabI (p+d) λk=>l*c.getD k 0:=by
   conv=>lhs;rw[mW c AQ]
   unfold tabI;rw[SZ];rfl
  rw[em];unfold wI;walk_at "vs";rw[VZ];refine⟨by lia,by lia,?_⟩;rw[show((b.length:Int) -1).toNat=d by rw[A];lia];refine bU (λj P=>∃(B:Option W),P=[some (.lst (u.map W.int)),some (.lst (b.map W.int)),some (.int a),some (.int l),some (.lst ((tabI (p+d) λk=>if p<=k/\k<p+j then l*c.getD k 0 -x*b.getD (k -p) 0 else l*c.getD k 0).map W.int)),some (.lst ((tabI a λk=>if k=p then x else L k).map W.int)),some (.int p),some (.int x),B,none]) ⟨B,?_⟩ ?_ ?_
  ·rw[jS (n:=p+d) (f:=λk=>if p<=k/\k<p+0 then l*c.getD k 0 -x*b.getD (k -p) 0 else l*c.getD k 0) λk _=>Bi (show¬(p<=k/\k<p+0)from λz=>OK _ (Fk z.2 z.1))]
  ·rintro j w _ N2 Ak ⟨B,rfl⟩ CA;obtain⟨hj,rfl⟩:=oJ Ak;have ix:p+j<p+d:=Nat.add_lt_add_left hj p;walk_at "vs";rw[show(p:Int)+(j:Int)=((p+j:Nat):Int) by lia];refine⟨_,b8 (by rw[DD,iu ix];rfl),?_⟩;rw[Bi (show¬(p<=p+j/\p+j<p+j)from λz=>OK _ z.2)];refine⟨_,b8 (int_at (by rw[A];exact Ta hj)),?_⟩;walk_at "vs";refine⟨aI bx (jq bm j) (by lia),p+j,gZ (by rw[AN,aT];exact ix),CA _ ⟨some (.int j),?_⟩⟩;have e:=gI (n:=p+d) (f:=λk=>if p<=k/\k<p+j then l*c.getD k 0 -x*b.getD (k -p) 0 else l*c.getD k 0) (g:=λk=>if p<=k/\k<p+(j+1)then l*c.getD k 0 -x*b.getD (k -p) 0 else l*c.getD k 0) ix (λk _ v=>by
    by_cases t:p<=k/\k<p+j
    ·rw[Bn t,Bn ⟨t.1,Ta t.2⟩]
    ·rw[Bi t,Bi λz=>t ⟨z.1,eJ (Nat.le_of_lt_succ z.2) v⟩])
   rw[Bn ⟨T2 _ _,OF _⟩,Pl]at e;rw[←e,dE]
  ·rintro _ ⟨B,rfl⟩;rw[DX];refine oK _ ⟨_,λk=>if k=p then x else L k,λi=>l*H i+if i=p then(c++[x]).getD (p+b.length -1) 0 else 0,_,_,_,⟨O.step lm hl.symm Io (R':=tabI (p+d) λk=>if p<=k/\k<p+d then l*c.getD k 0 -x*b.getD (k -p) 0 else l*c.getD k 0) (by rw[aT,e1]) (λk v=>?_),by rw[aT,hn,GM],λy C=>?_,λi h1 h2=>?_,λi h=>?_⟩,rfl⟩
   ·rw[e1]at v;rw[lT v,e1,ex,eg k v];by_cases E:p<=k
    ·rw[Bn ⟨E,v⟩,Bn E]
    ·rw[Bi λz=>E z.1,Bi E,oa]
   ·obtain⟨k,v,rfl⟩:=lU C;have c1:(l*c.getD k 0).natAbs<2^(M+(N+s*(M+1))):=by rw[Fh];exact lt_mul Z (jq X k)
    have c2:(x*b.getD (k -p) 0).natAbs<2^(M+(N+s*(M+1))):=by rw[Fh,kf];exact lt_mul (jq bm _) bx
    have c3:2^(N+(s+1)*(M+1))=2*2^(M+(N+s*(M+1))):=by rw[ub,Nat.one_mul,show N+(s*(M+1)+(M+1))=(M+(N+s*(M+1)))+1 by lia,Nat.pow_succ];lia
    rw[c3];split
    ·exact BH c1 c2
    ·exact Fk c1 (wb _ (by decide))
   ·show l*H i+(if i=p then _ else 0)=(if i=p then x else L i)*l^(i -(a -(s+1)))/\(if i=p then x else L i).natAbs<_;rw[r1]at h2⊢;rw[r2]at D hz;by_cases K:i=p
    ·rw[Bn K,Bn K,hz i (.inl (by rw[K];exact OF p)),e1,ex,K,ei,TC];refine⟨by rw[Pi,t5,dq],?_⟩;rw[show a -1 -p=s by rw[J];exact Pl p s];exact bx
    ·have pi:=eJ h2 (RF K);have hh:=D i h1 pi;rw[Bi K,Bi K,hh.1,abF pi,Ki];exact⟨by grind,hh.2⟩
   ·show l*H i+(if i=p then _ else 0)=0;rw[r1,J]at h;rw[Bi (by clear O D hz bs T;lia),hz i (by rw[r2,J];clear O D hz bs T;lia),Pi];rfl
 ·rintro _ ⟨R,r,H,I,v7,B,⟨O,lR,Y,D,hz⟩,rfl⟩;rw[DX]at O lR Y D hz;have brr:=o a (by lia);walk_at "vs";refine⟨by lia,by lia,?_⟩;rw[Int.toNat_natCast];refine bU (λj P=>∃(I:Option W),P=[some (.lst (u.map W.int)),some (.lst (b.map W.int)),some (.int a),some (.int l),some (.lst (R.map W.int)),some (.lst ((tabI a λk=>if k<j then r k*l^k else r k).map W.int)),I,v7,B,some (.int (l^j))]) ⟨I,?_⟩ ?_ ?_
  ·rw[TC,jS (n:=a) (f:=λk=>if k<0 then r k*l^k else r k) λk _=>Bi (Nat.not_lt_zero k)]
  ·rintro j w _ N2 Ak ⟨I,rfl⟩ CA;obtain⟨F,rfl⟩:=oJ Ak;have bh:=(D j F (by lia)).2;have bp:=Kg (i:=j) Z;have U:(l^j).natAbs<2^(M*j+1):=by
    have:2^(M*j+1)=2*2^(M*j):=by rw[Nat.pow_succ];lia
    have:0<2^(M*j):=P2 (by decide);lia
   have k1:=o (a -1 -j) (by lia);have k2:M*j<=M*101:=GE _ (by lia);walk_at "vs";refine⟨_,b8 (by rw[DD,iu F];rfl),?_⟩;rw[Bi (OK j)];walk_at "vs";refine⟨aI bh U (by lia),j,gZ (by rw[AN,aT];exact F),aI U Z (by lia),?_⟩;have e:=gI (n:=a) (f:=λk=>if k<j then r k*l^k else r k) (g:=λk=>if k<j+1 then r k*l^k else r k) F (λk _ v=>by
    by_cases t:k<j
    ·rw[Bn t,Bn (by lia)]
    ·rw[Bi t,Bi (by lia)])
   rw[Bn (OF j)]at e;rw[←dE,e];refine CA _ ⟨some (.int j),?_⟩;rw[Ki]
  ·rintro _ ⟨I,rfl⟩;rw[DX];walk_at "vs";refine⟨R,rfl,λts tr=>?_⟩;refine⟨ai (by simp),?_⟩;have tl:=pB tr;have eqf:∀i,H i=(tabI a λk=>if k<a then r k*l^k else r k).getD i 0:=λi=>by
    rw[zH];by_cases hi:i<a
    ·rw[Bn hi,Bn hi,(D i hi (by lia)).1,show i -(a -a)=i by lia]
    ·rw[Bi hi,hz i (by lia)]
   refine q _ ts ⟨?_,by lia,λk=>?_,λy C=>?_,λy C=>?_,tr.last⟩
   ·rw[aT,S]
   ·rw[S,hl,O k,sX tr];congr 2;exact funext eqf
   ·obtain⟨k,v,rfl⟩:=lU C;rw[Bn v,Fh,S];refine c7 (NQ (D k v (by lia)).2 (Kg (i:=k) Z)) ?_;have e:a*(M+1)=(a -1 -k)*(M+1)+(k+1)*(M+1):=by rw[←ub,show a -1 -k+(k+1)=a by lia]
    have e2:M*k<=(k+1)*(M+1):=by rw[kf];exact eI (by lia) (by lia)
    lia
   ·rw[S];exact Y y (tr.mem y C)
end VL
namespace L2
open PySem
end L2
namespace VL
open PySem PySem.Spec
open PyProof.Rows hiding St
open L2 Num
theorem LW(as bs:List Int)(i k:Nat):cf as bs (i+1) k=cf as bs i k+as.getD i 0*(if i<=k then bs.getD (k -i) 0 else 0):=by rw[AH,AH,sm]
noncomputable def fL:List CS:=[.set 2 (.bin .Add (.bin .Sub (.blt .len [(.var 0)]) (.blt .len [(.var 1)])) (.int 1)),.set 3 (.blt .list [(.var 0)]),.set 4 (.bin .Mult (.lst [(.int 0)]) (.var 2)),.fr [5] true (.oO [(.bin .Sub (.var 2) (.int 1)),(.neg (.int 1)),(.neg (.int 1))]) [.A3 6 (.bin .FloorDiv (.pop 3) (.ix (.var 1) (.neg (.int 1)))),.put 4 (.var 5) (.var 6),.fr [7] true (.oO [(.bin .Sub (.blt .len [(.var 1)]) (.int 1))]) [.put 3 (.bin .Add (.var 5) (.var 7)) (.bin .Sub (.ix (.var 3) (.bin .Add (.var 5) (.var 7))) (.bin .Mult (.var 6) (.ix (.var 1) (.var 7))))]],.ret (.var 4)]
noncomputable def gM:cA:=λc Q _=>∃(b a Z:List Int)(N:Nat),c=[wI b,wI a]/\(0<a.length/\0<Z.length/\b.length<=100/\b.length+1=Z.length+a.length/\(∀k,b.getD k 0=cf Z a Z.length k)/\a.getD (a.length -1) 0≠0/\N<=8000/\(∀x∈a,x.natAbs<2^N)/\∀x∈Z,x.natAbs<2^N)/\Q (wI Z)
theorem zK{Φ:Nat->cA}{G:Nat->W}{m:Md}(X:List W)(Q:W->Prop)(R:Addr->Prop)(h:gM X Q R):wSs Φ G fL (cC m Q R) (aA 8 X):=by
 obtain⟨r,b,Z,N,rfl,⟨Y,lw,ln,lnm,hW,Zj,hN,bm,bW⟩,q⟩:=h;show wSs _ _ fL _ [some (wI r),some (wI b),none,none,none,none,none,none];unfold fL wI;unfold wI at q;have eL:=pW Y;have bL:=jq bm (b.length -1);have VZ:(b.map W.int).length=b.length:=AN _;walk_at "vs";rw[AN,VZ,show(r.length:Int) -(b.length:Int)+1=((Z.length:Nat):Int) by lia];generalize g7:Z.length=a at*;rw[Int.toNat_natCast,iN,uY];refine⟨ai (by simp),by lia,by lia,ai (by simp;lia),?_⟩;refine rm (by lia) ?_;walk_at "vs";refine bU (λs I=>∃(R:List Int)(K J y:Option W),(R.length=r.length -s/\(∀k,k<r.length -s->R.getD k 0=cf Z b (a -s) k))/\I=[some (.lst (r.map W.int)),some (.lst (b.map W.int)),some (.int a),some (.lst (R.map W.int)),some (.lst ((tabI a λk=>if a -s<=k then Z.getD k 0 else 0).map W.int)),K,J,y]) ⟨r,none,none,none,⟨rfl,λk _=>by rw[hW k];rfl⟩,?_⟩ ?_ ?_
 ·rw[jS (n:=a) (f:=λk=>if a -0<=k then Z.getD k 0 else 0) (g:=λ_=>0) λk u=>(Bi (show¬a -0<=k by lia))]
 ·rintro s w _ N1 hw ⟨R,K,J,y,⟨lR,P⟩,rfl⟩ oK;obtain⟨hs,rfl⟩:=zI hw;have C:((a:Nat):Int) -1 -(s:Int)=((a -1 -s:Nat):Int):=by lia
  rw[C];generalize M:a -1 -s=p at*;have E:a=p+s+1:=by lia
  obtain⟨d,i⟩:∃d,b.length=d+1:=⟨_,(vb Y).symm⟩;have O:r.length=p+d+(s+1):=by lia
  clear M C;have A:r.length -s=p+d+1:=by rw[O,ey s 1,←pj,GM]
  have T:R.length=p+b.length:=by rw[lR,A,i];rfl
  have U:a -s=p+1:=by rw[E,i5,GM]
  have B:a -(s+1)=p:=by rw[E];exact GM p (s+1)
  obtain⟨l,x,rfl⟩:=zJ (R:=R) (by rw[T,i];exact Nat.succ_pos _);have H:l.length=p+d:=by rw[Ee,i]at T;exact w8 T
  have ex:(l++[x]).getD (p+d) 0=x:=by rw[AC,Fu (hV H),H,ei];rfl
  have eg:∀k,k<p+d->(l++[x]).getD k 0=l.getD k 0:=λk u=>by rw[AC,He (by rw[H];exact u),←AC]
  have xv:x=Z.getD p 0*b.getD (b.length -1) 0:=by have:=P (p+d) (by rw[A];exact OF _);rw[ex,U,LW,uv Z b _ p (by rw[i];exact Do _),Bn (T2 _ _),show p+d -p=b.length -1 by rw[i];exact Pl p d,t5]at this;exact this
  have S:=jq bW p;have hv:x.fdiv (b.getD (b.length -1) 0)=Z.getD p 0:=by rw[xv,mn ⟨Z.getD p 0,UF _ _⟩,Int.mul_ediv_cancel _ Zj]
  walk_at "vs";refine⟨_,pop_at,?_⟩;rw[DY];walk_at "vs";refine⟨_,eL,?_⟩;walk_at "vs";refine⟨⟨Zj,gY bL hN⟩,?_⟩;rw[hv];refine⟨p,gZ (by rw[AN,aT,E];exact iq (T2 _ _)),?_⟩;have et:=gI (n:=a) (f:=λk=>if a -s<=k then Z.getD k 0 else 0) (g:=λk=>if a -(s+1)<=k then Z.getD k 0 else 0) (k:=p) (by rw[E];exact iq (T2 _ _)) (λj _ F=>by
   rw[U,B];by_cases v:p+1<=j
   ·rw[Bn v,Bn (PQ v)]
   ·rw[Bi v,Bi λz=>v (eJ z (RF F))])
  rw[Bn (hV B)]at et;rw[←dE,et,VZ];refine⟨by lia,by lia,?_⟩;rw[show((b.length:Int) -1).toNat=d by rw[i];lia];refine bU (λj I=>∃(y:Option W),I=[some (.lst (r.map W.int)),some (.lst (b.map W.int)),some (.int a),some (.lst ((tabI (p+d) λk=>if p<=k/\k<p+j then l.getD k 0 -Z.getD p 0*b.getD (k -p) 0 else l.getD k 0).map W.int)),some (.lst ((tabI a λk=>if a -(s+1)<=k then Z.getD k 0 else 0).map W.int)),some (.int p),some (.int (Z.getD p 0)),y]) ⟨y,?_⟩ ?_ ?_
  ·rw[jS (n:=p+d) (f:=λk=>if p<=k/\k<p+0 then l.getD k 0 -Z.getD p 0*b.getD (k -p) 0 else l.getD k 0) λk _=>Bi (show¬(p<=k/\k<p+0)from λz=>OK _ (Fk z.2 z.1)),←mW l H]
  ·rintro j w _ N2 Ak ⟨y,rfl⟩ CA;obtain⟨F,rfl⟩:=oJ Ak;have L:p+j<p+d:=Nat.add_lt_add_left F p;walk_at "vs";rw[show(p:Int)+(j:Int)=((p+j:Nat):Int) by lia];refine⟨_,b8 (by rw[DD,iu L];rfl),?_⟩;rw[Bi (show¬(p<=p+j/\p+j<p+j)from λz=>OK _ z.2)];refine⟨_,b8 (int_at (by rw[i];exact Ta F)),?_⟩;walk_at "vs";refine⟨aI S (jq bm j) (by lia),p+j,gZ (by rw[AN,aT];exact L),CA _ ⟨some (.int j),?_⟩⟩;have e:=gI (n:=p+d) (f:=λk=>if p<=k/\k<p+j then l.getD k 0 -Z.getD p 0*b.getD (k -p) 0 else l.getD k 0) (g:=λk=>if p<=k/\k<p+(j+1)then l.getD k 0 -Z.getD p 0*b.getD (k -p) 0 else l.getD k 0) L (λk _ u=>by
    by_cases o:p<=k/\k<p+j
    ·rw[Bn o,Bn ⟨o.1,Ta o.2⟩]
    ·rw[Bi o,Bi λz=>o ⟨z.1,eJ (Nat.le_of_lt_succ z.2) u⟩])
   rw[Bn ⟨T2 _ _,OF _⟩,Pl]at e;rw[←e,dE]
  ·rintro _ ⟨y,rfl⟩;rw[DX];refine oK _ ⟨_,_,_,_,⟨by rw[aT,O,GM],λk u=>?_⟩,rfl⟩;rw[O,GM]at u;have D:=u;rw[lT D,B];have c:=P k (by rw[A];exact Ta u);rw[eg k D,U,LW]at c;by_cases t:p<=k
   ·rw[Bn ⟨t,u⟩];rw[Bn t]at c;lia
   ·rw[Bi λz=>t z.1];rw[Bi t,Pi,de]at c;exact c
 ·rintro _ ⟨R,K,J,y,⟨lR,P⟩,rfl⟩;rw[DX];walk_at "vs";have e:(tabI a λk=>if a -a<=k then Z.getD k 0 else 0)=Z:=by rw[jS (g:=λk=>Z.getD k 0) λk _=>Bn (by lia),←mW Z g7]
  rw[e];exact q
abbrev chF:List Str:=["ahead","last","factor_ahead","factor_last","lead","height","sign","scale","known"]
abbrev mT:Md:=.o chF [.s,.s,.s,.s,.s,.s,.s,.s,.s]
noncomputable def rC(C:Addr)(A B d c:List Int)(a h sg sc b:Int):W:=.obj C chF [wI A,wI B,wI d,wI c,.int a,.int h,.int sg,.int sc,.int b]
structure Rx(A B fA fB:List Int)(ld h:Int)(N E:Nat):Prop where
 l2:2<=B.length
 lab:B.length<=A.length
 l15:A.length<=15
 lf:fA.length<=40
 ZZ:fB.length<=40
 bA:∀x∈A,x.natAbs<2^N
 bB:∀x∈B,x.natAbs<2^N
 bfA:∀x∈fA,x.natAbs<2^N
 bfB:∀x∈fB,x.natAbs<2^N
 bl:ld.natAbs<2^N
 bh:h.natAbs<2^N
 hN:N<=5000
 hE:E<=7900
 k0:ld*h^(A.length -B.length)≠0
 kE:(ld*h^(A.length -B.length)).natAbs<=2^E
 h0:0<A.length -B.length->h^(A.length -B.length -1)≠0/\(h^(A.length -B.length -1)).natAbs<=2^E
noncomputable def DZ(A B Qs R:List Int)(c:Int):Prop:=c=B.getD (B.length -1) 0^(A.length -B.length+1)/\Qs.length=A.length -B.length+1/\(∀k,R.getD k 0=c*A.getD k 0 -cf Qs B Qs.length k)/\R.length<B.length/\(R=[]\/R.getD (R.length -1) 0≠0)
noncomputable def V0(b a Qs F:List Int)(c:Int):Prop:=(∀k,F.getD k 0=c*b.getD k 0 -cf Qs a Qs.length k)/\F.length<=max b.length (Qs.length+a.length -1)/\(a=[]->F.length<=b.length)
noncomputable def Ry(A B:List Int)(sg:Int):Int:=Sub.sg ((A.length -1)*(B.length -1))*sg
theorem LX(n:Nat):Sub.sg n=if n%2=0 then 1 else-1:=by
 unfold Sub.sg
 induction n with
 |zero=>rfl
 |succ n a=>
  rw[Ki,a];by_cases h:n%2=0
  ·rw[Bn h,Bi (by lia)];rfl
  ·rw[Bi h,Bn (by lia)];rfl
theorem LY{A B:List Int}{sg:Int}(d:0<A.length)(c:0<B.length)(b:A.length%2=0)(a:B.length%2=0):Ry A B sg= -sg:=by
 unfold Ry;rw[LX,Bi]
 ·lia
 ·rw[Nat.mul_mod,show(A.length -1)%2=1 by lia,show(B.length -1)%2=1 by lia];decide
theorem LZ{A B:List Int}{sg:Int}(c:0<A.length)(b:0<B.length)(h:¬(A.length%2=0/\B.length%2=0)):Ry A B sg=sg:=by
 unfold Ry;rw[LX,Bn]
 ·exact cq _
 ·rw[Nat.mul_mod];by_cases a:A.length%2=0
  ·rw[show(B.length -1)%2=0 by lia,Nat.mul_zero]
  ·rw[show(A.length -1)%2=0 by lia,t4]
theorem tK{n:Nat}:(n:Int).fmod 2=0↔n%2=0:=by rw[T1 _ (by decide)];lia
noncomputable def BJ(C:Addr):cA:=λg Q _=>∃(A B d b:List Int)(a h sg sc f:Int)(N E:Nat),g=[rC C A B d b a h sg sc f]/\Rx A B d b a h N E/\
 (∀(e:List Int)(c:Int),DZ A B e [] c->Q (.tup [.bl false,rC C A B d b a h sg sc f]))/\
 (∀(e R F:List Int)(c:Int),R≠[]->DZ A B e R c->V0 d b e F c->Q (.tup [.bl true,rC C B (R.map λy=>y.fdiv (a*h^(A.length -B.length))) b (F.map λy=>y.fdiv (a*h^(A.length -B.length))) (B.getD (B.length -1) 0) (Sub.hnext h (B.getD (B.length -1) 0) (A.length -B.length)) (Ry A B sg) c (a*h^(A.length -B.length))]))
theorem BK{n m:Nat}(h:Nat.blt n m=true):n<m:=Nat.le_of_ble_eq_true h
theorem Zk{y:Int}{n:Nat}(h:y.natAbs<2^n)(e:Nat):(y^e).natAbs<2^(n*e+1):=by rw[Sub.pD];refine On (dC (PQ h) e) ?_;rw[←rg];exact rh (by decide) (OF _)
theorem V1(as bs:List Int)(k:Nat):(if as=[]\/bs=[]then[]else tabI (as.length+bs.length -1) (cf as bs as.length)).getD k 0=cf as bs as.length k:=by
 by_cases a:as=[]\/bs=[]
 ·rw[Bn a];rcases a with z|z
  ·rw[z];rfl
  ·rw[NN,z];rfl
 ·rw[Bi a,zH];have b:0<as.length:=Dx.mpr λz=>a (.inl z);split
  ·rfl
  ·rw[uv as bs k as.length (by omega)]
theorem PD(as bs:List Int):(if as=[]\/bs=[]then[]else tabI (as.length+bs.length -1) (cf as bs as.length)).length<=as.length+bs.length -1/\(bs=[]->(if as=[]\/bs=[]then[]else tabI (as.length+bs.length -1) (cf as bs as.length)).length=0):=by
 by_cases a:as=[]\/bs=[]
 ·rw[Bn a];exact⟨Mo _,λ_=>rfl⟩
 ·rw[Bi a,aT];exact⟨Do _,λz=>absurd (.inr z) a⟩
theorem V2{as bs:List Int}{n m:Nat}(f:∀y∈as,y.natAbs<2^n)(d:∀y∈bs,y.natAbs<2^m)(c:as.length<=100):∀y∈(if as=[]\/bs=[]then[]else tabI (as.length+bs.length -1) (cf as bs as.length)),y.natAbs<2^(n+m+7):=λy b=>by
 by_cases a:as=[]\/bs=[]
 ·rw[Bn a]at b;cases b
 ·rw[Bi a]at b;obtain⟨k,_,rfl⟩:=lU b;refine On (Q4 f d k as.length) ?_;have e:(2:Nat)^(n+m+7)=2^(n+m)*128:=cc 2 (n+m) 7;have g:0<2^(n+m):=P2 (by decide);rw[e];generalize 2^(n+m)=z at*;have:=P3 z c;omega
theorem V3{A B Qs R:List Int}{N M:Nat}(h:VY A B N M Qs R)(a:B.length<=A.length):DZ A B Qs R (B.getD (B.length -1) 0^(A.length+1 -B.length)):=by
 have e:A.length+1 -B.length=A.length -B.length+1:=by lia
 refine⟨by rw[e],by rw[h.Zh,e],λk=>?_,h.Zi,h.last⟩;rw[h.eq k,sW];show _=bz (λi=>Qs.getD i 0) (λi=>B.getD i 0) k+_ -bz (λi=>Qs.getD i 0) (λi=>B.getD i 0) k;lia
noncomputable def fM:List CS:=[.FJ [1,2,3] (.call 0 [(.own 0 [.fl 0 "ahead"]),(.own 0 [.fl 1 "last"])]),.iff (.cmp .Eq (.var 2) (.lst [])) [.WM (.bl false)] [],.set 4 (.call 1 [(.call 2 [(.own 0 [.fl 2 "factor_ahead"]),(.var 3)]),(.call 3 [(.var 1),(.own 0 [.fl 3 "factor_last"])])]),.iff (.and [(.cmp .Eq (.bin .Mod (.blt .len [(.own 0 [.fl 0 "ahead"])]) (.int 2)) (.int 0)),(.cmp .Eq (.bin .Mod (.blt .len [(.own 0 [.fl 1 "last"])]) (.int 2)) (.int 0))]) [.HH 0 6 (.neg (.own 0 [.fl 6 "sign"]))] [],.set 5 (.bin .Sub (.blt .len [(.own 0 [.fl 0 "ahead"])]) (.blt .len [(.own 0 [.fl 1 "last"])])),.set 6 (.bin .Mult (.own 0 [.fl 4 "lead"]) (.call 4 [(.own 0 [.fl 5 "height"]),(.var 5)])),.HH 0 7 (.var 3),.HH 0 8 (.var 6),.HH 0 0 (.own 0 [.fl 1 "last"]),.HH 0 2 (.own 0 [.fl 3 "factor_last"]),.HH 0 1 (.comp [0] true 1 (.var 2) (.bl true) (.bin .FloorDiv (.var 0) (.var 7))),.HH 0 3 (.comp [0] true 1 (.var 4) (.bl true) (.bin .FloorDiv (.var 0) (.var 7))),.HH 0 4 (.ix (.own 0 [.fl 0 "ahead"]) (.neg (.int 1))),.HH 0 5 (.call 5 [(.own 0 [.fl 5 "height"]),(.own 0 [.fl 4 "lead"]),(.var 5)]),.WM (.bl true)]
theorem zL{G:Nat->W}{m:Md}{C:Addr}(Z:List W)(Q:W->Prop)(R:Addr->Prop)(h:BJ C Z Q R):wSs (cN [fK,ir,jf,iy,pU,iz]) G fM (cC m Q R) (aA 7 Z):=by
 obtain⟨A,B,i,d,o,h,sg,sc,r,N,E,rfl,⟨l2,S,l15,lf,ZZ,bA,bB,Y,H,bl,X,hN,hE,k0,kE,h0⟩,q1,q2⟩:=h;show wSs _ _ fM _ [some (rC C A B i d o h sg sc r),none,none,none,none,none,none];have lB:=jq bB (B.length -1);have U:=pW (ns:=B) (by lia);unfold fM;have m1:N*(A.length+1 -B.length)<=5000*14:=eI hN (by lia);have m2:(A.length+1 -B.length)*(N+1)<=14*5001:=eI (by lia) (by lia);refine aF (λb=>∃a j,VY A B N N a j/\b=[some (rC C A B i d o h sg sc r),some (wI a),some (wI j),some (.int (B.getD (B.length -1) 0^(A.length+1 -B.length))),none,none,none]) (λJ l=>?_) ?_
 ·unfold rC at l⊢;walk_at "vs";exact⟨A,B,N,N,rfl,⟨by lia,by lia,by lia,bA,bB,by lia⟩,λa R u=>⟨rfl,l _ ⟨a,R,u,rfl⟩⟩⟩
 rintro _ ⟨a,j,u,rfl⟩;have dR:=V3 u S;have I:=u.bQ;have lQ:=u.Zh;have lR:=u.Zi;generalize hc:B.getD (B.length -1) 0^(A.length+1 -B.length)=c at*;obtain⟨P,hn0⟩:∃P:Nat,P=80000:=⟨_,rfl⟩;have bc:c.natAbs<2^P:=by rw[←hc];exact c7 (Zk lB _) (by lia)
 refine aF (λb=>j≠[]/\b=[some (rC C A B i d o h sg sc r),some (wI a),some (wI j),some (.int c),none,none,none]) (λJ l=>?_) ?_
 ·walk_at "vs";refine⟨ai (by simp),PB (y:=[]) λk D=>?_⟩;walk_at "vs";by_cases s:j=[]
  ·cases b9 D s;walk_at "vs";subst s;exact q1 a c dR
  ·cases b7 D s;walk_at "vs";exact l _ ⟨s,rfl⟩
 rintro _ ⟨s,rfl⟩;refine aF (λb=>∃F,V0 i d a F c/\F.length<=100/\b=[some (rC C A B i d o h sg sc r),some (wI a),some (wI j),some (.int c),some (wI F),none,none]) (λJ l=>?_) ?_
 ·unfold rC at l⊢;walk_at "vs";refine⟨i,c,rfl,by lia,λy x=>aI bc (Y y x) (by lia),?_⟩;refine⟨a,d,rfl,by lia,by lia,λy x z hz=>aI (I y x) (H z hz) (by lia),?_⟩;have tl:=PD a d;have tb:=V2 I H (by lia);have tc:=V1 a d;generalize(if a=[]\/d=[]then[]else tabI (a.length+d.length -1) (cf a d a.length))=M at*;have l4:M.length<=100:=by lia
  have w:i.length<=100:=Da lf (by decide);refine⟨_,M,_,rfl,by rw[AN];exact Da w (by decide),Da l4 (by decide),?_,tb,λF tr=>?_⟩
  ·lia
  have L:=pB tr;rw[AN,Pt,AN]at L;refine l _ ⟨F,⟨λk=>?_,Da L (Nat.max_le.mpr ⟨Nat.le_max_left _ _,Da tl.1 (Nat.le_max_right _ _)⟩),λz=>?_⟩,Da L (Nat.max_le.mpr ⟨w,l4⟩),rfl⟩
  ·rw[sX tr,←tc k];by_cases D:k<max (i.map (c*·)).length M.length
   ·rw[AC,DD,Y2 D];show(i.map λy=>c*y).getD k 0 -_=_;rw[Sub.map_getD (f:=λy=>c*y) (Pi c)]
   ·rw[AN]at D;rw[outI (by rw[AN,Pt,AN];lia),outI (ns:=M) (by lia),outI (ns:=i) (by lia)];simp
  ·have:=tl.2 z;lia
 rintro _ ⟨F,dF,L,rfl⟩;refine aF (λb=>b=[some (rC C A B i d o h (Ry A B sg) sc r),some (wI a),some (wI j),some (.int c),some (wI F),none,none]) (λJ l=>?_) ?_
 ·have a0:0<A.length:=by lia
  have b0:0<B.length:=by lia
  have y:¬(A.length%2=0/\B.length%2=0)->J [some (rC C A B i d o h sg sc r),some (wI a),some (wI j),some (.int c),some (wI F),none,none]:=λe=>l _ (by rw[LZ a0 b0 e]);have z:A.length%2=0->B.length%2=0->J [some (rC C A B i d o h (-sg) sc r),some (wI a),some (wI j),some (.int c),some (wI F),none,none]:=λq p=>l _ (by rw[LY a0 b0 q p]);clear l;unfold rC wI at y z⊢;walk_at "vs";refine⟨by decide,?_⟩;by_cases q:((A.map W.int).length:Int).fmod 2=0
  ·rw[Bn (Os q)];refine⟨by decide,?_⟩;by_cases p:((B.map W.int).length:Int).fmod 2=0
   ·rw[Bn (Os p)];rw[AN]at q p;exact⟨by simp,z (tK.mp q) (tK.mp p)⟩
   ·rw[Bi (by rw[L9];exact p)];rw[AN]at p;exact y λt=>p (tK.mpr t.2)
  ·rw[Bi (by rw[L9];exact q)];rw[AN]at q;exact y λt=>q (tK.mpr t.1)
 rintro _ rfl;have O:=q2 a j F c s dR dF;generalize Ry A B sg=sg' at*;have Zl:(o*h^(A.length -B.length)).natAbs.log2<1000000000:=gY (n:=E+1) (On kE (rh (by decide) (OF _))) (by lia);have m3:N*(A.length -B.length+1)<=N*(A.length+1 -B.length):=GE _ (by lia);have m4:N*(A.length -B.length)<=N*(A.length -B.length+1):=GE _ (by lia);clear q1 q2;unfold rC wI at O⊢;walk_at "vs";rw[AN,AN,show(A.length:Int) -(B.length:Int)=((A.length -B.length:Nat):Int) by lia];generalize MT:A.length -B.length=v at*;refine⟨h,v,N,rfl,X,by lia,?_⟩;walk_at "vs";refine⟨aI bl (Zk X v) (by lia),BK rfl,BK rfl,BK rfl,BK rfl,?_⟩;refine cP (h:=W.int) (g:=λy=>.int (y.fdiv (o*h^v))) j [] _ (λy x K T=>⟨⟨k0,Zl⟩,T⟩) (ai (by simp;lia)) ⟨BK rfl,?_⟩;refine cP (h:=W.int) (g:=λy=>.int (y.fdiv (o*h^v))) F [] _ (λy x K T=>⟨⟨k0,Zl⟩,T⟩) (ai (by simp;lia)) ⟨BK rfl,_,U,BK rfl,?_⟩;refine⟨h,B.getD (B.length -1) 0,v,N,rfl,⟨X,lB,by lia,λhd=>⟨(h0 hd).1,gY (n:=E+1) (On (h0 hd).2 (rh (by decide) (OF _))) (by lia)⟩⟩,BK rfl,?_⟩;rw[SZ,SZ]at O;exact O
abbrev CI:=List Int->List Int->List Int->List Int->Int->Int->Int->Prop
noncomputable def Kept(I:CI):Prop:=∀(A B d b:List Int)(a h sg:Int),I A B d b a h sg->2<=B.length->(∃N E,Rx A B d b a h N E)/\∀(e R F:List Int)(c:Int),R≠[]->DZ A B e R c->V0 d b e F c->
 I B (R.map λy=>y.fdiv (a*h^(A.length -B.length))) b (F.map λy=>y.fdiv (a*h^(A.length -B.length))) (B.getD (B.length -1) 0) (Sub.hnext h (B.getD (B.length -1) 0) (A.length -B.length)) (Ry A B sg)
noncomputable def BL(C:Addr):cA:=λf Q _=>∃(A B d b:List Int)(a h sg sc e:Int)(I:CI),f=[rC C A B d b a h sg sc e]/\(I A B d b a h sg/\Kept I)/\
 ∀(A B d b:List Int)(a h sg sc e:Int),I A B d b a h sg->(B.length<2\/∃g c,DZ A B g [] c)->Q (.tup [.bC,rC C A B d b a h sg sc e])
noncomputable def fN:List CS:=[.set 1 (.bl true),.xD (.and [(.var 1),(.cmp .Gt (.blt .len [(.own 0 [.fl 1 "last"])]) (.int 1))]) [.A3 1 (.Oe 0 0 0 [])]]
structure ChS where
 A:List Int
 B:List Int
 fA:List Int
 fB:List Int
 ld:Int
 h:Int
 sg:Int
 sc:Int
 kn:Int
 g:Bool
theorem zM{m:Md}{C:Addr}(k:List W)(Q:W->Prop)(R:Addr->Prop)(h:BL C k Q R):wSs (cN [BJ C]) (qJ [.cls C]) fN (cC (.io m) Q R) (aA 2 k):=by
 obtain⟨A,B,fA,fB,ld,h,sg,sc,kn,I,rfl,⟨a,d⟩,q⟩:=h;show wSs _ _ fN _ [some (rC C A B fA fB ld h sg sc kn),none];unfold fN;walk_at "vs";refine jn (α:=ChS) (λs=>[some (rC C s.A s.B s.fA s.fB s.ld s.h s.sg s.sc s.kn),some (.bl s.g)]) (λs=>I s.A s.B s.fA s.fB s.ld s.h s.sg/\(s.g=false->∃e c,DZ s.A s.B e [] c)) (λs=>if s.g then s.B.length+1 else 0) ⟨A,B,fA,fB,ld,h,sg,sc,kn,true⟩ rfl ⟨a,λz=>by cases z⟩ ?_;clear a;rintro⟨A,B,fA,fB,ld,h,sg,sc,kn,g⟩ ⟨a,l⟩;dsimp only at a l⊢;have f:=q A B fA fB ld h sg sc kn a;cases g with
 |false=>walk_at "vs";refine dj (λz=>by cases z) (λ_=>?_);exact f (.inr (l rfl))
 |true=>
  unfold rC at f⊢;unfold wI at f⊢;walk_at "vs";refine dj (λz=>?_) (λz=>?_)
  ·have z:=Bz z;rw[AN]at z;obtain⟨⟨N,E,b⟩,j⟩:=d A B fA fB ld h sg a (by lia);walk_at "vs";refine⟨rfl,A,B,fA,fB,ld,h,sg,sc,kn,N,E,rfl,b,λe c i=>?_,λe R F c n i o=>?_⟩
   ·refine⟨_,_,rfl,⟨A,B,fA,fB,ld,h,sg,sc,kn,false⟩,rfl,⟨a,λ_=>⟨e,c,i⟩⟩,?_⟩;show 0<_+1;lia
   ·refine⟨_,_,rfl,⟨B,_,fB,_,_,_,_,c,_,true⟩,rfl,⟨j e R F c n i o,λz=>by cases z⟩,?_⟩;have:=i.2.2.2.1;show(R.map _).length+1<B.length+1;rw[AN];lia
  ·have z:=Sr z;rw[AN]at z;exact f (.inl (by lia))
theorem gu{x n:Nat}(h:x<=2^n):x<2^(n+1):=On h (rh (by decide) (OF _))
theorem Gk{R:List Int}{d:Int}(h:∀x∈R,d∣x)(k:Nat):d∣R.getD k 0:=by
 by_cases a:k<R.length
 ·exact h _ (Sub.getD_mem' a)
 ·rw[outI (by lia)];exact Y1 _
theorem L3{R:List Int}{d:Int}(h:∀x∈R,d∣x)(k:Nat):co R k=d*co (R.map λy=>y.fdiv d) k:=by show R.getD k 0=d*(R.map λy=>y.fdiv d).getD k 0;rw[Sub.map_getD (f:=λy=>y.fdiv d) (Int.zero_fdiv _),mn (Gk h k),fe (Gk h k)]
theorem Zm{ns a f g:List Int}{n E:Nat}(d:a.length<=ns.length)(l:ns.length<=8)(j:∀x∈ns,x.natAbs<2^n)(bm:∀x∈a,x.natAbs<2^n)(c:f=[]\/f=[1])(e:g=[]\/g=[1])(h:∀p,(ns.length -1+(a.length -1) -2*p)*p+(ns.length -1+(a.length -1)+1)<=E):Sub.FX ns a f g (n+4) E:=by
 have one:∀{f:List Int},(f=[]\/f=[1])->∀k,(f.getD k 0).natAbs<=2^n:=λ{f} c k=>by
  rcases c with rfl|rfl
  ·exact Mo _
  ·cases k with
   |zero=>exact P2 (by decide)
   |succ k=>exact Mo _
 refine⟨d,by lia,⟨2^n,λi=>?_,λi=>?_,P2 (by decide),?_⟩,h⟩
 ·obtain⟨b,t⟩:=i;cases b
  ·exact PQ (jq j t)
  ·exact one c t
 ·obtain⟨b,t⟩:=i;cases b
  ·exact PQ (jq bm t)
  ·exact one e t
 ·have:ns.length -1+(a.length -1)+1<=2^4:=by omega
  exact Da (P3 _ this) (by rw[←cc,ey];exact Do _)
noncomputable def WY(a:List Rat):Nat->Rat:=λi=>a.getD i 0
noncomputable def DvQ(b p2:Nat)(g a:List Rat):Prop:=∃(s:List Rat)(D:Int),(∀k,a.getD k 0=aG (WY s) (WY g) k)/\D≠0/\D.natAbs<2^b/\∀x∈s,Cd D p2 x
structure afe(p1 p2:Nat)(a b g u v:List Rat):Prop where
 ng:ay g
 nu:ay u
 nv:ay v
 Z0:∀k,g.getD k 0=aG (WY u) (WY a) k+aG (WY v) (WY b) k
 da:DvQ p1 p2 g a
 db:DvQ p1 p2 g b
 ne:g≠[]
 one:g.getD (g.length -1) 0=1
theorem bV{B:Int}(h:B≠0):(B:Rat)≠0:=λz=>h (by exact_mod_cast z)
noncomputable def Zn(x:Addr)(H H':Hp):Prop:=∀b o,b≠x->H b=some o->H' b=some o
noncomputable def L5(C:Addr):Sp:=λg H Q _=>∃(x f:Addr)(e d c:V),g=[.ref x,e,d,c]/\H x=some (.ins C f [])/\∀(b:Addr)(a:Hp),Zn x H a->H b=none->a b=some (.lst [])->a x=some (.ins C f (chF.zip [e,d,c,.ref b,.int 1,.int 1,.int 1,.int 1,.int 1]))->Q .bC a
noncomputable def zN(C:Addr):cA:=λa Q _=>∃A B f:List Int,a=[wI A,wI B,wI f]/\Q (rC C A B f [] 1 1 1 1 1)
theorem pX{K:Frag}{A:Addr->Prop}{H:Hp}(i:Int):Rep K A H (.int i) (.int i):=by rw[Rep]
theorem Rz{K:Frag}{B:Addr->Prop}{H:Hp}:∀{n:Nat}{a:List W}{vs:List V},ak K B H a vs->a.length=n->gh K B H (List.replicate n .s) a vs []
 |0,[],vs,r,_=>by
  cases r;show gh K B H [] _ _ _;rw[gh];exact⟨rfl,rfl,rfl⟩
 |n+1,w::a,vs,r,e=>by obtain⟨v,b,rfl,d,c⟩:=r.cons_inv;show gh K B H (.s::List.replicate n .s) _ _ _;rw[gh];refine⟨w,a,v,b,[],[],rfl,rfl,rfl,?_,Rz c (by simpa using e)⟩;rw[Fp];exact⟨rfl,d⟩
 |0,_::_,_,_,e=>by cases e
 |n+1,[],_,_,e=>by cases e
theorem Ea{P:Program}{w:World}{K:Frag}{G:Str->Option Value}{base:Heap}{k:Nat}{C f:Addr}{I:FuncData}{ps:List Str}(Y:Dv K C chF)(M:Mk K C f)(b:Binds K I ps [])(F:aN P w K G base (dD P w) k f I ps (L5 C)):
 gf P w K G base (k+1) (.ref C) 3 (fz K 3 mT (zN C)):=by
 refine .mk M b F λvs H Q E hz x m q s S=>?_;obtain⟨A,ws,P,R,l,r,d,⟨a,b',f',e,Z⟩,c,er⟩:=hz;subst e;obtain⟨B,_,rfl,O,r⟩:=r.cons_inv;obtain⟨y,_,rfl,N,r⟩:=r.cons_inv;obtain⟨v,_,rfl,L,r⟩:=r.cons_inv;cases r;refine⟨x,m,B,y,v,rfl,aD,λg J U h e4 ex=>⟨rfl,?_⟩⟩;have i:g≠x:=λe=>by rw[e,aD]at h;cases h
 have t:g≠m:=λe=>by rw[e,ao S,aD]at h;cases h
 have h4:H g=none:=by rw[ao i,ao t]at h;exact h
 have sm:aE H J:=λb o j=>by
  have D:b≠x:=λe=>by rw[e,q]at j;cases j
  have T:b≠m:=λe=>by rw[e,s]at j;cases j
  exact U b o D (by rw[ao D,ao T];exact j)
 have u:∀p o,H p=some o->(A p\/p∈[x])->A p:=λp o e z=>by
  rcases z with z|z
  ·exact z
  ·rw[Fn.mp z,q]at e;cases e
 refine c _ (.ref x) J Z sm ⟨[x],by simp,λp X=>by rw[Fn.mp X];exact q,?_⟩;unfold rC;rw[Fp];refine⟨C,m,_,x,[B,y,v,.ref g,.int 1,.int 1,.int 1,.int 1,.int 1],[],rfl,rfl,rfl,ex,rfl,Y,?_⟩;refine Rz (n:=9) ?_ rfl;refine .cons (Rep.mv sm u _ O) (.cons (Rep.mv sm u _ N) (.cons (Rep.mv sm u _ L) (.cons ?_ (.cons (pX 1) (.cons (pX 1) (.cons (pX 1) (.cons (pX 1) (.cons (pX 1) .nil))))))));show Rep _ _ _ (.lst []) _;rw[Rep];refine⟨g,[],rfl,λz=>?_,.inl e4,.nil⟩;rcases z with z|z
 ·obtain⟨o,e⟩:=d g z;rw[h4]at e;cases e
 ·exact i (Fn.mp z)
theorem xW{rs:List Rat}{a:List Int}{B c:Int}(h:Prim rs a B c)(b:rs≠[])(hz:ay rs):a.getD (a.length -1) 0≠0:=λz=>by
 have e:=h.at_ (a.length -1);have f:=Dx.mpr b;rw[z,h.len]at e;have d:=hz _ (Py f rfl);have g:=bV (B:=B) (by have:=h.bpos;lia);have:rs.getD (rs.length -1) 0*(B:Rat)=0:=by rw[←e];show((0:Int):Rat)*_=0;grind
 rcases Pm.mp this with x|x
 ·exact d x
 ·exact g x
noncomputable def pY:List CS:=[.ret (.and [(.blt .Cy [(.var 0),(.FI "int")]),(.not (.blt .Cy [(.var 0),(.FI "bool")]))])]
noncomputable def zO:cA:=λa Q _=>∃i:Int,a=[.int i]/\Q (.bl true)
theorem PJ{b:Nat->cA}{G:Nat->W}{m:Md}(a:List W)(Q:W->Prop)(R:Addr->Prop)(h:zO a Q R):wSs b G pY (cC m Q R) (aA 1 a):=by obtain⟨i,rfl,c⟩:=h;show wSs _ _ pY _ [some (.int i)];unfold pY;walk_at "vs";simp only[Ge];refine⟨_,rfl,?_⟩;walk_at "vs";exact⟨_,rfl,c⟩
structure GIn(a:List Rat):Prop where
 l8:a.length<=8
 z:ay a
 cd:∃D:Int,0<D/\D.natAbs<2^101/\∀x∈a,Cd D 117 x
 bd:∀x∈a,Bd 200 x
structure Rw(l n k:Nat)(a:List Rat):Prop where
 len:a.length<=l
 z:ay a
 cd:∃D:Int,0<D/\D.natAbs<2^k/\∀x∈a,Cd D n x
theorem Rw.up{l n k d b e:Nat}{a:List Rat}(h:Rw l n k a)(o:l<=d)(i:n<=b)(g:k<=e):Rw d b e a:=by obtain⟨p,a2,D,m,j,c⟩:=h;exact⟨by lia,a2,D,m,c7 j g,λx f=>(c x f).up i⟩
theorem V4{D:Int}{n:Nat}{x:Rat}(h:Cd D n x):Cd (-D) n x:=by obtain⟨z,e,b⟩:=h;refine⟨-z,?_,by omega⟩;rw[Rat.intCast_neg,Rat.intCast_neg,←e];grind
theorem L6{D:Int}{n:Nat}{a:List Rat}(e:D≠0)(h:∀x∈a,Cd D n x){k:Nat}(c:D.natAbs<2^k):∃D:Int,0<D/\D.natAbs<2^k/\∀x∈a,Cd D n x:=by
 by_cases d:0<D
 ·exact⟨D,d,c,h⟩
 ·exact⟨-D,by lia,by lia,λx b=>V4 (h x b)⟩
theorem abK{m E:Nat}(h:∀s,s<m+1->∀p,p<m+1->(s -2*p)*p+(s+1)<=E):∀s,s<=m->∀p,(s -2*p)*p+(s+1)<=E:=λs b p=>by
 by_cases a:p<m+1
 ·exact h s (by omega) p a
 ·have:=h s (by omega) 0 (by omega);rw[show s -2*p=0 by omega,t4];omega
theorem rw_mul{c f e d k1 k2:Nat}{a b:List Rat}(n:Rw c e k1 a)(m:Rw f d k2 b)(h:c<=30):Rw (c+f -1) (e+d+5) (k1+k2) (aH (mulQ a b)):=by obtain⟨u,a2,r,k,i,p⟩:=n;obtain⟨t,s,q,j,g,o⟩:=m;refine⟨?_,bJ _,r*q,ui k j,by rw[Fh];exact lt_mul i g,λx l=>NP p o (by omega) x (xy l)⟩;have:=jE (mulQ a b);unfold mulQ at this⊢;rw[fE]at this;omega
noncomputable def RI(ns a:List Int)(w E:Nat):CI:=λA B d c b h e=>d=[]/\c=[]/\Sub.CS ns a [] [] w E (a.length+1) A B [] [] b h
theorem L7{ns a:List Int}{w E:Nat}(c:0<a.length)(b:a.getD (a.length -1) 0≠0)(X:Sub.FX ns a [] [] w E):RI ns a w E ns a [] [] 1 1 1:=
 ⟨rfl,rfl,Sub.CS.start X c b (by show 0+a.length<=_;lia) (.inl rfl)⟩
theorem PK{ns b:List Int}{w E:Nat}(X:Sub.FX ns b [] [] w E)(j:ns.length<=15)(o:w*(ns.length -1+(b.length -1)+1)+1<=5000)(p:w*E<=7900):Kept (RI ns b w E):=by
 rintro A B J I H h G ⟨rfl,rfl,C⟩ d;have l1:=X.l1;have MS:=C.MS;have lp:=C.lp;obtain⟨l,k,q⟩:=C.size X d;obtain⟨z,y,v,u⟩:=C.bd;refine⟨⟨w*(ns.length -1+(b.length -1)+1)+1,w*E,⟨d,MS,by lia,Mo _,Mo _,λx a=>gu (z x a),λx a=>gu (y x a),λx a=>gu (v x a),λx a=>gu (u x a),gu C.bl,?_,o,p,l,k,q⟩⟩,?_⟩
 ·exact gu (Da C.bh (Kk (by decide) (GE _ (by lia))))
 rintro K R F c n ⟨m,D,s,g,f⟩ ⟨t,i,e⟩;obtain⟨_,_,_,_,_,_,S⟩:=C.step X d m D s g f t i e;have r:F=[]:=KE.mp (Nat.le_zero.mp (e rfl));subst r;exact⟨rfl,rfl,S n⟩
noncomputable def rB(n k:Nat):Nat:=(2*n+k+4)*14+1
theorem V5{d:Nat->cA}{G:Nat->W}{D:Dn}{c:Ev}{i n:Nat}{e:CE}{b:List CS}(g:n<=1000)(f:∀Q:W->Prop,Q (.int n)->wE d G (λ_=>False) e c Q)(h:oF (λw D' a=>wSs d G b D' (a.set i (some w))) D (jK 0 1 n) c):wS d G (.fr [i] true (.oO [e]) b) D c:=f _ ⟨by lia,by lia,h⟩
noncomputable def wv(t p:Int):List Int->Int
 |[]=>0
 |c::l=>wv t p l*t+c*p^l.length
theorem Rw.bd{l n k:Nat}{a:List Rat}(h:Rw l n k a)(d:k<=n):∀x∈a,Bd n x:=by obtain⟨_,_,D,f,e,c⟩:=h;exact λx b=>(c x b).bd (by lia) (c7 e d)
section
variable{a b:List Rat}{l1 l2 n1 n2 n k1 k2 k E q:Nat}{Q:W->Prop}{R:Addr->Prop}
end
theorem Zo{a b:List Rat}{f e d c k1 k2:Nat}{Q:W->Prop}{R:Addr->Prop}(l:Rw f d k1 a)(g:Rw e c k2 b)(h:k1<=d/\k2<=c/\d+c+5+(d+c)<=8000/\f<=30/\e<=100)(q:Q (af (aH (mulQ a b)))):BC [af a,af b] Q R:=by have v:=l.bd h.1;have t:=g.bd h.2.1;obtain⟨G,a2,x,z,n,r⟩:=l;obtain⟨u,s,w,y,m,p⟩:=g;obtain⟨F,E,o,C,B⟩:=h;refine⟨a,b,d,c,rfl,v,t,⟨d+c+5,λi j k A=>?_,o⟩,by lia,by lia,q⟩;refine Cd.bd (D:=x*w) (PH (by lia) (by lia)) (NO r p i j k (by lia)) ?_;rw[Fh];exact c7 (lt_mul n m) (by lia)
theorem neQ{x:Rat}{Q:W->Prop}(h:Q (.bl false)):ie .NotEq (wq x) (wq x) Q:=
 ⟨.inl ⟨DP x 8,DP x 8⟩,λk a=>by rw[b9 a rfl];exact h⟩
theorem Gm(x y:List Rat):gj 9 (.lst [af x,af y])=true:=by rw[gj,List.all_cons,List.all_cons,List.all_nil];rw[show gj 8 (af x)=true from je x 6,show gj 8 (af y)=true from je y 6];rfl
theorem V6{x y:List Rat}{Q:W->Prop}(h:Q (.bl false)):ie .NotEq (.lst [af x,af y]) (.lst [af x,af y]) Q:=
 ⟨.inl ⟨Gm x y,Gm x y⟩,λk a=>by rw[b9 a rfl];exact h⟩
noncomputable def lV:List CS:=[.FJ [2,3] (.tup [(.int 1),(.int 0)]),.FJ [4,5] (.tup [(.int 0),(.int 1)]),.xD (.cmp .NotEq (.var 1) (.int 0)) [.set 6 (.bin .FloorDiv (.var 0) (.var 1)),.par [0,1] [(.var 1),(.bin .Sub (.var 0) (.bin .Mult (.var 6) (.var 1)))],.par [2,3] [(.var 3),(.bin .Sub (.var 2) (.bin .Mult (.var 6) (.var 3)))],.par [4,5] [(.var 5),(.bin .Sub (.var 4) (.bin .Mult (.var 6) (.var 5)))]],.iff (.cmp .Lt (.var 0) (.int 0)) [.ret (.tup [(.neg (.var 0)),(.neg (.var 2)),(.neg (.var 4))])] [],.ret (.tup [(.var 0),(.var 2),(.var 4)])]
noncomputable def tM:cA:=λc Q _=>∃(a b:Int)(n:Nat),c=[.int a,.int b]/\n<=7000/\a.natAbs<2^n/\b.natAbs<2^n/\∀g u v:Int,g=(Int.gcd a b:Nat)->u*a+v*b=g->Q (.tup [.int g,.int u,.int v])
theorem L8{s:Nat->cA}{G:Nat->W}{m:Md}(l:List W)(Q:W->Prop)(R:Addr->Prop)(h:tM l Q R):wSs s G lV (cC m Q R) (aA 7 l):=by
 obtain⟨a,b,n,rfl,z,w,p,q⟩:=h;show wSs _ _ lV _ [some (.int a),some (.int b),none,none,none,none,none];unfold lV;walk_at "vs";refine⟨ai (by simp),rfl,ai (by simp),rfl,?_⟩;have i:=pow2 n;refine jn (α:=Int×Int×Int×Int×Int×Int×Option W) (λx=>[some (.int x.1),some (.int x.2.1),some (.int x.2.2.1),some (.int x.2.2.2.1),some (.int x.2.2.2.2.1),some (.int x.2.2.2.2.2.1),x.2.2.2.2.2.2]) (λx=>KJ n a b x.1 x.2.1 x.2.2.1 x.2.2.2.1 x.2.2.2.2.1 x.2.2.2.2.2.1) (λx=>x.2.1.natAbs) (a,b,1,0,0,1,none) rfl ⟨by lia,by lia,rfl,w,p,i,by show 0<_;clear i p;lia,by show 0<_;lia,i,.inl ⟨rfl,rfl,rfl,rfl⟩⟩ ?_;rintro⟨x,y,u,f,v,d,o⟩ I;have I:KJ n a b x y u f v d:=I;walk_at "vs";refine dj (λk=>?_) (λk=>?_)
 ·have c:y≠0:=by simpa using k
  have j:(x.fdiv y).natAbs<2^(n+2):=by
   have C:=aa1 x y c;have B:=I.bx;have A:=I.yU;have e:2^(n+2)=4*2^n:=by rw[cc];lia
   lia
  walk_at "vs";refine⟨⟨c,gY I.yU (by lia)⟩,aI j I.yU (by lia),rfl,aI j I.bu2 (by lia),rfl,aI j I.bv2 (by lia),rfl,?_⟩;exact⟨(y,x -x.fdiv y*y,f,u -x.fdiv y*f,d,v -x.fdiv y*d,_),rfl,I.next c,qS x y c⟩
 ·have c:y=0:=by simpa using k
  subst c;have t:=I.g;rw[mf]at t;have e1:=I.e1;walk_at "vs";by_cases r:x<0
  ·rw[Bn (Os r)];refine⟨ai (by simp),q (-x) (-u) (-v) (by lia) ?_⟩;rw[Int.neg_mul,Int.neg_mul];lia
  ·rw[Bi (by rw[L9];exact r)];exact⟨ai (by simp),q x u v (by lia) e1⟩
noncomputable def jT:List CS:=[.ret (.bin .Mod (.ix (.call 0 [(.var 0),(.var 1)]) (.int 1)) (.var 1))]
noncomputable def pZ:cA:=λa Q _=>∃x p:Int,a=[.int x,.int p]/\(gW p/\p<2^40/\0<x/\x<p)/\∀y:Int,0<=y->y<p->p∣y*x -1->Q (.int y)
theorem Ip{G:Nat->W}{m:Md}(a:List W)(Q:W->Prop)(R:Addr->Prop)(h:pZ a Q R):wSs (cN [tM]) G jT (cC m Q R) (aA 2 a):=by
 obtain⟨x,p,rfl,⟨b,k,d,c⟩,q⟩:=h;show wSs _ _ jT _ [some (.int x),some (.int p)];have f:0<p:=by have:=b.1;lia
 unfold jT;walk_at "vs";refine⟨x,p,40,rfl,by decide,by lia,by lia,λg u v j i=>⟨_,rfl,?_⟩⟩;walk_at "vs";have l:g=1:=by rw[j,Int.gcd_comm,nh b d c];rfl
 rw[T1 _ (by lia)];refine⟨by lia,q (u%p) (ma _ (by lia)) (eM _ f) ?_⟩;have e:u%p=u -p*(u/p):=by have:=ip u p;lia
 rw[e];refine⟨-(v+(u/p)*x),?_⟩;have:u*x=1 -v*p:=by lia
 grind
noncomputable def jU:List CS:=[.ret (.call 0 [(.comp [0] true 1 (.var 0) (.bl true) (.bin .Mod (.var 0) (.var 2)))])]
noncomputable def lW:cA:=λc Q _=>∃(a:List Int)(p:Int),c=[wI a,.int p]/\0<p/\a.length<=1000/\∀b,gU (a.map (·%p)) b->Q (wI b)
theorem Iq{G:Nat->W}{m:Md}(b:List W)(Q:W->Prop)(R:Addr->Prop)(h:lW b Q R):wSs (cN [gH]) G jU (cC m Q R) (aA 2 b):=by
 obtain⟨a,p,rfl,e,c,q⟩:=h;show wSs _ _ jU _ [some (wI a),some (.int p)];unfold jU wI;walk_at "vs";refine cP (g:=λx=>.int (x%p)) a [] _ (λx f K d=>⟨by lia,?_⟩) (ai (by simpa using c)) ⟨a.map (·%p),?_,q⟩
 ·dsimp only;rw[T1 _ (by lia)];exact d
 ·unfold wI;rw[SZ];rfl
noncomputable def fO:List CS:=[.set 3 (.blt .max2 [(.bin .Add (.bin .Sub (.blt .len [(.var 0)]) (.blt .len [(.var 1)])) (.int 1)),(.int 0)]),.set 4 (.call 0 [(.ix (.var 1) (.neg (.int 1))),(.var 2)]),.set 5 (.blt .list [(.var 0)]),.set 6 (.bin .Mult (.lst [(.int 0)]) (.var 3)),.fr [7] true (.oO [(.bin .Sub (.var 3) (.int 1)),(.neg (.int 1)),(.neg (.int 1))]) [.A3 8 (.bin .Mod (.bin .Mult (.pop 5) (.var 4)) (.var 2)),.put 6 (.var 7) (.var 8),.fr [9] true (.oO [(.bin .Sub (.blt .len [(.var 1)]) (.int 1))]) [.put 5 (.bin .Add (.var 7) (.var 9)) (.bin .Mod (.bin .Sub (.ix (.var 5) (.bin .Add (.var 7) (.var 9))) (.bin .Mult (.var 8) (.ix (.var 1) (.var 9)))) (.var 2))]],.ret (.tup [(.var 6),(.call 1 [(.var 5)])])]
structure Rm(p:Int)(ns:List Int):Prop where
 b:∀x∈ns,0<=x/\x<p
 z:ns=[]\/ns.getD (ns.length -1) 0≠0
structure DvM(p:Int)(ns ms qs rs:List Int):Prop where
 lq:qs.length=ns.length+1 -ms.length
 lr:rs.length<ms.length
 eq:yP p ns ms (λi=>qs.getD i 0) rs
 q:Rm p qs
 r:Rm p rs
noncomputable def jh:cA:=λe Q _=>∃(b a:List Int)(p:Int),e=[wI b,wI a,.int p]/\(gW p/\p<2^40/\0<a.length/\b.length<=100/\a.length<=100/\Rm p b/\Rm p a)/\∀d c,DvM p b a d c->Q (.tup [wI d,wI c])
theorem BN{x y p:Int}(c:p<2^40)(b:0<=x/\x<p)(a:0<=y/\y<p):IntMulOk x y:=aI (n:=40) (m:=40) (by lia) (by lia) (by decide)
theorem zP{G:Nat->W}{m:Md}(ws:List W)(Q:W->Prop)(R:Addr->Prop)(h:jh ws Q R):wSs (cN [pZ,gH]) G fO (cC m Q R) (aA 10 ws):=by
 obtain⟨o,c,b,rfl,⟨hp,V7,O,la,lb,⟨bn,nzn⟩,⟨bm,Zj⟩⟩,q⟩:=h;show wSs _ _ fO _ [some (wI o),some (wI c),some (.int b),none,none,none,none,none,none,none];have J:0<b:=by have:=hp.1;lia
 have Zj:c.getD (c.length -1) 0≠0:=Zj.resolve_left λz=>by rw[z]at O;cases O
 unfold fO wI;walk_at "vs";have eR:(if(0:Int)>((o.map W.int).length:Int) -((c.map W.int).length:Int)+1 then(0:Int)else((o.map W.int).length:Int) -((c.map W.int).length:Int)+1)=((o.length+1 -c.length:Nat):Int):=by rw[AN,AN];split<;>lia
 rw[eR];have bL:=sY J bm (c.length -1);have eL:=pW O;have VZ:(c.map W.int).length=c.length:=AN _;generalize hl:c.getD (c.length -1) 0=l at*;generalize g7:o.length+1 -c.length=a at*;refine⟨_,eL,l,b,rfl,⟨hp,V7,by lia,bL.2⟩,λu by0 by1 hby=>?_⟩;walk_at "vs";rw[Int.toNat_natCast,iN,uY];refine⟨ai (by simp),by lia,by lia,ai (by simp;lia),?_⟩;refine rm (by lia) ?_;walk_at "vs";refine bU (λs ε=>∃(R:List Int)(B C:Nat->Int)(v7 v8 F:Option W),(yP b o c C R/\R.length=o.length -s/\(∀x∈R,0<=x/\x<b)/\(∀i,i<a->a -s<=i->C i=B i)/\(∀i,0<=B i/\B i<b)/\(∀i,(i<a -s\/a<=i)->C i=0)/\(0<s->b∣B (a -1)*l -o.getD (o.length -1) 0)/\(s=0->R=o))/\ε=[some (.lst (o.map W.int)),some (.lst (c.map W.int)),some (.int b),some (.int a),some (.int u),some (.lst (R.map W.int)),some (.lst ((tabI a B).map W.int)),v7,v8,F]) ?_ ?_ ?_
 ·exact⟨o,λ_=>0,λ_=>0,_,_,_,⟨yP.start b o c,by lia,bn,λi T h2=>rfl,λ_=>⟨Int.le_refl _,J⟩,λ_ _=>rfl,λh=>by lia,λ_=>rfl⟩,rfl⟩
 ·rintro s w _ N1 hw ⟨R,I,C,v7,v8,F,⟨U,lR,bR,M,S,hz,L,Eb⟩,rfl⟩ oK;obtain⟨B,rfl⟩:=zI hw;rw[show((a:Nat):Int) -1 -(s:Int)=((a -1 -s:Nat):Int) by lia];generalize hpp:a -1 -s=p at*;have H:a=p+s+1:=by lia
  obtain⟨d,t⟩:∃d,c.length=d+1:=⟨_,(vb O).symm⟩;have hn:o.length=p+d+(s+1):=by lia
  clear hpp g7;have e1:a -s=p+1:=by rw[H,i5,GM]
  have e2:a -(s+1)=p:=by rw[H];exact GM p (s+1)
  have em:p+c.length -1=p+d:=by rw[t];rfl
  have Io:R.length=p+c.length:=by rw[lR,hn,t,←pj,i5,GM];rfl
  obtain⟨r,x,rfl⟩:=zJ (R:=R) (by rw[Io,t];exact Nat.succ_pos _);have X:r.length=p+d:=by rw[Ee,t]at Io;exact w8 Io
  have ex:(r++[x]).getD (p+d) 0=x:=by rw[AC,Fu (hV X),X,ei];rfl
  have eg:∀k,k<p+d->(r++[x]).getD k 0=r.getD k 0:=λk A=>by rw[AC,He (by rw[X];exact A),←AC]
  have bx:=bR x (Hn _ (Fn.mpr rfl));have bR0:∀y∈r,0<=y/\y<b:=λy K=>bR y (X1 _ K);walk_at "vs";refine⟨_,pop_at,?_⟩;rw[DY];walk_at "vs";refine⟨BN V7 bx ⟨by0,by1⟩,by lia,?_⟩;rw[T1 _ (by lia)];have h0:0<=x*u%b:=ma _ (by lia);have ZW:x*u%b<b:=eM _ J;have hh:b∣(x*u%b)*l -x:=by
   obtain⟨k,A⟩:=hby;have e:=ip (x*u) b;refine⟨x*k -(x*u/b)*l,?_⟩;have:x*u%b=x*u -b*(x*u/b):=by lia
   rw[this];have e2:u*l=1+b*k:=by lia
   grind
  generalize x*u%b=h at*;refine⟨p,gZ (by rw[AN,aT,H];exact iq (T2 _ _)),?_⟩;have et:=gI (n:=a) (f:=I) (g:=λk=>if k=p then h else I k) (k:=p) (by rw[H];exact iq (T2 _ _)) (λj _ Z=>Bi Z);rw[Bn rfl]at et;rw[←dE,et,VZ];refine⟨by lia,by lia,?_⟩;rw[show((c.length:Int) -1).toNat=d by rw[t];lia];refine bU (λj ε=>∃F:Option W,ε=[some (.lst (o.map W.int)),some (.lst (c.map W.int)),some (.int b),some (.int a),some (.int u),some (.lst ((tabI (p+d) λk=>if p<=k/\k<p+j then(r.getD k 0 -h*c.getD (k -p) 0)%b else r.getD k 0).map W.int)),some (.lst ((tabI a λk=>if k=p then h else I k).map W.int)),some (.int p),some (.int h),F]) ⟨F,?_⟩ ?_ ?_
  ·rw[jS (n:=p+d) (f:=λk=>if p<=k/\k<p+0 then(r.getD k 0 -h*c.getD (k -p) 0)%b else r.getD k 0) λk _=>Bi (show¬(p<=k/\k<p+0)from λz=>OK _ (Fk z.2 z.1)),←mW r X]
  ·rintro j w _ N2 Ak ⟨F,rfl⟩ CA;obtain⟨Z,rfl⟩:=oJ Ak;have ix:p+j<p+d:=Nat.add_lt_add_left Z p;walk_at "vs";rw[show(p:Int)+(j:Int)=((p+j:Nat):Int) by lia];refine⟨_,b8 (by rw[DD,iu ix];rfl),?_⟩;rw[Bi (show¬(p<=p+j/\p+j<p+j)from λz=>OK _ z.2)];refine⟨_,b8 (int_at (by rw[t];exact Ta Z)),?_⟩;walk_at "vs";refine⟨BN V7 ⟨h0,ZW⟩ (sY J bm j),by lia,?_⟩;rw[T1 _ (by lia)];refine⟨p+j,gZ (by rw[AN,aT];exact ix),CA _ ⟨some (.int j),?_⟩⟩;have e:=gI (n:=p+d) (f:=λk=>if p<=k/\k<p+j then(r.getD k 0 -h*c.getD (k -p) 0)%b else r.getD k 0) (g:=λk=>if p<=k/\k<p+(j+1)then(r.getD k 0 -h*c.getD (k -p) 0)%b else r.getD k 0) ix (λk _ A=>by
    by_cases v:p<=k/\k<p+j
    ·rw[Bn v,Bn ⟨v.1,Ta v.2⟩]
    ·rw[Bi v,Bi λz=>v ⟨z.1,eJ (Nat.le_of_lt_succ z.2) A⟩])
   rw[Bn ⟨T2 _ _,OF _⟩,Pl]at e;rw[←e,dE]
  ·rintro _ ⟨F,rfl⟩;rw[DX];have mm:∀y:Int,b∣y%b -y:=λy=>⟨-(y/b),by have:=ip y b;lia⟩;refine oK _ ⟨_,λk=>if k=p then h else I k,λi=>C i+if i=p then h else 0,_,_,_,⟨U.step (R':=tabI (p+d) λk=>if p<=k/\k<p+d then(r.getD k 0 -h*c.getD (k -p) 0)%b else r.getD k 0) O hl.symm Io (by rw[aT,em]) (by rw[em,ex];exact hh) (λk A=>?_),by rw[aT,hn,GM],λy K=>?_,λi T h2=>?_,λi=>?_,λi P=>?_,λ_=>?_,λz=>by cases z⟩,rfl⟩
   ·rw[em]at A;rw[lT A,eg k A];by_cases E:p<=k
    ·rw[Bn ⟨E,A⟩,Bn E];exact mm _
    ·rw[Bi λz=>E z.1,Bi E,oa,km];exact Y1 _
   ·obtain⟨k,A,rfl⟩:=lU K;split
    ·exact⟨ma _ (by lia),eM _ J⟩
    ·exact sY J bR0 k
   ·show C i+(if i=p then h else 0)=if i=p then h else I i
    by_cases N:i=p
    ·rw[Bn N,Bn N,hz i (.inl (by rw[N,e1];exact OF _)),t5]
    ·rw[Bi N,Bi N,M i T (by rw[e1];rw[e2]at h2;exact eJ h2 (RF N)),de]
   ·show 0<=(if i=p then h else I i)/\(if i=p then h else I i)<b;split
    ·exact⟨h0,ZW⟩
    ·exact S i
   ·show C i+(if i=p then h else 0)=0;rw[e2,H]at P;rw[Bi (by clear U M S hz L Eb;lia),hz i (by rw[e1,H];clear U M S hz L Eb;lia),de]
   ·show b∣(if a -1=p then h else I (a -1))*l -_;by_cases D:s=0
    ·have e:=Eb D;rw[Bn (by rw[H,D];rfl),←e,Ee];show b∣h*l -(r++[x]).getD (r.length+1 -1) 0;rw[GM,X,ex];exact hh
    ·rw[Bi λz=>D (by rw[H]at z;exact Nat.add_left_cancel (show p+s=p+0 from z))];exact L (Nat.pos_of_ne_zero D)
 ·rintro _ ⟨R,B,C,v7,v8,F,⟨U,lR,bR,M,S,hz,L,_⟩,rfl⟩;rw[DX]at lR M hz L;walk_at "vs";refine⟨R,rfl,λts Y=>⟨ai (by simp),?_⟩⟩;have tl:=pB Y;have eqf:∀i,C i=(tabI a B).getD i 0:=λi=>by
   rw[zH];by_cases P:i<a
   ·rw[Bn P,M i P (by lia)]
   ·rw[Bi P,hz i (by lia)]
  refine q (tabI a B) ts ⟨by rw[aT];exact g7.symm,by lia,λk=>?_,⟨λy K=>?_,?_⟩,λy K=>bR y (Y.mem y K),Y.last⟩
  ·have:=U k;rw[show C=λi=>(tabI a B).getD i 0 from funext eqf]at this;rw[sX Y];exact this
  ·obtain⟨k,A,rfl⟩:=lU K;exact S k
  ·by_cases hr0:a=0
   ·left;rw[hr0];rfl
   ·right;rw[aT,lT (by lia)];intro z;have T:=L (by lia);rw[z,Ts,Int.zero_sub]at T;have nn:o.getD (o.length -1) 0≠0:=by
     rcases nzn with e|e
     ·rw[e]at g7;simp only[List.length_nil]at g7;lia
     ·exact e
    have bb:=sY J bn (o.length -1);have:=bo (by lia) (Int.dvd_neg.mp T);lia
noncomputable def iR:List CS:=[.xD (.cmp .Gt (.blt .len [(.var 1)]) (.int 1)) [.par [0,1] [(.var 1),(.ix (.call 0 [(.var 0),(.var 1),(.var 2)]) (.int 1))]],.ret (.cmp .Eq (.blt .len [(.var 1)]) (.int 1))]
noncomputable def jV:cA:=λd Q _=>∃(a c:List Int)(p:Int),d=[wI a,wI c,.int p]/\(gW p/\p<2^40/\a.length<=100/\c.length<=100/\Rm p a/\Rm p c)/\∀b:Bool,(b=true->Ap p (co a) (co c))->Q (.bl b)
theorem Ec{G:Nat->W}{m:Md}(q:List W)(Q:W->Prop)(R:Addr->Prop)(h:jV q Q R):wSs (cN [jh]) G iR (cC m Q R) (aA 3 q):=by
 obtain⟨a,f,p,rfl,⟨L,D,H,F,C,y⟩,K⟩:=h;show wSs _ _ iR _ [some (wI a),some (wI f),some (.int p)];unfold iR;refine aF (λj=>∃A B:List Int,(B.length<=1/\Rm p B/\HD p (co a) (co f) B)/\j=[some (wI A),some (wI B),some (.int p)]) (λN M=>?_) ?_
 ·walk_at "vs";refine jn (α:=List Int×List Int) (λx=>[some (wI x.1),some (wI x.2),some (.int p)]) (λx=>x.1.length<=100/\x.2.length<=100/\Rm p x.1/\Rm p x.2/\HD p (co a) (co f) x.1/\HD p (co a) (co f) x.2) (λx=>x.2.length) (a,f) rfl ⟨H,F,C,y,.one λ_=>rfl,(HD.one λ_=>rfl).swap⟩ ?_;rintro⟨A,B⟩ ⟨w,a2,a3,i,t,g⟩;dsimp only at w a2 a3 i t g⊢;rw[show wI B=W.lst (B.map W.int)from rfl];walk_at "vs";rw[AN];refine dj (λn=>?_) (λn=>?_)
  ·have E:1<B.length:=by have:=Bz n;lia
   walk_at "vs";refine⟨A,B,p,rfl,⟨L,D,by lia,w,a2,a3,i⟩,λP s d=>⟨_,rfl,rfl,?_⟩⟩;exact⟨(B,s),rfl,⟨a2,by have:=d.lr;show s.length<=100;lia,i,d.r,g,t.rest g d.eq⟩,d.lr⟩
  ·refine M _ ⟨A,B,⟨?_,i,g⟩,rfl⟩;have:=Sr n;lia
 rintro _ ⟨A,B,⟨E,rB,O⟩,rfl⟩;unfold wI;walk_at "vs";rw[AN];refine K _ λo=>?_;have o:B.length=1:=by have:=Bz o;lia
 obtain⟨c,rfl⟩:∃c,B=[c]:=by rcases B with _|⟨c,_|⟨d,l⟩⟩<;>simp at o;exact⟨c,rfl⟩
 obtain⟨u,v,N,J,I,e⟩:=O;refine⟨u,v,N,c,J,I,λz=>?_,λk=>?_⟩
 ·have T:=rB.b c (by simp);have S:c≠0:=rB.z.resolve_left (by simp);have:=bo (by lia) z;lia
 ·have:=e k;cases k with
  |zero=>exact this
  |succ k=>rw[Bi (by lia)];exact this
noncomputable def xY(p:Nat):Nat->Nat->Bool
 |0,a=>decide (a<2)||decide (p%a≠0)
 |k+1,a=>xY p k a&&xY p k (a+2^k)
theorem uZ{p:Nat}:∀(k a d:Nat),xY p k a=true->a<=d->d<a+2^k->2<=d->p%d≠0
 |0,a,d,h,f,c,b=>by
  have e:d=a:=by lia
  subst e;rw[xY,rp,L9,L9]at h;exact h.resolve_left (by lia)
 |k+1,a,d,h,f,c,b=>by
  rw[xY,BM]at h;rw[Nat.pow_succ]at c;by_cases z:d<a+2^k
  ·exact uZ k a d h.1 f z b
  ·exact uZ k _ d h.2 (by lia) (by lia) b
theorem witness:gW 2147483647:=by
 have h:xY 2147483647 16 0=true:=by decide+kernel
 refine⟨by decide,λd c b z=>?_⟩;have a:d<65536:=by refine Int.lt_of_not_ge λg=>?_;have:(65536:Int)*65536<=d*d:=Int.mul_le_mul g g (by decide) (by lia);lia
 refine uZ 16 0 d.toNat h (Mo _) (by lia) (by lia) ?_;have e:((2147483647%d.toNat:Nat):Int)=2147483647%d:=by rw[Int.natCast_emod,Int.toNat_of_nonneg (by lia)];rfl
 rw[z]at e;lia
noncomputable def WI(ns a:List Int)(w E:Nat):CI:=λA B f e c h b=>RI ns a w E A B f e c h b/\∀d,(DQ d (cz A)/\DQ d (cz B))↔(DQ d (cz ns)/\DQ d (cz a))
theorem PL{ns b:List Int}{w E:Nat}(X:Sub.FX ns b [] [] w E)(e:ns.length<=15)(v:w*(ns.length -1+(b.length -1)+1)+1<=5000)(x:w*E<=7900):Kept (WI ns b w E):=by rintro A B z y q h n ⟨i,D⟩ f;obtain⟨a,p⟩:=PK X e v x A B z y q h n i f;refine⟨a,λQs R F c u l j=>⟨p Qs R F c u l j,λd=>?_⟩⟩;obtain⟨g,J,m,r,o⟩:=l;obtain⟨H,s,I⟩:=j;obtain⟨rfl,rfl,C⟩:=i;obtain⟨t,_,G,_,_,_,_⟩:=C.step X f g J m r o H s I;refine(yV (c:=c) (A:=A) (Qs:=Qs) (by rw[g];exact Sub.fF C.ch.NT _) t (λk=>?_) d).trans (D d);rw[←Fi];exact(L3 G k).symm.trans (m k)
structure WD(ns ms g:List Int)(q:Nat):Prop where
 l0:0<g.length
 z:g.getD (g.length -1) 0≠0
 iff:∀d,DQ d (cz g)↔DQ d (cz ns)/\DQ d (cz ms)
 one:∀d:Int,(∀x∈g,d∣x)->d∣1
 bd:∀x∈g,x.natAbs<2^q
structure WP(ns ms:List Int)(n E q:Nat):Prop where
 ln:ns.length<=8
 lm:ms.length<=8
 n0:0<ns.length
 m0:0<ms.length
 zn:ns.getD (ns.length -1) 0≠0
 zm:ms.getD (ms.length -1) 0≠0
 bn:∀x∈ns,x.natAbs<2^n
 bm:∀x∈ms,x.natAbs<2^n
 hE:∀p,(ns.length -1+(ms.length -1) -2*p)*p+(ns.length -1+(ms.length -1)+1)<=E
 hq:(n+4)*(ns.length -1+(ms.length -1)+1)+1<=q
 q5:q<=5000
 e7:(n+4)*E<=7900
theorem WP.swap{ns a:List Int}{n E q:Nat}(h:WP ns a n E q):WP a ns n E q:=
 ⟨h.lm,h.ln,h.m0,h.n0,h.zm,h.zn,h.bm,h.bn,by rw[ey (a.length -1)];exact h.hE,by rw[ey (a.length -1)];exact h.hq,h.q5,h.e7⟩
theorem WD.swap{ns a g:List Int}{q:Nat}(h:WD ns a g q):WD a ns g q:=⟨h.l0,h.z,λd=>(h.iff d).trans and_comm,h.one,h.bd⟩
theorem Ma{d:Nat->Rat}(h:DQ d (cz [1]))(f:Nat->Rat)(a:Fin f):DQ d f:=
 (DQ.mul f a h).ext λk=>by
   have e:aG f (cz [1]) k=aG (λi=>if i=0 then 1 else 0) f k:=by
    rw[dO];refine bT (λi=>?_) (λ_=>rfl) k;cases i with
    |zero=>rfl
    |succ i=>rfl
   rw[e,oB]
theorem Mb{ns a:List Int}{q:Nat}(e:0<q)(h:∀d,DQ d (cz ns)/\DQ d (cz a)->DQ d (cz [1])):WD ns a [1] q:=
 ⟨by decide,by decide,λd=>⟨λz=>⟨Ma z _ (FG ns),Ma z _ (FG a)⟩,h d⟩,λd c=>c 1 (by simp),λx b=>by rw[Fn.mp b];exact Nat.one_lt_two_pow (by lia)⟩
theorem Mc{ns:List Int}(z:ns.getD (ns.length -1) 0≠0):ay (ns.map λx:Int=>(x:Rat)):=λx b=>by rw[List.getLast?_map]at b;obtain⟨y,a,rfl⟩:=Oy.mp b;rw[Ha]at a;rw[AC,a]at z;exact bV z
theorem zQ(ns:List Int)(i:Nat):cQ (ns.map λx:Int=>(x:Rat)) i=cz ns i:=by show(ns.map λx:Int=>(x:Rat)).getD i 0=((ns.getD i 0:Int):Rat);rw[AC,AC,DD];cases ns[i]?<;>rfl
theorem V8{p:Int}{ns c:List Int}(A:gW p)(j:0<ns.length)(l:0<c.length)(w:ns.getD (ns.length -1) 0≠0)(i:c.getD (c.length -1) 0≠0)(B:¬p∣ns.getD (ns.length -1) 0)(h:Ap p (co ns) (co c))(d:Nat->Rat)(o:DQ d (cz ns)/\DQ d (cz c)):DQ d (cz [1]):=by
 have s:=TL (f:=co ns) (g:=co c) (m:=ns.length -1) (n:=c.length -1) A (λt y=>outI (by lia)) B (λt y=>outI (by lia)) i h;have J:ns.map (λx:Int=>(x:Rat))≠[]:=λz=>by rw[ky.mp z]at j;cases j
 have I:c.map (λx:Int=>(x:Rat))≠[]:=λz=>by rw[ky.mp z]at l;cases l
 have r:jI (ns.map λx:Int=>(x:Rat)) (c.map λx:Int=>(x:Rat))≠0:=λz=>by have e:=ku (a:=ns.map λx:Int=>(x:Rat)) (b:=c.map λx:Int=>(x:Rat)) (D:=1) (E:=1) (F:=co ns) (G:=co c) ⟨by decide,λt=>by rw[zQ];exact dn _⟩ ⟨by decide,λt=>by rw[zQ];exact dn _⟩;rw[z,eP,AN,AN]at e;exact s (by exact_mod_cast e.symm)
 obtain⟨u,v,H,C,e⟩:=N9 (Mc w) J (Mc i) I r;refine(DQ.add (DQ.mul u H o.1) (DQ.mul v C o.2)).ext λk=>?_;have q:=e k;rw[bT (f:=u) (λ_=>rfl) (zQ ns) k,bT (f:=v) (λ_=>rfl) (zQ c) k]at q;rw[←q];cases k<;>rfl
noncomputable def cy:cA:=λc Q _=>∃(a b:List Int)(n E q:Nat),c=[wI a,wI b]/\WP a b n E q/\∀g,WD a b g q->Q (wI g)
noncomputable def Ed:cA:=λa Q R=>cy a Q R/\∀c b,a=[wI c,wI b]->b.length<=c.length
noncomputable def Ir:cA:=λa Q R=>cy a Q R/\∀c b,a=[wI c,wI b]->c.length<b.length
noncomputable def BO:List CS:=[.iff (.cmp .Lt (.blt .len [(.var 0)]) (.blt .len [(.var 1)])) [.HJ] [],.iff (.cmp .Eq (.var 1) (.lst [])) [.HJ] [],.iff (.and [(.cmp .NotEq (.bin .Mod (.ix (.var 0) (.neg (.int 1))) (.glob 0)) (.int 0)),(.call 1 [(.call 2 [(.var 0),(.glob 0)]),(.call 2 [(.var 1),(.glob 0)]),(.glob 0)])]) [.ret (.lst [(.int 1)])] [],.set 2 (.call 3 [(.var 0),(.var 1),(.lst [])]),.Yn (.Oe 2 1 4 []),.iff (.cmp .Eq (.blt .len [(.own 2 [.fl 1 "last"])]) (.int 1)) [.ret (.lst [(.int 1)])] [],.ret (.ix (.call 5 [(.own 2 [.fl 1 "last"])]) (.int 1))]
noncomputable def BP:List CS:=[.iff (.cmp .Lt (.blt .len [(.var 0)]) (.blt .len [(.var 1)])) [.ret (.call 0 [(.var 1),(.var 0)])] [],.HJ,.HJ,.HJ,.HJ,.HJ,.HJ]
theorem Me(ns:List Int):gj 9 (wI ns)=true:=by unfold wI;rw[gj,IH];intro x a;obtain⟨r,_,rfl⟩:=Hk.mp a;exact tG _ _
theorem Ef{ns c:List Int}(h:wI ns=wI c):ns=c:=by unfold wI at h;rw[W.lst.injEq]at h;exact(tf λa b e=>by cases e;rfl).mp h
theorem RA{p:Int}{ns a:List Int}(b:0<p)(h:gU (ns.map (·%p)) a):Rm p a/\a.length<=ns.length/\∀k,p∣ns.getD k 0 -a.getD k 0:=by
 refine⟨⟨λx c=>?_,h.last⟩,?_,λk=>?_⟩
 ·obtain⟨y,_,rfl⟩:=Hk.mp (h.mem x c);exact⟨ma _ (by lia),eM _ b⟩
 ·have:=pB h;rw[AN]at this;exact this
 ·rw[sX h];have e:(ns.map (·%p)).getD k 0=ns.getD k 0%p:=by
   rw[AC,AC,DD];cases ns[k]? with
   |none=>show(0:Int)=0%p;rw[Int.zero_emod]
   |some y=>rfl
  rw[e];have:=ip (ns.getD k 0) p;exact⟨ns.getD k 0/p,by lia⟩
theorem V9{p:Int}{f g f' g':Nat->Int}(i:∀k,p∣f k -f' k)(d:∀k,p∣g k -g' k)(h:Ap p f' g'):Ap p f g:=by obtain⟨u,v,N,c,b,a,j,e⟩:=h;refine⟨u,v,N,c,b,a,j,λk=>?_⟩;have m:=uF (f:=u) i k;have l:=uF (f:=v) d k;have:=n4 (n4 m l) (e k);rw[show bz u f k+bz v g k -(if k=0 then c else 0)=bz u f k -bz u f' k+(bz v g k -bz v g' k)+(bz u f' k+bz v g' k -if k=0 then c else 0) by lia];exact this
theorem Zp{S0:cA}{C:Addr}{m:Md}(Z:List W)(Q:W->Prop)(R:Addr->Prop)(h:Ed Z Q R):wSs (cN [S0,jV,lW,zN C,BL C,gr]) (qJ [.int 2147483647,.cls C]) BO (cC m Q R) (aA 3 Z):=by
 obtain⟨⟨ns,f,n,E,q,rfl,⟨ln,lm,n0,H,zn,Y,bn,bm,hE,hq,q5,e7⟩,P⟩,hl⟩:=h;have hl:=hl ns f rfl;have X:Sub.FX ns f [] [] (n+4) E:=Zm (by lia) (by lia) bn bm (.inl rfl) (.inl rfl) hE;show wSs _ _ BO _ [some (wI ns),some (wI f),none];unfold BO;refine aF (λa=>a=[some (wI ns),some (wI f),none]) (λN g=>?_) ?_
 ·rw[show wI ns=W.lst (ns.map W.int)from rfl,show wI f=W.lst (f.map W.int)from rfl];walk_at "vs";rw[AN,AN,Bi (by rw[L9];lia)];exact g _ rfl
 rintro _ rfl;refine aF (λa=>a=[some (wI ns),some (wI f),none]) (λN g=>?_) ?_
 ·walk_at "vs";refine⟨ai (by simp),PB (y:=[]) λk o=>?_⟩;cases b7 o (λz=>by rw[z]at H;cases H);exact g _ rfl
 rintro _ rfl;refine aF (λa=>a=[some (wI ns),some (wI f),none]) (λN g=>?_) ?_
 ·rw[show wI ns=W.lst (ns.map W.int)from rfl];walk_at "vs";refine⟨_,pW n0,?_⟩;walk_at "vs";refine⟨by decide,?_⟩;rw[T1 _ (by decide)];by_cases L:ns.getD (ns.length -1) 0%2147483647=0
  ·rw[Os L];exact g _ rfl
  ·rw[QR L];walk_at "vs";refine⟨ns,_,rfl,by decide,by lia,λJ t1=>⟨f,_,rfl,by decide,by lia,λK t2=>?_⟩⟩;obtain⟨r1,l1,c1⟩:=RA (by decide) t1;obtain⟨r2,l2,c2⟩:=RA (by decide) t2;refine⟨J,K,_,rfl,⟨witness,by decide,by lia,by lia,r1,r2⟩,λb O=>?_⟩;cases b with
   |false=>exact g _ rfl
   |true=>refine⟨ai (by simp),P [1] (Mb (by lia) λd F=>?_)⟩;exact V8 witness n0 H zn Y (λz=>L (my z)) (V9 c1 c2 (O rfl)) d F
 rintro _ rfl;refine aF (λa=>a=[some (wI ns),some (wI f),some (rC C ns f [] [] 1 1 1 1 1)]) (λN g=>?_) ?_
 ·walk_at "vs";exact⟨ai (by simp),ns,f,[],rfl,g _ rfl⟩
 rintro _ rfl;refine aF (λa=>∃(A B w v:List Int)(s h sg sc D:Int),(WI ns f (n+4) E A B w v s h sg/\(B.length<2\/∃Qs c,DZ A B Qs [] c))/\a=[some (wI ns),some (wI f),some (rC C A B w v s h sg sc D)]) (λN g=>?_) ?_
 ·unfold rC;walk_at "vs";refine⟨rfl,ns,f,[],[],1,1,1,1,1,WI ns f (n+4) E,rfl,⟨⟨L7 H Y X,λd=>Iff.rfl⟩,PL X (by lia) (by lia) e7⟩,λA B w v s h sg sc D S r=>?_⟩;exact⟨_,_,rfl,g _ ⟨A,B,w,v,s,h,sg,sc,D,⟨S,r⟩,rfl⟩⟩
 rintro _ ⟨A,B,w,v,s,h,sg,sc,D,⟨⟨S,dv⟩,r⟩,rfl⟩;have I:=S.2.2;obtain⟨_,bB,_,_⟩:=I.bd;have lB0:=I.lq;have G:=I.ch.NT;have bq:∀x∈B,x.natAbs<2^q:=λx p=>c7 (gu (bB x p)) hq;have lBm:=I.Q8;refine aF (λa=>2<=B.length/\a=[some (wI ns),some (wI f),some (rC C A B w v s h sg sc D)]) (λN g=>?_) ?_
 ·unfold rC at g⊢;rw[show wI B=W.lst (B.map W.int)from rfl]at g⊢;walk_at "vs";rw[AN];by_cases l1:B.length=1
  ·rw[Bn (Os (by lia))];refine⟨ai (by simp),P [1] (Mb (by lia) λd F=>?_)⟩;have T:=((dv d).mpr F).2;obtain⟨b,rfl⟩:∃b,B=[b]:=by rcases B with _|⟨b,_|⟨c,l⟩⟩<;>simp at l1;exact⟨b,rfl⟩
   have b0:b≠0:=G;refine DQ.KO (bV b0) (T.ext λk=>?_);cases k with
   |zero=>exact dn _
   |succ k=>exact NA _
  ·rw[Bi (by rw[L9];lia)];exact g _ ⟨by lia,rfl⟩
 rintro _ ⟨l2,rfl⟩;obtain⟨Qs,c,hc,WH,cR,_,_⟩:=r.resolve_left (by lia);have c0:c≠0:=by rw[hc];exact Sub.fF G _
 unfold rC;walk_at "vs";refine⟨B,q,rfl,⟨⟨_,Sub.getD_mem' (ns:=B) (k:=B.length -1) (by lia),G⟩,by lia,by lia,bq⟩,λe u j eb=>⟨_,rfl,P u ?_⟩⟩;have e0:(e:Rat)≠0:=bV (by have:=j.pos;lia);have U:∀i,cz B i=(e:Rat)*cz u i:=λi=>by
  show((B.getD i 0:Int):Rat)=(e:Rat)*((u.getD i 0:Int):Rat);rw[j.eq,AC,AC,DD];cases O:B[i]? with
  |none=>show(0:Rat)=e*0;rw[NA]
  |some y=>have:=j.dv y (KB O);show((y:Int):Rat)=(e:Rat)*((y/e:Int):Rat);rw[←FM,fe this]
 have lg:u.length=B.length:=by rw[j.eq,AN]
 refine⟨by lia,λz=>?_,λd=>?_,λd F=>?_,λx p=>?_⟩
 ·have:=U (B.length -1);rw[lg]at z;have this:((B.getD (B.length -1) 0:Int):Rat)=(e:Rat)*((u.getD (B.length -1) 0:Int):Rat):=this;rw[z,show((0:Int):Rat)=0 from rfl,NA]at this;exact G (by exact_mod_cast this)
 ·have t:DQ d (cz u)↔DQ d (cz B):=⟨λz=>(z.sc (e:Rat)).ext U,λz=>DQ.KO e0 (z.ext λk=>(U k).symm)⟩;rw[t,←dv d];refine⟨λz=>⟨?_,z⟩,And.right⟩;have:=(yV (A:=A) (B:=B) (Qs:=Qs) (B':=[]) (c:=c) (κ:=1) c0 (by decide) (λk=>by rw[←Fi];exact(cq _).trans (cR k)) d).mp ⟨z,(DQ.zero d).ext λk=>rfl⟩;exact this.1
 ·have M:∀x∈B,e*d∣x:=λx p=>by have t:=j.dv x p;have T:=F (x/e) (by rw[j.eq];exact List.mem_map_of_mem p);obtain⟨k,o⟩:=T;exact⟨k,by rw[SU,←o,fe t]⟩
  have h3:=j.all _ M;obtain⟨k,o⟩:=h3;refine⟨k,SB (show e≠0 by have:=j.pos;lia) ?_⟩;rw[dq,←SU];exact o
 ·rw[j.eq]at p;obtain⟨y,hy,rfl⟩:=Hk.mp p;have t:=bq y hy;obtain⟨k,o⟩:=j.dv y hy;have e1:=j.pos;rw[o,fg _ (by lia)];rw[o,Fh]at t;exact On (wb _ (by lia)) t
theorem rF{as bs b a:List Int}(h:[wI as,wI bs]=[wI b,wI a]):as=b/\bs=a:=by simp only[mM,and_true]at h;exact⟨Ef h.1,Ef h.2⟩
theorem Zq{G:Nat->W}{m:Md}(c:List W)(Q:W->Prop)(R:Addr->Prop)(h:Ir c Q R):wSs (cN [Ed]) G BP (cC m Q R) (aA 3 c):=by obtain⟨⟨a,b,n,E,q,rfl,f,i⟩,d⟩:=h;have d:=d a b rfl;show wSs _ _ BP _ [some (wI a),some (wI b),none];unfold BP;refine aF (λ_=>False) (λN l=>?_) (λ_ z=>z.elim);rw[show wI a=W.lst (a.map W.int)from rfl,show wI b=W.lst (b.map W.int)from rfl];walk_at "vs";rw[AN,AN,Bn (Os (by lia))];refine⟨⟨b,a,n,E,q,rfl,f.swap,λg w=>i g w.swap⟩,λas bs e=>?_⟩;obtain⟨k,j⟩:=rF (as:=b) (bs:=a) e;rw[←k,←j];lia
theorem Gn:∀a P R,Ed a P R->a.length=2:=by rintro _ _ _ ⟨⟨_,_,_,_,_,rfl,_⟩,_⟩;rfl
theorem PM:∀a P R,Ir a P R->a.length=2:=by rintro _ _ _ ⟨⟨_,_,_,_,_,rfl,_⟩,_⟩;rfl
theorem Zr{P:Program}{w:World}{K:Frag}{j:Str->Option Value}{base:Heap}{k1 k2 k:Nat}{f:Addr}{m:FuncData}{ps:List Str}(B:aN P w K j base (dD P w) k1 f m ps (fz K 2 .s Ed))(z:aN P w K j base (dD P w) k2 f m ps (fz K 2 .s Ir))(F:k1<=k)(D:k2<=k):aN P w K j base (dD P w) k f m ps (fz K 2 .s cy):=by
 have i:∀a H Q E,fz K 2 .s cy a H Q E->fz K 2 .s Ed a H Q E\/fz K 2 .s Ir a H Q E:=by
  rintro a H Q E ⟨A,J,P,R,l,r,d,h,c,e⟩;obtain⟨I,G,n,k,E,rfl,M,L⟩:=id h;by_cases C:G.length<=I.length
  ·refine .inl ⟨A,_,P,R,l,r,d,⟨h,λt q e=>?_⟩,c,e⟩;obtain⟨p,o⟩:=rF e;rw[←p,←o];exact C
  ·refine .inr ⟨A,_,P,R,l,r,d,⟨h,λt q e=>?_⟩,c,e⟩;obtain⟨p,o⟩:=rF e;rw[←p,←o];lia
 exact⟨λa H Q E h=>(i a H Q E h).elim (B.len a H Q E) (z.len a H Q E),λA b s H g u a Q E v y x r h=>(i a H Q E h).elim (B.run A b s H g u a Q E (v.mono F) y x r) (z.run A b s H g u a Q E (v.mono D) y x r)⟩
noncomputable def dX:List CS:=[.iff (.cmp .Eq (.var 1) (.lst [])) [.raise 0 (.str "a quotient's bottom is the row 0")] [],.iff (.cmp .Eq (.var 0) (.lst [])) [.ret (.tup [(.lst []),(.lst [(.tup [(.int 1),(.int 1)])])])] [],.FJ [2,3,4] (.call 0 [(.var 0)]),.FJ [5,6,7] (.call 0 [(.var 1)]),.set 8 (.call 1 [(.var 2),(.var 5)]),.set 2 (.call 2 [(.var 2),(.var 8)]),.set 5 (.call 2 [(.var 5),(.var 8)]),.set 9 (.ix (.var 5) (.neg (.int 1))),.set 10 (.call 3 [(.var 2),(.bin .Mult (.var 4) (.var 6))]),.ret (.tup [(.call 4 [(.var 10),(.bin .Mult (.bin .Mult (.var 3) (.var 7)) (.var 9))]),(.call 4 [(.var 5),(.var 9)])])]
noncomputable def mX(C:Addr):cA:=λc Q R=>∃a b:List Rat,c=[af a,af b]/\Rw 7 17 6 a/\Rw 7 17 6 b/\(b=[]->R C)/\∀s t,b≠[]->QT a b s t->Rw 7 2000 50 s->Rw 7 2000 50 t->Q (.tup [af s,af t])
theorem BQ{a:List Rat}{ns:List Int}{B c:Int}(h:Prim a ns B c):cQ a=λi=>((c:Rat)/(B:Rat))*cz ns i:=funext λi=>by have b:(B:Rat)≠0:=bV (by have:=h.bpos;lia);have e:=h.at_ i;show a.getD i 0=(c:Rat)/(B:Rat)*((ns.getD i 0:Int):Rat);rw[Rat.div_def];have:=eD _ b;grind
theorem BR{Y:List Int}{B:Int}(a:B≠0):cQ (aH (Y.map λx=>Rat.divInt x B))=λi=>((1:Rat)/(B:Rat))*cz Y i:=funext λi=>by
 refine(o9 _ i).trans ?_;show _=(1:Rat)/(B:Rat)*((Y.getD i 0:Int):Rat);rw[AC,AC,DD];cases Y[i]? with
 |none=>show(0:Rat)=_*((0:Int):Rat);rw[show((0:Int):Rat)=0 from rfl,NA]
 |some y=>show Rat.divInt y B=_*((y:Int):Rat);rw[XB,Rat.div_def,Rat.div_def,Ya,oI]
theorem Gp{Y:List Int}{B:Int}{n:Nat}(c:B≠0)(h:∀x∈Y,x.natAbs<2^n):∀x∈aH (Y.map λx=>Rat.divInt x B),Cd B n x:=λx b=>by obtain⟨y,a,rfl⟩:=Hk.mp (xy b);refine⟨y,?_,h y a⟩;rw[XB,hU (bV c)]
theorem Mf{x:Rat}(h:x≠0):x⁻¹≠0:=λz=>by have:=eD _ h;rw[z,NA]at this;exact absurd this (by decide)
theorem Gq{ns Z g:List Int}{n:Nat}(e:ns.getD (ns.length -1) 0=Z.getD (Z.length -1) 0*g.getD (g.length -1) 0)(c:0<ns.length)(a:ns.getD (ns.length -1) 0≠0)(b:∀x∈ns,x.natAbs<2^n):Z.getD (Z.length -1) 0≠0/\(Z.getD (Z.length -1) 0).natAbs<2^n:=by have h:=b _ (Sub.getD_mem' (ns:=ns) (k:=ns.length -1) (by lia));rw[e]at h a;refine⟨λz=>a (by rw[z,Ts]),?_⟩;rw[Fh]at h;have d:g.getD (g.length -1) 0≠0:=λz=>a (by rw[z,Pi]);exact On (Wp _ (by lia)) h
theorem Mg{Z:List Int}(a:0<Z.length)(z:Z.getD (Z.length -1) 0≠0):Mon (aH (Z.map λx=>Rat.divInt x (Z.getD (Z.length -1) 0))):=by
 have c:=bV z;have e:(Z.map λx=>Rat.divInt x (Z.getD (Z.length -1) 0)).getD (Z.length -1) 0=1:=by rw[AC (l:=Z.map _),DD,B1 (by lia)];show Rat.divInt Z[Z.length -1] (Z.getD (Z.length -1) 0)=1;rw[show Z[Z.length -1]=Z.getD (Z.length -1) 0 by rw[AC,B1 (by lia)];rfl,XB,Rat.div_def,eD _ c]
 have hz:ay (Z.map λx=>Rat.divInt x (Z.getD (Z.length -1) 0)):=λx b=>by rw[Ha,AN]at b;rw[AC (l:=Z.map _),b]at e;have e:x=1:=e;rw[e];decide
 rw[uy hz];refine⟨λy=>?_,by rw[AN];exact e⟩;rw[ky.mp y]at a;cases a
theorem Eg{l:List Int}{n:Nat}(h:∀i,(l.getD i 0).natAbs<2^n):∀x∈l,x.natAbs<2^n:=λx a=>by obtain⟨i,b,e⟩:=TK a;have:=h i;rw[AC,B1 b]at this;rw[←e];exact this
theorem wD{C:Addr}{m:Md}(ws:List W)(Q:W->Prop)(R:Addr->Prop)(h:mX C ws Q R):wSs (cN [iQ,cy,gM,jf,jR]) (qJ [.cls C]) dX (cC m Q R) (aA 11 ws):=by
 obtain⟨a,b,rfl,ra,rb,hR,hQ⟩:=h;show wSs _ _ dX _ [some (af a),some (af b),none,none,none,none,none,none,none,none,none];unfold dX;refine aF (λe=>b≠[]/\e=[some (af a),some (af b),none,none,none,none,none,none,none,none,none]) (λN o=>?_) ?_
 ·walk_at "vs";refine⟨ai (by simp),jo (y:=[]) λk1 G=>?_⟩;by_cases t:b=[]
  ·cases b9 G t;walk_at "vs";exact hR t
  ·cases b7 G t;exact o _ ⟨t,rfl⟩
 rintro _ ⟨t,rfl⟩;refine aF (λe=>a≠[]/\e=[some (af a),some (af b),none,none,none,none,none,none,none,none,none]) (λN o=>?_) ?_
 ·walk_at "vs";refine⟨ai (by simp),jo (y:=[]) λk1 G=>?_⟩;by_cases v:a=[]
  ·cases b9 G v;walk_at "vs";subst v;refine⟨ai (by simp),ai (by simp),ai (by simp),ai (by simp),?_⟩;exact hQ [] [1] t (Du b) ⟨by decide,λx q=>by simp at q,1,by decide,by decide,λx q=>by simp at q⟩ ⟨by decide,(Du b).mt.lnz,1,by decide,by decide,λx q=>⟨1,by rw[Fn.mp q];exact Ya _,c7 (n:=1) (by decide) (by decide)⟩⟩
  ·cases b7 G v;exact o _ ⟨v,rfl⟩
 rintro _ ⟨v,rfl⟩;obtain⟨la,za,DA,da0,dak,ca⟩:=ra;obtain⟨lb,zb,DB,db0,dbk,cb⟩:=rb;refine aF (λe=>∃r j,∃c:Int,(Prim a r j c/\j.natAbs<2^6/\c.natAbs<2^17/\∀x∈r,x.natAbs<2^17)/\e=[some (af a),some (af b),some (wI r),some (.int j),some (.int c),none,none,none,none,none,none]) (λN o=>?_) ?_
 ·walk_at "vs";refine⟨a,DA,17,6,rfl,⟨⟨_,List.getLast_mem v,za _ (List.getLast?_eq_some_getLast v)⟩,ca,da0,dak,by decide,by decide,by lia⟩,λr j c pr bB bc bn=>?_⟩;exact⟨rfl,o _ ⟨r,j,c,⟨pr,bB,bc,bn⟩,rfl⟩⟩
 rintro _ ⟨r,j,p,⟨F,S,I,B⟩,rfl⟩;refine aF (λe=>∃u l,∃c:Int,(Prim b u l c/\l.natAbs<2^6/\c.natAbs<2^17/\∀x∈u,x.natAbs<2^17)/\e=[some (af a),some (af b),some (wI r),some (.int j),some (.int p),some (wI u),some (.int l),some (.int c),none,none,none]) (λN o=>?_) ?_
 ·walk_at "vs";refine⟨b,DB,17,6,rfl,⟨⟨_,List.getLast_mem t,zb _ (List.getLast?_eq_some_getLast t)⟩,cb,db0,dbk,by decide,by decide,by lia⟩,λr j c pr bB bc bn=>?_⟩;exact⟨rfl,o _ ⟨r,j,c,⟨pr,bB,bc,bn⟩,rfl⟩⟩
 rintro _ ⟨u,l,s,⟨E,O,H,D⟩,rfl⟩;have xK:=xW F v za;have A:=xW E t zb;have lns:=F.len;have VZ:=E.len;have pa0:=Dx.mpr v;have pb0:=Dx.mpr t;refine aF (λe=>∃g,WD r u g 274/\e=[some (af a),some (af b),some (wI r),some (.int j),some (.int p),some (wI u),some (.int l),some (.int s),some (wI g),none,none]) (λN o=>?_) ?_
 ·walk_at "vs";refine⟨r,u,17,31,274,rfl,⟨by lia,by lia,by lia,by lia,xK,A,B,D,abK (m:=12) (by decide) _ (by lia),by lia,by decide,by decide⟩,λg hg=>o _ ⟨g,hg,rfl⟩⟩
 rintro _ ⟨g,f,rfl⟩;obtain⟨d1,d2⟩:=(f.iff (cz g)).mp (DQ.refl _);have lg0:=f.l0;obtain⟨Y,y0,lY,eY,tY⟩:=FH (by lia) xK f.l0 f.z f.one d1;obtain⟨Z,X,lZ,eZ,tZ⟩:=FH (by lia) A f.l0 f.z f.one d2;obtain⟨nY,bY⟩:=Gq tY (by lia) xK B;obtain⟨w,U⟩:=Gq tZ (by lia) A D;have aY:∀x∈Y,x.natAbs<2^1963:=Eg λi=>Ds eY lY (by lia) f.l0 f.z B f.bd 7 i (by lia);have aZ:∀x∈Z,x.natAbs<2^1963:=Eg λi=>Ds eZ lZ (by lia) f.l0 f.z D f.bd 7 i (by lia);refine aF (λe=>e=[some (af a),some (af b),some (wI Y),some (.int j),some (.int p),some (wI u),some (.int l),some (.int s),some (wI g),none,none]) (λN o=>?_) ?_
 ·walk_at "vs";exact⟨r,g,Y,1963,rfl,⟨f.l0,y0,by lia,by lia,λk=>by rw[Fi];exact eY k,f.z,by decide,λx q=>c7 (f.bd x q) (by decide),aY⟩,o _ rfl⟩
 rintro _ rfl;refine aF (λe=>e=[some (af a),some (af b),some (wI Y),some (.int j),some (.int p),some (wI Z),some (.int l),some (.int s),some (wI g),none,none]) (λN o=>?_) ?_
 ·walk_at "vs";exact⟨u,g,Z,1963,rfl,⟨f.l0,X,by lia,by lia,λk=>by rw[Fi];exact eZ k,f.z,by decide,λx q=>c7 (f.bd x q) (by decide),aZ⟩,o _ rfl⟩
 rintro _ rfl;refine aF (λe=>e=[some (af a),some (af b),some (wI Y),some (.int j),some (.int p),some (wI Z),some (.int l),some (.int s),some (wI g),some (.int (Z.getD (Z.length -1) 0)),none]) (λN o=>?_) ?_
 ·rw[show wI Z=W.lst (Z.map W.int)from rfl]at o⊢;walk_at "vs";exact⟨_,pW X,o _ rfl⟩
 rintro _ rfl;generalize hL:Z.getD (Z.length -1) 0=L at*;have cB:(p*l).natAbs<2^23:=by rw[Fh];exact lt_mul I O
 refine aF (λe=>e=[some (af a),some (af b),some (wI Y),some (.int j),some (.int p),some (wI Z),some (.int l),some (.int s),some (wI g),some (.int L),some (wI (Y.map (p*l*·)))]) (λN o=>?_) ?_
 ·walk_at "vs";exact⟨aI I O (by decide),Y,_,rfl,by lia,λx q=>aI cB (aY x q) (by decide),o _ rfl⟩
 rintro _ rfl;have b1:(j*s).natAbs<2^23:=by rw[Fh];exact lt_mul S H
 have b2:(j*s*L).natAbs<2^40:=by rw[Fh];exact lt_mul b1 U
 have T:j≠0:=by have:=F.bpos;lia
 have P:l≠0:=by have:=E.bpos;lia
 have K:p≠0:=by have:=F.cpos;lia
 have J:s≠0:=by have:=E.cpos;lia
 have M:j*s*L≠0:=PH (PH T J) w;have aS:∀x∈Y.map (p*l*·),x.natAbs<2^2000:=λx q=>by obtain⟨y,hy,rfl⟩:=Hk.mp q;rw[Fh];exact c7 (lt_mul cB (aY y hy)) (by decide)
 have eS:cz (Y.map (p*l*·))=λi=>((p*l:Int):Rat)*cz Y i:=funext λi=>by
  show(((Y.map (p*l*·)).getD i 0:Int):Rat)=_*((Y.getD i 0:Int):Rat);rw[AC,AC,DD];cases Y[i]? with
  |none=>show((0:Int):Rat)=_*((0:Int):Rat);rw[show((0:Int):Rat)=0 from rfl,NA]
  |some y=>exact FM _ _
 have rBa:=bV T;have rBb:=bV P;have rc1:=bV K;have rc2:=bV J;have rL:=bV w;have rD:=bV M;have rE:=bV (PH K P);have qt:QT a b (aH ((Y.map (p*l*·)).map λx=>Rat.divInt x (j*s*L))) (aH (Z.map λx=>Rat.divInt x L)):=by
  refine Yi (κ:=p/j) (κ':=s/l) (σ:=1/((j*s*L:Int):Rat)*((p*l:Int):Rat)) (τ:=1/(L:Rat)) f.l0 f.z (λd hd=>(f.iff d).mpr hd) ((funext λk=>by show((r.getD k 0:Int):Rat)=_;rw[eY k]).trans (czF Y g).symm) ((funext λk=>by show((u.getD k 0:Int):Rat)=_;rw[eZ k]).trans (czF Z g).symm) nY (by rw[hL];exact w) (BQ F) (BQ E) ?_ (BR w) (bJ _) (by rw[←hL];exact Mg X (by rw[hL];exact w)) ?_ ?_ ?_
  ·rw[BR M,eS];funext i;rw[ar]
  ·rw[Rat.div_def,Ya];exact λz=>(Pm.mp z).elim (λz=>Mf rD z) rE
  ·rw[Rat.div_def,Ya];exact Mf rL
  ·simp only[FM]at rD rE⊢;have i1:=eD _ rD;have i2:=eD _ rL;have i3:=eD _ rBa;have i4:=eD _ rBb;rw[Rat.div_def,Rat.div_def,Rat.div_def,Rat.div_def,Ya,Ya];grind
 have rS:Rw 7 2000 50 (aH ((Y.map (p*l*·)).map λx=>Rat.divInt x (j*s*L))):=⟨Da (jE _) (by rw[AN,AN];lia),qt.zs,L6 M (Gp M aS) (c7 b2 (by decide))⟩;have rT:Rw 7 2000 50 (aH (Z.map λx=>Rat.divInt x L)):=⟨Da (jE _) (by rw[AN];lia),qt.mt.lnz,L6 w (Gp w λx q=>c7 (aZ x q) (by decide)) (c7 U (by decide))⟩;have fin:=hQ _ _ t qt rS rT;walk_at "vs";refine⟨aI S H (by decide),aI b1 U (by decide),_,_,40,rfl,⟨M,b2,by decide,by rw[AN];lia⟩,?_⟩;refine⟨Z,_,17,rfl,⟨w,U,by decide,by lia⟩,ai (by simp),?_⟩;exact fin
noncomputable def BS:List CS:=[.set 2 (.blt .abs [(.var 0)]),.set 3 (.var 1),.xD (.cmp .Gt (.var 3) (.int 0)) [.par [2,3] [(.var 3),(.bin .Mod (.var 2) (.var 3))]],.ret (.tup [(.bin .FloorDiv (.var 0) (.var 2)),(.bin .FloorDiv (.var 1) (.var 2))])]
noncomputable def zS:cA:=λa Q _=>∃(t b:Int)(n:Nat),a=[.int t,.int b]/\n<=8000/\0<b/\b.natAbs<2^n/\Q (wq (Rat.divInt t b))
theorem Zs{v:Nat->cA}{G:Nat->W}{m:Md}(p:List W)(Q:W->Prop)(R:Addr->Prop)(h:zS p Q R):wSs v G BS (cC m Q R) (aA 4 p):=by
 obtain⟨t,b,n,rfl,z,C,k,f⟩:=h;show wSs _ _ BS _ [some (.int t),some (.int b),none,none];unfold BS;refine aF (λa=>a=[some (.int t),some (.int b),some (.int t.natAbs),none]) (λN c=>?_) ?_
 ·walk_at "vs";rw[show(if t<0 then-t else t)=(t.natAbs:Int) by split<;>lia];exact c _ rfl
 rintro _ rfl;refine aF (λa=>a=[some (.int t),some (.int b),some (.int t.natAbs),some (.int b)]) (λN c=>?_) ?_
 ·walk_at "vs";exact c _ rfl
 rintro _ rfl;refine aF (λa=>a=[some (.int t),some (.int b),some (.int (Int.gcd t b:Nat)),some (.int 0)]) (λN c=>?_) ?_
 ·walk_at "vs";refine jn (α:=Int×Int) (λx=>[some (.int t),some (.int b),some (.int x.1),some (.int x.2)]) (λx=>0<=x.1/\0<=x.2/\Int.gcd x.1 x.2=Int.gcd t b) (λx=>x.2.natAbs) (t.natAbs,b) rfl ⟨by lia,by lia,by show Int.gcd ((t.natAbs:Nat):Int) b=Int.gcd t b;unfold Int.gcd;rw[Int.natAbs_natCast]⟩ ?_;rintro⟨x,y⟩ ⟨B,A,r⟩;walk_at "vs";refine dj (λj=>?_) (λj=>?_)
  ·have d:0<y:=Bz j;have o:=oZ x y (x.fdiv y);have l:=qS x y (by lia);rw[←Num.fmod_eq]at o l;walk_at "vs";exact⟨by clear l o d;lia,rfl,(y,x.fmod y),rfl,⟨by lia,wx x d,o.trans r⟩,l⟩
  ·have d:y=0:=by have:=Sr j;lia
   subst d;have e:x=((Int.gcd t b:Nat):Int):=by rw[←r,mf];lia
   rw[e];exact c _ rfl
 rintro _ rfl;obtain⟨i,u,s⟩:=uw t b (by lia);have w:((Int.gcd t b:Nat):Int).natAbs<2^n:=by have:((Int.gcd t b:Nat):Int)<=b.natAbs:=bo (by clear s u i k;lia) (by rw[Int.dvd_natAbs];exact Re ..);omega
 unfold wq at f;generalize((Int.gcd t b:Nat):Int)=g at*;rw[u,s]at f;rw[Bi (by lia)]at i f;walk_at "vs";have q:=gY (y:=g) w z;exact⟨⟨i,q⟩,⟨i,q⟩,ai (by simp),f⟩
theorem p_add{G:Nat->W}{m:Md}(f:List W)(Q:W->Prop)(R:Addr->Prop)(h:BB HAdd.hAdd f Q R):wSs (cN [zS]) G BA (cC m Q R) (aA 2 f):=by
 obtain⟨a,b,n,k,rfl,i,g,d,j⟩:=h;show wSs _ _ BA _ [some (wq a),some (wq b)];have c:(a.den:Int).natAbs<2^n:=by rw[Bx];exact i.2
 have e:(b.den:Int).natAbs<2^k:=by rw[Bx];exact g.2
 have o:=a.den_pos;have l:=b.den_pos;unfold BA;walk_at "vs";refine⟨_,rfl,_,rfl,aI i.1 e (by lia),_,rfl,_,rfl,aI g.1 c (by lia),_,rfl,_,rfl,aI c e (by lia),?_⟩;refine⟨_,_,n+k,rfl,d,ui (by lia) (by lia),by rw[Fh];exact lt_mul c e,?_⟩;rw[Ze];exact j
theorem Zt{G:Nat->W}{m:Md}(e:List W)(Q:W->Prop)(R:Addr->Prop)(h:BB HMul.hMul e Q R):wSs (cN [zS]) G jO (cC m Q R) (aA 2 e):=by
 obtain⟨a,b,n,k,rfl,g,f,d,j⟩:=h;show wSs _ _ jO _ [some (wq a),some (wq b)];have c:(a.den:Int).natAbs<2^n:=by rw[Bx];exact g.2
 have i:(b.den:Int).natAbs<2^k:=by rw[Bx];exact f.2
 have o:=a.den_pos;have l:=b.den_pos;unfold jO;walk_at "vs";refine⟨_,rfl,_,rfl,aI g.1 f.1 (by lia),_,rfl,_,rfl,aI c i (by lia),?_⟩;refine⟨_,_,n+k,rfl,d,ui (by lia) (by lia),by rw[Fh];exact lt_mul c i,?_⟩;rw[VW];exact j
theorem Gr{a b:List Rat}(o:ay a)(h:a≠[])(k:ay b)(d:b≠[]):aH (mulQ a b)=mulQ a b:=by
 refine uy λx c=>?_;have q:=Dx.mpr h;have p:=Dx.mpr d;have l:(mulQ a b).length=a.length+b.length -1:=by unfold mulQ;exact fE ..
 have e:=Dg a b (a.length+b.length -2);have t:=kq (f:=cQ a) (g:=cQ b) (n:=a.length -1) (m:=b.length -1) (λi j=>ic (by lia)) (λi j=>ic (by lia));rw[show a.length -1+(b.length -1)=a.length+b.length -2 by lia]at t;rw[Ha,l,show a.length+b.length -1 -1=a.length+b.length -2 by lia]at c;rw[AC,c]at e;have e:x=cQ a (a.length -1)*cQ b (b.length -1):=e.trans t;rw[e];exact λz=>(Pm.mp z).elim (mP o h) (mP k d)
noncomputable def u7:List CS:=[.set 2 (.bin .Mult (.lst [(.tup [(.int 0),(.int 1)])]) (.blt .max2 [(.int 0),(.bin .Sub (.bin .Add (.blt .len [(.var 0)]) (.blt .len [(.var 1)])) (.int 1))])),.fr [3] true (.oO [(.blt .len [(.var 0)])]) [.fr [4] true (.oO [(.blt .len [(.var 1)])]) [.put 2 (.bin .Add (.var 3) (.var 4)) (.call 0 [(.ix (.var 2) (.bin .Add (.var 3) (.var 4))),(.call 1 [(.ix (.var 0) (.var 3)),(.ix (.var 1) (.var 4))])])]],.iff (.or [(.cmp .Eq (.var 0) (.lst [])),(.cmp .Eq (.var 1) (.lst []))]) [.ret (.lst [])] [],.ret (.var 2)]
noncomputable def xZ:cA:=λd Q _=>∃(a b:List Rat)(n m:Nat),d=[af a,af b]/\(ay a/\ay b)/\(∀x∈a,Bd n x)/\(∀x∈b,Bd m x)/\(∃c:Nat,(∀i j k,i<a.length->Bd c (i6 a b i j k))/\c+(n+m)<=8000)/\a.length<=100/\b.length<=100/\Q (af (aH (mulQ a b)))
theorem BU{a b:List Rat}(h:af a=af b):a=b:=by unfold af at h;rw[W.lst.injEq]at h;exact(tf λa b e=>by unfold wq at e;simp only[W.tup.injEq,mM,W.int.injEq,and_true]at e;exact Rat.ext e.1 (by have:=e.2;lia)).mp h
theorem PN:W.tup [.int 0,.int 1]=wq 0:=rfl
theorem Wa{G:Nat->W}{m:Md}(C:List W)(Q:W->Prop)(R:Addr->Prop)(h:xZ C Q R):wSs (cN [BB HAdd.hAdd,BB HMul.hMul]) G u7 (cC m Q R) (aA 5 C):=by
 obtain⟨b,a,n,k,rfl,⟨K,J⟩,T,S,⟨Z,P,t⟩,la,lb,l⟩:=h;show wSs _ _ u7 _ [some (af b),some (af a),none,none,none];unfold u7;refine aF (λd=>∃o3 c,d=[some (af b),some (af a),some (af (ia (b.length+a.length -1) (yG b a 0))),o3,c]) (λN t=>?_) ?_
 ·unfold af at t⊢;walk_at "vs";simp only[PN];refine⟨ai (by simp),ai (by simp),?_⟩;have X:(if((b.map wq).length:Int)+((a.map wq).length:Int) -1>0 then((b.map wq).length:Int)+((a.map wq).length:Int) -1 else 0)=((b.length+a.length -1:Nat):Int):=by rw[AN,AN];split<;>lia
  rw[X,Int.toNat_natCast,iN];have:ia (b.length+a.length -1) (yG b a 0)=List.replicate (b.length+a.length -1) 0:=by unfold ia;have:yG b a 0=λ_=>0:=rfl;rw[this,List.map_const',Pt]
  refine⟨by lia,by lia,ai (by simp;lia),t _ ⟨none,none,?_⟩⟩;rw[this,td]
 rintro _ ⟨o3,c,rfl⟩;refine aF (λd=>∃o3 c,d=[some (af b),some (af a),some (af (mulQ b a)),o3,c]) (λN u=>?_) ?_
 ·unfold af at u⊢;walk_at "vs";refine⟨by rw[AN];lia,by rw[AN];lia,?_⟩;rw[Int.toNat_natCast,AN];refine bU (λi v=>∃o3 c,v=[some (.lst (b.map wq)),some (.lst (a.map wq)),some (.lst ((ia (b.length+a.length -1) (yG b a i)).map wq)),o3,c]) ⟨o3,c,rfl⟩ ?_ ?_
  ·rintro i w _ N1 O ⟨o3,c,rfl⟩ L;obtain⟨A,rfl⟩:=oJ O;walk_at "vs";refine⟨by rw[AN];lia,by rw[AN];lia,?_⟩;rw[Int.toNat_natCast,AN];refine bU (λj v=>∃c,v=[some (.lst (b.map wq)),some (.lst (a.map wq)),some (.lst ((ia (b.length+a.length -1) (i6 b a i j)).map wq)),some (.int i),c]) ⟨c,?_⟩ ?_ ?_
   ·rw[show i6 b a i 0=yG b a i from funext λk=>Hx b a i k]
   ·rintro j w _ N2 Ak ⟨c,rfl⟩ u;obtain⟨D,rfl⟩:=oJ Ak;have e:(i:Int)+(j:Int)=((i+j:Nat):Int):=by lia
    have o:i+j<(ia (b.length+a.length -1) (i6 b a i j)).length:=by rw[fE];lia
    walk_at "vs";rw[e];refine⟨_,b8 (DS o),_,b8 (DS A),_,b8 (DS D),?_⟩;have I:Bd n (b.getD i 0):=T _ (by rw[AC,B1 A];exact Qr _);have H:Bd k (a.getD j 0):=S _ (by rw[AC,B1 D];exact Qr _);refine⟨_,_,n,k,rfl,I,H,by lia,?_⟩;have Y:(ia (b.length+a.length -1) (i6 b a i j)).getD (i+j) 0=i6 b a i j (i+j):=by rw[AC,E2 (by rw[fE]at o;exact o)];rfl
    rw[Y];refine⟨_,_,Z,n+k,rfl,P i j _ A,Tv I H,t,i+j,gZ (by rw[AN];exact o),u _ ⟨some (.int j),?_⟩⟩;have U:(ia (b.length+a.length -1) (i6 b a i j)).set (i+j) (i6 b a i j (i+j)+b.getD i 0*a.getD j 0)=ia (b.length+a.length -1) (i6 b a i (j+1)):=by have z:=J8 (n:=b.length+a.length -1) (f:=i6 b a i j) (g:=i6 b a i (j+1)) (k:=i+j) (by rw[fE]at o;exact o) (λq _ l=>by rw[xA,Bi l,Rat.add_zero]);rw[xA,Bn rfl]at z;exact z
    rw[←dE,U]
   ·rintro _ ⟨c,rfl⟩;refine L _ ⟨some (.int i),c,?_⟩;rw[zF,show i6 b a i a.length=yG b a (i+1)from funext λk=>Hy b a i k]
  ·rintro _ ⟨o3,c,rfl⟩;rw[zF];exact u _ ⟨o3,c,rfl⟩
 rintro _ ⟨o3,c,rfl⟩;refine aF (λd=>(b≠[]/\a≠[])/\d=[some (af b),some (af a),some (af (mulQ b a)),o3,c]) (λN B=>?_) ?_
 ·walk_at "vs";refine⟨ai (by simp),jo (y:=[]) λk1 F=>?_⟩;have s:(b=[]\/a=[])->aH (mulQ b a)=[]:=λh=>by
   refine yH (bJ _) (λx M=>by simp at M) λk=>?_;refine(o9 _ k).trans ((Dg b a k).trans ?_);rcases h with rfl|rfl
   ·exact((bT (f':=λ_=>0) (λi=>by simp) (λ_=>rfl) k).trans (dI _ k)).trans (by simp)
   ·rw[dO];exact((bT (f':=λ_=>0) (λi=>by simp) (λ_=>rfl) k).trans (dI _ k)).trans (by simp)
  by_cases r:b=[]
  ·cases b9 F r;walk_at "vs";rw[s (.inl r)]at l;exact⟨ai (by simp),l⟩
  ·cases b7 F r;walk_at "vs";refine⟨ai (by simp),jo (y:=[]) λk2 E=>?_⟩;by_cases p:a=[]
   ·cases b9 E p;walk_at "vs";rw[s (.inr p)]at l;exact⟨ai (by simp),l⟩
   ·cases b7 E p;exact B _ ⟨⟨r,p⟩,rfl⟩
 rintro _ ⟨⟨r,p⟩,rfl⟩;rw[Gr K r J p]at l;walk_at "vs";exact l
theorem mY{a b:List Rat}{g f d c k1 k2:Nat}{Q:W->Prop}{R:Addr->Prop}(j:Rw g d k1 a)(i:Rw f c k2 b)(h:k1<=d/\k2<=c/\d+c+5+(d+c)<=8000/\g<=30/\f<=100)(q:Q (af (aH (mulQ a b)))):xZ [af a,af b] Q R:=by obtain⟨o,l,n,m,e,k⟩:=Zo (R:=R) j i h q;simp only[mM,and_true]at e;rw[←BU e.1,←BU e.2]at k;exact⟨a,b,n,m,rfl,⟨j.z,i.z⟩,k⟩
noncomputable def p6:List CS:=[.set 2 (.lst []),.iff (.or [(.cmp .Lt (.var 0) (.int 0)),(.cmp .GtE (.var 0) (.bin .Pow (.int 10) (.int 18)))]) [.fr [3] true (.var 1) [.app 2 (.bin .Mod (.var 0) (.var 3)),.set 0 (.bin .FloorDiv (.var 0) (.var 3))],.ret (.var 2)] [],.set 4 (.bin .Add (.bin .Mod (.var 0) (.int 2147483629)) (.int 29)),.fr [3] true (.var 1) [.set 4 (.bin .Mod (.bin .Add (.bin .Mult (.var 4) (.int 69069)) (.int 12345)) (.int 2147483587)),.app 2 (.bin .Mod (.bin .FloorDiv (.bin .Mod (.bin .Mult (.var 4) (.int 40503)) (.int 2147483563)) (.int 11)) (.var 3))],.ret (.var 2)]
noncomputable def u9:cA:=λd Q _=>∃(c:Int)(a:List Int),d=[.int c,wI a]/\(a.length<=900/\∀z∈a,0<z/\z<=1000)/\∀b:List Int,b.length=a.length->(∀n∈b,0<=n/\n<1000)->Q (wI b)
theorem Mh{ns:List Int}{P:Int->Prop}{z:Int}(h:∀n∈ns,P n)(hz:P z):∀n∈ns++[z],P n:=λn b=>by
 rcases Iy.mp b with a|a
 ·exact h n a
 ·rw[Fn.mp a];exact hz
theorem PR{t:Nat->cA}{G:Nat->W}{m:Md}(B:List W)(Q:W->Prop)(R:Addr->Prop)(h:u9 B Q R):wSs t G p6 (cC m Q R) (aA 5 B):=by
 obtain⟨c,d,rfl,⟨E,hz⟩,C⟩:=h;show wSs _ _ p6 _ [some (.int c),some (wI d),none,none,none];unfold p6;refine aF (λa=>a=[some (.int c),some (wI d),some (.lst []),none,none]) (λN j=>?_) ?_
 ·walk_at "vs";exact⟨ai (by simp),j _ rfl⟩
 rintro _ rfl;have p:∀{i:Nat}{w:W},(d.map W.int)[i]?=some w->∃z,w=.int z/\0<z/\z<=1000/\i<d.length:=λ{i w} l=>by
  have q:i<d.length:=by have:=(Fs.mp l).1;simpa using this
  rw[int_at q]at l;cases l;have:=DT hz q;exact⟨_,rfl,this.1,this.2,q⟩
 refine aF (λa=>a=[some (.int c),some (wI d),some (.lst []),none,none]) (λN j=>?_) ?_
 ·have k:oF (λw H a=>wSs t G [.app 2 (.bin .Mod (.var 0) (.var 3)),.set 0 (.bin .FloorDiv (.var 0) (.var 3))] H (a.set 3 (some w))) {nx:=λa=>wSs t G [.ret (.var 2)] {(cC m Q R)with nx:=N} a,rt:=(cC m Q R).rt,bk:=(cC m Q R).bk,ct:=(cC m Q R).ct,ex:=(cC m Q R).ex} (d.map W.int) [some (.int c),some (wI d),some (.lst []),none,none]:=by
   refine bU (λi r=>∃(o:Int)(b:List Int)(o3:Option W),(b.length=i/\∀n∈b,0<=n/\n<1000)/\r=[some (.int o),some (wI d),some (wI b),o3,none]) ⟨c,[],none,⟨rfl,by simp⟩,rfl⟩ ?_ ?_
   ·rintro i w _ F l ⟨o,b,o3,⟨e,g⟩,rfl⟩ y;obtain⟨z,rfl,v,D,q⟩:=p l;have f:=fm (x:=o) (n:=z) v;rw[show wI b=W.lst (b.map W.int)from rfl];walk_at "vs";refine⟨by lia,DO (by rw[AN];lia),⟨by lia,gY (n:=10) (by lia) (by decide)⟩,y _ ⟨o.fdiv z,b++[o.fmod z],some (.int z),⟨by rw[Ee,e];rfl,Mh g (by lia)⟩,?_⟩⟩;unfold wI;rw[SL];rfl
   ·rintro _ ⟨o,b,o3,⟨e,g⟩,rfl⟩;rw[AN]at e;walk_at "vs";exact C b e g
  unfold wI at j k⊢;walk_at "vs";by_cases h:c<0
  ·rw[Bn (Os h)];exact k
  ·rw[Bi (by rw[L9];exact h)];refine⟨C1 (by decide) (by decide) (by decide),?_⟩;split
   ·exact k
   ·exact j _ rfl
 rintro _ rfl;refine aF (λa=>∃s:Int,(0<=s/\s<2147484000)/\a=[some (.int c),some (wI d),some (.lst []),none,some (.int s)]) (λN j=>?_) ?_
 ·walk_at "vs";have f:=fm (x:=c) (n:=2147483629) (by decide);exact⟨by decide,j _ ⟨_,by clear f E;lia,rfl⟩⟩
 rintro _ ⟨s,A,rfl⟩;refine aF (λa=>∃(s:Int)(b:List Int)(o3:Option W),(b.length=d.length/\∀n∈b,0<=n/\n<1000)/\a=[some (.int c),some (wI d),some (wI b),o3,some (.int s)]) (λN j=>?_) ?_
 ·unfold wI at j⊢;walk_at "vs";refine bU (λi r=>∃(s:Int)(b:List Int)(o3:Option W),((0<=s/\s<2147484000)/\b.length=i/\∀n∈b,0<=n/\n<1000)/\r=[some (.int c),some (.lst (d.map W.int)),some (.lst (b.map W.int)),o3,some (.int s)]) ⟨s,[],none,⟨A,rfl,by simp⟩,rfl⟩ ?_ ?_
  ·rintro i w _ F l ⟨s,b,o3,⟨A,e,g⟩,rfl⟩ y;obtain⟨z,rfl,v,D,q⟩:=p l;walk_at "vs";have J:=fm (x:=s*69069+12345) (n:=2147483587) (by decide);generalize(s*69069+12345).fmod 2147483587=u at*;have I:=fm (x:=((u*40503).fmod 2147483563).fdiv 11) (n:=z) v;refine⟨aI (n:=32) (m:=32) (by lia) (by decide) (by decide),by decide,aI (n:=32) (m:=32) (by lia) (by decide) (by decide),by decide,⟨by decide,by decide⟩,by lia,DO (by rw[AN];lia),y _ ⟨u,b++[(((u*40503).fmod 2147483563).fdiv 11).fmod z],some (.int z),⟨by lia,by rw[Ee,e];rfl,Mh g (by lia)⟩,?_⟩⟩;rw[SL];rfl
  ·rintro _ ⟨s,b,o3,⟨A,e,g⟩,rfl⟩;rw[AN]at e;exact j _ ⟨s,b,o3,⟨e,g⟩,rfl⟩
 rintro _ ⟨s,b,o3,⟨e,g⟩,rfl⟩;walk_at "vs";exact C b e g
noncomputable def BV:List CS:=[.ret (.ite (.cmp .Lt (.var 1) (.blt .len [(.var 0)])) (.ix (.var 0) (.var 1)) (.int 0))]
noncomputable def PU:cA:=λa Q _=>∃(b:List Int)(k:Nat),a=[.g9 b,.int k]/\∀z:Int,Q (.int z)
theorem Zu{d:Nat->cA}{G:Nat->W}{m:Md}(b:List W)(Q:W->Prop)(R:Addr->Prop)(h:PU b Q R):wSs d G BV (cC m Q R) (aA 2 b):=by
 obtain⟨a,k,rfl,c⟩:=h;show wSs _ _ BV _ [some (.g9 a),some (.int k)];unfold BV;walk_at "vs";by_cases e:k<a.length
 ·rw[Bn (Os (by lia))];refine⟨a.getD k 0,?_,c _⟩;unfold m9 yv;rw[Bn (by lia),Bn (by lia)];show a[((k:Int)).toNat]?=_;rw[Int.toNat_natCast,AC,B1 e];rfl
 ·rw[Bi (by rw[L9];lia)];exact c _
noncomputable def p7:List CS:=[.set 2 (.comp [0] true 1 (.oO [(.bin .FloorDiv (.blt .len [(.var 0)]) (.int 2))]) (.bl true) (.call 0 [(.bin .Sub (.bin .Mod (.ix (.var 1) (.bin .Mult (.int 2) (.var 0))) (.int 19)) (.int 9)),(.bin .Add (.int 1) (.bin .Mod (.ix (.var 1) (.bin .Add (.bin .Mult (.int 2) (.var 0)) (.int 1))) (.var 2)))])),.xD (.and [(.cmp .NotEq (.var 2) (.lst [])),(.cmp .Eq (.ix (.ix (.var 2) (.neg (.int 1))) (.int 0)) (.int 0))]) [.drop 2],.ret (.var 2)]
noncomputable def vd:cA:=λb Q _=>∃a:List Int,b=[wI a,.int 3]/\a.length<=20/\∀r:List Rat,Rw (a.length/2) 6 3 r->Q (af r)
theorem Wb{x y:Int}:Cd 6 6 (Rat.divInt (x.fmod 19 -9) (1+y.fmod 3)):=by
 have j:=fm (x:=x) (n:=19) (by decide);have i:=fm (x:=y) (n:=3) (by decide);generalize x.fmod 19=u at*;generalize y.fmod 3=v at*;have:v=0\/v=1\/v=2:=by lia
 have g:∀(u:Int){d:Int},d≠0->Rat.divInt u d*(d:Rat)=u:=λu {d} h=>by rw[XB,hU (bV h)]
 have a:∀d e:Int,d≠0->d*e=6->((u -9)*e).natAbs<64->Cd 6 6 (Rat.divInt (u -9) d):=λd e f c b=>⟨(u -9)*e,by rw[←c,FM,FM,←ar,g _ f],b⟩;rcases this with rfl|rfl|rfl
 ·exact a _ 6 (by decide) (by decide) (by lia)
 ·exact a _ 3 (by decide) (by decide) (by lia)
 ·exact a _ 2 (by decide) (by decide) (by lia)
theorem PV{G:Nat->W}{A:Md}(q:List W)(Q:W->Prop)(R:Addr->Prop)(h:vd q Q R):wSs (cN [zS]) G p7 (cC A Q R) (aA 3 q):=by
 obtain⟨a,rfl,E,B⟩:=h;show wSs _ _ p7 _ [some (wI a),some (.int 3),none];unfold p7;refine aF (λf=>∃c:List Rat,(c.length=a.length/2/\∀x∈c,Cd 6 6 x)/\f=[some (wI a),some (.int 3),some (af c)]) (λN k=>?_) ?_
 ·unfold wI at k⊢;walk_at "vs";rw[AN,show((a.length:Nat):Int).fdiv 2=((a.length/2:Nat):Int) by rw[PP _ (by decide)];lia];refine⟨⟨by decide,by decide⟩,by lia,by lia,?_⟩;rw[Int.toNat_natCast];unfold jK;refine cP (h:=λi:Nat=>W.int (0+(i:Int)*1)) (g:=λi:Nat=>wq (Rat.divInt ((a.getD (2*i) 0).fmod 19 -9) (1+(a.getD (2*i+1) 0).fmod 3))) _ [] _ (λi s K C=>?_) (ai (by simp;lia)) ?_
  ·have s:=cm.mp s;have mo:IntMulOk 2 (i:Int):=aI (n:=2) (m:=10) (by decide) (by lia) (by decide);have F:=fm (x:=a.getD (2*i+1) 0) (n:=3) (by decide);rw[show 0+(i:Int)*1=i by lia];have D:m9 (a.map W.int) (2*(i:Int))=some (.int (a.getD (2*i) 0)):=by rw[show 2*(i:Int)=((2*i:Nat):Int) by lia];exact b8 (int_at (by lia))
   have a2:m9 (a.map W.int) (2*(i:Int)+1)=some (.int (a.getD (2*i+1) 0)):=by rw[show 2*(i:Int)+1=((2*i+1:Nat):Int) by lia];exact b8 (int_at (by lia))
   walk_at "vs";refine⟨mo,_,D,?_⟩;walk_at "vs";refine⟨by decide,mo,_,a2,?_⟩;walk_at "vs";exact⟨by decide,_,_,3,rfl,by decide,by lia,by lia,C⟩
  ·have:=k [some (.lst (a.map W.int)),some (.int 3),some (af ((List.range (a.length/2)).map λi:Nat=>Rat.divInt ((a.getD (2*i) 0).fmod 19 -9) (1+(a.getD (2*i+1) 0).fmod 3)))] ⟨_,⟨by rw[AN,Pt],λx d=>by obtain⟨i,_,rfl⟩:=Hk.mp d;exact Wb⟩,rfl⟩;unfold af at this;rw[SZ]at this;exact this
 rintro _ ⟨c,⟨r,p⟩,rfl⟩;refine aF (λf=>∃c:List Rat,(c.length<=a.length/2/\(∀x∈c,Cd 6 6 x)/\ay c)/\f=[some (wI a),some (.int 3),some (af c)]) (λN k=>?_) ?_
 ·walk_at "vs";refine jn (α:=List Rat) (λx=>[some (wI a),some (.int 3),some (af x)]) (λx=>x.length<=a.length/2/\∀y∈x,Cd 6 6 y) (λx=>x.length) c rfl ⟨by lia,p⟩ ?_;rintro w ⟨l,o⟩;walk_at "vs";refine⟨ai (by simp),VU (y:=[]) λb j=>?_⟩;walk_at "vs";rcases ik w with rfl|⟨t,y,rfl⟩
  ·cases b9 j rfl;walk_at "vs";exact dj (λz=>by cases z) (λ_=>k _ ⟨[],⟨l,o,λx d=>by simp at d⟩,rfl⟩)
  ·rw[il]at*;cases b7 j (by simp);walk_at "vs";refine⟨_,uW fI,_,rfl,?_⟩;walk_at "vs";refine dj (λz=>?_) (λz=>?_)
   ·unfold af;walk_at "vs";refine⟨wq y,by simp,t,by rw[SL];simp,⟨?_,λx d=>o x (X1 _ d)⟩,by simp⟩;rw[Ee]at l;lia
   ·have v:y≠0:=λe=>by rw[e]at z;cases z
    exact k _ ⟨_,⟨l,o,λx d=>by rw[fI]at d;cases d;exact v⟩,rfl⟩
 rintro _ ⟨c,⟨r,p,u⟩,rfl⟩;walk_at "vs";exact B c ⟨r,u,6,by decide,by decide,p⟩
noncomputable def p8:List CS:=[.ret (.cmp .Eq (.call 0 [(.ix (.var 0) (.int 0)),(.ix (.var 1) (.int 1))]) (.call 0 [(.ix (.var 1) (.int 0)),(.ix (.var 0) (.int 1))]))]
noncomputable def zT:cA:=λc Q _=>∃s t a b:List Rat,c=[.tup [af s,af t],.tup [af a,af b]]/\(Rw 7 2000 50 s/\Rw 7 2000 50 t/\Rw 5 6 3 a/\Rw 5 6 3 b/\aG (cQ s) (cQ b)=aG (cQ a) (cQ t))/\Q (.bl true)
theorem PY{G:Nat->W}{m:Md}(c:List W)(Q:W->Prop)(R:Addr->Prop)(h:zT c Q R):wSs (cN [xZ]) G p8 (cC m Q R) (aA 2 c):=by
 obtain⟨s,t,a,b,rfl,⟨f,d,i,g,e⟩,j⟩:=h;show wSs _ _ p8 _ [some (.tup [af s,af t]),some (.tup [af a,af b])];unfold p8;walk_at "vs";refine⟨_,rfl,_,rfl,mY f g (by decide) ?_⟩;refine⟨_,rfl,_,rfl,mY i d (by decide) ?_⟩;refine jo λk l=>?_;have:aH (mulQ s b)=aH (mulQ a t):=yH (bJ _) (bJ _) λk=>by have:=congrFun e k;have o:=kr s b k;have n:=kr a t k;exact(o.trans this).trans n.symm
 cases b9 l this;exact j
noncomputable def iS:List CS:=[.iff (.not (.blt .Cy [(.var 0),(.FI "list")])) [.ret (.bl false)] [],.fr [1] true (.var 0) [.iff (.or [(.not (.blt .Cy [(.var 1),(.FI "tuple")])),(.cmp .NotEq (.blt .len [(.var 1)]) (.int 2)),(.not (.call 0 [(.ix (.var 1) (.int 0))])),(.not (.call 0 [(.ix (.var 1) (.int 1))]))]) [.ret (.bl false)] [],.iff (.or [(.cmp .Lt (.ix (.var 1) (.int 1)) (.int 1)),(.cmp .NotEq (.call 1 [(.ix (.var 1) (.int 0)),(.ix (.var 1) (.int 1))]) (.var 1))]) [.ret (.bl false)] []],.ret (.or [(.cmp .Eq (.var 0) (.lst [])),(.cmp .NotEq (.ix (.ix (.var 0) (.neg (.int 1))) (.int 0)) (.int 0))])]
noncomputable def mZ:cA:=λa Q _=>∃r:List Rat,a=[af r]/\Rw 7 2000 50 r/\Q (.bl true)
theorem Eh{G:Nat->W}{m:Md}(c:List W)(Q:W->Prop)(R:Addr->Prop)(h:mZ c Q R):wSs (cN [zO,zS]) G iS (cC m Q R) (aA 2 c):=by
 obtain⟨r,rfl,f,g⟩:=h;have u:=f.bd (by decide);have hz:=f.z;show wSs _ _ iS _ [some (af r),none];unfold iS;refine aF (λa=>a=[some (af r),none]) (λN b=>?_) ?_
 ·unfold af at b⊢;walk_at "vs";simp only[Ge];refine⟨_,rfl,?_⟩;exact b _ rfl
 rintro _ rfl;refine aF (λa=>∃o,a=[some (af r),o]) (λN b=>?_) ?_
 ·unfold af at b⊢;walk_at "vs";refine bU (λi l=>∃o,l=[some (.lst (r.map wq)),o]) ⟨none,rfl⟩ ?_ ?_
  ·rintro i w _ B d ⟨o,rfl⟩ q;rw[DD]at d;obtain⟨x,s,rfl⟩:=Oy.mp d;have A:=u x (KB s);have v:0<(x.den:Int):=by have:=x.den_pos;lia
   rw[show wq x=W.tup [.int x.num,.int x.den]from rfl];walk_at "vs";simp only[Ge];refine⟨_,rfl,?_⟩;walk_at "vs";rw[Bi (by decide),Bi (by simp)];refine⟨_,rfl,_,rfl,?_⟩;walk_at "vs";refine⟨_,rfl,_,rfl,?_⟩;walk_at "vs";refine⟨_,rfl,?_⟩;walk_at "vs";rw[Bi (by rw[L9];lia)];refine⟨_,rfl,_,rfl,_,_,2000,rfl,by decide,v,by rw[Bx];exact A.2,?_⟩;rw[UV];exact neQ (q _ ⟨_,rfl⟩)
  ·rintro _ ⟨o,rfl⟩;exact b _ ⟨o,rfl⟩
 rintro _ ⟨o,rfl⟩;walk_at "vs";refine⟨ai (by simp),jo (y:=[]) λk j=>?_⟩;rcases ik r with rfl|⟨t,y,rfl⟩
 ·cases b9 j rfl;walk_at "vs";exact g
 ·rw[il]at*;cases b7 j (by simp);walk_at "vs";unfold af;refine⟨_,uW fI,_,rfl,?_⟩;have p:y≠0:=hz y fI;have n:y.num≠0:=λe=>p (Rat.num_eq_zero.mp e);walk_at "vs";rw[QR n];exact g
noncomputable def p9:List CS:=[.set 1 (.int 1),.fr [2] true (.var 0) [.set 1 (.bin .Mult (.var 1) (.ix (.call 0 [(.ix (.var 2) (.int 1)),(.var 1)]) (.int 0)))],.ret (.comp [0] true 1 (.var 0) (.bl true) (.bin .Mult (.ix (.var 0) (.int 0)) (.bin .FloorDiv (.var 2) (.ix (.var 0) (.int 1)))))]
structure W0(r:List Rat)(ns:List Int):Prop where
 len:ns.length=r.length
 at_:∃B:Int,B≠0/\∀i,cz ns i=(B:Rat)*cQ r i
 bd:∀x∈ns,x.natAbs<2^2400
noncomputable def zU:cA:=λb Q _=>∃r:List Rat,b=[af r]/\Rw 7 2000 50 r/\∀a,W0 r a->Q (wI a)
theorem PZ{d B:Int}(c:0<d)(j:0<B):0<(Rat.divInt d B).num/\(Rat.divInt d B).num<=d/\d∣B*(Rat.divInt d B).num:=by
 obtain⟨b,a,_⟩:=uw d B (by lia);rw[Bi (by lia)]at b a;have h:((Int.gcd d B:Nat):Int)∣d:=ag ..;have f:((Int.gcd d B:Nat):Int)∣B:=Re ..;have i:0<=((Int.gcd d B:Nat):Int):=by lia
 generalize((Int.gcd d B:Nat):Int)=g at*;rw[a,PP _ i];obtain⟨u,rfl⟩:=h;obtain⟨v,rfl⟩:=f;rw[fg _ b];have e:0<g:=by lia
 have up:0<u:=Int.pos_of_mul_pos_right c e;refine⟨up,?_,v,?_⟩
 ·have:=gN (show 1<=g by lia) (bj up);lia
 ·rw[SU,SU,UF v u]
theorem P4{G:Nat->W}{m:Md}(q:List W)(Q:W->Prop)(R:Addr->Prop)(h:zU q Q R):wSs (cN [zS]) G p9 (cC m Q R) (aA 3 q):=by
 obtain⟨r,rfl,p,I⟩:=h;have u:=p.bd (by decide);have S:=p.len;obtain⟨_,_,D,P,Z,O⟩:=p;have z:∀x∈r,(x.den:Int).natAbs<2^50:=λx a=>by have M:=(O x a).dvd.1;have:=bo P M;have:=x.den_pos;lia
 show wSs _ _ p9 _ [some (af r),none,none];unfold p9;refine aF (λb=>b=[some (af r),some (.int 1),none]) (λN n=>?_) ?_
 ·walk_at "vs";exact n _ rfl
 rintro _ rfl;refine aF (λb=>∃(B:Int)(o:Option W),(0<B/\B.natAbs<2^400/\∀x∈r,(x.den:Int)∣B)/\b=[some (af r),some (.int B),o]) (λN n=>?_) ?_
 ·unfold af at n⊢;walk_at "vs";refine bU (λi A=>∃(B:Int)(o:Option W),(0<B/\B.natAbs<2^(50*i+1)/\∀j,j<i->((r.getD j 0).den:Int)∣B)/\A=[some (.lst (r.map wq)),some (.int B),o]) ⟨1,none,⟨by decide,by decide,λj l=>by lia⟩,rfl⟩ ?_ ?_
  ·rintro i w _ Y t ⟨B,o,⟨f,c,d⟩,rfl⟩ E;rw[DD]at t;obtain⟨x,a,rfl⟩:=Oy.mp t;have U:=(Fs.mp a).1;have ex:r.getD i 0=x:=by rw[AC,a];rfl
   have X:=z x (KB a);have L:0<(x.den:Int):=by have:=x.den_pos;lia
   obtain⟨H,T,F⟩:=PZ L f;walk_at "vs";refine⟨_,rfl,_,B,400,rfl,by decide,f,c7 c (by lia),?_⟩;refine⟨_,rfl,?_⟩;walk_at "vs";have v:(Rat.divInt (x.den:Int) B).num.natAbs<2^50:=by lia
   refine⟨aI c v (by lia),E _ ⟨_,_,⟨ui f H,?_,λj l=>?_⟩,rfl⟩⟩
   ·rw[Fh];exact c7 (lt_mul c v) (by lia)
   ·by_cases e:j=i
    ·subst e;rw[ex];exact F
    ·exact vk (d j (by lia))
  ·rintro _ ⟨B,o,⟨f,c,d⟩,rfl⟩;rw[AN]at c d;refine n _ ⟨B,o,⟨f,c7 c (by lia),λx a=>?_⟩,rfl⟩;obtain⟨j,l,e⟩:=TK a;have:=d j l;rw[AC,B1 l]at this;rw[←e];exact this
 rintro _ ⟨B,o,⟨f,c,d⟩,rfl⟩;have dz:∀x:Rat,0<(x.den:Int):=λx=>by have:=x.den_pos;lia
 have k:∀x∈r,(B/x.den).natAbs<2^400:=λx a=>by have:=tq B (x.den:Int);lia
 have C:W0 r (r.map λx=>x.num*(B/x.den)):=by
  refine⟨AN _,⟨B,by lia,λi=>?_⟩,λx a=>?_⟩
  ·show(((r.map λx=>x.num*(B/x.den)).getD i 0:Int):Rat)=(B:Rat)*r.getD i 0;rw[AC,AC,DD];cases e:r[i]? with
   |none=>show((0:Int):Rat)=_*0;rw[NA];rfl
   |some x=>rw[oI];exact jD (d x (KB e))
  ·obtain⟨y,s,rfl⟩:=Hk.mp a;rw[Fh];exact lt_mul (u y s).1 (k y s)
 unfold af;walk_at "vs";refine cP (h:=wq) (g:=λx=>.int (x.num*(B/x.den))) r [] _ (λx a K J=>?_) (ai (by simp;lia)) ?_
 ·walk_at "vs";refine⟨_,rfl,_,rfl,?_⟩;walk_at "vs";rw[PP _ (bj (dz x))];exact⟨⟨by have:=dz x;lia,gY (z x a) (by decide)⟩,aI (u x a).1 (k x a) (by decide),J⟩
 ·have:=I _ C;unfold wI at this;rw[SZ]at this;exact this
theorem Gs{d:Nat->cA}{G:Nat->W}{c:CE}{b:List CS}{D:Dn}{a:Ev}{α:Type}(S:α->Ev)(J:α->Prop)(f:α->Nat)(e:α)(i:a=S e)(h:J e)(g:∀s,J s->wE d G (λ_=>False) c (S s) λx=>truth x (Z8 S J f (wSs d G b) D s)):wS d G (.xD c b) D a:=by show Og (λa Q=>wE d G (λ_=>False) c a λx=>truth x Q) (wSs d G b) D a;exact jn S J f e i h g
theorem Zv{d:Nat->cA}{G:Nat->W}{D:Dn}{c:Ev}{i:Nat}{e:CE}{b:List CS}{l:List W}(f:∀Q:W->Prop,Q (.lst l)->wE d G (λ_=>False) e c Q)(h:oF (λw D' a=>wSs d G b D' (a.set i (some w))) D l c):wS d G (.fr [i] true e b) D c:=f _ h
theorem Wc{y:Int}{n:Nat}(h:y.natAbs<2^n)(a:n<=999999999):y.natAbs.log2<1000000000:=by
 rcases hZ y.natAbs with e|e
 ·rw[e];decide
 ·have:=(Nat.log2_lt (oP e)).mpr h;lia
noncomputable def ve:List CS:=[.set 2 (.blt .list [(.var 0)]),.xD (.cmp .GtE (.blt .len [(.var 2)]) (.blt .len [(.var 1)])) [.set 3 (.ix (.var 2) (.neg (.int 1))),.set 4 (.bin .Sub (.blt .len [(.var 2)]) (.blt .len [(.var 1)])),.set 2 (.comp [0] true 1 (.var 2) (.bl true) (.bin .Mult (.var 0) (.ix (.var 2) (.neg (.int 1))))),.fr [5] true (.oO [(.blt .len [(.var 1)])]) [.put 2 (.bin .Add (.var 4) (.var 5)) (.bin .Sub (.ix (.var 2) (.bin .Add (.var 4) (.var 5))) (.bin .Mult (.var 3) (.ix (.var 1) (.var 5))))],.xD (.and [(.cmp .NotEq (.var 2) (.lst [])),(.cmp .Eq (.ix (.var 2) (.neg (.int 1))) (.int 0))]) [.drop 2]],.TM [2] [.set 6 (.int 0),.fr [7] true (.var 2) [.set 8 (.blt .abs [(.var 7)]),.xD (.cmp .Gt (.var 8) (.int 0)) [.FJ [6,8] (.tup [(.var 8),(.bin .Mod (.var 6) (.var 8))])]],.ret (.comp [0] true 1 (.var 2) (.bl true) (.bin .FloorDiv (.var 0) (.var 7)))]]
structure LO(A B C:List Int)(N:Nat):Prop where
 len:C.length<B.length
 tp:Tp C
 dv:∀d,(DQ d (cz B)/\DQ d (cz C))↔(DQ d (cz A)/\DQ d (cz B))
 bd:∀x∈C,x.natAbs<2^N
noncomputable def Gu:cA:=λa Q _=>∃(A B:List Int)(n m:Nat),a=[wI A,wI B]/\(A.length<=8/\B.length<=8/\0<B.length/\Tp A/\Tp B/\(∀x∈A,x.natAbs<2^n)/\(∀x∈B,x.natAbs<2^m)/\n+10*(m+1)<=100000000)/\∀C,LO A B C (n+(A.length+1 -B.length)*(m+1))->Q (wI C)
theorem Zw{x y:List Int}{Q:W->Prop}(h:∀k:Bool,(k=true↔x=y)->Q (.bl (!k))):ie .NotEq (wI x) (wI y) Q:=by have a:∀z:List Int,gj 9 (wI z)=true:=Me;refine⟨.inl ⟨a x,a y⟩,λk b=>h k (b.trans ⟨λe=>Ef e,λe=>by rw[e]⟩)⟩
theorem BW{l:List Int}{n:Nat}(h:∀x∈l,x.natAbs<2^n)(i:Nat):(l.getD i 0).natAbs<2^n:=by
 by_cases a:i<l.length
 ·exact h _ (Sub.getD_mem' a)
 ·rw[outI (by lia)];exact P2 (by decide)
theorem Wd(l:List Int)(p:Nat)(v:Int)(k:Nat)(h:p<l.length):(l.set p v).getD k 0=if k=p then v else l.getD k 0:=by
 rw[AC,oT];by_cases e:k=p
 ·rw[Bn e.symm,Bn e,Bn (by lia)];rfl
 ·rw[Bi (λz=>e z.symm),Bi e,←AC]
theorem We{Z:Nat->cA}{G:Nat->W}{D:Dn}{A B R:List Int}{o3 C b:Option W}{r m:Nat}(lR:R.length<=8)(lB:0<B.length)(hl:B.length<=R.length)(tB:Tp B)(J:∀x∈R,x.natAbs<2^r)(L:∀x∈B,x.natAbs<2^m)(hr:r+m<=100000000)
 (f:∀(X:List Int)(o3 C b:Option W),X.length<R.length->Tp X->(∀k,co X k=B.getD (B.length -1) 0*co R k -if R.length -B.length<=k then R.getD (R.length -1) 0*co B (k -(R.length -B.length))else 0)->(∀x∈X,x.natAbs<2^(r+m+1))->D.nx [some (wI A),some (wI B),some (wI X),o3,C,b,none,none,none]):
 wSs Z G [.set 3 (.ix (.var 2) (.neg (.int 1))),.set 4 (.bin .Sub (.blt .len [(.var 2)]) (.blt .len [(.var 1)])),.set 2 (.comp [0] true 1 (.var 2) (.bl true) (.bin .Mult (.var 0) (.ix (.var 2) (.neg (.int 1))))),.fr [5] true (.oO [(.blt .len [(.var 1)])]) [.put 2 (.bin .Add (.var 4) (.var 5)) (.bin .Sub (.ix (.var 2) (.bin .Add (.var 4) (.var 5))) (.bin .Mult (.var 3) (.ix (.var 1) (.var 5))))],.xD (.and [(.cmp .NotEq (.var 2) (.lst [])),(.cmp .Eq (.ix (.var 2) (.neg (.int 1))) (.int 0))]) [.drop 2]] D [some (wI A),some (wI B),some (wI R),o3,C,b,none,none,none]:=by
 generalize afu:R.length -B.length=a at*;generalize o:R.getD (R.length -1) 0=top at*;generalize M:B.getD (B.length -1) 0=l at*;have T:top.natAbs<2^r:=o▸BW J _;have bl:l.natAbs<2^m:=M▸BW L _;refine aF (λc=>c=[some (wI A),some (wI B),some (wI R),some (.int top),C,b,none,none,none]) (λN f=>?_) ?_
 ·rw[show wI R=W.lst (R.map W.int)from rfl]at f⊢;walk_at "vs";have:=pW (ns:=R) (by lia);rw[o]at this;exact⟨_,this,f _ rfl⟩
 rintro _ rfl;refine aF (λc=>c=[some (wI A),some (wI B),some (wI R),some (.int top),some (.int a),b,none,none,none]) (λN f=>?_) ?_
 ·rw[show wI R=W.lst (R.map W.int)from rfl,show wI B=W.lst (B.map W.int)from rfl]at f⊢;walk_at "vs";rw[AN,AN,show(R.length:Int) -(B.length:Int)=(a:Int) by lia];exact f _ rfl
 rintro _ rfl;refine aF (λc=>c=[some (wI A),some (wI B),some (wI (R.map (·*l))),some (.int top),some (.int a),b,none,none,none]) (λN f=>?_) ?_
 ·have:=f _ rfl;rw[show wI (R.map (·*l))=W.lst (R.map λx=>W.int (x*l)) by unfold wI;rw[SZ];rfl]at this;rw[show wI R=W.lst (R.map W.int)from rfl,show wI B=W.lst (B.map W.int)from rfl]at*;have s:=pW (ns:=B) lB;rw[M]at s;walk_at "vs";refine cP (h:=W.int) (g:=λx=>.int (x*l)) R [] _ (λx hx K hK=>?_) (ai (by simp;lia)) ?_
  ·walk_at "vs";refine⟨_,s,?_⟩;walk_at "vs";exact⟨aI (J x hx) bl (by lia),hK⟩
  ·exact this
 rintro _ rfl;refine aF (λc=>∃(X:List Int)(b:Option W),(X.length=R.length/\∀k,k<R.length->co X k=l*co R k -if a<=k then top*co B (k -a)else 0)/\c=[some (wI A),some (wI B),some (wI X),some (.int top),some (.int a),b,none,none,none]) (λN f=>?_) ?_
 ·refine V5 (n:=B.length) (by lia) (λQ q=>?_) ?_
  ·rw[show wI B=W.lst (B.map W.int)from rfl];walk_at "vs";rw[AN];exact q
  refine bU (λj U=>∃(X:List Int)(b:Option W),(X.length=R.length/\∀k,k<R.length->co X k=l*co R k -if a<=k/\k<a+j then top*co B (k -a)else 0)/\U=[some (wI A),some (wI B),some (wI X),some (.int top),some (.int a),b,none,none,none]) ⟨R.map (·*l),b,⟨AN _,λk d=>?_⟩,rfl⟩ ?_ ?_
  ·rw[Bi (by lia)];show(R.map (·*l)).getD k 0=l*R.getD k 0 -0;rw[AC,AC,DD,B1 d];show R[k]*l=l*R[k] -0;rw[UF];lia
  ·rintro j w _ N1 hw ⟨X,b,⟨E,p⟩,rfl⟩ oK;obtain⟨hj,rfl⟩:=oJ hw;have a1:m9 (X.map W.int) (((a+j:Nat):Nat):Int)=some (.int (X.getD (a+j) 0)):=b8 (int_at (by lia));have a2:m9 (B.map W.int) (j:Int)=some (.int (B.getD j 0)):=b8 (int_at hj);unfold wI;walk_at "vs";rw[show(a:Int)+(j:Int)=((a+j:Nat):Int) by lia];refine⟨_,a1,_,a2,?_⟩;walk_at "vs";refine⟨aI T (BW L j) (by lia),a+j,gZ (by rw[AN];lia),oK _ ⟨X.set (a+j) (X.getD (a+j) 0 -top*B.getD j 0),some (.int j),⟨by rw[Qb,E],λk d=>?_⟩,?_⟩⟩
   ·have v:=p k d;show(X.set (a+j) (X.getD (a+j) 0 -top*B.getD j 0)).getD k 0=_;rw[Wd _ _ _ _ (by lia)];by_cases e:k=a+j
    ·subst e;rw[Bn rfl,Bn (by lia),Pl];rw[Bi (by lia)]at v;have v:X.getD (a+j) 0=l*co R (a+j) -0:=v;rw[v];show _ -top*B.getD j 0=_ -top*B.getD j 0;lia
    ·rw[Bi e];refine v.trans ?_;by_cases z:a<=k/\k<a+j
     ·rw[Bn z,Bn (by lia)]
     ·rw[Bi z,Bi (by lia)]
   ·unfold wI;rw[dE]
  ·rintro _ ⟨X,b,⟨E,p⟩,rfl⟩;rw[zF]at p;refine f _ ⟨X,b,⟨E,λk d=>?_⟩,rfl⟩;rw[p k d];by_cases z:a<=k
   ·rw[Bn z,Bn (by lia)]
   ·rw[Bi z,Bi (by lia)]
 rintro _ ⟨X,b,⟨E,p⟩,rfl⟩;have tb:∀k,(l*co R k -if a<=k then top*co B (k -a)else 0).natAbs<2^(r+m+1):=λk=>by
  have F:(l*co R k).natAbs<2^(r+m):=by rw[Fh,ey r];exact lt_mul bl (BW J k)
  have I:(if a<=k then top*co B (k -a)else 0).natAbs<2^(r+m):=by
   split
   ·rw[Fh];exact lt_mul T (BW L _)
   ·exact P2 (by decide)
  rw[Nat.pow_succ,kf];exact BH F I
 have tz:∀k,R.length<=k->(l*co R k -if a<=k then top*co B (k -a)else 0)=0:=λk d=>by rw[show co R k=0 from outI d,Bn (by lia),show co B (k -a)=0 from outI (by lia)];lia
 have p:∀k,co X k=l*co R k -if a<=k then top*co B (k -a)else 0:=λk=>by
  by_cases d:k<R.length
  ·exact p k d
  ·rw[tz k (by lia)];exact outI (by lia)
 refine Gs (α:=List Int) (λY=>[some (wI A),some (wI B),some (wI Y),some (.int top),some (.int a),b,none,none,none]) (λY=>Y.length<=R.length/\∀k,co Y k=l*co R k -if a<=k then top*co B (k -a)else 0) (λY=>Y.length) X rfl ⟨by lia,p⟩ ?_;rintro Y ⟨P,u⟩;have S:∀x∈Y,x.natAbs<2^(r+m+1):=Eg λi=>by have:=u i;unfold co at this;rw[this];exact tb i
 walk_at "vs";refine⟨ai (by simp),Zw (y:=[]) λk d=>?_⟩;rcases ik Y with rfl|⟨t,y,rfl⟩
 ·cases b9 d rfl;walk_at "vs";rw[Bi (by decide)];exact dj (λz=>by cases z) (λ_=>f [] _ _ _ (by show 0<R.length;lia) (λz=>by cases z) u S)
 ·rw[il]at*;cases b7 d (by simp);walk_at "vs";have la:m9 ((t++[y]).map W.int) (-1)=some (.int y):=by have:=pW (ns:=t++[y]) (by simp);rw[Ee,List.length_singleton,GM,AC,Fu (Do _),ei]at this;exact this
  unfold wI;refine⟨_,la,?_⟩;walk_at "vs";refine dj (λz=>?_) (λz=>?_)
  ·have H:y=0:=Bz z;subst H;walk_at "vs";refine⟨.int 0,by simp,t,by rw[SL];simp[wI],⟨?_,λk=>?_⟩,by simp⟩
   ·rw[Ee]at P;lia
   ·have:=u k;unfold co at this;rw[KY]at this;exact this
  ·have H:y≠0:=Sr z;have O:=Oc t H;refine f (t++[y]) _ _ _ (eJ P λe=>?_) O u S;have F:=O (by simp);have I:=u (R.length -1);rw[e]at F;refine F (I.trans ?_);rw[Bn (by lia),show co R (R.length -1)=top from o,show R.length -1 -a=B.length -1 by lia,show co B (B.length -1)=l from M,UF];lia
theorem Wf{Φ:Nat->cA}{G:Nat->W}{md:Md}(ws:List W)(Q:W->Prop)(R:Addr->Prop)(h:Gu ws Q R):wSs Φ G ve (cC md Q R) (aA 9 ws):=by
 obtain⟨A,B,n,m,rfl,⟨lA,lB,B0,tA,tB,bA,bB,hnm⟩,hq⟩:=h;show wSs _ _ ve _ [some (wI A),some (wI B),none,none,none,none,none,none,none];unfold ve;refine aF (λa=>a=[some (wI A),some (wI B),some (wI A),none,none,none,none,none,none]) (λN t=>?_) ?_
 ·unfold wI at t⊢;walk_at "vs";exact t _ rfl
 rintro _ rfl;refine aF (λa=>∃(R:List Int)(s:Nat)(o3 o f:Option W),(R.length<B.length/\Lf (co A) (co B) (co R)/\Tp R/\s<=A.length+1 -B.length/\∀x∈R,x.natAbs<2^(n+s*(m+1)))/\a=[some (wI A),some (wI B),some (wI R),o3,o,f,none,none,none]) (λN t=>?_) ?_
 ·refine Gs (α:=List Int×Nat×Option W×Option W×Option W) (λx=>[some (wI A),some (wI B),some (wI x.1),x.2.2.1,x.2.2.2.1,x.2.2.2.2,none,none,none]) (λx=>Lf (co A) (co B) (co x.1)/\Tp x.1/\x.2.1+x.1.length<=A.length/\x.2.1<=A.length+1 -B.length/\∀y∈x.1,y.natAbs<2^(n+x.2.1*(m+1))) (λx=>x.1.length) (A,0,none,none,none) rfl ⟨Lf.start _ _,tA,by show 0+A.length<=_;lia,Mo _,λy M=>by rw[t4];exact bA y M⟩ ?_;rintro⟨R,s,o3,o,f⟩ ⟨J,H,hs,p,L⟩;dsimp only at J H hs p L⊢;have sm:s*(m+1)<=9*(m+1):=P3 _ (by lia);have ge:wE Φ G (λ_=>False) (.cmp .GtE (.blt .len [(.var 2)]) (.blt .len [(.var 1)])) [some (wI A),some (wI B),some (wI R),o3,o,f,none,none,none]=λK=>K (.bl (decide ((B.length:Int)<=(R.length:Int)))):=by funext K;unfold wI;walk_at "vs";rw[AN,AN]
  rw[ge];have go:∀(b:Bool)(P:Bool->Prop),P b->(λK:W->Prop=>K (W.bl b)) (λx=>truth x P):=λb P h=>h;refine go _ _ ?_;refine dj (λF=>?_) (λF=>?_)
  ·have O:B.length<=R.length:=by have:=Bz F;lia
   refine We (r:=n+s*(m+1)) (m:=m) (by lia) B0 O tB L bB (by lia) λX p3 p4 p5 lX tX cX bX=>?_;refine⟨(X,s+1,p3,p4,p5),rfl,⟨J.step (tB B0) cX,tX,by show s+1+X.length<=_;lia,by show s+1<=_;lia,λy M=>?_⟩,lX⟩;have:=bX y M;rw[show n+(s+1)*(m+1)=n+s*(m+1)+m+1 by rw[vw];lia];exact this
  ·have O:R.length<B.length:=by have:=Sr F;lia
   exact t _ ⟨R,s,o3,o,f,⟨O,J,H,p,L⟩,rfl⟩
 rintro _ ⟨R,s,o3,o,f,⟨O,J,H,p,L⟩,rfl⟩;have sm:s*(m+1)<=(A.length+1 -B.length)*(m+1):=P3 _ p;have sm9:(A.length+1 -B.length)*(m+1)<=8*(m+1):=P3 _ (by lia);show wSs _ _ [.set 6 (.int 0),.fr [7] true (.var 2) [.set 8 (.blt .abs [(.var 7)]),.xD (.cmp .Gt (.var 8) (.int 0)) [.FJ [6,8] (.tup [(.var 8),(.bin .Mod (.var 6) (.var 8))])]],.ret (.comp [0] true 1 (.var 2) (.bl true) (.bin .FloorDiv (.var 0) (.var 7)))] _ _;refine aF (λa=>a=[some (wI A),some (wI B),some (wI R),o3,o,f,some (.int 0),none,none]) (λN t=>?_) ?_
 ·walk_at "vs";exact t _ rfl
 rintro _ rfl;refine aF (λa=>∃(g:Int)(E D:Option W),(0<=g/\∀x∈R,g∣x)/\a=[some (wI A),some (wI B),some (wI R),o3,o,f,some (.int g),E,D]) (λN t=>?_) ?_
 ·refine Zv (l:=R.map W.int) (λQ q=>q) ?_;refine bU (λi ε=>∃(g:Int)(E D:Option W),(0<=g/\∀j,j<i->g∣R.getD j 0)/\ε=[some (wI A),some (wI B),some (wI R),o3,o,f,some (.int g),E,D]) ⟨0,none,none,⟨by decide,λj U=>by lia⟩,rfl⟩ ?_ ?_
  ·rintro i w _ N1 Z ⟨g,E,D,⟨S,C⟩,rfl⟩ oK;have hi:i<R.length:=by have:=(Fs.mp Z).1;simpa using this
   rw[int_at hi]at Z;cases Z;generalize c:R.getD i 0=x at*;refine aF (λa=>a=[some (wI A),some (wI B),some (wI R),o3,o,f,some (.int g),some (.int x),some (.int x.natAbs)]) (λN2 CA=>?_) ?_
   ·walk_at "vs";rw[show(if x<0 then-x else x)=(x.natAbs:Int) by split<;>lia];exact CA _ rfl
   rintro _ rfl;refine Gs (α:=Int×Int) (λy=>[some (wI A),some (wI B),some (wI R),o3,o,f,some (.int y.1),some (.int x),some (.int y.2)]) (λy=>0<=y.1/\0<=y.2/\Int.gcd y.1 y.2=Int.gcd g x) (λy=>y.2.natAbs) (g,x.natAbs) rfl ⟨S,by show 0<=((x.natAbs:Nat):Int);lia,by show Int.gcd g ((x.natAbs:Nat):Int)=Int.gcd g x;unfold Int.gcd;rw[Int.natAbs_natCast]⟩ ?_;rintro⟨u,v⟩ ⟨hu,hv,hg⟩;walk_at "vs";refine dj (λF=>?_) (λF=>?_)
   ·have Y:0<v:=Bz F;have e2:=oZ u v (u.fdiv v);have e3:=qS u v (by lia);rw[←Num.fmod_eq]at e2 e3;walk_at "vs";exact⟨by lia,ai (by simp),rfl,(v,u.fmod v),rfl,⟨by lia,wx u Y,e2.trans hg⟩,e3⟩
   ·have Y:v=0:=by have:=Sr F;lia
    subst Y;have e:u=((Int.gcd g x:Nat):Int):=by rw[←hg,mf];lia
    subst e;refine oK _ ⟨_,_,_,⟨by lia,λj U=>?_⟩,rfl⟩;by_cases ej:j=i
    ·rw[ej,c];exact Re ..
    ·exact Int.dvd_trans (ag ..) (C j (by lia))
  ·rintro _ ⟨g,E,D,⟨S,C⟩,rfl⟩;rw[AN]at C;refine t _ ⟨g,E,D,⟨S,λx c=>?_⟩,rfl⟩;obtain⟨j,U,e⟩:=TK c;have:=C j U;rw[AC,B1 U]at this;rw[←e];exact this
 rintro _ ⟨g,E,D,⟨S,C⟩,rfl⟩;have gz:∀x∈R,g≠0:=λx c z=>by have I:0<R.length:=List.length_pos_of_mem c;have:=C _ (Sub.getD_mem' (ns:=R) (k:=R.length -1) (by lia));rw[z,Int.zero_dvd]at this;exact H I this
 have gb:∀x∈R,g.natAbs<2^(n+s*(m+1)):=λx c=>by have I:0<R.length:=List.length_pos_of_mem c;have hm:=Sub.getD_mem' (ns:=R) (k:=R.length -1) (by lia);have d:=pd.mpr (C _ hm);have:=Nat.le_of_dvd (by have:=H I;lia) d;exact On this (L _ hm)
 have eC:∀k,co R k=g*(R.map (·/g)).getD k 0:=λk=>by
  show R.getD k 0=_;rw[AC,AC,DD];cases e:R[k]? with
  |none=>show(0:Int)=g*0;lia
  |some x=>exact(fe (C x (KB e))).symm
 have lo:LO A B (R.map (·/g)) (n+(A.length+1 -B.length)*(m+1)):=by
  refine⟨by rw[AN];exact O,λI=>?_,λd=>?_,λx c=>?_⟩
  ·rw[AN]at I⊢;intro z;have:=eC (R.length -1);rw[z,Pi]at this;exact H I this
  ·by_cases r0:R=[]
   ·subst r0;exact J.dv (κ:=1) (by decide) (λk=>by show(0:Int)=1*0;lia) d
   ·obtain⟨x,c⟩:=List.exists_mem_of_ne_nil R r0;exact J.dv (gz x c) eC d
  ·obtain⟨y,M,rfl⟩:=Hk.mp c;have h1:=tq y g;exact c7 (On h1 (L y M)) (by lia)
 have T:=hq _ lo;rw[show wI (R.map (·/g))=W.lst (R.map λx=>W.int (x/g)) by unfold wI;rw[SZ];rfl]at T;rw[show wI R=W.lst (R.map W.int)from rfl];walk_at "vs";refine cP (h:=W.int) (g:=λx=>.int (x/g)) R [] _ (λx c K hK=>?_) (ai (by simp;lia)) ?_
 ·walk_at "vs";rw[PP _ S];exact⟨⟨gz x c,Wc (gb x c) (by lia)⟩,hK⟩
 ·exact T
noncomputable def jW:List CS:=[.set 2 (.call 0 [(.var 0)]),.set 3 (.call 0 [(.var 1)]),.xD (.cmp .NotEq (.var 3) (.lst [])) [.par [2,3] [(.var 3),(.call 1 [(.var 2),(.var 3)])]],.ret (.cmp .Eq (.blt .len [(.var 2)]) (.int 1))]
noncomputable def qa:cA:=λa Q _=>∃s t:List Rat,a=[af s,af t]/\(Rw 7 2000 50 s/\Rw 7 2000 50 t/\∀d,DQ d (cQ s)->DQ d (cQ t)->DQ d (cQ [1]))/\Q (.bl true)
theorem Mj{r:List Rat}{ns:List Int}(h:W0 r ns)(hz:ay r):Tp ns:=λb z=>by
 obtain⟨B,d,e⟩:=h.at_;have e:=e (ns.length -1);have e:((ns.getD (ns.length -1) 0:Int):Rat)=(B:Rat)*r.getD (ns.length -1) 0:=e;rw[z,h.len]at e;have a:=h.len;have c:r≠[]:=λy=>by rw[y]at a;rw[a]at b;cases b
 rcases Pm.mp e.symm with y|y
 ·exact bV d y
 ·exact mP hz c y
theorem Ml{r:List Rat}{ns:List Int}(h:W0 r ns)(d:Nat->Rat):DQ d (cz ns)↔DQ d (cQ r):=by obtain⟨B,a,e⟩:=h.at_;exact⟨λz=>DQ.KO (bV a) (z.ext λk=>(e k).symm),λz=>(z.sc (B:Rat)).ext e⟩
structure CJ(s t:List Rat)(H L:List Int)(N:Nat):Prop where
 lH:H.length<=7
 lL:L.length<=7
 tH:Tp H
 tL:Tp L
 bH:∀x∈H,x.natAbs<2^N
 bL:∀x∈L,x.natAbs<2^N
 bN:(L.length<H.length/\N+1<=4802*3^(7 -H.length))\/N+1<=2401
 dv:∀d,(DQ d (cz H)/\DQ d (cz L))↔(DQ d (cQ s)/\DQ d (cQ t))
theorem CJ.big{s t:List Rat}{H L:List Int}{N:Nat}(h:CJ s t H L N)(b:0<L.length):N+10*(N+1)<=100000000:=by
 rcases h.bN with⟨a,c⟩|a
 ·have:(3:Nat)^(7 -H.length)<=3^6:=Kk (by decide) (by lia);have:4802*3^(7 -H.length)<=4802*3^6:=GE _ this;have e:4802*3^6=3500658:=by decide
  lia
 ·lia
theorem CJ.next{s t:List Rat}{H L C:List Int}{N:Nat}(h:CJ s t H L N)(j:0<L.length)(o:LO H L C (N+(H.length+1 -L.length)*(N+1))):CJ s t L C (N+(H.length+1 -L.length)*(N+1)):=by
 have lc:=o.len;have lH:=h.lH;have lL:=h.lL;refine⟨lL,by lia,h.tL,o.tp,λx f=>c7 (h.bL x f) (by lia),o.bd,.inl ⟨lc,?_⟩,λd=>((o.dv d).trans (h.dv d))⟩;have e:N+(H.length+1 -L.length)*(N+1)+1=(1+(H.length+1 -L.length))*(N+1):=by rw[ub];lia
 rw[e];rcases h.bN with⟨a,i⟩|a
 ·have c:=Yj H.length (by lia) L.length a;have:=GE (1+(H.length+1 -L.length)) i;rw[Nat.mul_left_comm]at this;exact Da this (GE _ c)
 ·have b:=Yk H.length (by lia) L.length (by lia);have g:=eI b a;rw[show 4802*3^(7 -L.length)=2*3^(7 -L.length)*2401 by lia];exact g
theorem CJ.fin{s t:List Rat}{H:List Int}{N:Nat}(h:CJ s t H [] N)(c:∀d,DQ d (cQ s)->DQ d (cQ t)->DQ d (cQ [1])):H.length=1:=by
 have g:=(h.dv (cz H)).mp ⟨DQ.refl _,(DQ.zero _).ext λk=>by show((([]:List Int).getD k 0:Int):Rat)=0;simp⟩;have f:=c _ g.1 g.2;have a:0<H.length:=by refine Nat.pos_of_ne_zero λz=>?_;have:H=[]:=KE.mp z;subst this;obtain⟨w,m,l⟩:=f;have e:=l 0;rw[dO,(bT (f':=λ_=>0) (g':=w) (λi=>by show((([]:List Int).getD i 0:Int):Rat)=0;simp) (λ_=>rfl) 0).trans (dI _ 0)]at e;exact absurd e (by decide)
 refine Nat.le_antisymm (ph λz=>?_) a;have:=Ku (b:=H.map λx:Int=>(x:Rat)) (r:=[1]) (pJ (h.tH a)) (λy=>by rw[ky.mp y]at a;cases a) (λx j=>by cases j;decide) (by rw[AN];exact z) (by rw[uH];exact f);cases this
theorem Iu{G:Nat->W}{A:Md}(r:List W)(Q:W->Prop)(R:Addr->Prop)(h:qa r Q R):wSs (cN [zU,Gu]) G jW (cC A Q R) (aA 4 r):=by
 obtain⟨s,t,rfl,⟨m,l,p⟩,B⟩:=h;show wSs _ _ jW _ [some (af s),some (af t),none,none];unfold jW;refine aF (λa=>∃c,W0 s c/\a=[some (af s),some (af t),some (wI c),none]) (λN f=>?_) ?_
 ·walk_at "vs";exact⟨s,rfl,m,λc n=>f _ ⟨c,n,rfl⟩⟩
 rintro _ ⟨c,i,rfl⟩;refine aF (λa=>∃j,W0 t j/\a=[some (af s),some (af t),some (wI c),some (wI j)]) (λN f=>?_) ?_
 ·walk_at "vs";exact⟨t,rfl,l,λc n=>f _ ⟨c,n,rfl⟩⟩
 rintro _ ⟨j,g,rfl⟩;refine aF (λa=>∃H,H.length=1/\a=[some (af s),some (af t),some (wI H),some (wI [])]) (λN f=>?_) ?_
 ·refine Gs (α:=List Int×List Int×Nat) (λx=>[some (af s),some (af t),some (wI x.1),some (wI x.2.1)]) (λx=>CJ s t x.1 x.2.1 x.2.2) (λx=>x.2.1.length) (c,j,2400) rfl ⟨by rw[i.len];exact m.len,by rw[g.len];exact l.len,Mj i m.z,Mj g l.z,i.bd,g.bd,.inr (by show 2400+1<=2401;decide),λd=>by rw[Ml i,Ml g]⟩ ?_;rintro⟨H,L,w⟩ b;dsimp only at b;walk_at "vs";refine⟨ai (by simp),Zw (y:=[]) λk v=>?_⟩;walk_at "vs";refine dj (λe=>?_) (λe=>?_)
  ·have q:L≠[]:=λz=>by
    cases b9 v z;cases e
   have o:=Dx.mpr q;have lH:=b.lH;have lL:=b.lL;walk_at "vs";refine⟨H,L,w,w,rfl,⟨by lia,by lia,o,b.tH,b.tL,b.bH,b.bL,b.big o⟩,λC u=>?_⟩;exact⟨rfl,(L,C,_),rfl,b.next o u,u.len⟩
  ·have q:L=[]:=Gc λz=>by
    cases b7 v z;cases e
   subst q;exact f _ ⟨H,b.fin p,rfl⟩
 rintro _ ⟨H,lH,rfl⟩;unfold wI;walk_at "vs";rw[AN,lH];exact B
noncomputable def dY:List CS:=[.iff (.or [(.not (.blt .Cy [(.var 0),(.FI "tuple")])),(.cmp .NotEq (.blt .len [(.var 0)]) (.int 2)),(.not (.call 0 [(.ix (.var 0) (.int 0))])),(.not (.call 0 [(.ix (.var 0) (.int 1))]))]) [.ret (.bl false)] [],.iff (.or [(.cmp .Eq (.ix (.var 0) (.int 1)) (.lst [])),(.cmp .NotEq (.ix (.ix (.var 0) (.int 1)) (.neg (.int 1))) (.tup [(.int 1),(.int 1)]))]) [.ret (.bl false)] [],.ret (.call 1 [(.ix (.var 0) (.int 0)),(.ix (.var 0) (.int 1))])]
noncomputable def iA:cA:=λa Q _=>∃s t:List Rat,a=[.tup [af s,af t]]/\(Rw 7 2000 50 s/\Rw 7 2000 50 t/\Mon t/\∀d,DQ d (cQ s)->DQ d (cQ t)->DQ d (cQ [1]))/\Q (.bl true)
theorem wF{G:Nat->W}{i:Md}(e:List W)(Q:W->Prop)(R:Addr->Prop)(h:iA e Q R):wSs (cN [mZ,qa]) G dY (cC i Q R) (aA 1 e):=by
 obtain⟨s,t,rfl,⟨g,f,b,d⟩,l⟩:=h;show wSs _ _ dY _ [some (.tup [af s,af t])];unfold dY;refine aF (λa=>a=[some (.tup [af s,af t])]) (λN c=>?_) ?_
 ·walk_at "vs";simp only[Ge];refine⟨_,rfl,?_⟩;walk_at "vs";rw[Bi (by decide),Bi (by simp)];refine⟨_,rfl,s,rfl,g,?_⟩;walk_at "vs";refine⟨_,rfl,t,rfl,f,?_⟩;exact c _ rfl
 rintro _ rfl;refine aF (λa=>a=[some (.tup [af s,af t])]) (λN c=>?_) ?_
 ·walk_at "vs";refine⟨_,rfl,ai (by simp),jo (y:=[]) λk m=>?_⟩;cases b7 m b.ne;walk_at "vs";have j:m9 (t.map wq) (-1)=some (wq 1):=uW (by have:=b.one;rw[Ha];have n:=Dx.mpr b.ne;rw[AC,B1 (by lia)]at this;rw[B1 (by lia)];exact W1 some this);refine⟨_,rfl,?_⟩;unfold af;refine⟨_,j,ai (by simp),?_⟩;refine neQ (x:=1) ?_;exact c _ rfl
 rintro _ rfl;walk_at "vs";exact⟨_,rfl,_,rfl,s,t,rfl,⟨g,f,d⟩,l⟩
noncomputable def vf:cA:=λb Q _=>∃a:List Rat,b=[af a]/\Rw 7 17 6 a/\Q (.bl true)
noncomputable def qb:List CS:=[.set 1 (.call 0 [(.var 0),(.int 0)]),.set 2 (.call 1 [(.call 2 [(.call 0 [(.var 0),(.int 1)]),(.bin .Mult (.lst [(.int 19),(.int 3)]) (.bin .Add (.int 1) (.bin .Mod (.var 1) (.int 5))))]),(.int 3)]),.set 3 (.call 1 [(.call 2 [(.call 0 [(.var 0),(.int 2)]),(.bin .Mult (.lst [(.int 19),(.int 3)]) (.bin .Add (.int 1) (.bin .Mod (.bin .FloorDiv (.var 1) (.int 5)) (.int 5))))]),(.int 3)]),.set 4 (.call 1 [(.call 2 [(.call 0 [(.var 0),(.int 3)]),(.bin .Mult (.lst [(.int 19),(.int 3)]) (.bin .Add (.int 1) (.bin .Mod (.bin .FloorDiv (.var 1) (.int 25)) (.int 3))))]),(.int 3)]),.iff (.cmp .Eq (.var 3) (.lst [])) [.set 3 (.lst [(.tup [(.bin .Sub (.bin .Mod (.bin .FloorDiv (.var 1) (.int 75)) (.int 9)) (.int 9)),(.int 1)])])] [],.iff (.cmp .Eq (.var 4) (.lst [])) [.set 4 (.lst [(.tup [(.int 1),(.int 2)])])] [],.iff (.cmp .Eq (.bin .Mod (.bin .FloorDiv (.var 1) (.int 675)) (.int 8)) (.int 1)) [.ret (.and [(.call 3 [(.blt .list [(.var 2)])]),(.call 3 [(.lst [])])])] [],.set 5 (.lst [(.call 4 [(.var 2),(.var 4)]),(.call 4 [(.var 3),(.var 4)])]),.set 6 (.lst [(.blt .list [(.ix (.var 5) (.int 0))]),(.blt .list [(.ix (.var 5) (.int 1))])]),.set 7 (.call 5 [(.ix (.var 5) (.int 0)),(.ix (.var 5) (.int 1))]),.iff (.or [(.cmp .NotEq (.var 5) (.var 6)),(.not (.Cz [7] (.call 6 [(.var 7)]))),(.not (.Cz [7] (.call 7 [(.var 7),(.tup [(.var 2),(.var 3)])])))]) [.ret (.bl false)] [],.iff (.and [(.cmp .Eq (.var 2) (.lst [])),(.Cz [7] (.cmp .NotEq (.var 7) (.tup [(.lst []),(.lst [(.tup [(.int 1),(.int 1)])])])))]) [.ret (.bl false)] [],.set 8 (.tup [(.blt .list [(.own 7 [.ix 0])]),(.blt .list [(.own 7 [.ix 1])])]),.Ym 7 [.ix 0] (.tup [(.int 5),(.int 1)]),.Yo 7 [.ix 1] (.int 0) (.tup [(.int 7),(.int 1)]),.set 9 (.lst [(.tup [(.bin .Sub (.bin .Sub (.int 0) (.int 2)) (.bin .Mod (.var 1) (.int 7))),(.int 3)])]),.set 9 (.lst [(.call 8 [(.ix (.ix (.var 9) (.int 0)) (.int 0)),(.ix (.ix (.var 9) (.int 0)) (.int 1))])]),.ret (.and [(.cmp .Eq (.call 5 [(.call 4 [(.var 2),(.var 9)]),(.call 4 [(.var 3),(.var 9)])]) (.var 8)),(.cmp .Eq (.call 5 [(.ix (.var 5) (.int 0)),(.ix (.var 5) (.int 1))]) (.var 8))])]
theorem qc(x y:List Rat):gj 9 (.tup [af x,af y])=true:=by rw[gj,List.all_cons,List.all_cons,List.all_nil];rw[show gj 8 (af x)=true from je x 6,show gj 8 (af y)=true from je y 6];rfl
theorem P5{x y:List Rat}{Q:W->Prop}(h:Q (.bl false)):ie .NotEq (.tup [af x,af y]) (.tup [af x,af y]) Q:=
 ⟨.inl ⟨qc x y,qc x y⟩,λk a=>by rw[b9 a rfl];exact h⟩
theorem Gv{x y:List Rat}{Q:W->Prop}(h:Q (.bl true)):ie .Eq (.tup [af x,af y]) (.tup [af x,af y]) Q:=
 ⟨.inl ⟨qc x y,qc x y⟩,λk a=>by rw[b9 a rfl];exact h⟩
theorem zV{k:Nat}{z:Int}{Q:W->Prop}{R:Addr->Prop}{l:Nat}(g:1<=k/\k<=l)(a:l<=5)(h:∀r,Rw l 6 3 r->Q (af r)):u9 [.int z,.lst (List.replicate k [W.int 19,.int 3]).flatten] (λx=>vd [x,.int 3] Q R) R:=by
 have e:(List.replicate k [W.int 19,.int 3]).flatten=((List.replicate k [(19:Int),3]).flatten).map W.int:=by rw[List.map_flatten,td];rfl
 have f:((List.replicate k [(19:Int),3]).flatten).length=2*k:=by simp;lia
 refine⟨z,(List.replicate k [(19:Int),3]).flatten,by rw[e];rfl,⟨by lia,λz hz=>?_⟩,λb d i=>⟨b,rfl,by lia,λr c=>h r (c.up (by lia) (Do _) (Do _))⟩⟩;obtain⟨l,a,hz⟩:=List.mem_flatten.mp hz;rw[List.eq_of_mem_replicate a]at hz;simp at hz;rcases hz with rfl|rfl<;>decide
theorem Mm{z:Int}{d:Nat}(hz:z≠0)(h:z.natAbs<16)(f:0<d/\d<4):Rw 1 6 3 [Rat.divInt z d]:=by
 have c:(d:Int)≠0:=by lia
 refine⟨show(1:Nat)<=1 by decide,λy b=>?_,d,by lia,by lia,λy b=>?_⟩
 ·have:y=Rat.divInt z d:=by cases b;rfl
  rw[this];intro e;rw[XB]at e;have:=hU (a:=(z:Rat)) (bV c);rw[e,eP]at this;exact bV hz this.symm
 ·rw[Fn.mp b];exact⟨z,by rw[XB,hU (bV c)],by lia⟩
theorem tN{a b:List Rat}(f:ay a)(d:a≠[])(e:ay b)(c:b≠[]):aH (mulQ a b)≠[]:=by
 rw[Gr f d e c];intro z;have h:=Dx.mpr d;have g:=Dx.mpr c;have l:(mulQ a b).length=a.length+b.length -1:=by unfold mulQ;exact fE ..
 rw[z,List.length_nil]at l;lia
theorem prodF(a b:List Rat):cQ (aH (mulQ a b))=aG (cQ a) (cQ b):=funext λk=>kr a b k
theorem Wg{a b u v s t s' t':List Rat}(c:ay b)(d:b≠[])(i:ay u)(f:u≠[])(g:ay v)(e:v≠[])(h:QT (aH (mulQ a u)) (aH (mulQ b u)) s t)(h':QT (aH (mulQ a v)) (aH (mulQ b v)) s' t'):s=s'/\t=t':=by
 refine h.unique h' (bJ _) (tN c d i f) (bJ _) (tN c d g e) ?_;rw[prodF,prodF,prodF,prodF]
 ac_rfl
theorem Wh{a b u s t:List Rat}(d:ay u)(c:u≠[])(h:QT (aH (mulQ a u)) (aH (mulQ b u)) s t):aG (cQ s) (cQ b)=aG (cQ a) (cQ t):=by
 have e:=h.eq;rw[prodF,prodF]at e;refine uG ((aX s).mul (aX b)) ((aX a).mul (aX t)) d c ?_;have f:aG (aG (cQ s) (cQ b)) (cQ u)=aG (cQ s) (aG (cQ b) (cQ u)):=by ac_rfl
 rw[f,e]
 ac_rfl
theorem P6{C:Addr}{G:Nat->W}{m:Md}(Z:List W)(Q:W->Prop)(R:Addr->Prop)(h:Pz Z Q R):wSs (cN [PU,vd,u9,vf,xZ,mX C,iA,zT,zS]) G qb (cC m Q R) (aA 10 Z):=by
 obtain⟨i,rfl,_,hq⟩:=h;show wSs _ _ qb _ [some (.g9 i),none,none,none,none,none,none,none,none,none];unfold qb;refine aF (λc=>∃f:Int,c=[some (.g9 i),some (.int f),none,none,none,none,none,none,none,none]) (λN g=>?_) ?_
 ·walk_at "vs";exact⟨i,0,rfl,λz=>g _ ⟨z,rfl⟩⟩
 rintro _ ⟨f,rfl⟩;have T:∀(x:Int){n:Int},0<n->n<=5->∃k:Nat,1+x.fmod n=(k:Int)/\1<=k/\(k:Int)<=n:=λx n h0 h5=>by have:=fm (x:=x) (n:=n) h0;exact⟨(1+x.fmod n).toNat,by lia,by lia,by lia⟩
 refine aF (λc=>∃a,Rw 5 6 3 a/\c=[some (.g9 i),some (.int f),some (af a),none,none,none,none,none,none,none]) (λN g=>?_) ?_
 ·walk_at "vs";refine⟨i,1,rfl,λz=>?_⟩;obtain⟨k,e,L,k2⟩:=T f (n:=5) (by decide) (by decide);rw[e];refine⟨ai (by simp),by decide,by lia,by lia,ai (by simp;lia),?_⟩;rw[Int.toNat_natCast];exact zV (l:=5) ⟨L,by lia⟩ (by decide) λr M=>g _ ⟨r,M,rfl⟩
 rintro _ ⟨a,I,rfl⟩;refine aF (λc=>∃b,Rw 5 6 3 b/\c=[some (.g9 i),some (.int f),some (af a),some (af b),none,none,none,none,none,none]) (λN g=>?_) ?_
 ·walk_at "vs";refine⟨i,2,rfl,λz=>?_⟩;obtain⟨k,e,L,k2⟩:=T (f.fdiv 5) (n:=5) (by decide) (by decide);rw[e];refine⟨ai (by simp),⟨by decide,by decide⟩,by decide,by lia,by lia,ai (by simp;lia),?_⟩;rw[Int.toNat_natCast];exact zV (l:=5) ⟨L,by lia⟩ (by decide) λr M=>g _ ⟨r,M,rfl⟩
 rintro _ ⟨b,j,rfl⟩;refine aF (λc=>∃u,Rw 3 6 3 u/\c=[some (.g9 i),some (.int f),some (af a),some (af b),some (af u),none,none,none,none,none]) (λN g=>?_) ?_
 ·walk_at "vs";refine⟨i,3,rfl,λz=>?_⟩;obtain⟨k,e,L,k2⟩:=T (f.fdiv 25) (n:=3) (by decide) (by decide);rw[e];refine⟨ai (by simp),⟨by decide,by decide⟩,by decide,by lia,by lia,ai (by simp;lia),?_⟩;rw[Int.toNat_natCast];exact zV (l:=3) ⟨L,by lia⟩ (by decide) λr M=>g _ ⟨r,M,rfl⟩
 rintro _ ⟨u,p,rfl⟩;refine aF (λc=>∃b,(Rw 5 6 3 b/\b≠[])/\c=[some (.g9 i),some (.int f),some (af a),some (af b),some (af u),none,none,none,none,none]) (λN g=>?_) ?_
 ·walk_at "vs";refine⟨ai (by simp),jo (y:=[]) λk w=>?_⟩;by_cases H:b=[]
  ·cases b9 w H;walk_at "vs";have h9:=fm (x:=f.fdiv 75) (n:=9) (by decide);generalize(f.fdiv 75).fmod 9=z at*;have S:=Mm (z:=z -9) (d:=1) (by lia) (by lia) (by decide);have F:Rat.divInt (z -9) ((1:Nat):Int)=((z -9:Int):Rat):=by have h:=hU (a:=((z -9:Int):Rat)) (b:=1) (by decide);rw[dn]at h;rw[XB];exact h
   rw[F]at S;exact⟨⟨by decide,by decide⟩,by decide,ai (by simp),ai (by simp),g _ ⟨[((z -9:Int):Rat)],⟨S.up (by decide) (by decide) (by decide),by simp⟩,rfl⟩⟩
  ·cases b7 w H;exact g _ ⟨b,⟨j,H⟩,rfl⟩
 clear j b;rintro _ ⟨b,⟨j,H⟩,rfl⟩;refine aF (λc=>∃u,(Rw 3 6 3 u/\u≠[])/\c=[some (.g9 i),some (.int f),some (af a),some (af b),some (af u),none,none,none,none,none]) (λN g=>?_) ?_
 ·walk_at "vs";refine⟨ai (by simp),jo (y:=[]) λk w=>?_⟩;by_cases D:u=[]
  ·cases b9 w D;walk_at "vs";have S:=Mm (z:=1) (d:=2) (by decide) (by decide) (by decide);exact⟨ai (by simp),ai (by simp),g _ ⟨[Rat.divInt 1 2],⟨S.up (by decide) (by decide) (by decide),by simp⟩,rfl⟩⟩
  ·cases b7 w D;exact g _ ⟨u,⟨p,D⟩,rfl⟩
 clear p u;rintro _ ⟨u,⟨p,D⟩,rfl⟩;refine aF (λc=>c=[some (.g9 i),some (.int f),some (af a),some (af b),some (af u),none,none,none,none,none]) (λN g=>?_) ?_
 ·walk_at "vs";refine⟨⟨by decide,by decide⟩,by decide,?_⟩;split
  ·rw[show af a=W.lst (a.map wq)from rfl];walk_at "vs";refine⟨a,rfl,I.up (by decide) (by decide) (by decide),?_⟩;walk_at "vs";exact⟨ai (by simp),[],rfl,⟨by decide,λx U=>by simp at U,1,by decide,by decide,λx U=>by simp at U⟩,hq⟩
  ·exact g _ rfl
 rintro _ rfl;have rA:Rw 7 17 6 (aH (mulQ a u)):=rw_mul I p (by decide);have rB:Rw 7 17 6 (aH (mulQ b u)):=rw_mul j p (by decide);have J:aH (mulQ b u)≠[]:=tN j.z H p.z D;refine aF (λc=>c=[some (.g9 i),some (.int f),some (af a),some (af b),some (af u),some (.lst [af (aH (mulQ a u)),af (aH (mulQ b u))]),none,none,none,none]) (λN g=>?_) ?_
 ·walk_at "vs";refine mY I p (by decide) ?_;refine mY j p (by decide) ?_;exact⟨ai (by simp),g _ rfl⟩
 rintro _ rfl;generalize X:aH (mulQ a u)=A at*;generalize hB:aH (mulQ b u)=B at*;refine aF (λc=>c=[some (.g9 i),some (.int f),some (af a),some (af b),some (af u),some (.lst [af A,af B]),some (.lst [af A,af B]),none,none,none]) (λN g=>?_) ?_
 ·rw[show af A=W.lst (A.map wq)from rfl,show af B=W.lst (B.map wq)from rfl]at g⊢;walk_at "vs";refine⟨_,rfl,?_⟩;walk_at "vs";refine⟨_,rfl,?_⟩;walk_at "vs";exact⟨ai (by simp),g _ rfl⟩
 rintro _ rfl;refine aF (λc=>∃s t,(QT A B s t/\Rw 7 2000 50 s/\Rw 7 2000 50 t)/\c=[some (.g9 i),some (.int f),some (af a),some (af b),some (af u),some (.lst [af A,af B]),some (.lst [af A,af B]),some (.tup [af s,af t]),none,none]) (λN g=>?_) ?_
 ·walk_at "vs";exact⟨_,rfl,_,rfl,A,B,rfl,rA,rB,λz=>absurd z J,λs t _ q K P=>g _ ⟨s,t,⟨q,K,P⟩,rfl⟩⟩
 rintro _ ⟨s,t,⟨q,K,P⟩,rfl⟩;have bk:=Wh (a:=a) (b:=b) p.z D (by rw[X,hB];exact q);refine aF (λc=>c=[some (.g9 i),some (.int f),some (af a),some (af b),some (af u),some (.lst [af A,af B]),some (.lst [af A,af B]),some (.tup [af s,af t]),none,none]) (λN g=>?_) ?_
 ·walk_at "vs";refine V6 ?_;walk_at "vs";refine⟨s,t,rfl,⟨K,P,q.mt,λd=>q.cop⟩,rfl,?_⟩;walk_at "vs";refine⟨ai (by simp),s,t,a,b,rfl,⟨K,P,I,j,bk⟩,rfl,?_⟩;exact g _ rfl
 rintro _ rfl;refine aF (λc=>c=[some (.g9 i),some (.int f),some (af a),some (af b),some (af u),some (.lst [af A,af B]),some (.lst [af A,af B]),some (.tup [af s,af t]),none,none]) (λN g=>?_) ?_
 ·walk_at "vs";refine⟨ai (by simp),jo (y:=[]) λk w=>?_⟩;by_cases Y:a=[]
  ·cases b9 w Y;have eA:A=[]:=by rw[←X,Y];exact Ka (.inl rfl)
   rw[eA]at q;obtain⟨F,O⟩:=q.unique (Du B) rB.z J rB.z J rfl;walk_at "vs";rw[F,O]at g⊢;refine⟨ai (by simp),ai (by simp),ai (by simp),ai (by simp),?_⟩;refine P5 (x:=[]) (y:=[1]) ⟨rfl,?_⟩;exact g _ rfl
  ·cases b7 w Y;exact g _ rfl
 rintro _ rfl;refine aF (λc=>c=[some (.g9 i),some (.int f),some (af a),some (af b),some (af u),some (.lst [af A,af B]),some (.lst [af A,af B]),some (.tup [af s,af t]),some (.tup [af s,af t]),none]) (λN g=>?_) ?_
 ·rw[show af s=W.lst (s.map wq)from rfl,show af t=W.lst (t.map wq)from rfl]at g⊢;walk_at "vs";exact⟨ai (by simp),g _ rfl⟩
 rintro _ rfl;refine aF (λc=>∃o,c=[some (.g9 i),some (.int f),some (af a),some (af b),some (af u),some (.lst [af A,af B]),some (.lst [af A,af B]),some (.tup [o,af t]),some (.tup [af s,af t]),none]) (λN g=>?_) ?_
 ·have ls:=K.len;have li:(s.map wq).length<sizeLine:=DO (by rw[AN];lia);walk_at "vs";exact⟨ai (by simp),li,g _ ⟨_,rfl⟩⟩
 rintro _ ⟨o,rfl⟩;refine aF (λc=>∃o,c=[some (.g9 i),some (.int f),some (af a),some (af b),some (af u),some (.lst [af A,af B]),some (.lst [af A,af B]),some o,some (.tup [af s,af t]),none]) (λN g=>?_) ?_
 ·have lt:=Dx.mpr q.mt.ne;walk_at "vs";exact⟨ai (by simp),0,gZ (k:=0) (by rw[AN];lia),g _ ⟨_,rfl⟩⟩
 rintro _ ⟨o,rfl⟩;have h7:=fm (x:=f) (n:=7) (by decide);refine aF (λc=>∃z:Int,(z≠0/\z.natAbs<16)/\c=[some (.g9 i),some (.int f),some (af a),some (af b),some (af u),some (.lst [af A,af B]),some (.lst [af A,af B]),some o,some (.tup [af s,af t]),some (.lst [.tup [.int z,.int 3]])]) (λN g=>?_) ?_
 ·walk_at "vs";exact⟨by decide,ai (by simp),ai (by simp),g _ ⟨_,⟨by lia,by lia⟩,rfl⟩⟩
 rintro _ ⟨z,⟨z0,z1⟩,rfl⟩;have rv:=Mm (z:=z) (d:=3) z0 z1 (by decide);refine aF (λc=>c=[some (.g9 i),some (.int f),some (af a),some (af b),some (af u),some (.lst [af A,af B]),some (.lst [af A,af B]),some o,some (.tup [af s,af t]),some (af [Rat.divInt z 3])]) (λN g=>?_) ?_
 ·walk_at "vs";refine⟨_,rfl,?_⟩;walk_at "vs";refine⟨_,rfl,?_⟩;walk_at "vs";refine⟨_,rfl,?_⟩;walk_at "vs";refine⟨_,rfl,_,_,2,rfl,by decide,by decide,by decide,?_⟩;exact⟨ai (by simp),g _ rfl⟩
 rintro _ rfl;generalize hv:[Rat.divInt z 3]=v at*;have rv:Rw 1 6 3 v:=hv▸rv;have v0:v≠[]:=by rw[←hv];simp
 walk_at "vs";refine mY I rv (by decide) ?_;refine mY j rv (by decide) ?_;refine⟨_,_,rfl,(rw_mul I rv (by decide)).up (by decide) (by decide) (by decide),(rw_mul j rv (by decide)).up (by decide) (by decide) (by decide),λy=>absurd y (tN j.z H rv.z v0),λs' t' _ E _ _=>?_⟩;obtain⟨F,O⟩:=Wg j.z H p.z D rv.z v0 (by rw[X,hB];exact q) E;rw[←F,←O];refine Gv ?_;walk_at "vs";refine⟨_,rfl,_,rfl,A,B,rfl,rA,rB,λz=>absurd z J,λs' t' _ E _ _=>?_⟩;obtain⟨F,O⟩:=q.unique E rB.z J rB.z J rfl;rw[←F,←O];exact Gv hq
end VL
namespace VL
open PySem PySem.Spec
open PyProof.Rows hiding St
open L2
noncomputable def Fns(P:Program)(w:World)(K:Frag)(a:Str->Option Value)(base:Heap)(k:Nat):List Str->List Md->List cA->Prop
 |x::fn,m::e,S::Ss=>(∃d n c,a x=some d/\gf P w K a base c d n (fz K n m S)/\c<=k/\∀b P R,S b P R->b.length=n)/\Fns P w K a base k fn e Ss
 |[],_,_=>True
 |_,_,_=>False
noncomputable def Zns(a:Str->Option Value):List Str->Prop
 |[]=>True
 |x::b=>a x=none/\Zns a b
theorem Mn{c:Str->Option Value}:∀{a:List Str},Zns c a->∀x∈a,c x=none
 |y::a,h,x,b=>by
  rcases GT.mp b with e|b
  ·rw[e];exact h.1
  ·exact Mn h.2 x b
theorem Mp{P:Program}{w:World}{K:Frag}{b:Str->Option Value}{base:Heap}{k:Nat}:∀{fn:List Str}{a:List Md}{Ss:List cA},Fns P w K b base k fn a Ss->∀(j:Nat)(x:Str),fn[j]?=some x->∃f n d,b x=some f/\gf P w K b base d f n (fz K n (bO a j) (cN Ss j))/\d<=k/\∀c P R,cN Ss j c P R->c.length=n
 |y::fn,m::a,S::Ss,h,0,x,e=>by
  cases e;exact h.1
 |y::fn,m::a,S::Ss,h,j+1,x,e=>Mp (fn:=fn) h.2 j x e
 |[],_,_,_,j,x,e=>by cases e
 |_::_,[],_,h,_,_,_=>h.elim
 |_::_,_::_,[],h,_,_,_=>h.elim
theorem tab_of{P:Program}{w:World}{K:Frag}{a:Str->Option Value}{base:Heap}{k:Nat}{fn b:List Str}{c:List Md}{Ss:List cA}(h:Fns P w K a base k fn c Ss)(z:Zns a b):Tab P w K a base fn [] b c [] (cN Ss) (qJ []) k:=
 ⟨λj x e _=>Mp h j x e,λ_ _ _ _ h=>(by cases h),λ_ _ e=>(by simp at e),Mn z,uX K,λ_ _ _ e=>(by simp at e)⟩
end VL
namespace L2
open PySem PySem.Spec PyProof.Rows
theorem Ei(bs:List Bool):((List.range bs.length).any λi=>(bs[i]?).getD false)=bs.any id:=by
 rw[me,List.any_eq_true,List.any_eq_true];constructor
 ·rintro⟨i,c,h⟩;have a:=cm.mp c;simp only[B1 a,Option.getD_some]at h;exact⟨_,Qr a,h⟩
 ·rintro⟨b,d,h⟩;obtain⟨i,c,rfl⟩:=TK d;refine⟨i,cm.mpr c,?_⟩;simp only[B1 c,Option.getD_some];exact h
section
variable{X:Cx}
theorem nB(bs:List Bool):SeqAt.shaped (.tuple (bs.map PyData.bool))=true:=by unfold SeqAt.shaped;simp[PyData.canLay0,PyData.depth,xx,uq]
noncomputable def Zy(K:Frag):R2:=λx y H Q=>∃(p a:Addr)(b c:List Bool),x=.ref p/\y=.ref a/\mK K H p (b.map V.bl)/\mK K H a (c.map V.bl)/\Q (.bl (decide (b=c))) H
theorem Mq:∀ns a:List Bool,SeqAt.noMixAll (ns.map PyData.bool) (a.map PyData.bool)=true
 |[],[]=>by simp[SeqAt.noMixAll]
 |[],_::_=>by simp[SeqAt.noMixAll]
 |_::_,[]=>by simp[SeqAt.noMixAll]
 |b::r,c::t=>by have ih:=Mq r t;simp[SeqAt.noMixAll,SeqAt.noMix,ih]
theorem P7(j:X.A.units+64<cLine):n9 X (compareOp .Eq) (Zy X.K):=by
 intro c s d H x y v u Q I g f h;obtain⟨p,m,a,b,rfl,rfl,l,k,q⟩:=h;have i:SeqAt.noMix (.tuple (a.map PyData.bool)) (.tuple (b.map PyData.bool))=true:=by rw[SeqAt.noMix];exact Mq a b
 refine JX j c s d H _ _ v u Q I g f ⟨_,_,Dc l (uu a),Dc k (uu b),⟨nB _,nB _,i⟩,?_⟩;have e:PySem.Spec.same (.tuple (a.map PyData.bool)) (.tuple (b.map PyData.bool))=decide (a=b):=by simp only[PySem.Spec.same];exact ur a b
 rw[e];exact q
end
section
variable{prog:Program}{w:World}{A:Around}{E:Value->Shared->Prop}{s:Shared}{a:Addr}
theorem BX{e:Value}{Q:Value->Shared->Prop}(c:Cn a s.heap)(h:Q .none s):wpAny (model prog w) A (runValue (.builtin "proto.unchain" ⟨[e,.ref a,.ref a,.bool false],[]⟩)) Q E s:=by obtain⟨j,i,g,f,d⟩:=c;refine runValue_entry (b:=Builtin.«proto.unchain») (entryFor_of_tree (by kernel_rfl)) ?_;unfold Builtin.«proto.unchain»;refine FC (m:=field (.ref a) 2) (wpAny_field g f d ?_);rw[Bn (show(Value.none==Value.none)=true from rfl)];exact NM ⟨_,rfl,h⟩
theorem BY{α:Type}{n:Addr}{o:Obj}{vs:Array Value}{Q:α->Shared->Prop}(f:A.handled=some (.ref a))(c:Cn a s.heap)(b:a≠n)(e:s.heap.get? n=some o)(g:o.data=.fields vs)(hz:2<vs.size)
 (h:E (.ref n) {s with heap:=s.heap.update n (Obj.mapFields (·.setIfInBounds 2 (.ref a)))}):wpAny (model prog w) A (raiseNew (.ref n):Sem α) Q E s:=by
 unfold raiseNew;refine FC (wpAny_handled ?_);rw[f];have d:(Value.ref a !=Value.ref n)=true:=by simp[b]
 dsimp only;rw[Bn d];refine FC (xa (BX c ?_));refine FC ?_;refine wpAny_setField (a:=n) e g hz ?_;exact wpAny_throw h
theorem Ej{d l:Addr}{i:Nat}{r:Array Value}{Q:Option Value->Shared->Prop}(G:A.handled=some (.ref a))(c:Cn a s.heap)(y:a≠d)(f:s.heap.IsListIter d l i)(F:s.heap.IsList l r)(D:r[i]?=none)
 (q:∀h',Heap.ExtBut d s.heap h'->Q none {s with heap:=h'}):wpAny (model prog w) A (pyNext (.ref d)) Q E s:=by
 obtain⟨M,k,O,j⟩:=id f;obtain⟨L,C,_,N,B⟩:=F;have v:Cn a (s.heap.update d (Obj.mapFields (·.setIfInBounds 0 Value.none))):=by obtain⟨u,t,g,I⟩:=c;exact⟨u,t,(Yf _ _ (RF y)).trans g,I⟩
 unfold pyNext;refine FC (wpAny_attempt (wpAny_callSpecial?_slot (name:=Str.ofString "__next__") f.typeIs slot_listiter_next (wpAny_call_entry slot_listiter_next f.typeIs entry_listiter_next ?_ (args_listiter_next _))));refine(show wpAny _ _ (field (.ref d) 0>>=_) _ _ s from FC (wpAny_field k j (x:=.ref l) rfl ?_));refine(show wpAny _ _ (if(Value.ref l==Value.none)=true then _ else _) _ _ s from ?_);rw[Bi (by simp:¬(Value.ref l==Value.none)=true)];refine(show wpAny _ _ (field (.ref d) 1>>=_) _ _ s from FC (wpAny_field k j (x:=.int i 0) rfl ?_));refine(show wpAny _ _ (seqItems? (.ref l)>>=_) _ _ s from FC (wpAny_seqItems C B ?_));simp only[Int.toNat_natCast,D];refine FC (wpAny_rule (FC (wpAny_setField k j (by simp) ?_)));refine(show wpAny _ _ (newExc (.type "StopIteration") []>>=_) _ _ _ from FC ?_);simp only[newExc,newTuple];refine FC (pk ?_ (by size_fits));refine FC (m:=firstArgMember _ _) (wpAny_of_eq (a:=Value.none) (by first|rfl|(simp only[firstArgMember];rfl)) ?_);refine pk ?_ (by size_fits);generalize p:((s.heap.update d _).push _)=h;have K:Cn a (h.push {cls:=.type "StopIteration",dict:=none,data:=.fields (#[.ref (s.heap.update d (Obj.mapFields (·.setIfInBounds 0 Value.none))).objs.size,.none,.none,.none,.bool false,.none]++ownMembersOf (.type "StopIteration") [])}):=by rw[←p];exact v.push.push
 have J:Cn a h:=p▸v.push;have z:a≠h.objs.size:=by obtain⟨u,t,g,_⟩:=J;exact KM (FS g)
 refine BY (a:=a) (n:=h.objs.size) (show A.in1.handled=_ from G) K z (Hb _ rfl) rfl (by rw[Array.size_append];show 2<6+_;omega) ?_;refine FC (wpAny_isInstance (T:="StopIteration") (b:=true) ⟨_,si _ (Hb _ rfl) (Obj.isFreed_of_fields (Obj.data_mapFields rfl _)),Obj.cls_mapFields _ _⟩ isSubtype_stop ?_);refine NM (q _ λb o H e=>?_);have g:h.get? b=some o:=by rw[←p];exact DL _ ((Yf _ _ (RF H)).trans e)
 exact(Yf _ _ (oP (FS g))).trans (DL _ g)
theorem P8(F:A.handled=some (.ref a))(I m:Addr)(C:m≠I)(u:a≠I)(n:Array Value):Walks prog w A I [I,m,a] [I] n.size (λi v=>n[i]?=some v) (λi h=>(h.IsListIter I m i/\h.IsList m n)/\Cn a h)where
 sub:=λb d=>by simp at d;simp[d]
 frame:=λi h l c q=>⟨⟨c.1.1.at λo e=>q I (by simp) o e,c.1.2.at λo e=>q m (by simp) o e⟩,by obtain⟨f,p,t,r⟩:=c.2;exact⟨f,p,q a (by simp) f t,r⟩⟩
 item:=λi s Q E B c g=>by refine wpAny_pyNext_list_item c.1.1 c.1.2 (x:=n[i]) (by simp[B]) λl D y=>?_;have k:∀b o,b≠I->s.heap.get? b=some o->l.get? b=some o:=λb o d e=>y.extBut b o d e;refine g _ l s.toks (by simp[B]) ⟨⟨D,c.1.2.extBut y.extBut C⟩,?_⟩ λb o d e=>k b o (λz=>d (by simp[z])) e;obtain⟨f,p,t,r⟩:=c.2;exact⟨f,p,k a f u t,r⟩
 done:=λs Q E c g=>Ej F c.2 u c.1.1 c.1.2 (by simp) λl j=>g l s.toks λb o d e=>j b o (λz=>d (by simp[z])) e
 self:=λ_ _ _ _ c g=>wpAny_pyIter_listiter c.1.1 g
end
theorem Iv{X:Cx}{a:Addr}:e9 (kj X a) (.builtin "any") (λj H Q=>∃(p C:Addr)(bs:List Bool),j=[.ref p]/\kI X.K H p (bs.map V.bl)/\H a=some (yC a C)/\Q (.bl (bs.any id)) H):=by
 intro k s O H j P Q I r h;obtain⟨p,C,bs,rfl,G,F,q⟩:=h;obtain⟨u,rfl,x⟩:=Vals.one r;cases(show u=Value.ref p from x);obtain⟨c,rv,y,_⟩:=I.list G;have l:=xw rv;have g:=y.isList;have f:p<s.heap.objs.size:=by obtain⟨_,e,_⟩:=g;exact FS e
 obtain⟨⟨B,t,n,_,N,M⟩,_,_⟩:=(show cL X.prog X.w H s.heap a (.ext (lu a C))from I.hok a _ F);refine call_any_walk (wpAny_pyIter_list g ?_);refine⟨s.heap.objs.size,[s.heap.objs.size,p,a],[s.heap.objs.size],c.toArray.size,_,_,λi=>(bs[i]?).getD false,rfl,P8 (A:=(kj X a).A.in1) (a:=a) rfl _ p (KM f) (KM (FS n)) c.toArray,⟨⟨⟨_,Hb _ rfl,rfl,rfl⟩,g.push _⟩,⟨B,t,DL _ n,N,M⟩⟩,λi v S U Y J m=>?_,λT R E=>?_⟩
 ·have d:c[i]?=some v:=by simpa using J
  rw[l,DD]at d;cases e:bs[i]? with
  |none=>rw[e]at d;cases d
  |some b=>rw[e]at d;simp only[e,Option.getD_some]at m;cases IR d;exact gL m
 ·have e:((List.range c.toArray.size).any λi=>(bs[i]?).getD false)=bs.any id:=by
   have L:c.toArray.size=bs.length:=by rw[Fm,l,AN]
   rw[L];exact Ei bs
  rw[e];exact⟨.bl _,H,I.kept λb o z=>E b o (λD=>by rw[Fn.mp D]at z;exact OK _ (FS z)) (DL _ z),rfl,q⟩
noncomputable def Zz(K:Frag)(i:Nat)(D:Addr)(te:TX)(e:Addr->TS):TS:=λW d H=>te d H (λ_ b=>W.nx d b) (λc _ b=>∃C,c=.ref C/\Ah K C/\mroIn K C (.ref D)=some true/\
 ∀a,b a=none->e a (W.past i) (d.set i (some (.ref a))) (upd b a (yC a C)))
theorem P9{X:Cx}{e:Expr}{n x:Str}{i:Nat}{D:Addr}{c:Stmt}{suite:List Stmt}{te:TX}{th:Addr->TS}{p1 p2 np pos:Pos}(g:X.stack=X.env::X.outer/\X.env.frame=some X.env.locals)(G:X.N.Nodup)(E:X.N[i]?=some n)
 (m:X.env.scope.names.lookup n=some .local)(hg:Gl X x)(hm:X.mg x=some (.ref D))(qD:Ah X.K D)(he:PX X e te)(hs:∀a,Ag (kj X a) (c::suite) (th a))(O:swapsWith e none p1.line X.env=pure false:=by rfl)
 (hd:(x==("__debug__":Str))=false:=by decide):PS X (.Try [.Expr e p1] [.ExceptHandler (some (.Name x np)) (some n) (c::suite) p2] [] [] pos) (Zz X.K i D te th):=by
 intro b s p H W I h;refine wpAny_Try_except (wpAny_execs_cons (wpAny_Expr_any (dt (he b s p H _ _ I h) (λv t z=>?_) λev t z=>?_) I.quiet O))
 ·obtain⟨y,H1,I1,r1,l⟩:=z;exact oy (oy ⟨p,H1,I1,l⟩)
 obtain⟨H1,s0,Z,a,C,H2,rfl,F,C',Q,qC,w,q⟩:=z;cases Q;obtain⟨B,a0,U,kB⟩:=F.XW;have fr:X.A.frames=some (X.env::X.outer):=by rw[I.ok.frames,g.1]
 have T:Heap.FlyingW B (X.env::X.outer) a (.ref C) a0 t.heap:=by rw[←g.1];exact U
 refine Kp.use (e:=a) (EU _ _) F.cn (wpAny_looks_onW fr g.2 T λh4 y4 u4 c4=>Kp.use (e:=a) (qO _ _) c4 (wpAny_landsW y4 λh5 L u5 c5=>?_));have I5:Inv X b p H2 {t with heap:=h5}:=Z.XW F kB U L.1 (u4.trans u5) rfl rfl;obtain⟨ob,P,Y⟩:=L.there;refine wpAny_handleBy_cons (codeAny_handlers_test (mJ (X:=kj X a) (I5.suite a) hg hm ?_ hd)) (by intro z;cases z);refine C6 (K:=X.K) I5.oR qC qD P Y w (codeAny_handlers_suite_as ?_);refine Kp.use (e:=a) (qO _ _) c5 (lands_againW L λR y6 u6 c6=>?_);have I6:Inv X b p H2 {t with heap:=R}:=Z.XW F kB U y6.1 ((u4.trans u5).trans u6) rfl rfl;obtain⟨oe,vs,S,g2,g3,_⟩:=y6.first
 have g4:vs[2]?=some Value.none:=by obtain⟨o,v,l,q2,q3⟩:=c6;have l:R.get? a=some o:=l;rw[S]at l;cases l;rw[g3]at q2;cases q2;exact q3
 have I7:Inv X b p (upd H2 a (yC a C)) {t with heap:=R}:=Inv.adopt Z F.old I6 F.new ⟨oe,vs,S,g2,g3,g4⟩ ⟨oe,S⟩ λh1 h2 z k=>by obtain⟨o1,v1,z1,z2,z3⟩:=z;exact⟨o1,v1,k _ z1,z2,z3⟩
 refine gD (X:=kj X a) (v:=.ref a) (I7.suite a) G E (.inl m) rfl (λs7 I8=>?_) (.inr m);refine dt (hs a b s7 _ _ _ I8 (q a F.new)) (λf s8 z=>?_) λ_ _ z=>False.elim z;cases f with
 |next=>obtain⟨d,H',J,z⟩:=z;exact name_goes (J.sU I.ok) G E m λM j=>⟨_,_,j,z⟩
 |brk=>obtain⟨d,H',J,z⟩:=z;exact name_goes (J.sU I.ok) G E m λM j=>⟨_,_,j,z⟩
 |cont=>obtain⟨d,H',J,z⟩:=z;exact name_goes (J.sU I.ok) G E m λM j=>⟨_,_,j,z⟩
 |ret u=>obtain⟨v,d,H',J,r,z⟩:=z;exact name_goes (J.sU I.ok) G E m λM j=>⟨_,_,_,j,r,z⟩
end L2
namespace ZN
open PySem PySem.Spec
open PyProof.Rows hiding St
open L2 VL Num
set_option genInjectivity false
set_option genSizeOf false
noncomputable def top(i:Nat):Stmt:=PySem.Challenge.pw_paperwright_k55_quotients.main.body.getD i (.Pass ⟨0,0,0,0⟩)
abbrev l5:Stmt:=top 4
abbrev BZ:Stmt:=top 5
abbrev Mr:Stmt:=top 6
abbrev B3:Stmt:=top 8
abbrev l6:Stmt:=top 11
abbrev iT:Stmt:=top 22
abbrev jX:Stmt:=top 24
abbrev iU:Stmt:=top 25
abbrev jY:Stmt:=top 26
abbrev l7:Stmt:=top 27
abbrev fR:Stmt:=top 28
abbrev dZ:Stmt:=top 29
abbrev eu:Stmt:=top 30
abbrev cT:Stmt:=top 31
abbrev fS:Stmt:=top 32
abbrev gO:Stmt:=top 33
abbrev jr:Stmt:=inClass (top 35) 0
abbrev fT:Stmt:=inClass (top 35) 1
abbrev fU:Stmt:=inClass (top 35) 2
abbrev kM:Stmt:=inClass (top 35) 3
abbrev eE:Stmt:=top 36
abbrev jZ:Stmt:=top 38
abbrev j3:Stmt:=top 39
abbrev fV:Stmt:=top 40
abbrev iV:Stmt:=top 41
abbrev gP:Stmt:=top 43
abbrev b6:Stmt:=top 45
abbrev eH:Stmt:=top 47
abbrev qd:Stmt:=top 49
abbrev B4:Stmt:=top 50
abbrev B5:Stmt:=top 51
abbrev B6:Stmt:=top 52
abbrev B7:Stmt:=top 53
abbrev vg:Stmt:=top 54
abbrev s_row:Stmt:=top 55
abbrev qe:Stmt:=top 56
abbrev qf:Stmt:=top 57
abbrev l9:Stmt:=top 58
abbrev qg:Stmt:=top 59
abbrev vh:Stmt:=top 60
abbrev j4:Stmt:=top 61
abbrev eK:Stmt:=top 62
abbrev rG:Stmt:=top 63
abbrev B8:Stmt:=top 64
theorem Iw:az ["one","other","u","next_u","v","next_v","often"] ["one","other"] (aa l5):=⟨rfl,rfl,rfl,by decide+kernel,rfl,by decide+kernel,by decide+kernel⟩
theorem Wi:az ["one","other"] ["one","other"] (aa BZ):=⟨rfl,rfl,rfl,by decide+kernel,rfl,by decide+kernel,by decide+kernel⟩
theorem Iz:az ["number","exponent","power"] ["number","exponent"] (aa l6):=⟨rfl,rfl,rfl,by decide+kernel,rfl,by decide+kernel,by decide+kernel⟩
theorem B9:az ["top","bottom","divisor"] ["top","bottom"] (aa iT):=⟨rfl,rfl,rfl,by decide+kernel,rfl,by decide+kernel,by decide+kernel⟩
theorem Ek:az ["row","bottom","number","part"] ["row"] (aa jX):=⟨rfl,rfl,rfl,by decide+kernel,rfl,by decide+kernel,by decide+kernel⟩
theorem Ca:az ["numbers","bottom"] ["numbers","bottom"] (aa iU):=⟨rfl,rfl,rfl,by decide+kernel,rfl,by decide+kernel,by decide+kernel⟩
theorem El:az ["numbers","length"] ["numbers"] (aa jY):=⟨rfl,rfl,rfl,by decide+kernel,rfl,by decide+kernel,by decide+kernel⟩
theorem IA:az ["numbers","by"] ["numbers","by"] (aa l7):=⟨rfl,rfl,rfl,by decide+kernel,rfl,by decide+kernel,by decide+kernel⟩
theorem wG:az ["one","other","length","told","place","number"] ["one","other"] (aa fR):=⟨rfl,rfl,rfl,by decide+kernel,rfl,by decide+kernel,by decide+kernel⟩
theorem vj:az ["one","other"] ["one","other"] (aa dZ):=⟨rfl,rfl,rfl,by decide+kernel,rfl,by decide+kernel,by decide+kernel⟩
theorem vm:az ["one","other","told","place","number","further","factor"] ["one","other"] (aa eu):=⟨rfl,rfl,rfl,by decide+kernel,rfl,by decide+kernel,by decide+kernel⟩
theorem rH:az ["one","other","room","lead","rest","quotient","place","head","further","scale"] ["one","other"] (aa cT):=⟨rfl,rfl,rfl,by decide+kernel,rfl,by decide+kernel,by decide+kernel⟩
theorem wH:az ["one","other","room","rest","quotient","place","head","further"] ["one","other"] (aa fS):=⟨rfl,rfl,rfl,by decide+kernel,rfl,by decide+kernel,by decide+kernel⟩
theorem zW:az ["numbers","content","number"] ["numbers"] (aa gO):=⟨rfl,rfl,rfl,by decide+kernel,rfl,by decide+kernel,by decide+kernel⟩
theorem vn:az ["self","one","other","factor"] ["self","one","other","factor"] (aa jr):=⟨rfl,rfl,rfl,by decide+kernel,rfl,by decide+kernel,by decide+kernel⟩
theorem wJ:az ["self","going"] ["self"] (aa fT):=⟨rfl,rfl,rfl,by decide+kernel,rfl,by decide+kernel,by decide+kernel⟩
theorem wK:az ["self","quotient","rest","scale","factor","drop","known"] ["self"] (aa fU):=⟨rfl,rfl,rfl,by decide+kernel,rfl,by decide+kernel,by decide+kernel⟩
theorem vo:az ["height","lead","drop"] ["height","lead","drop"] (aa eE):=⟨rfl,rfl,rfl,by decide+kernel,rfl,by decide+kernel,by decide+kernel⟩
theorem Em:az ["numbers","modulus"] ["numbers","modulus"] (aa jZ):=⟨rfl,rfl,rfl,by decide+kernel,rfl,by decide+kernel,by decide+kernel⟩
theorem En:az ["number","modulus"] ["number","modulus"] (aa j3):=⟨rfl,rfl,rfl,by decide+kernel,rfl,by decide+kernel,by decide+kernel⟩
theorem wL:az ["one","other","modulus","room","by","rest","quotient","place","head","further"] ["one","other","modulus"] (aa fV):=⟨rfl,rfl,rfl,by decide+kernel,rfl,by decide+kernel,by decide+kernel⟩
theorem Cb:az ["one","other","prime"] ["one","other","prime"] (aa iV):=⟨rfl,rfl,rfl,by decide+kernel,rfl,by decide+kernel,by decide+kernel⟩
theorem zX:az ["row","numbers","bottom","content"] ["row"] (aa gP):=⟨rfl,rfl,rfl,by decide+kernel,rfl,by decide+kernel,by decide+kernel⟩
theorem j5:az ["one","other","chain"] ["one","other"] (aa b6):=⟨rfl,rfl,rfl,by decide+kernel,rfl,by decide+kernel,by decide+kernel⟩
theorem vp:az ["top","bottom","numbers","part","content","other_numbers","other_part","other_content","divisor","lead","top_numbers"] ["top","bottom"] (aa eH):=⟨rfl,rfl,rfl,by decide+kernel,rfl,by decide+kernel,by decide+kernel⟩
theorem Mt:az ["_law_cell","_law_sizes","_law_found","_law_size","_law_seed"] ["_law_cell","_law_sizes"] (aa qd):=⟨rfl,rfl,rfl,by decide+kernel,rfl,by decide+kernel,by decide+kernel⟩
theorem Wj:az ["_law_script","_law_k"] ["_law_script","_law_k"] (aa B4):=⟨rfl,rfl,rfl,by decide+kernel,rfl,by decide+kernel,by decide+kernel⟩
theorem Wk:az ["_law_top","_law_bottom","_law_one","_law_other"] ["_law_top","_law_bottom"] (aa B5):=⟨rfl,rfl,rfl,by decide+kernel,rfl,by decide+kernel,by decide+kernel⟩
theorem Wl:az ["_law_one","_law_other"] ["_law_one","_law_other"] (aa B6):=⟨rfl,rfl,rfl,by decide+kernel,rfl,by decide+kernel,by decide+kernel⟩
theorem Wm:az ["_law_one","_law_other"] ["_law_one","_law_other"] (aa B7):=⟨rfl,rfl,rfl,by decide+kernel,rfl,by decide+kernel,by decide+kernel⟩
theorem Qa:az ["_law_one","_law_other","_law_found","_law_k","_law_j"] ["_law_one","_law_other"] (aa vg):=⟨rfl,rfl,rfl,by decide+kernel,rfl,by decide+kernel,by decide+kernel⟩
theorem Wn:az ["_law_xs","_law_low_here","_law_row_here"] ["_law_xs","_law_low_here"] (aa s_row):=⟨rfl,rfl,rfl,by decide+kernel,rfl,by decide+kernel,by decide+kernel⟩
theorem Mu:az ["_law_one","_law_other"] ["_law_one","_law_other"] (aa qe):=⟨rfl,rfl,rfl,by decide+kernel,rfl,by decide+kernel,by decide+kernel⟩
theorem Mv:az ["_law_found"] ["_law_found"] (aa qf):=⟨rfl,rfl,rfl,by decide+kernel,rfl,by decide+kernel,by decide+kernel⟩
theorem IB:az ["_law_row_here","_law_number"] ["_law_row_here"] (aa l9):=⟨rfl,rfl,rfl,by decide+kernel,rfl,by decide+kernel,by decide+kernel⟩
theorem Mw:az ["_law_row_here","_law_bottom","_law_number"] ["_law_row_here"] (aa qg):=⟨rfl,rfl,rfl,by decide+kernel,rfl,by decide+kernel,by decide+kernel⟩
theorem Qc:az ["_law_one","_law_other","_law_rest","_law_top","_law_gap","_law_k","_law_share","_law_number","_law_low_here"] ["_law_one","_law_other"] (aa vh):=⟨rfl,rfl,rfl,by decide+kernel,rfl,by decide+kernel,by decide+kernel⟩
theorem Eo:az ["_law_one","_law_other","_law_here","_law_ahead"] ["_law_one","_law_other"] (aa j4):=⟨rfl,rfl,rfl,by decide+kernel,rfl,by decide+kernel,by decide+kernel⟩
theorem vt:az ["_law_found"] ["_law_found"] (aa eK):=⟨rfl,rfl,rfl,by decide+kernel,rfl,by decide+kernel,by decide+kernel⟩
theorem gv:az ["_law_top","_law_seen","e","_law_others"] ["_law_top"] (aa rG):=⟨rfl,rfl,rfl,by decide+kernel,rfl,by decide+kernel,by decide+kernel⟩
theorem Wo:az ["_law_script","_law_first","_law_top","_law_bottom","_law_both","_law_handed","_law_kept","_law_found","_law_held","_law_by"] ["_law_script"] (aa B8):=⟨rfl,rfl,rfl,by decide+kernel,rfl,by decide+kernel,by decide+kernel⟩
structure Tx(K:Frag)(mg:Str->Option Value)where
 au:Addr
 m5:Hc K mg "Chain" au ["ahead","last","factor_ahead","factor_last","lead","height","sign","scale","known"]
 Cc:Addr
 Ce:FuncData
 Cf:Df K mg "common" l5 ["one","other"] Cc Ce
 RC:Addr
 RD:FuncData
 Gw:Df K mg "gcd" BZ ["one","other"] RC RD
 Wq:Addr
 Wr:FuncData
 Ws:Df K mg "turn" Mr ["one","other"] Wq Wr
 Mx:Addr
 My:FuncData
 Mz:Df K mg "turned" B3 ["by","one","other"] Mx My
 Cg:Addr
 Ci:FuncData
 vv:Df K mg "raised" l6 ["number","exponent"] Cg Ci
 vA:Addr
 vB:FuncData
 vC:Df K mg "fraction" iT ["top","bottom"] vA vB
 x6:Addr
 x8:FuncData
 x9:Df K mg "cleared" jX ["row"] x6 x8
 vD:Addr
 vE:FuncData
 vF:Df K mg "row_over" iU ["numbers","bottom"] vD vE
 ya:Addr
 yb:FuncData
 iF:Df K mg "trimmed" jY ["numbers"] ya yb
 Cj:Addr
 Ck:FuncData
 mh:Df K mg "scaled" l7 ["numbers","by"] Cj Ck
 qh:Addr
 qi:FuncData
 qj:Df K mg "whole_plus" fR ["one","other"] qh qi
 nD:Addr
 nE:FuncData
 nF:Df K mg "whole_minus" dZ ["one","other"] nD nE
 nG:Addr
 nH:FuncData
 nI:Df K mg "whole_times" eu ["one","other"] nG nH
 kN:Addr
 kO:FuncData
 kP:Df K mg "whole_divided" cT ["one","other"] kN kO
 qk:Addr
 qm:FuncData
 qo:Df K mg "whole_over" fS ["one","other"] qk qm
 r9:Addr
 sd:FuncData
 mq:Df K mg "shortened" gO ["numbers"] r9 sd
 nK:Addr
 nM:FuncData
 gB:Dm K au "__init__" "Chain.__init__" jr ["self","one","other","factor"] nK nM
 qp:Addr
 qu:FuncData
 qv:Dm K au "walk" "Chain.walk" fT ["self"] qp qu
 qw:Addr
 qx:FuncData
 qy:Dm K au "step" "Chain.step" fU ["self"] qw qx
 sI:Addr
 sJ:FuncData
 Ja:Dm K au "outcome" "Chain.outcome" kM ["self"] sI sJ
 nN:Addr
 nO:FuncData
 nQ:Df K mg "next_height" eE ["height","lead","drop"] nN nO
 yc:Addr
 yd:FuncData
 ye:Df K mg "reduced" jZ ["numbers","modulus"] yc yd
 yf:Addr
 yg:FuncData
 yh:Df K mg "inverse" j3 ["number","modulus"] yf yg
 qz:Addr
 qA:FuncData
 qB:Df K mg "divided_by" fV ["one","other","modulus"] qz qA
 vG:Addr
 vH:FuncData
 vI:Df K mg "apart_by" iV ["one","other","prime"] vG vH
 se:Addr
 sf:FuncData
 sj:Df K mg "primitive" gP ["row"] se sf
 eT:Addr
 eU:FuncData
 cU:Df K mg "whole_divisor" b6 ["one","other"] eT eU
 nR:Addr
 nT:FuncData
 eN:Df K mg "quotient_of" eH ["top","bottom"] nR nT
 Gx:Addr
 Gy:FuncData
 Gz:Df K mg "_law_parts" qd ["_law_cell","_law_sizes"] Gx Gy
 RE:Addr
 RG:FuncData
 RH:Df K mg "_law_nth" B4 ["_law_script","_law_k"] RE RG
 RJ:Addr
 RK:FuncData
 vJ:Df K mg "_law_low" B5 ["_law_top","_law_bottom"] RJ RK
 RM:Addr
 RN:FuncData
 RO:Df K mg "_law_add" B6 ["_law_one","_law_other"] RM RN
 RP:Addr
 RQ:FuncData
 RS:Df K mg "_law_mul" B7 ["_law_one","_law_other"] RP RQ
 MA:Addr
 MB:FuncData
 Ep:Df K mg "_law_rmul" vg ["_law_one","_law_other"] MA MB
 RT:Addr
 RU:FuncData
 RV:Df K mg "_law_row" s_row ["_law_xs","_law_low_here"] RT RU
 GA:Addr
 GB:FuncData
 GC:Df K mg "_law_qsame" qe ["_law_one","_law_other"] GA GB
 GD:Addr
 GF:FuncData
 GG:Df K mg "_law_whole" qf ["_law_found"] GD GF
 Cm:Addr
 Co:FuncData
 Cp:Df K mg "_law_is_row" l9 ["_law_row_here"] Cm Co
 GH:Addr
 GI:FuncData
 GJ:Df K mg "_law_plain" qg ["_law_row_here"] GH GI
 MC:Addr
 MD:FuncData
 ME:Df K mg "_law_left" vh ["_law_one","_law_other"] MC MD
 yi:Addr
 yj:FuncData
 yk:Df K mg "_law_coprime" j4 ["_law_one","_law_other"] yi yj
 nU:Addr
 nV:FuncData
 nW:Df K mg "_law_is_quotient" eK ["_law_found"] nU nV
 ym:Addr
 yo:FuncData
 yp:Df K mg "_law_refused" rG ["_law_top"] ym yo
 RW:Addr
 RX:FuncData
 ZA:Df K mg "law" B8 ["_law_script"] RW RX
 fW:mg "ValueError"=none
 vK:mg "abs"=none
 Cq:mg "any"=none
 vL:mg "bool"=none
 fk:mg "enumerate"=none
 Cr:mg "int"=none
 aM:mg "isinstance"=none
 dJ:mg "len"=none
 g8:mg "list"=none
 su:mg "max"=none
 gC:mg "range"=none
 m6:mg "tuple"=none
 Wt:∃u,mg "LONG"=some u/\RelV (.int 6000) u
 IC:∃u,mg "WITNESS"=some u/\RelV (.int 2147483647) u
 aR:Addr
 zY:mg "HouseError"=some (.ref aR)
 zZ:Ah K aR
 ah:Addr
 vM:mg "NoNumber"=some (.ref ah)
 cG:Ah K ah
 kC:Addr
 Qd:mg "NoRow"=some (.ref kC)
 gw:Addr
 ID:mg "NoValue"=some (.ref gw)
 iW:Addr
 MF:mg "NoText"=some (.ref iW)
 iX:Addr
 MG:mg "NoRoot"=some (.ref iX)
 iY:Addr
 MH:mg "TooFar"=some (.ref iY)
 iZ:Addr
 MI:mg "NoLine"=some (.ref iZ)
 m8:kitOne K (.ref ah) (.ref ah)=some true
 rJ:kitOne K (.ref ah) (.ref kC)=some false
 oM:kitOne K (.ref ah) (.ref gw)=some false
 qE:kitOne K (.ref ah) (.ref iW)=some false
 qF:kitOne K (.ref ah) (.ref iX)=some false
 qG:kitOne K (.ref ah) (.ref iY)=some false
 qH:kitOne K (.ref ah) (.ref iZ)=some false
 kW:kitOne K (.ref ah) (.type "ValueError")=some true
 bF:mroIn K ah (.ref aR)=some true
section
variable{P:Program}{w:World}{K:Frag}{mg:Str->Option Value}{base:Heap}
theorem ZC:aK ⟨["one","other"],(aa BZ).names,[],["turned","turn"],["LONG"],["abs"],[.s,.s],[]⟩ (bO [.s,.s]) .s BE (aj BZ)=true:=by decide+kernel
theorem ZD(T:Tx K mg):Tab P w K mg base ["turned","turn"] ["LONG"] ["abs"] [.s,.s] [] (cN [Z9,Z9]) (qJ [(.int 6000)]) 1:=by
 refine⟨λj x e h=>?_,λj g x e h=>?_,λj x e=>?_,?_,uX K,λj x C e h=>?_⟩
 ·match j,e with
  |0,e=>cases e;exact T.Mz.fD (m:=.s) (LR (k:=1)) rfl (by walk_at "len_of") (by decide)
  |1,e=>cases e;exact T.Ws.fD (m:=.s) (LR (k:=1)) rfl (by walk_at "len_of") (by decide)
  |_+2,e=>simp at e
 ·cases h
 ·match j,e with
  |0,e=>cases e;obtain⟨u,b,a⟩:=T.Wt;exact⟨u,_,b,a,λ_ _=>by show Rep _ _ _ (.int 6000) _;rw[Rep]⟩
  |_+1,e=>simp at e
 ·intro x h;simp only[GT,TB,nr]at h;rcases h with rfl
  ·exact T.vK
 ·match j,e with
  |0,e=>cases h
  |_+1,e=>simp at e
theorem MJ(T:Tx K mg):aN P w K mg base (dD P w) 2 T.RC T.RD ["one","other"] (fz K 2 .s Il):=
 aP T.Gw.F Wi (ZD T) BE [] .s Il (by decide) (by decide) rfl ZC (by walk_at "len_of") Zg
theorem MK:aK ⟨["number","exponent","power"],(aa l6).names,[],[],[],[],[],[]⟩ (bO []) .s lS (aj l6)=true:=by decide+kernel
theorem Cs(T:Tx K mg):aN P w K mg base (dD P w) 1 T.Cg T.Ci ["number","exponent"] (fz K 2 .s pU):=
 aP T.vv.F Iz (tab_of (k:=0) (Ss:=[]) (by exact trivial) (by exact trivial)) lS [] .s pU (by decide) (by decide) rfl MK (by walk_at "len_of") LV
theorem Er:aK ⟨["top","bottom","divisor"],(aa iT).names,[],["gcd"],[],[],[.s],[]⟩ (bO [.s]) .s iO (aj iT)=true:=by decide+kernel
theorem Es(T:Tx K mg):aN P w K mg base (dD P w) 3 T.vA T.vB ["top","bottom"] (fz K 2 .s mV):=
 aP T.vC.F B9 (tab_of (k:=2) (by exact⟨T.Gw.fD (m:=.s) (MJ T) rfl (by walk_at "len_of") (by decide),trivial⟩) (by exact trivial)) iO [] .s mV (by decide) (by decide) rfl Er (by walk_at "len_of") DU
theorem IE:aK ⟨["row","bottom","number","part"],(aa jX).names,[],["gcd"],[],[],[.s],[]⟩ (bO [.s]) .s jQ (aj jX)=true:=by decide+kernel
theorem IF(T:Tx K mg):aN P w K mg base (dD P w) 3 T.x6 T.x8 ["row"] (fz K 1 .s pV):=
 aP T.x9.F Ek (tab_of (k:=2) (by exact⟨T.Gw.fD (m:=.s) (MJ T) rfl (by walk_at "len_of") (by decide),trivial⟩) (by exact trivial)) jQ [] .s pV (by decide) (by decide) rfl IE (by walk_at "len_of") Im
theorem IG:aK ⟨["numbers","length"],(aa jY).names,[],[],[],["len"],[],[]⟩ (bO []) .f jP (aj jY)=true:=by decide+kernel
theorem j6(T:Tx K mg):aN P w K mg base (dD P w) 1 T.ya T.yb ["numbers"] (fz K 1 .f gH):=
 aP T.iF.F El (tab_of (k:=0) (Ss:=[]) (by exact trivial) (by exact⟨T.dJ,trivial⟩)) jP [] .f gH (by decide) (by decide) rfl IG (by walk_at "len_of") Ik
theorem Et:aK ⟨["numbers","bottom"],(aa iU).names,[],["trimmed","fraction"],[],[],[.f,.s],[]⟩ (bO [.f,.s]) .f iP (aj iU)=true:=by decide+kernel
theorem Eu(T:Tx K mg):aN P w K mg base (dD P w) 4 T.vD T.vE ["numbers","bottom"] (fz K 2 .f jR):=
 aP T.vF.F Ca (tab_of (k:=3) (by exact⟨T.iF.fD (m:=.f) (j6 T) rfl (by walk_at "len_of") (by decide),T.vC.fD (m:=.s) (Es T) rfl (by walk_at "len_of") (by decide),trivial⟩) (by exact trivial)) iP [] .f jR (by decide) (by decide) rfl Et (by walk_at "len_of") DW
theorem ML:aK ⟨["numbers","by"],(aa l7).names,[],[],[],[],[],[]⟩ (bO []) .f lP (aj l7)=true:=by decide+kernel
theorem qI(T:Tx K mg):aN P w K mg base (dD P w) 1 T.Cj T.Ck ["numbers","by"] (fz K 2 .f jf):=
 aP T.mh.F IA (tab_of (k:=0) (Ss:=[]) (by exact trivial) (by exact trivial)) lP [] .f jf (by decide) (by decide) rfl ML (by walk_at "len_of") LS
theorem z4:aK ⟨["one","other","length","told","place","number"],(aa fR).names,[(3,.f)],["trimmed"],[],["max","len","list","enumerate"],[.f],[]⟩ (bO [.f]) .f fJ (aj fR)=true:=by decide+kernel
theorem z5(T:Tx K mg):aN P w K mg base (dD P w) 2 T.qh T.qi ["one","other"] (fz K 2 .f jg):=
 aP T.qj.F wG (tab_of (k:=1) (by exact⟨T.iF.fD (m:=.f) (j6 T) rfl (by walk_at "len_of") (by decide),trivial⟩) (by exact⟨T.su,T.dJ,T.g8,T.fk,trivial⟩)) fJ [(3,.f)] .f jg (by decide) (by decide) rfl z4 (by walk_at "len_of") zG
theorem wM:aK ⟨["one","other"],(aa dZ).names,[],["whole_plus","scaled"],[],[],[.f,.f],[]⟩ (bO [.f,.f]) .f dS (aj dZ)=true:=by decide+kernel
theorem wN(T:Tx K mg):aN P w K mg base (dD P w) 3 T.nD T.nE ["one","other"] (fz K 2 .f ir):=
 aP T.nF.F vj (tab_of (k:=2) (by exact⟨T.qj.fD (m:=.f) (z5 T) rfl (by walk_at "len_of") (by decide),T.mh.fD (m:=.f) (qI T) rfl (by walk_at "len_of") (by decide),trivial⟩) (by exact trivial)) dS [] .f ir (by decide) (by decide) rfl wM (by walk_at "len_of") wz
theorem wO:aK ⟨["one","other","told","place","number","further","factor"],(aa eu).names,[(2,.f)],[],[],["len","enumerate"],[],[]⟩ (bO []) .f dU (aj eu)=true:=by decide+kernel
theorem wQ(T:Tx K mg):aN P w K mg base (dD P w) 1 T.nG T.nH ["one","other"] (fz K 2 .f iy):=
 aP T.nI.F vm (tab_of (k:=0) (Ss:=[]) (by exact trivial) (by exact⟨T.dJ,T.fk,trivial⟩)) dU [(2,.f)] .f iy (by decide) (by decide) rfl wO (by walk_at "len_of") wB
theorem sL:aK ⟨["one","other","room","lead","rest","quotient","place","head","further","scale"],(aa cT).names,[(4,.f),(5,.f)],["scaled","trimmed"],[],["max","len","list","range"],[.f,.f],[]⟩ (bO [.f,.f]) .s cS (aj cT)=true:=by decide+kernel
theorem sM(T:Tx K mg):aN P w K mg base (dD P w) 2 T.kN T.kO ["one","other"] (fz K 2 .s fK):=
 aP T.kP.F rH (tab_of (k:=1) (by exact⟨T.mh.fD (m:=.f) (qI T) rfl (by walk_at "len_of") (by decide),T.iF.fD (m:=.f) (j6 T) rfl (by walk_at "len_of") (by decide),trivial⟩) (by exact⟨T.su,T.dJ,T.g8,T.gC,trivial⟩)) cS [(4,.f),(5,.f)] .s fK (by decide) (by decide) rfl sL (by walk_at "len_of") sH
theorem z6:aK ⟨["one","other","room","rest","quotient","place","head","further"],(aa fS).names,[(3,.f),(4,.f)],[],[],["len","list","range"],[],[]⟩ (bO []) .f fL (aj fS)=true:=by decide+kernel
theorem z7(T:Tx K mg):aN P w K mg base (dD P w) 1 T.qk T.qm ["one","other"] (fz K 2 .f gM):=
 aP T.qo.F wH (tab_of (k:=0) (Ss:=[]) (by exact trivial) (by exact⟨T.dJ,T.g8,T.gC,trivial⟩)) fL [(3,.f),(4,.f)] .f gM (by decide) (by decide) rfl z6 (by walk_at "len_of") zK
theorem Ct:aK ⟨["numbers","content","number"],(aa gO).names,[],["gcd"],[],["list"],[.s],[]⟩ (bO [.s]) .s gJ (aj gO)=true:=by decide+kernel
theorem sA(T:Tx K mg):aN P w K mg base (dD P w) 3 T.r9 T.sd ["numbers"] (fz K 1 .s gr):=
 aP T.mq.F zW (tab_of (k:=2) (by exact⟨T.Gw.fD (m:=.s) (MJ T) rfl (by walk_at "len_of") (by decide),trivial⟩) (by exact⟨T.g8,trivial⟩)) gJ [] .s gr (by decide) (by decide) rfl Ct (by walk_at "len_of") BF
theorem wR:aK ⟨["height","lead","drop"],(aa eE).names,[],["raised"],[],[],[.s],[]⟩ (bO [.s]) .s dW (aj eE)=true:=by decide+kernel
theorem wU(T:Tx K mg):aN P w K mg base (dD P w) 2 T.nN T.nO ["height","lead","drop"] (fz K 3 .s iz):=
 aP T.nQ.F vo (tab_of (k:=1) (by exact⟨T.vv.fD (m:=.s) (Cs T) rfl (by walk_at "len_of") (by decide),trivial⟩) (by exact trivial)) dW [] .s iz (by decide) (by decide) rfl wR (by walk_at "len_of") wC
theorem Cu:aK ⟨["row","numbers","bottom","content"],(aa gP).names,[],["cleared","shortened"],[],[],[.s,.s],[]⟩ (bO [.s,.s]) .s gK (aj gP)=true:=by decide+kernel
theorem Cv(T:Tx K mg):aN P w K mg base (dD P w) 4 T.se T.sf ["row"] (fz K 1 .s iQ):=
 aP T.sj.F zX (tab_of (k:=3) (by exact⟨T.x9.fD (m:=.s) (IF T) rfl (by walk_at "len_of") (by decide),T.mq.fD (m:=.s) (sA T) rfl (by walk_at "len_of") (by decide),trivial⟩) (by exact trivial)) gK [] .s iQ (by decide) (by decide) rfl Cu (by walk_at "len_of") BG
theorem wV(T:Tx K mg):aN P w K mg base (dD P w) 1 T.nK T.nM ["self","one","other","factor"] (L5 T.au):=by
 have g:=T.m5.ok.1;have d:=T.m5.ok.2.2.2;refine T.gB.F.ZV vn (λn H Q E h=>?_) (λv A k s H n Q E y h=>?_)
 ·obtain⟨x,a,t,r,p,rfl,_⟩:=h;rfl
 obtain⟨x,a,t,r,p,rfl,u,q⟩:=h;refine⟨_,(@cI _ _ _ _ _ (jj (pv 0) (pv 1) rfl)
  (@cI _ _ _ _ _ (jj (pv 0) (pv 2) rfl)
  (@cI _ _ _ _ _ (jj (pv 0) (pv 3) rfl)
  (@cI _ _ _ _ _ (jj (pv 0) (ua bf) rfl)
  (@cI _ _ _ _ _ (jj (pv 0) n6 rfl)
  (@cI _ _ _ _ _ (jj (pv 0) n6 rfl)
  (@cI _ _ _ _ _ (jj (pv 0) n6 rfl)
  (@cI _ _ _ _ _ (jj (pv 0) n6 rfl)
  (sO (jj (pv 0) n6 rfl)))))))))),?_⟩
 refine⟨_,rfl,_,rfl,x,T.au,a,_,rfl,u,g,d "ahead" (by decide),by show 0<1000;decide,?_⟩;refine⟨_,rfl,_,rfl,x,T.au,a,_,rfl,aD,g,d "last" (by decide),by show 1<1000;decide,?_⟩;refine⟨_,rfl,_,rfl,x,T.au,a,_,rfl,aD,g,d "factor_ahead" (by decide),by show 2<1000;decide,?_⟩;refine⟨fj (by simp),λj i=>?_⟩;have c:j≠x:=λe=>by rw[e,aD]at i;cases i
 refine⟨_,rfl,x,T.au,a,_,rfl,uc aD i,g,d "factor_last" (by decide),by show 3<1000;decide,?_⟩;refine⟨_,rfl,x,T.au,a,_,rfl,aD,g,d "lead" (by decide),by show 4<1000;decide,?_⟩;refine⟨_,rfl,x,T.au,a,_,rfl,aD,g,d "height" (by decide),by show 5<1000;decide,?_⟩;refine⟨_,rfl,x,T.au,a,_,rfl,aD,g,d "sign" (by decide),by show 6<1000;decide,?_⟩;refine⟨_,rfl,x,T.au,a,_,rfl,aD,g,d "scale" (by decide),by show 7<1000;decide,?_⟩;refine⟨_,rfl,x,T.au,a,_,rfl,aD,g,d "known" (by decide),by show 8<1000;decide,?_⟩;rw[ao c,ao c,ao c]at i;refine q j _ (λb o f m=>?_) i ?_ aD
 ·have l:b≠j:=aV m i;rw[ao f,ao f,ao f,ao f,ao f,ao f,ao l,ao f,ao f,ao f];exact m
 ·rw[ao c,ao c,ao c,ao c,ao c,ao c,aD]
theorem Qe(T:Tx K mg):gf P w K mg base 2 (.ref T.au) 3 (fz K 3 mT (zN T.au)):=
 Ea T.m5.ok ⟨T.m5.mks,T.gB.M.1,T.gB.M.fn,T.m5.kp⟩ T.gB.b (wV T)
theorem z8:aK ⟨["self","quotient","rest","scale","factor","drop","known"],(aa fU).names,[(0,mT)],["whole_divided","whole_minus","scaled","whole_times","raised","next_height"],[],["len"],[.s,.f,.f,.f,.s,.s],[]⟩ (bO [.s,.f,.f,.f,.s,.s]) (.io mT) fM (aj fU)=true:=by decide+kernel
theorem z9(T:Tx K mg):aN P w K mg base (dD P w) 4 T.qw T.qx ["self"] (fz K 1 (.io mT) (BJ T.au)):=
 Gd T.qy.F wK (tab_of (k:=3) (by exact⟨T.kP.fD (m:=.s) (sM T) rfl (by walk_at "len_of") (by decide),T.nF.fD (m:=.f) (wN T) rfl (by walk_at "len_of") (by decide),T.mh.fD (m:=.f) (qI T) rfl (by walk_at "len_of") (by decide),T.nI.fD (m:=.f) (wQ T) rfl (by walk_at "len_of") (by decide),T.vv.fD (m:=.s) (Cs T) rfl (by walk_at "len_of") (by decide),T.nQ.fD (m:=.s) (wU T) rfl (by walk_at "len_of") (by decide),trivial⟩) (by exact⟨T.dJ,trivial⟩)) fM [(0,mT)] mT (BJ T.au) (by decide) (by decide) (by decide) (by decide) z8 (by walk_at "len_of") zL
theorem Aa:aK ⟨["self","going"],(aa fT).names,[(0,mT)],["step"],[],["len"],[(.io mT)],[(0,0)]⟩ (bO [(.io mT)]) (.io mT) fN (aj fT)=true:=by decide+kernel
theorem Ab(T:Tx K mg):Tab P w K mg base ["step"] [] ["len"] [(.io mT)] [(0,0)] (cN [(BJ T.au)]) (qJ [(.cls T.au)]) 4:=by
 refine⟨λj x e h=>?_,λj g x e h=>?_,λj x e=>?_,?_,uX K,λj x C e h=>?_⟩
 ·match j,e with
  |0,e=>cases h
  |_+1,e=>simp at e
 ·simp only[GT,TB,nr,Prod.mk.injEq]at h;rcases h with⟨rfl,rfl⟩
  ·cases e;exact T.qy.fD (m:=(.io mT)) (z9 T) (by walk_at "len_of") (by decide) rfl
 ·match j,e with
  |_+0,e=>simp at e
 ·intro x h;simp only[GT,TB,nr]at h;rcases h with rfl
  ·exact T.dJ
 ·match j,e with
  |_+0,e=>simp at e
theorem Ac(T:Tx K mg):aN P w K mg base (dD P w) 5 T.qp T.qu ["self"] (fz K 1 (.io mT) (BL T.au)):=
 Gd T.qv.F wJ (Ab T) fN [(0,mT)] mT (BL T.au) (by decide) (by decide) (by decide) (by decide) Aa (by walk_at "len_of") zM
theorem MM:aK ⟨["one","other","u","next_u","v","next_v","often"],(aa l5).names,[],[],[],[],[],[]⟩ (bO []) .s lV (aj l5)=true:=by decide+kernel
theorem MN(T:Tx K mg):aN P w K mg base (dD P w) 1 T.Cc T.Ce ["one","other"] (fz K 2 .s tM):=
 aP T.Cf.F Iw (tab_of (k:=0) (Ss:=[]) (by exact trivial) (by exact trivial)) lV [] .s tM (by decide) (by decide) rfl MM (by walk_at "len_of") L8
theorem II:aK ⟨["number","modulus"],(aa j3).names,[],["common"],[],[],[.s],[]⟩ (bO [.s]) .s jT (aj j3)=true:=by decide+kernel
theorem IJ(T:Tx K mg):aN P w K mg base (dD P w) 2 T.yf T.yg ["number","modulus"] (fz K 2 .s pZ):=
 aP T.yh.F En (tab_of (k:=1) (by exact⟨T.Cf.fD (m:=.s) (MN T) rfl (by walk_at "len_of") (by decide),trivial⟩) (by exact trivial)) jT [] .s pZ (by decide) (by decide) rfl II (by walk_at "len_of") Ip
theorem IK:aK ⟨["numbers","modulus"],(aa jZ).names,[],["trimmed"],[],[],[.f],[]⟩ (bO [.f]) .s jU (aj jZ)=true:=by decide+kernel
theorem IL(T:Tx K mg):aN P w K mg base (dD P w) 2 T.yc T.yd ["numbers","modulus"] (fz K 2 .s lW):=
 aP T.ye.F Em (tab_of (k:=1) (by exact⟨T.iF.fD (m:=.f) (j6 T) rfl (by walk_at "len_of") (by decide),trivial⟩) (by exact trivial)) jU [] .s lW (by decide) (by decide) rfl IK (by walk_at "len_of") Iq
theorem Ad:aK ⟨["one","other","modulus","room","by","rest","quotient","place","head","further"],(aa fV).names,[(5,.f),(6,.f)],["inverse","trimmed"],[],["max","len","list","range"],[.s,.f],[]⟩ (bO [.s,.f]) .s fO (aj fV)=true:=by decide+kernel
theorem Ae(T:Tx K mg):aN P w K mg base (dD P w) 3 T.qz T.qA ["one","other","modulus"] (fz K 3 .s jh):=
 aP T.qB.F wL (tab_of (k:=2) (by exact⟨T.yh.fD (m:=.s) (IJ T) rfl (by walk_at "len_of") (by decide),T.iF.fD (m:=.f) (j6 T) rfl (by walk_at "len_of") (by decide),trivial⟩) (by exact⟨T.su,T.dJ,T.g8,T.gC,trivial⟩)) fO [(5,.f),(6,.f)] .s jh (by decide) (by decide) rfl Ad (by walk_at "len_of") zP
theorem Ew:aK ⟨["one","other","prime"],(aa iV).names,[],["divided_by"],[],["len"],[.s],[]⟩ (bO [.s]) .s iR (aj iV)=true:=by decide+kernel
theorem Ex(T:Tx K mg):aN P w K mg base (dD P w) 4 T.vG T.vH ["one","other","prime"] (fz K 3 .s jV):=
 aP T.vI.F Cb (tab_of (k:=3) (by exact⟨T.qB.fD (m:=.s) (Ae T) rfl (by walk_at "len_of") (by decide),trivial⟩) (by exact⟨T.dJ,trivial⟩)) iR [] .s jV (by decide) (by decide) rfl Ew (by walk_at "len_of") Ec
theorem rK:aK ⟨["one","other","chain"],(aa b6).names,[(2,mT)],["whole_divisor","apart_by","reduced","Chain","walk","shortened"],["WITNESS"],["len"],[.s,.s,.s,mT,(.io mT),.s],[(4,1)]⟩ (bO [.s,.s,.s,mT,(.io mT),.s]) .s BO (aj b6)=true:=by decide+kernel
theorem rM(T:Tx K mg):Tab P w K mg base ["whole_divisor","apart_by","reduced","Chain","walk","shortened"] ["WITNESS"] ["len"] [.s,.s,.s,mT,(.io mT),.s] [(4,1)] (cN [Z9,jV,lW,(zN T.au),(BL T.au),gr]) (qJ [(.int 2147483647),(.cls T.au)]) 5:=by
 refine⟨λj x e h=>?_,λj g x e h=>?_,λj x e=>?_,?_,uX K,λj x C e h=>?_⟩
 ·match j,e with
  |0,e=>cases e;exact T.cU.fD (m:=.s) (LR (k:=1)) rfl (by walk_at "len_of") (by decide)
  |1,e=>cases e;exact T.vI.fD (m:=.s) (Ex T) rfl (by walk_at "len_of") (by decide)
  |2,e=>cases e;exact T.ye.fD (m:=.s) (IL T) rfl (by walk_at "len_of") (by decide)
  |3,e=>cases e;exact⟨_,_,2,T.m5.c,Qe T,by decide,by walk_at "len_of"⟩
  |4,e=>cases h
  |5,e=>cases e;exact T.mq.fD (m:=.s) (sA T) rfl (by walk_at "len_of") (by decide)
  |_+6,e=>simp at e
 ·simp only[GT,TB,nr,Prod.mk.injEq]at h;rcases h with⟨rfl,rfl⟩
  ·cases e;exact T.qv.fD (m:=(.io mT)) (Ac T) (by walk_at "len_of") (by decide) rfl
 ·match j,e with
  |0,e=>cases e;obtain⟨u,b,a⟩:=T.IC;exact⟨u,_,b,a,λ_ _=>by show Rep _ _ _ (.int 2147483647) _;rw[Rep]⟩
  |_+1,e=>simp at e
 ·intro x h;simp only[GT,TB,nr]at h;rcases h with rfl
  ·exact T.dJ
 ·match j,e with
  |0,e=>cases h
  |_+1,e=>simp at e
theorem j7(T:Tx K mg):aN P w K mg base (dD P w) 6 T.eT T.eU ["one","other"] (fz K 2 .s Ed):=
 aP T.cU.F j5 (rM T) BO [(2,mT)] .s Ed (by decide) (by decide) rfl rK Gn Zp
theorem rN:aK ⟨["one","other","chain"],(aa b6).names,[(2,mT)],["whole_divisor"],[],["len"],[.s],[]⟩ (bO [.s]) .s BP (aj b6)=true:=by decide+kernel
theorem rO(T:Tx K mg):aN P w K mg base (dD P w) 7 T.eT T.eU ["one","other"] (fz K 2 .s Ir):=
 aP T.cU.F j5 (tab_of (k:=6) (by exact⟨T.cU.fD (m:=.s) (j7 T) rfl Gn (by decide),trivial⟩) (by exact⟨T.dJ,trivial⟩)) BP [(2,mT)] .s Ir (by decide) (by decide) rfl rN PM Zq
theorem sN(T:Tx K mg):aN P w K mg base (dD P w) 7 T.eT T.eU ["one","other"] (fz K 2 .s cy):=
 Zr (j7 T) (rO T) (by decide) (by decide)
theorem wW:aK ⟨["top","bottom","numbers","part","content","other_numbers","other_part","other_content","divisor","lead","top_numbers"],(aa eH).names,[],["primitive","whole_divisor","whole_over","scaled","row_over"],["NoNumber"],[],[.s,.s,.f,.f,.f],[]⟩ (bO [.s,.s,.f,.f,.f]) (.t [.f,.f]) dX (aj eH)=true:=by decide+kernel
theorem wX(T:Tx K mg):Tab P w K mg base ["primitive","whole_divisor","whole_over","scaled","row_over"] ["NoNumber"] [] [.s,.s,.f,.f,.f] [] (cN [iQ,cy,gM,jf,jR]) (qJ [(.cls T.ah)]) 7:=by
 refine⟨λj x e h=>?_,λj g x e h=>?_,λj x e=>?_,?_,uX K,λj x C e h=>?_⟩
 ·match j,e with
  |0,e=>cases e;exact T.sj.fD (m:=.s) (Cv T) rfl (by walk_at "len_of") (by decide)
  |1,e=>cases e;exact T.cU.fD (m:=.s) (sN T) rfl (by walk_at "len_of") (by decide)
  |2,e=>cases e;exact T.qo.fD (m:=.f) (z7 T) rfl (by walk_at "len_of") (by decide)
  |3,e=>cases e;exact T.mh.fD (m:=.f) (qI T) rfl (by walk_at "len_of") (by decide)
  |4,e=>cases e;exact T.vF.fD (m:=.f) (Eu T) rfl (by walk_at "len_of") (by decide)
  |_+5,e=>simp at e
 ·cases h
 ·match j,e with
  |0,e=>cases e;exact⟨_,.ref T.ah,T.vM,rfl,λ_ _=>by rw[qJ,Rep]⟩
  |_+1,e=>simp at e
 ·intro x h;cases h
 ·match j,e with
  |0,e=>cases h;exact T.cG
  |_+1,e=>simp at e
theorem nX(T:Tx K mg):aN P w K mg base (dD P w) 8 T.nR T.nT ["top","bottom"] (fz K 2 (.t [.f,.f]) (mX T.ah)):=
 aP T.eN.F vp (wX T) dX [] (.t [.f,.f]) (mX T.ah) (by decide) (by decide) rfl wW (by walk_at "len_of") wD
theorem ZE:aK ⟨["_law_top","_law_bottom","_law_one","_law_other"],(aa B5).names,[],[],[],["abs"],[],[]⟩ (bO []) .s BS (aj B5)=true:=by decide+kernel
theorem yq(T:Tx K mg):aN P w K mg base (dD P w) 1 T.RJ T.RK ["_law_top","_law_bottom"] (fz K 2 .s zS):=
 aP T.vJ.F Wk (tab_of (k:=0) (Ss:=[]) (by exact trivial) (by exact⟨T.vK,trivial⟩)) BS [] .s zS (by decide) (by decide) rfl ZE (by walk_at "len_of") Zs
theorem ZF:aK ⟨["_law_one","_law_other"],(aa B6).names,[],["_law_low"],[],[],[.s],[]⟩ (bO [.s]) .s BA (aj B6)=true:=by decide+kernel
theorem v_add(T:Tx K mg):aN P w K mg base (dD P w) 2 T.RM T.RN ["_law_one","_law_other"] (fz K 2 .s (BB HAdd.hAdd)):=
 aP T.RO.F Wl (tab_of (k:=1) (by exact⟨T.vJ.fD (m:=.s) (yq T) rfl (by walk_at "len_of") (by decide),trivial⟩) (by exact trivial)) BA [] .s (BB HAdd.hAdd) (by decide) (by decide) rfl ZF (by walk_at "len_of") p_add
theorem ZG:aK ⟨["_law_one","_law_other"],(aa B7).names,[],["_law_low"],[],[],[.s],[]⟩ (bO [.s]) .s jO (aj B7)=true:=by decide+kernel
theorem v_mul(T:Tx K mg):aN P w K mg base (dD P w) 2 T.RP T.RQ ["_law_one","_law_other"] (fz K 2 .s (BB HMul.hMul)):=
 aP T.RS.F Wm (tab_of (k:=1) (by exact⟨T.vJ.fD (m:=.s) (yq T) rfl (by walk_at "len_of") (by decide),trivial⟩) (by exact trivial)) jO [] .s (BB HMul.hMul) (by decide) (by decide) rfl ZG (by walk_at "len_of") Zt
theorem Wu:aK ⟨["_law_one","_law_other","_law_found","_law_k","_law_j"],(aa vg).names,[(2,.f)],["_law_add","_law_mul"],[],["max","len","range"],[.s,.s],[]⟩ (bO [.s,.s]) .f u7 (aj vg)=true:=by decide+kernel
theorem MO(T:Tx K mg):aN P w K mg base (dD P w) 3 T.MA T.MB ["_law_one","_law_other"] (fz K 2 .f xZ):=
 aP T.Ep.F Qa (tab_of (k:=2) (by exact⟨T.RO.fD (m:=.s) (v_add T) rfl (by walk_at "len_of") (by decide),T.RS.fD (m:=.s) (v_mul T) rfl (by walk_at "len_of") (by decide),trivial⟩) (by exact⟨T.su,T.dJ,T.gC,trivial⟩)) u7 [(2,.f)] .f xZ (by decide) (by decide) rfl Wu (by walk_at "len_of") Wa
theorem Qg:aK ⟨["_law_cell","_law_sizes","_law_found","_law_size","_law_seed"],(aa qd).names,[(2,.f)],[],[],[],[],[]⟩ (bO []) .f p6 (aj qd)=true:=by decide+kernel
theorem Qh(T:Tx K mg):aN P w K mg base (dD P w) 1 T.Gx T.Gy ["_law_cell","_law_sizes"] (fz K 2 .f u9):=
 aP T.Gz.F Mt (tab_of (k:=0) (Ss:=[]) (by exact trivial) (by exact trivial)) p6 [(2,.f)] .f u9 (by decide) (by decide) rfl Qg (by walk_at "len_of") PR
theorem ZH:aK ⟨["_law_script","_law_k"],(aa B4).names,[],[],[],["len"],[],[]⟩ (bO []) .s BV (aj B4)=true:=by decide+kernel
theorem ZI(T:Tx K mg):aN P w K mg base (dD P w) 1 T.RE T.RG ["_law_script","_law_k"] (fz K 2 .s PU):=
 aP T.RH.F Wj (tab_of (k:=0) (Ss:=[]) (by exact trivial) (by exact⟨T.dJ,trivial⟩)) BV [] .s PU (by decide) (by decide) rfl ZH (by walk_at "len_of") Zu
theorem ZJ:aK ⟨["_law_xs","_law_low_here","_law_row_here"],(aa s_row).names,[(2,.f)],["_law_low"],[],["range","len"],[.s],[]⟩ (bO [.s]) .f p7 (aj s_row)=true:=by decide+kernel
theorem ZK(T:Tx K mg):aN P w K mg base (dD P w) 2 T.RT T.RU ["_law_xs","_law_low_here"] (fz K 2 .f vd):=
 aP T.RV.F Wn (tab_of (k:=1) (by exact⟨T.vJ.fD (m:=.s) (yq T) rfl (by walk_at "len_of") (by decide),trivial⟩) (by exact⟨T.gC,T.dJ,trivial⟩)) p7 [(2,.f)] .f vd (by decide) (by decide) rfl ZJ (by walk_at "len_of") PV
theorem Qi:aK ⟨["_law_one","_law_other"],(aa qe).names,[],["_law_rmul"],[],[],[.f],[]⟩ (bO [.f]) .s p8 (aj qe)=true:=by decide+kernel
theorem Qj(T:Tx K mg):aN P w K mg base (dD P w) 4 T.GA T.GB ["_law_one","_law_other"] (fz K 2 .s zT):=
 aP T.GC.F Mu (tab_of (k:=3) (by exact⟨T.Ep.fD (m:=.f) (MO T) rfl (by walk_at "len_of") (by decide),trivial⟩) (by exact trivial)) p8 [] .s zT (by decide) (by decide) rfl Qi (by walk_at "len_of") PY
theorem k_whole:aK ⟨["_law_found"],(aa qf).names,[],[],[],["isinstance","int","bool"],[],[]⟩ (bO []) .s pY (aj qf)=true:=by decide+kernel
theorem Qk(T:Tx K mg):aN P w K mg base (dD P w) 1 T.GD T.GF ["_law_found"] (fz K 1 .s zO):=
 aP T.GG.F Mv (tab_of (k:=0) (Ss:=[]) (by exact trivial) (by exact⟨T.aM,T.Cr,T.vL,trivial⟩)) pY [] .s zO (by decide) (by decide) rfl k_whole (by walk_at "len_of") PJ
theorem MP:aK ⟨["_law_row_here","_law_number"],(aa l9).names,[],["_law_whole","_law_low"],[],["isinstance","list","tuple","len"],[.s,.s],[]⟩ (bO [.s,.s]) .s iS (aj l9)=true:=by decide+kernel
theorem MQ(T:Tx K mg):aN P w K mg base (dD P w) 2 T.Cm T.Co ["_law_row_here"] (fz K 1 .s mZ):=
 aP T.Cp.F IB (tab_of (k:=1) (by exact⟨T.GG.fD (m:=.s) (Qk T) rfl (by walk_at "len_of") (by decide),T.vJ.fD (m:=.s) (yq T) rfl (by walk_at "len_of") (by decide),trivial⟩) (by exact⟨T.aM,T.g8,T.m6,T.dJ,trivial⟩)) iS [] .s mZ (by decide) (by decide) rfl MP (by walk_at "len_of") Eh
theorem Ql:aK ⟨["_law_row_here","_law_bottom","_law_number"],(aa qg).names,[],["_law_low"],[],[],[.s],[]⟩ (bO [.s]) .f p9 (aj qg)=true:=by decide+kernel
theorem Qm(T:Tx K mg):aN P w K mg base (dD P w) 2 T.GH T.GI ["_law_row_here"] (fz K 1 .f zU):=
 aP T.GJ.F Mw (tab_of (k:=1) (by exact⟨T.vJ.fD (m:=.s) (yq T) rfl (by walk_at "len_of") (by decide),trivial⟩) (by exact trivial)) p9 [] .f zU (by decide) (by decide) rfl Ql (by walk_at "len_of") P4
theorem Wv:aK ⟨["_law_one","_law_other","_law_rest","_law_top","_law_gap","_law_k","_law_share","_law_number","_law_low_here"],(aa vh).names,[(2,.f)],[],[],["list","len","range","abs"],[],[]⟩ (bO []) .f ve (aj vh)=true:=by decide+kernel
theorem Ww(T:Tx K mg):aN P w K mg base (dD P w) 1 T.MC T.MD ["_law_one","_law_other"] (fz K 2 .f Gu):=
 aP T.ME.F Qc (tab_of (k:=0) (Ss:=[]) (by exact trivial) (by exact⟨T.g8,T.dJ,T.gC,T.vK,trivial⟩)) ve [(2,.f)] .f Gu (by decide) (by decide) rfl Wv (by walk_at "len_of") Wf
theorem IM:aK ⟨["_law_one","_law_other","_law_here","_law_ahead"],(aa j4).names,[],["_law_plain","_law_left"],[],["len"],[.f,.f],[]⟩ (bO [.f,.f]) .s jW (aj j4)=true:=by decide+kernel
theorem IP(T:Tx K mg):aN P w K mg base (dD P w) 3 T.yi T.yj ["_law_one","_law_other"] (fz K 2 .s qa):=
 aP T.yk.F Eo (tab_of (k:=2) (by exact⟨T.GJ.fD (m:=.f) (Qm T) rfl (by walk_at "len_of") (by decide),T.ME.fD (m:=.f) (Ww T) rfl (by walk_at "len_of") (by decide),trivial⟩) (by exact⟨T.dJ,trivial⟩)) jW [] .s qa (by decide) (by decide) rfl IM (by walk_at "len_of") Iu
theorem wY:aK ⟨["_law_found"],(aa eK).names,[],["_law_is_row","_law_coprime"],[],["isinstance","tuple","len"],[.s,.s],[]⟩ (bO [.s,.s]) .s dY (aj eK)=true:=by decide+kernel
theorem wZ(T:Tx K mg):aN P w K mg base (dD P w) 4 T.nU T.nV ["_law_found"] (fz K 1 .s iA):=
 aP T.nW.F vt (tab_of (k:=3) (by exact⟨T.Cp.fD (m:=.s) (MQ T) rfl (by walk_at "len_of") (by decide),T.yk.fD (m:=.s) (IP T) rfl (by walk_at "len_of") (by decide),trivial⟩) (by exact⟨T.aM,T.m6,T.dJ,trivial⟩)) dY [] .s iA (by decide) (by decide) rfl wY (by walk_at "len_of") wF
theorem IQ(T:Tx K mg):aN P w K mg base (dD P w) 9 T.ym T.yo ["_law_top"] (fz K 1 .s vf):=by
 refine T.yp.F.ZV gv (λvs H Q E h=>?_) (λcdv A I s H vs Q E Z h=>?_)
 ·obtain⟨A,ws,P1,R,l,r,_⟩:=h;exact r.len.trans l
 obtain⟨U,ws,P1,R,l,r,d,⟨as,rfl,ra,hq⟩,c,_⟩:=h;obtain⟨v0,r0,rfl,r1,r2⟩:=r.cons_inv;cases r2.nil_inv;refine⟨_,(@cI _ _ _ _ _ (n8 (i:=1) gv.nd rfl (by first|exact Or.inl rfl|exact Or.inr rfl) Jk)
  (@cI _ _ _ _ _ (P9 (i:=2) ⟨rfl,rfl⟩ gv.nd rfl rfl rfl T.zY T.zZ (Nv (nX T) (Z.mono (by omega)) rfl T.eN.m T.eN.F.kp T.eN.b (aq (pv 0) (aq (ua bf) bf J0))) (λ_=>(@cI _ _ _ _ _ (n8 (i:=3) gv.nd rfl (by first|exact Or.inl rfl|exact Or.inr rfl) (ua (aq (cO c9 (by rfl) T.aM (by rfl) (aq (pv 2) (aq (jb (v:=.ref T.gw) rfl T.ID rfl) bf))) (aq (cO c9 (by rfl) T.aM (by rfl) (aq (pv 2) (aq (jb (v:=.ref T.iW) rfl T.MF rfl) bf))) (aq (cO c9 (by rfl) T.aM (by rfl) (aq (pv 2) (aq (jb (v:=.ref T.iX) rfl T.MG rfl) bf))) (aq (cO c9 (by rfl) T.aM (by rfl) (aq (pv 2) (aq (jb (v:=.ref T.kC) rfl T.Qd rfl) bf))) bf))))))
  (@cI _ _ _ _ _ (n8 (i:=3) gv.nd rfl (by first|exact Or.inl rfl|exact Or.inr rfl) (Xv S6 (pv 3) (ua (aq (cO c9 (by rfl) T.aM (by rfl) (aq (pv 2) (aq (jb (v:=.ref T.iY) rfl T.MH rfl) bf))) (aq (cO c9 (by rfl) T.aM (by rfl) (aq (pv 2) (aq (jb (v:=.ref T.iZ) rfl T.MI rfl) bf))) bf)))))
  (sO (n8 (i:=1) gv.nd rfl (by first|exact Or.inl rfl|exact Or.inr rfl) (yt (aq (cO c9 (by rfl) T.aM (by rfl) (aq (pv 2) (aq (EJ (v:=.ty "ValueError") (u:=.type "ValueError") (by rfl) T.fW (by rfl) rfl) bf))) (aq (cO c9 (by rfl) T.aM (by rfl) (aq (pv 2) (aq (jb (v:=.ref T.ah) rfl T.vM rfl) bf))) (aq (cO Iv (by rfl) T.Cq (by rfl) (aq (pv 3) bf)) bf))))))))))
  (sO (tU (M9 (P7 Z.units) (pv 1) (yt (aq EI (aq EI (aq EI bf)))) (CK _)))))),?_⟩
 refine⟨_,rfl,?_⟩;refine⟨fj (by simp),λG j=>?_⟩;have B:=aO j (.lst []);have nA:¬U G:=λz=>by obtain⟨o,e⟩:=d G z;rw[j]at e;cases e
 refine⟨U,[af as,af []],λ_=>False,λC=>C=T.ah,rfl,.cons (r1.same B) (.cons (by show Rep K U _ (.lst []) _;rw[Rep];exact⟨G,[],rfl,nA,.inl aD,.nil⟩) .nil),d.same B,⟨as,[],rfl,ra,⟨by decide,λx J=>by simp at J,1,by decide,by decide,λx J=>by simp at J⟩,λ_=>rfl,λs t b0=>absurd rfl b0⟩,λ_ _ _ z=>z.elim,?_⟩;rintro C S rfl s1;refine⟨_,rfl,T.cG,T.bF,λa ha=>?_⟩;have k:upd S a (yC a T.ah) a=some (yC a T.ah):=aD;have y:aE H (upd S a (yC a T.ah)):=B.trans (s1.trans (aO ha _));generalize upd S a (yC a T.ah)=H2 at*;refine⟨_,rfl,a,T.ah,_,_,_,rfl,k,T.cG,.own _,T.oM,?_⟩;refine⟨_,rfl,a,T.ah,_,_,_,rfl,k,T.cG,.own _,T.qE,?_⟩;refine⟨_,rfl,a,T.ah,_,_,_,rfl,k,T.cG,.own _,T.qF,?_⟩;refine⟨_,rfl,a,T.ah,_,_,_,rfl,k,T.cG,.own _,T.rJ,?_⟩;refine⟨fj (by simp),λq M=>?_⟩;have Y:=aO M (.lst [V.bl false,V.bl false,V.bl false,V.bl false]);have e2:upd H2 q (.lst [V.bl false,V.bl false,V.bl false,V.bl false]) q=some (.lst [V.bl false,V.bl false,V.bl false,V.bl false]):=aD;generalize upd H2 q (.lst [V.bl false,V.bl false,V.bl false,V.bl false])=H3 at*;have O:=Y _ _ k;refine⟨_,rfl,?_⟩;refine⟨_,rfl,a,T.ah,_,_,_,rfl,O,T.cG,.own _,T.qG,?_⟩;refine⟨_,rfl,a,T.ah,_,_,_,rfl,O,T.cG,.own _,T.qH,?_⟩;refine⟨fj (by simp),λD g=>?_⟩;refine⟨q,D,_,_,rfl,rfl,uc e2 g,aD,fj (by simp),λp L=>?_⟩;have X:=(aO g (.lst [V.bl false,V.bl false])).trans (aO L (.lst ([V.bl false,V.bl false,V.bl false,V.bl false]++[V.bl false,V.bl false])));have e4:upd (upd H3 D (.lst [V.bl false,V.bl false])) p (.lst ([V.bl false,V.bl false,V.bl false,V.bl false]++[V.bl false,V.bl false])) p=some (.lst ([false,false,false,false,false,false].map V.bl)):=aD;generalize upd (upd H3 D (.lst [V.bl false,V.bl false])) p (.lst ([V.bl false,V.bl false,V.bl false,V.bl false]++[V.bl false,V.bl false]))=H4 at*;have N:=X _ _ O;refine⟨_,rfl,a,T.ah,_,_,_,rfl,N,T.cG,.ty _,T.kW,?_⟩;refine⟨_,rfl,a,T.ah,_,_,_,rfl,N,T.cG,.own _,T.m8,?_⟩;refine⟨_,rfl,p,_,_,rfl,kI.of e4,N,?_⟩;refine⟨fj (by simp),λn RY=>?_⟩;have s5:=aO RY (.tup [V.bl true,V.bl true,V.bl ([false,false,false,false,false,false].any id)]);have e5:upd H4 n (.tup [V.bl true,V.bl true,V.bl ([false,false,false,false,false,false].any id)]) n=some (.tup ([true,true,false].map V.bl)):=aD;generalize upd H4 n (.tup [V.bl true,V.bl true,V.bl ([false,false,false,false,false,false].any id)])=H5 at*;refine⟨_,rfl,?_⟩;refine⟨fj (by simp),λp5 f=>?_⟩;refine⟨n,p5,[true,true,false],[true,true,false],rfl,rfl,mK.of (uc e5 f),mK.of aD,?_⟩;exact c _ _ _ hq (y.trans (Y.trans (X.trans (s5.trans (aO f _))))) (.of (by rw[Rep];rfl))
theorem ZL:aK ⟨["_law_script","_law_first","_law_top","_law_bottom","_law_both","_law_handed","_law_kept","_law_found","_law_held","_law_by"],(aa B8).names,[(7,(.t [.f,.f]))],["_law_nth","_law_row","_law_parts","_law_refused","_law_rmul","quotient_of","_law_is_quotient","_law_qsame","_law_low"],[],["list"],[.s,.f,.f,.s,.f,(.t [.f,.f]),.s,.s,.s],[]⟩ (bO [.s,.f,.f,.s,.f,(.t [.f,.f]),.s,.s,.s]) .s qb (aj B8)=true:=by decide+kernel
theorem ZM(T:Tx K mg):aN P w K mg base (dD P w) 10 T.RW T.RX ["_law_script"] (fz K 1 .s Pz):=
 aP T.ZA.F Wo (tab_of (k:=9) (by exact⟨T.RH.fD (m:=.s) (ZI T) rfl (by walk_at "len_of") (by decide),T.RV.fD (m:=.f) (ZK T) rfl (by walk_at "len_of") (by decide),T.Gz.fD (m:=.f) (Qh T) rfl (by walk_at "len_of") (by decide),T.yp.fD (m:=.s) (IQ T) rfl (by walk_at "len_of") (by decide),T.Ep.fD (m:=.f) (MO T) rfl (by walk_at "len_of") (by decide),T.eN.fD (m:=(.t [.f,.f])) (nX T) rfl (by walk_at "len_of") (by decide),T.nW.fD (m:=.s) (wZ T) rfl (by walk_at "len_of") (by decide),T.GC.fD (m:=.s) (Qj T) rfl (by walk_at "len_of") (by decide),T.vJ.fD (m:=.s) (yq T) rfl (by walk_at "len_of") (by decide),trivial⟩) (by exact⟨T.g8,trivial⟩)) qb [(7,(.t [.f,.f]))] .s Pz (by decide) (by decide) rfl ZL (by walk_at "len_of") P6
end
theorem Xb{K:Frag}{x:Str}{st:Stmt}{f:Addr}{g m:Option Addr}{d:Array (Option Value)}{h kV i e b j:Value}(a:nsIn K mainGlobals x=some (some (.ref f)))(l:K.lookup f=some ⟨h,g,.func (fnOf x x (dG st) (aj st) (aa st) .none kV i e m b j),d⟩)(c:codeIn K b x=true)(k:keepIn K (.ref f)=true):Hd K x st:=⟨f,g,m,d,h,kV,i,e,b,j,a,l,c,k⟩
theorem Xc{K:Frag}{C:Addr}{x q:Str}{st:Stmt}{f:Addr}{g n:Option Addr}{d:Array (Option Value)}{h kV j e b m:Value}(a:findIn K (.ref C) x=some (some (.ref f)))(i:isFn K (.ref f)=true)(l:K.lookup f=some ⟨h,g,.func (fnOf x q (dG st) (aj st) (aa st) .none kV j e n b m),d⟩)(c:codeIn K b q=true)(k:keepIn K (.ref f)=true):Hm K C x q st:=⟨f,g,n,d,h,kV,j,e,b,m,a,i,l,c,k⟩
theorem w4{α:Type}{l:List α}{n:Nat}(h:l.length=n+1):∃a r,l=a::r/\r.length=n:=by
 cases l with
 |nil=>cases h
 |cons a r=>exact⟨a,r,rfl,w8 h⟩
theorem rP{x q:Str}{st:Stmt}{i:Str}(h:∀(kV a d:Value)(g:Option Addr)(b f c:Value),bindArgs (fnOf x q (dG st) (aj st) (aa st) .none kV a d g b f) ⟨[c],[]⟩=pure ([i].zip [c])):mU x q st [i]:=λkV a d g b f l k=>by obtain⟨c,j,rfl,e⟩:=w4 k;cases KE.mp e;exact h kV a d g b f c
theorem gQ{x q:Str}{st:Stmt}{l k:Str}(h:∀(kV a e:Value)(j:Option Addr)(b i d c:Value),bindArgs (fnOf x q (dG st) (aj st) (aa st) .none kV a e j b i) ⟨[d,c],[]⟩=pure ([l,k].zip [d,c])):mU x q st [l,k]:=λkV a e j b i p o=>by obtain⟨d,n,rfl,g⟩:=w4 o;obtain⟨c,m,rfl,f⟩:=w4 g;cases KE.mp f;exact h kV a e j b i d c
theorem Qn{x q:Str}{st:Stmt}{m l p2:Str}(h:∀(kV a e:Value)(k:Option Addr)(b j d c a2:Value),bindArgs (fnOf x q (dG st) (aj st) (aa st) .none kV a e k b j) ⟨[d,c,a2],[]⟩=pure ([m,l,p2].zip [d,c,a2])):mU x q st [m,l,p2]:=λkV a e k b j s r=>by obtain⟨d,p,rfl,i⟩:=w4 r;obtain⟨c,o,rfl,g⟩:=w4 i;obtain⟨a2,n,rfl,f⟩:=w4 g;cases KE.mp f;exact h kV a e k b j d c a2
theorem abT{x q:Str}{st:Stmt}{o n p2 m:Str}(h:∀(kV a e:Value)(l:Option Addr)(b k d c a2 a3:Value),bindArgs (fnOf x q (dG st) (aj st) (aa st) .none kV a e l b k) ⟨[d,c,a2,a3],[]⟩=pure ([o,n,p2,m].zip [d,c,a2,a3])):mU x q st [o,n,p2,m]:=λkV a e l b k v u=>by obtain⟨d,t,rfl,j⟩:=w4 u;obtain⟨c,s,rfl,i⟩:=w4 j;obtain⟨a2,r,rfl,g⟩:=w4 i;obtain⟨a3,p,rfl,f⟩:=w4 g;cases KE.mp f;exact h kV a e l b k d c a2 a3
theorem all_mk{l:PySem.W.OpenLaw}{w:World}{K:Frag}{h:Heap}{f:Str->Option Value}{r:Addr}(X:K.In h)(G:h.Ns mainGlobals f)(p:f "law"=some (.ref r))
 {a:Addr}(vN:nsIn K mainGlobals "Chain"=some (some (.ref a)))(vO:plainGet K a Str.empty=true)(vP:hasDictIn K a=true)(vQ:plainOver K a=true)(vR:findIn K (.ref a) "__setattr__"=some (some (.builtin "object.__setattr__")))(vU:makesIn K a=true)(vV:keepIn K (.ref a)=true)
 (jt:findIn K (.ref a) "ahead"=some none)
 (kD:findIn K (.ref a) "last"=some none)
 (dw:findIn K (.ref a) "factor_ahead"=some none)
 (dM:findIn K (.ref a) "factor_last"=some none)
 (kF:findIn K (.ref a) "lead"=some none)
 (i0:findIn K (.ref a) "height"=some none)
 (kG:findIn K (.ref a) "sign"=some none)
 (ju:findIn K (.ref a) "scale"=some none)
 (jv:findIn K (.ref a) "known"=some none)
 (a0:Hd K "common" l5)
 (a1:Hd K "gcd" BZ)
 (a2:Hd K "turn" Mr)
 (a3:Hd K "turned" B3)
 (a4:Hd K "raised" l6)
 (a5:Hd K "fraction" iT)
 (a6:Hd K "cleared" jX)
 (a7:Hd K "row_over" iU)
 (a8:Hd K "trimmed" jY)
 (a9:Hd K "scaled" l7)
 (a10:Hd K "whole_plus" fR)
 (a11:Hd K "whole_minus" dZ)
 (a12:Hd K "whole_times" eu)
 (a13:Hd K "whole_divided" cT)
 (a14:Hd K "whole_over" fS)
 (a15:Hd K "shortened" gO)
 (a16:Hm K a "__init__" "Chain.__init__" jr)
 (a17:Hm K a "walk" "Chain.walk" fT)
 (a18:Hm K a "step" "Chain.step" fU)
 (a19:Hm K a "outcome" "Chain.outcome" kM)
 (a20:Hd K "next_height" eE)
 (a21:Hd K "reduced" jZ)
 (a22:Hd K "inverse" j3)
 (a23:Hd K "divided_by" fV)
 (a24:Hd K "apart_by" iV)
 (a25:Hd K "primitive" gP)
 (a26:Hd K "whole_divisor" b6)
 (a27:Hd K "quotient_of" eH)
 (a28:Hd K "_law_parts" qd)
 (a29:Hd K "_law_nth" B4)
 (a30:Hd K "_law_low" B5)
 (a31:Hd K "_law_add" B6)
 (a32:Hd K "_law_mul" B7)
 (a33:Hd K "_law_rmul" vg)
 (a34:Hd K "_law_row" s_row)
 (a35:Hd K "_law_qsame" qe)
 (a36:Hd K "_law_whole" qf)
 (a37:Hd K "_law_is_row" l9)
 (a38:Hd K "_law_plain" qg)
 (a39:Hd K "_law_left" vh)
 (a40:Hd K "_law_coprime" j4)
 (a41:Hd K "_law_is_quotient" eK)
 (a42:Hd K "_law_refused" rG)
 (a43:Hd K "law" B8)
 (fW:nsIn K mainGlobals "ValueError"=some none)
 (vK:nsIn K mainGlobals "abs"=some none)
 (Cq:nsIn K mainGlobals "any"=some none)
 (vL:nsIn K mainGlobals "bool"=some none)
 (fk:nsIn K mainGlobals "enumerate"=some none)
 (Cr:nsIn K mainGlobals "int"=some none)
 (aM:nsIn K mainGlobals "isinstance"=some none)
 (dJ:nsIn K mainGlobals "len"=some none)
 (g8:nsIn K mainGlobals "list"=some none)
 (su:nsIn K mainGlobals "max"=some none)
 (gC:nsIn K mainGlobals "range"=some none)
 (m6:nsIn K mainGlobals "tuple"=some none)
 {Wx:Tok}(Ey:nsIn K mainGlobals "LONG"=some (some (.int 6000 Wx)))
 {IS:Tok}(rQ:nsIn K mainGlobals "WITNESS"=some (some (.int 2147483647 IS)))
 {c:Addr}(kH:nsIn K mainGlobals "HouseError"=some (some (.ref c)))(jw:excIn K c bmV "ValueError.__new__"=true)(jx:findIn K (.ref c) "__getattribute__"=some (some (.builtin "BaseException.__getattribute__")))(jy:findIn K (.ref c) "__getattr__"=some none)(jz:findIn K (.ref c) "__class__"=some (some (.builtin "object.__class__")))(jA:mroIn K c (.type "object")=some true)(jB:mroIn K c (.type "BaseException")=some true)
 {b:Addr}(oN:nsIn K mainGlobals "NoNumber"=some (some (.ref b)))(mw:excIn K b bmV "ValueError.__new__"=true)(mz:findIn K (.ref b) "__getattribute__"=some (some (.builtin "BaseException.__getattribute__")))(mD:findIn K (.ref b) "__getattr__"=some none)(mE:findIn K (.ref b) "__class__"=some (some (.builtin "object.__class__")))(mF:mroIn K b (.type "object")=some true)(mG:mroIn K b (.type "BaseException")=some true)
 {i:Addr}(Af:nsIn K mainGlobals "NoRow"=some (some (.ref i)))
 {q:Addr}(rR:nsIn K mainGlobals "NoValue"=some (some (.ref q)))
 {o:Addr}(vW:nsIn K mainGlobals "NoText"=some (some (.ref o)))
 {n:Addr}(vX:nsIn K mainGlobals "NoRoot"=some (some (.ref n)))
 {k:Addr}(vY:nsIn K mainGlobals "TooFar"=some (some (.ref k)))
 {j:Addr}(vZ:nsIn K mainGlobals "NoLine"=some (some (.ref j)))
 (dN:kitOne K (.ref b) (.ref b)=some true)
 (gx:kitOne K (.ref b) (.ref i)=some false)
 (eX:kitOne K (.ref b) (.ref q)=some false)
 (fX:kitOne K (.ref b) (.ref o)=some false)
 (fY:kitOne K (.ref b) (.ref n)=some false)
 (fZ:kitOne K (.ref b) (.ref k)=some false)
 (gc:kitOne K (.ref b) (.ref j)=some false)
 (c8:kitOne K (.ref b) (.type "ValueError")=some true)
 (bF:mroIn K b (.ref c)=some true)
 :∃fd:FuncData,(∀(s:Shared)(v:Value),BindsTo s fd ⟨[v],[]⟩ [("_law_script",v)])/\∀base:Heap,K.In base->base.Ns mainGlobals f->aN l.prog w K f base XU 10 r fd ["_law_script"] (Gh K):=by
 have Qo:Dv K a ["ahead","last","factor_ahead","factor_last","lead","height","sign","scale","known"]:=⟨⟨vO,vP,vQ,vR⟩,by decide,by decide+kernel,λx hx=>by
  simp only[GT,TB,nr]at hx;rcases hx with rfl|rfl|rfl|rfl|rfl|rfl|rfl|rfl|rfl
  ·exact jt
  ·exact kD
  ·exact dw
  ·exact dM
  ·exact kF
  ·exact i0
  ·exact kG
  ·exact ju
  ·exact jv⟩
 obtain⟨f0,d0,D0⟩:=bw (ps:=["one","other"]) X G a0 (gQ λ_ _ _ _ _ _ _ _=>rfl);obtain⟨f1,d1,D1⟩:=bw (ps:=["one","other"]) X G a1 (gQ λ_ _ _ _ _ _ _ _=>rfl);obtain⟨f2,d2,D2⟩:=bw (ps:=["one","other"]) X G a2 (gQ λ_ _ _ _ _ _ _ _=>rfl);obtain⟨f3,d3,D3⟩:=bw (ps:=["by","one","other"]) X G a3 (Qn λ_ _ _ _ _ _ _ _ _=>rfl);obtain⟨f4,d4,D4⟩:=bw (ps:=["number","exponent"]) X G a4 (gQ λ_ _ _ _ _ _ _ _=>rfl);obtain⟨f5,d5,D5⟩:=bw (ps:=["top","bottom"]) X G a5 (gQ λ_ _ _ _ _ _ _ _=>rfl);obtain⟨f6,d6,D6⟩:=bw (ps:=["row"]) X G a6 (rP λ_ _ _ _ _ _ _=>rfl);obtain⟨f7,d7,D7⟩:=bw (ps:=["numbers","bottom"]) X G a7 (gQ λ_ _ _ _ _ _ _ _=>rfl);obtain⟨f8,d8,D8⟩:=bw (ps:=["numbers"]) X G a8 (rP λ_ _ _ _ _ _ _=>rfl);obtain⟨f9,d9,D9⟩:=bw (ps:=["numbers","by"]) X G a9 (gQ λ_ _ _ _ _ _ _ _=>rfl);obtain⟨f10,d10,D10⟩:=bw (ps:=["one","other"]) X G a10 (gQ λ_ _ _ _ _ _ _ _=>rfl);obtain⟨f11,d11,D11⟩:=bw (ps:=["one","other"]) X G a11 (gQ λ_ _ _ _ _ _ _ _=>rfl);obtain⟨f12,d12,D12⟩:=bw (ps:=["one","other"]) X G a12 (gQ λ_ _ _ _ _ _ _ _=>rfl);obtain⟨f13,d13,D13⟩:=bw (ps:=["one","other"]) X G a13 (gQ λ_ _ _ _ _ _ _ _=>rfl);obtain⟨f14,d14,D14⟩:=bw (ps:=["one","other"]) X G a14 (gQ λ_ _ _ _ _ _ _ _=>rfl);obtain⟨f15,d15,D15⟩:=bw (ps:=["numbers"]) X G a15 (rP λ_ _ _ _ _ _ _=>rfl);obtain⟨f16,d16,D16⟩:=Gg (ps:=["self","one","other","factor"]) a16 (abT λ_ _ _ _ _ _ _ _ _ _=>rfl);obtain⟨f17,d17,D17⟩:=Gg (ps:=["self"]) a17 (rP λ_ _ _ _ _ _ _=>rfl);obtain⟨f18,d18,D18⟩:=Gg (ps:=["self"]) a18 (rP λ_ _ _ _ _ _ _=>rfl);obtain⟨Z,d19,D19⟩:=Gg (ps:=["self"]) a19 (rP λ_ _ _ _ _ _ _=>rfl);obtain⟨Y,d20,D20⟩:=bw (ps:=["height","lead","drop"]) X G a20 (Qn λ_ _ _ _ _ _ _ _ _=>rfl);obtain⟨U,d21,D21⟩:=bw (ps:=["numbers","modulus"]) X G a21 (gQ λ_ _ _ _ _ _ _ _=>rfl);obtain⟨S,d22,D22⟩:=bw (ps:=["number","modulus"]) X G a22 (gQ λ_ _ _ _ _ _ _ _=>rfl);obtain⟨R,d23,D23⟩:=bw (ps:=["one","other","modulus"]) X G a23 (Qn λ_ _ _ _ _ _ _ _ _=>rfl);obtain⟨Q,d24,D24⟩:=bw (ps:=["one","other","prime"]) X G a24 (Qn λ_ _ _ _ _ _ _ _ _=>rfl);obtain⟨P,d25,D25⟩:=bw (ps:=["row"]) X G a25 (rP λ_ _ _ _ _ _ _=>rfl);obtain⟨O,d26,D26⟩:=bw (ps:=["one","other"]) X G a26 (gQ λ_ _ _ _ _ _ _ _=>rfl);obtain⟨N,d27,D27⟩:=bw (ps:=["top","bottom"]) X G a27 (gQ λ_ _ _ _ _ _ _ _=>rfl);obtain⟨M,d28,D28⟩:=bw (ps:=["_law_cell","_law_sizes"]) X G a28 (gQ λ_ _ _ _ _ _ _ _=>rfl);obtain⟨L,d29,D29⟩:=bw (ps:=["_law_script","_law_k"]) X G a29 (gQ λ_ _ _ _ _ _ _ _=>rfl);obtain⟨J,d30,D30⟩:=bw (ps:=["_law_top","_law_bottom"]) X G a30 (gQ λ_ _ _ _ _ _ _ _=>rfl);obtain⟨I,d31,D31⟩:=bw (ps:=["_law_one","_law_other"]) X G a31 (gQ λ_ _ _ _ _ _ _ _=>rfl);obtain⟨H,d32,D32⟩:=bw (ps:=["_law_one","_law_other"]) X G a32 (gQ λ_ _ _ _ _ _ _ _=>rfl);obtain⟨F,d33,D33⟩:=bw (ps:=["_law_one","_law_other"]) X G a33 (gQ λ_ _ _ _ _ _ _ _=>rfl);obtain⟨E,d34,D34⟩:=bw (ps:=["_law_xs","_law_low_here"]) X G a34 (gQ λ_ _ _ _ _ _ _ _=>rfl);obtain⟨D,d35,D35⟩:=bw (ps:=["_law_one","_law_other"]) X G a35 (gQ λ_ _ _ _ _ _ _ _=>rfl);obtain⟨C,d36,D36⟩:=bw (ps:=["_law_found"]) X G a36 (rP λ_ _ _ _ _ _ _=>rfl);obtain⟨B,d37,D37⟩:=bw (ps:=["_law_row_here"]) X G a37 (rP λ_ _ _ _ _ _ _=>rfl);obtain⟨A,d38,D38⟩:=bw (ps:=["_law_row_here"]) X G a38 (rP λ_ _ _ _ _ _ _=>rfl);obtain⟨z,d39,D39⟩:=bw (ps:=["_law_one","_law_other"]) X G a39 (gQ λ_ _ _ _ _ _ _ _=>rfl);obtain⟨y,d40,D40⟩:=bw (ps:=["_law_one","_law_other"]) X G a40 (gQ λ_ _ _ _ _ _ _ _=>rfl);obtain⟨u,d41,D41⟩:=bw (ps:=["_law_found"]) X G a41 (rP λ_ _ _ _ _ _ _=>rfl);obtain⟨t,d42,D42⟩:=bw (ps:=["_law_top"]) X G a42 (rP λ_ _ _ _ _ _ _=>rfl);obtain⟨f43,g,d⟩:=bw (ps:=["_law_script"]) X G a43 (rP λ_ _ _ _ _ _ _=>rfl);have e:=p.symm.trans d.m;cases e
 let T:Tx K f:=⟨a,⟨X2 X G vN,Qo,vU,vV⟩,f0,d0,D0,f1,d1,D1,f2,d2,D2,f3,d3,D3,f4,d4,D4,f5,d5,D5,f6,d6,D6,f7,d7,D7,f8,d8,D8,f9,d9,D9,f10,d10,D10,f11,d11,D11,f12,d12,D12,f13,d13,D13,f14,d14,D14,f15,d15,D15,f16,d16,D16,f17,d17,D17,f18,d18,D18,Z,d19,D19,Y,d20,D20,U,d21,D21,S,d22,D22,R,d23,D23,Q,d24,D24,P,d25,D25,O,d26,D26,N,d27,D27,M,d28,D28,L,d29,D29,J,d30,D30,I,d31,D31,H,d32,D32,F,d33,D33,E,d34,D34,D,d35,D35,C,d36,D36,B,d37,D37,A,d38,D38,z,d39,D39,y,d40,D40,u,d41,D41,t,d42,D42,r,g,d,Pv X G fW,Pv X G vK,Pv X G Cq,Pv X G vL,Pv X G fk,Pv X G Cr,Pv X G aM,Pv X G dJ,Pv X G g8,Pv X G su,Pv X G gC,Pv X G m6,⟨_,X2 X G Ey,_,rfl⟩,⟨_,X2 X G rQ,_,rfl⟩,c,X2 X G kH,⟨jw,jx,jy,jz,jA,jB⟩,b,X2 X G oN,⟨mw,mz,mD,mE,mF,mG⟩,i,X2 X G Af,q,X2 X G rR,o,X2 X G vW,n,X2 X G vX,k,X2 X G vY,j,X2 X G vZ,dN,gx,eX,fX,fY,fZ,gc,c8,bF⟩
 exact⟨g,λs v=>d.bt s [v] rfl,λbase _ _=>VV (ZM T)⟩
end ZN
namespace PySem.W.Fast
def tw12313315555686697738:=0
def tw3868764119639245555:=0
def tw16126140930017014106:=0
def tw1809698597888501989:=0
def tw219265869885806591:=0
def tw4467535563615301046:=0
def tw3325943704968617961:=0
def tw10822600595236023687:=0
def tw17801557561013852112:=0
def tw16421686614672602272:=0
def tw17554041238755006536:=0
def tw9048958520198202758:=0
def tw12690320053823555220:=0
def tw15906488525046938690:=0
def tw6239728606748489168:=0
def tw7430502111053607914:=0
def tw444355659310926025:=0
def tw5501492742708344886:=0
def tw1787101796975908931:=0
def tw8648823710530033151:=0
def tw4772298648840449770:=0
def tw15328310568901949631:=0
def tw3725013909165988164:=0
def tw10257962398989541509:=0
def tw7100342324021459370:=0
def tw2569504705168599239:=0
def tw8158059734275499356:=0
def tw5645610146421914600:=0
def tw897196992727413759:=0
def tw3255202161835104624:=0
def tw7956560679936303347:=0
def tw15428930951672692470:=0
def tw3887608896370065402:=0
def tw15184185136709675591:=0
def tw3116564242477021862:=0
def tw12951787138674946814:=0
def tw1398053081221009940:=0
def tw14066351960921940035:=0
def tw11592172658526359152:=0
def tw6195159400588374503:=0
def tw6973822261553744841:=0
def tw4571486380751991407:=0
def tw5986912994815890906:=0
def tw17208395234800111159:=0
def tw11502823096429487257:=0
def tw1601328809471288552:=0
def tw12394279890843308967:=0
def tw254590303635244917:=0
def tw17494779870949462462:=0
def tw4766292001316340817:=0
def tw5196360428740163550:=0
def tw8175576241667873039:=0
def tw4831078727504255947:=0
def tw6467984419041033020:=0
def tw6745153030565408265:=0
def tw18194346269988492954:=0
def tw1894521153292030333:=0
def tw7635169660899492234:=0
def tw16408041478100745715:=0
def tw14199895116301121888:=0
def tw491677938911291267:=0
def tw10196338334560960667:=0
def tw9972288104940937940:=0
def tw7459816453440866280:=0
def tw11818024282512109292:=0
def tw5122937681340815318:=0
def tw2953554091427122680:=0
def tw14266275264947973385:=0
def tw2754308568533572079:=0
def tw10139057548612434686:=0
def tw4324792158537962232:=0
def tw9613729209656442250:=0
def tw8042444374998917532:=0
def tw11323174771224857239:=0
def tw8442354606104975226:=0
def tw7184379035524297889:=0
def tw12086059692390998826:=0
def tw7656753484558034013:=0
def tw2465223682290486627:=0
def tw15472626901574935303:=0
def tw2640659492332851688:=0
def tw14250673633592369813:=0
def tw12370911440509475681:=0
def tw4445602064854657223:=0
def tw11728963758447684644:=0
def tw1035033260596330469:=0
def tw10085091708253577278:=0
def tw15238595224112346611:=0
def tw2335392729374149120:=0
def tw1065111149433867304:=0
def tw3254827682884396287:=0
def tw5946111821018352854:=0
def tw8051092944585823680:=0
def tw11792861504680177252:=0
def tw11799105074296341242:=0
def tw15749081816264324351:=0
def tw5527772010283729606:=0
def tw9149598375923698674:=0
def tw3407451103150795081:=0
def tw6931693833916257813:=0
def tw6491061234203983779:=0
def tw79624483166372418:=0
def tw16729021580076941106:=0
def tw9697688069146308986:=0
def tw14154033475066919811:=0
def tw11255455463448443162:=0
def tw12571785797134368341:=0
def tw6923409050030834057:=0
def tw6784065147550832361:=0
def tw240961630833591650:=0
def tw14720067635550530680:=0
def tw15996023116932617950:=0
def tw5094817101506272507:=0
def tw13665918866759074015:=0
def tw10245977775691136054:=0
def tw11920990511482581923:=0
def tw1593499501567065394:=0
def tw14461665280641841117:=0
def tw13335045979812830006:=0
def tw5473802600043425198:=0
def tw7974602925375436517:=0
def tw15365993428430388209:=0
def tw8461129371673507587:=0
def tw5972489180653927840:=0
def tw17649685579095791051:=0
def tw11049240190874647269:=0
def tw17356931645737296987:=0
def tw13580116009869560:=0
def tw4351049183859373814:=0
def tw3602189556835103650:=0
def tw10637524570754925769:=0
def tw13498814882026663234:=0
def tw18435289457815255855:=0
def tw6195176101772828636:=0
def tw17725688856697110277:=0
def tw11347022419196170136:=0
def tw14461900412402035539:=0
def tw9561411500084552753:=0
def tw14332721310034284224:=0
def tw10563884735747548381:=0
def tw15123893080179596657:=0
def tw3964327632257374980:=0
def tw125939125277375151:=0
def tw12322969175510086105:=0
def tw14077472700925472923:=0
def tw14566228656200110797:=0
def tw10136001540313513431:=0
def tw8683165136193509645:=0
def tw5771236319621632873:=0
def tw12089918521342240360:=0
def tw15598061943913115452:=0
def tw4896306778589691756:=0
def tw15239435313760778360:=0
def tw1586863350748535143:=0
def tw3748751960988307637:=0
def tw2848459553693390690:=0
def tw9502380800653328488:=0
def tw8428425293931597747:=0
def tw7877468868968497302:=0
def tw6501713125331156418:=0
def tw3973608636313077316:=0
def tw15388156240618387853:=0
def tw10387603327684593088:=0
def tw16144287165740990279:=0
def tw15095150944452137144:=0
def tw1798235049394376047:=0
def tw10809695107508472500:=0
def tw589652166999939349:=0
def tw117116312648247186:=0
def tw1722447856929725247:=0
def tw17058337542080843121:=0
def tw17957922520441198724:=0
def tw8547785154743988978:=0
def tw12039913882265656132:=0
def tw9134410296700364726:=0
def tw11807135913528732210:=0
def tw2545167570615544449:=0
def tw16026159841732684571:=0
def tw11195994225124305480:=0
def tw7558432933063226520:=0
def tw7700719529371439066:=0
def tw1336052938478521841:=0
def tw11327837779321693758:=0
def tw9128342274523660029:=0
def tw11860515663501318815:=0
def tw12081659288720974013:=0
def tw3271429813031664519:=0
def tw15886694498507628256:=0
def tw7649215098634096261:=0
def tw8707998675479108399:=0
def tw13560562701023483250:=0
def tw1630261807517746734:=0
def tw3254008892974470915:=0
def tw1755124979710219098:=0
def tw3869559037804855390:=0
def tw912782765643040978:=0
def tw16900776174867155691:=0
def tw14145016964066045178:=0
def tw5402104385070729335:=0
def tw9162167042412025482:=0
def tw5986326214453890517:=0
def tw18205899250729295762:=0
def tw16426693329082522542:=0
def tw10767676218045432637:=0
def tw528157542254414247:=0
def tw13256565317864856033:=0
def tw9287150565074307990:=0
def tw4469073799821190564:=0
def tw12851435638137017085:=0
def tw9297130041305850137:=0
def tw3728477368707029685:=0
def tw15808231615797766443:=0
def tw13880569942461648151:=0
def tw4930409173095613469:=0
def tw1631813179338728734:=0
def tw11893197299808340873:=0
def tw8769808206866203631:=0
def tw5834815350496206326:=0
def tw573990662894079311:=0
def tw5248263361595218126:=0
def tw3824055428325765081:=0
def tw3550597229176447110:=0
def tw2034803318844075132:=0
def tw14375728769985436911:=0
def tw13698932904373860292:=0
def tw12564808146106230085:=0
def tw11624091939819031889:=0
def tw11135475420297875529:=0
def tw10932149933124084446:=0
def tw10845855037542062822:=0
def tw1068438074256116589:=0
def tw1033862032521353526:=0
def tw10306252274653616382:=0
def tw6634942476024232898:=0
def tw9103040462814805070:=0
def tw7942637533266309469:=0
def tw7190566281596817999:=0
def tw5898057097115280626:=0
def tw393675380434693377:=0
def tw1848861377169132446:=0
def tw18442039290360767690:=0
def tw18097918744494372820:=0
def tw18052760961883972529:=0
def tw17994500789792519122:=0
def tw17972672540402928420:=0
def tw17714190922734794062:=0
def tw17684070005563311682:=0
def tw17260128879632455712:=0
def tw15717732326785922688:=0
def tw14677188983459965882:=0
def tw11464946606739531396:=0
def tw11332395267464230307:=0
def tw3319675188138351543:=0
def tw4559929499726628174:=0
def tw14175099775152523449:=0
def tw2878849002445608798:=0
def tw10218293836478906682:=0
def tw6666533049735588088:=0
def tw9423661572051740732:=0
def tw10570239703714098936:=0
def tw3726559300636070796:=0
def tw8288543739333546231:=0
def tw7812780218218848474:=0
def tw4014644384592574606:=0
def tw12785555857439297327:=0
def tw8936248447525729488:=0
def tw1309160009977074405:=0
def tw11191031744042271078:=0
def tw18030306586072585255:=0
def tw16208128929704120543:=0
def tw11575410622343663470:=0
def tw11440491738440271308:=0
end PySem.W.Fast
open PySem PySem.W PyProof.Rows
set_option maxRecDepth 100000 in
set_option maxHeartbeats 0 in
theorem PySem.Challenge.cw_paperwright_k55_quotients_holds : PySem.Challenge.rw_paperwright_k55_quotients.Holds := by
 w_on;o_law;k_head;(case hw=>w_witness2)
 k_fill
 refine VL.walk (l:=PySem.Challenge.rw_paperwright_k55_quotients) (k:=10) rfl rfl ⟨rfl,by decide,by decide⟩ (by decide+kernel) rfl (fun w h Y=>PySem.W.kIn_of Y) ?F
 case F=>
  intro w mg fa h KX G hmg
  refine' ZN.all_mk KX G hmg ?vN ?vO ?vP ?vQ ?vR ?vU ?vV ?jt ?kD ?dw ?dM ?kF ?i0 ?kG ?ju ?jv ?a0 ?a1 ?a2 ?a3 ?a4 ?a5 ?a6 ?a7 ?a8 ?a9 ?a10 ?a11 ?a12 ?a13 ?a14 ?a15 ?a16 ?a17 ?a18 ?a19 ?a20 ?a21 ?a22 ?a23 ?a24 ?a25 ?a26 ?a27 ?a28 ?a29 ?a30 ?a31 ?a32 ?a33 ?a34 ?a35 ?a36 ?a37 ?a38 ?a39 ?a40 ?a41 ?a42 ?a43 ?fW ?vK ?Cq ?vL ?fk ?Cr ?aM ?dJ ?g8 ?su ?gC ?m6 ?Ey ?rQ ?kH ?jw ?jx ?jy ?jz ?jA ?jB ?oN ?mw ?mz ?mD ?mE ?mF ?mG ?Af ?rR ?vW ?vX ?vY ?vZ ?dN ?gx ?eX ?fX ?fY ?fZ ?gc ?c8 ?bF
  (case vN=>k_is)
  (case vO=>k_is)
  (case vP=>k_is)
  (case vQ=>k_is)
  (case vR=>k_is)
  (case vU=>k_is)
  (case vV=>k_is)
  (case jt=>k_is)
  (case kD=>k_is)
  (case dw=>k_is)
  (case dM=>k_is)
  (case kF=>k_is)
  (case i0=>k_is)
  (case kG=>k_is)
  (case ju=>k_is)
  (case jv=>k_is)
  (case a0=>walk_at "hd")
  (case a1=>walk_at "hd")
  (case a2=>walk_at "hd")
  (case a3=>walk_at "hd")
  (case a4=>walk_at "hd")
  (case a5=>walk_at "hd")
  (case a6=>walk_at "hd")
  (case a7=>walk_at "hd")
  (case a8=>walk_at "hd")
  (case a9=>walk_at "hd")
  (case a10=>walk_at "hd")
  (case a11=>walk_at "hd")
  (case a12=>walk_at "hd")
  (case a13=>walk_at "hd")
  (case a14=>walk_at "hd")
  (case a15=>walk_at "hd")
  (case a16=>walk_at "hm")
  (case a17=>walk_at "hm")
  (case a18=>walk_at "hm")
  (case a19=>walk_at "hm")
  (case a20=>walk_at "hd")
  (case a21=>walk_at "hd")
  (case a22=>walk_at "hd")
  (case a23=>walk_at "hd")
  (case a24=>walk_at "hd")
  (case a25=>walk_at "hd")
  (case a26=>walk_at "hd")
  (case a27=>walk_at "hd")
  (case a28=>walk_at "hd")
  (case a29=>walk_at "hd")
  (case a30=>walk_at "hd")
  (case a31=>walk_at "hd")
  (case a32=>walk_at "hd")
  (case a33=>walk_at "hd")
  (case a34=>walk_at "hd")
  (case a35=>walk_at "hd")
  (case a36=>walk_at "hd")
  (case a37=>walk_at "hd")
  (case a38=>walk_at "hd")
  (case a39=>walk_at "hd")
  (case a40=>walk_at "hd")
  (case a41=>walk_at "hd")
  (case a42=>walk_at "hd")
  (case a43=>walk_at "hd")
  (case fW=>k_is)
  (case vK=>k_is)
  (case Cq=>k_is)
  (case vL=>k_is)
  (case fk=>k_is)
  (case Cr=>k_is)
  (case aM=>k_is)
  (case dJ=>k_is)
  (case g8=>k_is)
  (case su=>k_is)
  (case gC=>k_is)
  (case m6=>k_is)
  (case Ey=>k_is)
  (case rQ=>k_is)
  (case kH=>k_is)
  (case jw=>k_exc)
  (case jx=>k_is)
  (case jy=>k_is)
  (case jz=>k_is)
  (case jA=>k_is)
  (case jB=>k_is)
  (case oN=>k_is)
  (case mw=>k_exc)
  (case mz=>k_is)
  (case mD=>k_is)
  (case mE=>k_is)
  (case mF=>k_is)
  (case mG=>k_is)
  (case Af=>k_is)
  (case rR=>k_is)
  (case vW=>k_is)
  (case vX=>k_is)
  (case vY=>k_is)
  (case vZ=>k_is)
  (case dN=>kit_is)
  (case gx=>kit_is)
  (case eX=>kit_is)
  (case fX=>kit_is)
  (case fY=>kit_is)
  (case fZ=>kit_is)
  (case gc=>kit_is)
  (case c8=>kit_is)
  (case bF=>k_is)
