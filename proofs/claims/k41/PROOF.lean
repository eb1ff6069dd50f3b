import PyProof.Rows.All
import Wide.All
import OpenK.AllK
import Wide.FinOn
import Lean
import PyProof.EqAt
import PyProof.EqKinds
import PyProof.TupleCall
import PySem.Challenge.RW_paperwright_k41_sturms_row
set_option Elab.async false
set_option linter.all false
set_option maxRecDepth 100000
set_option maxHeartbeats 4000000
set_option hygiene false in
local macro_rules | `(tactic| walk_at "lo") => `(tactic| first | exact False.elim h | (obtain ⟨rfl, _⟩ := h; rfl) | (obtain ⟨_, h⟩ := h; walk_at "lo"))
set_option hygiene false in
local macro_rules | `(tactic| walk_at "len_of") => `(tactic| (intro _ _ _ h; walk_at "lo"))
set_option hygiene false in
local macro_rules | `(tactic| walk_at "vs") => `(tactic| first | dsimp only [wSs, wS, wE, wA, yZ, MS, wP, Lm, wB, bF, setAt, List.getElem?_cons_zero, List.getElem?_cons_succ, look, List.set, c9, pK, b8, aA, List.map_cons, List.map_nil, List.nil_append, List.cons_append, x_len, Eg, Eh, Ln, Lo, Lp, Ei, Aw, Ax, wC, Lq, Lr, Ls, Lu, Lv, Lw, Ej, Lx, Ly, Lz, Rz, RA, x_lt, RB, RC, RD, uz, RE, LA, LB, LC, RG, LD, LF, LG, LH, Ay, wD, RH, LI, LJ, RI, Ek, Az, fall, List.replicate, if_true, Bool.not_true, Bool.not_false] | simp only [wSs, wS, wE, wA, yZ, MS, wP, Lm, wB, bF, setAt, List.getElem?_cons_zero, List.getElem?_cons_succ, look, List.set, c9, pK, b8, aA, List.map_cons, List.map_nil, List.nil_append, List.cons_append, x_len, Eg, Eh, Ln, Lo, Lp, Ei, Aw, Ax, wC, Lq, Lr, Ls, Lu, Lv, Lw, Ej, Lx, Ly, Lz, Rz, RA, x_lt, RB, RC, RD, uz, RE, LA, LB, LC, RG, LD, LF, LG, LH, Ay, wD, RH, LI, LJ, RI, Ek, Az, fall, List.replicate, if_true, Bool.not_true, Bool.not_false] | skip)
set_option hygiene false in
local macro_rules | `(tactic| walk_at "hd") => `(tactic| (refine' UX.RJ ?ka ?kl ?kc ?kk; (case ka => k_is); (case kl => k_is); (case kc => k_is); (case kk => k_is)))
set_option hygiene false in
local macro_rules | `(tactic| walk_at "hm") => `(tactic| (refine' UX.RK ?ka ?ki ?kl ?kc ?kk; (case ka => k_is); (case ki => k_is); (case kl => k_is); (case kc => k_is); (case kk => k_is)))
noncomputable def AC:=@List.getD_eq_getElem?_getD
noncomputable def AN:=@Bool.and_eq_true
noncomputable def Ap:=@List.length_map
noncomputable def B1:=@List.getElem?_eq_getElem
noncomputable def BM:=@if_neg
noncomputable def Bi:=@of_decide_eq_true
noncomputable def Bz:=@if_pos
noncomputable def DD:=@Nat.le_trans
noncomputable def DL:=@List.mem_cons_of_mem
noncomputable def Da:=@PySem.Heap.get?_push_of_some
noncomputable def Do:=@Nat.le_refl
noncomputable def Dx:=@List.getElem?_eq_none
noncomputable def Ee:=@Nat.mul_le_mul_left
noncomputable def FC:=@Nat.lt_of_lt_of_le
noncomputable def FK:=@List.mem_cons_self
noncomputable def FM:=@List.getElem?_map
noncomputable def FR:=@List.size_toArray
noncomputable def FS:=@PySem.Heap.lt_size
noncomputable def FV:=@PySem.wpAny_bind
noncomputable def Fh:=@List.length_append
noncomputable def Fk:=@List.mem_cons
noncomputable def Fm:=@Nat.lt_of_le_of_lt
noncomputable def Fn:=@Int.natAbs_mul
noncomputable def Fs:=@List.mem_append
noncomputable def Fu:=@List.getElem?_eq_some_iff
noncomputable def GE:=@Nat.pow_le_pow_right
noncomputable def GM:=@List.mem_singleton
noncomputable def GT:=@List.isEmpty_iff
noncomputable def Gc:=@List.mem_append_right
noncomputable def HI:=@List.all_eq_true
noncomputable def Ha:=@List.getElem?_append_right
noncomputable def Hb:=@PySem.Heap.get?_push_size
noncomputable def He:=@Option.some.inj
noncomputable def Hk:=@Bool.false_ne_true
noncomputable def Hn:=@List.getElem?_set_ne
noncomputable def IH:=@beq_iff_eq
noncomputable def IR:=@List.getElem?_append_left
noncomputable def Iy:=@Rat.num_divInt_den
noncomputable def Jn:=@Int.mul_ne_zero
noncomputable def KB:=@Nat.ne_of_lt
noncomputable def KE:=@List.mem_map
noncomputable def KM:=@decide_eq_true
noncomputable def Kb:=@List.length_eq_zero_iff
noncomputable def Ki:=@Int.pow_succ
noncomputable def Kj:=@PySem.wpAny_pure
noncomputable def Kk:=@Nat.zero_le
noncomputable def Kt:=@List.nodup_cons
noncomputable def Kx:=@List.append_assoc
noncomputable def L9:=@Int.fdiv_eq_ediv_of_nonneg
noncomputable def Mo:=@Nat.le_of_lt
noncomputable def N0:=@Option.map_eq_some_iff
noncomputable def NA:=@List.mem_of_getElem?
noncomputable def NM:=@Nat.lt_irrefl
noncomputable def Nw:=@PyProof.Rows.callWith_type1
noncomputable def OF:=@PySem.mem_of_lookup
noncomputable def OK:=@decide_eq_false
noncomputable def On:=@Nat.mul_le_mul
noncomputable def Os:=@Nat.lt_succ_self
noncomputable def Oy:=@decide_eq_true_eq
noncomputable def P2:=@List.getLast?_eq_getElem?
noncomputable def P3:=@PySem.W.mg_none_of
noncomputable def PH:=@Nat.add_sub_cancel
noncomputable def PP:=@List.getElem?_set_self
noncomputable def PQ:=@PySem.W.kia_one
noncomputable def Pi:=@List.length_set
noncomputable def Pl:=@Int.gcd_dvd_right
noncomputable def Pm:=@Rat.intCast_eq_zero_iff
noncomputable def Pt:=@Ne.symm
noncomputable def Q1:=@Nat.pow_lt_pow_right
noncomputable def QP:=@List.map_cons
noncomputable def QQ:=@List.append_nil
noncomputable def QR:=@Nat.pow_le_pow_left
noncomputable def Qb:=@Rat.intCast_mul
noncomputable def Qr:=@Int.pow_zero
noncomputable def RF:=@List.mem_append_left
noncomputable def Re:=@PySem.wpAny_Call_Name_kw
noncomputable def SB:=@List.mem_range
noncomputable def SC:=@List.ext_getElem?
noncomputable def SF:=@Int.mul_zero
noncomputable def SL:=@Nat.add_le_add_left
noncomputable def SU:=@List.getElem?_range
noncomputable def SZ:=@List.mem_filter
noncomputable def Sr:=@Int.eq_of_mul_eq_mul_left
noncomputable def T1:=@Nat.le_add_right
noncomputable def T2:=@List.not_mem_nil
noncomputable def TB:=@List.getElem_mem
noncomputable def TC:=@PySem.W.mg_of
noncomputable def TK:=@Option.isSome_iff_exists
noncomputable def Ta:=@List.map_map
noncomputable def Tb:=@Int.le_of_lt
noncomputable def Ts:=@Bool.or_false
noncomputable def U2:=@Nat.pow_pos
noncomputable def UF:=@PySem.wpAny_mono
noncomputable def UV:=@PySem.F.plainAttrs_list
noncomputable def W1:=@Nat.add_sub_cancel_left
noncomputable def Wp:=@congrArg
noncomputable def X1:=@PySem.W.callWith_K
noncomputable def X2:=@Bool.and_false
noncomputable def X9:=@Int.natAbs_ediv_le_natAbs
noncomputable def XB:=@Nat.mul_le_mul_right
noncomputable def Xt:=@List.length_range
noncomputable def Y1:=@List.getLast?_concat
noncomputable def Y2:=@Int.mul_ediv_cancel_left
noncomputable def Ya:=@Int.le_of_dvd
noncomputable def Yf:=@List.map_congr_left
noncomputable def ag:=@List.length_pos_iff
noncomputable def ar:=@PySem.wpAny_truthy_bool
noncomputable def aw:=@List.length_take
noncomputable def bj:=@Bool.not_eq_true
noncomputable def cb:=@Nat.eq_zero_or_pos
noncomputable def cc:=@List.map_append
noncomputable def cm:=@List.dropLast_concat_getLast
noncomputable def cq:=@Rat.divInt_mul_divInt
noncomputable def cw:=@Rat.divInt_eq_div
noncomputable def cx:=@Nat.lt_succ_of_lt
noncomputable def dA:=@List.reverse_cons
noncomputable def dC:=@PySem.wpAny_passesOwn
noncomputable def dE:=@Nat.pow_mul
noncomputable def da:=@Nat.mul_comm
noncomputable def de:=@Int.mul_comm
noncomputable def dk:=@Int.gcd_dvd_left
noncomputable def dn:=@beq_eq_false_iff_ne
noncomputable def dq:=@List.length_reverse
noncomputable def dt:=@List.getElem_of_mem
noncomputable def du:=@PyProof.Rows.assignInOrder_cons
noncomputable def eA:=@Rat.divInt_eq_divInt_iff
noncomputable def eD:=@PySem.F.type_list_append
noncomputable def eI:=@PySem.F.slot_list_append
noncomputable def eJ:=@List.getElem?_take_of_lt
noncomputable def eM:=@Int.mul_fdiv_cancel_left
noncomputable def eP:=@Nat.pow_add
noncomputable def eQ:=@List.getElem?_replicate
noncomputable def ej:=@Int.pow_add
noncomputable def ey:=@Int.one_mul
noncomputable def fI:=@Int.mul_one
noncomputable def fe:=@Int.zero_mul
noncomputable def fg:=@Bool.not_eq_true'
noncomputable def fo:=@PySem.wpAny_execs_nil
noncomputable def ft:=@Int.natAbs_dvd_natAbs
noncomputable def fw:=@Nat.add_assoc
noncomputable def gL:=@Int.mul_assoc
noncomputable def gN:=@PySem.W.looks_findIn
noncomputable def gd:=@PySem.Heap.get?_update_other
noncomputable def h7:=@Nat.sub_le_sub_right
noncomputable def h8:=@Nat.add_le_add_right
noncomputable def h9:=@Bool.eq_iff_iff
noncomputable def hU:=@PySem.W.looks_mroIn
noncomputable def hV:=@Int.ediv_mul_cancel
noncomputable def hZ:=@Nat.sub_self
noncomputable def i3:=@Nat.ne_of_gt
noncomputable def i4:=@Nat.le_of_eq
noncomputable def i5:=@List.map_set
noncomputable def ib:=@or_false
noncomputable def ij:=@of_decide_eq_false
noncomputable def ik:=@List.nodup_nil
noncomputable def il:=@Int.fmod_eq_emod_of_nonneg
noncomputable def ip:=@Int.ediv_pos_of_pos_of_dvd
noncomputable def iq:=@List.drop_eq_getElem_cons
noncomputable def js:=@Nat.sub_pos_of_lt
noncomputable def kA:=@List.nodup_append
noncomputable def kS:=@List.getLast?_map
noncomputable def kb:=@List.getElem?_set
noncomputable def ke:=@PySem.codeAny_mono
noncomputable def kf:=@beq_self_eq_true
noncomputable def km:=@PySem.wpAny_bindName
noncomputable def ky:=@Nat.le_of_not_lt
noncomputable def kz:=@Nat.le_mul_of_pos_right
noncomputable def l3:=@Int.fdiv_eq_ediv_of_dvd
noncomputable def lL:=@Int.ediv_le_self
noncomputable def lh:=@Nat.sub_add_sub_cancel
noncomputable def lj:=@Nat.le_mul_of_pos_left
noncomputable def ll:=@List.take_of_length_le
noncomputable def lx:=@Int.add_zero
noncomputable def mB:=@Rat.mul_eq_zero
noncomputable def mI:=@Int.ediv_nonneg
noncomputable def mM:=@Bool.or_eq_true
noncomputable def ma:=@PySem.wpAny_standAt
noncomputable def me:=@List.eq_nil_or_concat
noncomputable def mf:=@List.concat_eq_append
noncomputable def mi:=@Rat.mul_one
open PySem.W(instObj methodObj hideAll_get Frag lookIn plainGet hasDictIn findIn plainGet_of isFn plainOver takerIn makesIn emptyDict keepIn mroIn kitOne fnOf codeIn excIn nsIn)
noncomputable section
set_option bootstrap.genMatcherCode false
namespace L2
open PySem PySem.Spec PyProof.Rows
abbrev Key:=Sum Int Str
noncomputable def LK:Key->Value->Bool
 |.inl k,v=>Value.isInt k v
 |.inr x,v=>Value.isStrOf x v
noncomputable def Vo(w:World):Key->Int
 |.inl k=>hashInt k
 |.inr x=>hashStr w x
theorem bH:∀{k:Key}{v:Value},LK k v=true->(∃i t,k=Sum.inl i/\v=Value.int i t)\/(∃x t,k=Sum.inr x/\v=Value.str x t)
 |.inl i,v,h=>by obtain⟨t,e⟩:=Value.isInt_shape (k:=i) (v:=v) h;exact .inl ⟨i,t,rfl,e⟩
 |.inr x,v,h=>by obtain⟨t,e⟩:=Value.isStrOf_shape (x:=x) (v:=v) h;exact .inr ⟨x,t,rfl,e⟩
theorem MT(a b:Int):decide ((Sum.inl a:Key)=Sum.inl b)=(a==b):=by
 by_cases e:a=b
 ·subst e;simp
 ·have h:¬(Sum.inl a:Key)=Sum.inl b:=λq=>e (Sum.inl.inj q);rw[OK h];exact(dn.mpr e).symm
theorem MU(a b:Str):decide ((Sum.inr a:Key)=Sum.inr b)=decide (a=b):=by
 by_cases e:a=b
 ·subst e;simp
 ·have h:¬(Sum.inr a:Key)=Sum.inr b:=λq=>e (Sum.inr.inj q);rw[OK h,OK e]
theorem MV(a:Int)(b:Str):decide ((Sum.inl a:Key)=Sum.inr b)=false:=OK (λq=>nomatch q)
theorem MW(a:Str)(b:Int):decide ((Sum.inr a:Key)=Sum.inl b)=false:=OK (λq=>nomatch q)
noncomputable def AA(prog:Program)(w:World):PySem.KeyKind prog w Key where
 is:=LK
 hash:=Vo w
 inj:=λv a b g d=>by
  rcases bH g with⟨i,t,rfl,rfl⟩|⟨x,t,rfl,rfl⟩
  ·rcases bH d with⟨j,u,rfl,e⟩|⟨y,u,rfl,e⟩
   ·injection e with e1 _;rw[e1]
   ·exact nomatch e
  ·rcases bH d with⟨j,u,rfl,e⟩|⟨y,u,rfl,e⟩
   ·exact nomatch e
   ·injection e with e1 _;rw[e1]
 byValue:=λk v h=>by rcases bH h with⟨i,t,rfl,rfl⟩|⟨x,t,rfl,rfl⟩<;>rfl
 pyHash:=λc h=>by
  rcases bH c with⟨i,t,rfl,rfl⟩|⟨x,t,rfl,rfl⟩
  ·exact wpAny_pyHash_int h
  ·exact wpAny_pyHash_str h
 eqBool:=λf c h=>by
  rcases bH f with⟨i,t,rfl,rfl⟩|⟨x,t,rfl,rfl⟩
  ·rcases bH c with⟨j,u,rfl,rfl⟩|⟨y,u,rfl,rfl⟩
   ·rw[MT]at h;exact wpAny_eqBool_int h
   ·rw[MV]at h;exact SeqAt.EqAt.int_str i t y u _ _ _ _ h
  ·rcases bH c with⟨j,u,rfl,rfl⟩|⟨y,u,rfl,rfl⟩
   ·rw[MW]at h;exact SeqAt.EqAt.str_int x t j u _ _ _ _ h
   ·rw[MU]at h;exact wpAny_eqBool_str h
 «strs»:=λk x t v h=>by
  rcases bH h with⟨i,u,rfl,e⟩|⟨y,u,rfl,e⟩
  ·exact nomatch e
  ·injection e with e1 _;subst e1;cases v<;>rfl
inductive V where
 |aS|bl (b:Bool)|int (i:Int)|str (x:Str)|DW (b:Array UInt8)|MX (b:UInt64)|ref (a:Addr)|ty (n:String)
 deriving DecidableEq
noncomputable def RelV:V->Value->Prop
 |.aS,u=>u=Value.none
 |.bl b,u=>u=Value.bool b
 |.int i,u=>∃t,u=Value.int i t
 |.str x,u=>∃t,u=Value.str x t
 |.DW b,u=>∃t,u=Value.bytes b t
 |.MX b,u=>∃t,u=Value.float b t
 |.ref a,u=>u=Value.ref a
 |.ty n,u=>u=Value.type n
abbrev Vals:List V->List Value->Prop:=Paired RelV
theorem Vals.length{a:List V}{us:List Value}(r:Vals a us):a.length=us.length:=Paired.length r
theorem Vals.get:∀{a:List V}{us:List Value}{i:Nat}{x:V},Vals a us->a[i]?=some x->∃u,us[i]?=some u/\RelV x u
 |_,_,_,_,.nil,e=>by simp at e
 |_,_,0,_,.cons r _,e=>by simp at e;subst e;exact⟨_,rfl,r⟩
 |_,_,i+1,x,.cons _ t,e=>by obtain⟨u,c,b⟩:=Vals.get (i:=i) (x:=x) t (by simpa using e);exact⟨u,by simpa using c,b⟩
theorem Vals.set{x:V}{u:Value}(r:RelV x u):∀{a:List V}{us:List Value}(i:Nat),Vals a us->Vals (a.set i x) (us.set i u)
 |_,_,_,.nil=>.nil
 |_,_,0,.cons _ t=>.cons r t
 |_,_,i+1,.cons q t=>.cons q (Vals.set r i t)
theorem Vals.append:∀{a ys:List V}{us b:List Value},Vals a us->Vals ys b->Vals (a++ys) (us++b)
 |_,_,_,_,.nil,s=>s
 |_,_,_,_,.cons r t,s=>.cons r (Vals.append t s)
theorem Vals.take:∀{a:List V}{us:List Value}(n:Nat),Vals a us->Vals (a.take n) (us.take n)
 |_,_,0,_=>.nil
 |_,_,_+1,.nil=>.nil
 |_,_,n+1,.cons r t=>.cons r (Vals.take n t)
theorem Vals.drop:∀{a:List V}{us:List Value}(n:Nat),Vals a us->Vals (a.drop n) (us.drop n)
 |_,_,0,r=>r
 |_,_,_+1,.nil=>.nil
 |_,_,n+1,.cons _ t=>Vals.drop n t
noncomputable def sj:Option V->Option Value->Prop
 |some v,some u=>RelV v u
 |none,none=>True
 |_,_=>False
noncomputable def KV{a:Type}:List (a×V)->List (a×Value)->Prop:=Paired λ(p:a×V)(q:a×Value)=>p.1=q.1/\RelV p.2 q.2
noncomputable def kV:Key->V
 |.inl i=>.int i
 |.inr x=>.str x
inductive HO where
 |lst (xs:List V)
 |tup (xs:List V)
 |dK (kvs:List (Key×V))|dT (kvs:List (List Key×V))
 |set (S:Int->Bool) (n:Nat)
 |ins (C dx:Addr) (fs:List (Str×V))
 |own (x:Addr)
 |xd (fs:List (Str×V))
 |met (f x:Addr)
 |oj (lo hi:Int)
 |wF (o:Obj) (u:HO)
 |LL (ps:Array Value)
 |ext (φ:Heap->Prop)
abbrev Hp:=Addr->Option HO
noncomputable def upd(H:Hp)(a:Addr)(o:HO):Hp:=λb=>if b=a then some o else H b
theorem ao{H:Hp}{a:Addr}{o:HO}:upd H a o a=some o:=by unfold upd;rw[Bz rfl]
theorem ah{H:Hp}{a b:Addr}{o:HO}(h:b≠a):upd H a o b=H b:=by unfold upd;rw[BM h]
theorem aO{H:Hp}{a b:Addr}{o:HO}(h:H a=some o)(h':H b=none):a≠b:=by intro e;subst e;rw[h]at h';cases h'
section
variable(P:Program)(w:World)
noncomputable def bX(H:Hp)(h:Heap)(a:Addr):HO->Prop
 |.lst d=>d.length<=sizeLine/\∃(c:List Value)(n:Nat),Vals d c/\h.get? a=some {cls:=.type "list",data:=.seq c.toArray n}
 |.tup d=>d.length<=sizeLine/\∃c:List Value,Vals d c/\IsTup h a c.toArray
 |.dK b=>b.length<=sizeLine/\(a==sysModules)=false/\∃vs,KV b vs/\h.DictOf (AA P w) a vs
 |.dT b=>b.length<=sizeLine/\(a==sysModules)=false/\∃d:List (List Key×Addr×Value),
   Paired (λ(p:List Key×V)(q:List Key×Addr×Value)=>p.1=q.1/\H q.2.1=some (.tup (p.1.map kV))/\RelV p.2 q.2.2) b d/\
   ∃o m y,h.get? a=some o/\o.ExactDict/\o.data=.dict m y/\m.toList=d.map (entryOfKey (tupleKind (AA P w)))/\(d.map (·.1)).Nodup
 |.set S n=>h.SetOf (intKind P w) a S n
 |.ins C i g=>H i=some (.own a)/\g.length<=1000/\i≠a/\h.get? a=some (instObj C i)/\
   ∃e,h.Ns1 i e/\(∀f,sj (g.lookup f) (e f))/\PySem.Within e (g.map (·.1))
 |.own _=>∃o,h.get? a=some o
 |.xd g=>∃e,h.Ns1 a e/\∀f,sj (g.lookup f) (e f)
 |.oj r s=>∃t u v,h.get? a=some {cls:=.type "range",data:=.fields #[.int r t,.int s u,.int 1 v]}
 |.wF o u=>h.get? a=some o/\bX H h a u
 |.LL ps=>h.get? a=some {cls:=.none,data:=.fields ps}
 |.met f x=>h.get? a=some (methodObj (.ref f) (.ref x))
 |.ext j=>j h/\(∃o,h.get? a=some o)/\∀l k:Heap,j l->(∀o,l.get? a=some o->k.get? a=some o)->j k
noncomputable def kX(H:Hp)(h:Heap):Prop:=∀a o,H a=some o->bX P w H h a o
end
section
variable{P:Program}{w:World}{H H':Hp}{h h':Heap}{a:Addr}{o:HO}
theorem bX.lt(x:bX P w H h a o):a<h.objs.size:=by
 cases o with
 |lst c=>obtain⟨_,_,_,_,e⟩:=x;exact FS e
 |tup c=>obtain⟨_,_,_,p⟩:=x;exact p.lt
 |dK b=>obtain⟨_,_,_,_,o,_,_,e,_⟩:=x;exact FS e
 |dT b=>obtain⟨_,_,_,_,o,_,_,e,_⟩:=x;exact FS e
 |set S n=>obtain⟨o,_,_,_,e,_⟩:=x;exact FS e
 |ins C l d=>obtain⟨_,_,_,e,_⟩:=x;exact FS e
 |own y=>obtain⟨_,e⟩:=x;exact FS e
 |xd d=>obtain⟨_,⟨_,_,_,e,_⟩,_⟩:=x;exact FS e
 |oj j k=>obtain⟨_,_,_,e⟩:=x;exact FS e
 |wF i u=>obtain⟨e,_⟩:=x;exact FS e
 |LL g=>exact FS (show h.get? a=some _ from x)
 |met f y=>exact FS (show h.get? a=some _ from x)
 |ext φ=>obtain⟨_,⟨_,e⟩,_⟩:=x;exact FS e
theorem Paired.RM{α e:Type}{F G:α->e->Prop}:∀{d:List α}{c:List e},Paired F d c->(∀a b,F a b->G a b)->Paired G d c
 |_,_,.nil,_=>.nil
 |_,_,.cons r t,f=>.cons (f _ _ r) (Paired.RM t f)
theorem bX.stay(x:bX P w H h a o)(k:∀b u,(b=a\/H b=some (.own a))->h.get? b=some u->h'.get? b=some u)
 (K:∀b,H b=some (.own a)->H' b=some (.own a))(J:∀b m,H b=some (.tup m)->H' b=some (.tup m)):bX P w H' h' a o:=by
 induction o with
 |lst m=>obtain⟨z,l,n,r,e⟩:=x;exact⟨z,l,n,r,k _ _ (.inl rfl) e⟩
 |tup m=>obtain⟨z,l,r,g,e,c⟩:=x;exact⟨z,l,r,g,k _ _ (.inl rfl) e,c⟩
 |dK B=>obtain⟨z,y,F,r,g,i,j,e,c⟩:=x;exact⟨z,y,F,r,g,i,j,k _ _ (.inl rfl) e,c⟩
 |dT B=>obtain⟨z,y,m,r,g,i,j,e,c⟩:=x;exact⟨z,y,m,Paired.RM r λp q z=>⟨z.1,J _ _ z.2.1,z.2.2⟩,g,i,j,k _ _ (.inl rfl) e,c⟩
 |set S n=>obtain⟨g,i,j,t,e,c⟩:=x;exact⟨g,i,j,t,k _ _ (.inl rfl) e,c⟩
 |ins C Q L=>obtain⟨d,z,G,e,A,⟨s,i,j,M,c⟩,r⟩:=x;exact⟨K _ d,z,G,k _ _ (.inl rfl) e,A,⟨s,i,j,k _ _ (.inr d) M,c⟩,r⟩
 |own y=>obtain⟨g,e⟩:=x;exact⟨g,k _ _ (.inl rfl) e⟩
 |xd L=>obtain⟨A,⟨s,i,j,e,c⟩,r⟩:=x;exact⟨A,⟨s,i,j,k _ _ (.inl rfl) e,c⟩,r⟩
 |oj N O=>obtain⟨t,u,v,e⟩:=x;exact⟨t,u,v,k _ _ (.inl rfl) e⟩
 |wF g u I=>obtain⟨e,q⟩:=x;exact⟨k _ _ (.inl rfl) e,I q⟩
 |LL E=>have e:h.get? a=some {cls:=.none,data:=.fields E}:=x;show h'.get? a=some {cls:=.none,data:=.fields E};exact k a _ (.inl rfl) e
 |met f y=>have e:h.get? a=some (methodObj (.ref f) (.ref y)):=x;show h'.get? a=some (methodObj (.ref f) (.ref y));exact k a _ (.inl rfl) e
 |ext φ=>obtain⟨p,⟨o,e⟩,D⟩:=x;exact⟨D _ _ p λo q=>k _ _ (.inl rfl) q,⟨o,k _ _ (.inl rfl) e⟩,D⟩
theorem kX.lt(x:kX P w H h)(e:H a=some o):a<h.objs.size:=(x a o e).lt
theorem kX.fresh(x:kX P w H h)(e:h.objs.size<=a):H a=none:=by
 cases q:H a with
 |none=>rfl
 |some u=>exact absurd (FC (x.lt q) e) (NM _)
theorem kX.kept(x:kX P w H h)(k:∀b u,h.get? b=some u->h'.get? b=some u):kX P w H h':=λa o e=>(x a o e).stay (λb u _ q=>k b u q) (λ_ q=>q) λ_ _ q=>q
theorem kX.laid(x:kX P w H h)(k:∀b u,h.get? b=some u->h'.get? b=some u)(i:h.objs.size<=a)(d:bX P w (upd H a o) h' a o):kX P w (upd H a o) h':=λb u e=>by
 have f:=x.fresh i;by_cases g:b=a
 ·subst g;rw[ao]at e;cases e;exact d
 ·rw[ah g]at e;exact(x b u e).stay (λc v _ q=>k c v q) (λc q=>by rw[ah (aO q f)];exact q) λc j q=>by rw[ah (aO q f)];exact q
end
noncomputable def Rd(H:Hp)(a:Addr)(u:HO):Prop:=H a=some u\/∃o,H a=some (.wF o u)
theorem Rd.ok{P:Program}{w:World}{H:Hp}{h:Heap}{a:Addr}{u:HO}(r:Rd H a u)(x:kX P w H h):bX P w H h a u:=by
 rcases r with r|⟨o,r⟩
 ·exact x a u r
 ·obtain⟨_,q⟩:=x a _ r;exact q
noncomputable def UY:Option HO->Prop
 |some (.lst _)=>True
 |some (.dK _)=>True
 |some (.dT _)=>True
 |some (.set _ _)=>True
 |some (.ins _ _ _)=>True
 |some (.ext _)=>True
 |_=>False
section
variable{P:Program}{w:World}{H:Hp}{h h':Heap}{x e:Addr}{o':HO}
theorem kX.write(o:kX P w H h)(d:UY (H x))(m:e=x\/H e=some (.own x))(k:∀b u,b≠e->h.get? b=some u->h'.get? b=some u)(t:∃u,h'.get? e=some u)
 (j:bX P w (upd H x o') h' x o'):kX P w (upd H x o') h':=λb u q=>by
 have n:∀c y,H c=some (.own y)->c≠x:=λc y r z=>by subst z;rw[r]at d;exact d
 have s:∀c a,H c=some (.tup a)->c≠x:=λc a r z=>by subst z;rw[r]at d;exact d
 by_cases g:b=x
 ·subst g;rw[ao]at q;cases q;exact j
 ·rw[ah g]at q;by_cases i:b=e
  ·have l:H b=some (.own x):=by
    rcases m with z|z
    ·exact absurd (i.trans z) g
    ·rw[i];exact z
   rw[q]at l;cases l;obtain⟨v,p⟩:=t;exact⟨v,by rw[i];exact p⟩
  ·refine(o b u q).stay (λc v f r=>k c v ?_ r) (λc r=>by rw[ah (n c b r)];exact r) λc a r=>by rw[ah (s c a r)];exact r
   rcases f with rfl|f
   ·exact i
   ·rintro rfl;rcases m with z|z
    ·exact n c b f z
    ·rw[f]at z;cases z;exact g rfl
end
structure Un(fs ex:List Addr)(H H':Hp)(h h':Heap):Prop where
 keep:∀b o,h.get? b=some o->H b=none->b∉fs->b∉ex->h'.get? b=some o
 slot:∀b o,h.get? b=some o->H b=none->b∈fs->b∉ex->∃sl,h'.get? b=some {o with slots:=sl}
 free:∀b o,h.get? b=some o->H b=none->b∉ex->H' b=none
 there:∀b o,h.get? b=some o->b∉ex->∃o',h'.get? b=some o'
 tups:∀b xs,H b=some (.tup xs)->H' b=some (.tup xs)
 ku:∀b o u,H b=some (.wF o u)->H' b=some (.wF o u)
 ly:∀b ps,H b=some (.LL ps)->∃more,H' b=some (.LL (ps++more))
section
variable{fs fs' ex ex':List Addr}{H H1 H2:Hp}{h h1 h2 h':Heap}{a x e:Addr}{o:HO}
theorem Un.any(u:Un fs ex H H1 h h1){b:Addr}{c:Obj}(q:h.get? b=some c)(n:H b=none)(d:b∉ex):∃g,h1.get? b=some {c with slots:=g}:=by
 by_cases f:b∈fs
 ·exact u.slot b c q n f d
 ·exact⟨c.slots,u.keep b c q n f d⟩
theorem Un.kept(k:∀b u,h.get? b=some u->h'.get? b=some u):Un fs ex H H h h':=
 ⟨λb c q _ _ _=>k b c q,λb c q _ _ _=>⟨c.slots,k b c q⟩,λ_ _ _ n _=>n,λb c q _=>⟨c,k b c q⟩,λ_ _ q=>q,λ_ _ _ q=>q,λ_ d q=>⟨#[],by rw[q];simp⟩⟩
theorem Un.refl:Un fs ex H H h h:=Un.kept λ_ _ q=>q
theorem Un.laid(k:∀b u,h.get? b=some u->h'.get? b=some u)(f:h.objs.size<=a)(c:H a=none):Un fs ex H (upd H a o) h h' where
 keep:=λb u q _ _ _=>k b u q
 slot:=λb u q _ _ _=>⟨u.slots,k b u q⟩
 free:=λb u q n _=>by rw[ah (KB (FC (FS q) f))];exact n
 there:=λb u q _=>⟨u,k b u q⟩
 tups:=λb d q=>by rw[ah (aO q c)];exact q
 ku:=λb u d q=>by rw[ah (aO q c)];exact q
 ly:=λb g q=>⟨#[],by rw[ah (aO q c),q];simp⟩
theorem Un.write(c:UY (H x))(m:e=x\/H e=some (.own x))(k:∀b u,b≠e->h.get? b=some u->h'.get? b=some u)(p:∃u,h'.get? e=some u):Un fs ex H (upd H x o) h h':=by
 have f:∀b,H b=none->b≠x:=λb n z=>by subst z;rw[n]at c;exact c
 have g:∀b,H b=none->b≠e:=λb n z=>by
  subst z;rcases m with r|r
  ·exact f b n r
  ·rw[n]at r;cases r
 have d:∀b u,H b=some u->¬UY (some u)->b≠x:=λb u q l z=>by subst z;rw[q]at c;exact l c
 refine⟨λb u q n _ _=>k b u (g b n) q,λb u q n _ _=>⟨u.slots,k b u (g b n) q⟩,λb u q n _=>by rw[ah (f b n)];exact n,λb u q _=>?_,
  λb j q=>by rw[ah (d b _ q λz=>z)];exact q,λb u j q=>by rw[ah (d b _ q λz=>z)];exact q,λb s q=>⟨#[],by rw[ah (d b _ q λz=>z),q];simp⟩⟩
 by_cases i:b=e
 ·subst i;exact p
 ·exact⟨u,k b u i q⟩
end
noncomputable def UZ(h:Heap)(H:Hp):List Addr:=(List.range h.objs.size).filter λa=>(H a).isSome
noncomputable def uA(h:Heap)(H:Hp):Heap:=PySem.W.hideAll h (UZ h H)
theorem Ck(h:Heap)(H:Hp):(uA h H).objs.size=h.objs.size:=PySem.W.hideAll_size _ _
theorem El{h:Heap}{H:Hp}{b:Addr}{o:Obj}(e:h.get? b=some o)(n:H b=none):(uA h H).get? b=some o:=
 hideAll_get _ e λa=>by have q:(H b).isSome=true:=(SZ.mp a).2;rw[n]at q;simp at q
theorem HY{h:Heap}{H:Hp}{b:Addr}{o:Obj}(e:(uA h H).get? b=some o):h.get? b=some o/\H b=none:=by
 have a:h.get? b=some o:=PySem.W.of_hideAll (UZ h H) e;refine⟨a,?_⟩;cases q:H b with
 |none=>rfl
 |some x=>have c:b∈UZ h H:=SZ.mpr ⟨SB.mpr (FS a),by simp[q]⟩;have z:(uA h H).get? b=none:=PySem.W.hideAll_none (UZ h H) c;rw[z]at e;cases e
noncomputable def HZ(g h:Heap)(L:Addr):List (Addr×Obj):=(List.range h.objs.size).filterMap λa=>if a=L\/(g.get? a).isSome=true then none else(h.get? a).map λo=>(a,o)
noncomputable def rest(g h:Heap)(L d:Addr):List (Addr×Obj):=(HZ g h L).filter λp=>decide (p.1≠d)
structure Mod(K:Frag)(mg:Str->Option Value)(base:Heap):Prop where
 HP:K.In base
 glob:base.Ns mainGlobals mg
 blt:∃mb,base.Ns builtinsNs mb/\∀x:Str,x≠"__name__"->mb x=bootBuiltins x
 nolimit:base.NoLimit
 seer:base.NoSeer
set_option genInjectivity false in
set_option genSizeOf false in
structure Cx where
 prog:Program
 w:World
 K:Frag
 mg:Str->Option Value
 base:Heap
 A:Around
 N:List Str
 s₀:Shared
 H₀:Hp
 env:Env
 outer:List Env
 stack:List Env
 ex:List Addr
 fn:Str->Bool
 calm:Bool
 pn:List (Addr×Obj)
 xe:Value->Shared->Prop
noncomputable def frs(l:List Env):List Addr:=l.filterMap (·.frame)
abbrev Cx.fs(X:Cx):List Addr:=frs X.outer
noncomputable def Ra(sc:Scope)(x:Str):Prop:=sc.names.lookup x=some .local\/sc.names.lookup x=some .cell\/sc.names.lookup x=some .free
noncomputable def Loc(sc:Scope)(x:Str):Prop:=sc.names.lookup x=some .local\/sc.names.lookup x=some .cell
noncomputable def Look(env:Env)(h:Heap)(m:Str->Option Value)(x:Str)(u:Value):Prop:=
 (env.kindOf x=some .local/\m x=some u)\/((env.kindOf x=some .cell\/env.kindOf x=some .free)/\∃c,env.cells.lookup x=some c/\h.IsCell c (some u))
structure Cx.Ok(X:Cx):Prop where
 mod:Mod X.K X.mg X.base
 kind:X.env.scope.kind=.function
 glob:X.env.globals=mainGlobals
 blt:X.env.builtins=builtinsNs
 above:X.s₀.heap.objs.size<=X.env.locals
 inj:∀x y c,X.env.cells.lookup x=some c->X.env.cells.lookup y=some c->x=y
 has:∀x,(X.env.kindOf x=some .cell\/X.env.kindOf x=some .free)->∃c,X.env.cells.lookup x=some c
 Rb:∀x c,X.fn x=true->X.env.cells.lookup x=some c->X.s₀.heap.objs.size<=c
 hd:X.calm=true->X.A.handled=none
 frames:X.A.frames=some X.stack
 stk:X.stack=X.outer\/(X.stack=X.env::X.outer/\X.env.frame=some X.env.locals)
 U0:∀b∈X.ex,b≠X.env.locals/\∀x c,X.env.cells.lookup x=some c->c≠b
 bs:∀b o,X.base.get? b=some o->X.s₀.heap.get? b=some o/\X.H₀ b=none
 HQ:X.base.objs.size<=X.s₀.heap.objs.size
 Cm:∀b o,X.base.get? b=some o->b∉X.ex
 Co:∀b∈X.ex,b∉X.fs
 nu:X.s₀.heap.FunFrames X.base X.outer
 LM:∀b∈X.fs,X.H₀ b=none
 tree:X.prog.given.tree=none
 RO:∀(A:Around)(s:Shared),A.frames=X.A.frames->A.depth=X.A.depth->(∀b o,X.base.get? b=some o->s.heap.get? b=some o)->PylongRoom (model X.prog X.w) A s
structure Inv(X:Cx)(pins:List (Addr×Obj))(σ:List (Option V))(H:Hp)(s:Shared):Prop where
 ok:X.Ok
 os:s.os=X.s₀.os
 bare:AllBare s.gens
 base:Un X.fs X.ex X.H₀ H X.s₀.heap s.heap
 loc:∃m,s.heap.Ns X.env.locals m/\∀(i:Nat)(x:Str)(v:V),X.N[i]?=some x->σ[i]?=some (some v)->Ra X.env.scope x->∃u,RelV v u/\Look X.env s.heap m x u
 cell:∀x c,X.env.cells.lookup x=some c->∃v,s.heap.IsCell c v
 free:H X.env.locals=none
 gh:∀x c,X.env.cells.lookup x=some c->H c=none
 pin:∀p∈X.pn++pins,s.heap.get? p.1=some p.2/\H p.1=none/\p.1≠X.env.locals/\p.1∉X.fs/\∀v,p.2.data≠.cell v
 hok:kX X.prog X.w H s.heap
 len:σ.length=X.N.length
section
variable{X:Cx}{pins:List (Addr×Obj)}{σ:List (Option V)}{H H':Hp}{s:Shared}{h':Heap}
theorem Cx.Ok.Cp(a:X.Ok){b:Addr}{o:Obj}(e:X.base.get? b=some o):b∉X.fs:=λc=>by have:=(a.nu.mem c).1;rw[e]at this;cases this
theorem Inv.bs(I:Inv X pins σ H s):∀b o,X.base.get? b=some o->s.heap.get? b=some o/\H b=none:=λb o e=>⟨I.base.keep b o (I.ok.bs b o e).1 (I.ok.bs b o e).2 (I.ok.Cp e) (I.ok.Cm b o e),I.base.free b o (I.ok.bs b o e).1 (I.ok.bs b o e).2 (I.ok.Cm b o e)⟩
theorem Inv.bk(I:Inv X pins σ H s):∀b o,X.base.get? b=some o->s.heap.get? b=some o:=λb o e=>(I.bs b o e).1
theorem Inv.mod(I:Inv X pins σ H s):Mod X.K X.mg X.base:=I.ok.mod
theorem Inv.jP(I:Inv X pins σ H s):X.K.In s.heap:=I.ok.mod.HP.keeps I.bk
theorem Inv.lt(I:Inv X pins σ H s):X.env.locals<s.heap.objs.size:=let⟨_,hn,_⟩:=I.loc;hn.lt
theorem Inv.sz(I:Inv X pins σ H s):X.s₀.heap.objs.size<=s.heap.objs.size:=DD I.ok.above (Mo I.lt)
theorem Inv.Vq(I:Inv X pins σ H s){a:Addr}(h:s.heap.objs.size<=a):a∉X.fs:=λc=>by obtain⟨_,o,b,_⟩:=I.ok.nu.mem c;exact absurd (FC (FS b) (DD I.sz h)) (NM _)
theorem Inv.Em(I:Inv X pins σ H s):∀x c,X.env.cells.lookup x=some c->c≠X.env.locals:=λx c e z=>by obtain⟨v,o,d,f⟩:=I.cell x c e;obtain⟨m,⟨g,h,i,a,b,_⟩,_⟩:=I.loc;rw[z,a]at d;cases d;rw[b]at f;cases f
theorem Inv.nu(I:Inv X pins σ H s):s.heap.FunFrames X.base X.outer:=by
 have f:∀(l:List Env),(∀b∈frs l,b∈X.fs)->X.s₀.heap.FunFrames X.base l->s.heap.FunFrames X.base l:=by
  intro l
  induction l with
  |nil=>intro _ _;trivial
  |cons env r h=>intro g m;obtain⟨n,⟨L,o,a,k,j,p⟩,i⟩:=m;have d:L∈X.fs:=g L (by unfold frs;rw[List.filterMap_cons,a];exact FK);obtain⟨q,e⟩:=I.base.slot L o j (I.ok.LM L d) d λz=>I.ok.Co L z d;exact⟨n,⟨L,_,a,k,e,p⟩,h (λb c=>g b (by unfold frs;rw[List.filterMap_cons,a];exact DL _ c)) i⟩
 exact f X.outer (λ_ c=>c) I.ok.nu
theorem Inv.stack(I:Inv X pins σ H s):s.heap.FunFrames X.base X.stack:=by
 rcases I.ok.stk with e|⟨e,b⟩
 ·rw[e];exact I.nu
 ·rw[e];obtain⟨m,a,_⟩:=I.loc;refine .cons (by rw[I.ok.kind];decide) b a ?_ I.nu;exact Heap.get?_none_of_le (DD I.ok.HQ I.ok.above)
theorem Inv.y9(I:Inv X pins σ H s):∀b∈frs X.stack,b∈X.env.locals::X.fs:=λb a=>by
 rcases I.ok.stk with e|⟨e,c⟩
 ·rw[e]at a;exact DL _ a
 ·rw[e]at a;unfold frs at a;rw[List.filterMap_cons,c]at a;exact a
theorem Inv.jF(I:Inv X pins σ H s):∀b∈frs X.stack,H b=none:=λb a=>by
 rcases Fk.mp (I.y9 b a)with e|a
 ·rw[e];exact I.free
 ·obtain⟨_,o,c,_⟩:=I.ok.nu.mem a;exact I.base.free b o c (I.ok.LM b a) λz=>I.ok.Co b z a
theorem Inv.step{g':Array GenState}{t':Nat}{d':Drawn}{ch:List Addr}(I:Inv X pins σ H s)
 (f:∀b∈ch,(b∈X.ex\/X.s₀.heap.objs.size<=b)/\b≠X.env.locals/\(∀x c,X.env.cells.lookup x=some c->c≠b)/\∀p∈X.pn++pins,p.1≠b)
 (keep:∀b o,b≠X.env.locals->b∉X.fs->b∉ch->s.heap.get? b=some o->H b=none->h'.get? b=some o)
 (slot:∀b o,b≠X.env.locals->b∈X.fs->b∉ch->s.heap.get? b=some o->H b=none->∃F,h'.get? b=some {o with slots:=F})(free:∀b o,b∉ch->s.heap.get? b=some o->H b=none->H' b=none)
 (there:∀b o,b∉ch->s.heap.get? b=some o->∃A,h'.get? b=some A)
 (tups:∀b j,H b=some (.tup j)->H' b=some (.tup j))(ku:∀b o u,H b=some (.wF o u)->H' b=some (.wF o u))(ly:∀b ps,H b=some (.LL ps)->∃B,H' b=some (.LL (ps++B)))
 (ns:∀m,s.heap.Ns X.env.locals m->h'.Ns X.env.locals m)(G:kX X.prog X.w H' h')(T:AllBare g'):
 Inv X pins σ H' {s with heap:=h',gens:=g',drawn:=d',toks:=t'}:=by
 have O:∀b o,X.s₀.heap.get? b=some o->b≠X.env.locals:=λb o e=>KB (FC (FS e) I.ok.above);have E:∀b o,X.s₀.heap.get? b=some o->b∉X.ex->b∉ch:=λb o e a t=>by
  rcases(f b t).1 with z|z
  ·exact a z
  ·exact absurd (FC (FS e) z) (NM _)
 have g:∀x c,X.env.cells.lookup x=some c->∀v,s.heap.IsCell c v->h'.IsCell c v:=λx c e v ⟨o,y,J⟩=>by
  have D:c∉ch:=λz=>(f c z).2.2.1 x c e rfl;by_cases N:c∈X.fs
  ·obtain⟨F,q⟩:=slot c o (I.Em x c e) N D y (I.gh x c e);exact⟨_,q,J⟩
  ·exact⟨o,keep c o (I.Em x c e) N D y (I.gh x c e),J⟩
 refine⟨I.ok,I.os,T,⟨λb o e n t a=>?_,λb o e n t a=>?_,λb o e n a=>?_,λb o e a=>?_,λb j e=>tups b j (I.base.tups b j e),λb o j e=>ku b o j (I.base.ku b o j e),λb ps e=>?_⟩,?_,λx c e=>?_,?_,λx c e=>?_,λp M=>?_,G,I.len⟩
 ·exact keep b o (O b o e) t (E b o e a) (I.base.keep b o e n t a) (I.base.free b o e n a)
 ·obtain⟨F,h⟩:=I.base.slot b o e n t a;obtain⟨Y,C⟩:=slot b _ (O b o e) t (E b o e a) h (I.base.free b o e n a);exact⟨Y,C⟩
 ·obtain⟨A,h⟩:=I.base.there b o e a;exact free b A (E b o e a) h (I.base.free b o e n a)
 ·obtain⟨A,h⟩:=I.base.there b o e a;exact there b A (E b o e a) h
 ·obtain⟨Q,h⟩:=I.base.ly b ps e;obtain⟨P,C⟩:=ly b _ h;exact⟨Q++P,by rw[C,Array.append_assoc]⟩
 ·obtain⟨m,R,S⟩:=I.loc;refine⟨m,ns m R,λi x v h C U=>?_⟩;obtain⟨u,r,l⟩:=S i x v h C U;refine⟨u,r,?_⟩;rcases l with l|⟨k,c,e,z⟩
  ·exact .inl l
  ·exact .inr ⟨k,c,e,g x c e _ z⟩
 ·obtain⟨v,z⟩:=I.cell x c e;exact⟨v,g x c e v z⟩
 ·obtain⟨m,⟨o,_,_,y,_⟩,_⟩:=I.loc;exact free _ o (λz=>(f _ z).2.1 rfl) y I.free
 ·obtain⟨v,o,y,J⟩:=I.cell x c e;exact free c o (λz=>(f c z).2.2.1 x c e rfl) y (I.gh x c e)
 ·obtain⟨e,n,L,K,d⟩:=I.pin p M;have D:p.1∉ch:=λz=>(f p.1 z).2.2.2 p M rfl;exact⟨keep p.1 p.2 L K D e n,free p.1 p.2 D e n,L,K,d⟩
theorem Inv.un{t':Nat}(I:Inv X pins σ H s)(u:Un X.fs [] H H' s.heap h')(c:kX X.prog X.w H' h'):Inv X pins σ H' {s with heap:=h',toks:=t'}:=by obtain⟨m,⟨o,t,v,g,r⟩,_⟩:=id I.loc;obtain⟨l,j⟩:=u.any g I.free (by simp);exact I.step (g':=s.gens) (d':=s.drawn) (ch:=[]) (λ_ z=>nomatch z) (λb o _ d _ e n=>u.keep b o e n d (by simp)) (λb o _ d _ e n=>u.slot b o e n d (by simp)) (λb o _ e n=>u.free b o e n (by simp)) (λb o _ e=>u.there b o e (by simp)) u.tups u.ku u.ly (λq i=>by obtain⟨p,f,k,a,h⟩:=i;rw[g]at a;cases a;exact⟨_,f,k,j,h⟩) c I.bare
theorem Inv.call{g':Array GenState}{t':Nat}{d':Drawn}{ch:List Addr}(I:Inv X pins σ H s)(u:Un (frs X.stack) ch H H' s.heap h')(g:kX X.prog X.w H' h')(q:AllBare g')
 (f:∀b∈ch,(b∈X.ex\/X.s₀.heap.objs.size<=b)/\b≠X.env.locals/\(∀x c,X.env.cells.lookup x=some c->c≠b)/\∀p∈X.pn++pins,p.1≠b):
 Inv X pins σ H' {s with heap:=h',gens:=g',drawn:=d',toks:=t'}:=by
 obtain⟨m,⟨o,C,D,j,r⟩,_⟩:=id I.loc;obtain⟨y,h⟩:=u.any j I.free λz=>(f _ z).2.1 rfl;exact I.step (ch:=ch) f (λb o h t a e n=>u.keep b o e n (λz=>(Fk.mp (I.y9 b z)).elim h t) a) (λb o _ _ a e n=>u.any e n a) (λb o a e n=>u.free b o e n a) (λb o a e=>u.there b o e a) u.tups u.ku u.ly (λB l=>by obtain⟨A,i,v,d,k⟩:=l;rw[j]at d;cases d;exact⟨_,i,v,h,k⟩) g q
theorem Inv.turned{t':Nat}{a:Addr}(I:Inv X pins σ H s)(k:∀b o,b≠a->s.heap.get? b=some o->h'.get? b=some o)(i:H a=none)(f:a≠X.env.locals)
 (y:a∈X.ex\/X.s₀.heap.objs.size<=a)(w:∀x c,X.env.cells.lookup x=some c->c≠a)(t:∀p∈X.pn++pins,p.1≠a):Inv X pins σ H {s with heap:=h',toks:=t'}:=by
 have g:∀b u,H b=some u->b≠a:=λb u e z=>by rw[z,i]at e;cases e
 refine I.step (g':=s.gens) (d':=s.drawn) (ch:=[a]) (λb l=>?_) (λb o _ _ d e _=>k b o (λz=>d (by simp[z])) e) (λb o _ _ d e _=>⟨o.slots,k b o (λz=>d (by simp[z])) e⟩) (λ_ _ _ _ n=>n)
  (λb o d e=>⟨o,k b o (λz=>d (by simp[z])) e⟩) (λ_ _ e=>e) (λ_ _ _ e=>e) (λb C e=>⟨#[],by rw[e];simp⟩) (λm j=>?_) (λb u e=>?_) I.bare
 ·have e:b=a:=by simpa using l
  subst e;exact⟨y,f,w,t⟩
 ·obtain⟨o,A,B,h,r⟩:=j;exact⟨o,A,B,k _ o (Pt f) h,r⟩
 ·refine(I.hok b u e).stay (λc v d q=>k c v ?_ q) (λ_ q=>q) λ_ _ q=>q;rcases d with z|z
  ·rw[z];exact g b u e
  ·exact g c _ z
theorem Inv.tok(I:Inv X pins σ H s)(t:Nat):Inv X pins σ H {s with toks:=t}:=I.un (h':=s.heap) (t':=t) Un.refl I.hok
theorem Inv.kept{t':Nat}(I:Inv X pins σ H s)(k:∀b u,s.heap.get? b=some u->h'.get? b=some u):Inv X pins σ H {s with heap:=h',toks:=t'}:=I.un (Un.kept k) (I.hok.kept k)
theorem Inv.laid{a:Addr}{o:HO}{t':Nat}(I:Inv X pins σ H s)(k:∀b u,s.heap.get? b=some u->h'.get? b=some u)(d:s.heap.objs.size<=a)(c:bX X.prog X.w (upd H a o) h' a o):
 Inv X pins σ (upd H a o) {s with heap:=h',toks:=t'}:=I.un (Un.laid k d (I.hok.fresh d)) (I.hok.laid k d c)
theorem Inv.write{x e:Addr}{o:HO}{t':Nat}(I:Inv X pins σ H s)(c:UY (H x))(d:e=x\/H e=some (.own x))(k:∀b u,b≠e->s.heap.get? b=some u->h'.get? b=some u)(f:∃u,h'.get? e=some u)
 (a:bX X.prog X.w (upd H x o) h' x o):Inv X pins σ (upd H x o) {s with heap:=h',toks:=t'}:=I.un (Un.write c d k f) (I.hok.write c d k f a)
theorem Inv.AB{a:List (Addr×Obj)}(I:Inv X pins σ H s)(h:∀p∈a,s.heap.get? p.1=some p.2/\H p.1=none/\p.1≠X.env.locals/\p.1∉X.fs/\∀v,p.2.data≠.cell v):Inv X a σ H s:=
 ⟨I.ok,I.os,I.bare,I.base,I.loc,I.cell,I.free,I.gh,λp b=>(Fs.mp b).elim (λz=>I.pin p (RF _ z)) (h p),I.hok,I.len⟩
theorem pL{N:List Str}(c:N.Nodup){i j:Nat}{x:Str}(a:N[i]?=some x)(b:N[j]?=some x):i=j:=by obtain⟨g,e⟩:=Fu.mp a;obtain⟨f,d⟩:=Fu.mp b;exact(List.getElem_inj c).mp (e.trans d.symm)
theorem tw{M:Model}{A:Around}{E:Value->Shared->Prop}{i:Nat}{x:Str}{v:V}{u:Value}{Q:Unit->Shared->Prop}(I:Inv X pins σ H s)(hN:X.N.Nodup)(O:X.N[i]?=some x)(B:Loc X.env.scope x)(r:RelV v u)
 (h:∀s',Inv X pins (σ.set i (some v)) H s'->(∃a,Heap.SameBut a s.heap s'.heap/\(a=X.env.locals\/X.env.cells.lookup x=some a))->Q () s')(hf:X.fn x=true\/X.env.scope.names.lookup x=some .local:=by first|exact .inl rfl|exact .inr rfl|assumption):wpAny M A (storeName X.env x u) Q E s:=by
 obtain⟨m,hn,hl⟩:=id I.loc;have P:(X.env.scope.kind==.class||(X.env.scope.kind==.module&&X.env.locals !=X.env.globals))=false:=by rw[I.ok.kind];rfl
 have Ia:i<σ.length:=by rw[I.len];exact(Fu.mp O).1
 have Em:=I.Em;have g:∀{a:Addr}{h':Heap},(∃o,s.heap.get? a=some o/\H a=none)->Heap.SameBut a s.heap h'->kX X.prog X.w H h':=λ{a h'} ha f b ob e=>by
  obtain⟨_,_,C⟩:=ha;refine(I.hok b ob e).stay (λc T t q=>(f.2 c ?_).trans q) (λ_ q=>q) λ_ _ q=>q;rintro rfl;rcases t with rfl|t
  ·rw[C]at e;cases e
  ·rw[C]at t;cases t
 rcases B with F|F
 ·refine wpAny_storeName_local F hn (λh' hn' f=>?_) P;obtain⟨oL,_,_,XC,_⟩:=id hn;refine h _ ⟨I.ok,I.os,I.bare,⟨λb o e n K B=>?_,λb o e n K B=>?_,I.base.free,λb o e B=>?_,I.base.tups,I.base.ku,I.base.ly⟩,⟨_,hn',λj y Z l D e3=>?_⟩,λy c e=>?_,I.free,I.gh,λp hp=>?_,g ⟨oL,XC,I.free⟩ f,by simpa using I.len⟩ ⟨_,f,.inl rfl⟩
  ·exact(f.2 b (KB (FC (FS e) I.ok.above))).trans (I.base.keep b o e n K B)
  ·obtain⟨sl,l⟩:=I.base.slot b o e n K B;exact⟨sl,(f.2 b (KB (FC (FS e) I.ok.above))).trans l⟩
  ·obtain⟨o',l⟩:=I.base.there b o e B;exact⟨o',(f.2 b (KB (FC (FS e) I.ok.above))).trans l⟩
  ·by_cases G:j=i
   ·subst G;rw[O]at l;cases l;rw[PP Ia]at D;cases D;exact⟨u,r,.inl ⟨F,by simp⟩⟩
   ·rw[Hn (Pt G)]at D;obtain⟨u',r',q⟩:=hl j y Z l D e3;refine⟨u',r',?_⟩;rcases q with⟨k,e⟩|⟨k,c,e,z⟩
    ·refine .inl ⟨k,?_⟩;have:y≠x:=λe=>G (pL hN l (e▸O));simp[this,e]
    ·exact .inr ⟨k,c,e,z.sameBut f (Em y c e)⟩
  ·obtain⟨T,z⟩:=I.cell y c e;exact⟨T,z.sameBut f (Em y c e)⟩
  ·obtain⟨e,n,U,nf,d⟩:=I.pin p hp;exact⟨(f.2 p.1 U).trans e,n,U,nf,d⟩
 ·have J:X.fn x=true:=by
   rcases hf with z|z
   ·exact z
   ·rw[z]at F;cases F
  obtain⟨c,t⟩:=I.ok.has x (.inl F);obtain⟨T,z⟩:=I.cell x c t;refine wpAny_storeName_cell I.ok.kind F t z (λh' S f=>?_);obtain⟨oc,L,Vs⟩:=id z;refine h {s with heap:=h'} ⟨I.ok,I.os,I.bare,⟨λb o e n K B=>?_,λb o e n K B=>?_,I.base.free,λb o e B=>?_,I.base.tups,I.base.ku,I.base.ly⟩,⟨m,hn.sameBut f (Pt (Em x c t)),λj y Z l D e3=>?_⟩,λy Y e=>?_,I.free,I.gh,λp hp=>?_,g ⟨oc,L,I.gh x c t⟩ f,by simpa using I.len⟩ ⟨c,f,.inr t⟩
  ·exact(f.2 b (KB (FC (FS e) (I.ok.Rb x c J t)))).trans (I.base.keep b o e n K B)
  ·obtain⟨sl,l⟩:=I.base.slot b o e n K B;exact⟨sl,(f.2 b (KB (FC (FS e) (I.ok.Rb x c J t)))).trans l⟩
  ·obtain⟨o',l⟩:=I.base.there b o e B;exact⟨o',(f.2 b (KB (FC (FS e) (I.ok.Rb x c J t)))).trans l⟩
  ·by_cases G:j=i
   ·subst G;rw[O]at l;cases l;rw[PP Ia]at D;cases D;exact⟨u,r,.inr ⟨.inl F,c,t,S⟩⟩
   ·rw[Hn (Pt G)]at D;obtain⟨u',r',q⟩:=hl j y Z l D e3;refine⟨u',r',?_⟩;rcases q with q|⟨k,Y,e,z'⟩
    ·exact .inl q
    ·refine .inr ⟨k,Y,e,z'.sameBut f ?_⟩;rintro rfl;exact G (pL hN l (I.ok.inj _ _ _ e t▸O))
  ·by_cases R:Y=c
   ·subst R;exact⟨_,S⟩
   ·obtain⟨w2,z2⟩:=I.cell y Y e;exact⟨w2,z2.sameBut f R⟩
  ·obtain⟨e,n,U,nf,d⟩:=I.pin p hp;refine⟨(f.2 p.1 ?_).trans e,n,U,nf,d⟩;intro q;rw[q,L]at e;have q':oc=p.2:=He e;exact d T (by rw[←q'];exact Vs)
theorem ee{M:Model}{A:Around}{E:Value->Shared->Prop}{i:Nat}{x:Str}{v:V}{u:Value}{Q:Unit->Shared->Prop}(I:Inv X pins σ H s)(d:X.N.Nodup)(b:X.N[i]?=some x)(a:Loc X.env.scope x)(r:RelV v u)
 (h:∀s',Inv X pins (σ.set i (some v)) H s'->Q () s')(c:X.fn x=true\/X.env.scope.names.lookup x=some .local:=by first|exact .inl rfl|exact .inr rfl|assumption):wpAny M A (storeName X.env x u) Q E s:=
 tw I d b a r (λs' e _=>h s' e) c
theorem Inv.En{s':Shared}{ch:List Addr}(I:Inv X pins σ H s)(g:s'.os=s.os)(u:Un (frs X.stack) ch H H' s.heap s'.heap)(a:kX X.prog X.w H' s'.heap)(h:AllBare s'.gens)
 (d:∀b∈ch,(b∈X.ex\/X.s₀.heap.objs.size<=b)/\b≠X.env.locals/\(∀x c,X.env.cells.lookup x=some c->c≠b)/\∀p∈X.pn++pins,p.1≠b):Inv X pins σ H' s':=by
 obtain⟨h',g',d',t',f⟩:=s';have e:f=s.os:=g;subst e;exact I.call (g':=g') (t':=t') (d':=d') u a h d
end
abbrev XK:=Value->Option Addr->Hp->Prop
abbrev St:=List (Option V)
abbrev VK:=V->Hp->Prop
abbrev TE:=St->Hp->VK->Prop
abbrev TT:=St->Hp->(Bool->Hp->Prop)->Prop
abbrev TA:=St->Hp->(List V->Hp->Prop)->Prop
set_option genInjectivity false in
set_option genSizeOf false in
structure Ends where
 nx:St->Hp->Prop
 rt:VK
 bk:St->Hp->Prop:=λ_ _=>False
 ct:St->Hp->Prop:=λ_ _=>False
abbrev TS:=Ends->St->Hp->Prop
noncomputable def EP(X:Cx)(a:List (Addr×Obj))(c:St)(Q:VK)(u:Value)(s':Shared):Prop:=∃v b,Inv X a c b s'/\RelV v u/\Q v b
noncomputable def TP(X:Cx)(a:List (Addr×Obj))(d:St)(Q:Bool->Hp->Prop)(b:Bool)(s':Shared):Prop:=∃c,Inv X a d c s'/\Q b c
noncomputable def AP(X:Cx)(a:List (Addr×Obj))(d:St)(Q:List V->Hp->Prop)(us:List Value)(s':Shared):Prop:=∃b c,Inv X a d c s'/\Vals b us/\Q b c
noncomputable def SP(X:Cx)(b:List (Addr×Obj))(D:Ends)(f:Flow)(s':Shared):Prop:=
 match f with
 |.next=>∃a c,Inv X b a c s'/\D.nx a c
 |.brk=>∃a c,Inv X b a c s'/\D.bk a c
 |.cont=>∃a c,Inv X b a c s'/\D.ct a c
 |.ret u=>∃v a c,Inv X b a c s'/\RelV v u/\D.rt v c
noncomputable def PE(X:Cx)(e:Expr)(t:TE):Prop:=
 ∀(a:List (Addr×Obj))(s:Shared)(b:St)(H:Hp)(Q:VK),Inv X a b H s->t b H Q->wpAny (model X.prog X.w) X.A (eval e X.env) (EP X a b Q) X.xe s
noncomputable def PT(X:Cx)(e:Expr)(t:TT):Prop:=
 ∀(a:List (Addr×Obj))(s:Shared)(b:St)(H:Hp)(Q:Bool->Hp->Prop),Inv X a b H s->t b H Q->wpAny (model X.prog X.w) X.A (isTrue e X.env (eval e X.env)) (TP X a b Q) X.xe s
noncomputable def PW(X:Cx)(e:Expr)(t:TT):Prop:=
 ∀(b:Sem Value)(a:List (Addr×Obj))(s:Shared)(c:St)(H:Hp)(Q:Bool->Hp->Prop),Inv X a c H s->t c H Q->wpAny (model X.prog X.w) X.A (isTrue e X.env b) (TP X a c Q) X.xe s
theorem PW.pt{X:Cx}{e:Expr}{t:TT}(h:PW X e t):PT X e t:=h _
noncomputable def PA(X:Cx)(d:List Expr)(t:TA):Prop:=
 ∀(c:Pos)(a:List (Addr×Obj))(s:Shared)(b:St)(H:Hp)(Q:List V->Hp->Prop),Inv X a b H s->t b H Q->wpAny (model X.prog X.w) X.A (spliced (backTo c (starEach d X.env))) (AP X a b Q) X.xe s
noncomputable def PS(X:Cx)(st:Stmt)(t:TS):Prop:=
 ∀(a:List (Addr×Obj))(s:Shared)(b:St)(H:Hp)(D:Ends),Inv X a b H s->t D b H->wpAny (model X.prog X.w) X.A (exec st X.env) (SP X a D) X.xe s
noncomputable def se(X:Cx)(st:List Stmt)(t:TS):Prop:=
 ∀(a:List (Addr×Obj))(s:Shared)(b:St)(H:Hp)(D:Ends),Inv X a b H s->t D b H->wpAny (model X.prog X.w) X.A (execs st X.env) (SP X a D) X.xe s
theorem bJ{α:Type}{t:Sem α}{Q b:α->Shared->Prop}{M:Model}{A:Around}{E:Value->Shared->Prop}{s:Shared}(h:wpAny M A t Q E s)(c:∀a s,Q a s->b a s):wpAny M A t b E s:=UF h c λ_ _ x=>x
section
variable{X:Cx}
theorem bin{a b:Expr}{ta k:TE}(t:PE X a ta)(r:PE X b k){c:List (Addr×Obj)}{s:Shared}{d:St}{H:Hp}{R:V->V->Hp->Prop}(I:Inv X c d H s)(h:ta d H λx H1=>k d H1 λy e=>R x y e)
 {α:Type}{Q:α->Shared->Prop}{f:Value->Value->Sem α}
 (q:∀v u j x y e,Inv X c d e j->RelV x v->RelV y u->R x y e->wpAny (model X.prog X.w) X.A (f v u) Q X.xe j):
 wpAny (model X.prog X.w) X.A (eval a X.env) (λv i=>wpAny (model X.prog X.w) X.A (eval b X.env) (λu g=>wpAny (model X.prog X.w) X.A (f v u) Q X.xe g) X.xe i) X.xe s:=by
 refine bJ (t c s d H _ I h) λv l ⟨x,H1,B,n,p⟩=>?_;refine bJ (r c l d H1 _ B p) λu j ⟨y,e,z,m,o⟩=>?_;exact q v u j x y e z n m o
noncomputable def jQ(i:Nat):TE:=λa H Q=>∃v,a[i]?=some (some v)/\Q v H
noncomputable def tC(v:V):TE:=λ_ H Q=>Q v H
theorem Eo{i:Nat}{x:Str}{pos:Pos}(w:X.N[i]?=some x)(o:Ra X.env.scope x)(g:(x==("__debug__":Str))=false:=by decide)(j:(x==("__classdict__":Str))=false:=by decide):PE X (.Name x pos) (jQ i):=by
 intro f s n H Q I h;obtain⟨v,e,h⟩:=h;obtain⟨m,p,t⟩:=I.loc;obtain⟨u,r,l⟩:=t i x v w e o;have d:EP X f n Q u s:=⟨v,H,I,r,h⟩;rcases l with⟨b,q⟩|⟨b,c,k,a⟩
 ·exact wpAny_Name (wpAny_loadName_local I.ok.kind b p q d) g
 ·rcases b with b|b
  ·exact wpAny_Name (wpAny_loadName_cell I.ok.kind b k a d) g
  ·exact wpAny_Name (wpAny_loadName_free I.ok.kind b k a d j) g
theorem iK{i j pos}:PE X (.Constant (.int i) j pos) (tC (.int i)):=λ_ _ _ H _ I h=>wpAny_Constant_int ⟨.int i,H,I.tok _,⟨_,rfl⟩,h⟩
theorem LP{b j pos}:PE X (.Constant (.bool b) j pos) (tC (.bl b)):=λ_ _ _ H _ I h=>Constant_bool ⟨.bl b,H,I,rfl,h⟩
theorem Ep{j pos}:PE X (.Constant .none j pos) (tC .aS):=λ_ _ _ H _ I h=>Constant_none ⟨.aS,H,I,rfl,h⟩
theorem MZ{x j pos}:PE X (.Constant (.str x) j pos) (tC (.str x)):=λ_ _ _ H _ I h=>Calls.Constant_str ⟨.str x,H,I.tok _,⟨_,rfl⟩,h⟩
noncomputable def Gl(X:Cx)(x:Str):Prop:=X.env.kindOf x=some .globalImplicit
theorem eZ{E:Value->Shared->Prop}{a:List (Addr×Obj)}{s:Shared}{b:St}{H:Hp}{x:Str}{u:Value}{pos:Pos}{Q:Value->Shared->Prop}(I:Inv X a b H s)(d:Gl X x)(c:X.mg x=some u)(h:Q u s)
 (e:(x==("__debug__":Str))=false:=by decide):wpAny (model X.prog X.w) X.A (eval (.Name x pos) X.env) Q E s:=
 Calls.Name_function_global I.ok.kind d (Calls.loadGlobal_global (by rw[I.ok.glob];exact I.mod.glob.keeps I.bk) c h) e
theorem gr{E:Value->Shared->Prop}{a:List (Addr×Obj)}{s:Shared}{b:St}{H:Hp}{x:Str}{u:Value}{pos:Pos}{Q:Value->Shared->Prop}(I:Inv X a b H s)(f:Gl X x)(e:X.mg x=none)(c:bootBuiltins x=some u)(h:Q u s)
 (d:x≠"__name__":=by decide)(g:(x==("__debug__":Str))=false:=by decide):wpAny (model X.prog X.w) X.A (eval (.Name x pos) X.env) Q E s:=by
 obtain⟨k,j,i⟩:=I.mod.blt;exact Calls.Name_function_global I.ok.kind f (Calls.loadGlobal_builtin (by rw[I.ok.glob];exact I.mod.glob.keeps I.bk) e (by rw[I.ok.blt];exact j.keeps I.bk) ((i x d).trans c) h) g
theorem e7{x:Str}{v:V}{u:Value}{pos:Pos}(b:Gl X x)(a:X.mg x=some u)(r:RelV v u)(c:(x==("__debug__":Str))=false:=by decide):PE X (.Name x pos) (tC v):=
 λ_ _ _ H _ I h=>eZ I b a ⟨v,H,I,r,h⟩ c
theorem AD{x:Str}{v:V}{u:Value}{pos:Pos}(d:Gl X x)(c:X.mg x=none)(a:bootBuiltins x=some u)(r:RelV v u)(b:x≠"__name__":=by decide)(e:(x==("__debug__":Str))=false:=by decide):PE X (.Name x pos) (tC v):=
 λ_ _ _ H _ I h=>gr I d c a ⟨v,H,I,r,h⟩ b e
variable{a b:Expr}{ta tb:TE}{pos:Pos}
noncomputable def tB(t:TE):TT:=λd H Q=>t d H λx e=>∃c,x=.bl c/\Q c e
theorem uB{e:Expr}{t:TE}(h:PE X e t)(l:∀c,isTrue e X.env c=(do let v←c;standAt e.pos;holding [v] (truthy v)):=by intro _;rfl):PT X e (tB t):=by intro f s g H Q I k;refine isTrue_plain (bJ (h f s g H _ I k) λv o ⟨x,n,m,i,j⟩=>?_) (l _);obtain⟨d,rfl,q⟩:=j;cases i;exact ar ⟨n,m,q⟩
variable{tA U3:TT}{rest:List Expr}
noncomputable def Vt(t u:TT):TT:=λd H Q=>t d H λc e=>if c=true then u d e Q else Q false e
noncomputable def YJ(t u:TT):TT:=λd H Q=>t d H λc e=>if c=true then Q true e else u d e Q
noncomputable def Vu(t:TT):TT:=λd H Q=>t d H λc e=>Q (!c) e
theorem AE(g:PT X a tA):PW X (.BoolOp .And [a] pos) tA:=by
 intro i d s f H Q I h;refine isTrue_and (bJ (g d s f H Q I h) λc j e=>?_);cases c with
 |true=>exact isTrue_and_nil e
 |false=>exact e
theorem Er(g:PT X a tA):PW X (.BoolOp .Or [a] pos) tA:=by
 intro i d s f H Q I h;refine isTrue_or (bJ (g d s f H Q I h) λc j e=>?_);cases c with
 |false=>exact isTrue_or_nil e
 |true=>exact e
theorem Es(m:PT X a tA)(l:PW X (.BoolOp .And (b::rest) pos) U3):PW X (.BoolOp .And (a::b::rest) pos) (Vt tA U3):=by
 intro j d s e H Q I h;refine isTrue_and (bJ (m d s e H _ I h) λc k ⟨i,g,f⟩=>?_);cases c with
 |true=>exact l j d k e i Q g f
 |false=>exact⟨i,g,f⟩
theorem LQ(m:PT X a tA)(l:PW X (.BoolOp .Or (b::rest) pos) U3):PW X (.BoolOp .Or (a::b::rest) pos) (YJ tA U3):=by
 intro j d s e H Q I h;refine isTrue_or (bJ (m d s e H _ I h) λc k ⟨i,g,f⟩=>?_);cases c with
 |true=>exact⟨i,g,f⟩
 |false=>exact l j d k e i Q g f
theorem zc(f:PT X a tA):PT X (.UnaryOp .Not a pos) (Vu tA):=by intro d s e H Q I h;exact isTrue_not (f d s e H (λc g=>Q (!c) g) I h)
noncomputable def RP(ta tb:TE):TE:=λd H Q=>ta d H λx e=>∃c,x=.bl c/\if c=true then tb d e Q else Q (.bl false) e
noncomputable def Vv(ta tb:TE):TE:=λd H Q=>ta d H λx e=>∃c,x=.bl c/\if c=true then Q (.bl true) e else tb d e Q
noncomputable def RQ(ta:TE):TE:=λd H Q=>ta d H λx e=>∃c,x=.bl c/\Q (.bl (!c)) e
theorem Et{op}{t:TE}(h:PE X a t):PE X (.BoolOp op [a] pos) t:=λc s d H Q I e=>BoolOp_one (h c s d H Q I e)
theorem M1(m:PE X a ta)(l:PE X (.BoolOp .And (b::rest) pos) tb):PE X (.BoolOp .And (a::b::rest) pos) (RP ta tb):=by
 intro d s f H Q I h;refine BoolOp_and (bJ (m d s f H _ I h) λv j ⟨x,i,g,k,e⟩=>?_);obtain⟨c,rfl,e⟩:=e;cases k;refine ar ?_;cases c with
 |true=>exact l d j f i Q g e
 |false=>exact⟨.bl false,i,g,rfl,e⟩
theorem RS(m:PE X a ta)(l:PE X (.BoolOp .Or (b::rest) pos) tb):PE X (.BoolOp .Or (a::b::rest) pos) (Vv ta tb):=by
 intro d s f H Q I h;refine BoolOp_or (bJ (m d s f H _ I h) λv j ⟨x,i,g,k,e⟩=>?_);obtain⟨c,rfl,e⟩:=e;cases k;refine ar ?_;cases c with
 |false=>exact l d j f i Q g e
 |true=>exact⟨.bl true,i,g,rfl,e⟩
theorem M3(i:PE X a ta):PE X (.UnaryOp .Not a pos) (RQ ta):=by intro d s f H Q I h;refine UnaryOp_ (bJ (i d s f H _ I h) λv l ⟨x,k,j,g,e⟩=>?_);obtain⟨c,rfl,e⟩:=e;cases g;exact not_of (ar ⟨.bl (!c),k,j,rfl,e⟩)
end
noncomputable def gU(K:Frag)(H:Hp)(a:Addr)(c:List V):Prop:=
 Rd H a (.lst c)\/
  ∃(o:Obj)(b:Array Value)(n:Nat),K.lookup a=some o/\o.cls=.type "list"/\o.dict=none/\o.data=.seq b n/\b.size<=sizeLine/\Vals c b.toList
noncomputable def kY(K:Frag)(H:Hp)(a:Addr)(c:List V):Prop:=
 Rd H a (.tup c)\/
  ∃(o:Obj)(b:Array Value)(n:Nat),K.lookup a=some o/\o.cls=.type "tuple"/\o.data=.seq b n/\b.size<=sizeLine/\Vals c b.toList
noncomputable def Vw:Value->Option V
 |.none=>some .aS
 |.bool b=>some (.bl b)
 |.int i _=>some (.int i)
 |.str x _=>some (.str x)
 |.bytes b _=>some (.DW b)
 |.float b _=>some (.MX b)
 |.ref a=>some (.ref a)
 |.type n=>some (.ty n)
 |_=>none
theorem RelV.abs{x:V}{u:Value}(r:RelV x u):Vw u=some x:=by
 cases x with
 |aS=>cases r;rfl
 |bl _=>cases r;rfl
 |int _=>obtain⟨t,rfl⟩:=r;rfl
 |str _=>obtain⟨t,rfl⟩:=r;rfl
 |DW _=>obtain⟨t,rfl⟩:=r;rfl
 |MX _=>obtain⟨t,rfl⟩:=r;rfl
 |ref _=>cases r;rfl
 |ty _=>cases r;rfl
theorem RelV.inj{x y:V}{u:Value}(r:RelV x u)(q:RelV y u):x=y:=He (r.abs.symm.trans q.abs)
theorem Vals.inj:∀{a ys:List V}{us:List Value},Vals a us->Vals ys us->a=ys
 |_,_,_,.nil,.nil=>rfl
 |_,_,_,.cons r t,.cons b t'=>by rw[r.inj b,Vals.inj t t']
section
variable{X:Cx}{pins:List (Addr×Obj)}{σ:St}{H:Hp}{s:Shared}{a:Addr}{xs ys:List V}
theorem gU.of{K:Frag}(h:H a=some (.lst xs)):gU K H a xs:=.inl (.inl h)
theorem kY.of{K:Frag}(h:H a=some (.tup xs)):kY K H a xs:=.inl (.inl h)
theorem Inv.list(I:Inv X pins σ H s)(h:gU X.K H a xs):∃b:List Value,Vals xs b/\PlainL s.heap a b.toArray/\xs.length<=sizeLine:=by
 rcases h with h|⟨o,b,n,d,g,f,c,hz,r⟩
 ·obtain⟨z,b,n,r,e⟩:=h.ok I.hok;exact⟨b,r,⟨_,n,e,rfl,rfl,rfl⟩,z⟩
 ·refine⟨b.toList,r,⟨o,n,I.jP a o d,g,f,by simpa using c⟩,?_⟩;have e:=r.length;simp only[Array.length_toList]at e;omega
theorem Inv.tuple(I:Inv X pins σ H s)(h:kY X.K H a xs):∃b:List Value,Vals xs b/\IsTup s.heap a b.toArray/\xs.length<=sizeLine:=by
 rcases h with h|⟨o,b,n,d,f,c,hz,r⟩
 ·obtain⟨z,b,r,p⟩:=h.ok I.hok;exact⟨b,r,p,z⟩
 ·refine⟨b.toList,r,⟨o,I.jP a o d,f,n,by simpa using c⟩,?_⟩;have e:=r.length;simp only[Array.length_toList]at e;omega
theorem Inv.pM(I:Inv X pins σ H s)(h:gU X.K H a xs)(h':gU X.K H a ys):xs=ys:=by
 obtain⟨c,r,⟨o,n,e,_,_,d⟩,_⟩:=I.list h;obtain⟨b,i,⟨j,k,f,_,_,g⟩,_⟩:=I.list h';rw[e]at f;cases f;rw[d]at g;injection g with d1 _;have:c=b:=by simpa using Wp Array.toList d1
 subst this;exact r.inj i
theorem Inv.Cq(I:Inv X pins σ H s)(h:kY X.K H a xs)(h':kY X.K H a ys):xs=ys:=by
 obtain⟨c,r,⟨o,e,_,n,d⟩,_⟩:=I.tuple h;obtain⟨b,i,⟨j,f,_,k,g⟩,_⟩:=I.tuple h';rw[e]at f;cases f;rw[d]at g;injection g with d1 _;have:c=b:=by simpa using Wp Array.toList d1
 subst this;exact r.inj i
end
abbrev Cx.oM(X:Cx)(E:Value->Shared->Prop):Cx:={X with xe:=E}
abbrev Cx.kC(X:Cx):Cx:=X.oM λ_ _=>False
theorem Cx.Ok.oM{X:Cx}(a:X.Ok)(E:Value->Shared->Prop):(X.oM E).Ok:=
 ⟨a.mod,a.kind,a.glob,a.blt,a.above,a.inj,a.has,a.Rb,a.hd,a.frames,a.stk,a.U0,a.bs,a.HQ,a.Cm,a.Co,a.nu,a.LM,a.tree,a.RO⟩
theorem Cx.Ok.gu{X:Cx}{E:Value->Shared->Prop}(a:(X.oM E).Ok):X.Ok:=
 ⟨a.mod,a.kind,a.glob,a.blt,a.above,a.inj,a.has,a.Rb,a.hd,a.frames,a.stk,a.U0,a.bs,a.HQ,a.Cm,a.Co,a.nu,a.LM,a.tree,a.RO⟩
section
variable{X:Cx}{pins:List (Addr×Obj)}{σ:St}{H:Hp}{s:Shared}{E:Value->Shared->Prop}
theorem Inv.oM(I:Inv X pins σ H s)(E:Value->Shared->Prop):Inv (X.oM E) pins σ H s:=⟨I.ok.oM E,I.os,I.bare,I.base,I.loc,I.cell,I.free,I.gh,I.pin,I.hok,I.len⟩
theorem Inv.gu(I:Inv (X.oM E) pins σ H s):Inv X pins σ H s:=⟨I.ok.gu,I.os,I.bare,I.base,I.loc,I.cell,I.free,I.gh,I.pin,I.hok,I.len⟩
theorem SP.gu{D:Ends}{f:Flow}{s':Shared}(h:SP (X.oM E) pins D f s'):SP X pins D f s':=by
 cases f with
 |next=>obtain⟨a,b,I,q⟩:=h;exact⟨a,b,I.gu,q⟩
 |brk=>obtain⟨a,b,I,q⟩:=h;exact⟨a,b,I.gu,q⟩
 |cont=>obtain⟨a,b,I,q⟩:=h;exact⟨a,b,I.gu,q⟩
 |ret u=>obtain⟨v,a,b,I,r,q⟩:=h;exact⟨v,a,b,I.gu,r,q⟩
theorem se.kC{st:List Stmt}{t:TS}(h:se X.kC st t):se X st t:=λpins s σ H D I a=>UF (h pins s σ H D (I.oM _) a) (λ_ _ q=>q.gu) λ_ _ z=>False.elim z
end
section
variable{X:Cx}{st:Stmt}{rest:List Stmt}{t u:TS}{e:Expr}{te:TE}{pos:Pos}
noncomputable def RU:TS:=λD a H=>D.nx a H
noncomputable def Vx(t u:TS):TS:=λD a H=>t {D with nx:=u D} a H
theorem AF:se X [] RU:=λ_ _ a H _ I h=>fo ⟨a,H,I,h⟩
theorem bq(i:PS X st t)(g:se X rest u):se X (st::rest) (Vx t u):=by
 intro a s c H D I h;refine wpAny_execs_cons (bJ (i a s c H {D with nx:=u D} I h) λf d q=>?_);cases f with
 |next=>obtain⟨b,k,j,q⟩:=q;exact g a d b k D j q
 |ret v=>exact q
 |brk=>exact q
 |cont=>exact q
theorem jG(c:PS X st t):se X [st] t:=by
 intro a s b H D I h;refine wpAny_execs_cons (bJ (c a s b H D I h) λf d q=>?_);cases f with
 |next=>exact fo q
 |ret v=>exact q
 |brk=>exact q
 |cont=>exact q
noncomputable def M4:TS:=λD a H=>D.bk a H
theorem Eu:PS X (.Break pos) M4:=λ_ _ a H _ I h=>wpAny_Break ⟨a,H,I,h⟩
theorem Inv.quiet{a:List (Addr×Obj)}{b:St}{H:Hp}{s:Shared}(I:Inv X a b H s):interactive X.env=false:=by simp[interactive,I.ok.kind]
noncomputable def pN(te:TE):TS:=λD a H=>te a H λ_ b=>D.nx a b
theorem jH(f:PE X e te)(d:swapsWith e none pos.line X.env=pure false:=by rfl):PS X (.Expr e pos) (pN te):=by intro a s b H D I h;exact wpAny_Expr_any (bJ (f a s b H _ I h) λv j ⟨x,i,g,k,c⟩=>⟨b,i,g,c⟩) I.quiet d
noncomputable def Vy(te:TE):TS:=λD a H=>te a H D.rt
theorem kD(f:PE X e te):PS X (.Return (some e) pos) (Vy te):=by intro a s b H D I h;exact wpAny_Return_some (bJ (f a s b H _ I h) λv j ⟨x,i,g,c,d⟩=>⟨x,b,i,g,c,d⟩)
noncomputable def RV:TS:=λD _ H=>D.rt .aS H
theorem AG:PS X (.Return none pos) RV:=λ_ _ a H _ I h=>wpAny_Return_none ⟨.aS,a,H,I,rfl,h⟩
noncomputable def Vz(c:TT)(t u:TS):TS:=λD a H=>c a H λb d=>if b=true then t D a d else u D a d
theorem Ew{c:Expr}{a b:List Stmt}{tc:TT}(m:PT X c tc)(o:se X a t)(n:se X b u):PS X (.If c a b pos) (Vz tc t u):=by
 intro f s g H D I h;refine wpAny_If (bJ (m f s g H _ I h) λd i ⟨l,k,j⟩=>?_);cases d with
 |true=>exact o f i g l D k j
 |false=>exact n f i g l D k j
end
abbrev TG:=V->St->Hp->(St->Hp->Prop)->Prop
abbrev LR:=List V->St->Hp->(St->Hp->Prop)->Prop
noncomputable def PG(X:Cx)(a:Expr)(t:TG):Prop:=
 ∀(b:List (Addr×Obj))(s:Shared)(d:St)(H:Hp)(v:V)(u:Value)(Q:St->Hp->Prop),Inv X b d H s->RelV v u->t v d H Q->
  wpAny (model X.prog X.w) X.A (assign a X.env u) (λ_ f=>∃c e,Inv X b c e f/\Q c e) X.xe s
noncomputable def RW(X:Cx)(g:List Expr)(t:LR):Prop:=
 ∀(a:List (Addr×Obj))(s:Shared)(c:St)(H:Hp)(d:List V)(e:List Value)(Q:St->Hp->Prop),Inv X a c H s->Vals d e->t d c H Q->
  wpAny (model X.prog X.w) X.A (assignInOrder ((assignEach g X.env).map (·.2)) e) (λ_ h=>∃b f,Inv X a b f h/\Q b f) X.xe s
abbrev M5:=V->V->V->Hp->(Hp->Prop)->Prop
noncomputable def RX(X:Cx)(t:M5):Prop:=
 ∀(a:List (Addr×Obj))(s:Shared)(b:St)(H:Hp)(o i v:V)(c d u:Value)(Q:Hp->Prop),Inv X a b H s->RelV o c->RelV i d->RelV v u->t o i v H Q->
  wpAny (model X.prog X.w) X.A (setItem c d u) (λ_ f=>∃e,Inv X a b e f/\Q e) X.xe s
section
variable{X:Cx}{pos:Pos}
noncomputable def gW(i:Nat):TG:=λv a H Q=>Q (a.set i (some v)) H
theorem AH{i:Nat}{x:Str}(e:X.N.Nodup)(c:X.N[i]?=some x)(b:Loc X.env.scope x)(d:X.fn x=true\/X.env.scope.names.lookup x=some .local:=by first|exact .inl rfl|exact .inr rfl|assumption):PG X (.Name x pos) (gW i):=by intro a s g H v u Q I r h;exact wpAny_assign_Name (ee I e c b r (λj f=>⟨_,H,f,h⟩) d)
noncomputable def RY:LR:=λb a H Q=>b=[]/\Q a H
noncomputable def LS(t:TG)(u:LR):LR:=λc b H Q=>∃v r,c=v::r/\t v b H λa d=>u r a d Q
theorem Ib:RW X [] RY:=by intro a s b H c d Q I r h;obtain⟨e,h⟩:=h;subst e;cases r;exact assignInOrder_nil ⟨b,H,I,h⟩
theorem Ex{e:Expr}{b:List Expr}{t:TG}{u:LR}(l:PG X e t)(k:RW X b u)
 (j:(assignEach (e::b) X.env).map (·.2)=assign e X.env::(assignEach b X.env).map (·.2):=by rfl):RW X (e::b) (LS t u):=by
 intro a s d H p w Q I r h;obtain⟨v,q,m,h⟩:=h;subst m;cases r with
 |cons r g=>rw[j];refine du (bJ (l a s d H _ _ _ I r h) λ_ f ⟨c,o,n,i⟩=>?_);exact k a f c o _ _ Q n g i
noncomputable def M6(K:Frag)(n:Nat)(t:LR):TG:=λv c H Q=>∃a b,v=.ref a/\kY K H a b/\b.length=n/\t b c H Q
theorem M7{d:List Expr}{k:Nat}{t:LR}{n:Nat}(y:X.calm=true)(h:RW X d t)
 (w:(assignEach d X.env).length=n:=by rfl)(g:(assignEach d X.env).findIdx? (·.1)=none:=by rfl):PG X (.Tuple d k pos) (M6 X.K n t):=by
 intro c s i H v u Q I r f;obtain⟨a,j,A,q,x,f⟩:=f;subst A;cases r;obtain⟨l,rv,p,hz⟩:=I.tuple q;refine assign_Tuple_tuple (I.ok.hd y) p (by simp[w,←x,rv.length]) g λz m=>?_;have B:Inv X c i H {s with heap:=z}:=I.kept (t':=s.toks) λb o e=>m b o (KB (FS e)) e;exact h c _ i H j _ Q B (by simpa using rv) f
noncomputable def RZ(b ti:TE)(t:M5):TG:=λv a H Q=>b a H λo e=>ti a e λi d=>t o i v d λc=>Q a c
theorem M8{o i:Expr}{e ti:TE}{t:M5}(q:PE X o e)(w:PE X i ti)(p:RX X t)
 (z:∀v,assign (.Subscript o i pos) X.env v=(do
   let b←holding [v] (eval o X.env)
   let c←holding [v,b] (eval i X.env)
   standAt pos
   holding [v,b,c] (setItem b c v)
   release [v,b,c] []):=by intro _;rfl):PG X (.Subscript o i pos) (RZ e ti t):=by
 intro a s d H v u Q I r h;rw[z];refine FV (wpAny_holding (bJ (q a s d H _ I h) λb g ⟨x,F,C,k,n⟩=>?_));refine FV (wpAny_holding (bJ (w a g d F _ C n) λc f ⟨y,E,B,j,m⟩=>?_));refine FV (ma (FV (wpAny_holding (bJ (p a f d E x y v b c u _ B k j r m) λ_ G ⟨D,A,l⟩=>?_))));exact wpAny_release ⟨d,D,A,l⟩
noncomputable def sr(te:TE)(g:TG):TS:=λD a H=>te a H λx b=>g x a b D.nx
theorem Ey{tg e:Expr}{te:TE}{g:TG}(l:PE X e te)(k:PG X tg g)(j:swapsWithSole [tg] e pos.line X.env=pure false:=by rfl)(i:swappedStores [tg] e X.env=pure none:=by rfl)
 (m:(assignEach [tg] X.env).map (·.2)=[assign tg X.env]:=by rfl):PS X (.Assign [tg] e pos) (sr te g):=by
 intro a s b H D I h;refine wpAny_Assign_stores (bJ (l a s b H _ I h) λv c ⟨x,o,n,d,f⟩=>?_) j i;rw[m];exact bJ (k a c b o x v _ n d f) λ_ p q=>q
theorem jf{i:Nat}{x:Str}{e:Expr}{te:TE}{a:Pos}(n:X.N.Nodup)(k:X.N[i]?=some x)(g:Loc X.env.scope x)(m:PE X e te)(j:swapsWith e (some (.Name x a)) pos.line X.env=pure false:=by rfl)(l:X.fn x=true\/X.env.scope.names.lookup x=some .local:=by first|exact .inl rfl|exact .inr rfl|assumption):
 PS X (.Assign [.Name x a] e pos) (sr te (gW i)):=by
 intro b s c H D I h;refine wpAny_Assign_Name (bJ (m b s c H _ I h) λv t ⟨y,q,p,d,f⟩=>?_) j;exact ee p n k g d (λr o=>⟨_,q,o,f⟩) l
noncomputable def VC(i j:Nat)(ta:TA):TS:=λD a H=>ta a H λb c=>∃v w,b=[v,w]/\D.nx ((a.set i (some v)).set j (some w)) c
theorem M9{i j:Nat}{x y:Str}{a b:Expr}{ta:TA}{n m r:Pos}{t k2 B}(U:X.calm=true)(G:X.N.Nodup)(T:X.N[i]?=some x)(S:X.N[j]?=some y)(z:i≠j)
 (F:X.env.scope.names.lookup x=some .local)(E:X.env.scope.names.lookup y=some .local)(Y:PA X [a,b] ta)
 (Q:swappedStores [.Tuple [.Name x n,.Name y m] t r] (.Tuple [a,b] k2 B) X.env=pure (some [x,y]))
 (R:swapsWithSole [.Tuple [.Name x n,.Name y m] t r] (.Tuple [a,b] k2 B) pos.line X.env=pure false:=by rfl):
 PS X (.Assign [.Tuple [.Name x n,.Name y m] t r] (.Tuple [a,b] k2 B) pos) (VC i j ta):=by
 intro c s C H D I h;rw[exec_Assign_arm];refine FV (ma ?_);rw[R];refine FV (Kj ?_);rw[BM (by decide)];refine FV (Tuple_ (bJ (Y _ c s C H _ I h) λL g ⟨vs,K,I1,M,l⟩=>?_));obtain⟨v,w,Z,l⟩:=l;subst Z;obtain⟨f,d,rfl,rv,k⟩:∃f d,L=[f,d]/\RelV v f/\RelV w d:=by
  cases M with
  |cons p q=>
   cases q with
   |cons P O=>
    cases O;exact⟨_,_,rfl,p,P⟩
 refine wpAny_newObj_type ?_ (by show 2<=sizeLine;decide);have I2:Inv X c C K {g with heap:=g.heap.push {cls:=.type "tuple",data:=.seq [f,d].toArray}}:=I1.kept (t':=g.toks) λb o e=>Da _ e;rw[Q];refine FV (Kj ?_);show wpAny (model X.prog X.w) X.A (do rule "assign.swapped-stores";let items←unpackItems (.ref g.heap.objs.size) 2 none;assignInOrder [λv=>bindName X.env y v,λv=>bindName X.env x v] items.reverse;pure Flow.next) _ _ _;refine FV (wpAny_rule (FV (unpackItems_tuple (items:= #[f,d]) (I.ok.hd U) (IsTup.new g.heap _) λh' u=>?_)));have I3:=I2.kept (h':=h') (t':=g.toks) λb o e=>u b o (KB (FS e)) e;show wpAny _ _ (assignInOrder [λv=>bindName X.env y v,λv=>bindName X.env x v] [d,f]>>=λ_=>pure Flow.next) _ _ _;refine FV (du (km (ee I3 G S (.inl E) k (λs2 I4=>?_) (.inr E))));refine du (km (ee I4 G T (.inl F) rv (λs3 J=>assignInOrder_nil (Kj ?_)) (.inr F)));rw[List.set_comm _ _ (Pt z)]at J;exact⟨_,K,J,l⟩
noncomputable def Na(c:TT)(h:TS):TS:=λD a H=>∃W:Nat->St->Hp->Prop,(∃m,W m a H)/\∀m a H,W m a H->
 c a H λb f=>if b=true then∃N:St->Hp->Prop,(∀d g,N d g->∃e,e<m/\W e d g)/\h {D with nx:=N,ct:=N,bk:=D.nx} a f else D.nx a f
theorem wG{c:Expr}{g:List Stmt}{tc:TT}{u:TS}(x:PassesOwn (model X.prog X.w) X.A X.env X.xe)(P:PT X c tc)(Q:se X g u):PS X (.While c g [] pos) (Na tc u):=by
 intro d s F H D I h;obtain⟨W,⟨O,J⟩,j⟩:=h;refine wpAny_While (codeAny_whileLoop (λn M=>∃i E,Inv X d i E M/\W n i E) ?_ O ⟨F,H,I,J⟩);rintro n L ⟨e,C,R,G⟩;refine dC x (bJ (P d L e C _ R (j n e C G)) λb K ⟨B,z,m⟩=>?_);cases b with
 |true=>
  obtain⟨N,y,m⟩:=m;rw[Bz rfl];refine dC x (bJ (Q d K e B _ z m) λf S l=>?_);cases f with
  |next=>obtain⟨a,k,t,p⟩:=l;obtain⟨q,r,o⟩:=y a k p;exact⟨q,r,a,k,t,o⟩
  |cont=>obtain⟨a,k,t,p⟩:=l;obtain⟨q,r,o⟩:=y a k p;exact⟨q,r,a,k,t,o⟩
  |brk=>exact l
  |ret v=>exact l
 |false=>rw[BM Hk];exact fo ⟨e,B,z,m⟩
end
set_option genInjectivity false in
set_option genSizeOf false in
structure It where
 go:Nat->Hp->Prop
 Rf:Nat->Hp->V->Hp->Prop
 stop:Nat->Hp->Prop
noncomputable def pO(X:Cx)(a:List (Addr×Obj))(H:Hp)(b:Addr):Prop:=
 H b=none/\b≠X.env.locals/\b∉X.fs/\(b∈X.ex\/X.s₀.heap.objs.size<=b)/\(∀x c,X.env.cells.lookup x=some c->c≠b)/\∀p∈X.pn++a,p.1≠b
theorem Inv.wH{X:Cx}{a:List (Addr×Obj)}{f:St}{H H':Hp}{s:Shared}{b:Addr}(I:Inv X a f H s)(d:s.heap.objs.size<=b)(h:H' b=none):pO X a H' b:=by
 refine⟨h,i3 (FC I.lt d),I.Vq d,.inr (DD I.sz d),λx c e z=>?_,λp g z=>?_⟩
 ·obtain⟨v,q⟩:=I.cell x c e;exact absurd (FC q.lt (by rw[z];exact d)) (NM _)
 ·exact absurd (FC (FS (I.pin p g).1) (by rw[z];exact d)) (NM _)
structure Turn(P:Program)(w:World)(K:Frag)(tg:Expr)(J:It)(fp:List Addr)(it:Addr)(tn:Nat->Heap->Prop):Prop where
 mem:it∈fp
 obj:∀i h,tn i h->∀b∈fp,∃o,h.get? b=some o/\∀v,o.data≠.cell v
 keep:∀i h h',tn i h->(∀b∈fp,∀o,h.get? b=some o->h'.get? b=some o)->tn i h'
 item:∀(X:Cx),X.prog=P->X.w=w->X.K=K->X.calm=true->∀(i:Nat)(pins:List (Addr×Obj))(s:Shared)(σ:St)(H:Hp)(E:Value->Shared->Prop),Inv X pins σ H s->(∀b∈fp,pO X pins H b)->tn i s.heap->J.go i H->
  wpAny (model P w) X.A (pyNext (.ref it)) (λr s1=>∃u,r=some u/\
   wpAny (model P w) X.A (letOwnedTupleGo tg (.ref it) u) (λ_ s2=>∃x H',Inv X pins σ H' s2/\RelV x u/\J.Rf i H x H'/\tn (i+1) s2.heap/\∀b∈fp,H' b=none) E s1) E s
 done:∀(X:Cx),X.prog=P->X.w=w->X.K=K->X.calm=true->∀(i:Nat)(pins:List (Addr×Obj))(s:Shared)(σ:St)(H:Hp)(E:Value->Shared->Prop),Inv X pins σ H s->(∀b∈fp,pO X pins H b)->tn i s.heap->J.stop i H->
  wpAny (model P w) X.A (pyNext (.ref it)) (λr s1=>r=none/\Inv X pins σ H s1) E s
 self:∀(A:Around)(i:Nat)(s:Shared)(Q:Value->Shared->Prop)(E:Value->Shared->Prop),tn i s.heap->Q (.ref it) s->wpAny (model P w) A (pyIter (.ref it)) Q E s
abbrev TI:=St->Hp->(It->Hp->Prop)->Prop
noncomputable def VD(X:Cx)(a:List (Addr×Obj))(i:St)(tg:Expr)(R:It->Hp->Prop)(c:Value)(f:Shared):Prop:=
 ∃(g:Addr)(h:List Addr)(e:Nat->Heap->Prop)(J:It)(d:Hp),c=.ref g/\Inv X a i d f/\Turn X.prog X.w X.K tg J h g e/\e 0 f.heap/\(∀b∈h,pO X a d b)/\R J d
noncomputable def PI(X:Cx)(tg b:Expr)(d:TI):Prop:=
 ∀(a:List (Addr×Obj))(s:Shared)(c:St)(H:Hp)(R:It->Hp->Prop),Inv X a c H s->d c H R->
  wpAny (model X.prog X.w) X.A (eval b X.env) (λv e=>wpAny (model X.prog X.w) X.A (pyIter v) (VD X a c tg R) X.xe e) X.xe s
theorem wJ{M:Model}{A:Around}{E:Value->Shared->Prop}{s:Shared}{tg:Expr}{b:Addr}{u:Value}{o:Obj}{n:String}{vs:Array Value}{Q:Unit->Shared->Prop}(c:s.heap.get? b=some o)(f:o.cls=.type n)(e:o.data=.fields vs)
 (d:["enumerate","zip","dict_itemiterator","dict_reverseitemiterator","odict_iterator","itertools.zip_longest","itertools.pairwise"].contains n=false)(a:Q () s):wpAny M A (letOwnedTupleGo tg (.ref b) u) Q E s:=by
 unfold letOwnedTupleGo;cases tg<;>first
  |exact Kj a
  |(cases u<;>first
     |exact Kj a
     |(refine FV (wpAny_load c ?_)
       rw[f,e];show wpAny M A (if(["enumerate","zip","dict_itemiterator","dict_reverseitemiterator","odict_iterator","itertools.zip_longest","itertools.pairwise"].contains n&&vs[0]?==some (rawInt _))=true then _ else _) Q E s;rw[BM (by intro h;rw[d,Bool.false_and]at h;cases h)];exact Kj a))
noncomputable def VF(K:Frag)(a:Addr):It:=
 ⟨λi H=>∃b x,gU K H a b/\b[i]?=some x,λi H x c=>c=H/\∀b,gU K H a b->b[i]?=some x,λi H=>∃b,gU K H a b/\b.length<=i⟩
noncomputable def VG(K:Frag)(a:Addr):It:=
 ⟨λi H=>∃b x,kY K H a b/\b[i]?=some x,λi H x c=>c=H/\∀b,kY K H a b->b[i]?=some x,λi H=>∃b,kY K H a b/\b.length<=i⟩
noncomputable def LU(a:Int)(n:Nat):It:=⟨λi _=>i<n,λi H x b=>b=H/\x=.int (a+i),λi _=>n<=i⟩
theorem Cr{P:Program}{w:World}{K:Frag}{tg:Expr}(a j:Addr):Turn P w K tg (VF K a) [j] j (λi h=>h.IsListIter j a i)where
 mem:=by simp
 obj:=λi h f b l=>by
  have e:b=j:=by simpa using l
  subst e;obtain⟨o,e,c,d⟩:=f;exact⟨o,e,λv z=>by rw[d]at z;cases z⟩
 keep:=λi h r f k=>f.at λo e=>k j (by simp) o e
 item:=by intro X C A D O i g s N H E I q f B;subst C A D;obtain⟨Q,x,n,y⟩:=B;obtain⟨t,rv,p,hz⟩:=I.list n;obtain⟨u,U,S⟩:=rv.get y;obtain⟨M,L,Y,J,G,F⟩:=q j (by simp);refine wpAny_pyNext_list_item f p.isList (x:=u) (by simpa using U) λr m R=>?_;have I1:Inv X g N H {s with heap:=r}:=I.turned (t':=s.toks) (λb o l e=>(R.2 b l).trans e) M L J G F;obtain⟨o,e,c,d⟩:=id m;exact⟨u,rfl,wJ (s:={s with heap:=r}) e c d (by decide) ⟨x,H,I1,S,⟨rfl,λys T=>by rw[I.pM T n];exact y⟩,m,λb l=>(q b l).1⟩⟩
 done:=by intro X C A D O i g s N H E I q f B;subst C A D;obtain⟨Q,n,y⟩:=B;obtain⟨t,rv,p,hz⟩:=I.list n;obtain⟨M,L,Y,J,G,F⟩:=q j (by simp);have hl:=rv.length;exact wpAny_pyNext_list_end (I.ok.hd O) f p.isList (by simp;omega) λr Z=>⟨rfl,I.turned (t':=s.toks) (λb o l e=>Z b o l e) M L J G F⟩
 self:=λ_ _ _ _ _ f h=>wpAny_pyIter_listiter f h
theorem zd{P:Program}{w:World}{K:Frag}{tg:Expr}(a l:Addr):Turn P w K tg (VG K a) [l] l (λi h=>h.IsTupleIter l a i)where
 mem:=by simp
 obj:=λi h f b m=>by
  have e:b=l:=by simpa using m
  subst e;obtain⟨o,e,c,d⟩:=f;exact⟨o,e,λv z=>by rw[d]at z;cases z⟩
 keep:=λi h t f k=>f.at λo e=>k l (by simp) o e
 item:=by intro X C A D O i g s N H E I r f B;subst C A D;obtain⟨Q,x,q,y⟩:=B;obtain⟨j,rv,p,hz⟩:=I.tuple q;obtain⟨u,U,S⟩:=rv.get y;obtain⟨M,L,Y,J,G,F⟩:=r l (by simp);refine wpAny_pyNext_tuple_item f (show s.heap.IsTuple a j.toArray from p) (x:=u) (by simpa using U) λt n R=>?_;have I1:Inv X g N H {s with heap:=t}:=I.turned (t':=s.toks) (λb o m e=>(R.2 b m).trans e) M L J G F;obtain⟨o,e,c,d⟩:=id n;exact⟨u,rfl,wJ (s:={s with heap:=t}) e c d (by decide) ⟨x,H,I1,S,⟨rfl,λys T=>by rw[I.Cq T q];exact y⟩,n,λb m=>(r b m).1⟩⟩
 done:=by intro X C A D O i g s N H E I r f B;subst C A D;obtain⟨Q,q,y⟩:=B;obtain⟨j,rv,p,hz⟩:=I.tuple q;obtain⟨M,L,Y,J,G,F⟩:=r l (by simp);have hl:=rv.length;exact wpAny_pyNext_tuple_end (I.ok.hd O) f (show s.heap.IsTuple a j.toArray from p) (by simp;omega) λt Z=>⟨rfl,I.turned (t':=s.toks) (λb o m e=>Z b o m e) M L J G F⟩
 self:=λ_ _ _ _ _ f h=>wpAny_pyIter_tupleiter f h
theorem ze{P:Program}{w:World}{K:Frag}{tg:Expr}(d:Addr)(j:Int)(n:Nat):Turn P w K tg (LU j n) [d] d (λi h=>IsRangeIter h d (j+(i:Nat)*1) ((n:Int) -(i:Nat)) 1)where
 mem:=by simp
 obj:=λi h a b f=>by
  have e:b=d:=by simpa using f
  subst e;exact⟨_,a,λv z=>by have J:Data.fields _=Data.cell v:=z;cases J⟩
 keep:=λi h m a k=>k d (by simp) _ a
 item:=by intro X u p x r i c s F H E I l a q;subst u p x;obtain⟨D,C,N,B,A,y⟩:=l d (by simp);have W:=Walks.range (prog:=X.prog) (w:=X.w) (I.ok.hd r) d j 1 n;refine W.item i s _ _ q a λv m G M g L=>?_;obtain⟨t,rfl⟩:=M;have Q:Inv X c F H {s with heap:=m,toks:=G}:=I.turned (λb o f e=>L b o (by simpa using f) e) D C B A y;refine⟨_,rfl,wJ (s:={s with heap:=m,toks:=G}) (n:="range_iterator") g rfl rfl (by decide) ⟨.int (j+i),H,Q,⟨t,?_⟩,⟨rfl,rfl⟩,g,λb f=>(l b f).1⟩⟩;rw[fI]
 done:=by intro X u p x r i c s F H E I l a q;subst u p x;obtain⟨D,C,N,B,A,y⟩:=l d (by simp);exact wpAny_pyNext_range_end (I.ok.hd r) a (by have:n<=i:=q;omega) λm O=>⟨rfl,I.turned (t':=s.toks) (λb o f e=>O b o f e) D C B A y⟩
 self:=λ_ _ _ _ _ a h=>wpAny_pyIter_rangeiter a h
section
variable{X:Cx}{tg:Expr}
theorem wK{d:List (Addr×Obj)}{f:St}{H:Hp}{s:Shared}{R:It->Hp->Prop}{E:Value->Shared->Prop}{a c:Int}{t u v:Tok}{g:Nat}(I:Inv X d f H s)(m: -(2^62)<=a)(l:a<2^62)(k: -(2^62)<=c)(j:c<2^62)
 (q:R (LU a (c -a).toNat) H):wpAny (model X.prog X.w) X.A (pyIter (.ref s.heap.objs.size)) (VD X d f tg R) E {s with heap:=s.heap.push {cls:=.type "range",data:=.fields #[.int a t,.int c u,.int 1 v]},toks:=g}:=by
 refine wpAny_pyIter_range (IsRange.new ..) (small_one m l k j) ?_;have h:Inv X d f H {s with heap:=s.heap.push {cls:=.type "range",data:=.fields #[.int a t,.int c u,.int 1 v]},toks:=g}:=I.kept λb o e=>Da _ e;refine⟨(s.heap.push {cls:=.type "range",data:=.fields #[.int a t,.int c u,.int 1 v]}).objs.size,[(s.heap.push {cls:=.type "range",data:=.fields #[.int a t,.int c u,.int 1 v]}).objs.size],_,_,H,rfl,
  h.kept (t':=g) λb o e=>Da _ e,ze _ a (c -a).toNat,?_,λb i=>?_,q⟩
 ·have p:a+((0:Nat):Int)*1=a:=by simp
  have n:(((c -a).toNat:Nat):Int) -((0:Nat):Int)=Builtin.Range.rangeSize a c 1:=by rw[rangeSize_one];split<;>omega
  show IsRangeIter _ _ (a+((0:Nat):Int)*1) ((((c -a).toNat:Nat):Int) -((0:Nat):Int)) 1;rw[p,n];exact Hb _ rfl
 ·have e:b=(s.heap.push {cls:=.type "range",data:=.fields #[.int a t,.int c u,.int 1 v]}).objs.size:=by simpa using i
  subst e;exact h.wH (Do _) (h.hok.fresh (Do _))
noncomputable def R3(ta:TA):TI:=λa H R=>ta a H λb c=>∃j:Int,b=[.int j]/\-(2^62)<=j/\j<2^62/\R (LU 0 j.toNat) c
noncomputable def R4(ta:TA):TI:=λa H R=>ta a H λb c=>∃i j:Int,b=[.int i,.int j]/\(-(2^62)<=i/\i<2^62/\-(2^62)<=j/\j<2^62)/\R (LU i (j -i).toNat) c
theorem tD{a:Expr}{ta:TA}{p pos:Pos}(m:Gl X "range")(l:X.mg "range"=none)(n:PA X [a] ta)(k:starEach [a] X.env=[(false,eval a X.env)]:=by rfl):PI X tg (.Call (.Name "range" p) [a] [] pos) (R3 ta):=by
 intro b s d H R I h;refine Call_ (gr I m l boot_range (Nw (bJ (n pos b s d H _ I h) λv w ⟨u,x,o,g,c⟩=>?_) k rfl));obtain⟨j,e,c,i,q⟩:=c;subst e;cases g with
 |cons r f=>
  cases f;obtain⟨t,rfl⟩:=r;exact call_range_1 (wK o (by omega) (by omega) c i (by simpa using q))
theorem Cs{a b:Expr}{ta:TA}{p pos:Pos}(x:Gl X "range")(w:X.mg "range"=none)(y:PA X [a,b] ta)(v:starEach [a,b] X.env=[(false,eval a X.env),(false,eval b X.env)]:=by rfl)(d:starEach [b] X.env=[(false,eval b X.env)]:=by rfl):
 PI X tg (.Call (.Name "range" p) [a,b] [] pos) (R4 ta):=by
 intro c s k H R I h;refine Call_ (gr I x w boot_range (Nw (bJ (y pos c s k H _ I h) λB D ⟨A,E,z,l,g⟩=>?_) (by rw[v,d]) (by rw[d];rfl)));obtain⟨i,j,e,⟨g,u,o,n⟩,q⟩:=g;subst e;cases l with
 |cons r f=>
  cases f with
  |cons m f=>
   cases f;obtain⟨t,rfl⟩:=r;obtain⟨C,rfl⟩:=m;exact call_range_2 (wK z g u o n q)
noncomputable def VH(f:TI)(g:TG)(h:TS):TS:=λD a H=>f a H λJ k=>∃W:Nat->Nat->St->Hp->Prop,(∃m,W 0 m a k)/\∀i m a H,W i m a H->
 (J.stop i H/\D.nx a H)\/(J.go i H/\∃N:St->Hp->Prop,(∀b c,N b c->∃e,e<m/\W (i+1) e b c)/\∀x c,J.Rf i H x c->g x a c λd j=>h {D with nx:=N,ct:=N,bk:=D.nx} d j)
noncomputable def pP(a:List Addr)(h:Heap):List (Addr×Obj):=a.filterMap λb=>(h.get? b).map λo=>(b,o)
theorem iL{a:List Addr}{h:Heap}{b:Addr}{o:Obj}(c:b∈a)(e:h.get? b=some o):(b,o)∈pP a h:=List.mem_filterMap.mpr ⟨b,c,by rw[e];rfl⟩
theorem Ct{a:List Addr}{h:Heap}{p:Addr×Obj}(c:p∈pP a h):p.1∈a/\h.get? p.1=some p.2:=by
 obtain⟨b,d,e⟩:=List.mem_filterMap.mp c;cases q:h.get? b with
 |none=>rw[q]at e;cases e
 |some o=>rw[q]at e;have f:(b,o)=p:=He e;subst f;exact⟨d,q⟩
theorem Inv.pinned{a:List (Addr×Obj)}{f:St}{H:Hp}{s:Shared}{c:List Addr}(I:Inv X a f H s)(k:∀b∈c,pO X a H b)(j:∀b∈c,∃o,s.heap.get? b=some o/\∀v,o.data≠.cell v):Inv X (a++pP c s.heap) f H s:=
 I.AB λp i=>(Fs.mp i).elim (λz=>I.pin p (Gc _ z)) λz=>by obtain⟨g,e⟩:=Ct z;obtain⟨n,m,l,_⟩:=k p.1 g;obtain⟨o,h,d⟩:=j p.1 g;rw[e]at h;cases h;exact⟨e,n,m,l,d⟩
theorem Inv.lz{a pl:List (Addr×Obj)}{b:St}{H:Hp}{s:Shared}(I:Inv X (a++pl) b H s):Inv X a b H s:=I.AB λp c=>I.pin p (Gc _ (RF _ c))
theorem Nb{k:Expr}{C:List Stmt}{wi:TI}{g:TG}{tb:TS}{pos:Pos}(M:PassesOwn (model X.prog X.w) X.A X.env X.xe)(hc:X.calm=true)(hi:PI X tg k wi)(hg:PG X tg g)(l:se X C tb)
 (hs:∀x,foldedSetIterable k X.env x=pure x:=by intro _;rfl):PS X (.For tg k C [] pos) (VH wi g tb):=by
 intro a s Z H D I h;refine wpAny_For (bJ (hi a s Z H _ I h) λv s1 h1=>bJ h1 λitv s2 h2=>?_) hs;obtain⟨it,O,tn,J,H2,e,I2,T,Q,f2,W,⟨m0,w0⟩,E⟩:=h2;subst e;have Y:∀{z:Hp},(∀b∈O,z b=none)->∀b∈O,pO X a z b:=λhn b l=>⟨hn b l,(f2 b l).2⟩;refine codeAny_forLoop_any (λn s'=>∃i j z,Inv X a j z s'/\tn i s'.heap/\(∀b∈O,z b=none)/\W i n j z) ?_ m0 ⟨0,Z,H2,I2,Q,λb l=>(f2 b l).1,w0⟩;rintro n s3 ⟨i,c,P,I3,K,XD,w3⟩;rcases E i n c P w3 with⟨F,qn⟩|⟨go,N,hN,G⟩
 ·refine dC M (bJ (T.done X rfl rfl rfl hc i a s3 c P X.xe I3 (Y XD) K F) λr s4 ⟨S,I4⟩=>?_);subst S;exact fo ⟨c,P,I4,qn⟩
 ·refine dC M (bJ (T.item X rfl rfl rfl hc i a s3 c P X.xe I3 (Y XD) K go) λr s4 ⟨u,S,h4⟩=>?_);subst S;refine dC M (bJ h4 λ_ s5 ⟨x,H5,I5,r5,y5,U,U4⟩=>?_);have YK:=I5.pinned (Y U4) (T.obj _ _ U);refine dC M (bJ (hg _ s5 c H5 x u _ YK r5 (G x H5 y5)) λ_ s6 ⟨YL,H6,I6,q6⟩=>?_);refine dC M (bJ (l _ s6 YL H6 _ I6 q6) λf R B=>?_);have p:∀{y:St}{t:Hp},Inv X (a++pP O s5.heap) y t R->N y t->∃m,m<n/\∃i j z,Inv X a j z R/\tn i R.heap/\(∀b∈O,z b=none)/\W i m j z:=λ{y t} q L=>by obtain⟨m',hm,w7⟩:=hN y t L;refine⟨m',hm,i+1,y,t,q.lz,T.keep _ _ _ U λb l o e=>(q.pin (b,o) (Gc _ (Gc _ (iL l e)))).1,λb l=>?_,w7⟩;obtain⟨o,e,d⟩:=T.obj _ _ U b l;exact(q.pin (b,o) (Gc _ (Gc _ (iL l e)))).2.1
  cases f with
  |next=>obtain⟨y,t,q,L⟩:=B;exact p q L
  |cont=>obtain⟨y,t,q,L⟩:=B;exact p q L
  |brk=>obtain⟨y,t,q,B⟩:=B;exact⟨y,t,q.lz,B⟩
  |ret v=>obtain⟨x7,y,t,q,r7,B⟩:=B;exact⟨x7,y,t,q.lz,r7,B⟩
end
abbrev R2:=V->V->Hp->VK->Prop
noncomputable def kF(X:Cx)(f:Value->Value->Sem Value)(r:R2):Prop:=
 ∀(a:List (Addr×Obj))(s:Shared)(b:St)(H:Hp)(x y:V)(v u:Value)(Q:VK),Inv X a b H s->RelV x v->RelV y u->r x y H Q->
  wpAny (model X.prog X.w) X.A (f v u) (EP X a b Q) X.xe s
noncomputable def VI(X:Cx)(f:Value->Sem Value)(r:V->Hp->VK->Prop):Prop:=
 ∀(a:List (Addr×Obj))(s:Shared)(b:St)(H:Hp)(x:V)(v:Value)(Q:VK),Inv X a b H s->RelV x v->r x H Q->
  wpAny (model X.prog X.w) X.A (f v) (EP X a b Q) X.xe s
noncomputable def cF(X:Cx)(f:Value)(r:List V->Hp->VK->Prop):Prop:=
 ∀(a:List (Addr×Obj))(s:Shared)(b:St)(H:Hp)(c:List V)(d:List Value)(Q:VK),Inv X a b H s->Vals c d->r c H Q->
  wpAny (model X.prog X.w) X.A (call f d) (EP X a b Q) X.xe s
noncomputable def VJ(r:R2)(ta b:TE):TE:=λa H Q=>ta a H λx d=>b a d λy c=>r x y c Q
noncomputable def YM(r:V->Hp->VK->Prop)(ta:TE):TE:=λa H Q=>ta a H λx b=>r x b Q
noncomputable def rI(C:Int->Int->Prop)(g:Int->Int->V):R2:=λx y H Q=>∃i j,x=.int i/\y=.int j/\C i j/\Q (g i j) H
noncomputable def Ic(g:Int->Int->V):R2:=λx y H Q=>∃i j,x=.int i/\y=.int j/\Q (g i j) H
noncomputable def rU(g:Int->V):V->Hp->VK->Prop:=λx H Q=>∃i,x=.int i/\Q (g i) H
section
variable{X:Cx}{a b c:Expr}{ta tb tc:TE}{pos:Pos}
theorem Nd(t:PE X a ta)(r:PE X b tb){d:List (Addr×Obj)}{s:Shared}{e:St}{H:Hp}{R:V->V->Hp->Prop}(I:Inv X d e H s)
 (h:ta e H λx H1=>tb e H1 λy g=>R x y g){Q:Value->Shared->Prop}{f:Value->Value->Sem Value}
 (q:∀v u k x y g,Inv X d e g k->RelV x v->RelV y u->R x y g->wpAny (model X.prog X.w) X.A (f v u) Q X.xe k):
 wpAny (model X.prog X.w) X.A (eval a X.env) (λv j=>wpAny (model X.prog X.w) X.A (eval b X.env) (λu i=>wpAny (model X.prog X.w) X.A (f v u) Q X.xe i) X.xe j) X.xe s:=by
 refine bJ (t d s e H _ I h) λv l ⟨x,H1,B,n,p⟩=>?_;refine bJ (r d l e H1 _ B p) λu k ⟨y,g,z,m,o⟩=>?_;exact q v u k x y g z n m o
theorem R5{op:Operator}{r:R2}(j:kF X (binaryOp op) r)(l:PE X a ta)(k:PE X b tb):PE X (.BinOp a op b pos) (VJ r ta tb):=by intro d s e H Q I h;exact wpAny_BinOp (Nd l k I h λv u f x y n m i g q=>j d f e n x y v u Q m i g q)
theorem R6{op:UnaryOp}{r:V->Hp->VK->Prop}(j:VI X (unaryOp op) r)(k:PE X a ta):PE X (.UnaryOp op a pos) (YM r ta):=by intro d s e H Q I h;exact UnaryOp_ (bJ (k d s e H _ I h) λv f ⟨x,m,l,g,i⟩=>j d f e m x v Q l g i)
theorem R7{f:Value->Value->Sem Value}{C:Int->Int->Prop}{g:Int->Int->Int}
 (d:∀(i j:Int)(t u:Tok)(s:Shared)(Q:Value->Shared->Prop)(E:Value->Shared->Prop),C i j->Q (.int (g i j) s.toks) {s with toks:=s.toks+1}->wpAny (model X.prog X.w) X.A (f (.int i t) (.int j u)) Q E s):
 kF X f (rI C λi j=>.int (g i j)):=by
 intro e s o H x y v u Q I m l h;obtain⟨i,j,rfl,rfl,n,q⟩:=h;obtain⟨t,rfl⟩:=m;obtain⟨k,rfl⟩:=l;exact d i j t k s _ _ n ⟨.int (g i j),H,I.tok _,⟨_,rfl⟩,q⟩
theorem R8{f:Value->Value->Sem Value}{g:Int->Int->Int}
 (d:∀(i j:Int)(t u:Tok)(s:Shared)(Q:Value->Shared->Prop)(E:Value->Shared->Prop),Q (.int (g i j) s.toks) {s with toks:=s.toks+1}->wpAny (model X.prog X.w) X.A (f (.int i t) (.int j u)) Q E s):
 kF X f (Ic λi j=>.int (g i j)):=by
 intro e s n H x y v u Q I m l h;obtain⟨i,j,rfl,rfl,q⟩:=h;obtain⟨t,rfl⟩:=m;obtain⟨k,rfl⟩:=l;exact d i j t k s _ _ ⟨.int (g i j),H,I.tok _,⟨_,rfl⟩,q⟩
theorem Ie{f:Value->Value->Sem Value}{g:Int->Int->Bool}
 (d:∀(i j:Int)(t u:Tok)(s:Shared)(Q:Value->Shared->Prop)(E:Value->Shared->Prop),Q (.bool (g i j)) s->wpAny (model X.prog X.w) X.A (f (.int i t) (.int j u)) Q E s):
 kF X f (Ic λi j=>.bl (g i j)):=by
 intro e s n H x y v u Q I m l h;obtain⟨i,j,rfl,rfl,q⟩:=h;obtain⟨t,rfl⟩:=m;obtain⟨k,rfl⟩:=l;exact d i j t k s _ _ ⟨.bl (g i j),H,I,rfl,q⟩
noncomputable def VM(i j:Int):Prop:=0<j/\j<1073741824
noncomputable def Cu(i j:Int):Prop:=0<=j/\j<=1000000/\i.natAbs<2^64
theorem zf(k:Nat):(0:Int)<=2^k:=by rw[two_pow_cast];exact Int.natCast_nonneg _
theorem Nf:kF X (binaryOp .Add) (Ic λi j=>.int (i+j)):=R8 λ_ _ _ _ _ _ _ q=>add_int q
theorem Ng:kF X (binaryOp .Sub) (Ic λi j=>.int (i -j)):=R8 λ_ _ _ _ _ _ _ q=>sub_int q
theorem Ig:kF X (binaryOp .Mod) (rI (λ_ j=>j≠0) λi j=>.int (i.fmod j)):=R7 λ_ _ _ _ _ _ _ d q=>mod_int' d q
theorem Nh:kF X (binaryOp .Pow) (rI Cu λi j=>.int (i^j.toNat)):=R7 λ_ _ _ _ _ _ _ d q=>pow_int_small d.1 d.2.1 d.2.2 q
theorem Ni:kF X (binaryOp .LShift) (rI Cu λi j=>.int (i*2^j.toNat)):=R7 λ_ _ _ _ _ _ _ d q=>lshift_int_small d.1 d.2.1 d.2.2 q
theorem Nj:kF X (binaryOp .RShift) (rI (λ_ j=>0<=j) λi j=>.int (i/2^j.toNat)):=R7 λi j _ _ _ _ _ d q=>rshift_int d (by rw[L9 i (zf _)];exact q)
theorem YN{f:Value->Sem Value}{g:Int->Int}
 (d:∀(i:Int)(t:Tok)(s:Shared)(Q:Value->Shared->Prop)(E:Value->Shared->Prop),Q (.int (g i) s.toks) {s with toks:=s.toks+1}->wpAny (model X.prog X.w) X.A (f (.int i t)) Q E s):
 VI X f (rU λi=>.int (g i)):=by
 intro e s k H x v Q I j h;obtain⟨i,rfl,q⟩:=h;obtain⟨t,rfl⟩:=j;exact d i t s _ _ ⟨.int (g i),H,I.tok _,⟨_,rfl⟩,q⟩
theorem Nk:VI X (unaryOp .USub) (rU λi=>.int (-i)):=YN λ_ _ _ _ _ q=>neg_int q
end
noncomputable def Nl:V->V->Bool
 |.aS,.aS=>true|.aS,.int _=>true|.int _,.aS=>true|.aS,.bl _=>true|.bl _,.aS=>true|.aS,.str _=>true|.str _,.aS=>true
 |.int _,.int _=>true|.bl _,.bl _=>true|.str _,.str _=>true|.DW _,.DW _=>true
 |.int _,.str _=>true|.str _,.int _=>true|.bl _,.str _=>true|.str _,.bl _=>true
 |_,_=>false
noncomputable def YO:R2:=λx y H Q=>Nl x y=true/\Q (.bl (decide (x=y))) H
noncomputable def YQ:R2:=λx y H Q=>Nl x y=true/\Q (.bl (!decide (x=y))) H
theorem AI{i j:Int}:decide (V.int i=V.int j)=(i==j):=by rw[h9];simp
theorem EA{i j:Bool}:decide (V.bl i=V.bl j)=(i==j):=by rw[h9];simp
theorem AJ{i j:Str}:decide (V.str i=V.str j)=(i==j):=by rw[h9];simp
theorem AK{i j:Array UInt8}:decide (V.DW i=V.DW j)=(i.toList==j.toList):=by rw[h9];cases i;cases j;simp
section
variable{X:Cx}{a b c:Expr}{ta tb tc:TE}{pos:Pos}
theorem aP{d:List (Addr×Obj)}{f:St}{H:Hp}{s:Shared}{Q:VK}{k g:Bool}(I:Inv X d f H s)(q:Q (.bl k) H)(e:k=g):EP X d f Q (.bool g) s:=by subst e;exact⟨.bl k,H,I,rfl,q⟩
theorem LV:kF X (compareOp .Eq) YO:=by
 intro k s l H x y v u Q I g d h;obtain⟨f,q⟩:=h;cases x with
 |aS=>
  cases g;cases y with
  |aS=>cases d;exact PySem.EqNone.eq_none_none (aP I q (by simp))
  |bl j=>cases d;exact PySem.EqNone.eq_none_bool (aP I q (by simp))
  |int j=>obtain⟨e,rfl⟩:=d;exact PySem.EqNone.eq_none_int (aP I q (by simp))
  |str j=>obtain⟨e,rfl⟩:=d;exact PySem.EqNone.eq_none_str (aP I q (by simp))
  |_=>exact absurd (show false=true from f) Hk
 |bl i=>
  cases g;cases y with
  |aS=>cases d;exact PySem.EqNone.eq_bool_none (aP I q (by simp))
  |bl j=>cases d;exact eq_bool (aP I q EA)
  |str j=>obtain⟨e,rfl⟩:=d;exact PySem.EqMixed.eq_bool_str (aP I q (by simp))
  |_=>exact absurd (show false=true from f) Hk
 |int i=>
  obtain⟨t,rfl⟩:=g;cases y with
  |aS=>cases d;exact PySem.EqNone.eq_int_none (aP I q (by simp))
  |int j=>obtain⟨e,rfl⟩:=d;exact eq_int (aP I q AI)
  |str j=>obtain⟨e,rfl⟩:=d;exact PySem.EqMixed.eq_int_str (aP I q (by simp))
  |_=>exact absurd (show false=true from f) Hk
 |str i=>
  obtain⟨t,rfl⟩:=g;cases y with
  |aS=>cases d;exact PySem.EqNone.eq_str_none (aP I q (by simp))
  |bl j=>cases d;exact PySem.EqMixed.eq_str_bool (aP I q (by simp))
  |int j=>obtain⟨e,rfl⟩:=d;exact PySem.EqMixed.eq_str_int (aP I q (by simp))
  |str j=>obtain⟨e,rfl⟩:=d;exact eq_str (aP I q AJ)
  |_=>exact absurd (show false=true from f) Hk
 |DW i=>
  obtain⟨t,rfl⟩:=g;cases y with
  |DW j=>obtain⟨e,rfl⟩:=d;exact PySem.W.eq_bytes (aP I q AK)
  |_=>exact absurd (show false=true from f) Hk
 |_=>cases y<;>exact absurd (show false=true from f) Hk
theorem R9:kF X (compareOp .NotEq) YQ:=by
 intro k s l H x y v u Q I g d h;obtain⟨f,q⟩:=h;cases x with
 |aS=>
  cases g;cases y with
  |aS=>cases d;exact PySem.EqNone.ne_none_none (aP I q (by simp))
  |bl j=>cases d;exact PySem.EqNone.ne_none_bool (aP I q (by simp))
  |int j=>obtain⟨e,rfl⟩:=d;exact PySem.EqNone.ne_none_int (aP I q (by simp))
  |str j=>obtain⟨e,rfl⟩:=d;exact PySem.EqNone.ne_none_str (aP I q (by simp))
  |_=>exact absurd (show false=true from f) Hk
 |bl i=>
  cases g;cases y with
  |aS=>cases d;exact PySem.EqNone.ne_bool_none (aP I q (by simp))
  |bl j=>cases d;exact ne_bool (aP I q (Wp not EA))
  |str j=>obtain⟨e,rfl⟩:=d;exact PySem.EqMixed.ne_bool_str (aP I q (by simp))
  |_=>exact absurd (show false=true from f) Hk
 |int i=>
  obtain⟨t,rfl⟩:=g;cases y with
  |aS=>cases d;exact PySem.EqNone.ne_int_none (aP I q (by simp))
  |int j=>obtain⟨e,rfl⟩:=d;exact ne_int (aP I q (Wp not AI))
  |str j=>obtain⟨e,rfl⟩:=d;exact PySem.EqMixed.ne_int_str (aP I q (by simp))
  |_=>exact absurd (show false=true from f) Hk
 |str i=>
  obtain⟨t,rfl⟩:=g;cases y with
  |aS=>cases d;exact PySem.EqNone.ne_str_none (aP I q (by simp))
  |bl j=>cases d;exact PySem.EqMixed.ne_str_bool (aP I q (by simp))
  |int j=>obtain⟨e,rfl⟩:=d;exact PySem.EqMixed.ne_str_int (aP I q (by simp))
  |str j=>obtain⟨e,rfl⟩:=d;exact ne_str (aP I q (Wp not AJ))
  |_=>exact absurd (show false=true from f) Hk
 |DW i=>
  obtain⟨t,rfl⟩:=g;cases y with
  |DW j=>obtain⟨e,rfl⟩:=d;exact PySem.W.ne_bytes (aP I q (Wp not AK))
  |_=>exact absurd (show false=true from f) Hk
 |_=>cases y<;>exact absurd (show false=true from f) Hk
theorem Sa:kF X (compareOp .Lt) (Ic λi j=>.bl (decide (i<j))):=Ie λ_ _ _ _ _ _ _ q=>lt_int q
theorem Sb:kF X (compareOp .LtE) (Ic λi j=>.bl (decide (i<=j))):=Ie λ_ _ _ _ _ _ _ q=>le_int q
theorem Sd:kF X (compareOp .Gt) (Ic λi j=>.bl (decide (j<i))):=Ie λ_ _ _ _ _ _ _ q=>gt_int q
theorem Se:kF X (compareOp .GtE) (Ic λi j=>.bl (decide (j<=i))):=Ie λ_ _ _ _ _ _ _ q=>ge_int q
theorem Nm:kF X (compareOp .Is) (λx y H Q=>y=.aS/\Q (.bl (decide (x=.aS))) H):=by
 intro e s g H x y v u Q I d f h;obtain⟨rfl,q⟩:=h;cases f;refine is_none_gen (aP I q ?_);cases x<;>first
  |(cases d;rfl)
  |(obtain⟨t,rfl⟩:=d;rfl)
theorem Ih:kF X (compareOp .IsNot) (λx y H Q=>y=.aS/\Q (.bl (!decide (x=.aS))) H):=by
 intro e s g H x y v u Q I d f h;obtain⟨rfl,q⟩:=h;cases f;refine isnot_none_gen (aP I q ?_);cases x<;>first
  |(cases d;rfl)
  |(obtain⟨t,rfl⟩:=d;rfl)
theorem pQ(b:Expr){op:CmpOp}(h:op≠.In:=by decide)(d:op≠.NotIn:=by decide):behindInMarks op b=false:=by
 have f:(op==CmpOp.In)=false:=by cases op<;>first|rfl|exact absurd rfl h
 have e:(op==CmpOp.NotIn)=false:=by cases op<;>first|rfl|exact absurd rfl d
 cases b<;>simp[behindInMarks,f,e]
theorem AL{op:CmpOp}{r:R2}(j:kF X (compareOp op) r)(m:PE X a ta)(l:PE X b tb)(k:behindInMarks op b=false):PE X (.Compare a [op] [b] pos) (VJ r ta tb):=by intro d s e H Q I h;exact wpAny_Compare1 (Nd m l I h λv u f x y o n i g q=>j d f e o x y v u Q n i g q) k
theorem pR:(sizeLine:Nat)<2^63:=by rw[sizeLine_eq];decide
theorem zg:kF X (binaryOp .Add) (λx y H Q=>∃i j,x=.str i/\y=.str j/\i.length+j.length<=sizeLine/\Q (.str (i++j)) H):=by intro d s k H x y v u Q I g f h;obtain⟨i,j,rfl,rfl,hz,q⟩:=h;obtain⟨t,rfl⟩:=g;obtain⟨e,rfl⟩:=f;exact add_str (λe l=>⟨.str (i++j),H,I.tok _,⟨_,rfl⟩,q⟩) hz
theorem vals1{x:V}{us:List Value}(r:Vals [x] us):∃u,us=[u]/\RelV x u:=by
 cases r with
 |cons e d=>cases d;exact⟨_,rfl,e⟩
theorem vals2{x y:V}{us:List Value}(r:Vals [x,y] us):∃u w',us=[u,w']/\RelV x u/\RelV y w':=by
 cases r with
 |cons g f=>
  cases f with
  |cons e d=>cases d;exact⟨_,_,rfl,g,e⟩
theorem EB:cF X (.builtin "abs") (λd H Q=>∃i,d=[.int i]/\Q (.int (if i<0 then-i else i)) H):=by intro e s f H d g Q I r h;obtain⟨i,rfl,q⟩:=h;obtain⟨u,rfl,t,rfl⟩:=vals1 r;exact call_abs_int λu j=>⟨.int (if i<0 then-i else i),H,I.tok _,⟨_,rfl⟩,q⟩
theorem Cv(g:X.calm=true):cF X (.builtin "max") (λe H Q=>∃i j,e=[.int i,.int j]/\Q (.int (if j>i then j else i)) H):=by
 intro f s l H e n Q I r h;obtain⟨i,j,rfl,q⟩:=h;obtain⟨u,m,rfl,⟨t,rfl⟩,⟨p,rfl⟩⟩:=vals2 r;refine max_two_ints (I.ok.hd g) λv o k=>⟨_,H,I.kept k,?_,q⟩;by_cases d:j>i
 ·rw[Bz d,Bz d];exact⟨_,rfl⟩
 ·rw[BM d,BM d];exact⟨_,rfl⟩
theorem Cw(g:X.calm=true):cF X (.builtin "min") (λe H Q=>∃i j,e=[.int i,.int j]/\Q (.int (if j<i then j else i)) H):=by
 intro f s l H e n Q I r h;obtain⟨i,j,rfl,q⟩:=h;obtain⟨u,m,rfl,⟨t,rfl⟩,⟨p,rfl⟩⟩:=vals2 r;refine min_two_ints (I.ok.hd g) λv o k=>⟨_,H,I.kept k,?_,q⟩;by_cases d:j<i
 ·rw[Bz d,Bz d];exact⟨_,rfl⟩
 ·rw[BM d,BM d];exact⟨_,rfl⟩
theorem Cy:cF X (.type "int") (λd H Q=>(∃i,d=[.int i]/\Q (.int i) H)\/∃k,d=[.bl k]/\Q (.int (if k then 1 else 0)) H):=by
 intro e s g H d j Q I r h;rcases h with⟨i,rfl,q⟩|⟨k,rfl,q⟩
 ·obtain⟨u,rfl,t,rfl⟩:=vals1 r;exact call_int_int ⟨.int i,H,I,⟨_,rfl⟩,q⟩
 ·obtain⟨u,rfl,f⟩:=vals1 r;cases f;exact call_int_bool ⟨.int (if k then 1 else 0),H,I.tok _,⟨_,rfl⟩,q⟩
theorem wL:cF X (.builtin "divmod") (λd H Q=>∃i j,d=[.int i,.int j]/\VM i j/\∀p,H p=none->Q (.ref p) (upd H p (.tup [.int (i/j),.int (i%j)]))):=by intro f s k H d m Q I r h;obtain⟨i,j,rfl,⟨w,v⟩,q⟩:=h;obtain⟨u,l,rfl,⟨t,rfl⟩,⟨n,rfl⟩⟩:=vals2 r;refine divmod_int (by omega) ?_ (.inl (PyProof.noPylong_small (by omega)));rw[L9 i (by omega),il i (by omega)];have g:H s.heap.objs.size=none:=I.hok.fresh (Do _);refine⟨.ref s.heap.objs.size,_,?_,rfl,q _ g⟩;refine I.laid (λb o e=>Da _ e) (Do _) ⟨by simp only[List.length_cons,List.length_nil];rw[sizeLine_eq];decide,[.int (i/j) s.toks,.int (i%j) (s.toks+1)],.cons ⟨_,rfl⟩ (.cons ⟨_,rfl⟩ .nil),?_⟩;exact⟨_,Hb s.heap rfl,rfl,0,rfl⟩
end
structure zh(h:Heap)(x dx C:Addr)(mA:Str->Option Value):Prop where
 obj:h.get? x=some (instObj C dx)
 ns:h.Ns1 dx mA
 ne:dx≠x
theorem Cz{h:Heap}{i:Addr}{f:Str->Option Value}(n:h.Ns1 i f):∃d,h.get? i=some d/\∀b,lookIn b d=some (f b):=by
 obtain⟨o,g,s,k,p,m,_,l⟩:=n;refine⟨o,k,λb=>?_⟩;have e:=l b;unfold nsFind findBy at e;rw[←Array.find?_toList]at e;unfold lookIn;rw[p];dsimp only;split
 ·rename_i y q
  rw[q]at e;exact Wp some e
 ·rename_i q
  rw[q]at e;have a:g.toList.any (·.refKey)=false:=by rw[List.any_eq_false];intro y j;obtain⟨z,t,c⟩:=m y (Array.mem_toList_iff.mp j);simp[DictEntry.refKey,c]
  have r:¬g.toList.any (·.refKey)=true:=by rw[a];exact Hk
  rw[BM r];exact Wp some e
theorem zh.look{h:Heap}{x d C:Addr}{c:Str->Option Value}(I:zh h x d C c):∃b,PySem.W.InstAt h x (instObj C d) C (some b)/\∀a,lookIn a b=some (c a):=
 let⟨b,ho,hl⟩:=Cz I.ns
 ⟨b,⟨I.obj,rfl,rfl,ho⟩,hl⟩
section
variable{prog:Program}{w:World}{A:Around}{E:Value->Shared->Prop}{s:Shared}{K:Frag}{x dx C f:Addr}{mA:Str->Option Value}{name:Str}{v:Value}
theorem get_map{a:Bool}{Q:Value->Shared->Prop}(X:K.In s.heap)(I:zh s.heap x dx C mA)(g:plainGet K C name=true)(e:hasDictIn K C=true)
 (i:findIn K (.ref C) name=some none)(c:mA name=some v)(b:PySem.W.handedIn v=true)(h:Q v {s with toks:=s.toks+1}):
 wpAny (model prog w) A (getAttr (.ref x) name a) Q E s:=by
 obtain⟨j,J,d⟩:=I.look;exact PySem.W.get_value X J (plainGet_of g).1 (PySem.W.findObj_own e i rfl (by rw[d,c])) b h
theorem EC{pl:Sem Bool}{Q:Value×List Value->Shared->Prop}(X:K.In s.heap)(I:zh s.heap x dx C mA)(a:plainGet K C name=true)
 (g:findIn K (.ref C) name=some (some (.ref f)))(d:isFn K (.ref f)=true)(c:mA name=none)(h:Q (.ref f,[.ref x]) s):
 wpAny (model prog w) A (getMethod (.ref x) name pl) Q E s:=by
 obtain⟨b,J,e⟩:=I.look;exact PySem.W.method_fn X J (plainGet_of a).1 (plainGet_of a).2 g (IH.mp d) (by show(lookIn name b).map (·.isSome)=some false;rw[e,c];rfl) h
theorem Ii{ns:List Str}{Q:Unit->Shared->Prop}(X:K.In s.heap)(I:zh s.heap x dx C mA)
 (l:findIn K (.ref C) "__setattr__"=some (some (.builtin "object.__setattr__")))(m:plainOver K C=true)(j:takerIn K C name=some none)(n:hasDictIn K C=true)
 (i:PySem.Within mA ns)(k:ns.length<=sizeLine)
 (h:∀h',zh h' x dx C (λy=>if y=name then some v else mA y)->Heap.SameBut dx s.heap h'->Q () {s with heap:=h',toks:=s.toks+2}):
 wpAny (model prog w) A (setAttr (.ref x) name v) Q E s:=by
 obtain⟨B,J,F⟩:=I.look;refine PySem.W.set_plain X J l (PySem.W.osa_open (s:={s with toks:=s.toks+1}) (r:=none) X J m j λb=>?_);obtain⟨G,o,e⟩:=PySem.W.any_some n;have g:s.heap.get? x=some ⟨.ref C,some dx,.plain,#[]⟩:=I.obj;refine FV (Kj (FV (FV (wpAny_loadPart g (FV (PySem.W.Looks.here (s:={s with toks:=s.toks+1}) (PySem.W.looks_clsIn X o) ?_))))));rw[e];refine Kj (a:=some dx) (FV (Kj (FV ?_)));refine wpAny_nsSet1 (s:={s with toks:=s.toks+1}) I.ns λh' d c=>?_;obtain⟨D,p,q,z,u,t⟩:=d.count (PySem.Within.cons name v i);refine FV (wpAny_lookBehind z (by rw[u];exact pastItsLine_dict (DD t (by rw[List.length_cons];omega))) ?_);exact Kj (h _ ⟨(c.2 _ (Pt I.ne)).trans I.obj,d,I.ne⟩ c)
theorem ED{R:Result->Shared->Prop}{vs:List Value}{b:List (Str×Value)}(X:K.In s.heap)(c:makesIn K C=true)
 (e:findIn K (.ref C) "__init__"=some (some (.ref f)))(i:PySem.W.typeIn K (.ref f)=some (.type "function"))
 (h:codeAny (model prog w) (A.under (.builtin "type.__call__" ⟨.ref C::vs,b⟩)) (.call (.ref f) ⟨.ref (s.heap.objs.size+1)::vs,b⟩) (PySem.W.InitBack (s.heap.objs.size+1) R)
   {s with heap:=(s.heap.push emptyDict).push (instObj C s.heap.objs.size)}):
 codeAny (model prog w) A (.call (.ref C) ⟨vs,b⟩) R s:=by
 obtain⟨k,g,d,t,j⟩:=s;exact PySem.W.make_core (PySem.W.makes_of X c) (gN X e) (λa=>PySem.W.bind_fn X a i) (.inl rfl) h
end
noncomputable def iM(f:Str)(v:V):List (Str×V)->List (Str×V)
 |[]=>[(f,v)]
 |(g,x)::r=>if g=f then(g,v)::r else(g,x)::iM f v r
theorem om(f g:Str)(v:V):∀c:List (Str×V),(iM f v c).lookup g=if g=f then some v else c.lookup g
 |[]=>by
  show List.lookup g [(f,v)]=_;by_cases h:g=f
  ·have a:(g==f)=true:=IH.mpr h;simp only[List.lookup,a,Bz h]
  ·have a:(g==f)=false:=dn.mpr h;simp only[List.lookup,a,BM h]
 |(k,x)::r=>by
  have d:=om f g v r;rw[show iM f v ((k,x)::r)=(if k=f then(k,v)::r else(k,x)::iM f v r)from rfl];by_cases b:k=f
  ·rw[Bz b];by_cases h:g=k
   ·have a:(g==k)=true:=IH.mpr h;simp only[List.lookup,a,Bz (h.trans b)]
   ·have a:(g==k)=false:=dn.mpr h;simp only[List.lookup,a,BM (λe:g=f=>h (e.trans b.symm))]
  ·rw[BM b];by_cases h:g=k
   ·have a:(g==k)=true:=IH.mpr h;simp only[List.lookup,a,BM (λe:g=f=>b (h.symm.trans e))]
   ·have a:(g==k)=false:=dn.mpr h;simp only[List.lookup,a];exact d
theorem ny(f:Str)(v:V):∀b:List (Str×V),f∈(iM f v b).map (·.1)/\∀g,g∈b.map (·.1)->g∈(iM f v b).map (·.1)
 |[]=>⟨by simp[iM],λg h=>by simp at h⟩
 |(k,x)::r=>by
  obtain⟨d,c⟩:=ny f v r;rw[show iM f v ((k,x)::r)=(if k=f then(k,v)::r else(k,x)::iM f v r)from rfl];by_cases a:k=f
  ·rw[Bz a];subst a;exact⟨by simp,λg h=>by simpa using h⟩
  ·rw[BM a];refine⟨?_,λg h=>?_⟩
   ·rw[QP];exact DL _ d
   ·rw[QP]at h⊢;rcases Fk.mp h with e|e
    ·exact Fk.mpr (.inl e)
    ·exact DL _ (c g e)
theorem oq(f:Str)(v:V):∀b:List (Str×V),(iM f v b).length<=b.length+1
 |[]=>by simp[iM]
 |(k,x)::r=>by
  have ih:=oq f v r;rw[show iM f v ((k,x)::r)=(if k=f then(k,v)::r else(k,x)::iM f v r)from rfl];by_cases a:k=f
  ·rw[Bz a,List.length_cons,List.length_cons];omega
  ·rw[BM a,List.length_cons,List.length_cons];omega
theorem sj.some_of{v:V}{o:Option Value}(r:sj (some v) o):∃u,o=some u/\RelV v u:=by
 cases o with
 |none=>exact(show False from r).elim
 |some u=>exact⟨u,rfl,r⟩
theorem sj.none_of{o:Option Value}(r:sj none o):o=none:=by
 cases o with
 |none=>rfl
 |some u=>exact(show False from r).elim
theorem CA{v:V}{u:Value}(r:RelV v u):PySem.W.handedIn u=true:=by
 cases v with
 |aS=>cases(show u=Value.none from r);rfl
 |bl b=>cases(show u=Value.bool b from r);rfl
 |int i=>obtain⟨t,e⟩:=(show∃t,u=Value.int i t from r);cases e;rfl
 |str x=>obtain⟨t,e⟩:=(show∃t,u=Value.str x t from r);cases e;rfl
 |DW b=>obtain⟨t,e⟩:=(show∃t,u=Value.bytes b t from r);cases e;rfl
 |MX b=>obtain⟨t,e⟩:=(show∃t,u=Value.float b t from r);cases e;rfl
 |ref a=>cases(show u=Value.ref a from r);rfl
 |ty n=>cases(show u=Value.type n from r);rfl
section
variable{P:Program}{w:World}{H H':Hp}{h h':Heap}{a C dx:Addr}{fs fs':List (Str×V)}
theorem oX(c:kX P w H h)(e:H a=some (.ins C dx fs)):∃b,zh h a dx C b/\(∀f,sj (fs.lookup f) (b f))/\PySem.Within b (fs.map (·.1))/\fs.length<=1000/\H dx=some (.own a):=by obtain⟨d,z,i,g,b,n,r,q⟩:=(show bX P w H h a (.ins C dx fs)from c a _ e);exact⟨b,⟨g,n,i⟩,r,q,z,d⟩
end
structure Ij(K:Frag)(C:Addr):Prop where
 pg:plainGet K C Str.empty=true
 hd:hasDictIn K C=true
 po:plainOver K C=true
 sa:findIn K (.ref C) "__setattr__"=some (some (.builtin "object.__setattr__"))
theorem Ij.get{K:Frag}{C:Addr}(c:Ij K C)(f:Str):plainGet K C f=true:=c.pg
noncomputable def kG(K:Frag)(C:Addr)(f:Str):Prop:=findIn K (.ref C) f=some none
theorem kG.Sg{K:Frag}{C:Addr}{f:Str}(n:kG K C f):takerIn K C f=some none:=by unfold takerIn;rw[show findIn K (.ref C) f=some none from n];rfl
structure Meth(K:Frag)(C:Addr)(m:Str)(f:Addr):Prop where
 at_:findIn K (.ref C) m=some (some (.ref f))
 fn:isFn K (.ref f)=true
 kp:keepIn K (.ref f)=true
section
variable{X:Cx}{pins:List (Addr×Obj)}{σ:St}{H:Hp}{s:Shared}{a C dx:Addr}{fs:List (Str×V)}{f:Str}{v:V}{A:Around}{E:Value->Shared->Prop}
theorem zj{b:Bool}{Q:Value->Shared->Prop}(I:Inv X pins σ H s)(e:H a=some (.ins C dx fs))(c:Ij X.K C)(n:kG X.K C f)(l:fs.lookup f=some v)
 (h:∀u s',Inv X pins σ H s'->RelV v u->Q u s'):wpAny (model X.prog X.w) A (getAttr (.ref a) f b) Q E s:=by
 obtain⟨g,O,r,_,_,_⟩:=oX I.hok e;obtain⟨u,i,d⟩:=sj.some_of (v:=v) (o:=g f) (by rw[←l];exact r f);exact get_map I.jP O (c.get f) c.hd n i (CA d) (h u _ (I.tok _) d)
theorem pS{m:Str}{g:Addr}{pl:Sem Bool}{Q:Value×List Value->Shared->Prop}(I:Inv X pins σ H s)(e:H a=some (.ins C dx fs))(c:Ij X.K C)(k:Meth X.K C m g)(l:fs.lookup m=none)
 (h:Q (.ref g,[.ref a]) s):wpAny (model X.prog X.w) A (getMethod (.ref a) m pl) Q E s:=by
 obtain⟨b,O,r,_,_,_⟩:=oX I.hok e;have d:b m=none:=sj.none_of (by rw[←l];exact r m);exact EC I.jP O (c.get m) k.at_ k.fn d h
theorem zk{y:V}{u:Value}{Q:Unit->Shared->Prop}(I:Inv X pins σ H s)(e:H a=some (.ins C dx fs))(c:Ij X.K C)(n:kG X.K C f)(D:fs.length<1000)(m:RelV y u)
 (h:∀s',Inv X pins σ (upd H a (.ins C dx (iM f y fs))) s'->Q () s'):wpAny (model X.prog X.w) A (setAttr (.ref a) f u) Q E s:=by
 obtain⟨j,O,r,i,_,k⟩:=oX I.hok e;have hz:(fs.map (·.1)).length<=sizeLine:=by rw[Ap,sizeLine_eq];omega
 refine Ii I.jP O c.sa c.po n.Sg c.hd i hz λB d l=>h _ ?_;have hd:∃o,B.get? dx=some o:=let⟨o,_,_,e',_⟩:=d.ns;⟨o,e'⟩
 refine I.write (x:=a) (e:=dx) (by rw[e];exact True.intro) (.inr k) (λb q t z=>(l.2 b t).trans z) hd ?_;refine⟨by rw[ah O.ne];exact k,?_,O.ne,d.obj,_,d.ns,λg=>?_,λg p=>?_⟩
 ·have:=oq f y fs;omega
 ·show sj ((iM f y fs).lookup g) (if g=f then some u else j g);rw[om];by_cases q:g=f
  ·rw[Bz q,Bz q];exact m
  ·rw[BM q,BM q];exact r g
 ·by_cases q:g=f
  ·rw[q];exact(ny f y fs).1
  ·refine(ny f y fs).2 g (i g λz=>p ?_);show(if g=f then some u else j g)=none;rw[BM q];exact z
theorem Inv.made(I:Inv X pins σ H s):Inv X pins σ (upd (upd H s.heap.objs.size (.own (s.heap.objs.size+1))) (s.heap.objs.size+1) (.ins C s.heap.objs.size []))
 {s with heap:=(s.heap.push emptyDict).push (instObj C s.heap.objs.size)}:=by
 have d:(s.heap.push emptyDict).get? s.heap.objs.size=some emptyDict:=Hb s.heap rfl;have j:((s.heap.push emptyDict).push (instObj C s.heap.objs.size)).get? (s.heap.objs.size+1)=some (instObj C s.heap.objs.size):=by have:=Hb (s.heap.push emptyDict) (o:=instObj C s.heap.objs.size) rfl;rwa [Heap.size_push]at this
 have i:(s.heap.push emptyDict).Ns s.heap.objs.size (λ_=>none):=⟨emptyDict,#[],_,d,rfl,(λe h=>absurd h (by simp)),λ_=>rfl⟩;have k:=I.laid (a:=s.heap.objs.size) (o:=.own (s.heap.objs.size+1)) (h':=s.heap.push emptyDict) (t':=s.toks) (λb u q=>Da _ q) (Do _) ⟨_,d⟩;refine k.laid (a:=s.heap.objs.size+1) (o:=.ins C s.heap.objs.size []) (t':=s.toks) (λb u q=>Da _ q) (i4 (Heap.size_push _ _)) ?_;have c:s.heap.objs.size≠s.heap.objs.size+1:=KB (Os _);refine⟨by rw[ah c,ao],Kk _,c,j,λ_=>none,(Heap.Ns1.of_empty i).at λo q=>Da _ q,λ_=>True.intro,λy g=>absurd rfl g⟩
theorem Ik{prog:Program}{w:World}{env:Env}{e:Expr}{f:Str}{pos:Pos}{s:Shared}{Q:Value->Shared->Prop}(c:attributeBase e f env (eval e env)=eval e env)
 (h:wpAny (model prog w) A (eval e env) (λo b=>wpAny (model prog w) A (getAttr o f true) Q E b) E s):wpAny (model prog w) A (eval (.Attribute e f pos) env) Q E s:=
 Attribute_any_ h (by rw[arm_eval_Attribute,c])
end
noncomputable def VN(K:Frag)(ta:TE)(f:Str):TE:=λd H Q=>ta d H λx c=>∃a C e b v,x=.ref a/\c a=some (.ins C e b)/\Ij K C/\kG K C f/\b.lookup f=some v/\Q v c
noncomputable def Sh(K:Frag)(ta g:TE)(f:Str):TS:=λD b H=>g b H λy h=>ta b h λx e=>∃a C d c,x=.ref a/\e a=some (.ins C d c)/\Ij K C/\kG K C f/\c.length<1000/\
 D.nx b (upd e a (.ins C d (iM f y c)))
section
variable{X:Cx}{o e value:Expr}{f:Str}{pos pos' tpos:Pos}{ta tv:TE}
theorem Nn(j:PE X e ta)(k:attributeBase e f X.env (eval e X.env)=eval e X.env):PE X (.Attribute e f pos) (VN X.K ta f):=by intro b s d H Q I h;refine Ik k (bJ (j b s d H _ I h) λu z hz=>?_);obtain⟨x,t,r,g,a,C,B,A,v,ex,m,c,n,l,q⟩:=hz;subst ex;obtain rfl:u=Value.ref a:=g;exact zj r m c n l λw y p i=>⟨v,t,p,i,q⟩
theorem gv(t:PE X o ta)(p:PE X value tv)(r:swapsWith value (some (.Attribute o f pos')) pos.line X.env=pure false):PS X (.Assign [.Attribute o f pos'] value pos) (Sh X.K ta tv f):=by intro b s d H D I h;refine plainObj_wpAny_Assign_Attribute (bJ (p b s d H _ I h) λu g ⟨y,B,A,i,q⟩=>bJ (t b g d B _ A q) λm F hz=>?_) r;obtain⟨x,L,z,j,a,C,J,G,ex,v,c,n,l,k⟩:=hz;subst ex;obtain rfl:m=Value.ref a:=j;exact zk z v c n l i λE w=>⟨d,_,w,k⟩
end
section
variable{X:Cx}{pins:List (Addr×Obj)}{σ:St}{H:Hp}{s:Shared}{A:Around}{E:Value->Shared->Prop}{Q:Value->Shared->Prop}{c:Value}{b:Bool}
inductive oN(K:Frag)(H:Hp):V->Value->Prop where
 |aS:oN K H .aS (.type "NoneType")
 |bl (x:Bool):oN K H (.bl x) (.type "bool")
 |int (i:Int):oN K H (.int i) (.type "int")
 |str (x:Str):oN K H (.str x) (.type "str")
 |MX (x:UInt64):oN K H (.MX x) (.type "float")
 |lst {a:Addr} {xs:List V} (e:H a=some (.lst xs)):oN K H (.ref a) (.type "list")
 |wF {a:Addr} {o:Obj} {xs:List V} (e:H a=some (.wF o (.lst xs))):oN K H (.ref a) (.type "list")
 |tup {a:Addr} {xs:List V} (e:H a=some (.tup xs)):oN K H (.ref a) (.type "tuple")
 |dK {a:Addr} {kvs:List (Key×V)} (e:H a=some (.dK kvs)):oN K H (.ref a) (.type "dict")
 |dT {a:Addr} {kvs:List (List Key×V)} (e:H a=some (.dT kvs)):oN K H (.ref a) (.type "dict")
 |ins {a C dx:Addr} {fs:List (Str×V)} (e:H a=some (.ins C dx fs)) (cl:Ij K C) (ha:findIn K (.ref C) "__class__"=some (some (.builtin "object.__class__")))
   (hn:PySem.W.specialIn K (.builtin "object.__class__") "__get__"=some (some (.builtin "getset_descriptor.__get__"))) (htk:PySem.W.takesIn K (.builtin "object.__class__")=some true)
   (hm:mroIn K C (.type "object")=some true):oN K H (.ref a) (.ref C)
theorem fF{x:V}{u t:Value}(I:Inv X pins σ H s)(d:RelV x u)(v:oN X.K H x t)(e:kitOne X.K t c=some b)(h:∀B,Q (.bool b) {s with toks:=B}):
 wpAny (model X.prog X.w) A (call (.builtin "isinstance") [u,c]) Q E s:=by
 cases v with
 |aS=>cases(show u=Value.none from d);exact PQ PySem.W.kitx_none I.jP True.intro e (λz=>nomatch z) h
 |bl y=>cases(show u=Value.bool y from d);exact PQ PySem.W.kitx_bool I.jP True.intro e (λz=>nomatch z) h
 |int i=>obtain⟨t,q⟩:=(show∃t,u=Value.int i t from d);cases q;exact PQ PySem.W.kitx_int I.jP True.intro e (λz=>nomatch z) h
 |str y=>obtain⟨t,q⟩:=(show∃t,u=Value.str y t from d);cases q;exact PQ PySem.W.kitx_str I.jP True.intro e (λz=>nomatch z) h
 |MX y=>obtain⟨t,q⟩:=(show∃t,u=Value.float y t from d);cases q;exact PQ PySem.W.kitx_float I.jP True.intro e (λz=>nomatch z) h
 |@lst a k f=>
  cases(show u=Value.ref a from d);obtain⟨_,_,n,_,g⟩:=(show bX X.prog X.w H s.heap a (.lst k)from I.hok a _ f);exact PQ PySem.W.kitx_list I.jP ⟨_,g,rfl⟩ e (λz=>nomatch z) h
 |@wF a D k f=>
  cases(show u=Value.ref a from d);obtain⟨_,_,_,n,_,g⟩:=(show bX X.prog X.w H s.heap a (.wF D (.lst k))from I.hok a _ f);exact PQ PySem.W.kitx_list I.jP ⟨_,g,rfl⟩ e (λz=>nomatch z) h
 |@tup a k f=>
  cases(show u=Value.ref a from d);obtain⟨_,_,_,p⟩:=(show bX X.prog X.w H s.heap a (.tup k)from I.hok a _ f);obtain⟨o,g,l,_⟩:=p;exact PQ PySem.W.kitx_tuple I.jP ⟨o,g,l⟩ e (λz=>nomatch z) h
 |@dK a j f=>
  cases(show u=Value.ref a from d);obtain⟨_,_,P,_,p⟩:=(show bX X.prog X.w H s.heap a (.dK j)from I.hok a _ f);obtain⟨o,M,N,g,l,_⟩:=p;exact PQ PySem.W.kitx_dict I.jP ⟨o,g,l.1⟩ e (λz=>nomatch z) h
 |@dT a j f=>
  cases(show u=Value.ref a from d);obtain⟨_,_,k,_,o,M,N,g,l,_⟩:=(show bX X.prog X.w H s.heap a (.dT j)from I.hok a _ f);exact PQ PySem.W.kitx_dict I.jP ⟨o,g,l.1⟩ e (λz=>nomatch z) h
 |@ins a C U T f r L F m G=>
  cases(show u=Value.ref a from d);obtain⟨S,O,_⟩:=oX I.hok f;obtain⟨R,J,_⟩:=O.look;exact PQ (PySem.W.kitx_own (r.get _) r.hd L F m G) I.jP J e (λz=>nomatch z) h
end
structure cC(k:Nat)(A:Around):Prop where
 hd:A.handled=none
 dp:A.depth+3*k+120<recursionLimit
 un:A.units+16*k+200<cLine
theorem cC.mono{j k:Nat}{A:Around}(r:cC k A)(h:j<=k):cC j A:=⟨r.hd,by have:=r.dp;omega,by have:=r.un;omega⟩
theorem cC.deeper{k:Nat}{A:Around}(r:cC (k+1) A)(env:Env):cC k (A.deeper env):=
 ⟨r.hd,by have:=r.dp;show A.depth+1+3*k+120<_;omega,by have:=r.un;show A.units+3+16*k+200<_;omega⟩
theorem zm{A:Around}{C:Addr}{us:List Value}{a:List (Str×Value)}:(A.under (.builtin "type.__call__" ⟨.ref C::us,a⟩)).depth=A.depth+1:=by first|rfl|simp[Around.under,Code.weight,Code.isCreation,Code.isGuard,Code.isCaller,Code.frames,Code.isFrame,guardIds]
theorem zo{A:Around}{C:Addr}{us:List Value}{a:List (Str×Value)}:(A.under (.builtin "type.__call__" ⟨.ref C::us,a⟩)).units=A.units+1:=by first|rfl|simp[Around.under,Code.cUnits,Code.frames,Code.isFrame]
theorem cC.make{k:Nat}{A:Around}(r:cC (k+1) A)(C:Addr)(us:List Value)(a:List (Str×Value)):cC k (A.under (.builtin "type.__call__" ⟨.ref C::us,a⟩)):=
 ⟨r.hd,by have:=r.dp;rw[zm];omega,by have:=r.un;rw[zo];omega⟩
theorem cC.depth{k:Nat}{A:Around}(r:cC k A):A.depth<recursionLimit:=by have:=r.dp;omega
theorem cC.units{k:Nat}{A:Around}(r:cC k A):A.units+64<cLine:=by have:=r.un;omega
noncomputable def EF:TA:=λ_ H Q=>Q [] H
noncomputable def wM(ta:TE)(c:TA):TA:=λa H Q=>ta a H λx e=>c a e λb d=>Q (x::b) d
section
variable{X:Cx}{e:Expr}{es:List Expr}{te:TE}{t:TA}{pos:Pos}
theorem aQ:PA X [] EF:=λ_ _ _ _ H Q I h=>Calls.spliced_nil ⟨[],H,I,.nil,h⟩
theorem aj(m:PE X e te)(l:PA X es t)(k:starEach (e::es) X.env=(false,eval e X.env)::starEach es X.env:=by rfl):PA X (e::es) (wM te t):=by intro pos a s b H Q I h;rw[k];show wpAny _ _ (spliced ((false,eval e X.env)::backTo pos (starEach es X.env))) _ _ s;refine Calls.spliced_cons (bJ (m a s b H _ I h) λu d ⟨x,q,o,g,j⟩=>?_);exact bJ (l pos a d b q _ o j) λr v ⟨c,p,n,f,i⟩=>⟨x::c,p,n,.cons g f,i⟩
noncomputable def VO(t:TA):TE:=λc H Q=>t c H λa b=>a.length<=sizeLine/\∀p,b p=none->Q (.ref p) (upd b p (.tup a))
noncomputable def VQ(t:TA):TE:=λc H Q=>t c H λa b=>a.length<=sizeLine/\∀p,b p=none->Q (.ref p) (upd b p (.lst a))
theorem EG{j}(h:PA X es t):PE X (.Tuple es j pos) (VO t):=by intro a s g H Q I l;refine wpAny_Tuple_spliced (bJ (h pos a s g H _ I l) λk c ⟨i,f,d,r,z,q⟩=>⟨by rw[←r.length];exact z,?_⟩);have m:f c.heap.objs.size=none:=d.hok.fresh (Do _);refine⟨.ref c.heap.objs.size,upd f c.heap.objs.size (.tup i),d.laid (t':=c.toks) (λb u e=>Da _ e) (Do _) ?_,rfl,q _ m⟩;exact⟨z,k,r,⟨_,Hb _ rfl,rfl,_,rfl⟩⟩
theorem nA(h:PA X es t):PE X (.List es pos) (VQ t):=by intro a s g H Q I k;refine wpAny_List_spliced (bJ (h pos a s g H _ I k) λj c ⟨i,f,d,r,z,q⟩=>⟨by rw[←r.length];exact z,?_⟩);have l:f c.heap.objs.size=none:=d.hok.fresh (Do _);refine⟨.ref c.heap.objs.size,upd f c.heap.objs.size (.lst i),d.laid (t':=c.toks) (λb u e=>Da _ e) (Do _) ?_,rfl,q _ l⟩;exact⟨z,j,0,r,Hb _ rfl⟩
end
abbrev Sp:=List V->Hp->VK->XK->Prop
abbrev CB:=List Env->Hp->Shared->XK->Value->Shared->Prop
structure zp(P:Program)(w:World)(K:Frag)(mg:Str->Option Value)(base:Heap)(A:Around)(outer:List Env)(s:Shared)(H:Hp):Prop where
 frames:A.frames=some outer
 mod:Mod K mg base
 bs:∀b o,base.get? b=some o->s.heap.get? b=some o/\H b=none
 HQ:base.objs.size<=s.heap.objs.size
 nu:s.heap.FunFrames base outer
 LM:∀b∈frs outer,H b=none
 hok:kX P w H s.heap
 bare:AllBare s.gens
 tree:P.given.tree=none
noncomputable def CE(a:List Env)(P:Program)(w:World)(H:Hp)(s:Shared)(Q:VK)(u:Value)(s':Shared):Prop:=
 ∃v b,s'.os=s.os/\AllBare s'.gens/\Un (frs a) [] H b s.heap s'.heap/\kX P w b s'.heap/\RelV v u/\Q v b
noncomputable def CR(CX:CB)(a:List Env)(P:Program)(w:World)(H:Hp)(s:Shared)(Q:VK)(E:XK)(r:Result)(s':Shared):Prop:=
 match r with
 |.ok (.ret u)=>CE a P w H s Q u s'
 |.ok _=>False
 |.error e=>CX a H s E e s'
structure aR(P:Program)(w:World)(K:Frag)(mg:Str->Option Value)(base:Heap)(CX:CB)(k:Nat)(f:Addr)(fd:FuncData)(ps:List Str)(sp:Sp):Prop where
 len:∀vs H Q E,sp vs H Q E->vs.length=ps.length
 run:∀(A:Around)(outer:List Env)(s:Shared)(H:Hp)(args:Args)(us:List Value)(vs:List V)(Q:VK)(E:XK),cC k A->zp P w K mg base A outer s H->BindsTo s fd args (ps.zip us)->Vals vs us->sp vs H Q E->
  codeAny (model P w) A (.call (.ref f) args) (CR CX outer P w H s Q E) s
theorem aR.imp{P:Program}{w:World}{K:Frag}{mg:Str->Option Value}{base:Heap}{CX:CB}{k:Nat}{f:Addr}{c:FuncData}{ps:List Str}{sp d:Sp}(F:aR P w K mg base CX k f c ps sp)
 (h:∀vs H Q E,d vs H Q E->sp vs H Q E):aR P w K mg base CX k f c ps d:=
 ⟨λvs H Q E q=>F.len vs H Q E (h _ _ _ _ q),λA a s H b e vs Q E j l m g i=>F.run A a s H b e vs Q E j l m g (h _ _ _ _ i)⟩
theorem zp.make{P:Program}{w:World}{K:Frag}{mg:Str->Option Value}{base:Heap}{A:Around}{a:List Env}{s:Shared}{H:Hp}(e:zp P w K mg base A a s H)(C:Addr)(us:List Value)(b:List (Str×Value)):
 zp P w K mg base (A.under (.builtin "type.__call__" ⟨.ref C::us,b⟩)) a s H:=⟨by first|exact e.frames|(simpa[Around.under,Code.envs,Code.isFrame,pushEnvs]using e.frames),e.mod,e.bs,e.HQ,e.nu,e.LM,e.hok,e.bare,e.tree⟩
section
variable{X:Cx}{pins:List (Addr×Obj)}{σ:St}{H:Hp}{s s':Shared}
theorem Inv.Np(I:Inv X pins σ H s):zp X.prog X.w X.K X.mg X.base X.A X.stack s H:=
 ⟨I.ok.frames,I.ok.mod,I.bs,DD I.ok.HQ I.sz,I.stack,I.jF,I.hok,I.bare,I.ok.tree⟩
theorem Inv.after{Q:VK}{u:Value}(I:Inv X pins σ H s)(h:CE X.stack X.prog X.w H s Q u s'):EP X pins σ Q u s':=by obtain⟨v,j,os,a,f,e,r,q⟩:=h;obtain⟨i,g,d,t,c⟩:=s';obtain rfl:c=s.os:=os;exact⟨v,j,I.call (h':=i) (g':=g) (d':=d) (t':=t) (ch:=[]) f e a (λb z=>absurd z (by simp)),r,q⟩
end
noncomputable def Si(sp:Sp)(zq:List V)(E:XK)(t:TA):TE:=λa H Q=>t a H λb c=>sp (b++zq) c Q E
noncomputable def Binds(K:Frag)(b:FuncData)(ps:List Str)(ds:List Value):Prop:=
 ∀(s:Shared)(a:List Value),K.In s.heap->(a++ds).length=ps.length->BindsTo s b ⟨a,[]⟩ (ps.zip (a++ds))
theorem Binds.all{K:Frag}{b:FuncData}{ps:List Str}(h:∀us:List Value,us.length=ps.length->bindArgs b ⟨us,[]⟩=pure (ps.zip us)):Binds K b ps []:=λs us _ a=>by rw[QQ]at a⊢;exact .of_eq (h us a)
noncomputable def Passes(CX:CB)(X:Cx)(E:XK):Prop:=∀(a:List (Addr×Obj))(c:St)(H:Hp)(s:Shared)(e:Value)(b:Shared),Inv X a c H s->CX X.stack H s E e b->X.xe e b
section
variable{X:Cx}{CX:CB}{k:Nat}{f C:Addr}{fd:FuncData}{ps:List Str}{sp:Sp}{zq:List V}{ds:List Value}{E:XK}{x m:Str}{p pos apos:Pos}{e o:Expr}{es:List Expr}{ta:TE}{t:TA}
theorem uC{a:List (Addr×Obj)}{c:St}{H:Hp}{s:Shared}{Q:VK}{us:List Value}{vs:List V}(F:aR X.prog X.w X.K X.mg X.base CX k f fd ps sp)(j:cC k X.A)(q:Binds X.K fd ps ds)(n:Vals zq ds)(i:Passes CX X E)
 (I:Inv X a c H s)(r:Vals vs us)(h:sp (vs++zq) H Q E):wpAny (model X.prog X.w) X.A (call (.ref f) us) (EP X a c Q) X.xe s:=by
 have d:Vals (vs++zq) (us++ds):=r.append n;have l:(us++ds).length=ps.length:=by rw[←d.length];exact F.len _ _ _ _ h
 refine wpAny_call (ke (F.run X.A X.stack s H ⟨us,[]⟩ (us++ds) (vs++zq) Q E j I.Np (q s us I.jP l) d h) λr g b=>?_);cases r with
 |error e=>exact i a c H s e g I b
 |ok fl=>
  cases fl with
  |ret u=>exact I.after b
  |next=>exact False.elim b
  |brk=>exact False.elim b
  |cont=>exact False.elim b
theorem Il(F:aR X.prog X.w X.K X.mg X.base CX k f fd ps sp)(j:cC k X.A)(u:Gl X x)(l:X.mg x=some (.ref f))(n:keepIn X.K (.ref f)=true)(z:Binds X.K fd ps ds)(y:Vals zq ds)(i:Passes CX X E)
 (B:PA X (e::es) t)(c:(x==("__debug__":Str))=false:=by decide)(v:starEach (e::es) X.env=(false,eval e X.env)::starEach es X.env:=by rfl)(b:(backTo pos (starEach es X.env)).any (·.1)=false:=by rfl):
 PE X (.Call (.Name x p) (e::es) [] pos) (Si sp zq E t):=by
 intro a s g H Q I h;refine Re (eZ I u l ?_ c);refine X1 (h₀:=X.base) I.ok.mod.HP n (bJ (B pos a s g H _ I h) λG J ⟨D,L,d,r,q⟩=>⟨d.jP,?_⟩) v b;exact uC F j z y i d r q
structure Mk(K:Frag)(C f:Addr):Prop where
 makes:makesIn K C=true
 init:findIn K (.ref C) "__init__"=some (some (.ref f))
 fn:isFn K (.ref f)=true
 kp:keepIn K (.ref C)=true
theorem EH{a:List (Addr×Obj)}{g:St}{H:Hp}{s:Shared}{Q:VK}{us:List Value}{vs:List V}(M:Mk X.K C f)(F:aR X.prog X.w X.K X.mg X.base CX k f fd ps sp)(y:cC (k+1) X.A)(D:Binds X.K fd ps ds)(B:Vals zq ds)
 (q:Passes CX X E)(I:Inv X a g H s)(r:Vals vs us)
 (h:∀x c,H x=none->H c=none->c≠x->sp (.ref x::(vs++zq)) (upd (upd H c (.own x)) x (.ins C c [])) (λv J=>v=.aS/\Q (.ref x) J) E):
 wpAny (model X.prog X.w) X.A (call (.ref C) us) (EP X a g Q) X.xe s:=by
 have j:=h (s.heap.objs.size+1) s.heap.objs.size (I.hok.fresh (Nat.le_succ _)) (I.hok.fresh (Do _)) (KB (Os _));have d:=Inv.made (C:=C) I;have i:Vals (V.ref (s.heap.objs.size+1)::(vs++zq)) (Value.ref (s.heap.objs.size+1)::(us++ds)):=.cons rfl (r.append B);have z:(Value.ref (s.heap.objs.size+1)::us++ds).length=ps.length:=by have e:=i.length;rw[F.len _ _ _ _ j]at e;exact e.symm
 refine wpAny_call (ED (f:=f) I.jP M.makes M.init (IH.mp M.fn) (ke (F.run _ X.stack _ _ ⟨Value.ref (s.heap.objs.size+1)::us,[]⟩ (Value.ref (s.heap.objs.size+1)::(us++ds)) _ _ E (y.make C us [])
  (d.Np.make C us []) (D _ (Value.ref (s.heap.objs.size+1)::us) d.jP z) i j) λr l b=>?_))
 cases r with
 |error e=>exact q a g _ _ e l d b
 |ok fl=>
  cases fl with
  |ret u=>obtain⟨v,L,G,rv,ev,n⟩:=d.after b;subst ev;exact⟨rv,⟨V.ref (s.heap.objs.size+1),L,G,rfl,n⟩⟩
  |next=>exact False.elim b
  |brk=>exact False.elim b
  |cont=>exact False.elim b
end
section
variable{X:Cx}{CX:CB}{k:Nat}{f C:Addr}{fd:FuncData}{ps ks:List Str}{sp:Sp}{E:XK}{x m:Str}{p pos apos kpos:Pos}{e o:Expr}{es:List Expr}{kws:List Keyword}{te ta:TE}{t tk:TA}{nm:Option Str}
variable{g:List Value->List Value->List Value}{gV:List V->List V->List V}
end
structure aD(N P:List Str)(sc:Scope):Prop where
 kind:sc.kind=.function
 co:sc.isCoroutine=false
 gen:sc.isGenerator=false
 nd:N.Nodup
 pre:N.take P.length=P
 par:∀x∈P,sc.names.lookup x=some .local\/sc.names.lookup x=some .cell
 Nq:∀y∈sc.names,y.2≠.free
theorem tE{b:Str->Option NameKind}{x:Str}:∀{a:List (Str×Value)}{m:Str->Option Value},(∀v,(x,v)∉a)->bindL b a m x=m x
 |[],_,_=>rfl
 |(n,v)::r,m,h=>by
  unfold bindL;rw[tE λw c=>h w (DL _ c)];split
  ·have:x≠n:=by rintro rfl;exact h v FK
   simp[this]
  ·rfl
theorem tF{b:Str->Option NameKind}{x:Str}:∀{a:List (Str×Value)}{m:Str->Option Value},(∀v,(x,v)∉a)->bindC b a m x=m x
 |[],_,_=>rfl
 |(n,v)::r,m,h=>by
  unfold bindC;rw[tF λw c=>h w (DL _ c)];split
  ·rfl
  ·have:x≠n:=by rintro rfl;exact h v FK
   simp[this]
theorem tG{a:Str->Option NameKind}{x:Str}{v:Value}:∀{P:List Str}{vs:List Value}{i:Nat}{m:Str->Option Value},P.Nodup->P[i]?=some x->vs[i]?=some v->a x=some .local->
 bindL a (P.zip vs) m x=some v
 |[],_,_,_,_,h,_,_=>by simp at h
 |_::_,[],_,_,_,_,h,_=>by simp at h
 |p::P,w::vs,0,m,d,c,b,e=>by simp at c b;subst c;subst b;show bindL a ((p,w)::P.zip vs) m p=_;unfold bindL;rw[tE λv f=>(Kt.mp d).1 (List.of_mem_zip f).1,Bz e];simp
 |p::P,w::vs,i+1,m,d,c,b,e=>by show bindL a ((p,w)::P.zip vs) m x=_;unfold bindL;exact tG (i:=i) (Kt.mp d).2 (by simpa using c) (by simpa using b) e
theorem tH{a:Str->Option NameKind}{x:Str}{v:Value}:∀{P:List Str}{vs:List Value}{i:Nat}{m:Str->Option Value},P.Nodup->P[i]?=some x->vs[i]?=some v->a x≠some .local->
 bindC a (P.zip vs) m x=some v
 |[],_,_,_,_,h,_,_=>by simp at h
 |_::_,[],_,_,_,_,h,_=>by simp at h
 |p::P,w::vs,0,m,d,c,b,e=>by simp at c b;subst c;subst b;show bindC a ((p,w)::P.zip vs) m p=_;unfold bindC;rw[tF λv f=>(Kt.mp d).1 (List.of_mem_zip f).1,BM e];simp
 |p::P,w::vs,i+1,m,d,c,b,e=>by show bindC a ((p,w)::P.zip vs) m x=_;unfold bindC;exact tH (i:=i) (Kt.mp d).2 (by simpa using c) (by simpa using b) e
noncomputable def start(N:List Str)(vs:List V):St:=vs.map some++List.replicate (N.length -vs.length) none
noncomputable def zu(CX:CB)(P:Program)(w:World)(K:Frag)(mg:Str->Option Value)(base:Heap)(N:List Str)(b:Str)(a:Scope)(f:Addr)(d:Value)(A:Around)(outer:List Env)(s:Shared)(H:Hp)(E:XK):Cx where
 prog:=P
 w:=w
 K:=K
 mg:=mg
 base:=base
 A:=A.deeper (envOfC b a s.heap.objs.size f d)
 N:=N
 s₀:=s
 H₀:=H
 env:=envOfC b a s.heap.objs.size f d
 outer:=outer
 stack:=envOfC b a s.heap.objs.size f d::outer
 ex:=[]
 calm:=true
 fn:=λ_=>true
 pn:=[]
 xe:=λe g=>wpAny (model P w) (A.deeper (envOfC b a s.heap.objs.size f d)) (leaving (envOfC b a s.heap.objs.size f d) e) (λ_ c=>CX outer H s E e c) (λh c=>CX outer H s E h c) g
theorem wN{sc:Scope}{n:Nat}{x:Str}(h:sc.names.lookup x=some .cell):∃c,(cellsFrom n sc.names []).lookup x=some c:=by have q:=PySem.W.cellsFrom_some sc.names n [] (.inl h);exact TK.mp q
theorem CC{CX:CB}{P:Program}{w:World}{K:Frag}{mg:Str->Option Value}{base:Heap}{N ps:List Str}{l:Str}{d:Scope}{f:Addr}{F:Value}{A:Around}{g:List Env}{s I:Shared}{H:Hp}{E:XK}{us:List Value}{vs:List V}
 (S:aD N ps d)(R:A.handled=none)(Q:A.depth+110<recursionLimit)(j:zp P w K mg base A g s H)(Z:vs.length=ps.length)(r:Vals vs us)
 (x:InCallC s s.heap.objs.size (bindL (envOfC l d s.heap.objs.size f F).kindOf (ps.zip us) λ_=>none) (cellsFrom (s.heap.objs.size+1) d.names []) (bindC (envOfC l d s.heap.objs.size f F).kindOf (ps.zip us) λ_=>none) I):
 Inv (zu CX P w K mg base N l d f F A g s H E) [] (start N vs) H I:=by
 have M:ps.length<=N.length:=by have:=Wp List.length S.pre;rw[aw]at this;omega
 obtain⟨D,X,rfl,B⟩:=x.done;have G:∀b:Addr,b∉(zu CX P w K mg base N l d f F A g s H E).ex:=λb z=>absurd (show b∈([]:List Addr)from z) (by simp);refine⟨⟨j.mod,S.kind,rfl,rfl,Do _,λy z c D m=>?_,λy o=>?_,λy c _ h=>?_,λ_=>R,Around.frames_deeper j.frames,.inr ⟨rfl,rfl⟩,λb z=>absurd z (G b),j.bs,j.HQ,λb _ _=>G b,λb z=>absurd z (G b),j.nu,j.LM,j.tree,λA' Y O U B=>PylongRoom.of (j.mod.nolimit.keeps B) (by rw[U];show A.depth+1+100<_;lia) (SeerAt.of (j.mod.seer.keeps B) j.tree (O.trans (Around.frames_deeper j.frames)) S.gen S.co rfl rfl)⟩,
  rfl,j.bare,Un.kept B,⟨_,x.toInCall.ns,λi y v D m h3=>?_⟩,λy c h=>⟨_,x.cell y c h⟩,j.hok.fresh (Do _),λy c h=>?_,λp t=>absurd (show p∈([]:List (Addr×Obj))from t) (by simp),j.hok.kept B,?_⟩
 ·exact name_of_addr x.apart (OF D) (OF m)
 ·have o:d.names.lookup y=some .cell\/d.names.lookup y=some .free:=o;rcases o with o|o
  ·exact wN o
  ·exact absurd rfl (S.Nq _ (OF o))
 ·exact Mo (x.above y c (OF h))
 ·have C:i<vs.length:=by
   unfold start at m;by_cases C:i<vs.length
   ·exact C
   ·rw[Ha (by simpa using C)]at m;rw[eQ]at m;split at m<;>cases m
  have T:vs[i]?=some v:=by
   unfold start at m;rw[IR (by simpa using C),FM]at m;cases e:vs[i]? with
   |none=>rw[e]at m;cases m
   |some a=>rw[e]at m;cases m;rfl
  obtain⟨u,J,rv⟩:=r.get T;have t:ps[i]?=some y:=by rw[←S.pre,eJ (by omega)];exact D
  have L:ps.Nodup:=by rw[←S.pre];exact S.nd.sublist (List.take_sublist _ _)
  refine⟨u,rv,?_⟩;rcases S.par y (NA t)with k|k
  ·exact .inl ⟨k,tG L t J k⟩
  ·obtain⟨c,e⟩:=wN (n:=s.heap.objs.size+1) k;refine .inr ⟨.inl k,c,e,?_⟩;have q:=x.cell y c e;rw[tH L t J (by show d.names.lookup y≠_;rw[k];decide)]at q;exact q
 ·exact j.hok.fresh (Mo (x.above y c (OF h)))
 ·unfold start;show _=N.length;rw[Fh,Ap,List.length_replicate];omega
theorem LW{CX:CB}{P:Program}{w:World}{K:Frag}{mg:Str->Option Value}{base:Heap}{k:Nat}{f:Addr}{l d:Str}{h:Arguments}{i:List Stmt}{a:Scope}{Y kV F U g Z oc:Value}{an od:Option Addr}
 {M:Array (Option Value)}{N ps:List Str}{sp:Sp}(lk:K.lookup f=some ⟨oc,od,.func (fnOf l d h i a Y kV F U an g Z),M⟩)(R:codeIn K g d=true)(S:aD N ps a)
 (B:∀vs H Q E,sp vs H Q E->vs.length=ps.length)
 (p:∀(A:Around)(c:List Env)(s:Shared)(H:Hp)(vs:List V)(Q:VK)(E:XK),cC k (A.deeper (envOfC d a s.heap.objs.size f g))->sp vs H Q E->
   ∃t,se (zu CX P w K mg base N d a f g A c s H E) i t/\t {nx:=λ_ H'=>Q .aS H',rt:=Q} (start N vs) H):
 aR P w K mg base CX (k+1) f (fnOf l d h i a Y kV F U an g Z) ps sp:=by
 refine⟨B,λA c s H args us vs Q E G D hb r X=>?_⟩;have hl:=B _ _ _ _ X;have KX:K.In s.heap:=D.mod.HP.keeps λb o e=>(D.bs b o e).1;have O:s.heap.NoLimit:=D.mod.nolimit.keeps λb o e=>(D.bs b o e).1;have m:∀y∈ps.zip us,a.names.lookup y.1=some .local\/(a.names.lookup y.1=some .cell/\((cellsFrom (s.heap.objs.size+1) a.names []).lookup y.1).isSome=true):=λ⟨n,v⟩ hy=>by
  rcases S.par n (List.of_mem_zip hy).1 with q|q
  ·exact .inl q
  ·exact .inr ⟨q,PySem.W.cellsFrom_some _ _ _ (.inl q)⟩
 refine codeAny_call_function G.depth (KX _ _ lk) rfl S.co S.gen rfl (PySem.W.codeRec_of KX R) (hb _ _ _ _ ?_);refine wpAny_newFunctionEnv_cells S.kind m λenv he T x=>?_;subst he;refine⟨O.keeps x.toInCall.keep,codeAny_func ?_⟩;obtain⟨t,ht,hq⟩:=p A c s H vs Q E (G.deeper _) X;have I:Inv (zu CX P w K mg base N d a f g A c s H E) [] (start N vs) H T:=CC S G.hd (by have:=G.dp;lia) D hl r x;refine UF (ht [] T (start N vs) H _ I hq) (λfl L z=>?_) λe L z=>z;have C:∀{j:St}{H':Hp}{v:V}{u:Value},Inv (zu CX P w K mg base N d a f g A c s H E) [] j H' L->RelV v u->Q v H'->CE c P w H s Q u L:=
  λ{j H' v u} J rv q=>⟨v,H',J.os,J.bare,J.base,J.hok,rv,q⟩
 cases fl with
 |ret u=>obtain⟨v,j,H',J,rv,q⟩:=z;exact C J rv q
 |next=>obtain⟨j,H',J,q⟩:=z;exact C (v:=V.aS) (u:=Value.none) J rfl q
 |brk=>obtain⟨_,_,_,q⟩:=z;exact False.elim q
 |cont=>obtain⟨_,_,_,q⟩:=z;exact False.elim q
section
variable{X:Cx}{x:Str}{p pos:Pos}{e:Expr}{es:List Expr}{t:TA}{id T:String}{r:List V->Hp->VK->Prop}
noncomputable def XG(r:List V->Hp->VK->Prop)(t:TA):TE:=λa H Q=>t a H λb c=>r b c Q
theorem bY(u:cF X (.builtin id) r)(o:Gl X x)(n:X.mg x=none)(l:bootBuiltins x=some (.builtin id))(v:PA X (e::es) t)(m:x≠"__name__":=by decide)(c:(x==("__debug__":Str))=false:=by decide)
 (q:starEach (e::es) X.env=(false,eval e X.env)::starEach es X.env:=by rfl)(b:(backTo pos (starEach es X.env)).any (·.1)=false:=by rfl):PE X (.Call (.Name x p) (e::es) [] pos) (XG r t):=by
 intro a s d H Q I h;refine Re (gr I o n l ?_ m c);exact PyProof.Rows.callWith_builtin1 (bJ (v pos a s d H _ I h) λg i ⟨f,y,w,j,k⟩=>u a i d y f g Q w j k) q b
theorem tK(u:cF X (.type T) r)(o:Gl X x)(n:X.mg x=none)(l:bootBuiltins x=some (.type T))(v:PA X (e::es) t)(m:x≠"__name__":=by decide)(c:(x==("__debug__":Str))=false:=by decide)
 (q:starEach (e::es) X.env=(false,eval e X.env)::starEach es X.env:=by rfl)(b:(backTo pos (starEach es X.env)).any (·.1)=false:=by rfl):PE X (.Call (.Name x p) (e::es) [] pos) (XG r t):=by
 intro a s d H Q I h;refine Re (gr I o n l ?_ m c);exact Nw (bJ (v pos a s d H _ I h) λg i ⟨f,y,w,j,k⟩=>u a i d y f g Q w j k) q b
end
end L2
namespace HT
open PySem PyProof.Rows
section
open PySem.SeqAt
open PySem.AutoSeq1 (wpAny_loadPart')
open PySem.MeetsSeq PySem.MeetsSeq2 PySem.MeetsSeq3
end
section
variable{prog:Program}{w:World}{A:Around}{E:Value->Shared->Prop}{s:Shared}
theorem Im{t b:Addr}{vs a:List Value}{Q:Value->Shared->Prop}(v:IsTup s.heap t vs.toArray)(x:IsTup s.heap b a.toArray)(p:vs≠[])
 (z:a=[]->Q (.ref t) s)(y:a≠[]->Q (.ref s.heap.objs.size) {s with heap:=s.heap.push {cls:=.type "tuple",data:=.seq (vs++a).toArray}})
 (k:vs.length+a.length<=sizeLine):wpAny (model prog w) A (binaryOp .Add (.ref t) (.ref b)) Q E s:=by
 obtain⟨⟨cls,u,data,m⟩,j,r,n,q⟩:=id v;obtain⟨⟨B,h,l,d⟩,c,g,o,f⟩:=id x;simp only at r q g f;subst r q g f;have e:vs.toArray++a.toArray=(vs++a).toArray:=by simp
 by_cases i:a=[]
 ·exact concat_meets ⟨_,j,rfl⟩ ⟨_,c,rfl⟩ noFill_tuple_add seq_tuple_add PySem.F.slot_tuple_add PySem.F.entry_tuple_add (PySem.F.args_tuple_add_2 _ _)
   (tuple_addW1 t b vs.toArray a.toArray n o u h m d (by simpa using p) (by simp[i])) ⟨j,c,z i⟩
 ·refine concat_meets ⟨_,j,rfl⟩ ⟨_,c,rfl⟩ noFill_tuple_add seq_tuple_add PySem.F.slot_tuple_add PySem.F.entry_tuple_add (PySem.F.args_tuple_add_2 _ _)
   (tuple_addW2 t b vs.toArray a.toArray n o u h m d (by simpa using p) (by simpa using i) (by rw[FR,FR];exact k)) ⟨j,c,?_⟩
  rw[e];exact y i
noncomputable def tL(n d:Nat):Option Int->Nat
 |none=>d
 |some v=>if v<0 then(v+(n:Int)).toNat else min v.toNat n
theorem wO(n d:Nat):tL n d none=d:=rfl
theorem AM(n d k:Nat):tL n d (some (k:Int))=min k n:=by show(if(k:Int)<0 then((k:Int)+(n:Int)).toNat else min (k:Int).toNat n)=min k n;rw[BM (by omega),Int.toNat_natCast]
end
end HT
namespace L2
open PySem PySem.Spec PyProof.Rows
abbrev TO:=St->Hp->(Option Int->Hp->Prop)->Prop
noncomputable def PO(X:Cx)(e:Option Expr)(t:TO):Prop:=
 ∀(a:List (Addr×Obj))(s:Shared)(b:St)(H:Hp)(Q:Option Int->Hp->Prop),Inv X a b H s->t b H Q->
  wpAny (model X.prog X.w) X.A (evalPart e X.env) (λu d=>∃o c,Inv X a b c d/\IsPart u o/\Q o c) X.xe s
noncomputable def Io:TO:=λ_ H Q=>Q none H
noncomputable def Sk(t:TE):TO:=λa H Q=>t a H λx b=>∃i,x=.int i/\Q (some i) b
theorem intsAre_of{ns:List Int}:∀{us:List Value},Vals (ns.map V.int) us->IntsAre us ns:=by
 induction ns with
 |nil=>intro us r;rw[List.map_nil]at r;cases r;exact .nil
 |cons n ns c=>
  intro us r;rw[QP]at r;cases r with
  |cons b a=>obtain⟨t,e⟩:=b;subst e;exact .cons n t (c a)
section
variable{X:Cx}{e:Expr}{te:TE}{lo hi:Option Expr}{tl th:TO}{pos p2:Pos}
theorem Ip:PO X none Io:=by intro a s b H Q I h;rw[evalPart_none];exact Kj ⟨none,H,I,.none,h⟩
theorem Iq(h:PE X e te):PO X (some e) (Sk te):=by intro a s b H Q I f;rw[evalPart_some];refine bJ (h a s b H _ I f) λu k ⟨x,j,g,c,d⟩=>?_;obtain⟨i,rfl,q⟩:=d;obtain⟨t,rfl⟩:=c;exact⟨some i,j,g,.int i t,q⟩
noncomputable def XH(X:Cx)(r:V->Option Int->Option Int->Hp->VK->Prop):Prop:=
 ∀(a:List (Addr×Obj))(s:Shared)(b:St)(H:Hp)(x:V)(v d c:Value)(lo hi:Option Int)(f:Addr)(Q:VK),Inv X a b H s->RelV x v->s.heap.IsSliceOf f d c .none->IsPart d lo->IsPart c hi->r x lo hi H Q->
  ∃T g,typeLookup (.type T) "__getitem__"=pure (some (.builtin g))/\s.TypeIs v T/\wpAny (model X.prog X.w) X.A (getItem v (.ref f)) (EP X a b Q) X.xe s
noncomputable def YW(r:V->Option Int->Option Int->Hp->VK->Prop)(te:TE)(tl th:TO):TE:=λa H Q=>te a H λx d=>tl a d λl c=>th a c λu b=>r x l u b Q
theorem EI{r:V->Option Int->Option Int->Hp->VK->Prop}(C:XH X r)(F:PE X e te)(D:PO X lo tl)(z:PO X hi th):PE X (.Subscript e (.Slice lo hi none p2) pos) (YW r te tl th):=by intro a s d H Q I h;refine Subscript_ (bJ (F a s d H _ I h) λv k ⟨x,O,M,m,p⟩=>?_);refine wpAny_Slice (bJ (D a k d O _ M p) λg j ⟨l,N,L,y,o⟩=>bJ (z a j d N _ L o) λf c ⟨u,i,K,t,n⟩=>?_);rw[evalPart_none];refine Kj ?_;have J:Inv X a d i {c with heap:=c.heap.push {cls:=.type "slice",data:=.fields #[g,f,.none]}}:=K.kept (t':=c.toks) λb P q=>Da _ q;obtain⟨T,R,G,B,E⟩:=C a {c with heap:=c.heap.push {cls:=.type "slice",data:=.fields #[g,f,.none]}} d i x v g f l u c.heap.objs.size Q J m (Heap.IsSliceOf.new ..) y t n;show wpAny (model X.prog X.w) X.A (subscriptTail e (.Slice lo hi none p2) v (.ref c.heap.objs.size)) (EP X a d Q) X.xe {c with heap:=c.heap.push {cls:=.type "slice",data:=.fields #[g,f,.none]}};exact tail_any (ops:=[.ref c.heap.objs.size,v]) B G E (by with_unfolding_all rfl)
noncomputable def CD(a:List V)(lo hi:Option Int):List V:=(a.drop (HT.tL a.length 0 lo)).take (HT.tL a.length a.length hi -HT.tL a.length 0 lo)
theorem wQ(a:List V)(lo hi:Option Int):(CD a lo hi).length<=a.length:=by unfold CD;rw[aw,List.length_drop];omega
noncomputable def Sl(K:Frag):R2:=λx y H Q=>∃a b d c,x=.ref a/\y=.ref b/\kY K H a d/\kY K H b c/\d≠[]/\d.length+c.length<=sizeLine/\
 (c=[]->Q (.ref a) H)/\(c≠[]->∀p,H p=none->Q (.ref p) (upd H p (.tup (d++c))))
theorem Vals.uD{a:List V}{us:List Value}(r:Vals a us):us=[]↔a=[]:=by
 cases r with
 |nil=>simp
 |cons _ _=>simp
theorem Ir:kF X (binaryOp .Add) (Sl X.K):=by intro f s C H x y v u Q I l k h;obtain⟨a,b,j,i,rfl,rfl,B,A,t,hz,n,m⟩:=h;cases l;cases k;obtain⟨r,d,p,_⟩:=I.tuple B;obtain⟨g,c,p2,_⟩:=I.tuple A;refine HT.Im p p2 (λz=>t (d.uD.mp z)) (λz=>⟨.ref a,H,I,rfl,n (c.uD.mp z)⟩) (λz=>?_) (by rw[←d.length,←c.length];exact hz);refine⟨.ref s.heap.objs.size,_,I.laid (t':=s.toks) (o:=.tup (j++i)) (λb D q=>Da _ q) (Do _) ?_,rfl,m (λw=>z (c.uD.mpr w)) _ (I.hok.fresh (Do _))⟩;exact⟨by rw[Fh];exact hz,_,d.append c,IsTup.new _ _⟩
end
noncomputable def wj(n:Nat)(i:Int):Option Nat:=if 0<=i then(if i<n then some i.toNat else none)else if-(n:Int)<=i then some (i+n).toNat else none
noncomputable def kZ{α:Type}(a:List α)(i:Int):Option α:=(wj a.length i).bind λj=>a[j]?
theorem AO{n:Nat}{i:Int}{j:Nat}(h:wj n i=some j):seqIndex? i n=some j/\j<n/\-(n:Int)<=i/\i<n:=by
 unfold wj at h;by_cases b:0<=i
 ·rw[Bz b]at h;by_cases a:i<n
  ·rw[Bz a]at h;have e:i.toNat=j:=He h;exact⟨by rw[seqIndex_of b a,e],by omega,by omega,a⟩
  ·rw[BM a]at h;cases h
 ·rw[BM b]at h;by_cases a: -(n:Int)<=i
  ·rw[Bz a]at h;have e:(i+n).toNat=j:=He h;exact⟨by rw[seqIndex_neg (by omega) a,e],by omega,a,by omega⟩
  ·rw[BM a]at h;cases h
theorem uE{α:Type}{a:List α}{i:Int}{v:α}(h:kZ a i=some v):∃j,seqIndex? i a.length=some j/\a[j]?=some v/\j<a.length/\-(a.length:Int)<=i/\i<a.length:=by
 unfold kZ at h;cases e:wj a.length i with
 |none=>rw[e]at h;cases h
 |some j=>rw[e]at h;obtain⟨f,d,c,b⟩:=AO e;exact⟨j,f,h,d,c,b⟩
theorem bT{α:Type}{a:List α}{j:Nat}{v:α}(h:a[j]?=some v):kZ a (j:Int)=some v:=by
 have b:j<a.length:=(Fu.mp h).1;have e:wj a.length (j:Int)=some j:=by unfold wj;rw[Bz (by omega),Bz (by omega)];simp
 unfold kZ;rw[e];exact h
noncomputable def lA(b:Expr):Prop:=∀o i,subscripted b false o i=operate [o,i] (getItem o i)
noncomputable def Iu(X:Cx)(r:R2):Prop:=
 ∀(c a:Expr)(b:List (Addr×Obj))(s:Shared)(d:St)(H:Hp)(x y:V)(v u:Value)(Q:VK),Inv X b d H s->RelV x v->RelV y u->r x y H Q->
  subscripted a false v u=operate [v,u] (getItem v u)->wpAny (model X.prog X.w) X.A (subscriptTail c a v u) (EP X b d Q) X.xe s
noncomputable def VR(X:Cx)(e:String)(r:V->List V->Hp->VK->Prop):Prop:=
 ∀(a:List (Addr×Obj))(s:Shared)(b:St)(H:Hp)(x:V)(c:List V)(v:Value)(d:List Value)(Q:VK),Inv X a b H s->RelV x v->Vals c d->r x c H Q->
  wpAny (model X.prog X.w) X.A (call (.builtin e) (v::d)) (EP X a b Q) X.xe s
section
variable{X:Cx}{a b:Expr}{ta tb:TE}{pos:Pos}
theorem Iu.or{r j:R2}(h:Iu X r)(h':Iu X j):Iu X (λx y H Q=>r x y H Q\/j x y H Q):=by
 intro c d e s f H x y v u Q I i g q k;rcases q with q|q
 ·exact h c d e s f H x y v u Q I i g q k
 ·exact h' c d e s f H x y v u Q I i g q k
theorem EJ{r:R2}(j:Iu X r)(l:PE X a ta)(k:PE X b tb)(i:lA b):PE X (.Subscript a b pos) (VJ r ta tb):=by intro c s d H Q I h;exact Subscript_ (Nd l k I h λv u e x y n m g f q=>j a b c e d n x y v u Q m g f q (i _ _))
noncomputable def Sn(K:Frag):R2:=λx y H Q=>∃p c i v,x=.ref p/\y=.int i/\gU K H p c/\kZ c i=some v/\Q v H
noncomputable def So(K:Frag):R2:=λx y H Q=>∃p c i v,x=.ref p/\y=.int i/\kY K H p c/\kZ c i=some v/\Q v H
noncomputable def Sq:R2:=λx y H Q=>∃z i c,x=.str z/\y=.int i/\z.length<=sizeLine/\kZ z.cps.toList i=some c/\Q (.str ⟨#[c]⟩) H
theorem Iv:Iu X (Sn X.K):=by
 intro f g c s o H x y v u Q I F E h A;obtain⟨p,P,i,z,rfl,rfl,G,L,q⟩:=h;cases F;obtain⟨t,rfl⟩:=E;obtain⟨m,r,l,hz⟩:=I.list G;obtain⟨j,e,O,S,N,M⟩:=uE L;obtain⟨w,C,k⟩:=r.get O;have J:=r.length;have R:=pR;have d:EP X c o Q w s:=⟨z,H,I,k,q⟩;by_cases B:0<=i
 ·have n:i.toNat=j:=by rw[seqIndex_of B M]at e;exact He e
  exact item_listR l.isList B (by omega) (by rw[n];simpa using C) d A
 ·have n:(i+(m.toArray.size:Int)).toNat=j:=by rw[seqIndex_neg (by omega) N]at e;rw[FR,←J];exact He e
  exact subscriptTail_builtinR (x:=w) l.isList.typeIs slot_list_getitem.lookup
   (wpAny_getItem_list_neg (Q:=λr D=>r=w/\EP X c o Q r D) l.isList (by omega) (by rw[FR]<;>omega) (by omega) (by rw[n];simpa using C) ⟨rfl,d⟩) A
theorem Nr:Iu X (So X.K):=by
 intro d e c s k H x y v u Q I o n h B;obtain⟨p,L,i,z,rfl,rfl,C,E,q⟩:=h;cases o;obtain⟨t,rfl⟩:=n;obtain⟨A,r,l,hz⟩:=I.tuple C;obtain⟨j,G,F,P,O,N⟩:=uE E;obtain⟨w,J,f⟩:=r.get F;have D:=r.length;have M:=pR;have g:EP X c k Q w s:=⟨z,H,I,f,q⟩;exact subscriptTail_builtinR (x:=w) l.typeIs slot_tuple_getitem.lookup
  (getItem_tuple (j:=j) (Q:=λr m=>r=w/\EP X c k Q r m) l (by omega) (by omega) (by rw[FR,←D];exact G) (by simpa using J) ⟨rfl,g⟩) B
theorem Nt:Iu X Sq:=by
 intro d e f s C H x y v u Q I l k h m;obtain⟨z,i,c,rfl,rfl,hz,o,q⟩:=h;obtain⟨t,rfl⟩:=l;obtain⟨D,rfl⟩:=k;obtain⟨j,g,w,F,r,p⟩:=uE o;have n:z.cps.toList.length=z.length:=by simp[Str.length]
 rw[n]at g r p;have E:=pR;exact tail_any (typeIs_str s z t) slot_str_getitem.lookup (getItem_str (c:=c) (by have B:decide (i< -(2^63:Int))=false:=OK (by omega);have A:decide (i>=2^63)=false:=OK (by omega);rw[B,A,Ts]) (by rw[g];simpa using w) ⟨.str ⟨#[c]⟩,H,I.tok _,⟨_,rfl⟩,q⟩) m
noncomputable def YX(K:Frag):R2:=λx y H Q=>Sn K x y H Q\/So K x y H Q\/Sq x y H Q
theorem zv:Iu X (YX X.K):=Iv.or (Nr.or Nt)
theorem zw(c:List Value)(n j:Nat)(u:Value):Obj.mapSeq (·.setIfInBounds j u) {cls:=.type "list",data:=.seq c.toArray n}={cls:=.type "list",data:=.seq (c.set j u).toArray n}:=by simp[Obj.mapSeq]
theorem Inv.lst{d:List (Addr×Obj)}{g:St}{H:Hp}{s:Shared}{p:Addr}{f:List V}(I:Inv X d g H s)(h:H p=some (.lst f)):
 ∃(c:List Value)(n:Nat),Vals f c/\s.heap.get? p=some {cls:=.type "list",data:=.seq c.toArray n}/\f.length<=sizeLine:=by
 obtain⟨z,c,n,r,e⟩:=I.hok p _ h;exact⟨c,n,r,e,z⟩
theorem Inv.Nu{c:List (Addr×Obj)}{i:St}{H:Hp}{s:Shared}{p:Addr}{k ys:List V}{d its':List Value}{n g:Nat}{f:Obj->Obj}(I:Inv X c i H s)(h:H p=some (.lst k))
 (l:s.heap.get? p=some {cls:=.type "list",data:=.seq d.toArray n})(j:f {cls:=.type "list",data:=.seq d.toArray n}={cls:=.type "list",data:=.seq its'.toArray g})(r:Vals ys its')(hz:ys.length<=sizeLine)(t:Nat):
 Inv X c i (upd H p (.lst ys)) {s with heap:=s.heap.update p f,toks:=t}:=by
 have e:(s.heap.update p f).get? p=some {cls:=.type "list",data:=.seq its'.toArray g}:=by rw[Heap.get?_update_self f l (by rw[j]<;>rfl),j]
 refine I.write (x:=p) (e:=p) (by rw[h];trivial) (.inl rfl) (λb u m q=>(gd _ _ (Pt m)).trans q) ⟨_,e⟩ ?_;exact⟨hz,its',g,r,e⟩
noncomputable def LX:V->V->V->Hp->(Hp->Prop)->Prop:=λo i v H Q=>∃p c k j,o=.ref p/\i=.int k/\H p=some (.lst c)/\wj c.length k=some j/\Q (upd H p (.lst (c.set j v)))
theorem set_list:RX X LX:=by
 intro c s A H o i v F G u Q I C D rv h;obtain⟨p,B,k,j,rfl,rfl,m,E,q⟩:=h;cases C;obtain⟨t,rfl⟩:=D;obtain⟨d,n,r,f,hz⟩:=I.lst m;obtain⟨e,K,x,w⟩:=AO E;have g:=r.length;have J:=pR;have z:Inv X c A (upd H p (.lst (B.set j v))) {s with heap:=s.heap.update p (Obj.mapSeq (·.setIfInBounds j u))}:=
  I.Nu m f (zw d n j u) (r.set rv j) (by rw[Pi];exact hz) s.toks
 by_cases y:0<=k
 ·have l:k.toNat=j:=by rw[seqIndex_of y w]at e;exact He e
  exact PySem.W.ki_setAt f y (by omega) (by rw[FR,←g];exact w) (by rw[l];exact⟨_,z,q⟩)
 ·have l:(k+(d.toArray.size:Int)).toNat=j:=by rw[seqIndex_neg (by omega) x]at e;rw[FR,←g];exact He e
  exact PySem.W.ki_setBack f (by omega) (by rw[FR,←g];exact x) (by omega) (by rw[l];exact⟨_,z,q⟩)
theorem uF(c d:Option Int)(n:Nat):(sliceBounds c d none n).1=((HT.tL n 0 c:Nat):Int)/\(sliceBounds c d none n).2.1=((HT.tL n n d:Nat):Int)/\(sliceBounds c d none n).2.2=1:=by
 refine⟨?_,?_,rfl⟩
 ·cases c with
  |none=>simp[sliceBounds,HT.tL]
  |some i=>
   simp only[sliceBounds,HT.tL,Option.getD_none,show(1:Int)>0 by decide,if_true];by_cases h:i<0
   ·simp only[h,if_true]<;>omega
   ·simp only[h,if_false]<;>omega
 ·cases d with
  |none=>simp[sliceBounds,HT.tL]
  |some i=>
   simp only[sliceBounds,HT.tL,Option.getD_none,show(1:Int)>0 by decide,if_true];by_cases h:i<0
   ·simp only[h,if_true]<;>omega
   ·simp only[h,if_false]<;>omega
theorem su(c:List Value)(d e:Option Int):slicePick c.toArray d e none=((c.drop (HT.tL c.length 0 d)).take (HT.tL c.length c.length e -HT.tL c.length 0 d)).toArray:=by obtain⟨h,g,f⟩:=uF d e c.toArray.size;unfold slicePick;rw[h,g,f];simp only[sliceRange_one,pick_run,FR]<;>rfl
noncomputable def VU(K:Frag):V->Option Int->Option Int->Hp->VK->Prop:=λx d e H Q=>∃a c,x=.ref a/\gU K H a c/\∀p,H p=none->Q (.ref p) (upd H p (.lst (CD c d e)))
theorem Iw:XH X (VU X.K):=by intro g s t H x v w u e f y Q I j p l k h;obtain⟨a,c,rfl,n,q⟩:=h;cases j;obtain⟨m,r,i,hz⟩:=I.list n;have d:=r.length;refine⟨"list",_,slot_list_getitem.lookup,i.isList.typeIs,?_⟩;refine wpAny_getItem_list_slice i.isList p l k .none (by simp) ?_ (by rw[FR]<;>omega);rw[su,←d];refine⟨.ref s.heap.objs.size,_,I.laid (t':=s.toks) (o:=.lst (CD c e f)) (λb z q=>Da _ q) (Do _) ?_,rfl,q _ (I.hok.fresh (Do _))⟩;exact⟨DD (wQ c e f) hz,_,0,(r.drop (HT.tL c.length 0 e)).take (HT.tL c.length c.length f -HT.tL c.length 0 e),Hb _ rfl⟩
theorem iN:cF X (.builtin "len") (λi H Q=>∃p ys,i=[.ref p]/\(gU X.K H p ys\/kY X.K H p ys)/\Q (.int ys.length) H):=by
 intro j s l H i m Q I r h;obtain⟨p,ys,rfl,d,q⟩:=h;obtain⟨u,rfl,k⟩:=vals1 r;cases k;have n:=pR;rcases d with d|d
 ·obtain⟨g,e,f,hz⟩:=I.list d;have c:=e.length;exact Calls.call_len_list f.isList (by simp only[FR]<;>omega) ⟨.int ys.length,H,I.tok _,⟨s.toks+1,by rw[FR,c]⟩,q⟩
 ·obtain⟨g,e,f,hz⟩:=I.tuple d;have c:=e.length;exact len_tuple f (by simp only[FR]<;>omega) ⟨.int ys.length,H,I.tok _,⟨s.toks+1,by rw[FR,c]⟩,q⟩
theorem lC:cF X (.type "list") (λA H Q=>∃p ys,A=[.ref p]/\(gU X.K H p ys\/kY X.K H p ys)/\∀l,H l=none->Q (.ref l) (upd H l (.lst ys))):=by
 intro i s C H A E Q I r h;obtain⟨p,ys,rfl,k,q⟩:=h;obtain⟨u,rfl,D⟩:=vals1 r;cases D;have t:∀(c:List Value),Vals ys c->ys.length<=sizeLine->∀(d:Heap)(g:Nat),(∀b B,s.heap.get? b=some B->d.get? b=some B)->
  d.get? s.heap.objs.size=some {cls:=.type "list",dict:=none,data:=.seq c.toArray g,slots:= #[]}->EP X i C Q (.ref s.heap.objs.size) {s with heap:=d}:=λc f hz d g j e=>
  ⟨.ref s.heap.objs.size,_,I.laid (t':=s.toks) j (Do _) (show bX X.prog X.w _ d _ (.lst ys)from⟨hz,c,g,f,e⟩),rfl,q _ (I.hok.fresh (Do _))⟩
 rcases k with k|k
 ·obtain⟨c,f,v,hz⟩:=I.list k;have m:=f.length;obtain⟨o,x,z,n,y⟩:=v.isList;exact call_list_seq p (.inl rfl) x z y (λd g j e=>t c f hz d g j e) (by simp only[FR]<;>omega)
 ·obtain⟨c,f,v,hz⟩:=I.tuple k;have m:=f.length;obtain⟨o,x,z,n,y⟩:=v;exact call_list_seq p (.inr rfl) x z y (λd g j e=>t c f hz d g j e) (by simp only[FR]<;>omega)
theorem jS:cF X (.type "tuple") (λm H Q=>∃p ys,m=[.ref p]/\((gU X.K H p ys/\∀l,H l=none->Q (.ref l) (upd H l (.tup ys)))\/(kY X.K H p ys/\Q (.ref p) H))):=by
 intro c s k H m z Q I r h;obtain⟨p,ys,rfl,h⟩:=h;obtain⟨u,rfl,v⟩:=vals1 r;cases v;rcases h with⟨j,q⟩|⟨j,q⟩
 ·obtain⟨d,g,i,hz⟩:=I.list j;have n:=g.length;refine call_tuple_list i.isList (λf x=>?_) (by simp only[FR]<;>omega);have t:Inv X c k H {s with heap:=f}:=I.kept (t':=s.toks) x;have y:Inv X c k (upd H f.objs.size (.tup ys)) {s with heap:=f.push {cls:=.type "tuple",data:=.seq d.toArray}}:=
   t.laid (t':=s.toks) (λb o e=>Da _ e) (Do _) (show bX X.prog X.w _ _ _ (.tup ys)from⟨hz,d,g,IsTup.new _ _⟩)
  exact⟨.ref f.objs.size,_,y,rfl,q _ (t.hok.fresh (Do _))⟩
 ·obtain⟨d,g,i,hz⟩:=I.tuple j;exact call_tuple_same i ⟨.ref p,H,I,rfl,q⟩
noncomputable def VV(K:Frag)(T:String)(x:V)(H:Hp):Prop:=match x with
 |.str _=>T="str"
 |.int _=>T="int"
 |.ref p=>(T="list"/\∃d,gU K H p d)\/(T="tuple"/\∃o,K.lookup p=some o/\o.cls=.type "tuple"/\o.dict=none)\/
   (T="dict"/\((∃c,H p=some (.dK c))\/∃c,H p=some (.dT c)))\/(T="set"/\∃S n,H p=some (.set S n))
 |_=>False
theorem EK{f:List (Addr×Obj)}{q:St}{H:Hp}{s:Shared}{T:String}{x:V}{v:Value}(I:Inv X f q H s)(r:RelV x v)(g:VV X.K T x H):
 s.TypeIs v T/\∀a,v=.ref a->∃m,s.heap.get? a=some m/\m.dict=none:=by
 cases x with
 |str z=>obtain⟨t,rfl⟩:=r;cases(show T="str"from g);exact⟨typeIs_str s z t,λ_ e=>nomatch e⟩
 |int i=>obtain⟨t,rfl⟩:=r;cases(show T="int"from g);exact⟨typeIs_int s i t,λ_ e=>nomatch e⟩
 |ref p=>
  cases r;rcases g with⟨rfl,A,w⟩|⟨rfl,o,d,y,j⟩|⟨rfl,d⟩|⟨rfl,S,n,d⟩
  ·obtain⟨u,_,l,_⟩:=I.list w;refine⟨l.isList.typeIs,λa e=>?_⟩;cases e;obtain⟨o,n,e,c,j,_⟩:=l;exact⟨o,e,j⟩
  ·refine⟨⟨o,I.jP p o d,y⟩,λa e=>?_⟩;cases e;exact⟨o,I.jP _ o d,j⟩
  ·have z:∃o,s.heap.get? p=some o/\o.ExactDict:=by
    rcases d with⟨h,d⟩|⟨h,d⟩
    ·obtain⟨_,_,_,_,o,_,_,e,ex,_⟩:=I.hok p _ d;exact⟨o,e,ex⟩
    ·obtain⟨_,_,_,_,o,_,_,e,ex,_⟩:=I.hok p _ d;exact⟨o,e,ex⟩
   obtain⟨o,e,ex⟩:=z;refine⟨⟨o,e,ex.1⟩,λa k=>?_⟩;cases k;exact⟨o,e,ex.2.1⟩
  ·obtain⟨o,_,_,_,e,ex,_⟩:=I.hok p _ d;refine⟨⟨o,e,ex.1⟩,λa k=>?_⟩;cases k;exact⟨o,e,ex.2.1⟩
 |_=>exact False.elim g
noncomputable def Su(K:Frag)(T:String)(r:V->List V->Hp->VK->Prop)(e:TE):TE:=λd H Q=>e d H λx c=>VV K T x c/\r x [] c Q
noncomputable def Sv(K:Frag)(T:String)(r:V->List V->Hp->VK->Prop)(f:TE)(t:TA):TE:=λc H Q=>f c H λx d=>VV K T x d/\t c d λe g=>r x e g Q
variable{o e:Expr}{es:List Expr}{to:TE}{t:TA}{name:Str}{apos cpos:Pos}{T id:String}{r:V->List V->Hp->VK->Prop}
theorem zx(q:PlainAttrs T)(g:Slot T name id)(i:typeOf (.builtin id)=pure (.type "method_descriptor"))(w:VR X id r)(u:PE X o to)
 (f:attributeBase o name X.env (eval o X.env)=eval o X.env:=by rfl)(d:(apos.endLine==cpos.line)=true:=by rfl):PE X (.Call (.Attribute o name apos) [] [] cpos) (Su X.K T r to):=by
 intro c s j H Q I h;refine wpAny_Call_method0_late f d (bJ (u c s j H _ I h) λv n ⟨x,A,l,k,m,p⟩=>?_);obtain⟨z,y⟩:=EK l k m;exact⟨T,id,q,g,i,z,y,Calls.callWith_builtin rfl (PySem.evalArgs_none (w c n j A x [] v [] Q l k .nil p))⟩
theorem AQ(D:PlainAttrs T)(i:Slot T name id)(l:typeOf (.builtin id)=pure (.type "method_descriptor"))(G:VR X id r)(F:PE X o to)(J:PA X (e::es) t)
 (g:attributeBase o name X.env (eval o X.env)=eval o X.env:=by rfl)
 (j:((backTo cpos (starEach (e::es) X.env)).all (λx=>!x.1)&&(backToKw cpos (keywordEach [] X.env)).all (λx=>x.1.isSome)
   &&decide ((e::es).length+([]:List Keyword).length+(if([]:List Keyword).isEmpty then 0 else 1)<30))=true:=by rfl)
 (f:(apos.endLine==cpos.line)=true:=by rfl)(E:starEach (e::es) X.env=(false,eval e X.env)::starEach es X.env:=by rfl)(d:(backTo cpos (starEach es X.env)).any (·.1)=false:=by rfl):
 PE X (.Call (.Attribute o name apos) (e::es) [] cpos) (Sv X.K T r to t):=by
 intro c s k H Q I h;refine wpAny_Call_method_late g j f rfl (bJ (F c s k H _ I h) λv z ⟨x,P,p,m,w,C⟩=>?_);obtain⟨M,L⟩:=EK p m w;refine⟨T,id,D,i,l,M,L,?_⟩;have n:=J cpos c z k P _ p C;rw[E]at n⊢;refine Calls.callWith_builtin (by show(false||(backTo cpos (starEach es X.env)).any (·.1))=false;rw[d]<;>rfl) (Calls.evalArgs_plain ?_);exact bJ n λu y ⟨q,O,N,A,B⟩=>G c y k O x q v u Q N m A B
end
noncomputable def VW(X:Cx)(e:String)(r:V->List V->Hp->VK->Prop):Prop:=
 ∀(a:List (Addr×Obj))(s:Shared)(b:St)(H:Hp)(x:V)(c:List V)(v:Value)(d:List Value)(Q:VK),Inv X a b H s->RelV x v->Vals c d->r x c H Q->
  wpAny (model X.prog X.w) X.A (call (.builtin e) (v::d)) (EP X a b Q) X.xe s
theorem Vals.one{x:V}{us:List Value}(h:Vals [x] us):∃u,us=[u]/\RelV x u:=by
 cases h with
 |cons r h=>
  cases h;exact⟨_,rfl,r⟩
theorem Vals.zero:∀{us:List Value},Vals [] us->us=[]
 |_,.nil=>rfl
theorem Vals.dropLast{a:List V}{us:List Value}(h:Vals a us):Vals a.dropLast us.dropLast:=by
 induction h with
 |nil=>exact .nil
 |cons r t b=>
  cases t with
  |nil=>exact .nil
  |cons q c=>exact .cons r b
theorem Vals.reverse{a:List V}{us:List Value}(h:Vals a us):Vals a.reverse us.reverse:=by
 induction h with
 |nil=>exact .nil
 |cons r t b=>rw[dA,dA];exact Vals.append b (.cons r .nil)
theorem Vals.rep{a:List V}{us:List Value}(h:Vals a us):∀k:Nat,Vals (List.replicate k a).flatten (List.replicate k us).flatten
 |0=>.nil
 |k+1=>by rw[List.replicate_succ,List.replicate_succ,List.flatten_cons,List.flatten_cons];exact Vals.append h (Vals.rep h k)
theorem zy{α:Type}(l:List α):l.eraseIdx (l.length -1)=l.dropLast:=by
 induction l with
 |nil=>rfl
 |cons a r c=>
  cases r with
  |nil=>rfl
  |cons b r=>
   have e:(a::b::r).length -1=((b::r).length -1)+1:=by have f:(a::b::r).length=r.length+2:=rfl;have d:(b::r).length=r.length+1:=rfl;omega
   rw[e,List.eraseIdx_cons_succ,c]
   all_goals rfl
theorem foldl_rep(a:List Value):∀(k:Nat)(b:List Value),
 List.foldl (λd c=>d++c) b.toArray (List.replicate k a.toArray)=(b++(List.replicate k a).flatten).toArray
 |0,b=>by simp
 |k+1,b=>by
  have e:b.toArray++a.toArray=(b++a).toArray:=by simp
  have f:(b++a)++(List.replicate k a).flatten=b++(List.replicate (k+1) a).flatten:=by rw[List.replicate_succ,List.flatten_cons,Kx]
  rw[←f,←foldl_rep a k (b++a),←e,List.replicate_succ,List.foldl_cons]
section
variable{X:Cx}{pins:List (Addr×Obj)}{σ:St}{H:Hp}{s:Shared}{l b:Addr}{xs ys zs:List V}
theorem Inv.Nv{a its':List Value}{n:Nat}{f:Array Value->Array Value}{t':Nat}(I:Inv X pins σ H s)(i:H l=some (.lst xs))
 (e:s.heap.get? l=some {cls:=.type "list",data:=.seq a.toArray n})(g:f a.toArray=its'.toArray)(c:Vals ys its')(hz:ys.length<=sizeLine):
 Inv X pins σ (upd H l (.lst ys)) {s with heap:=s.heap.update l (Obj.mapSeq f),toks:=t'}:=by
 have q:=PySem.IsL.update e f;rw[g]at q;refine I.write (x:=l) (e:=l) (by rw[i];exact trivial) (.inl rfl) (λj u h d=>(gd s.heap (Obj.mapSeq f) (Pt h)).trans d) ⟨_,q⟩ ?_;exact⟨hz,its',_,c,q⟩
theorem Inv.Nx{a:List Value}{t':Nat}(I:Inv X pins σ H s)(c:Vals ys a)(hz:ys.length<=sizeLine):
 Inv X pins σ (upd H s.heap.objs.size (.lst ys)) {s with heap:=s.heap.push {cls:=.type "list",data:=.seq a.toArray},toks:=t'}:=
 I.laid (λ_ _ q=>Da _ q) (Do _) ⟨hz,a,0,c,Hb _ rfl⟩
theorem Inv.fresh(I:Inv X pins σ H s):H s.heap.objs.size=none:=I.hok.fresh (Do _)
theorem Inv.EL(I:Inv X pins σ H s)(c:H l=some (.lst xs)):xs.length<=sizeLine/\∃(a:List Value)(n:Nat),Vals xs a/\xs.length=a.length/\s.heap.get? l=some {cls:=.type "list",data:=.seq a.toArray n}:=by obtain⟨z,a,n,r,e⟩:=I.hok l _ c;exact⟨z,a,n,r,r.length,e⟩
theorem EM{n:Nat}(h:n<=sizeLine):Builtin.List.listTooLong n=false:=by unfold Builtin.List.listTooLong;exact OK (by omega)
end
section
variable{X:Cx}
noncomputable def lD:V->List V->Hp->VK->Prop:=λx b H Q=>∃l a y,x=.ref l/\b=[y]/\H l=some (.lst a)/\a.length<sizeLine/\Q .aS (upd H l (.lst (a++[y])))
theorem gX:VW X "list.append" lD:=by intro b s g H x j v k Q I d rv h;obtain⟨l,i,y,rfl,rfl,c,hz,q⟩:=h;cases d;obtain⟨u,rfl,f⟩:=rv.one;obtain⟨z,a,n,r,m,e⟩:=I.EL c;refine call_meets F.slot_list_append ⟨_,e,rfl⟩ F.entry_list_append (F.args_list_append_2 _ _) (PySem.list_append l a.toArray n u (by rw[FR];omega)) ⟨e,?_⟩;refine⟨.aS,_,I.Nv (its':=a++[u]) c e (by simp) (r.append (.cons f .nil)) ?_,rfl,q⟩;rw[Fh,List.length_singleton];omega
noncomputable def VX:V->List V->Hp->VK->Prop:=λx b H Q=>∃l a y,x=.ref l/\b=[]/\H l=some (.lst a)/\a[a.length -1]?=some y/\Q y (upd H l (.lst a.dropLast))
theorem Ny:VW X "list.pop" VX:=by
 intro c s o H x t v w Q I f rv h;obtain⟨l,p,y,rfl,rfl,d,i,q⟩:=h;cases f;have m:=rv.zero;subst m;obtain⟨z,a,n,r,k,e⟩:=I.EL d;obtain⟨u,j,g⟩:=r.get i;have b:a.toArray[a.toArray.size -1]?=some u:=by show a.toArray[a.length -1]?=some u;rw[←Array.getElem?_toList,←k];exact j
 refine call_meets F.slot_list_pop ⟨_,e,rfl⟩ F.entry_list_pop (F.args_list_pop_1 _) (MeetsSeq.list_pop_last l a.toArray n u b (by rw[FR];omega)) ⟨e,?_⟩;refine⟨y,_,I.Nv (its':=a.dropLast) d e ?_ r.dropLast ?_,g,q⟩
 ·show a.toArray.eraseIdxIfInBounds (a.toArray.size -1)=a.dropLast.toArray;rw[FR,List.eraseIdxIfInBounds_toArray,zy]
 ·rw[List.length_dropLast];omega
noncomputable def EN:V->List V->Hp->VK->Prop:=λx b H Q=>∃l a,x=.ref l/\b=[]/\H l=some (.lst a)/\Q .aS (upd H l (.lst []))
theorem EO:VW X "list.clear" EN:=by intro b s g H x j v k Q I d rv h;obtain⟨l,i,rfl,rfl,c,q⟩:=h;cases d;have f:=rv.zero;subst f;obtain⟨z,a,n,r,m,e⟩:=I.EL c;refine call_meets F.slot_list_clear ⟨_,e,rfl⟩ F.entry_list_clear (F.args_list_clear_1 _) (AutoSeq1.list_clear_list_0 l a.toArray n (by rw[FR];omega)) ⟨e,?_⟩;exact⟨.aS,_,I.Nv (its':=[]) (ys:=[]) c e rfl .nil (Kk _),rfl,q⟩
noncomputable def VZ:R2:=λx y H Q=>∃l b c a,x=.ref l/\y=.ref b/\H l=some (.lst c)/\H b=some (.lst a)/\c.length+a.length<=sizeLine/\∀p,H p=none->Q (.ref p) (upd H p (.lst (c++a)))
theorem Nz:kF X (binaryOp .Add) VZ:=by
 intro d s t H x y v u Q I g f h;obtain⟨l,b,B,w,rfl,rfl,k,m,hz,q⟩:=h;cases g;cases f;obtain⟨z,c,n,r,D,e⟩:=I.EL k;obtain⟨A,a,C,i,j,p⟩:=I.EL m;refine PySem.P.add_list e p ?_ (by rw[FR,FR];omega);have o:c.toArray++a.toArray=(c++a).toArray:=by simp
 rw[o];exact⟨.ref _,_,I.Nx (t':=s.toks) (r.append i) (by rw[Fh];omega),rfl,q _ I.fresh⟩
theorem len_rep{α:Type}(a:List α)(k:Nat):(List.replicate k a).flatten.length=k*a.length:=by
 induction k with
 |zero=>simp
 |succ k b=>rw[List.replicate_succ,List.flatten_cons,Fh,b,Nat.succ_mul,Nat.add_comm]
end
section
variable{prog:Program}{w:World}{A:Around}{E:Value->Shared->Prop}{s:Shared}
end
section
variable{X:Cx}
end
end L2
namespace XI
open PySem PySem.W PySem.Calls PyProof.Rows
theorem oO{P:Params}{h:Heap}:∀(ns:List Int)(vs:List Value),WellAll P h vs (ns.map WData.int)->IntsAre vs ns:=by
 intro ns
 induction ns with
 |nil=>intro vs w;rw[List.map_nil]at w;cases w;exact .nil
 |cons n ns c=>
  intro vs w;rw[QP]at w;cases w with
  |cons a b=>
   cases a;exact .cons _ _ (c _ b)
theorem CF{l:OpenLaw}{n:Nat}(u:l.most=some n){P:Params}{h:Heap}{args:List WData}{b:List Value}
 (c:l.row.toRowW.claim.pre args=true)(j:WellAll P h b args):
 ∃a vs ns,b=[Value.ref a]/\args=[WData.list (ns.map WData.int)]/\h.get? a=some {cls:=.type "list",data:=.seq vs.toArray}/\IntsAre vs ns/\ns.length<=n:=by
 have k:WShape.hasAll [] args [.list .int]=true:=(pre_splitW c).1;have m:l.pre.holds [] {args:=args}=true:=(pre_splitW c).2;obtain⟨d,r,rfl,x,w⟩:=hasAllW_cons k;obtain rfl:=hasAllW_nil w;obtain⟨y,rfl,v⟩:=hasW_list x;obtain⟨ns,rfl⟩:=items_int v;have e:ns.length<=n:=by
  unfold OpenLaw.pre at m;have i:(WTm.not (.lt (.lit (.int (n:Int))) (.len (.arg 0)))).holds [] {args:=[.list (ns.map .int)]}=true:=by have i:=(holds_andW m).1;rw[u]at i;exact i
  have g:=condW_of i (w_not (w_lt w_lit (w_len_list (w_arg rfl))));rw[Ap]at g;refine ky λq=>?_;have s:(n:Int)<((ns.length:Nat):Int):=by omega
  first
   |(rw[KM s]at g;exact absurd g (by decide))
   |(simp at g;omega)
 cases j with
 |cons p o=>
  cases o;cases p with
  |list t f=>exact⟨_,_,ns,rfl,rfl,t,oO ns _ f,e⟩
theorem CG(l:OpenLaw)(args:List WData):l.row.toRowW.claim.post args (.bool true) args=true:=
 postW_of (r:=l.row.toRowW) (X:=(true==true))
  (show WShape.has [] (.bool true) .bool=true by first|rfl|decide|simp[WShape.has,WShape.arms,WShape.armsAll])
  (show(WTm.eq .res (.lit (.bool true))).value [] {args:=args,res:=some (.bool true),after:=args}=some (.bool (true==true))from w_eq_bool (w_res rfl) w_lit) rfl
theorem wR{l:OpenLaw}{n:Nat}{q:Program}{e:List Str}{E:(Str->Option Value)->Heap->Prop}{D:World->Heap->Prop}{d:DefRec}
 (J:l.most=some n)(x:d.params.defaults=[])
 (call:∀(w:World)(c b:Shared)(mg t:Str->Option Value)(m:Addr)(o:Obj)(s p h:Value)(a:Addr)(vs:List Value)(ns:List Int),
   Ground q e [] E w c mg t b.heap->D w b.heap->
   b.heap.get? m=some o->o.data=.func (docDef d.name d.params d.body d.scope s p h)->b.heap.CodeRec p d.name->mg d.name=some (.ref m)->
   b.heap.get? a=some {cls:=.type "list",data:=.seq vs.toArray}->IntsAre vs ns->ns.length<=n->b.gens= #[]->
   codeAny (model l.prog w) callerA (.call (.ref m) ⟨[.ref a],[]⟩) (λr s'=>r=.ok (.ret (.bool true))/\OldK b.heap s'.heap/\s'.os=b.os/\AllBare s'.gens) b):
 WalkO q e E D l.row.toRowW d [] (λf vs=>PySem.call f vs):=by
 intro w c b mg t G Y m o s p h R kV I N y B v M C z S i A F u L;obtain rfl:R=.none:=Dflts.none B x;obtain rfl:kV=.none:=Dflts.noKw B;obtain⟨a,vs,ns,rfl,rfl,j,g,k⟩:=CF J i u;refine enter_call (ke (call w c b mg t m o s p h a vs ns G Y I (fd_plain N) y v j g k M) λr s' H=>?_);obtain⟨rfl,Q,P,O⟩:=H;exact⟨.inl ⟨.bool true,.bool true,[],rfl,λ_=>rfl,.bool true,CG l _,λ_=>⟨List.Pairwise.nil,λ_ K=>(nomatch K)⟩⟩,Q,P,O⟩
section
variable{prog:Program}{w:World}{A:Around}{E:Value->Shared->Prop}{s:Shared}{K:Frag}
end
end XI
namespace L2
open PySem PySem.Spec PyProof.Rows
theorem tM:∀{vs:List Value}{ns:List Int},IntsAre vs ns->Vals (ns.map V.int) vs
 |_,_,.nil=>.nil
 |_,_,.cons n t h=>.cons ⟨t,rfl⟩ (tM h)
noncomputable def ES(H:Hp):Prop:=∀b,H b=none\/∃o a,H b=some (.wF o (.lst a))
theorem ET{P:Program}{w:World}{K:Frag}{mg L:Str->Option Value}{CX:CB}{k:Nat}{O a:Addr}{X:FuncData}{x:Str}{sp:Sp}{c:Shared}{vs:List Value}{ns:List Int}
 (KX:K.In c.heap)(t:c.heap.Ns mainGlobals mg)(f:c.heap.Ns builtinsNs L)(YY:∀x:Str,x≠"__name__"->L x=bootBuiltins x)(y:c.heap.NoLimit)(G:c.heap.NoSeer)(Sw:P.given.tree=none)(hg:c.gens= #[])
 (A:c.heap.get? a=some {cls:=.type "list",data:=.seq vs.toArray})(T:IntsAre vs ns)(S:ns.length<=sizeLine)(hr:cC k callerA)
 (F:∀base:Heap,K.In base->base.Ns mainGlobals mg->aR P w K mg base CX k O X [x] sp)(j:∀(s:Shared)(u:Value),BindsTo s X ⟨[u],[]⟩ [(x,u)])
 (pT:∀H:Hp,ES H->gU K H a (ns.map V.int)->sp [.ref a] H (λv _=>v=.bl true) λ_ _ _=>False)
 (V1:∀H e s',CX [] H c (λ_ _ _=>False) e s'->False):
 codeAny (model P w) callerA (.call (.ref O) ⟨[.ref a],[]⟩) (λr s'=>r=.ok (.ret (.bool true))/\OldK c.heap s'.heap/\s'.os=c.os/\AllBare s'.gens) c:=by
 have rv:=tM T;have V2:=T.length;have g:∀H:Hp,ES H->gU K H a (ns.map V.int)->kX P w H c.heap->(∀b,H b≠none->b=a)->(H a≠none->K.lookup a=none)->
  codeAny (model P w) callerA (.call (.ref O) ⟨[.ref a],[]⟩) (λr s'=>r=.ok (.ret (.bool true))/\OldK c.heap s'.heap/\s'.os=c.os/\AllBare s'.gens) c:=by
  intro H U hS p N hK;have I:∀{b:Addr}{o:Obj},c.heap.get? b=some o->H b=none->(uA c.heap H).get? b=some o:=λe n=>El e n;have Sj:∀{b:Addr}{o:Obj}{B:Array DictEntry}{C:Nat},c.heap.get? b=some o->o.data=.dict B C->H b=none:=λ{b o B C} e d=>by
   cases q:H b with
   |none=>rfl
   |some u=>have D:b=a:=N b (by rw[q];simp);subst D;rw[A]at e;cases e;have Q:Data.seq vs.toArray _=Data.dict B C:=d;cases Q
  have i:∀{b:Addr}{m:Str->Option Value},c.heap.Ns b m->(uA c.heap H).Ns b m:=λ{b m} ⟨o,B,C,e,d,r⟩=>⟨o,B,C,I e (Sj e d),d,r⟩;have Z:K.In (uA c.heap H):=λb o e=>I (KX b o e) (by
   cases q:H b with
   |none=>rfl
   |some u=>have D:b=a:=N b (by rw[q];simp);subst D;rw[hK (by rw[q];simp)]at e;cases e)
  have YZ:∀{b:Addr}{o:Obj},c.heap.get? b=some o->o.cls=.type "module"->H b=none:=λ{b o} e d=>by
   cases q:H b with
   |none=>rfl
   |some u=>have D:b=a:=N b (by rw[q];simp);subst D;rw[A]at e;cases e;have Q:Value.type "list"=Value.type "module":=d;exact absurd Q (by decide)
  have hM:Mod K mg (uA c.heap H):=⟨Z,i t,⟨L,i f,YY⟩,let⟨mc,h1,h2⟩:=y;⟨mc,i h1,h2⟩,⟨let⟨m,h1,h2⟩:=G.statics;⟨m,i h1,h2⟩,let⟨m,h1,h2⟩:=G.mods;⟨m,i h1,h2⟩,let⟨m,h1,h2⟩:=G.imp;⟨m,i h1,h2⟩,let⟨m,bm,J,h1,h2,h3,h4,h5⟩:=G.main;⟨m,bm,J,i h1,h2,I h3 (YZ h3 h4),h4,h5⟩⟩⟩;have e0:zp P w K mg (uA c.heap H) callerA [] c H:=⟨rfl,hM,λb o e=>HY e,i4 (Ck _ _),trivial,λb f=>absurd (show b∈([]:List Addr)from f) (by simp),p,.of_eq hg,Sw⟩;refine ke ((F _ Z (i t)).run callerA [] c H ⟨[.ref a],[]⟩ [.ref a] [.ref a] _ _ hr e0 (j c (.ref a)) (.cons rfl .nil) (pT H U hS)) λr s' h=>?_;cases r with
  |error e=>exact(V1 H e s' h).elim
  |ok fl=>
   cases fl with
   |next=>exact False.elim h
   |brk=>exact False.elim h
   |cont=>exact False.elim h
   |ret u=>
    obtain⟨v,H',os,E,R,V3,r',q⟩:=h;have q':v=.bl true:=q;subst q';obtain rfl:u=Value.bool true:=r';refine⟨rfl,OldK.of_keep λb o e=>?_,os,E⟩;cases q:H b with
    |none=>exact R.keep b o e q (by intro z;exact absurd (show b∈([]:List Addr)from z) (by simp)) (by simp)
    |some u=>
     rcases U b with z|⟨J,xs,z⟩
     ·rw[q]at z;cases z
     ·have z2:=R.ku b J _ z;obtain⟨Y,_⟩:=p b _ z;obtain⟨e2,_⟩:=V3 b _ z2;rw[e]at Y;cases Y;exact e2
 cases M:K.lookup a with
 |some o=>have e:=KX a o M;rw[A]at e;cases e;refine g (λ_=>none) (λ_=>.inl rfl) (.inr ⟨_,vs.toArray,_,M,rfl,rfl,rfl,by rw[FR,V2];exact S,by simpa using rv⟩) (λb u z=>by have l:(none:Option HO)=some u:=z;cases l) (λb z=>absurd rfl z) λz=>absurd rfl z
 |none=>
  refine g (λb=>if b=a then some (.wF {cls:=.type "list",data:=.seq vs.toArray} (.lst (ns.map V.int)))else none) (λb=>?_) (.inl (.inr ⟨{cls:=.type "list",data:=.seq vs.toArray},Bz rfl⟩)) (λb u z=>?_) (λb z=>?_) λ_=>M
  ·by_cases f:b=a
   ·exact .inr ⟨_,_,Bz f⟩
   ·exact .inl (BM f)
  ·by_cases f:b=a
   ·have l:=(Bz f).symm.trans z;cases l;subst f;exact⟨A,by rw[Ap];exact S,vs,_,rv,A⟩
   ·have l:=(BM f).symm.trans z;cases l
  ·by_cases f:b=a
   ·exact f
   ·exact absurd (BM f) z
theorem IA{l:PySem.W.OpenLaw}{n k:Nat}{q:Program}{i:List Str}{X:(Str->Option Value)->Heap->Prop}{D:World->Heap->Prop}{d:DefRec}{K:Params->Frag}{CX:World->CB}{sp:World->Sp}{x:Str}
 (L:l.most=some n)(y:n<=sizeLine)(A:d.params.defaults=[])(J:cC k callerA)(Z:importsNone q=true)(t:l.prog.given.tree=none)
 (P:∀(w:World)(h:Heap),D w h->(K w.params).In h)
 (F:∀(w:World)(mg:Str->Option Value)(r:Addr)(h:Heap),(K w.params).In h->h.Ns mainGlobals mg->mg d.name=some (.ref r)->
   ∃B:FuncData,(∀(s:Shared)(u:Value),BindsTo s B ⟨[u],[]⟩ [(x,u)])/\
    ∀base:Heap,(K w.params).In base->base.Ns mainGlobals mg->aR l.prog w (K w.params) mg base (CX w) k r B [x] (sp w))
 (I:∀(w:World)(H:Hp)(a:Addr)(ns:List Int),ns.length<=n->ES H->gU (K w.params) H a (ns.map V.int)->sp w [.ref a] H (λv _=>v=.bl true) λ_ _ _=>False)
 (V1:∀(w:World)(H:Hp)(s:Shared)(e:Value)(s':Shared),CX w [] H s (λ_ _ _=>False) e s'->False):
 PySem.W.WalkO q i X D l.row.toRowW d [] (λf vs=>PySem.call f vs):=by
 refine XI.wR L A λw C m mg mb r o pm cd U a vs ns G Y ho hd N z p j c M=>?_;have E:=P w _ Y;obtain⟨B,O,S⟩:=F w mg r _ E G.T.g z;exact ET E G.T.g G.T.b G.T.builtins G.T.nolimit (G.T.seer Z) t M p j (DD c y) J S O (λH R Q=>I w H a ns c R Q) λH e s'=>V1 w H m e s'
noncomputable def inClass(s:Stmt)(j:Nat):Stmt:=match s with
 |.ClassDef _ _ _ body _ _ _ _ _ _ _=>body.getD j (.Pass ⟨0,0,0,0⟩)
 |_=>.Pass ⟨0,0,0,0⟩
noncomputable def cD(s:Stmt):Arguments:=match s with
 |.FunctionDef _ a _ _ _ _ _ _ _ _=>a
 |_=>{posonlyargs:=[],args:=[],vararg:=none,kwonlyargs:=[],kw_defaults:=[],kwarg:=none,defaults:=[]}
noncomputable def ak(s:Stmt):List Stmt:=match s with
 |.FunctionDef _ _ b _ _ _ _ _ _ _=>b
 |_=>[]
noncomputable def aa(s:Stmt):Scope:=match s with
 |.FunctionDef _ _ _ _ _ _ sc _ _ _=>sc
 |_=>{kind:=.function,names:=[],isGenerator:=false,isCoroutine:=false}
abbrev IB:CB:=λ_ _ _ _ _ _=>False
abbrev E0:XK:=λ_ _ _=>False
theorem Sx{X:Cx}:Passes IB X E0:=λ_ _ _ _ _ _ _ h=>h.elim
structure CH(K:Frag)(x qual:Str)(st:Stmt)(f:Addr)(fd:FuncData):Prop where
 ex:∃(oc:Value)(od:Option Addr)(kV doc pm:Value)(an:Option Addr)(cdv ct:Value)(osl:Array (Option Value)),
  fd=fnOf x qual (cD st) (ak st) (aa st) .none kV doc pm an cdv ct/\K.lookup f=some ⟨oc,od,.func fd,osl⟩/\codeIn K cdv qual=true
 kp:keepIn K (.ref f)=true
section
variable{P:Program}{w:World}{K:Frag}{mg:Str->Option Value}{base:Heap}
theorem CH.ok{x b:Str}{st:Stmt}{f:Addr}{i:FuncData}{N ps:List Str}{k:Nat}{sp:Sp}(F:CH K x b st f i)(S:aD N ps (aa st))(e:∀vs H Q E,sp vs H Q E->vs.length=ps.length)
 (d:∀(c:Value)(A:Around)(a:List Env)(s:Shared)(H:Hp)(vs:List V)(Q:VK)(E:XK),cC k (A.deeper (envOfC b (aa st) s.heap.objs.size f c))->sp vs H Q E->
   ∃t,se (zu IB P w K mg base N b (aa st) f c A a s H E).kC (ak st) t/\t {nx:=λ_ H'=>Q .aS H',rt:=Q} (start N vs) H):aR P w K mg base IB (k+1) f i ps sp:=by
 obtain⟨u,r,kV,o,p,y,c,v,l,rfl,m,g⟩:=F.ex;refine LW m g S e λA a s H vs Q E n j=>?_;obtain⟨t,h,q⟩:=d c A a s H vs Q E n j;exact⟨t,h.kC,q⟩
theorem CH.binds{x a:Str}{st:Stmt}{f:Addr}{i:FuncData}{ps:List Str}(F:CH K x a st f i)
 (h:∀(kV b d:Value)(g:Option Addr)(c e:Value)(us:List Value),us.length=ps.length->bindArgs (fnOf x a (cD st) (ak st) (aa st) .none kV b d g c e) ⟨us,[]⟩=pure (ps.zip us)):Binds K i ps []:=by
 obtain⟨m,l,kV,b,d,g,c,e,j,rfl,n,k⟩:=F.ex;exact .all (h kV b d g c e)
theorem EU{x a:Str}{st:Stmt}{f:Addr}{m:Value}{j i:Option Addr}{e:Array (Option Value)}{kV d g b h:Value}(l:K.lookup f=some ⟨m,j,.func (fnOf x a (cD st) (ak st) (aa st) .none kV d g i b h),e⟩)
 (c:codeIn K b a=true)(k:keepIn K (.ref f)=true):CH K x a st f (fnOf x a (cD st) (ak st) (aa st) .none kV d g i b h):=⟨⟨m,j,kV,d,g,i,b,h,e,rfl,l,c⟩,k⟩
end
theorem CI{n:Nat}(h:n<=1000):n<sizeLine:=Fm h (by decide)
section
variable{X:Cx}
theorem pv(i:Nat){x:Str}{pos:Pos}(d:X.N[i]?=some x:=by rfl)(b:Ra X.env.scope x:=by first|exact Or.inl rfl|exact Or.inr (Or.inl rfl)|exact Or.inr (Or.inr rfl))(c:(x==("__debug__":Str))=false:=by decide)
 (a:(x==("__classdict__":Str))=false:=by decide):PE X (.Name x pos) (jQ i):=Eo d b c a
end
noncomputable def aq(H H':Hp):Prop:=∀b o,H b=some o->H' b=some o
theorem aq.refl(H:Hp):aq H H:=λ_ _ h=>h
theorem aq.trans{H H1 d:Hp}(a:aq H H1)(b:aq H1 d):aq H d:=λc o h=>b c o (a c o h)
theorem aq.free{H H':Hp}(e:aq H H'){l:Addr}(h:H' l=Option.none):H l=Option.none:=by
 cases q:H l with
 |none=>rfl
 |some o=>rw[e l o q]at h;cases h
theorem bits_le{x:Int}{n:Nat}(h:x.natAbs<2^n):Builtin.Int.intBits x<=n:=by
 unfold Builtin.Int.intBits;split
 ·exact Kk _
 ·rename_i hx
  have a:x.natAbs≠0:=λe=>hx (by simp[Int.natAbs_eq_zero.mp e]);have:=(Nat.log2_lt a).mpr h;omega
theorem zA{i j:Int}(h:Builtin.Int.intBits i+Builtin.Int.intBits j<=134217728):IntMulOk i j:=by
 unfold IntMulOk Builtin.Int.intTooBig;have a:¬((Builtin.Int.intBits i:Int)+(Builtin.Int.intBits j:Int)>((bitsLine:Nat):Int)):=by rw[bitsLine_eq];omega
 intro z;rw[AN]at z;exact a (Bi z.2)
section
variable{X:Cx}
theorem IC:kF X (binaryOp .Mult) (rI IntMulOk λi j=>.int (i*j)):=R7 λ_ _ _ _ _ _ _ a q=>mul_int q a
noncomputable def tN(_ j:Int):Prop:=j≠0/\j.natAbs.log2<1000000000
theorem EV:kF X (binaryOp .FloorDiv) (rI tN λi j=>.int (i.fdiv j)):=λa s e H x y v u Q I c b h=>by obtain⟨i,j,rfl,rfl,d,q⟩:=h;obtain⟨t,rfl⟩:=c;obtain⟨f,rfl⟩:=b;exact floordiv_int d.1 ⟨.int (i.fdiv j),H,I.tok _,⟨_,rfl⟩,q⟩ (.inr (I.ok.RO X.A s rfl rfl I.bk))
end
theorem aG{H:Hp}{p:Addr}(h:H p=none)(o:HO):aq H (upd H p o):=λb u q=>by rw[ah (aO q h)];exact q
theorem EW{H H':Hp}{p:Addr}(s:aq H H')(h:H p=none)(o:HO):aq H (upd H' p o):=λb u q=>by rw[ah (aO q h)];exact s b u q
theorem aq.tup{K:Frag}{H H':Hp}{a:Addr}{b:List V}(e:aq H H')(h:kY K H a b):kY K H' a b:=by
 rcases h with(h|⟨o,h⟩)|h
 ·exact .inl (.inl (e _ _ h))
 ·exact .inl (.inr ⟨o,e _ _ h⟩)
 ·exact .inr h
theorem fG{n:Nat}(h:n<=100000):n<=sizeLine:=DD h (by decide)
end L2
namespace L2
theorem iO{i j:Int}(c:0<=j)(b:j<=1000000)(a:i.natAbs<2^64):Cu i j:=⟨c,b,a⟩
end L2
namespace L2
open PySem PySem.Spec PyProof.Rows
theorem wU{H:Hp}{p q:Addr}{o u:HO}(a:H q=some u)(b:H p=none):upd H p o q=some u:=by rw[ah (aO a b)];exact a
noncomputable def Cn(e:Addr)(h:Heap):Prop:=∃b a,h.get? e=some b/\b.data=.fields a/\a[2]?=some Value.none
inductive Kp:{α:Type}->Sem α->Prop
 |pure {α:Type} (a:α):Kp (.pure a)
 |raise {α:Type} (e:Value):Kp (.raise e:Sem α)
 |CJ {α:Type} (w:String):Kp (.unsupported w:Sem α)
 |rule {α:Type} (t:String) (k:Unit->Sem α) (h:Kp (k ())):Kp (.rule t k)
 |load {α:Type} (a:Addr) (p:Option Value) (k:Obj->Sem α) (h:∀o,Kp (k o)):Kp (.load a p k)
 |update {α:Type} (a:Addr) (p:Option Value) (f:Obj->Obj) (k:Unit->Sem α) (hf:∀o vs,o.data=.fields vs->vs[2]?=some Value.none->∃vs',(f o).data=.fields vs'/\vs'[2]?=some Value.none) (h:Kp (k ())):Kp (.update a p f k)
 |alloc {α:Type} (o:Obj) (k:Addr->Sem α) (h:∀a,Kp (k a)):Kp (.alloc o k)
 |stack {α:Type} (k:List (Code×Pos)->Sem α) (h:∀l,Kp (k l)):Kp (.stack k)
theorem Kp.bind{α c:Type}{m:Sem α}{f:α->Sem c}(h:Kp m)(i:∀a,Kp (f a)):Kp (m.bind f):=by
 induction h with
 |pure a=>exact i a
 |raise e=>exact .raise e
 |CJ w=>exact .CJ w
 |rule t k _ b=>exact .rule t _ b
 |load a p k _ b=>exact .load a p _ b
 |update a p g k d _ b=>exact .update a p g _ d b
 |alloc o k _ b=>exact .alloc o _ b
 |stack k _ b=>exact .stack _ b
theorem Cn.update{e a:Addr}{h:Heap}{f:Obj->Obj}(c:Cn e h)(l:∀o vs,o.data=.fields vs->vs[2]?=some Value.none->∃b,(f o).data=.fields b/\b[2]?=some Value.none):Cn e (h.update a f):=by
 obtain⟨d,vs,j,i,g⟩:=c;by_cases q:a=e
 ·subst q;obtain⟨b,k,m⟩:=l d vs i g;exact⟨f d,b,Heap.get?_update_self _ j (Obj.isFreed_of_fields k),k,m⟩
 ·exact⟨d,vs,(gd _ _ q).trans j,i,g⟩
theorem Cn.push{e:Addr}{h:Heap}{o:Obj}(c:Cn e h):Cn e (h.push o):=by obtain⟨b,a,f,d⟩:=c;exact⟨b,a,Da _ f,d⟩
theorem Kp.wp{α:Type}{t:Sem α}{M:Model}{g:PySem.Ctx}{e:Addr}(h:Kp t):∀{Q:α->Pos->Shared->Prop}{E:Value->Pos->Shared->Prop}{p:Pos}{s:Shared},Sem.wp M g t Q E p s->Cn e s.heap->Sem.wp M g t (λa d s'=>Q a d s'/\Cn e s'.heap) (λx d s'=>E x d s'/\Cn e s'.heap) p s:=by
 induction h with
 |pure a=>intro Q E p s w c;rw[Sem.wp]at w⊢;exact⟨w,c⟩
 |raise x=>intro Q E p s w c;rw[Sem.wp]at w⊢;exact⟨w,c⟩
 |CJ x=>intro Q E p s w c;rw[Sem.wp]at w;exact w.elim
 |rule t k _ b=>intro Q E p s w c;rw[Sem.wp]at w⊢;exact b w c
 |load a q k _ b=>intro Q E p s w c;rw[Sem.wp]at w⊢;obtain⟨o,l,j⟩:=w;exact⟨o,l,b o j c⟩
 |update a q f k i _ b=>intro Q E p s w c;rw[Sem.wp]at w⊢;exact⟨w.1,b w.2 (c.update i)⟩
 |alloc o k _ b=>intro Q E p s w c;rw[Sem.wp]at w⊢;exact b _ w c.push
 |stack k _ b=>intro Q E p s w c;rw[Sem.wp]at w⊢;exact b _ w c
theorem Kp.any{α:Type}{t:Sem α}{M:Model}{A:Around}{e:Addr}{Q:α->Shared->Prop}{E:Value->Shared->Prop}{s:Shared}(h:Kp t)(c:Cn e s.heap)(w:wpAny M A t Q E s):wpAny M A t (λa s'=>Q a s'/\Cn e s'.heap) (λx s'=>E x s'/\Cn e s'.heap) s:=λd p b=>h.wp (w d p b) c
theorem Kp.use{α:Type}{t:Sem α}{M:Model}{A:Around}{e:Addr}{Q:α->Shared->Prop}{E:Value->Shared->Prop}{s:Shared}(h:Kp t)(c:Cn e s.heap)(w:wpAny M A t (λa s'=>Cn e s'.heap->Q a s') (λx s'=>Cn e s'.heap->E x s') s):wpAny M A t Q E s:=UF (h.any c w) (λ_ _ z=>z.1 z.2) λ_ _ z=>z.1 z.2
theorem wV(v:Value):Kp (fieldsOf v):=by
 unfold fieldsOf;cases v<;>first|exact .CJ _|skip
 refine Kp.bind (.load _ _ _ λo=>.pure o) λo=>?_;split
 ·exact .pure _
 ·exact .CJ _
theorem lE(v:Value)(i:Nat):Kp (field v i):=by
 unfold field;refine Kp.bind (wV v) λa=>?_;split
 ·exact .pure _
 ·exact .CJ _
theorem jg(v:Value){i:Nat}(x:Value)(b:i≠2):Kp (setField v i x):=by
 unfold setField;cases v<;>first|exact .CJ _|skip
 unfold updateField;refine Kp.bind (.load _ _ _ λo=>.pure o) λo=>?_;split
 ·split
  ·refine .update _ _ _ _ (λo a d c=>⟨a.setIfInBounds i x,Obj.data_mapFields d _,?_⟩) (.pure ());rw[Array.getElem?_setIfInBounds_ne b];exact c
  ·exact .CJ _
 ·exact .CJ _
theorem ID:Kp frameEnvs:=Kp.bind (.stack _ λl=>.pure l) λl=>.pure _
theorem kp_back(env:Env)(b:Bool):∀l,Kp (keptBack env b l)
 |[]=>by
  rw[keptBack];split
  ·exact .pure _
  ·exact Kp.bind (Kp.bind (.stack _ λl=>.pure l) λl=>.pure _) λa=>.pure _
 |c::_=>.pure _
theorem CK(env:Env)(l:List Env):Kp (behindIsImport env l):=by
 unfold behindIsImport;split
 ·exact .pure _
 ·split
  ·exact .pure _
  ·exact Kp.bind (lE _ _) λa=>.pure _
theorem kp_ready:∀l,Kp (readyFrames l)
 |[]=>.pure ()
 |env::outer=>by
  unfold readyFrames;split
  ·refine Kp.bind (.load _ _ _ λo=>.pure o) λo=>?_;split
   ·exact .pure ()
   ·refine Kp.bind (CK env outer) λb=>Kp.bind (kp_back env b outer) λv=>Kp.bind (.update _ _ _ _ (λo vs c a=>⟨vs,c,a⟩) (.pure ())) λ_=>kp_ready outer
  ·exact .CJ _
theorem pU:∀l,Kp (frameObject l)
 |[]=>.pure _
 |env::outer=>Kp.bind (kp_ready _) λ_=>.pure _
theorem zB(env:Env):Kp (PySem.frameOf env):=by
 unfold PySem.frameOf;refine Kp.bind ID λl=>Kp.bind (pU _) λo=>?_;split
 ·exact .pure _
 ·exact .CJ _
theorem EX(f:Addr)(b:Bool):Kp (entryPlaceOf f b):=by
 unfold entryPlaceOf;refine Kp.bind (.stack _ λl=>.pure l) λl=>?_;split
 ·exact .pure _
 ·exact .pure _
theorem wX(a b c d e:Value)(l:List Value):Kp (EntryCells.newEntry a b c d e l):=by
 unfold EntryCells.newEntry newFields;generalize([a,b,c,d,e]++(if l.isEmpty then List.replicate 6 .none else l)).toArray=z;unfold newObj;have f:∀(T:String)(x:Data),Kp (newObjAsIs (.type T) x none):=λT x=>by unfold newObjAsIs;exact Kp.bind (.alloc _ _ λa=>.pure a) λa=>.pure _
 dsimp only;split
 ·exact Kp.bind (.CJ _) λ_=>f _ _
 ·exact f _ _
theorem nB(v:Value)(f:Option Addr):Kp (setFlight v f):=by
 unfold setFlight;refine Kp.bind (lE v 1) λt=>?_;split
 ·exact jg _ _ (by decide)
 ·exact .pure ()
theorem AR(v:Value)(env:Env):Kp (noteFrame v env):=by
 unfold noteFrame;split
 ·rename_i f _
  refine Kp.bind (lE v 1) λt=>?_;have rest:∀t:Value,Kp (do setField v 1 (←EntryCells.newEntry t (←PySem.frameOf env) .none (rawInt f) .none (←entryPlaceOf f (t !=.none))):Sem Unit):=λt=>Kp.bind (zB env) λf=>Kp.bind (EX _ _) λl=>Kp.bind (wX _ _ _ _ _ _) λe=>jg _ _ (by decide);dsimp only;split
  ·refine Kp.bind (lE t 3) λx=>?_;split
   ·exact .pure ()
   ·exact Kp.bind (jg _ _ (by decide)) λ_=>rest t
  ·exact rest t
 ·exact .CJ _
theorem pV(env:Env)(v:Value):Kp (leaving env v):=Kp.bind (AR v env) λ_=>nB v none
theorem bX.thing{P:Program}{w:World}{H:Hp}{h:Heap}{a:Addr}{o:HO}(x:bX P w H h a o):∃b,h.get? a=some b:=by
 cases o with
 |lst d=>obtain⟨_,_,_,_,e⟩:=x;exact⟨_,e⟩
 |tup d=>obtain⟨_,_,_,b,e,_⟩:=x;exact⟨_,e⟩
 |dK c=>obtain⟨_,_,_,_,b,_,_,e,_⟩:=x;exact⟨_,e⟩
 |dT c=>obtain⟨_,_,_,_,b,_,_,e,_⟩:=x;exact⟨_,e⟩
 |set S n=>obtain⟨b,_,_,_,e,_⟩:=x;exact⟨_,e⟩
 |ins C l g=>obtain⟨_,_,_,e,_⟩:=x;exact⟨_,e⟩
 |own y=>exact x
 |xd g=>obtain⟨_,⟨_,_,_,e,_⟩,_⟩:=x;exact⟨_,e⟩
 |oj j k=>obtain⟨_,_,_,e⟩:=x;exact⟨_,e⟩
 |wF b u=>obtain⟨e,_⟩:=x;exact⟨_,e⟩
 |LL i=>exact⟨_,x⟩
 |met f y=>exact⟨_,x⟩
 |ext φ=>obtain⟨_,e,_⟩:=x;exact e
theorem kX.gone{P:Program}{w:World}{H:Hp}{h:Heap}{a:Addr}(x:kX P w H h)(e:h.get? a=none):H a=none:=by
 cases q:H a with
 |none=>rfl
 |some u=>obtain⟨b,z⟩:=(x a u q).thing;rw[e]at z;cases z
theorem kX.tracked{P:Program}{w:World}{H:Hp}{h h':Heap}(x:kX P w H h)(k:∀b u c,H b=some u->h.get? b=some c->h'.get? b=some c):kX P w H h':=λa o e=>
 (x a o e).stay (λb u z q=>by
   rcases z with rfl|z
   ·exact k b o u e q
   ·exact k b _ u z q) (λ_ q=>q) λ_ _ q=>q
structure XM(P:Program)(w:World)(outer:List Env)(H:Hp)(s:Shared)(H':Hp)(a C:Addr)(s':Shared):Prop where
 os:s'.os=s.os
 bare:AllBare s'.gens
 un:Un (frs outer) [] H H' s.heap s'.heap
 hok:kX P w H' s'.heap
 new:H' a=none
 old:s.heap.get? a=none
 Sy:∃(B:Heap)(a0:Value),Heap.FlyingW B outer a (.ref C) a0 s'.heap/\∀b o,s'.heap.get? b=some o->b∉frs outer->((∃o',s.heap.get? b=some o')\/∃u,H' b=some u)->B.get? b=some o
 cn:Cn a s'.heap
noncomputable def dP(P:Program)(w:World):CB:=λb H s E e d=>∃a C c,e=.ref a/\XM P w b H s c a C d/\E (.ref C) none c
section
variable{P:Program}{w:World}{K:Frag}{mg:Str->Option Value}{base:Heap}{N:List Str}{qual:Str}{scope:Scope}{f:Addr}{cd:Value}{A:Around}{outer:List Env}{s:Shared}{H:Hp}{E:XK}
abbrev lu(P:Program)(w:World)(K:Frag)(mg:Str->Option Value)(base:Heap)(N:List Str)(qual:Str)(scope:Scope)(f:Addr)(cd:Value)(A:Around)(outer:List Env)(s:Shared)(H:Hp)(E:XK):Cx:=
 zu (dP P w) P w K mg base N qual scope f cd A outer s H E
theorem pW{e:Env}{l:List Env}{L b:Addr}(a:e.frame=some L):b∈frs (e::l)↔b=L\/b∈frs l:=by unfold frs;rw[List.filterMap_cons,a];exact Fk
theorem wY{g:List (Addr×Obj)}{t:St}{H1 r:Hp}{i:Shared}{p:Heap}(I:Inv (lu P w K mg base N qual scope f cd A outer s H E) g t H1 i)
 (u:Un (frs (lu P w K mg base N qual scope f cd A outer s H E).stack) [] H1 r i.heap p):Un (frs outer) [] H r s.heap p:=by
 have C:(lu P w K mg base N qual scope f cd A outer s H E).env.frame=some s.heap.objs.size:=rfl;have m:∀b,b∈frs (lu P w K mg base N qual scope f cd A outer s H E).stack↔b=s.heap.objs.size\/b∈frs outer:=λb=>pW C;have c:Un (frs outer) [] H H1 s.heap i.heap:=I.base;have D:∀b o,s.heap.get? b=some o->b∉frs outer->b∉frs (lu P w K mg base N qual scope f cd A outer s H E).stack:=λb o q d z=>by
  rcases(m b).mp z with z|z
  ·exact absurd (FS q) (by rw[z];exact NM _)
  ·exact d z
 refine⟨λb o q n d a=>?_,λb o q n d a=>?_,λb o q n a=>?_,λb o q a=>?_,λb l q=>u.tups b l (c.tups b l q),λb o v q=>u.ku b o v (c.ku b o v q),λb x q=>?_⟩
 ·exact u.keep b o (c.keep b o q n d a) (c.free b o q n a) (D b o q d) a
 ·obtain⟨F,e⟩:=c.slot b o q n d a;obtain⟨h,k⟩:=u.slot b _ e (c.free b o q n a) ((m b).mpr (.inr d)) a;exact⟨h,k⟩
 ·obtain⟨j,e⟩:=c.there b o q a;exact u.free b j e (c.free b o q n a) a
 ·obtain⟨j,e⟩:=c.there b o q a;exact u.there b j e a
 ·obtain⟨B,e⟩:=c.ly b x q;obtain⟨y,k⟩:=u.ly b _ e;exact⟨B++y,by rw[k,Array.append_assoc]⟩
theorem zC{l:List Env}{H1 t:Hp}{p g h:Heap}(u:Un (frs l) [] H1 t p g)(k:∀b o,g.get? b=some o->b∉frs l->((∃c,p.get? b=some c)\/∃u,t b=some u)->h.get? b=some o)
 (ff:∀b,b∈frs l->∃o,g.get? b=some o/\∀vs,o.data≠.fields vs)(up:g.UpToSlots h):Un (frs l) [] H1 t p h:=by
 have v:∀b o,b∈frs l->g.get? b=some o->∃m,h.get? b=some {o with slots:=m}:=λb o a q=>by obtain⟨c,e,x⟩:=ff b a;rw[q]at e;cases e;exact up b o q x
 refine⟨λb o q n a d=>k b o (u.keep b o q n a d) a (.inl ⟨o,q⟩),λb o q n a d=>?_,u.free,λb o q d=>?_,u.tups,u.ku,u.ly⟩
 ·obtain⟨m,i⟩:=u.slot b o q n a d;obtain⟨j,r⟩:=v b _ a i;exact⟨j,r⟩
 ·obtain⟨c,i⟩:=u.there b o q d;by_cases a:b∈frs l
  ·obtain⟨m,r⟩:=v b c a i;exact⟨_,r⟩
  ·exact⟨c,k b c i a (.inl ⟨o,q⟩)⟩
theorem EY{b:List (Addr×Obj)}{d:St}{H1:Hp}{c:Shared}{a:Addr}(I:Inv (lu P w K mg base N qual scope f cd A outer s H E) b d H1 c)(e:c.heap.get? a=none):s.heap.get? a=none:=by
 have g:Un (frs outer) [] H H1 s.heap c.heap:=I.base;cases q:s.heap.get? a with
 |none=>rfl
 |some o=>obtain⟨h,z⟩:=g.there a o q (by simp);rw[e]at z;cases z
theorem zD{d:List (Addr×Obj)}{L:St}{H1:Hp}{c:Shared}{h':Heap}{a C:Addr}{k:List Value}(I:Inv (lu P w K mg base N qual scope f cd A outer s H E) d L H1 c)
 (i:Heap.MadeExcOf c.heap h' a (.ref C) k)(q:E (.ref C) none H1):(lu P w K mg base N qual scope f cd A outer s H E).xe (.ref a) {c with heap:=h'}:=by
 have D:(lu P w K mg base N qual scope f cd A outer s H E).env.frame=some s.heap.objs.size:=rfl;have S:∀b,b∈frs (lu P w K mg base N qual scope f cd A outer s H E).stack↔b=s.heap.objs.size\/b∈frs outer:=λb=>pW D;have ff:=I.stack;have n:∀env∈(lu P w K mg base N qual scope f cd A outer s H E).stack,∀b,env.frame=some b->b∈frs (lu P w K mg base N qual scope f cd A outer s H E).stack:=λenv p b r=>List.mem_filterMap.mpr ⟨env,p,r⟩;have G:=PySem.W.funFrames_hide ff n;obtain⟨te,p,_⟩:=i.there;refine Kp.use (e:=a) (pV _ _) ⟨_,_,p,rfl,rfl⟩ ?_;refine wpAny_leaves_madeW (base:=PySem.W.hideAll c.heap (frs (lu P w K mg base N qual scope f cd A outer s H E).stack)) (h:=c.heap) I.ok.frames D (λb o z=>PySem.W.of_hideAll _ z) G i λl t y Z Y O X=>?_;have v:∀b o,c.heap.get? b=some o->b∉frs (lu P w K mg base N qual scope f cd A outer s H E).stack->l.get? b=some o:=λb o z g=>y.1 b o (hideAll_get _ z g);have fm:∀b,b∈frs (lu P w K mg base N qual scope f cd A outer s H E).stack->∃o,c.heap.get? b=some o/\∀Q,o.data≠.fields Q:=λb r=>(G.mem r).2;have up:c.heap.UpToSlots l:=(Heap.UpToSlots.of_keeps i.keeps).trans O;have R:Un (frs (lu P w K mg base N qual scope f cd A outer s H E).stack) [] H1 H1 c.heap l:=zC Un.refl (λb o z g _=>v b o z g) fm up;refine⟨a,C,H1,rfl,⟨I.os,I.bare,wY I R,I.hok.tracked λb u T z M=>v b T M λm=>?_,I.hok.gone i.new,EY I i.new,⟨_,_,y,λb o z g j=>?_⟩,X⟩,q⟩
 ·have:=I.jF b m;rw[z]at this;cases this
 ·have J:b∉frs (lu P w K mg base N qual scope f cd A outer s H E).stack:=λm=>by
   rcases j with⟨B,e⟩|⟨u,e⟩
   ·rcases(S b).mp m with m|m
    ·exact absurd (FS e) (by rw[m];exact NM _)
    ·exact g m
   ·have:=I.jF b m;rw[e]at this;cases this
  have:∃o1,c.heap.get? b=some o1:=by
   rcases j with⟨B,e⟩|⟨u,e⟩
   ·exact Un.there (show Un (frs outer) [] H H1 s.heap c.heap from I.base) b B e (by simp)
   ·exact(I.hok b u e).thing
  obtain⟨o1,F⟩:=this;have U:=v b o1 F J;have x:l.get? b=some o:=z;rw[U]at x;cases x;exact hideAll_get _ F J
theorem EZ{g:List (Addr×Obj)}{G:St}{H1:Hp}{i s':Shared}{e:Value}(I:Inv (lu P w K mg base N qual scope f cd A outer s H E) g G H1 i)
 (S:dP P w (lu P w K mg base N qual scope f cd A outer s H E).stack H1 i E e s'):(lu P w K mg base N qual scope f cd A outer s H E).xe e s':=by
 obtain⟨a,C,n,rfl,F,q⟩:=S;obtain⟨B,Y,x,k⟩:=F.Sy;have t:(lu P w K mg base N qual scope f cd A outer s H E).env.frame=some s.heap.objs.size:=rfl;have Q:∀b,b∈frs (lu P w K mg base N qual scope f cd A outer s H E).stack↔b=s.heap.objs.size\/b∈frs outer:=λb=>pW t;refine Kp.use (e:=a) (pV _ _) F.cn ?_;refine wpAny_leaves_onW I.ok.frames t x λU h L Z=>?_;have fm:∀b,b∈frs (lu P w K mg base N qual scope f cd A outer s H E).stack->∃o,s'.heap.get? b=some o/\∀M,o.data≠.fields M:=λb T=>(x.2.2.1.mem T).2;have D:∀b u,n b=some u->b∉frs (lu P w K mg base N qual scope f cd A outer s H E).stack:=λb u z m=>by have l:=I.jF b m;obtain⟨o,R,_⟩:=I.stack.mem m|>.2;rw[F.un.free b o R l (by simp)]at z;cases z
 have O:=zC F.un (λb o z j c=>h.1 b o (k b o z j c)) fm L;refine⟨a,C,n,rfl,⟨F.os.trans I.os,F.bare,wY I O,F.hok.tracked λb u r z J=>h.1 b r (k b r J (D b u z) (.inr ⟨u,z⟩)),F.new,EY I F.old,⟨B,Y,h,λb o z j c=>?_⟩,Z⟩,q⟩;have U5:b∉frs (lu P w K mg base N qual scope f cd A outer s H E).stack:=λm=>by
  rcases c with⟨d,e⟩|⟨u,e⟩
  ·rcases(Q b).mp m with m|m
   ·exact absurd (FS e) (by rw[m];exact NM _)
   ·exact j m
  ·exact D b u e m
 have y:(∃d,i.heap.get? b=some d)\/∃u,n b=some u:=by
  rcases c with⟨d,e⟩|z
  ·exact .inl (Un.there (show Un (frs outer) [] H H1 s.heap i.heap from I.base) b d e (by simp))
  ·exact .inr z
 have:∃o1,s'.heap.get? b=some o1:=by
  rcases y with⟨d,e⟩|⟨u,e⟩
  ·exact F.un.there b d e (by simp)
  ·exact(F.hok b u e).thing
 obtain⟨o1,l⟩:=this;have v:=k b o1 l U5 y;have X:=h.1 b o1 v;have p:U.get? b=some o:=z;rw[X]at p;cases p;exact v
theorem E2:Passes (dP P w) (lu P w K mg base N qual scope f cd A outer s H E) E:=λ_ _ _ _ _ _ I h=>EZ I h
end
abbrev V6:List Value:=[.type "ValueError",.type "Exception",.type "BaseException",.type "object"]
structure uH(K:Frag)(C:Addr):Prop where
 exc:excIn K C V6 "ValueError.__new__"=true
 ga:findIn K (.ref C) "__getattribute__"=some (some (.builtin "BaseException.__getattribute__"))
 gt:findIn K (.ref C) "__getattr__"=some none
 cl:findIn K (.ref C) "__class__"=some (some (.builtin "object.__class__"))
 ob:mroIn K C (.type "object")=some true
 bs:mroIn K C (.type "BaseException")=some true
theorem IE{p:Prop}(h:false=true):p:=nomatch h
theorem Y3{o:Option Obj}{F:Option Addr->ClassData->Array (Option Value)->Bool}(q:PySem.W.excIn.match_6 (λ_=>Bool) o F (λ_=>false)=true):∃d c l,o=some ⟨.type "type",d,.cls c,l⟩/\F d c l=true:=by
 rcases o with _|⟨b,g,a,f⟩
 ·exact IE q
 cases b with
 |type s=>
  by_cases e:s="type"
  ·subst e;cases a with
   |cls h=>exact⟨_,_,_,rfl,q⟩
   |_=>exact IE q
  ·delta PySem.W.excIn.match_6 at q
   exact IE ((dif_neg e).symm.trans q)
 |_=>exact IE q
theorem Y4{m:List Value}{l:List (Option Value)}{F:Addr->List Value->Option Value->Option Value->Option Value->Option Value->String->Option Value->Bool}(q:PySem.W.excIn.match_1 (λ_ _=>Bool) m l F (λ_ _=>false)=true):∃a b k0 k1 k2 k3 n k5,m=.ref a::b/\l=[k0,k1,k2,k3,some (.builtin n),k5]/\F a b k0 k1 k2 k3 n k5=true:=by
 rcases m with _|⟨v,d⟩
 ·exact IE q
 cases v with
 |ref e=>
  rcases l with _|⟨k0,_|⟨k1,_|⟨k2,_|⟨k3,_|⟨_|v,r⟩⟩⟩⟩⟩<;>try exact IE q
  cases v with
  |builtin n=>
   rcases r with _|⟨k5,_|⟨c,r⟩⟩<;>try exact IE q
   exact⟨_,_,_,_,_,_,_,_,rfl,rfl,q⟩
  |_=>exact IE q
 |_=>exact IE q
theorem oY{K:Frag}{h:Heap}{C:Addr}{b:List Value}{a:String}(X:K.In h)(q:excIn K C b a=true):
 ∃bm N nm c bs hdct sn sub ab col dd k0 k1 k2 k3 k5 mN,h.get? C=some (excClassObj nm c C N bs bm hdct sn sub ab col dd k0 k1 k2 k3 k5 a)/\h.Ns N mN/\mN "__init__"=none/\OwnTail h b bm:=by
 obtain⟨dd,v,d,i,q⟩:=Y3 q;have s:=X _ _ i;clear i;obtain⟨w,bm,k0,k1,k2,k3,n,k5,g,f,q⟩:=Y4 q;obtain⟨nm,bs,r,p,c,t,sn,sub,ab,col,u⟩:=v;obtain⟨d⟩:=d;dsimp only at g f q;subst g f;simp only[AN,IH,fg]at q;obtain⟨⟨⟨⟨⟨o,m⟩,l⟩,k⟩,e⟩,j⟩:=q;subst o m l;exact⟨bm,p,nm,c,bs,t,sn,sub,ab,col,dd,k0,k1,k2,k3,k5,_,s,Heap.Ns.of_isNs (PySem.W.isNs_of_in X e),PySem.W.nsMap_none_of_in X e j,PySem.W.tail_of_in X k⟩
noncomputable def zE(X:Cx)(R:Addr->Hp->Prop):Prop:=∀(b:List (Addr×Obj))(e:St)(H:Hp)(s:Shared)(d:Heap)(a C:Addr)(c:List Value),Inv X b e H s->Heap.MadeExcOf s.heap d a (.ref C) c->R C H->X.xe (.ref a) {s with heap:=d}
theorem uI{P:Program}{w:World}{K:Frag}{mg:Str->Option Value}{base:Heap}{N:List Str}{c:Str}{a:Scope}{f:Addr}{e:Value}{A:Around}{b:List Env}{s:Shared}{H:Hp}{E:XK}:
 zE (lu P w K mg base N c a f e A b s H E) (λC H'=>E (.ref C) none H'):=λ_ _ _ _ _ _ _ _ I d q=>zD I d q
noncomputable def NB(R:Addr->Hp->Prop)(C:Addr)(t:TA):TS:=λ_ a H=>t a H λb c=>b.length<=sizeLine/\R C c
section
variable{X:Cx}{x:Str}{C:Addr}{e:Expr}{t:TA}{np cpos pos:Pos}{R:Addr->Hp->Prop}
theorem E3(w:zE X R)(u:X.calm=true)(p:Gl X x)(n:X.mg x=some (.ref C))(q:uH X.K C)(v:PA X [e] t)(g:starEach [e] X.env=[(false,eval e X.env)]:=by rfl)
 (hd:(x==("__debug__":Str))=false:=by decide):PS X (.Raise (some (.Call (.Name x np) [e] [] cpos)) none pos) (NB R C t):=by
 intro b s f H D I h;obtain⟨bm,N,nm,k,bs,hdct,sn,sub,ab,col,dd,k0,k1,k2,k3,k5,mN,A,y,d,T⟩:=oY I.ok.mod.HP q.exc;refine wpAny_Raise_call_subT (C:=C) (bm:=bm) (mN:=mN) (nm:=nm) (q:=k) (N:=N) (bs:=bs) (hdct:=hdct) (sn:=sn) (sub:=sub) (ab:=ab) (col:=col) (dd:=dd) (k0:=k0) (k1:=k1) (k2:=k2) (k3:=k3) (k5:=k5) (F:=PySem.F.excBase_ValueError) (T.hasType PySem.F.excBase_ValueError.hasBase) (I.ok.hd u) (by rw[g];rfl) d (eZ I p n ⟨rfl,?_⟩ hd);have i:=v cpos b s f H _ I h;rw[g]at i⊢;refine Calls.evalArgs_plain (bJ i λJ j z=>?_);obtain⟨G,E,c,r,o,l⟩:=z;refine⟨rfl,by rw[←r.length];exact o,c.bk _ _ A,y.keeps c.bk,T.keeps c.bk,λB a m=>w b f E j B a C _ c m l⟩
end
theorem PS.kC{X:Cx}{st:Stmt}{t:TS}(h:PS X.kC st t):PS X st t:=λa s b H D I c=>UF (h a s b H D (I.oM _) c) (λ_ _ q=>q.gu) λ_ _ z=>False.elim z
theorem CH.U6{P:Program}{w:World}{K:Frag}{mg:Str->Option Value}{base:Heap}{x b:Str}{st:Stmt}{f:Addr}{i:FuncData}{N ps:List Str}{k:Nat}{sp:Sp}(F:CH K x b st f i)(S:aD N ps (aa st))
 (d:∀vs H Q E,sp vs H Q E->vs.length=ps.length)
 (n:∀(c:Value)(A:Around)(a:List Env)(s:Shared)(H:Hp)(vs:List V)(Q:VK)(E:XK),cC k (A.deeper (envOfC b (aa st) s.heap.objs.size f c))->sp vs H Q E->
   ∃t,se (lu P w K mg base N b (aa st) f c A a s H E) (ak st) t/\t {nx:=λ_ H'=>Q .aS H',rt:=Q} (start N vs) H):aR P w K mg base (dP P w) (k+1) f i ps sp:=by
 obtain⟨r,q,kV,o,p,v,c,u,j,e,l,g⟩:=F.ex;subst e;exact LW l g S d λA a s H vs Q E m h=>n c A a s H vs Q E m h
theorem aR.SA{P:Program}{w:World}{K:Frag}{mg:Str->Option Value}{base:Heap}{k:Nat}{f:Addr}{c:FuncData}{ps:List Str}{sp:Sp}(F:aR P w K mg base (dP P w) k f c ps sp):
 aR P w K mg base IB k f c ps (λvs H Q _=>sp vs H Q E0):=
 ⟨λvs H Q E h=>F.len vs H Q E0 h,λA a s H b d vs Q E g j i r h=>ke (F.run A a s H b d vs Q E0 g j i r h) λr l z=>by
   cases r with
   |error e=>obtain⟨_,_,_,_,_,q⟩:=z;exact q.elim
   |ok fl=>cases fl<;>exact z⟩
noncomputable def FX(X:Cx)(a:List (Addr×Obj))(d:St)(E:XK)(e:Value)(s':Shared):Prop:=∃c b,Inv X a d c b/\dP X.prog X.w X.stack c b E e s'
abbrev TX:=St->Hp->VK->XK->Prop
noncomputable def PX(X:Cx)(e:Expr)(t:TX):Prop:=
 ∀(a:List (Addr×Obj))(s:Shared)(b:St)(H:Hp)(Q:VK)(E:XK),Inv X a b H s->t b H Q E->wpAny (model X.prog X.w) X.A (eval e X.env) (EP X a b Q) (FX X a b E) s
noncomputable def NC(sp:Sp)(t:TA):TX:=λa H Q E=>t a H λb c=>sp b c Q E
section
variable{X:Cx}{k:Nat}{f:Addr}{fd:FuncData}{ps:List Str}{sp:Sp}{x:Str}{p pos:Pos}{e:Expr}{es:List Expr}{t:TA}
theorem IF(F:aR X.prog X.w X.K X.mg X.base (dP X.prog X.w) k f fd ps sp)(v:cC k X.A)(D:Gl X x)(y:X.mg x=some (.ref f))(C:keepIn X.K (.ref f)=true)(J:Binds X.K fd ps [])
 (L:PA X.kC (e::es) t)(j:(x==("__debug__":Str))=false:=by decide)(G:starEach (e::es) X.env=(false,eval e X.env)::starEach es X.env:=by rfl)(i:(backTo pos (starEach es X.env)).any (·.1)=false:=by rfl):
 PX X (.Call (.Name x p) (e::es) [] pos) (NC sp t):=by
 intro a s n H Q E I h;refine Re (eZ I D y ?_ j);have M:=L pos a s n H _ (I.oM _) h;refine X1 (h₀:=X.base) I.ok.mod.HP C (UF M (λb c z=>?_) λ_ _ z=>False.elim z) G i;obtain⟨o,m,N,r,q⟩:=z;have g:Inv X a n m c:=N.gu;refine⟨g.jP,?_⟩;have B:b.length=ps.length:=by rw[←r.length];exact F.len _ _ _ _ q
 have l:BindsTo c fd ⟨b,[]⟩ (ps.zip b):=by have:=J c b g.jP (by rw[QQ];exact B);rwa [QQ]at this
 refine wpAny_call (ke (F.run X.A X.stack c m ⟨b,[]⟩ b o Q E v g.Np l r q) λr O d=>?_);cases r with
 |error e=>exact⟨m,c,g,d⟩
 |ok fl=>
  cases fl with
  |ret u=>exact g.after d
  |next=>exact False.elim d
  |brk=>exact False.elim d
  |cont=>exact False.elim d
end
noncomputable def jT(a C:Addr)(h:Heap):Prop:=∃b c,h.get? a=some b/\b.cls=.ref C/\b.data=.fields c/\c[2]?=some Value.none
noncomputable def CL(a C:Addr):HO:=.ext (jT a C)
section
variable{X:Cx}{pins:List (Addr×Obj)}{σ:St}{H:Hp}{s:Shared}
abbrev lG(X:Cx)(a:Addr):Cx:={X with A:=X.A.mark (some (.ref a)),calm:=false,xe:=λ_ _=>False}
theorem Inv.suite(I:Inv X pins σ H s)(a:Addr):Inv (lG X a) pins σ H s:=
 ⟨⟨I.ok.mod,I.ok.kind,I.ok.glob,I.ok.blt,I.ok.above,I.ok.inj,I.ok.has,I.ok.Rb,(λz=>by cases z),I.ok.frames,I.ok.stk,I.ok.U0,I.ok.bs,I.ok.HQ,I.ok.Cm,I.ok.Co,I.ok.nu,I.ok.LM,I.ok.tree,I.ok.RO⟩,I.os,I.bare,I.base,I.loc,I.cell,I.free,I.gh,I.pin,I.hok,I.len⟩
theorem Inv.oZ{a:Addr}(b:X.Ok)(I:Inv (lG X a) pins σ H s):Inv X pins σ H s:=
 ⟨b,I.os,I.bare,I.base,I.loc,I.cell,I.free,I.gh,I.pin,I.hok,I.len⟩
theorem Inv.adopt{H1:Hp}{j:Shared}{a:Addr}{f:Heap->Prop}(i:Inv X pins σ H1 j)(L:j.heap.get? a=none)(I:Inv X pins σ H s)(n:H a=none)(p:f s.heap)(J:∃o,s.heap.get? a=some o)
 (st:∀y w:Heap,f y->(∀o,y.get? a=some o->w.get? a=some o)->f w):Inv X pins σ (upd H a (.ext f)) s:=by
 have h:∀b o,j.heap.get? b=some o->b≠a:=λb o z e=>by rw[e,L]at z;cases z
 have g:∀b u,H b=some u->upd H a (.ext f) b=some u:=λb u z=>by rw[ah (aO z n)];exact z
 refine⟨I.ok,I.os,I.bare,⟨I.base.keep,I.base.slot,λb o q m l=>?_,I.base.there,λb k q=>g b _ (I.base.tups b k q),λb o v q=>g b _ (I.base.ku b o v q),λb E q=>?_⟩,I.loc,I.cell,?_,λx c e=>?_,λp r=>?_,λb u z=>?_,I.len⟩
 ·obtain⟨F,d⟩:=i.base.there b o q l;rw[ah (h b F d)];exact I.base.free b o q m l
 ·obtain⟨G,d⟩:=I.base.ly b E q;exact⟨G,g b _ d⟩
 ·obtain⟨m,K,_⟩:=i.loc;obtain⟨o,_,_,d,_⟩:=K;rw[ah (h _ o d)];exact I.free
 ·obtain⟨v,o,d,_⟩:=i.cell x c e;rw[ah (h _ o d)];exact I.gh x c e
 ·obtain⟨D,C,B⟩:=I.pin p r;refine⟨D,?_,B⟩;obtain⟨A,_⟩:=i.pin p r;rw[ah (h _ _ A)];exact C
 ·by_cases t:b=a
  ·subst t;rw[ao]at z;cases z;exact⟨p,J,st⟩
  ·rw[ah t]at z;exact(I.hok b u z).stay (λ_ _ _ q=>q) (λc q=>g c _ q) λc k q=>g c _ q
theorem name_goes{M:Model}{A:Around}{E:Value->Shared->Prop}{i:Nat}{n:Str}{pos:Pos}{Q:Unit->Shared->Prop}(I:Inv X pins σ H s)(hN:X.N.Nodup)(J:X.N[i]?=some n)(Z:X.env.scope.names.lookup n=some .local)
 (h:∀s',Inv X pins (σ.set i none) H s'->Q () s'):wpAny M A (do bindName X.env n .none;unbindBehindTheSuite X.env n pos) Q E s:=by
 obtain⟨m,G,w⟩:=id I.loc;have l:(X.env.scope.kind==.class||(X.env.scope.kind==.module&&X.env.locals !=X.env.globals))=false:=by rw[I.ok.kind];rfl
 have Ia:i<σ.length:=by rw[I.len];exact(Fu.mp J).1
 have Em:=I.Em;refine wpAny_nameGoes_keeps Z G l λh' v t a=>?_;obtain⟨oL,_,_,XC,_⟩:=id G;have C:∀b o,X.s₀.heap.get? b=some o->b≠X.env.locals:=λb o e=>KB (FC (FS e) I.ok.above);refine h _ ⟨I.ok,I.os,I.bare,⟨λb o e n B g=>?_,λb o e n B g=>?_,I.base.free,λb o e g=>?_,I.base.tups,I.base.ku,I.base.ly⟩,⟨_,t,λj y O f r e3=>?_⟩,λy c e=>?_,I.free,I.gh,λp Y=>?_,?_,by simpa using I.len⟩
 ·exact(a.2 b (C b o e)).trans (I.base.keep b o e n B g)
 ·obtain⟨P,f⟩:=I.base.slot b o e n B g;exact⟨P,(a.2 b (C b o e)).trans f⟩
 ·obtain⟨S,f⟩:=I.base.there b o e g;exact⟨S,(a.2 b (C b o e)).trans f⟩
 ·by_cases x:j=i
  ·subst x;rw[PP Ia]at r;cases r
  ·rw[Hn (Pt x)]at r;obtain⟨D,R,q⟩:=w j y O f r e3;refine⟨D,R,?_⟩;rcases q with⟨k,e⟩|⟨k,c,e,z⟩
   ·refine .inl ⟨k,?_⟩;have:y≠n:=λe=>x (pL hN f (e▸J));show(if y=n then v else m y)=some D;rw[BM this];exact e
   ·exact .inr ⟨k,c,e,z.sameBut a (Em y c e)⟩
 ·obtain⟨L,z⟩:=I.cell y c e;exact⟨L,z.sameBut a (Em y c e)⟩
 ·obtain⟨e,U,F,T,d⟩:=I.pin p Y;exact⟨(a.2 p.1 F).trans e,U,F,T,d⟩
 ·exact I.hok.tracked λb u ob z K=>(a.2 b λe=>by rw[e,I.free]at z;cases z).trans K
end
theorem zF{M:Model}{A:Around}{E:Value->Shared->Prop}{K:Frag}{s:Shared}{a C D:Addr}{i:Obj}{Q:Bool->Shared->Prop}(X:K.In s.heap)(w:uH K C)(e:uH K D)(n:s.heap.get? a=some i)(c:i.cls=.ref C)
 (b:mroIn K C (.ref D)=some true)(l:Q true s):wpAny M A (excMatches (.ref a) (.ref D)) Q E s:=by
 obtain⟨h,g,d,t,x⟩:=s;obtain⟨O,N,y,v,bs,j,u,k,P,p,L,I,H,G,F,B,z,o,J,m,T⟩:=oY X e.exc;have r:=hU (M:=M) X b;have q:=hU (M:=M) X e.bs;have f:=tc_notTuple;unfold excMatches
 repeat (first|(with_reducible refine wpAny_loadPart_at n ?_;rw[c])|with_reducible refine wpAny_loadPart_at o ?_|exact l|with_reducible refine r.at ?_|with_reducible refine q.at ?_|wp_step)
abbrev Ends.past(D:Ends)(i:Nat):Ends:={nx:=λσ' H'=>D.nx (σ'.set i none) H',rt:=D.rt,bk:=λσ' H'=>D.bk (σ'.set i none) H',ct:=λσ' H'=>D.ct (σ'.set i none) H'}
noncomputable def V7(K:Frag)(i:Nat)(D:Addr)(te:TX)(e:TS):TS:=λW d H=>te d H (λ_ b=>W.nx d b) (λc _ b=>∃C,c=.ref C/\uH K C/\mroIn K C (.ref D)=some true/\
 ∀a,b a=none->e (W.past i) (d.set i (some (.ref a))) (upd b a (CL a C)))
theorem Inv.Sy{X:Cx}{c:List (Addr×Obj)}{k:St}{H1 f:Hp}{g d e:Shared}{a C:Addr}{B:Heap}{A:Value}(I:Inv X c k H1 g)(F:XM X.prog X.w X.stack H1 g f a C d)
 (p:∀b o,d.heap.get? b=some o->b∉frs X.stack->((∃s,g.heap.get? b=some s)\/∃u,f b=some u)->B.get? b=some o)(x:Heap.FlyingW B X.stack a (.ref C) A d.heap)(l:B.StaysIn e.heap)(up:d.heap.UpToSlots e.heap)
 (j:e.os=d.os)(y:e.gens=d.gens):Inv X c k f e:=by
 have fm:∀b,b∈frs X.stack->∃o,d.heap.get? b=some o/\∀r,o.data≠.fields r:=λb i=>(x.2.2.1.mem i).2;have D:∀b u,f b=some u->b∉frs X.stack:=λb u z m=>by have j:=I.jF b m;obtain⟨o,v,_⟩:=I.stack.mem m|>.2;rw[F.un.free b o v j (by simp)]at z;cases z
 refine I.En (ch:=[]) (j.trans F.os) (zC F.un (λb o z t h=>l b o (p b o z t h)) fm up) (F.hok.tracked λb u n z q=>l b n (p b n q (D b u z) (.inr ⟨u,z⟩))) (by rw[y];exact F.bare) λb i=>absurd i (by simp)
theorem ND{X:Cx}{e:Expr}{n x:Str}{i:Nat}{D:Addr}{c:Stmt}{suite:List Stmt}{te:TX}{th:TS}{p1 p2 np pos:Pos}(g:X.stack=X.env::X.outer/\X.env.frame=some X.env.locals)(G:X.N.Nodup)(E:X.N[i]?=some n)
 (m:X.env.scope.names.lookup n=some .local)(hg:Gl X x)(hm:X.mg x=some (.ref D))(qD:uH X.K D)(he:PX X e te)(hs:∀a,se (lG X a) (c::suite) th)(O:swapsWith e none p1.line X.env=pure false:=by rfl)
 (hd:(x==("__debug__":Str))=false:=by decide):PS X (.Try [.Expr e p1] [.ExceptHandler (some (.Name x np)) (some n) (c::suite) p2] [] [] pos) (V7 X.K i D te th):=by
 intro b s p H W I h;refine wpAny_Try_except (wpAny_execs_cons (wpAny_Expr_any (UF (he b s p H _ _ I h) (λv t z=>?_) λev t z=>?_) I.quiet O))
 ·obtain⟨y,H1,I1,r1,l⟩:=z;exact fo (fo ⟨p,H1,I1,l⟩)
 obtain⟨H1,s0,T,a,C,U,rfl,F,C',Y6,qC,w,q⟩:=z;cases Y6;obtain⟨B,a0,S,kB⟩:=F.Sy;have fr:X.A.frames=some (X.env::X.outer):=by rw[I.ok.frames,g.1]
 have Y7:Heap.FlyingW B (X.env::X.outer) a (.ref C) a0 t.heap:=by rw[←g.1];exact S
 refine Kp.use (e:=a) (AR _ _) F.cn (wpAny_looks_onW fr g.2 Y7 λh4 y4 u4 c4=>Kp.use (e:=a) (nB _ _) c4 (wpAny_landsW y4 λh5 L u5 c5=>?_));have I5:Inv X b p U {t with heap:=h5}:=T.Sy F kB S L.1 (u4.trans u5) rfl rfl;obtain⟨ob,P,V8⟩:=L.there;refine wpAny_handleBy_cons (codeAny_handlers_test (eZ (X:=lG X a) (I5.suite a) hg hm ?_ hd)) (by intro z;cases z);refine zF (K:=X.K) I5.jP qC qD P V8 w (codeAny_handlers_suite_as ?_);refine Kp.use (e:=a) (nB _ _) c5 (lands_againW L λQ Z u6 c6=>?_);have I6:Inv X b p U {t with heap:=Q}:=T.Sy F kB S Z.1 ((u4.trans u5).trans u6) rfl rfl;obtain⟨oe,vs,R,g2,g3,_⟩:=Z.first
 have g4:vs[2]?=some Value.none:=by obtain⟨o,v,l,q2,q3⟩:=c6;have l:Q.get? a=some o:=l;rw[R]at l;cases l;rw[g3]at q2;cases q2;exact q3
 have I7:Inv X b p (upd U a (CL a C)) {t with heap:=Q}:=Inv.adopt T F.old I6 F.new ⟨oe,vs,R,g2,g3,g4⟩ ⟨oe,R⟩ λh1 h2 z k=>by obtain⟨o1,v1,z1,z2,z3⟩:=z;exact⟨o1,v1,k _ z1,z2,z3⟩
 refine ee (X:=lG X a) (v:=.ref a) (I7.suite a) G E (.inl m) rfl (λs7 I8=>?_) (.inr m);refine UF (hs a b s7 _ _ _ I8 (q a F.new)) (λf s8 z=>?_) λ_ _ z=>False.elim z;cases f with
 |next=>obtain⟨d,Y,J,z⟩:=z;exact name_goes (J.oZ I.ok) G E m λM j=>⟨_,_,j,z⟩
 |brk=>obtain⟨d,Y,J,z⟩:=z;exact name_goes (J.oZ I.ok) G E m λM j=>⟨_,_,j,z⟩
 |cont=>obtain⟨d,Y,J,z⟩:=z;exact name_goes (J.oZ I.ok) G E m λM j=>⟨_,_,j,z⟩
 |ret u=>obtain⟨v,d,Y,J,r,z⟩:=z;exact name_goes (J.oZ I.ok) G E m λM j=>⟨_,_,_,j,r,z⟩
section
variable{prog:Program}{w:World}{A:Around}{E:Value->Shared->Prop}{s:Shared}{K:Frag}{a C:Addr}
theorem jh{M:Model}{h:Heap}(p:jT a C h):PySem.W.Looks M h (typeOf (.ref a)) (.ref C):=by obtain⟨o,d,c,b,e⟩:=p;exact b▸(PySem.W.Looks.ld c).andThen .now
theorem IG{c:Value}{R:Result->Shared->Prop}(X:K.In s.heap)(p:jT a C s.heap)(q:uH K C)(h:R (.ok (.ret (.ref C))) s):
 codeAny (model prog w) A (.call (.builtin "getset_descriptor.__get__") ⟨[.builtin "object.__class__",.ref a,c],[]⟩) R s:=by
 obtain⟨e,g,f,t,d⟩:=s;have j:=jh (M:=model prog w) p;have i:=hU (M:=model prog w) X q.ob;have b:=PySem.W.KF.slot_gs;refine codeAny_call_builtin b.plain PySem.W.KF.entry_gs (b.check _ _ _ _ _ _ _ _ PySem.W.KF.type_class (PySem.W.KF.args_gs _ _ _) ?_);unfold Builtin.«getset_descriptor.__get__»;unfold Builtin.Getset_descriptor.descrGet;rw[PySem.W.dga_obj];apply FV;apply Kj;unfold Builtin.Getset_descriptor.descrGetter;unfold Builtin.Getset_descriptor.descrCheckInstance;unfold Builtin.Getset_descriptor.descrNameAndClass;unfold isInstance;simp only[PySem.W.KF.owner_class]
 repeat lk
 refine⟨Code.quiet_builtin _ (by decide+kernel),codeAny_builtin PySem.W.KF.entry_class ?_⟩;unfold Builtin.«object.__class__»;unfold shownTypeOf
 repeat lk
 exact h
theorem CM{b:Tok}{Q:Fin->Shared->Prop}(X:K.In s.heap)(p:jT a C s.heap)(q:uH K C)(h:Q (.done (.ret (.ref C))) s):
 wpAny (model prog w) A (Builtin.«object.__getattribute__» ⟨[.ref a,.str "__class__" b],[]⟩) Q E s:=by
 obtain⟨d,g,f,t,c⟩:=s;have j:=jh (M:=model prog w) p;have i:=gN (M:=model prog w) X q.cl;have e:(⟨d,g,f,t,c⟩:Shared).TypeIs (.builtin "object.__class__") "getset_descriptor":=F.typeOf_object_class;have m:=F.typeOf_object_class;have l:=F.slot_gs_get.lookup;have k:=F.slot_gs_set.lookup
 repeat (any_goals (first|assumption|with_reducible refine j.at ?_|with_reducible refine i.at ?_|wp_step))
 refine IG X p q ?_
 repeat (any_goals (first|assumption|wp_step))
theorem CN{M:Model}{b:Value}{Q:Unit->Shared->Prop}(X:K.In s.heap)(p:jT a C s.heap)(q:uH K C)(h:Q () s):wpAny M A (checkBuiltinCall "BaseException.__getattribute__" ⟨[.ref a,b],[]⟩) Q E s:=by
 obtain⟨k,g,l,t,i⟩:=s;have f:=jh (M:=M) p;have e:=hU (M:=M) X q.bs;have d:builtinKind "BaseException.__getattribute__"=some .slot:=by decide+kernel
 have c:splitId "BaseException.__getattribute__"=some ("BaseException","__getattribute__"):=by decide+kernel
 have j:=F.args_bexc_ga (.ref a) b;simp only[checkBuiltinCall,d,c];apply FV;unfold isInstance
 repeat (first|with_reducible refine f.at ?_|with_reducible refine e.at ?_|wp_step)
 exact h
theorem E4{b:Tok}{R:Result->Shared->Prop}(X:K.In s.heap)(p:jT a C s.heap)(q:uH K C)(h:R (.ok (.ret (.ref C))) s):
 codeAny (model prog w) A (.call (.builtin "BaseException.__getattribute__") ⟨[.ref a,.str "__class__" b],[]⟩) R s:=
 codeAny_call_builtin PySem.F.excAttr_ValueError.ga.plain F.entry_bexc_ga (CN X p q (CM X p q h))
theorem NF{e:Tok}{c b:Bool}{Q:Value->Shared->Prop}(X:K.In s.heap)(p:jT a C s.heap)(q:uH K C)(h:Q (.ref C) s):wpAny (model prog w) A (getAttrBy (.ref a) (.str "__class__" e) c b) Q E s:=by
 obtain⟨n,g,r,t,m⟩:=s;have j:=jh (M:=model prog w) p;have i:=gN (M:=model prog w) X q.ga;have f:=gN (M:=model prog w) X q.gt;have o:=PySem.F.excAttr_ValueError.ga.bind (.ref a);have l:(b&&onTheHeap (Value.builtin "BaseException.__getattribute__"))=false:=by
  cases b<;>rfl
 have d:(Value.builtin "BaseException.__getattribute__"==Value.builtin "object.__getattribute__")=false:=by decide+kernel
 have k:(onTheHeap (Value.ref C)&&Value.builtin "BaseException.__getattribute__"==Value.builtin "object.__getattribute__")=false:=by rw[d];rfl
 repeat (any_goals (first|assumption|with_reducible refine j.at ?_|with_reducible refine i.at ?_|with_reducible refine f.at ?_|wp_step))
 refine E4 X p q ?_
 repeat (any_goals (first|assumption|wp_step))
theorem CO{Q:Option Value->Shared->Prop}(X:K.In s.heap)(p:jT a C s.heap)(q:uH K C)(h:Q (some (.ref C)) {s with toks:=s.toks+1}):wpAny (model prog w) A (getAttr? (.ref a) "__class__") Q E s:=by obtain⟨c,g,d,t,b⟩:=s;unfold getAttr?;unfold getAttrBy?;refine FV (wpAny_mkText (FV (wpAny_attempt (NF (s:=⟨c,g,d,t+1,b⟩) X p q ?_))));exact Kj h
theorem E5(q:uH K C):PySem.W.KitX K (.ref a) (.ref C) (jT a C)where
 ty:=λM h X p=>jh p
 it:=λM h X p=>by obtain⟨H,N,o,m,G,c,l,d,I,g,F,y,x,v,u,t,r,f,_⟩:=oY X q.exc;intro Q O P L k z;unfold isType;unfold loadHead;exact FV (wpAny_loadPart (k _ _ f) (Kj z))
 ne:=λh j F B n J X b=>by obtain⟨H,N,o,m,G,c,l,d,I,g,D,y,x,v,u,t,r,f,_⟩:=oY X q.exc;refine Bool.eq_false_iff.mpr λz=>?_;have e:C=j:=Value.ref.inj (IH.mp z);subst e;rw[f]at b;have i:=Wp Obj.data (He b);exact nomatch i
 ca:=λX p h=>CO X p q h
end
inductive NG:V->Value->Prop where
 |own (D:Addr):NG (.ref D) (.ref D)
 |ty (n:String):NG (.ty n) (.type n)
theorem bU{X:Cx}:cF X (.builtin "isinstance") (λf H Q=>∃a C c d b,f=[.ref a,c]/\H a=some (CL a C)/\uH X.K C/\NG c d/\kitOne X.K (.ref C) d=some b/\Q (.bl b) H):=by
 intro i s u H f v Q I r h;obtain⟨a,C,c,d,b,rfl,o,q,m,e,z⟩:=h;obtain⟨k,j,rfl,l,g⟩:=vals2 r;cases(show k=Value.ref a from l);have t:j=d:=by
  cases m with
  |own D=>exact g
  |ty n=>exact g
 subst t;obtain⟨p,_,_⟩:=(show bX X.prog X.w H s.heap a (.ext (jT a C))from I.hok a _ o);exact PQ (E5 q) I.jP p e (λz=>nomatch z) λx=>⟨.bl b,H,I.tok _,rfl,z⟩
noncomputable def nD(cells:List (Str×Addr)):List (Str×NameKind)->List (Str×Addr)->List (Str×Addr)
 |[],acc=>acc
 |(n,k)::r,acc=>nD cells r (if k=.free then(n,(cells.lookup n).getD 0)::acc else acc)
theorem pX{env:Env}:∀(l:List (Str×NameKind))(a:List (Str×Addr)),(∀p∈l,p.2=.free->∃c,env.cells.lookup p.1=some c)->
 (forIn l a λ(x:Str×NameKind)(cs:List (Str×Addr))=>if(x.2==NameKind.free)=true then(do let c←cellOf env x.1;pure (ForInStep.yield ((x.1,c)::cs)))else(pure (ForInStep.yield cs):Sem _))=pure (nD env.cells l a)
 |[],a,_=>rfl
 |(n,k)::r,a,h=>by
  have ih:=λa=>pX (env:=env) r a λp g=>h p (DL _ g);rw[List.forIn_cons];by_cases b:k=.free
  ·obtain⟨c,i⟩:=h (n,k) FK b;have d:env.cells.lookup n=some c:=i;have e:cellOf env n=pure c:=by unfold cellOf;rw[d]
   have f:(k==NameKind.free)=true:=by simp[b]
   simp only[f,if_true,e,pure_bind,ih];simp only[nD,b,if_true,d,Option.getD_some]
  ·have f:(k==NameKind.free)=false:=by simpa using b
   simp only[f,Bool.false_eq_true,if_false,pure_bind,ih];simp only[nD,b,if_false]
theorem pY{a:Scope}{env:Env}(h:∀p∈a.names,p.2=.free->∃c,env.cells.lookup p.1=some c):closureFor a env=pure (nD env.cells a.names []):=by have:=pX (env:=env) a.names [] h;unfold closureFor;simp only[bind_pure];exact this
theorem w4{cells:List (Str×Addr)}:∀(l:List (Str×NameKind))(a:List (Str×Addr)),(∀p∈l,p.2=.free->∃c,cells.lookup p.1=some c)->(∀y c,a.lookup y=some c->cells.lookup y=some c)->
 ∀y c,(nD cells l a).lookup y=some c->cells.lookup y=some c
 |[],_,_,ha,y,c,h=>ha y c h
 |(n,k)::r,a,hl,ha,y,c,h=>by
  refine w4 r _ (λp i=>hl p (DL _ i)) (λz d hz=>?_) y c h;by_cases b:k=.free
  ·rw[Bz b,List.lookup_cons]at hz;obtain⟨m,g⟩:=hl (n,k) FK b;have f:cells.lookup n=some m:=g;split at hz
   ·rename_i e
    have j:z=n:=by simpa using e
    subst j;rw[f]at hz⊢;exact hz
   ·exact ha z d hz
  ·rw[BM b]at hz;exact ha z d hz
theorem pZ{cells:List (Str×Addr)}:∀(l:List (Str×NameKind))(a:List (Str×Addr))(y:Str),((a.lookup y).isSome=true\/(y,NameKind.free)∈l)->((nD cells l a).lookup y).isSome=true
 |[],_,_,h=>h.elim id λz=>nomatch z
 |(n,k)::r,a,y,h=>by
  refine pZ r _ y ?_;by_cases b:k=.free
  ·rw[Bz b,List.lookup_cons];by_cases e:(y==n)=true
   ·left;rw[e];rfl
   ·rw[bj]at e;rw[e];rcases h with h|h
    ·exact .inl h
    ·rcases Fk.mp h with h|h
     ·have:y=n:=Wp Prod.fst h;subst this;simp at e
     ·exact .inr h
  ·rw[BM b];rcases h with h|h
   ·exact .inl h
   ·rcases Fk.mp h with h|h
    ·have:NameKind.free=k:=Wp Prod.snd h;exact absurd this.symm b
    ·exact .inr h
theorem tO{cells:List (Str×Addr)}:∀(l:List (Str×NameKind))(a:List (Str×Addr))(y:Str)(c:Addr),(nD cells l a).lookup y=some c->(∃b,a.lookup y=some b)\/(y,NameKind.free)∈l
 |[],_,y,c,h=>.inl ⟨c,h⟩
 |(n,k)::r,a,y,c,h=>by
  rcases tO r _ y c h with⟨b,h'⟩|h'
  ·by_cases d:k=.free
   ·rw[Bz d,List.lookup_cons]at h';split at h'
    ·rename_i e
     have f:y=n:=by simpa using e
     subst f;subst d;exact .inr FK
    ·exact .inl ⟨b,h'⟩
   ·rw[BM d]at h';exact .inl ⟨b,h'⟩
  ·exact .inr (DL _ h')
theorem ji{env:Env}(d:env.scope.kind=.function):∀(l:List (Str×NameKind))(y:Str),
 (l.map λ(n,k)=>if(k==NameKind.free&&env.scope.kind==.function&&env.kindOf n==some .cell)then(n,NameKind.cell)else(n,k)).lookup y=(l.lookup y).map λk=>if(k==NameKind.free&&env.kindOf y==some .cell)=true then NameKind.cell else k
 |[],_=>rfl
 |(n,k)::r,y=>by
  have ih:=ji d r y;have b:(env.scope.kind==ScopeKind.function)=true:=by rw[d];rfl
  rw[QP,List.lookup_cons];by_cases e:(y==n)=true
  ·have f:y=n:=by simpa using e
   subst f;by_cases c:(k==NameKind.free&&env.kindOf y==some .cell)=true
   ·have a:(k==NameKind.free&&env.scope.kind==.function&&env.kindOf y==some .cell)=true:=by rw[b,Bool.and_true];exact c
    simp only[a,if_true,List.lookup_cons,kf,Option.map_some,c]
   ·have a:¬(k==NameKind.free&&env.scope.kind==.function&&env.kindOf y==some .cell)=true:=by rw[b,Bool.and_true];exact c
    rw[BM a];simp only[List.lookup_cons,kf,Option.map_some];rw[BM c]
  ·rw[bj]at e;by_cases a:(k==NameKind.free&&env.scope.kind==.function&&env.kindOf n==some .cell)=true
   ·simp only[a,if_true,e,List.lookup_cons];exact ih
   ·rw[bj]at a;simp only[a,Bool.false_eq_true,if_false,e,List.lookup_cons];exact ih
noncomputable def dQ(sc c:Scope)(N a b:List Str):Bool:=
 sc.kind==.function&&b.all (λx=>sc.names.lookup x==some .local&&!a.contains x)&&
 sc.names.all (λp=>p.2 !=.cell&&(p.2 !=.local||sc.names.lookup p.1==some .local)&&(p.2 !=.free||(c.names.lookup p.1==some .cell&&sc.names.lookup p.1==some .free)))&&
 a.all (λy=>sc.names.lookup y !=some .local)&&(N.length==a.length&&(N.zip a).all (λp=>p.1==p.2||sc.names.lookup p.2==none))
structure gw(sc Rh:Scope)(N N' xs:List Str):Prop where
 kind:sc.kind=.function
 own:∀x∈xs,sc.names.lookup x=some .local/\x∉N'
 zG:∀p∈sc.names,p.2≠.cell
 loc:∀p∈sc.names,p.2=.local->sc.names.lookup p.1=some .local
 free:∀p∈sc.names,p.2=.free->Rh.names.lookup p.1=some .cell/\sc.names.lookup p.1=some .free
 out:∀y∈N',sc.names.lookup y≠some .local
 len:N.length=N'.length
 pair:∀(i:Nat)(y:Str),N'[i]?=some y->sc.names.lookup y≠none->N[i]?=some y
theorem gw.of{sc l:Scope}{N b d:List Str}(h:dQ sc l N b d=true):gw sc l N b d:=by
 unfold dQ at h;simp only[AN,HI,mM,bne_iff_ne,IH,fg,ne_eq]at h;obtain⟨⟨⟨⟨s,k⟩,c⟩,r⟩,q,o⟩:=h;refine⟨s,λx g=>⟨(k x g).1,λz=>?_⟩,λp a=>(c p a).1.1,λp a e=>?_,λp a e=>?_,r,q,λi y f m=>?_⟩
 ·have:=(k x g).2;rw[List.contains_eq_mem]at this;simp[z]at this
 ·rcases(c p a).1.2 with z|z
  ·exact absurd e z
  ·exact z
 ·rcases(c p a).2 with z|z
  ·exact absurd e z
  ·exact z
 ·have t:i<b.length:=(Fu.mp f).1;have j:N[i]?=some (N[i]'(by lia)):=B1 (by lia);have n:(N[i]'(by lia),y)∈N.zip b:=by refine NA (i:=i) ?_;rw[List.getElem?_zip_eq_some];exact⟨j,f⟩
  rcases o _ n with z|z
  ·rw[j];exact Wp some z
  ·exact absurd z m
noncomputable def aW(X:Cx)(a:Scope)(C:Addr)(b d:List Str)(s:Shared)(H:Hp)(c:List Addr):Cx:=
 {X with N:=b++d,s₀:=s,H₀:=H,env:=compEnvC a (nD X.env.cells a.names []) C X.env,outer:=X.stack,stack:=X.stack,ex:=c,fn:=λy=>b.contains y,pn:=[],xe:=λ_ _=>False}
section
variable{X:Cx}{pins:List (Addr×Obj)}{σ:St}{H:Hp}{s:Shared}{scope:Scope}{xs N':List Str}{fp:List Addr}
theorem kH(I:Inv X pins σ H s)(O:gw scope X.env.scope X.N N' xs):∀p∈scope.names,p.2=.free->∃c,X.env.cells.lookup p.1=some c:=λp a e=>I.ok.has p.1 (.inl (O.free p a e).1)
theorem gY(I:Inv X pins σ H s)(O:gw scope X.env.scope X.N N' xs)(y:Str):(relabel scope X.env).names.lookup y=(scope.names.lookup y).map λk=>if k=.free then NameKind.cell else k:=by
 unfold relabel;show(List.map _ scope.names).lookup y=_;rw[ji I.ok.kind];cases e:scope.names.lookup y with
 |none=>rfl
 |some k=>
  rw[Option.map_some,Option.map_some];by_cases a:k=.free
  ·subst a;have:=(O.free (y,.free) (OF e) rfl).1;have b:X.env.kindOf y=some .cell:=this;rw[b];rfl
  ·rw[BM a,BM (by simp[a])]
theorem E6{n:Heap}{Q:Nat}(I:Inv X pins σ H s)(O:gw scope X.env.scope X.N N' xs)(A:∀b∈fp,pO X pins H b)(D:∀b∈fp,b<s.heap.objs.size){K:Str->Option Value}
 (U:n.Ns s.heap.objs.size K)(g:∀b o,s.heap.get? b=some o->n.get? b=some o):
 Inv (aW X scope s.heap.objs.size xs N' s H fp) [] (xs.map (λ_=>none)++σ) H {s with heap:=n,toks:=Q}:=by
 have f:=w4 (cells:=X.env.cells) scope.names [] (kH I O) (λy c z=>nomatch z);refine⟨⟨I.ok.mod,?_,I.ok.glob,I.ok.blt,Do _,λx y c n F=>I.ok.inj x y c (f x c n) (f y c F),λy B=>?_,λy c n F=>?_,I.ok.hd,I.ok.frames,.inl rfl,λb j=>⟨KB (D b j),λx c e=>(A b j).2.2.2.2.1 x c (f x c e)⟩,
  I.bs,DD I.ok.HQ I.sz,λb o e j=>?_,λb j z=>?_,I.stack,I.jF,I.ok.tree,I.ok.RO⟩,rfl,I.bare,Un.kept g,⟨K,U,λi y v e1 h e3=>?_⟩,λy c e=>?_,I.hok.fresh (Do _),λy c e=>I.gh y c (f y c e),λp S=>absurd (show p∈([]:List (Addr×Obj))from S) (by simp),I.hok.kept g,?_⟩
 ·show scope.kind=_;exact O.kind
 ·have d:(relabel scope X.env).names.lookup y=some .cell\/(relabel scope X.env).names.lookup y=some .free:=B;rw[gY I O]at d;have a:scope.names.lookup y=some .free:=by
   cases e:scope.names.lookup y with
   |none=>rw[e]at d;rcases d with z|z<;>cases z
   |some k=>
    rw[e]at d;by_cases g:k=.free
    ·rw[g]
    ·rw[Option.map_some,BM g]at d;rcases d with z|z
     ·have:k=.cell:=He z;exact absurd this (O.zG (y,k) (OF e))
     ·exact absurd (He z) g
  exact TK.mp (pZ scope.names [] y (.inr (OF a)))
 ·have E:(nD X.env.cells scope.names []).lookup y=some c:=F;have B:y∈xs:=by have U7:xs.contains y=true:=n;simpa using U7
  rcases tO scope.names [] y c E with⟨_,z⟩|z
  ·cases z
  ·have J:=(O.free (y,.free) z rfl).2;rw[(O.own y B).1]at J;cases J
 ·have M:X.base.get? b=some o:=e;rcases(A b j).2.2.2.1 with z|z
  ·exact I.ok.Cm b o M z
  ·exact absurd (FC (FS M) (DD I.ok.HQ z)) (NM _)
 ·rcases Fk.mp (I.y9 b z)with q|q
  ·exact(A b j).2.1 q
  ·exact(A b j).2.2.1 q
 ·have G:(xs++N')[i]?=some y:=e1;by_cases L:i<xs.length
  ·rw[IR (by simpa using L),FM]at h;cases q:xs[i]? with
   |none=>rw[q]at h;cases h
   |some z=>rw[q]at h;cases h
  ·rw[Ha (by simpa using L)]at h;rw[Ha (by lia)]at G;rw[Ap]at h;have Y8:y∈N':=NA G;have t:Ra (relabel scope X.env) y:=e3;unfold Ra at t;rw[gY I O]at t;have a:scope.names.lookup y=some .free:=by
    cases e:scope.names.lookup y with
    |none=>rw[e]at t;rcases t with z|z|z<;>cases z
    |some k=>
     rw[e]at t;by_cases g:k=.free
     ·rw[g]
     ·rw[Option.map_some,BM g]at t;rcases t with z|z|z
      ·have:k=.local:=He z;subst this;exact absurd e (O.out y Y8)
      ·have:k=.cell:=He z;exact absurd this (O.zG (y,k) (OF e))
      ·exact absurd (He z) g
   have P:=(O.free (y,.free) (OF a) rfl).1;obtain⟨m,T,Y⟩:=I.loc;have Y9:=O.pair _ y G (by rw[a];simp);obtain⟨u,r,l⟩:=Y _ y v Y9 h (.inr (.inl P));refine⟨u,r,?_⟩;rcases l with⟨R,_⟩|⟨_,c,Z,o,C,hd⟩
   ·have:X.env.scope.names.lookup y=some .local:=R;rw[P]at this;cases this
   ·refine .inr ⟨.inl ?_,c,?_,o,g c o C,hd⟩
    ·show(relabel scope X.env).names.lookup y=_;rw[gY I O,a];rfl
    ·obtain⟨c',w⟩:=TK.mp (pZ (cells:=X.env.cells) scope.names [] y (.inr (OF a)));have q:=f y c' w;rw[Z]at q;show(nD X.env.cells scope.names []).lookup y=some c;rw[w,←He q]
 ·obtain⟨v,o,C,hd⟩:=I.cell y c (f y c e);exact⟨v,o,g c o C,hd⟩
 ·show(xs.map (λ_=>none)++σ).length=(xs++N').length;rw[Fh,Fh,Ap,I.len,O.len]
end
noncomputable def PF(X:Cx)(d:List Expr)(t:TT):Prop:=
 ∀(a:List (Addr×Obj))(s:Shared)(b:St)(H:Hp)(Q:Bool->Hp->Prop),Inv X a b H s->t b H Q->
  wpAny (model X.prog X.w) X.A (forIn d true λc r=>if r=true then do let ok←isTrue c X.env (eval c X.env);pure (ForInStep.yield ok)else pure (ForInStep.yield r)) (TP X a b Q) X.xe s
noncomputable def SD:TT:=λ_ H Q=>Q true H
theorem E7{X:Cx}:PF X [] SD:=λ_ _ _ H _ I h=>wpAny_tests_nil ⟨H,I,h⟩
theorem NI{X:Cx}{c:Expr}{t:TT}(h:PT X c t):PF X [c] t:=λa s b H Q I q=>wpAny_tests_one (h a s b H Q I q)
noncomputable def E8(k:Nat)(q:TI)(g:TG)(tc:TT)(te:TE):TE:=λe H Q=>q e H λJ p=>∀D,p D=none->∃W:Nat->Nat->Hp->Prop,(∃m,W 0 m (upd p D (.lst [])))/\∀i m d,W i m d->
 (J.stop i d/\Q (.ref D) d)\/(J.go i d/\∀x o,J.Rf i d x o->∀j:List (Option V),j.length=k->g x (j++e) o λa r=>∃h:List (Option V),h.length=k/\a=h++e/\
   tc a r λb n=>if b=true then te a n λy l=>∃f,l D=some (.lst f)/\f.length<sizeLine/\∃c,c<m/\W (i+1) c (upd l D (.lst (f++[y])))else∃c,c<m/\W (i+1) c n)
theorem uJ{prog:Program}{w:World}{A:Around}{R:Result->Shared->Prop}{s:Shared}{u a l:Expr}{q:List Expr}{f:Scope}{pos:Pos}{E y:Value}{env:Env}(I:Nat->Shared->Prop)
 (z:∀n s,I n s->wpAny (model prog w) A (pyNext E) (λr e=>match r with
   |none=>R (.ok .next) e
   |some v=>wpAny (model prog w) A (letOwnedTupleGo a E v) (λ_ d=>wpAny (model prog w) A (assign a env v) (λ_ k=>
     wpAny (model prog w) A (forIn q true λc r=>if r=true then do let ok←isTrue c env (eval c env);pure (ForInStep.yield ok)else pure (ForInStep.yield r)) (λok b=>
      if ok=true then wpAny (model prog w) A (eval u env) (λx j=>wpAny (model prog w) A (call (.builtin "list.append") [y,x]) (λ_ i=>∃m,m<n/\I m i) (λ_ _=>False) j) (λ_ _=>False) b
      else∃m,m<n/\I m b) (λ_ _=>False) k) (λ_ _=>False) d) (λ_ _=>False) e) (λ_ _=>False) s)
 (n:Nat)(h:I n s):
 codeAny (model prog w) A (.compLoop (.ListComp u [⟨a,l,q,0⟩] f pos) 0 E y env) R s:=by
 refine codeAny_loop rfl I (λn s F=>?_) n h;show wpAny _ A ((compTurn (.ListComp u [⟨a,l,q,0⟩] f pos) 0 E y env).onRaise (λx=>do noteFrame x env;theTreesLotGoes x)) _ _ s;refine wpAny_noted ?_;rw[compTurn_list];refine FV (ma (FV (UF (z n s F) (λr e p=>?_) λ_ _ g=>g.elim)));cases r with
 |none=>exact Kj p
 |some v=>
  refine FV (UF p (λ_ d t=>?_) λ_ _ g=>g.elim);refine FV (UF t (λ_ k D=>FV (UF D (λok b o=>?_) λ_ _ g=>g.elim)) λ_ _ g=>g.elim);cases ok with
  |false=>exact Kj ⟨rfl,o⟩
  |true=>exact FV (FV (UF o (λx j C=>FV (UF C (λ_ i B=>Kj (Kj ⟨rfl,B⟩)) λ_ _ g=>g.elim)) λ_ _ g=>g.elim))
section
variable{X:Cx}
theorem p5{tg P Z:Expr}{U:List Expr}{scope:Scope}{t H:List Str}{pos:Pos}{g:TG}{tc:TT}{te:TE}(hc:X.calm=true)(O:gw scope X.env.scope X.N H t)
 (hg:∀C s0 H0 l,PG (aW X scope C t H s0 H0 l) tg g)(hf:∀C s0 H0 l,PF (aW X scope C t H s0 H0 l) U tc)(he:∀C s0 H0 l,PE (aW X scope C t H s0 H0 l) Z te)
 {v:List (Addr×Obj)}{B:St}{H1:Hp}{f:Shared}{it:Addr}{l:List Addr}{tn:Nat->Heap->Prop}{J:It}{Q:VK}{E:Value->Shared->Prop}{RR:Value->Addr->Result->Shared->Prop}
 (I2:Inv X v B H1 f)(T:Turn X.prog X.w X.K tg J l it tn)(st2:tn 0 f.heap)(f2:∀b∈l,pO X v H1 b)
 (h:∀D,H1 D=none->∃W:Nat->Nat->Hp->Prop,(∃m,W 0 m (upd H1 D (.lst [])))/\∀i m H2,W i m H2->
   (J.stop i H2/\Q (.ref D) H2)\/(J.go i H2/\∀x H3,J.Rf i H2 x H3->∀F:List (Option V),F.length=t.length->g x (F++B) H3 λS H4=>∃L:List (Option V),L.length=t.length/\S=L++B/\
     tc S H4 λb I=>if b=true then te S I λy H6=>∃ys,H6 D=some (.lst ys)/\ys.length<sizeLine/\∃G,G<m/\W (i+1) G (upd H6 D (.lst (ys++[y])))else∃G,G<m/\W (i+1) G I))
 (hRR:∀D C s' H',(∃m,s'.heap.Ns C m)->(∀h',Heap.SameBut C s'.heap h'->Inv X v B H' {s' with heap:=h'})->f.heap.objs.size<=D->f.heap.objs.size<=C->H' C=none->Q (.ref D) H'->RR (.ref D) C (.ok .next) s'):
 wpAny (model X.prog X.w) X.A (newList []) (λacc s₃=>wpAny (model X.prog X.w) X.A (newFunctionEnv scope X.env.globals (nD X.env.cells scope.names []) [] X.env.qual none .none (some X.env)) (λR s₄=>codeAny (model X.prog X.w) X.A (.compStart (.ListComp Z [⟨tg,P,U,0⟩] scope pos) 0 (.ref it) acc {R with scope:=relabel scope X.env}) (RR acc R.locals) s₄) E s₃) E f:=by
 refine wpAny_newObj_type (wpAny_newFunctionEnv O.zG (by intro y hy;simp at hy) (λs E9 Fb=>?_) O.kind);dsimp only at E9 Fb⊢;have hD:H1 f.heap.objs.size=none:=I2.hok.fresh (Do _);obtain⟨W,⟨m0,w0⟩,turn⟩:=h f.heap.objs.size hD;have I3:Inv X v B (upd H1 f.heap.objs.size (.lst [])) {f with heap:=f.heap.push {cls:=.type "list",dict:=none,data:=.seq ([]:List Value).toArray}}:=
  I2.laid (t':=f.toks) (λb u e=>Da _ e) (Do _) ⟨Kk _,[],0,.nil,Hb _ rfl⟩
 have V9:∀b∈l,b<f.heap.objs.size:=λb j=>by obtain⟨o,e,_⟩:=T.obj _ _ st2 b j;exact FS e
 have f3:∀b∈l,pO X v (upd H1 f.heap.objs.size (.lst [])) b:=λb j=>by obtain⟨q0,q⟩:=f2 b j;exact⟨by rw[ah (KB (V9 b j))];exact q0,q⟩
 generalize Ri:({f with heap:=f.heap.push {cls:=.type "list",dict:=none,data:=.seq ([]:List Value).toArray}}:Shared)=k at I3;have tQ:k.heap=f.heap.push {cls:=.type "list",dict:=none,data:=.seq ([]:List Value).toArray}:=by rw[←Ri]
 have Y:k.heap.objs.size=f.heap.objs.size+1:=by rw[tQ,Heap.size_push]
 have old:∀b o,k.heap.get? b=some o->s.get? b=some o:=λb o e=>Fb.extBut b o (by rw[←tQ];exact KB (FS e)) (Da _ (by rw[←tQ];exact e));have J4:Inv (aW X scope k.heap.objs.size t H k (upd H1 f.heap.objs.size (.lst [])) l) [] (t.map (λ_=>none)++B) (upd H1 f.heap.objs.size (.lst [])) {k with heap:=s,toks:=f.toks+([]:List (Str×Value)).length}:=
  E6 I3 O f3 (λb j=>by rw[Y];exact cx (V9 b j)) (by rw[tQ];exact E9) old
 have Za:({k with heap:=s,toks:=f.toks+([]:List (Str×Value)).length}:Shared)={f with heap:=s,toks:=f.toks+([]:List (Str×Value)).length}:=by rw[←Ri]
 rw[Za]at J4;have XQ:tn 0 s:=T.keep _ _ _ st2 λb j o e=>old b o (by rw[tQ];exact Da _ e);have hC:(f.heap.push {cls:=.type "list",dict:=none,data:=.seq ([]:List Value).toArray}).objs.size=k.heap.objs.size:=by rw[tQ]
 have Wa:∀{H':Hp},(∀b∈l,H' b=none)->∀b∈l,pO (aW X scope k.heap.objs.size t H k (upd H1 f.heap.objs.size (.lst [])) l) [] H' b:=λhn b j=>⟨hn b j,KB (by rw[Y];exact cx (V9 b j)),J4.ok.Co b j,.inl j,λx c e=>((J4.ok.U0 b j).2 x c e),λp hp=>absurd (show p∈([]:List (Addr×Obj))from hp) (by simp)⟩;have M:codeAny (model X.prog X.w) X.A (.compLoop (.ListComp Z [⟨tg,P,U,0⟩] scope pos) 0 (.ref it) (.ref f.heap.objs.size) (compEnvC scope (nD X.env.cells scope.names []) k.heap.objs.size X.env))
  (RR (.ref f.heap.objs.size) k.heap.objs.size) {f with heap:=s,toks:=f.toks+([]:List (Str×Value)).length}:=by
  refine uJ (λn s'=>∃(i:Nat)(F:List (Option V))(H':Hp),F.length=t.length/\Inv (aW X scope k.heap.objs.size t H k (upd H1 f.heap.objs.size (.lst [])) l) [] (F++B) H' s'/\tn i s'.heap/\(∀b∈l,H' b=none)/\W i n H') ?_ m0
   ⟨0,t.map (λ_=>none),_,Ap _,J4,XQ,λb j=>(f3 b j).1,w0⟩
  rintro n s5 ⟨i,F,I,hv0,I5,Rg,U4,w5⟩;rcases turn i n I w5 with⟨stop,qn⟩|⟨go,step⟩
  ·refine bJ (T.done (aW X scope k.heap.objs.size t H k (upd H1 f.heap.objs.size (.lst [])) l) rfl rfl rfl hc i [] s5 (F++B) I _ I5 (Wa U4) Rg stop) ?_;rintro r s6 ⟨hr,I6⟩;subst hr;obtain⟨m,hnm,_⟩:=I6.loc;refine hRR _ _ s6 I ⟨m,hnm⟩ (λh' LZ=>?_) (Do _) (by rw[Y];exact Nat.le_succ _) I6.free qn;have Wb:∀b o,k.heap.get? b=some o->b≠k.heap.objs.size:=λb o e=>KB (FS e);have u:=I6.base;have Zb:=I3.En (s':={s6 with heap:=h'}) (H':=I) (ch:=l) I6.os ⟨λb o e n j hx=>LZ.extBut b _ (Wb b o e) (u.keep b o e n j hx),λb o e n j hx=>by
    obtain⟨sl,q⟩:=u.slot b o e n j hx;exact⟨sl,LZ.extBut b _ (Wb b o e) q⟩,u.free,λb o e hx=>by
    obtain⟨o',q⟩:=u.there b o e hx;exact⟨o',LZ.extBut b _ (Wb b o e) q⟩,u.tups,u.ku,u.ly⟩ (λa o e=>?_) I6.bare (λb j=>?_)
   ·exact Zb
   ·have XR:∀b u,I b=some u->b≠k.heap.objs.size:=λb u e z=>by subst z;have:=I6.free;have e2:I k.heap.objs.size=none:=this;rw[e2]at e;cases e
    refine(I6.hok a o e).stay (λb u j q=>LZ.extBut b u ?_ q) (λ_ q=>q) λ_ _ q=>q;rcases j with rfl|j
    ·exact XR _ _ e
    ·exact XR _ _ j
   ·obtain⟨q0,q1,q2,q3,q4,q5⟩:=f3 b j;exact⟨q3,q1,q4,q5⟩
  ·refine bJ (T.item (aW X scope k.heap.objs.size t H k (upd H1 f.heap.objs.size (.lst [])) l) rfl rfl rfl hc i [] s5 (F++B) I _ I5 (Wa U4) Rg go) ?_;rintro r s6 ⟨u,hr,h6⟩;subst hr;refine bJ h6 ?_;rintro _ s7 ⟨x,H7,I7,r7,y7,Wc,Zc⟩;have Zd:=I7.pinned (Wa Zc) (T.obj _ _ Wc);refine bJ (hg _ _ _ _ _ s7 (F++B) H7 x u _ Zd r7 (step x H7 y7 F hv0)) ?_;rintro _ s8 ⟨σ8,H8,I8,L,hv1,e8,q8⟩;subst e8;have fin:∀{s9:Shared}{H9:Hp},Inv (aW X scope k.heap.objs.size t H k (upd H1 f.heap.objs.size (.lst [])) l) ([]++pP l s7.heap) (L++B) H9 s9->(∃G,G<n/\W (i+1) G H9)->
    ∃m,m<n/\∃(i:Nat)(F:List (Option V))(H':Hp),F.length=t.length/\Inv (aW X scope k.heap.objs.size t H k (upd H1 f.heap.objs.size (.lst [])) l) [] (F++B) H' s9/\tn i s9.heap/\(∀b∈l,H' b=none)/\W i m H':=λ{s9 H9} I9 ⟨G,hm,w9⟩=>by
    refine⟨G,hm,i+1,L,H9,hv1,I9.lz,T.keep _ _ _ Wc λb j o e=>(I9.pin (b,o) (Gc _ (Gc _ (iL j e)))).1,λb j=>?_,w9⟩;obtain⟨o,e,d⟩:=T.obj _ _ Wc b j;exact(I9.pin (b,o) (Gc _ (Gc _ (iL j e)))).2.1
   refine bJ (hf _ _ _ _ _ s8 (L++B) H8 _ I8 q8) ?_;rintro ok s9 ⟨H9,I9,q9⟩;cases ok with
   |false=>exact fin I9 q9
   |true=>show wpAny _ _ _ _ _ _;refine bJ (he _ _ _ _ _ s9 (L++B) H9 _ I9 q9) ?_;rintro y Ze ⟨vy,Zf,Zg,Zh,ys,hys,hl,Zi⟩;refine bJ (gX (X:=aW X scope k.heap.objs.size t H k (upd H1 f.heap.objs.size (.lst [])) l) _ Ze (L++B) Zf (.ref f.heap.objs.size) [vy] _ [y] (λ_ H'=>∃G,G<n/\W (i+1) G H') Zg rfl (.cons Zh .nil) ⟨_,ys,vy,rfl,rfl,hys,hl,Zi⟩) ?_;rintro _ s11 ⟨_,H11,Zj,_,Zk⟩;exact fin Zj Zk
 rw[hC];exact codeAny_compStart_list M (T.self X.A 0 _ _ _ XQ M)
theorem AU{tg a j:Expr}{i:List Expr}{scope:Scope}(d l:List Str){pos:Pos}{r:TI}{g:TG}{tc:TT}{te:TE}(L:X.calm=true)(y:dQ scope X.env.scope X.N l d=true)(E:PI X tg a r)
 (F:∀C f k c,PG (aW X scope C d l f k c) tg g)(G:∀C f k c,PF (aW X scope C d l f k c) i tc)(K:∀C f k c,PE (aW X scope C d l f k c) j te)
 (u:∀z,foldedSetIterable a X.env z=pure z:=by intro _;rfl):PE X (.ListComp j [⟨tg,a,i,0⟩] scope pos) (E8 d.length r g tc te):=by
 intro b s p H Q I h;have O:=gw.of y;rw[eval_ListComp];refine wpAny_comprehension_free (use:=none) rfl u (pY (kH I O)) O.kind O.loc (bJ (E b s p H _ I h) λv s1 R=>bJ R λt s2 P=>?_);obtain⟨it,c,tn,J,H2,e,Z,T,n,U,x⟩:=P;subst e;refine p5 (RR:=λo C=>compPost (model X.prog X.w) X.A X.xe none (EP X b p Q) o C) L O F G K Z T n U x ?_;rintro D C s' H' ⟨m,B⟩ M _ _ _ q;exact⟨m,B,λS Y=>⟨.ref D,H',M S Y,rfl,q⟩⟩
end
noncomputable def L3(D:Addr)(n i:Nat)(e:Nat->List V->Hp->Prop)(y:V)(c:Hp):Prop:=
 ∃a,c D=some (.lst a)/\a.length<sizeLine/\∃b,b<n -i/\(b=n -(i+1)/\i+1<=n/\∃d,e (i+1) d (upd c D (.lst (a++[y]))))
theorem SG{D:Addr}{n i:Nat}{c:Nat->List V->Hp->Prop}{y:V}{a:Hp}{ys b:List V}(d:i<n)(g:a D=some (.lst ys))(f:ys.length<sizeLine)(e:c (i+1) b (upd a D (.lst (ys++[y])))):L3 D n i c y a:=
 ⟨ys,g,f,n -(i+1),by omega,rfl,d,b,e⟩
theorem zH{d:Int}{n:Nat}{D:Addr}{te:TE}{k:St}{H1:Hp}{R:Hp->Prop}(g:Nat->List V->Hp->Prop)(v:g 0 [] (upd H1 D (.lst [])))
 (t:∀i ys H,i<n->g i ys H->te (some (.int (d+i))::k) H (L3 D n i g))(u:∀ys H,g n ys H->R H):
 ∃W:Nat->Nat->Hp->Prop,(∃m,W 0 m (upd H1 D (.lst [])))/\∀i m h,W i m h->
  ((LU d n).stop i h/\R h)\/((LU d n).go i h/\∀x s,(LU d n).Rf i h x s->∀j:List (Option V),j.length=1->gW 0 x (j++k) s λa w=>∃o:List (Option V),o.length=1/\a=o++k/\
    SD a w λb r=>if b=true then te a r λy q=>∃ys,q D=some (.lst ys)/\ys.length<sizeLine/\∃c,c<m/\W (i+1) c (upd q D (.lst (ys++[y])))else∃c,c<m/\W (i+1) c r):=by
 refine⟨λi m H=>m=n -i/\i<=n/\∃ys,g i ys H,⟨n,by simp,Kk _,[],v⟩,?_⟩;rintro i m H ⟨rfl,z,ys,p⟩;by_cases f:i<n
 ·refine .inr ⟨f,λx A y j l=>?_⟩;obtain⟨e,y⟩:=y;subst e y
  match j,l with
  |[_],_=>exact⟨[some (.int (d+i))],rfl,rfl,t i ys _ f p⟩
 ·have e:i=n:=by lia
  subst e;exact .inl ⟨Do _,u ys H p⟩
theorem CP{bs:List Bool}:∀{us:List Value},Vals (bs.map V.bl) us->us=bs.map Value.bool:=by
 induction bs with
 |nil=>intro us r;rw[List.map_nil]at r;cases r;rfl
 |cons b bs d=>
  intro us r;rw[QP]at r;cases r with
  |cons c a=>have e:_=Value.bool b:=c;rw[e,d a];rfl
theorem zI(bs:List Bool):((List.range bs.length).all λi=>(bs[i]?).getD true)=bs.all id:=by
 rw[h9,HI,HI];constructor
 ·intro h b d;obtain⟨i,c,rfl⟩:=dt d;have:=h i (SB.mpr c);simp only[B1 c,Option.getD_some]at this;exact this
 ·intro h i c;have a:=SB.mp c;simp only[B1 a,Option.getD_some];exact h _ (TB a)
section
variable{X:Cx}
theorem CQ(k:X.calm=true):cF X (.builtin "sum") (λa H Q=>∃(p:Addr)(ns:List Int),a=[.ref p]/\gU X.K H p (ns.map V.int)/\Q (.int ns.sum) H):=by
 intro d s o H a t Q I r h;obtain⟨p,ns,rfl,l,q⟩:=h;obtain⟨u,rfl,g⟩:=Vals.one r;cases(show u=Value.ref p from g);obtain⟨b,rv,i,_⟩:=I.list l;have f:=intsAre_of rv;obtain⟨a,e⟩:=f.allInts.items;have c:s.heap.IsList p (intItems a):=e▸i.isList;refine sum_intListG (I.ok.hd k) c λx v w j=>?_;have n:ns=a.toList.map (·.1):=by rw[←nums_intItems,←e];exact(show numsOf b.toArray.toList=ns from f.numsOf).symm
 have m:preSum (numAt a) a.size=ns.sum:=by rw[preSum_eq,ll (by simp),n]
 rw[m];exact⟨.int ns.sum,H,I.kept j,⟨_,rfl⟩,q⟩
theorem CT(x:X.calm=true):cF X (.builtin "all") (λg H Q=>∃(p:Addr)(bs:List Bool),g=[.ref p]/\gU X.K H p (bs.map V.bl)/\Q (.bl (bs.all id)) H):=by
 intro j s D H g E Q I r h;obtain⟨p,bs,rfl,y,q⟩:=h;obtain⟨u,rfl,m⟩:=Vals.one r;cases(show u=Value.ref p from m);obtain⟨a,rv,n,_⟩:=I.list y;have k:=CP rv;have f:=n.isList;have d:p<s.heap.objs.size:=by obtain⟨_,e,_⟩:=f;exact FS e
 refine call_all_walk (wpAny_pyIter_list f ?_);refine⟨s.heap.objs.size,[s.heap.objs.size,p],[s.heap.objs.size],a.toArray.size,_,_,λi=>(bs[i]?).getD true,rfl,Walks.list (A:=X.A.in1) (I.ok.hd x) _ p (KB d) a.toArray,
  ⟨⟨_,Hb _ rfl,rfl,rfl⟩,f.push _⟩,λi v G L M B l=>?_,λJ F w=>?_⟩
 ·have c:a[i]?=some v:=by simpa using B
  rw[k,FM]at c;cases e:bs[i]? with
  |none=>rw[e]at c;cases c
  |some b=>rw[e]at c;simp only[e,Option.getD_some]at l;have:v=Value.bool b:=(He c).symm;subst this;exact ar l
 ·have e:((List.range a.toArray.size).all λi=>(bs[i]?).getD true)=bs.all id:=by
   have C:a.toArray.size=bs.length:=by rw[FR,k,Ap]
   rw[C];exact zI bs
  rw[e];exact⟨.bl _,H,I.kept λb o z=>w b o (λt=>by rw[GM.mp t]at z;exact NM _ (FS z)) (Da _ z),rfl,q⟩
theorem IJ{i:Nat}{x:Str}{tg f r:Expr}{k:List Expr}{scope:Scope}{d pos t:Pos}(F P:List Str){wi:TI}{g:TG}{tc:TT}{te:TE}(hN:X.N.Nodup)(hi:X.N[i]?=some x)(B:Loc X.env.scope x)(hc:X.calm=true)(ho:dQ scope X.env.scope X.N P F=true)(SH:PI X tg f wi)
 (hg:∀C K M G,PG (aW X scope C F P K M G) tg g)(hf:∀C K M G,PF (aW X scope C F P K M G) k tc)(he:∀C K M G,PE (aW X scope C F P K M G) r te)
 (Z:swapsWith (.ListComp r [⟨tg,f,k,0⟩] scope pos) (some (.Name x d)) t.line X.env=pure true:=by rfl)
 (hs:∀z,foldedSetIterable f X.env z=pure z:=by intro _;rfl)(hfn:X.fn x=true\/X.env.scope.names.lookup x=some .local:=by first|exact .inl rfl|exact .inr rfl|assumption):
 PS X (.Assign [.Name x d] (.ListComp r [⟨tg,f,k,0⟩] scope pos) t) (sr (E8 F.length wi g tc te) (gW i)):=by
 intro j s R H W I h;have O:=gw.of ho;rw[exec_Assign_Name_used _ _ _ _ Z];refine FV (ma (FV ?_));show wpAny _ X.A (do let _←comprehension (.ListComp r [⟨tg,f,k,0⟩] scope pos) scope X.env _ (newList []) false (eval f X.env) (some (assign (.Name x d) X.env))) _ _ s;refine FV (UF (wpAny_comprehension_free (use:=some (assign (.Name x d) X.env)) (Q:=λ_ s'=>SP X j W .next s') rfl hs (pY (kH I O)) O.kind O.loc (bJ (SH j s R H _ I h) λv s1 h1=>bJ h1 λitv s2 h2=>?_)) (λ_ s' hq=>Kj (Kj hq)) λ_ _ e=>e);obtain⟨it,G,tn,J,H2,e,L,T,S,f2,hq⟩:=h2;subst e;refine p5 (Q:=λx H1=>gW i x R H1 W.nx) (RR:=λacc C=>compPost (model X.prog X.w) X.A X.xe (some (assign (.Name x d) X.env)) (λ_ s'=>SP X j W .next s') acc C) hc O hg hf he L T S f2 hq ?_;rintro D C s' H' ⟨m,hm⟩ hI _ hC fC q;have I':Inv X j R H' s':=hI s'.heap ⟨rfl,λ_ _=>rfl⟩;have Y:∀b o,s2.heap.get? b=some o->b≠C:=λb o e=>KB (FC (FS e) hC);have nL:C≠X.env.locals:=λe=>by obtain⟨m2,hn2,_⟩:=L.loc;obtain⟨o,_,_,ho2,_⟩:=hn2;exact Y _ o ho2 e.symm
 have nC:∀y c,X.env.cells.lookup y=some c->c≠C:=λy c e z=>by obtain⟨v,o,e1,_⟩:=L.cell y c e;exact Y _ o e1 z
 have nP:∀p∈X.pn++j,p.1≠C:=λp hp z=>Y _ _ (L.pin p hp).1 z;show wpAny _ X.A (assign (.Name x d) X.env (.ref D)) _ _ _;refine wpAny_assign_Name (tw I' hN hi B (v:=.ref D) rfl (λU Wd hsm=>?_) hfn);obtain⟨a,LZ,ha⟩:=hsm;have aC:a≠C:=by
  rcases ha with rfl|ha
  ·exact Pt nL
  ·exact nC x a ha
 refine⟨m,hm.sameBut LZ (Pt aC),λh' l=>⟨_,H',?_,q⟩⟩;refine Wd.En (s':={U with heap:=h'}) (H':=H') (ch:=[C]) rfl ⟨λb o e n E B=>l.extBut b o (λz=>B (by rw[z];exact GM.mpr rfl)) e,λb o e n E B=>⟨o.slots,l.extBut b o (λz=>B (by rw[z];exact GM.mpr rfl)) e⟩,λb o e n B=>n,λb o e B=>⟨o,l.extBut b o (λz=>B (by rw[z];exact GM.mpr rfl)) e⟩,λb F q=>q,λb o u q=>q,λb ps q=>⟨#[],by rw[Array.append_empty];exact q⟩⟩ (λa o e=>?_) Wd.bare (λb E=>?_)
 ·refine(Wd.hok a o e).stay (λb u E q=>l.extBut b u ?_ q) (λ_ q=>q) λ_ _ q=>q;rintro rfl;rcases E with rfl|E
  ·rw[fC]at e;cases e
  ·rw[fC]at E;cases E
 ·rw[GM.mp E];exact⟨.inr (DD L.sz hC),nL,λy c e z=>nC y c e z,nP⟩
theorem IK:VR X "int.bit_length" (λx b H Q=>∃i:Int,x=.int i/\b=[]/\Q (.int (Builtin.Int.intBits i:Nat)) H):=by intro a s c H x b v e Q I d rv h;obtain⟨i,rfl,rfl,q⟩:=h;obtain⟨t,rfl⟩:=d;cases rv;exact call_gives F.slot_int_bit_length (typeIs_int s i t) F.entry_int_bit_length (F.args_int_bit_length_1 _) (PySem.AutoIntG2.int_bit_length_int_0 i t) (show EP X a c Q (.int _ _) _ from⟨.int _,H,I.tok _,⟨_,rfl⟩,q⟩)
noncomputable def U8(a st:Int)(n:Nat):It:=⟨λi _=>i<n,λi H x b=>b=H/\x=.int (a+i*st),λi _=>n<=i⟩
theorem w6{P:Program}{w:World}{K:Frag}{tg:Expr}(c:Addr)(g st:Int)(n:Nat):Turn P w K tg (U8 g st n) [c] c (λi h=>IsRangeIter h c (g+(i:Nat)*st) ((n:Int) -(i:Nat)) st)where
 mem:=by simp
 obj:=λi h st b d=>by
  have e:b=c:=by simpa using d
  subst e;exact⟨_,st,λv z=>by have J:Data.fields _=Data.cell v:=z;cases J⟩
 keep:=λi h l st k=>k c (by simp) _ st
 item:=by intro X r m u q i a s F H E I j D p;subst r m u;obtain⟨C,B,N,A,y,x⟩:=j c (by simp);have W:=Walks.range (prog:=X.prog) (w:=X.w) (I.ok.hd q) c g st n;refine W.item i s _ _ p D λv l G M f L=>?_;obtain⟨t,rfl⟩:=M;have Q:Inv X a F H {s with heap:=l,toks:=G}:=I.turned (λb o d e=>L b o (by simpa using d) e) C B A y x;exact⟨_,rfl,wJ (s:={s with heap:=l,toks:=G}) (n:="range_iterator") f rfl rfl (by decide) ⟨.int (g+i*st),H,Q,⟨t,rfl⟩,⟨rfl,rfl⟩,f,λb d=>(j b d).1⟩⟩
 done:=by intro X r m u q i a s F H E I j D p;subst r m u;obtain⟨C,B,N,A,y,x⟩:=j c (by simp);exact wpAny_pyNext_range_end (I.ok.hd q) D (by have:n<=i:=p;omega) λl O=>⟨rfl,I.turned (t':=s.toks) (λb o d e=>O b o d e) C B A y x⟩
 self:=λ_ _ _ _ _ st h=>wpAny_pyIter_rangeiter st h
theorem CU{tg:Expr}{c:List (Addr×Obj)}{f:St}{H:Hp}{s:Shared}{R:It->Hp->Prop}{E:Value->Shared->Prop}{a d st:Int}{n:Nat}{t u v:Tok}{g:Nat}(I:Inv X c f H s)(i:Builtin.Range.small a d st=true)(j:Builtin.Range.rangeSize a d st=(n:Int))
 (q:R (U8 a st n) H):wpAny (model X.prog X.w) X.A (pyIter (.ref s.heap.objs.size)) (VD X c f tg R) E {s with heap:=s.heap.push {cls:=.type "range",data:=.fields #[.int a t,.int d u,.int st v]},toks:=g}:=by
 refine wpAny_pyIter_range (IsRange.new ..) i ?_;have h:Inv X c f H {s with heap:=s.heap.push {cls:=.type "range",data:=.fields #[.int a t,.int d u,.int st v]},toks:=g}:=I.kept λb o e=>Da _ e;refine⟨(s.heap.push {cls:=.type "range",data:=.fields #[.int a t,.int d u,.int st v]}).objs.size,[(s.heap.push {cls:=.type "range",data:=.fields #[.int a t,.int d u,.int st v]}).objs.size],_,_,H,rfl,
  h.kept (t':=g) λb o e=>Da _ e,w6 _ a st n,?_,λb k=>?_,q⟩
 ·have m:a+((0:Nat):Int)*st=a:=by simp
  have l:(n:Int) -((0:Nat):Int)=Builtin.Range.rangeSize a d st:=by rw[j];simp
  show IsRangeIter _ _ (a+((0:Nat):Int)*st) ((n:Int) -((0:Nat):Int)) st;rw[m,l];exact Hb _ rfl
 ·have e:b=(s.heap.push {cls:=.type "range",data:=.fields #[.int a t,.int d u,.int st v]}).objs.size:=by simpa using k
  subst e;exact h.wH (Do _) (h.hok.fresh (Do _))
noncomputable def SI(ta:TA):TI:=λa H R=>ta a H λb c=>∃(i j k:Int)(n:Nat),b=[.int i,.int j,.int k]/\(k≠0/\k.natAbs<1073741824/\Builtin.Range.small i j k=true/\Builtin.Range.rangeSize i j k=(n:Int))/\R (U8 i k n) c
theorem CV{tg a b c:Expr}{ta:TA}{p pos:Pos}(C:Gl X "range")(B:X.mg "range"=none)(D:PA X [a,b,c] ta)(A:starEach [a,b,c] X.env=[(false,eval a X.env),(false,eval b X.env),(false,eval c X.env)]:=by rfl)(g:starEach [b,c] X.env=[(false,eval b X.env),(false,eval c X.env)]:=by rfl):
 PI X tg (.Call (.Name "range" p) [a,b,c] [] pos) (SI ta):=by
 intro f s o H R I h;refine Call_ (gr I C B boot_range (Nw (bJ (D pos f s o H _ I h) λG K ⟨F,L,E,v,m⟩=>?_) (by rw[A,g]) (by rw[g];rfl)));obtain⟨i,j,k,n,e,⟨m,z,y,x⟩,q⟩:=m;subst e;cases v with
 |cons r d=>
  cases d with
  |cons w d=>
   cases d with
   |cons l d=>
    cases d;obtain⟨t,rfl⟩:=r;obtain⟨J,rfl⟩:=w;obtain⟨u,rfl⟩:=l;exact call_range_3 m (CU E y x q) (.inl (PyProof.noPylong_small z))
end
end L2
namespace L2
open PySem
end L2
namespace L2
open PySem PySem.Spec PyProof.Rows
noncomputable def Dt(X:Cx)(H:Hp)(x:V)(d:PyData):Prop:=
 ∀(a:List (Addr×Obj))(b:St)(s:Shared)(u:Value),Inv X a b H s->RelV x u->∃c,Reads s.heap u d c
section
variable{X:Cx}{H:Hp}
theorem NJ(i:Int):Dt X H (.int i) (.int i):=λ_ _ s u _ r=>by obtain⟨t,rfl⟩:=r;exact⟨_,.int i t⟩
theorem L5(b:Bool):Dt X H (.bl b) (.bool b):=λ_ _ s u _ r=>by
 cases(show u=Value.bool b from r);exact⟨_,.bool b⟩
theorem NK(x:Str):Dt X H (.str x) (.str x):=λ_ _ s u _ r=>by obtain⟨t,rfl⟩:=r;exact⟨_,.str x t⟩
theorem NL:Dt X H .aS .none:=λ_ _ s u _ r=>by
 cases(show u=Value.none from r);exact⟨_,.none⟩
theorem zJ{a:List (Addr×Obj)}{d:St}{s:Shared}(I:Inv X a d H s):∀{b:List V}{ds:List PyData}{us:List Value},Paired (Dt X H) b ds->Vals b us->∃c,ReadsAll s.heap us ds c
 |_,_,_,.nil,.nil=>⟨_,.nil⟩
 |_,_,_,.cons h t,.cons r e=>by obtain⟨c,q⟩:=h _ _ _ _ I r;obtain⟨g,f⟩:=zJ I t e;exact⟨_,.cons q f⟩
theorem uK{a:Addr}{c:List V}{ds:List PyData}(h:gU X.K H a c)(b:Paired (Dt X H) c ds):Dt X H (.ref a) (.list ds):=λ_ _ s u I r=>by
 cases(show u=Value.ref a from r);obtain⟨e,rv,d,_⟩:=I.list h;obtain⟨j,q⟩:=zJ I b rv;obtain⟨o,f,i,n,g⟩:=d.isList;exact⟨_,.list f i g (by simpa using q)⟩
theorem NN{a:Addr}{c:List V}{ds:List PyData}(h:kY X.K H a c)(b:Paired (Dt X H) c ds):Dt X H (.ref a) (.tuple ds):=λ_ _ s u I r=>by
 cases(show u=Value.ref a from r);obtain⟨d,rv,e,_⟩:=I.tuple h;obtain⟨j,q⟩:=zJ I b rv;obtain⟨o,f,i,n,g⟩:=e;exact⟨_,.tuple f i g (by simpa using q)⟩
noncomputable def Wf(X:Cx):R2:=λx y H Q=>∃b a,Dt X H x b/\Dt X H y a/\(SeqAt.shaped b=true/\SeqAt.shaped a=true/\SeqAt.noMix b a=true)/\Q (.bl (PySem.Spec.same b a)) H
noncomputable def Wg(X:Cx):R2:=λx y H Q=>∃b a,Dt X H x b/\Dt X H y a/\(SeqAt.shaped b=true/\SeqAt.shaped a=true/\SeqAt.noMix b a=true)/\Q (.bl (!PySem.Spec.same b a)) H
theorem Fc(j:X.A.units+64<cLine):kF X (compareOp .Eq) (Wf X):=by intro a s m H x y v u Q I c b h;obtain⟨o,n,l,k,⟨i,g,f⟩,q⟩:=h;obtain⟨r,e⟩:=l _ _ _ _ I c;obtain⟨p,d⟩:=k _ _ _ _ I b;exact eq_dataH_same e d i g j f ⟨.bl _,H,I,rfl,q⟩
theorem NO(j:X.A.units+64<cLine):kF X (compareOp .NotEq) (Wg X):=by intro a s m H x y v u Q I c b h;obtain⟨o,n,l,k,⟨i,g,f⟩,q⟩:=h;obtain⟨r,e⟩:=l _ _ _ _ I c;obtain⟨p,d⟩:=k _ _ _ _ I b;exact ne_dataH_same e d i g j f ⟨.bl _,H,I,rfl,q⟩
end
noncomputable def Wh(K:Frag)(a:Addr):It:=⟨λi H=>∃b x,gU K H a b/\b[i]?=some x,λi H x c=>∃p y,H p=none/\x=.ref p/\c=upd H p (.tup [.int i,y])/\∀b,gU K H a b->b[i]?=some y,λi H=>∃b,gU K H a b/\b.length=i⟩
theorem Inv.SK{X:Cx}{a:List (Addr×Obj)}{l:St}{H:Hp}{s:Shared}{h':Heap}{t':Nat}{ch:List Addr}{p:Addr}{h:List V}(I:Inv X a l H s)(j:∀b∈ch,pO X a H b)
 (k:∀b o,b∉ch->s.heap.get? b=some o->h'.get? b=some o)(t:s.heap.objs.size<=p)(i:bX X.prog X.w (upd H p (.tup h)) h' p (.tup h))(M:∀b∈ch,∃o,h'.get? b=some o):Inv X a l (upd H p (.tup h)) {s with heap:=h',toks:=t'}:=by
 have f:H p=none:=I.hok.fresh t;have x:∀b u,H b=some u->b∉ch:=λb u e z=>by rw[(j b z).1]at e;cases e
 have K:∀b o,s.heap.get? b=some o->b≠p:=λb o e z=>absurd (FC (FS e) t) (by rw[z];exact NM _);refine I.step (g':=s.gens) (d':=s.drawn) (ch:=ch) (λb g=>?_) (λb o _ _ d e _=>k b o d e) (λb o _ _ d e _=>⟨o.slots,k b o d e⟩) (λb o _ e n=>by rw[ah (K b o e)];exact n)
  (λb o d e=>⟨o,k b o d e⟩) (λb y e=>by rw[ah (aO e f)];exact e) (λb o u e=>by rw[ah (aO e f)];exact e) (λb L e=>⟨#[],by rw[ah (aO e f),e];simp⟩) (λm B=>?_) (λb u e=>?_) I.bare
 ·obtain⟨O,F,N,E,D,C⟩:=j b g;exact⟨E,F,D,C⟩
 ·obtain⟨o,G,J,A,r⟩:=B;exact⟨o,G,J,k _ o (λz=>(j _ z).2.1 rfl) A,r⟩
 ·by_cases g:b=p
  ·subst g;rw[ao]at e;cases e;exact i
  ·rw[ah g]at e;refine(I.hok b u e).stay (λc v d q=>k c v ?_ q) (λc q=>by rw[ah (aO q f)];exact q) λc y q=>by rw[ah (aO q f)];exact q
   rcases d with z|z
   ·rw[z];exact x b u e
   ·exact x c _ z
theorem CW{P:Program}{w:World}{K:Frag}{C:List Expr}{kk:Nat}{pos:Pos}(a e l:Addr)(R:e≠l):
 Turn P w K (.Tuple C kk pos) (Wh K a) [e,l] e (λi h=>(∃f,IsEnum h e l i f)/\h.IsListIter l a i)where
 mem:=by simp
 obj:=λi h q b m=>by
  obtain⟨⟨f,n⟩,o,r,c,d⟩:=q;rcases Fk.mp m with z|z
  ·subst z;exact⟨_,n,λv z=>by cases z⟩
  ·rw[GM.mp z];exact⟨o,r,λv z=>by rw[d]at z;cases z⟩
 keep:=λi h h' q k=>by obtain⟨⟨f,n⟩,F⟩:=q;exact⟨⟨f,k e (by simp) _ n⟩,F.at λo x=>k l (by simp) o x⟩
 item:=by
  intro X hP hw hK hc i M s σ H E I L q hg;subst hP hw hK;obtain⟨xs,x,Y,U⟩:=hg;obtain⟨j,rv,p,hz⟩:=I.list Y;obtain⟨u,hu,ru⟩:=rv.get U;obtain⟨⟨f,n⟩,F⟩:=q;have hit:=L l (by simp);have hee:=L e (by simp);have G:a≠l:=λz=>by obtain⟨o,r,c,d⟩:=F;obtain⟨o',g,J,_⟩:=p.isList;rw[z,r]at g;cases g;rw[c]at J;exact absurd J (by decide)
  have Zm:a≠e:=λz=>by obtain⟨o',g,J,_⟩:=p.isList;have B:s.heap.get? e=some _:=n;rw[z,B]at g;cases g;exact absurd (show Value.type "enumerate"=Value.type "list"from J) (by decide)
  have D:=Draws.list (prog:=X.prog) (w:=X.w) (A:=X.A.in1) (I.ok.hd hc) l a G j.toArray;have W:=WalksT.enumerateD D e R (by simp[R,Zm.symm]) (by simp);have hlt:i<j.toArray.size:=by have:=(Fu.mp hu).1;simpa using this
  refine W.item i s _ _ hlt ⟨⟨f,n⟩,F,p.isList⟩ λT vals h' tk Zn hT Wi SM hk=>?_;obtain⟨t,y,Z,rfl⟩:=Zn;have Zo:y=u:=by
   have:j[i]?=some y:=by simpa using Z
   rw[hu]at this;exact(He this).symm
  subst Zo;refine⟨.ref T,rfl,W.go C kk pos i T _ _ _ SM λS hst Q=>?_⟩;have XS:T∉[e,l]:=W.apart i T h' SM;obtain⟨⟨N,B⟩,O,_⟩:=hst;have SN:IsTup S T #[.int i t,y]:=by obtain⟨o,r,c⟩:=Wi;exact⟨o,Q T o XS r,c⟩
  have obj:bX X.prog X.w (upd H T (.tup [.int i,x])) S T (.tup [.int i,x]):=⟨fG (by show 2<=100000;decide),[.int i t,y],.cons ⟨t,rfl⟩ (.cons ru .nil),SN⟩;have I2:=I.SK (t':=tk) (ch:=[e,l]) L (λb o m eo=>Q b o m (hk b o m eo)) hT obj (λb m=>by
   rcases Fk.mp m with z|z
   ·rw[z];exact⟨_,B⟩
   ·rw[GM.mp z];obtain⟨o,r,_⟩:=O;exact⟨o,r⟩)
  refine⟨.ref T,upd H T (.tup [.int i,x]),I2,rfl,⟨T,x,I.hok.fresh hT,rfl,rfl,λys Z=>by rw[I.pM Z Y];exact U⟩,⟨⟨N,B⟩,O⟩,λb m=>?_⟩;rw[ah (show b≠T from λz=>XS (by rw[←z];exact m))];exact(L b m).1
 done:=by
  intro X hP hw hK hc i M s σ H E I L q hg;subst hP hw hK;obtain⟨xs,Y,U⟩:=hg;obtain⟨j,rv,p,hz⟩:=I.list Y;obtain⟨⟨f,n⟩,F⟩:=q;obtain⟨f0,f1,f2,f3,f4,f5⟩:=L l (by simp);have G:a≠l:=λz=>by obtain⟨o,r,c,d⟩:=F;obtain⟨o',g,J,_⟩:=p.isList;rw[z,r]at g;cases g;rw[c]at J;exact absurd J (by decide)
  have D:=Draws.list (prog:=X.prog) (w:=X.w) (A:=X.A.in1) (I.ok.hd hc) l a G j.toArray;have hn:j.toArray.size=i:=by rw[FR,←rv.length];exact U
  exact wpAny_pyNext_enum_endD D n ⟨by rw[hn];exact F,p.isList⟩ λh' eb=>⟨rfl,I.turned (t':=s.toks) (λb o m x=>eb b o m x) f0 f1 f3 f4 f5⟩
 self:=λ_ _ _ _ _ q h=>by obtain⟨⟨f,n⟩,_⟩:=q;exact wpAny_pyIter_enum n h
section
variable{X:Cx}
noncomputable def SO(K:Frag)(ta:TA):TI:=λc H R=>ta c H λe b=>∃a,e=[.ref a]/\(∃d,gU K b a d)/\R (Wh K a) b
theorem IL{a:Expr}{ta:TA}{g:List Expr}{v:Nat}{m p pos:Pos}(F:Gl X "enumerate")(C:X.mg "enumerate"=none)(J:PA X [a] ta)(x:bootBuiltins "enumerate"=some (.type "enumerate"):=by rfl)(A:starEach [a] X.env=[(false,eval a X.env)]:=by rfl):
 PI X (.Tuple g v m) (.Call (.Name "enumerate" p) [a] [] pos) (SO X.K ta):=by
 intro c s i H R I h;refine Call_ (gr I F C x (Nw (bJ (J pos c s i H _ I h) λP d ⟨O,k,f,o,r⟩=>?_) A rfl));obtain⟨l,e,⟨N,B⟩,q⟩:=r;subst e;obtain⟨u,rfl,n⟩:=Vals.one o;cases(show u=Value.ref l from n);obtain⟨w,rv,t,_⟩:=f.list B;refine call_enumerate_list t.isList λL j D y E=>?_;refine wpAny_pyIter_enum j ?_;have M:Inv X c i k {d with heap:=L}:=f.kept (t':=d.toks) E;refine⟨d.heap.objs.size+1,[d.heap.objs.size+1,d.heap.objs.size],_,_,k,rfl,M,CW l (d.heap.objs.size+1) d.heap.objs.size (Nat.succ_ne_self _),⟨⟨_,j⟩,D⟩,λb G=>?_,q⟩;rcases Fk.mp G with z|z
 ·rw[z];exact f.wH (by lia) (f.hok.fresh (by lia))
 ·rw[GM.mp z];exact f.wH (Do _) (f.hok.fresh (Do _))
end
noncomputable def Wj(K:Frag)(a:Addr)(n:Nat):It:=
 ⟨λi H=>∃b,gU K H a b/\b.length=n/\i<n,λi H x c=>c=H/\∀b,gU K H a b->b.length=n->b[n -1 -i]?=some x,λi _=>i=n⟩
theorem Fd{P:Program}{w:World}{K:Frag}{tg:Expr}(a l:Addr)(n:Nat):Turn P w K tg (Wj K a n) [l] l (λi h=>h.IsRevIter l a ((n:Int) -1 -(i:Int)))where
 mem:=by simp
 obj:=λi h f b m=>by
  have e:b=l:=by simpa using m
  subst e;obtain⟨o,e,c,d⟩:=f;refine⟨o,e,λv z=>?_⟩;rw[d]at z;cases z
 keep:=λi h r f k=>f.at λo e=>k l (GM.mpr rfl) o e
 item:=by
  intro X B t C R i g s M H E I q f A;subst B t C;obtain⟨N,Q,hn,hi⟩:=A;obtain⟨U,rv,p,hz⟩:=I.list Q;have O:N[n -1 -i]?=some (N[n -1 -i]'(by omega)):=B1 (by omega);obtain⟨u,Z,T⟩:=rv.get O;obtain⟨L,J,f2,G,F,D⟩:=q l (GM.mpr rfl);have e:(n:Int) -1 -(i:Int)=((n -1 -i:Nat):Int):=by omega
  rw[e]at f;refine wpAny_pyNext_rev_item f p.isList (x:=u) (by simpa using Z) λr j S=>?_;have e2:((n -1 -i:Nat):Int) -1=(n:Int) -1 -((i+1:Nat):Int):=by omega
  rw[e2]at j;have I1:Inv X g M H {s with heap:=r}:=I.turned (t':=s.toks) (λb o m z=>(S.2 b m).trans z) L J G F D;obtain⟨o,e3,c,d⟩:=id j;exact⟨u,rfl,wJ (s:={s with heap:=r}) e3 c d (by decide) ⟨_,H,I1,T,⟨rfl,λys Y _=>by rw[I.pM Y Q];exact O⟩,j,λb m=>(q b m).1⟩⟩
 done:=by
  intro X B t C R i g s M H E I q f A;subst B t C;have y:i=n:=A;subst y;obtain⟨L,J,f2,G,F,D⟩:=q l (GM.mpr rfl);have e:(i:Int) -1 -(i:Int)= -1:=by omega
  rw[e]at f;exact wpAny_pyNext_rev_end (I.ok.hd R) f λr eb=>⟨rfl,I.turned (t':=s.toks) (λb o m z=>eb b o m z) L J G F D⟩
 self:=λ_ _ _ _ _ f h=>wpAny_pyIter_revIter f h
section
variable{X:Cx}{tg:Expr}
noncomputable def Wk(K:Frag)(ta:TA):TI:=λd H R=>ta d H λe c=>∃a b,e=[.ref a]/\gU K c a b/\R (Wj K a b.length) c
theorem NP{a:Expr}{ta:TA}{p pos:Pos}(A:Gl X "reversed")(y:X.mg "reversed"=none)(C:PA X [a] ta)(v:bootBuiltins "reversed"=some (.type "reversed"):=by rfl)(w:starEach [a] X.env=[(false,eval a X.env)]:=by rfl):
 PI X tg (.Call (.Name "reversed" p) [a] [] pos) (Wk X.K ta):=by
 intro d s k H R I h;refine Call_ (gr I A y v (Nw (bJ (C pos d s k H _ I h) λG c ⟨F,E,g,n,r⟩=>?_) w rfl));obtain⟨l,f,e,x,q⟩:=r;subst e;obtain⟨u,rfl,m⟩:=Vals.one n;cases(show u=Value.ref l from m);obtain⟨i,rv,t,_⟩:=g.list x;refine call_reversed_list t.isList ?_;have D:((i.toArray.size:Nat):Int) -1=(f.length:Int) -1 -((0:Nat):Int):=by have:=rv.length;simp;omega
 rw[D];have j:Heap.IsRevIter (c.heap.push (revObj l ((f.length:Int) -1 -((0:Nat):Int)))) c.heap.objs.size l ((f.length:Int) -1 -((0:Nat):Int)):=⟨_,Hb _ rfl,rfl,rfl⟩;refine wpAny_pyIter_revIter j ?_;refine⟨c.heap.objs.size,[c.heap.objs.size],_,_,E,rfl,g.kept (t':=c.toks) λb o z=>Da _ z,Fd l _ f.length,j,λb B=>?_,q⟩;have e:b=c.heap.objs.size:=by simpa using B
 subst e;exact g.wH (Do _) (g.hok.fresh (Do _))
end
theorem CY:typeLookup (.type "list_reverseiterator") "__len__"=pure none:=by
 rw[typeLookup_type,builtinLookup_eq_fast]
 kernel_rfl
theorem Fe:typeLookup (.type "list_reverseiterator") "__length_hint__"=pure (some (.builtin "list_reverseiterator.__length_hint__")):=by
 rw[typeLookup_type,builtinLookup_eq_fast]
 kernel_rfl
section
variable{prog:Program}{w:World}{A:Around}{E:Value->Shared->Prop}
abbrev IM(xs:Array Value)(c:Nat):Obj:={cls:=.type "list",dict:=none,data:=.seq xs c,slots:= #[]}
theorem IP{s:Shared}{R:Result->Shared->Prop}{J l S:Addr}{vs:Array Value}{g:Value}{C:Nat}(u:A.handled=none)(t:s.heap.IsList l vs)(d:s.heap.IsRevIter J l ((vs.size:Int) -1))(r:l≠J)(n:S≠J)(p:S≠l)(x:s.heap.get? S=some (IM #[] C))(hz:vs.size<=sizeLine)
 (y:∀(s':Shared)(j:Array Value)(c:Nat),Moved [S,J] (λa b=>b=a) s s'->s'.heap.get? S=some (IM j c)->ItemsOf (λi v=>vs[vs.size -1 -i]?=some v) j vs.size->R (.ok (.ret g)) s'):
 wpAny (model prog w) A.in1 (Builtin.List.listExtendWith (.ref S) (.ref J) g) (λk s'=>match k with
  |.done f=>R (.ok f) s'
  |.again o=>o.quiet=true/\codeAny (model prog w) A o R s') (λe s'=>R (.error e) s') s:=by
 have V:=(Walks.listRev (prog:=prog) (w:=w) (A:=A.in1) u J l r vs).toS;have q:S∉[J,l]:=λm=>by simp only[Fk,T2,ib]at m;exact m.elim n p
 have z:0<=vs.size/\s.heap.IsRevIter J l ((vs.size:Int) -1 -((0:Nat):Int))/\s.heap.IsList l vs:=⟨Kk _,by rw[show(vs.size:Int) -1 -((0:Nat):Int)=(vs.size:Int) -1 by lia];exact d,t⟩;have B:Builtin.List.listSameRef (.ref S) (.ref J)=false:=by simp[Builtin.List.listSameRef,n]
 unfold Builtin.List.listExtendWith;refine FV (wpAny_typeOf d.typeIs ?_);rw[BM (by rw[B];decide)];refine FV (wpAny_pyIter_revIter d ?_);refine FV (wpAny_holding ?_);unfold Builtin.List.listLengthHint;refine FV (wpAny_specialOf d.typeIs CY ?_);show wpAny _ A.in1 (specialOf (Value.ref J) (Str.ofString "__length_hint__")>>=_) _ _ _;refine FV (wpAny_specialOf d.typeIs Fe ?_);generalize h:("list_reverseiterator.__length_hint__":String)=D
 wp_delta
 rw[show splitId D=some ("list_reverseiterator","__length_hint__")from by subst h;decide+kernel];subst h;refine FV (wpAny_isInstance (b:=true) d.typeIs (by rw[isSubtype_type];kernel_rfl) ?_);refine Kj ?_;rw[BM (by decide)];refine Kj ⟨plainId_quiet F.plain_extend_loop _,codeAny_extend_loopS V hz _ q _ vs.size 0 _ _ _ rfl (Kk _) z x (ItemsOf.nil _) ?_⟩;exact y
theorem sA{s:Shared}{Q:Value->Shared->Prop}{J l:Addr}{vs:Array Value}(D:A.handled=none)(q:s.heap.IsList l vs)(r:s.heap.IsRevIter J l ((vs.size:Int) -1))(y:l≠J)(hz:vs.size<=sizeLine)
 (G:∀(h':Heap)(t:Nat)(a:Array Value)(c:Nat),(∀b o,b≠J->s.heap.get? b=some o->h'.get? b=some o)->h'.get? s.heap.objs.size=some (IM a c)->ItemsOf (λi v=>vs[vs.size -1 -i]?=some v) a vs.size->Q (.ref s.heap.objs.size) {s with heap:=h',toks:=t}):
 wpAny (model prog w) A (call (.type "list") [.ref J]) Q E s:=by
 have I:J<s.heap.objs.size:=let⟨o,h,_⟩:=r;FS h
 have B:l<s.heap.objs.size:=let⟨o,h,_⟩:=q;FS h
 refine callType_codes (Q₁:=λu k=>u=.ref s.heap.objs.size/\k={s with heap:=s.heap.push (IM #[] 0)}) F.called_list (F.typeCall_list_1 _) F.entry_list_init (code_list_new _ ⟨rfl,rfl⟩) ?_;rintro u k ⟨rfl,rfl⟩;have d:(s.heap.push (IM #[] 0)).get? s.heap.objs.size=some (IM #[] 0):=Hb _ rfl;refine⟨⟨_,d,rfl⟩,F.args_list_init_2 _ _,?_⟩;show wpAny _ _ (Builtin.List.listItems (.ref s.heap.objs.size)>>=λj=>Builtin.List.listUpdate (.ref s.heap.objs.size) (λ_=> #[])>>=λ_=>letGo j.toList.reverse>>=λ_=>Builtin.List.listExtendWith (.ref s.heap.objs.size) (.ref J) .none) _ _ _;refine FV ?_;unfold Builtin.List.listItems;refine FV (wpAny_seqItems d rfl (Kj ?_));show wpAny _ _ (updateSeq s.heap.objs.size (λ_=> #[])>>=λ_=>letGo (#[]:Array Value).toList.reverse>>=λ_=>Builtin.List.listExtendWith (.ref s.heap.objs.size) (.ref J) .none) _ _ _;refine FV (wpAny_updateSeq d rfl ?_);have H:=Heap.get?_update_self (Obj.mapSeq λ_=>(#[]:Array Value)) d rfl;have f:∀b o,s.heap.get? b=some o->((s.heap.push (IM #[] 0)).update s.heap.objs.size (Obj.mapSeq λ_=>(#[]:Array Value))).get? b=some o:=λb o z=>(gd _ _ (i3 (FS z))).trans (Da _ z);refine FV (wpAny_letGo ?_);refine IP (A:=A.in1) (s:={s with heap:=_}) D (q.at λo z=>f _ o z) (r.at λo z=>f _ o z) y (i3 I) (i3 B) H hz λn a c m g C=>⟨rfl,?_⟩;rw[Moved.eq_with m];refine G n.heap n.toks a c (λb o x z=>m.heap b o (λp=>?_) (f b o z)) g C;simp only[Fk,T2,ib]at p;rcases p with e|e
 ·exact NM _ (e▸FS z)
 ·exact x e
end
theorem xg{h:Heap}{a:Addr}{o b:Obj}(n:a≠h.objs.size)(e:(h.push o).get? a=some b):h.get? a=some b:=by obtain⟨d,c⟩:=Heap.get?_some_iff.mp e;refine Heap.get?_some_iff.mpr ⟨?_,c⟩;cases h;simpa[Heap.push,Array.getElem?_push,n]using d
noncomputable def SQ(K:Frag)(ta:TA):TE:=λd H Q=>ta d H λe b=>∃a c,e=[.ref a]/\gU K b a c/\∀l,b l=none->Q (.ref l) (upd b l (.lst c.reverse))
theorem IQ{X:Cx}{a:Expr}{ta:TA}{p p2 pos k:Pos}(Z:X.calm=true)(Y:Gl X "list")(T:X.mg "list"=none)(Wm:Gl X "reversed")(x:X.mg "reversed"=none)(ha:PA X [a] ta)(R:starEach [a] X.env=[(false,eval a X.env)]:=by rfl):
 PE X (.Call (.Name "list" p) [.Call (.Name "reversed" p2) [a] [] k] [] pos) (SQ X.K ta):=by
 intro n s A H Q I h;refine Re (gr I Y T (by rfl) ?_ (by decide) (by decide));refine Nw ?_ rfl rfl;show wpAny _ _ (spliced ((false,eval (.Call (.Name "reversed" p2) [a] [] k) X.env)::backTo pos (starEach [] X.env))) _ _ s;refine Calls.spliced_cons ?_;refine Call_ (gr I Wm x (by rfl) (Nw (bJ (ha k n s A H _ I h) λus m ⟨vs,y,r,L,M⟩=>?_) R rfl));obtain⟨l,t,e,S,q⟩:=M;subst e;obtain⟨u,rfl,G⟩:=Vals.one L;cases(show u=Value.ref l from G);obtain⟨d,rv,v,hz⟩:=r.list S;have D:=rv.length;obtain⟨ol,Zq,_⟩:=id v.isList;refine call_reversed_list v.isList (Calls.spliced_nil ?_);have O:=FS Zq;have F:Inv X n A y {m with heap:=m.heap.push (revObj l ((d.toArray.size:Int) -1))}:=r.kept (t':=m.toks) λb o z=>Da _ z;have f:=r.wH (H':=y) (Do _) (r.hok.fresh (Do _));obtain⟨f0,f1,f2,f3,f4,f5⟩:=f;refine sA (vs:=d.toArray) (r.ok.hd Z) (v.isList.at λo z=>Da _ z) ⟨_,Hb _ rfl,rfl,rfl⟩ (KB O) (by simp only[FR]<;>lia) λh' B j c P g w=>?_;have ac:j.toList.toArray=j:=rfl;have J:Vals t.reverse j.toList:=by
  have e:j.toList=d.reverse:=by
   refine SC λi=>?_;by_cases U:i<d.length
   ·have h1:=w.2 i;have C:i<j.toList.length:=by have:=w.1;simp at this⊢;lia
    rw[B1 C];have h2:=h1 _ (by rw[←Array.getElem?_toList];exact B1 C);rw[List.getElem?_reverse U];simpa using h2.symm
   ·rw[Dx (by have:=w.1;simp at this⊢;lia),Dx (by rw[dq];lia)]
  rw[e];exact Vals.reverse rv
 have J1:=F.laid (a:=(m.heap.push (revObj l ((d.toArray.size:Int) -1))).objs.size) (o:=.lst t.reverse) (h':=(m.heap.push (revObj l ((d.toArray.size:Int) -1))).push (IM j c)) (t':=B) (λb o z=>Da _ z) (Do _) ⟨by rw[dq];exact hz,j.toList,c,J,Hb _ rfl⟩;have Zr:upd y (m.heap.push (revObj l ((d.toArray.size:Int) -1))).objs.size (.lst t.reverse) m.heap.objs.size=none:=by rw[ah (KB (by simp[Heap.push]))];exact f0
 have J2:=J1.turned (t':=B) (h':=h') (λb o N z=>?_) Zr f1 f3 f4 f5
 ·exact⟨.ref _,_,J2,rfl,q _ (F.hok.fresh (Do _))⟩
 ·by_cases E:b=(m.heap.push (revObj l ((d.toArray.size:Int) -1))).objs.size
  ·subst E;have e:=Hb (m.heap.push (revObj l ((d.toArray.size:Int) -1))) (o:=IM j c) rfl;have e2:=e.symm.trans z;cases e2;exact g
  ·refine P b o N ?_;exact xg E z
end L2
namespace L2
open PySem
variable{r:List Expr}{env:Env}{pos:Pos}
theorem Ff{a:List Expr}:starEach (.List a pos::r) env=(false,eval (.List a pos) env)::starEach r env:=rfl
inductive NQ:List Expr->List (Int×Int)->Prop where
 |nil:NQ [] []
 |cons {a b:Int} {j1 j2 k:Nat} {p1 p2 pos:Pos} {es:List Expr} {qs:List (Int×Int)} (h:NQ es qs):NQ (.Tuple [.Constant (.int a) j1 p1,.Constant (.int b) j2 p2] k pos::es) ((a,b)::qs)
end L2
namespace L2
open PySem PySem.Spec PyProof.Rows
theorem tR:∀bs:List Bool,PyData.canLayAll0 (bs.map PyData.bool)=true
 |[]=>rfl
 |b::r=>by rw[QP];simp[PyData.canLayAll0,PyData.canLay0,tR r]
theorem p6:∀bs:List Bool,PyData.depthAll (bs.map PyData.bool)=0
 |[]=>rfl
 |b::r=>by rw[QP];simp[PyData.depthAll,PyData.depth,p6 r]
theorem p7:∀bs cs:List Bool,PySem.Spec.sameAll (bs.map PyData.bool) (cs.map PyData.bool)=decide (bs=cs)
 |[],[]=>by simp[sameAll]
 |[],_::_=>by simp[sameAll]
 |_::_,[]=>by simp[sameAll]
 |b::r,c::t=>by
  have ih:=p7 r t;simp only[QP,sameAll,ih,PySem.Spec.same];by_cases h:b=c
  ·subst h;simp
  ·simp[h]
theorem lH(bs:List Bool):SeqAt.shaped (.list (bs.map PyData.bool))=true:=by unfold SeqAt.shaped;simp[PyData.canLay0,PyData.depth,tR,p6]
section
variable{X:Cx}{H:Hp}
theorem p8:∀bs:List Bool,Paired (Dt X H) (bs.map V.bl) (bs.map PyData.bool)
 |[]=>.nil
 |n::r=>.cons (L5 n) (p8 r)
noncomputable def SV(K:Frag):R2:=λx y H Q=>∃(p a:Addr)(b c:List Bool),x=.ref p/\y=.ref a/\gU K H p (b.map V.bl)/\gU K H a (c.map V.bl)/\Q (.bl (decide (b=c))) H
theorem IS(j:X.A.units+64<cLine):kF X (compareOp .Eq) (SV X.K):=by
 intro a s d H x y v u Q I g f h;obtain⟨p,m,b,c,rfl,rfl,l,k,q⟩:=h;have i:SeqAt.noMix (.list (b.map PyData.bool)) (.list (c.map PyData.bool))=true:=SeqAt.noMix_of_shape (.list .bool) rfl _ _ (list_map_has λ_=>rfl) (list_map_has λ_=>rfl);refine Fc j a s d H _ _ v u Q I g f ⟨_,_,uK l (p8 b),uK k (p8 c),⟨lH _,lH _,i⟩,?_⟩;have e:PySem.Spec.same (.list (b.map PyData.bool)) (.list (c.map PyData.bool))=decide (b=c):=by simp only[PySem.Spec.same];exact p7 b c
 rw[e];exact q
end
mutual
noncomputable def aK:PyData->Bool
 |.int _=>true
 |.list a=>fM a
 |.tuple a=>fM a
 |.none=>false
 |.bool _=>false
 |.str _=>false
 |.dict _=>false
noncomputable def fM:List PyData->Bool
 |[]=>true
 |x::a=>aK x&&fM a
end
mutual
theorem Fg:∀d:PyData,aK d=true->d.canLay0=true
 |.int _,_=>by simp[PyData.canLay0]
 |.list a,h=>by rw[aK]at h;rw[PyData.canLay0];exact nE a h
 |.tuple a,h=>by rw[aK]at h;rw[PyData.canLay0];exact nE a h
 |.none,h=>by simp[aK]at h
 |.bool _,h=>by simp[aK]at h
 |.str _,h=>by simp[aK]at h
 |.dict _,h=>by simp[aK]at h
theorem nE:∀a:List PyData,fM a=true->PyData.canLayAll0 a=true
 |[],_=>by simp[PyData.canLayAll0]
 |x::a,h=>by rw[fM,AN]at h;rw[PyData.canLayAll0,Fg x h.1,nE a h.2];rfl
end
mutual
theorem Fi:∀d e:PyData,aK d=true->aK e=true->SeqAt.noMix d e=true
 |.int _,.int _,_,_=>by simp[SeqAt.noMix]
 |.int _,.list _,_,_=>by simp[SeqAt.noMix]
 |.int _,.tuple _,_,_=>by simp[SeqAt.noMix]
 |.list _,.int _,_,_=>by simp[SeqAt.noMix]
 |.list _,.tuple _,_,_=>by simp[SeqAt.noMix]
 |.tuple _,.int _,_,_=>by simp[SeqAt.noMix]
 |.tuple _,.list _,_,_=>by simp[SeqAt.noMix]
 |.list b,.list ys,h,a=>by rw[aK]at h a;rw[SeqAt.noMix];exact nF b ys h a
 |.tuple b,.tuple ys,h,a=>by rw[aK]at h a;rw[SeqAt.noMix];exact nF b ys h a
 |.none,_,h,_=>by simp[aK]at h
 |.bool _,_,h,_=>by simp[aK]at h
 |.str _,_,h,_=>by simp[aK]at h
 |.dict _,_,h,_=>by simp[aK]at h
 |.int _,.none,_,h=>by simp[aK]at h
 |.int _,.bool _,_,h=>by simp[aK]at h
 |.int _,.str _,_,h=>by simp[aK]at h
 |.int _,.dict _,_,h=>by simp[aK]at h
 |.list _,.none,_,h=>by simp[aK]at h
 |.list _,.bool _,_,h=>by simp[aK]at h
 |.list _,.str _,_,h=>by simp[aK]at h
 |.list _,.dict _,_,h=>by simp[aK]at h
 |.tuple _,.none,_,h=>by simp[aK]at h
 |.tuple _,.bool _,_,h=>by simp[aK]at h
 |.tuple _,.str _,_,h=>by simp[aK]at h
 |.tuple _,.dict _,_,h=>by simp[aK]at h
theorem nF:∀a ys:List PyData,fM a=true->fM ys=true->SeqAt.noMixAll a ys=true
 |[],[],_,_=>by simp[SeqAt.noMixAll]
 |[],_::_,_,_=>by simp[SeqAt.noMixAll]
 |_::_,[],_,_=>by simp[SeqAt.noMixAll]
 |x::a,y::ys,h,b=>by rw[fM,AN]at h b;rw[SeqAt.noMixAll,Fi x y h.1 b.1,nF a ys h.2 b.2];rfl
end
mutual
theorem CZ:∀d e:PyData,aK d=true->aK e=true->(same d e=true↔d=e)
 |.int a,.int b,_,_=>by simp[same]
 |.int _,.list _,_,_=>by simp[same]
 |.int _,.tuple _,_,_=>by simp[same]
 |.list _,.int _,_,_=>by simp[same]
 |.list _,.tuple _,_,_=>by simp[same]
 |.tuple _,.int _,_,_=>by simp[same]
 |.tuple _,.list _,_,_=>by simp[same]
 |.list f,.list ys,h,c=>by rw[aK]at h c;rw[same,kI f ys h c,PyData.list.injEq]
 |.tuple f,.tuple ys,h,c=>by rw[aK]at h c;rw[same,kI f ys h c,PyData.tuple.injEq]
 |.none,_,h,_=>by simp[aK]at h
 |.bool _,_,h,_=>by simp[aK]at h
 |.str _,_,h,_=>by simp[aK]at h
 |.dict _,_,h,_=>by simp[aK]at h
 |.int _,.none,_,h=>by simp[aK]at h
 |.int _,.bool _,_,h=>by simp[aK]at h
 |.int _,.str _,_,h=>by simp[aK]at h
 |.int _,.dict _,_,h=>by simp[aK]at h
 |.list _,.none,_,h=>by simp[aK]at h
 |.list _,.bool _,_,h=>by simp[aK]at h
 |.list _,.str _,_,h=>by simp[aK]at h
 |.list _,.dict _,_,h=>by simp[aK]at h
 |.tuple _,.none,_,h=>by simp[aK]at h
 |.tuple _,.bool _,_,h=>by simp[aK]at h
 |.tuple _,.str _,_,h=>by simp[aK]at h
 |.tuple _,.dict _,_,h=>by simp[aK]at h
theorem kI:∀a ys:List PyData,fM a=true->fM ys=true->(sameAll a ys=true↔a=ys)
 |[],[],_,_=>by simp[sameAll]
 |[],_::_,_,_=>by simp[sameAll]
 |_::_,[],_,_=>by simp[sameAll]
 |x::a,y::ys,h,b=>by rw[fM,AN]at h b;rw[sameAll,AN,CZ x y h.1 b.1,kI a ys h.2 b.2,List.cons.injEq]
end
section
variable{X:Cx}
end
theorem xh{a:List PyData}{n:Nat}(h:∀x∈a,x.depth<=n):PyData.depthAll a<=n:=by
 induction a with
 |nil=>simp[PyData.depthAll]
 |cons x a b=>rw[PyData.depthAll];have:=h x (FK ..);have:=b λy c=>h y (DL _ c);lia
end L2
namespace Num
theorem xj(a b q:Int):Int.gcd b (a -q*b)=Int.gcd a b:=by
 apply Nat.dvd_antisymm
 ·apply Int.dvd_gcd
  ·have f:((Int.gcd b (a -q*b):Nat):Int)∣b:=dk ..;have d:((Int.gcd b (a -q*b):Nat):Int)∣(a -q*b):=Pl ..;have c:=Int.dvd_add d (Int.dvd_mul_of_dvd_right f:_∣q*b);have e:a -q*b+q*b=a:=by lia
   rw[e]at c;exact c
  ·exact dk ..
 ·apply Int.dvd_gcd
  ·exact Pl ..
  ·exact Int.dvd_sub (dk ..) (Int.dvd_mul_of_dvd_right (Pl ..))
theorem fl(a b:Int)(c:b≠0):(0<b->0<=a -a.fdiv b*b/\a -a.fdiv b*b<b)/\(b<0->b<a -a.fdiv b*b/\a -a.fdiv b*b<=0):=by
 have e:=Int.mul_ediv_add_emod a b;have f:=Int.emod_nonneg a c;have d:a%b<(b.natAbs:Int):=by
  rcases Int.lt_or_le 0 b with z|z
  ·have:=Int.emod_lt_of_pos a z;lia
  ·have:=Int.emod_lt_of_pos a (show 0< -b by lia);rw[Int.emod_neg]at this;lia
 rw[Int.fdiv_eq_ediv];have g:b*(a/b)=(a/b)*b:=de _ _;constructor
 ·intro h;rw[Bz (Or.inl (by lia)),Int.sub_zero];lia
 ·intro h;split
  ·rename_i hd
   have hz:a%b=0:=Int.emod_eq_zero_of_dvd (by lia);rw[Int.sub_zero];lia
  ·rename_i hd
   have hz:a%b≠0:=λz=>hd (.inr (Int.dvd_of_emod_eq_zero z));have:(a/b -1)*b=a/b*b -b:=by rw[Int.sub_mul];lia
   lia
theorem Fj(a b:Int)(c:b≠0):(a -a.fdiv b*b).natAbs<b.natAbs:=by have:=fl a b c;omega
theorem fmod_eq(a b:Int):a.fmod b=a -a.fdiv b*b:=by have:=Int.mul_fdiv_add_fmod a b;have:b*a.fdiv b=a.fdiv b*b:=de _ _;omega
theorem dz(r:Rat):(r.den:Int)≠0:=by have:=r.den_nz;lia
theorem dpos(r:Rat):(0:Int)<r.den:=by have:=r.den_pos;omega
theorem NR{n:Int}{d:Nat}{r:Rat}(a:d≠0)(b:Nat.gcd n.natAbs d=1)(h:n*r.den=r.num*d):r.num=n/\(r.den:Int)=d:=by
 have e:r=⟨n,d,a,b⟩:=by rw[←Iy r,Rat.mk_eq_divInt,eA (dz r) (by lia)];exact h.symm
 rw[e];exact⟨rfl,rfl⟩
theorem sC(a b:Rat):(a*b).num*(a.den*b.den:Int)=(a.num*b.num)*(a*b).den:=by
 have c:a*b=Rat.divInt (a.num*b.num) (a.den*b.den):=by
  conv=>lhs;rw[←Iy a,←Iy b]
  exact cq _ _
 exact(eA (dz _) (Jn (dz a) (dz b))).mp ((Iy (a*b)).trans c)
theorem uL{x y m:Int}(b:Int.gcd x m=1)(a:Int.gcd y m=1):Int.gcd (x*y) m=1:=by unfold Int.gcd at*;rw[Fn];exact Nat.Coprime.mul_left b a
theorem Fl{x y m:Int}(b:Int.gcd m x=1)(a:Int.gcd m y=1):Int.gcd m (x*y)=1:=by rw[Int.gcd_comm]at*;exact uL b a
theorem uM{x y m:Int}(h:Int.gcd x m=1)(a:y∣m):Int.gcd x y=1:=by unfold Int.gcd at*;exact Nat.Coprime.coprime_dvd_right (ft.mpr a) h
theorem xm{x y m:Int}(h:Int.gcd m x=1)(a:y∣m):Int.gcd y x=1:=by rw[Int.gcd_comm]at*;exact uM h a
theorem red(r:Rat):Int.gcd r.num r.den=1:=r.reduced
theorem o9(x y:Int)(h:y≠0):∃b a:Int,x=(Int.gcd x y:Nat)*b/\y=(Int.gcd x y:Nat)*a/\Int.gcd b a=1/\0<((Int.gcd x y:Nat):Int):=by
 have f:0<Int.gcd x y:=Int.gcd_pos_of_ne_zero_right _ h;obtain⟨b,d⟩:((Int.gcd x y:Nat):Int)∣x:=dk ..;obtain⟨a,c⟩:((Int.gcd x y:Nat):Int)∣y:=Pl ..;refine⟨b,a,d,c,?_,by lia⟩;have e:Int.gcd ((Int.gcd x y:Nat)*b) ((Int.gcd x y:Nat)*a)=Int.gcd x y*Int.gcd b a:=by rw[Int.gcd_mul_left];rfl
 rw[←d,←c]at e;have:Int.gcd x y*1=Int.gcd x y*Int.gcd b a:=by lia
 exact(Nat.eq_of_mul_eq_mul_left f this).symm
theorem lI{g x a:Int}(h:x=g*a)(b:0<g):x/g=a:=by rw[h];exact Y2 _ (by lia)
theorem zK{g y a:Int}(h:y=g*a)(b:0<g)(c:0<y):0<a:=by
 rcases Int.lt_or_le 0 a with z|z
 ·exact z
 ·have:=Int.mul_nonpos_of_nonneg_of_nonpos (Tb b) z;omega
theorem uN{n d:Int}{r:Rat}(b:0<d)(a:Int.gcd n d=1)(h:n*r.den=r.num*d):r.num=n/\(r.den:Int)=d:=by
 have e:((d.toNat:Nat):Int)=d:=by lia
 have:=NR (n:=n) (d:=d.toNat) (r:=r) (by lia) (by unfold Int.gcd at a;rw[show d.toNat=d.natAbs by lia];exact a) (by rw[e];exact h);rw[e]at this;exact this
theorem Fo(a b:Rat):0<((Int.gcd a.num b.den:Nat):Int)/\0<((Int.gcd b.num a.den:Nat):Int)/\
 (a*b).num=a.num/(Int.gcd a.num b.den:Nat)*(b.num/(Int.gcd b.num a.den:Nat))/\((a*b).den:Int)=(a.den:Int)/(Int.gcd b.num a.den:Nat)*((b.den:Int)/(Int.gcd a.num b.den:Nat)):=by
 obtain⟨x,y,j,d,i,h⟩:=o9 a.num b.den (dz b);obtain⟨z,w,hz,e,v,g⟩:=o9 b.num a.den (dz a);generalize((Int.gcd a.num b.den:Nat):Int)=f at*;generalize((Int.gcd b.num a.den:Nat):Int)=s at*;have l:=zK d h (dpos b);have m:=zK e g (dpos a);have k:Int.gcd (x*z) (w*y)=1:=by have u:Int.gcd x w=1:=uM (xm (red a) ⟨f,by rw[j];grind⟩) ⟨s,by rw[e];grind⟩;have t:Int.gcd z y=1:=uM (xm (red b) ⟨s,by rw[hz];grind⟩) ⟨f,by rw[d];grind⟩;exact Fl (uL u v) (uL i t)
 have A:x*z*(a*b).den=(a*b).num*(w*y):=by
  have o:=sC a b;have q:(a.den*b.den:Int)=(f*s)*(w*y):=by rw[e,d];grind
  have p:a.num*b.num=(f*s)*(x*z):=by rw[j,hz];grind
  rw[q,p]at o;have n:f*s≠0:=Jn (by lia) (by lia);have:(f*s)*((a*b).num*(w*y))=(f*s)*(x*z*(a*b).den):=by grind
  exact(Sr n this).symm
 have c:=uN (r:=a*b) (Int.mul_pos m l) k A;refine⟨h,g,?_,?_⟩
 ·rw[c.1,lI j h,lI hz g]
 ·rw[c.2,lI e g,lI d h]
noncomputable def Bd(n:Nat)(r:Rat):Prop:=r.num.natAbs<2^n/\r.den<2^n
theorem lt_mul{x y n m:Nat}(b:x<2^n)(a:y<2^m):x*y<2^(n+m):=by
 rw[eP];rcases cb y with z|z
 ·subst z;have:=Nat.mul_pos (U2 (n:=n) (show 0<2 by decide)) (U2 (n:=m) (show 0<2 by decide));omega
 ·exact FC (Nat.mul_lt_mul_of_pos_right b z) (Ee _ (Mo a))
noncomputable def cf(a bs:List Int):Nat->Nat->Int
 |0,_=>0
 |i+1,k=>cf a bs i k+a.getD i 0*(if i<=k then bs.getD (k -i) 0 else 0)
noncomputable def DY(a bs:List Int)(i j k:Nat):Int:=cf a bs i k+(if i<=k/\k<i+j then a.getD i 0*bs.getD (k -i) 0 else 0)
theorem Ft(a bs:List Int)(i k:Nat):DY a bs i 0 k=cf a bs i k:=by unfold DY;rw[BM (by lia)];lia
theorem Fv(a bs:List Int)(i k:Nat):DY a bs i bs.length k=cf a bs (i+1) k:=by
 unfold DY;rw[cf];by_cases h:i<=k
 ·by_cases b:k<i+bs.length
  ·rw[Bz ⟨h,b⟩,Bz h]
  ·have e:bs.getD (k -i) 0=0:=by rw[AC,Dx (by lia)];rfl
   rw[BM (by lia),Bz h,e,SF]
 ·rw[BM (by lia),BM h,SF]
theorem xo(a bs:List Int)(i j k:Nat):DY a bs i (j+1) k=DY a bs i j k+(if k=i+j then a.getD i 0*bs.getD j 0 else 0):=by
 unfold DY;by_cases h:k=i+j
 ·subst h;rw[Bz (by lia),BM (by lia),Bz rfl,W1];lia
 ·rw[BM h];by_cases b:i<=k/\k<i+j
  ·rw[Bz (by lia),Bz b];lia
  ·rw[BM (by lia),BM b];lia
theorem IT{a bs:List Int}{i:Nat}(h:a.getD i 0=0)(k:Nat):cf a bs (i+1) k=cf a bs i k:=by rw[cf,h,fe,lx]
theorem xq(a bs:List Int)(k:Nat):∀i,i+bs.length<=k+1->cf a bs i k=0
 |0,_=>rfl
 |i+1,h=>by
  rw[cf,xq a bs k i (by lia)];have e:bs.getD (k -i) 0=0:=by rw[AC,Dx (by lia)];rfl
  rw[Bz (by lia),e,SF];rfl
noncomputable def iP(ns a:List Int):Prop:=∃k,k<=ns.length/\a=ns.take k/\(∀j,k<=j->j<ns.length->ns.getD j 0=0)/\(k=0\/ns.getD (k -1) 0≠0)
theorem iP.last{ns a:List Int}(h:iP ns a):a=[]\/a.getD (a.length -1) 0≠0:=by
 obtain⟨k,c,rfl,e,b⟩:=h;rcases b with q|q
 ·left;rw[q];rfl
 ·by_cases d:k=0
  ·left;rw[d];rfl
  ·right;rw[aw,Nat.min_eq_left c,AC,eJ (by lia),←AC];exact q
theorem iP.mem{ns a:List Int}(h:iP ns a):∀m∈a,m∈ns:=by obtain⟨k,_,rfl,_⟩:=h;exact λm b=>List.mem_of_mem_take b
theorem xr(t b:Int)(k:b≠0):((if b<0 then-((Int.gcd t b:Nat):Int)else((Int.gcd t b:Nat):Int))≠0)/\(Rat.divInt t b).num=t.fdiv (if b<0 then-((Int.gcd t b:Nat):Int)else((Int.gcd t b:Nat):Int))/\
 ((Rat.divInt t b).den:Int)=b.fdiv (if b<0 then-((Int.gcd t b:Nat):Int)else((Int.gcd t b:Nat):Int)):=by
 obtain⟨x,y,i,e,c,j⟩:=o9 t b k;have m:=(eA (dz (Rat.divInt t b)) k).mp (Iy (Rat.divInt t b));generalize((Int.gcd t b:Nat):Int)=g at*;generalize Rat.divInt t b=r at*;have gz:g≠0:=by lia
 have l:x*r.den=r.num*y:=by
  rw[i,e]at m;have:g*(x*r.den)=g*(r.num*y):=by grind
  exact Sr gz this
 rcases Int.lt_or_le b 0 with z|z
 ·rw[Bz z];have f:0< -y:=by
   rcases Int.lt_or_le 0 (-y)with q|q
   ·exact q
   ·have:=Int.mul_nonneg (Tb j) (show 0<=y by lia);lia
  have a:=uN (n:= -x) (d:= -y) (r:=r) f (by rw[Int.gcd_neg,Int.neg_gcd];exact c) (by grind);have h: -g≠0:=by lia
  refine⟨h,?_,?_⟩
  ·rw[a.1,i,show g*x= -g* -x by grind,eM _ h]
  ·rw[a.2,e,show g*y= -g* -y by grind,eM _ h]
 ·rw[BM (by lia)];have f:=zK e j (by lia);have a:=uN (r:=r) f c l;refine⟨gz,?_,?_⟩
  ·rw[a.1,i,eM _ gz]
  ·rw[a.2,e,eM _ gz]
theorem zL(t b:Int)(a:b≠0):(Rat.divInt t b).num*b=t*(Rat.divInt t b).den:=(eA (dz _) a).mp (Iy _)
theorem lJ(t b:Int)(f:b≠0):(Rat.divInt t b).num.natAbs<=t.natAbs/\(Rat.divInt t b).den<=b.natAbs:=by
 have c:=zL t b f;generalize Rat.divInt t b=r at*;have d:r.num.natAbs*b.natAbs=t.natAbs*r.den:=by have:=Wp Int.natAbs c;rw[Fn,Fn,Int.natAbs_natCast]at this;exact this
 have a:Nat.Coprime r.num.natAbs r.den:=r.reduced;have e:0<b.natAbs:=by lia
 have h:r.den∣b.natAbs:=a.symm.dvd_of_dvd_mul_left ⟨t.natAbs,by rw[d,da]⟩;have g:r.num.natAbs∣t.natAbs:=a.dvd_of_dvd_mul_right ⟨b.natAbs,d.symm⟩;refine⟨?_,Nat.le_of_dvd e h⟩;rcases cb t.natAbs with z|z
 ·rw[z,Nat.zero_mul]at d;rcases Nat.mul_eq_zero.mp d with q|q
  ·lia
  ·lia
 ·exact Nat.le_of_dvd z g
noncomputable def ev(x:Rat):List Rat->Rat
 |[]=>0
 |r::a=>r+x*ev x a
theorem AV(x:Rat):x*((x.den:Int):Rat)=((x.num:Int):Rat):=by
 have h:=Iy x;rw[cw]at h;have:((x.den:Int):Rat)≠0:=λz=>by have:=Rat.intCast_inj.mp (z.trans (show(0:Rat)=((0:Int):Rat)from rfl));have:=x.den_nz;lia
 grind
theorem nH{x:Rat}{B:Int}(h:(x.den:Int)∣B):((x.num*(B/x.den):Int):Rat)=x*B:=by
 obtain⟨k,a⟩:=h;have e:B/(x.den:Int)=k:=by rw[a];exact Y2 _ (dz x)
 rw[e,a,Qb,Qb,←AV x];grind
noncomputable def sm(f:Nat->Int):Nat->Int
 |0=>0
 |n+1=>sm f n+f n
theorem kJ{f g:Nat->Int}:∀n,(∀i,i<n->f i=g i)->sm f n=sm g n
 |0,_=>rfl
 |n+1,h=>by rw[sm,sm,kJ n λi a=>h i (by lia),h n (by lia)]
theorem AW(f:Nat->Int):∀n,sm f (n+1)=f 0+sm (λi=>f (i+1)) n
 |0=>by rw[sm,sm,sm];lia
 |n+1=>by rw[sm,AW f n,sm];lia
theorem Fw(f:Nat->Int):∀n,sm (λi=>f (n -i)) (n+1)=sm f (n+1)
 |0=>rfl
 |n+1=>by rw[AW,kJ (g:=λi=>f (n -i)) (n+1) λi a=>by congr 1;lia,Fw f n];rw[sm,sm,sm];show f (n+1 -0)+(sm f n+f n)=_;rw[Nat.sub_zero];lia
theorem uO{f:Nat->Int}{m:Nat}:∀n,m<=n->(∀i,m<=i->i<n->f i=0)->sm f n=sm f m
 |0,h,_=>by
  have:m=0:=by lia
  rw[this]
 |n+1,h,z=>by
  by_cases e:m=n+1
  ·rw[e]
  ·rw[sm,uO n (by lia) (λi a b=>z i a (by lia)),z n (by lia) (by lia),lx]
theorem Fx(a bs:List Int)(k:Nat):∀n,cf a bs n k=sm (λi=>a.getD i 0*(if i<=k then bs.getD (k -i) 0 else 0)) n
 |0=>rfl
 |n+1=>by rw[cf,Fx a bs k n,sm]
theorem lK(a bs:List Int)(k:Nat):cf a bs a.length k=sm (λi=>a.getD i 0*bs.getD (k -i) 0) (k+1):=by
 rw[Fx];have b:∀i,a.length<=i->a.getD i 0=0:=λi h=>by rw[AC,Dx h];rfl
 rcases Nat.le_total a.length (k+1)with h|h
 ·rw[←uO (k+1) h λi c _=>by rw[b i c,fe]];exact kJ _ λi d=>by rw[Bz (by lia)]
 ·rw[uO a.length h λi c _=>by rw[BM (by lia),SF]];exact kJ _ λi d=>by rw[Bz (by lia)]
theorem AX(a bs:List Int)(k:Nat):cf a bs a.length k=cf bs a bs.length k:=by rw[lK,lK,←Fw];refine kJ _ λi b=>?_;show a.getD (k -i) 0*bs.getD (k -(k -i)) 0=_;rw[show k -(k -i)=i by omega,de]
noncomputable def dS(n:Nat)(f:Nat->Rat):List Rat:=(List.range n).map f
theorem gZ(n:Nat)(f:Nat->Rat):(dS n f).length=n:=by unfold dS;simp
theorem uP{n:Nat}{f:Nat->Rat}{k:Nat}(h:k<n):(dS n f)[k]?=some (f k):=by unfold dS;rw[FM,SU h];rfl
theorem Fy{n:Nat}{f g:Nat->Rat}(h:∀j,j<n->f j=g j):dS n f=dS n g:=by unfold dS;exact Yf λj a=>h j (SB.mp a)
theorem FA{n:Nat}{f g:Nat->Rat}{k:Nat}(h:k<n)(c:∀j,j<n->j≠k->g j=f j):(dS n f).set k (g k)=dS n g:=by
 apply SC;intro j;rw[kb];unfold dS;by_cases b:k=j
 ·subst b;rw[Bz rfl,Bz (by simpa using h)];simp[h]
 ·rw[BM b];by_cases a:j<n
  ·simp[a,c j a (λz=>b z.symm)]
  ·simp[a]
theorem C0(a:List Rat):(dS a.length λk=>a.getD k 0)=a:=by
 apply SC;intro j;by_cases h:j<a.length
 ·rw[uP h,AC,B1 h];rfl
 ·rw[Dx (by rw[gZ];lia),Dx (by lia)]
theorem FD{n:Nat}{f:Nat->Rat}{x:Rat}(h:x∈dS n f):∃k,k<n/\x=f k:=by unfold dS at h;obtain⟨k,a,rfl⟩:=KE.mp h;exact⟨k,SB.mp a,rfl⟩
theorem lN{a:List Rat}{k:Nat}(h:a.length<=k):a.getD k 0=0:=by rw[AC,Dx h];rfl
noncomputable def ef(l:List Rat):List Rat:=(l.reverse.dropWhile λx=>decide (x=0)).reverse
theorem kK(l:List Rat):ef (l++[0])=ef l:=by unfold ef;rw[List.reverse_append,List.reverse_singleton,List.singleton_append,List.dropWhile_cons,Bz (by simp)]
theorem kL(l:List Rat){x:Rat}(h:x≠0):ef (l++[x])=l++[x]:=by unfold ef;rw[List.reverse_append,List.reverse_singleton,List.singleton_append,List.dropWhile_cons,BM (by simpa using h)];simp
theorem tS(l:List Rat):∃k,k<=l.length/\ef l=l.take k/\(k=0\/l.getD (k -1) 0≠0):=by
 generalize d:l.length=n
 induction n generalizing l with
 |zero=>have:l=[]:=Kb.mp d;subst this;exact⟨0,Do _,rfl,.inl rfl⟩
 |succ n i=>
  have b:l≠[]:=λz=>by rw[z]at d;cases d
  obtain⟨c,x,rfl⟩:∃c x,l=c++[x]:=⟨l.dropLast,l.getLast b,(cm b).symm⟩;have a:c.length=n:=by simpa using d
  by_cases e:x=0
  ·subst e;obtain⟨k,j,g,f⟩:=i c a;refine⟨k,by lia,by rw[kK,g,List.take_append_of_le_length (by lia)],?_⟩;rcases f with z|z
   ·exact .inl z
   ·by_cases h:k=0
    ·exact .inl h
    ·right;rw[AC,IR (by lia),←AC];exact z
  ·refine⟨n+1,Do _,by rw[kL _ e,ll (by simp[a])],.inr ?_⟩;rw[PH,AC,Ha (by lia),a,hZ];exact e
theorem C1(l:List Rat):(ef l).length<=l.length:=by obtain⟨k,a,e,_⟩:=tS l;rw[e,aw];lia
noncomputable def bK(l:List Rat):Prop:=∀x,l.getLast?=some x->x≠0
theorem iQ(l:List Rat):bK (ef l):=λx a=>by
 obtain⟨k,c,e,h⟩:=tS l;rw[e]at a;rcases h with z|z
 ·rw[z]at a;simp at a
 ·by_cases b:k=0
  ·rw[b]at a;simp at a
  ·have d:(l.take k).getLast?=some (l.getD (k -1) 0):=by rw[P2,aw,Nat.min_eq_left c,eJ (by lia),AC,B1 (by lia)];rfl
   rw[d]at a;rw[←He a];exact z
noncomputable def gc(a:List Rat):List Rat:=a.map λx=> -x
theorem L6{n m:Nat}{a bs:List Int}(d:∀x∈a,x.natAbs<2^n)(c:∀x∈bs,x.natAbs<2^m)(k:Nat):∀i,(cf a bs i k).natAbs<=i*2^(n+m)
 |0=>by show 0<=_;lia
 |i+1=>by
  have g:∀{n:Nat}{a:List Int}(h:∀x∈a,x.natAbs<2^n)(j:Nat),(a.getD j 0).natAbs<2^n:=λ{n a} h j=>by
   by_cases b:j<a.length
   ·rw[AC,B1 b];exact h _ (TB b)
   ·rw[AC,Dx (by omega)];exact U2 (by decide)
  have f:=L6 d c k i;have e:(a.getD i 0*(if i<=k then bs.getD (k -i) 0 else 0)).natAbs<2^(n+m):=by
   rw[Fn];refine lt_mul (g d i) ?_;split
   ·exact g c _
   ·exact U2 (by decide)
  rw[cf,Nat.add_mul];omega
theorem xu(l:List Rat)(k:Nat):(l++[0]).getD k 0=l.getD k 0:=by
 rw[AC,AC];by_cases h:k<l.length
 ·rw[IR h]
 ·rw[Ha (by lia),Dx (l:=l) (by lia)];cases a:k -l.length with
  |zero=>rfl
  |succ n=>rfl
theorem uQ(l:List Rat)(k:Nat):(ef l).getD k 0=l.getD k 0:=by
 generalize b:l.length=n
 induction n generalizing l with
 |zero=>have:l=[]:=Kb.mp b;subst this;rfl
 |succ n e=>
  have a:l≠[]:=λz=>by rw[z]at b;cases b
  obtain⟨c,x,rfl⟩:∃c x,l=c++[x]:=⟨l.dropLast,l.getLast a,(cm a).symm⟩;by_cases d:x=0
  ·subst d;rw[kK,e c (by simpa using b),xu]
  ·rw[kL _ d]
theorem g7{l:List Rat}(h:bK l)(a:0<l.length):l.getD (l.length -1) 0≠0:=by refine h _ ?_;rw[P2,B1 (by omega),AC,B1 (by omega)];rfl
theorem NS{a b:List Rat}(g:bK a)(c:bK b)(h:∀k,a.getD k 0=b.getD k 0):a=b:=by
 have d:∀{a b:List Rat},bK b->(∀k,a.getD k 0=b.getD k 0)->b.length<=a.length:=λ{a b} c h=>by
  rcases Nat.lt_or_ge a.length b.length with z|z
  ·exact absurd ((h _).symm.trans (lN (by lia))) (g7 c (by lia))
  ·exact z
 have e:a.length=b.length:=Nat.le_antisymm (d g λk=>(h k).symm) (d c h);apply SC;intro k;by_cases f:k<a.length
 ·have:=h k;rw[AC,AC,B1 f,B1 (show k<b.length by lia)]at this;rw[B1 f,B1 (show k<b.length by lia)];exact Wp some this
 ·rw[Dx (by lia),Dx (by lia)]
theorem uR{n:Nat}{f:Nat->Rat}(k:Nat):(dS n f).getD k 0=if k<n then f k else 0:=by
 by_cases h:k<n
 ·rw[Bz h,AC,uP h];rfl
 ·rw[BM h];exact lN (by rw[gZ];lia)
noncomputable def fH(f:Nat->Rat):Nat->Rat
 |0=>0
 |n+1=>fH f n+f n
theorem iR{f g:Nat->Rat}:∀n,(∀i,i<n->f i=g i)->fH f n=fH g n
 |0,_=>rfl
 |n+1,h=>by rw[fH,fH,iR n λi a=>h i (by lia),h n (by lia)]
theorem p9{f:Nat->Rat}{m:Nat}:∀n,m<=n->(∀i,m<=i->i<n->f i=0)->fH f n=fH f m
 |0,h,_=>by
  have:m=0:=by lia
  rw[this]
 |n+1,h,z=>by
  by_cases e:m=n+1
  ·rw[e]
  ·rw[fH,p9 n (by lia) (λi a b=>z i a (by lia)),z n (by lia) (by lia),Rat.add_zero]
noncomputable def jI(f g:Nat->Rat)(k:Nat):Rat:=fH (λi=>f i*g (k -i)) (k+1)
theorem zM(c:Int)(f:Nat->Int):∀n,sm (λi=>c*f i) n=c*sm f n
 |0=>by rw[sm,sm,SF]
 |n+1=>by rw[sm,sm,zM c f n,Int.mul_add]
theorem FE(f g:Nat->Int):∀n,sm (λi=>f i+g i) n=sm f n+sm g n
 |0=>rfl
 |n+1=>by rw[sm,sm,sm,FE f g n];lia
theorem FF(p:Nat)(v:Nat->Int):∀n,sm (λi=>if i=p then v i else 0) n=if p<n then v p else 0
 |0=>by rw[sm,BM (by lia)]
 |n+1=>by
  rw[sm,FF p v n];by_cases h:p<n
  ·rw[Bz h,BM (by lia),Bz (by lia)];lia
  ·rw[BM h];by_cases e:n=p
   ·subst e;rw[Bz rfl,Bz (by lia)];lia
   ·rw[BM e,BM (by lia)];lia
noncomputable def tT(f g:Nat->Int)(k:Nat):Int:=sm (λi=>f i*g (k -i)) (k+1)
theorem IU(c h:Int)(Q O:Nat->Int)(p k:Nat):tT (λi=>c*Q i+if i=p then h else 0) O k=c*tT Q O k+if p<=k then h*O (k -p)else 0:=by
 unfold tT;rw[kJ (g:=λi=>c*(Q i*O (k -i))+if i=p then h*O (k -i)else 0) (k+1) λi _=>?_,FE,zM,FF p λi=>h*O (k -i)]
 ·by_cases a:p<=k
  ·rw[Bz a,Bz (show p<k+1 by lia)]
  ·rw[BM a,BM (show¬p<k+1 by lia)]
 ·split
  ·grind
  ·grind
theorem IV(O:Nat->Int)(k:Nat):tT (λ_=>0) O k=0:=by unfold tT;rw[kJ (g:=λi=>0*0) (k+1) λi _=>by rw[fe,fe],zM,fe]
theorem IX{f g:Nat->Rat}{F G:Nat->Int}{A C:Rat}(c:∀i,f i*A=F i)(b:∀i,g i*C=G i)(k:Nat):jI f g k*(A*C)=((tT F G k:Int):Rat):=by
 unfold jI tT;have:∀n,fH (λi=>f i*g (k -i)) n*(A*C)=((sm (λi=>F i*G (k -i)) n:Int):Rat):=λn=>by
  induction n with
  |zero=>show 0*(A*C)=((0:Int):Rat);grind
  |succ n a=>rw[fH,sm,Rat.intCast_add,Qb,←a,←c n,←b (k -n)];grind
 exact this _
noncomputable def uS(ns a:List Int)(l:Int)(s:Nat)(Q:Nat->Int)(R:List Int):Prop:=∀k,l^s*ns.getD k 0=tT Q (λi=>a.getD i 0) k+R.getD k 0
theorem uS.start(ns a:List Int)(l:Int):uS ns a l 0 (λ_=>0) ns:=λk=>by rw[IV,Qr];lia
theorem outI{ns:List Int}{k:Nat}(h:ns.length<=k):ns.getD k 0=0:=by rw[AC,Dx h];rfl
theorem uS.step{ns a:List Int}{l:Int}{s p:Nat}{Q:Nat->Int}{R R':List Int}(h:uS ns a l s Q R)(m:0<a.length)(c:l=a.getD (a.length -1) 0)(n:R.length=p+a.length)(d:R'.length=p+a.length -1)
 (b:∀k,k<p+a.length -1->R'.getD k 0=l*R.getD k 0 -if p<=k then R.getD (p+a.length -1) 0*a.getD (k -p) 0 else 0):
 uS ns a l (s+1) (λi=>l*Q i+if i=p then R.getD (p+a.length -1) 0 else 0) R':=λk=>by
 rw[IU,Ki];have e:=h k;have j:l^s*l*ns.getD k 0=l*tT Q (λi=>a.getD i 0) k+l*R.getD k 0:=by rw[←Int.mul_add,←e];grind
 rw[j];by_cases g:k<p+a.length -1
 ·rw[b k g];lia
 ·by_cases f:k=p+a.length -1
  ·subst f;rw[outI (ns:=R') (by lia),Bz (by lia),show p+a.length -1 -p=a.length -1 by lia,←c];grind
  ·rw[outI (ns:=R) (k:=k) (by lia),outI (ns:=R') (by lia)];split
   ·rw[outI (ns:=a) (by lia)];grind
   ·grind
noncomputable def Cd(D:Int)(n:Nat)(x:Rat):Prop:=∃z:Int,x*D=z/\z.natAbs<2^n
theorem Cd.dvd{D:Int}{n:Nat}{x:Rat}(h:Cd D n x):(x.den:Int)∣D/\(x.num*(D/x.den)).natAbs<2^n:=by
 obtain⟨z,a,f⟩:=h;have e:x.num*D=z*x.den:=by
  have e:=AV x;have:((x.num*D:Int):Rat)=((z*x.den:Int):Rat):=by rw[Qb,Qb,←e,←a];grind
  exact Rat.intCast_inj.mp this
 have d:(x.den:Int)∣D:=by have c:Nat.Coprime x.den x.num.natAbs:=Nat.Coprime.symm x.reduced;have b:x.den∣x.num.natAbs*D.natAbs:=⟨z.natAbs,by have:=Wp Int.natAbs e;rw[Fn,Fn,Int.natAbs_natCast]at this;rw[this,da]⟩;have:=c.dvd_of_dvd_mul_left b;rw[←Int.natAbs_natCast x.den]at this;exact ft.mp this
 refine⟨d,?_⟩;have:((x.num*(D/x.den):Int):Rat)=(z:Rat):=by rw[nH d,a]
 rw[Rat.intCast_inj.mp this];exact f
theorem Cd.of{D:Int}{n:Nat}{x:Rat}(d:(x.den:Int)∣D)(h:(x.num*(D/x.den)).natAbs<2^n):Cd D n x:=⟨_,(nH d).symm,h⟩
theorem FG{a b c:Int}(h:Int.gcd a b=1)(e:a∣b*c):a∣c:=by
 have d:a.natAbs∣b.natAbs*c.natAbs:=by rw[←Fn];exact ft.mpr e
 exact ft.mp (Nat.Coprime.dvd_of_dvd_mul_left (show Nat.Coprime a.natAbs b.natAbs from h) d)
theorem FH{B d D:Int}(k:d≠0)(m:B∣D)(l:d∣D):B/(Int.gcd B d:Nat)*d∣D:=by
 obtain⟨x,y,b,c,a,j⟩:=o9 B d k;rw[show B/((Int.gcd B d:Nat):Int)=x from Num.lI b j];obtain⟨u,f⟩:=m;obtain⟨v,i⟩:=l;generalize((Int.gcd B d:Nat):Int)=g at*;have e:x*u=y*v:=by
  have:g*(x*u)=g*(y*v):=by rw[←gL,←gL,←b,←c,←f,←i]
  exact Sr (by lia) this
 obtain⟨w,h⟩:y∣u:=FG (by rw[Int.gcd_comm];exact a) ⟨v,e⟩;refine⟨w,?_⟩;rw[f,b,h,c];grind
theorem AY{ns b:List Int}(h:iP ns b)(k:Nat):b.getD k 0=ns.getD k 0:=by
 obtain⟨j,e,rfl,c,_⟩:=h;by_cases d:k<j
 ·rw[AC,eJ d,←AC]
 ·rw[outI (by rw[aw];lia)];by_cases a:k<ns.length
  ·exact(c k (by lia) a).symm
  ·exact(outI (by lia)).symm
theorem xw{ns a:List Int}(h:iP ns a):a.length<=ns.length:=by obtain⟨j,b,rfl,_⟩:=h;rw[aw];lia
theorem FI{l:Int}{M i:Nat}(h:l.natAbs<2^M):(l^i).natAbs<=2^(M*i):=by rw[Int.natAbs_pow,dE];exact QR (Mo h) _
theorem IY{x y n m:Nat}(b:x<2^n)(a:y<=2^m):x*y<2^(n+m):=by rw[eP];exact Fm (Ee _ a) (Nat.mul_lt_mul_of_pos_right b (U2 (by decide)))
end Num
namespace Sub
abbrev Ix:=Bool×Nat
abbrev Vc:=Ix->Int
noncomputable def ex(D:List Vc->Int)(r:Ix):List Vc->List Vc->Int
 |_,[]=>0
 |pre,c::post=>c r*D (pre++post) -ex D r (pre++[c]) post
noncomputable def det:List Ix->List Vc->Int
 |[],[]=>1
 |[],_::_=>0
 |r::a,cs=>ex (det a) r [] cs
noncomputable def Alt(D:List Vc->Int):Prop:=∀(p q:List Vc)(a b:Vc),D (p++a::b::q)= -D (p++b::a::q)
noncomputable def Rj(D:List Vc->Int):Prop:=∀(p q:List Vc)(x y:Int)(a b:Vc),D (p++(λi=>x*a i+y*b i)::q)=x*D (p++a::q)+y*D (p++b::q)
theorem AZ{D:List Vc->Int}(h:Alt D)(r:Ix):∀(d p q:List Vc)(a b:Vc),ex D r (p++a::b::q) d= -ex D r (p++b::a::q) d
 |[],_,_,_,_=>rfl
 |c::d,p,q,a,b=>by have ih:=AZ h r d p (q++[c]) a b;have e:=h p (q++d) a b;simp only[ex,Kx,List.cons_append]at ih e⊢;rw[e,ih];grind
theorem A3{D:List Vc->Int}(h:Alt D)(r:Ix):∀(p d q:List Vc)(a b:Vc),ex D r d (p++a::b::q)= -ex D r d (p++b::a::q)
 |[],d,q,a,b=>by have e:=AZ h r q d [] a b;simp only[ex,List.nil_append,Kx,List.cons_append]at e⊢;rw[e];grind
 |c::p,d,q,a,b=>by have f:=A3 h r p (d++[c]) q a b;have e:=h (d++p) q a b;simp only[ex,List.cons_append,Kx]at f e⊢;rw[e,f];grind
theorem pq:∀c:List Ix,Alt (det c)
 |[]=>λp q a b=>by
  cases p<;>rfl
 |r::c=>λp q a b=>A3 (pq c) r p [] q a b
theorem A4{D:List Vc->Int}(h:Rj D)(r:Ix):∀(d p q:List Vc)(x y:Int)(a b:Vc),ex D r (p++(λi=>x*a i+y*b i)::q) d=x*ex D r (p++a::q) d+y*ex D r (p++b::q) d
 |[],_,_,_,_,_,_=>by simp[ex]
 |c::d,p,q,x,y,a,b=>by have ih:=A4 h r d p (q++[c]) x y a b;have e:=h p (q++d) x y a b;simp only[ex,Kx,List.cons_append]at ih e⊢;rw[e,ih];grind
theorem A5{D:List Vc->Int}(h:Rj D)(r:Ix):∀(p d q:List Vc)(x y:Int)(a b:Vc),ex D r d (p++(λi=>x*a i+y*b i)::q)=x*ex D r d (p++a::q)+y*ex D r d (p++b::q)
 |[],d,q,x,y,a,b=>by have e:=A4 h r q d [] x y a b;simp only[ex,List.nil_append]at e⊢;rw[e];grind
 |c::p,d,q,x,y,a,b=>by have f:=A5 h r p (d++[c]) q x y a b;have e:=h (d++p) q x y a b;simp only[ex,List.cons_append,Kx]at f e⊢;rw[e,f];grind
theorem uT:∀c:List Ix,Rj (det c)
 |[]=>λp q x y a b=>by
  cases p<;>simp[det]
 |r::c=>λp q x y a b=>A5 (uT c) r p [] q x y a b
theorem A6{D:List Vc->Int}{r:Ix}:∀(a b:List Vc),(∀c∈a,c r=0)->ex D r b a=0
 |[],_,_=>rfl
 |c::a,b,h=>by rw[ex,h c FK,A6 a _ λd e=>h d (DL _ e)];simp
theorem tU{r:Ix}{a:List Ix}{c:Vc}{cs:List Vc}(h:∀d∈cs,d r=0):det (r::a) (c::cs)=c r*det a cs:=by rw[det,ex,A6 cs _ h,List.nil_append,Int.sub_zero]
theorem xx{D:List Vc->Int}(h:Alt D):∀(u p v:List Vc)(a:Vc),D (p++a::(u++a::v))=0
 |[],p,v,a=>by have:=h p v a a;simp only[List.nil_append]at this⊢;lia
 |c::u,p,v,a=>by have e:=h p (u++a::v) a c;have b:=xx h u (p++[c]) v a;simp only[Kx,List.cons_append,List.nil_append]at b e⊢;rw[e,b];rfl
theorem IZ{D:List Vc->Int}(h:Alt D)(c:Rj D){p q:List Vc}{a b:Vc}(x y:Int)(d:b∈q):D (p++(λi=>x*a i+y*b i)::q)=x*D (p++a::q):=by obtain⟨u,v,rfl⟩:=List.append_of_mem d;rw[c,xx h u p v b,SF,lx]
noncomputable def sg(n:Nat):Int:=(-1)^n
theorem xA{D:List Vc->Int}(h:Alt D):∀(u p q:List Vc)(a:Vc),D (p++a::(u++q))=sg u.length*D (p++(u++a::q))
 |[],p,q,a=>by simp[sg]
 |c::u,p,q,a=>by have e:=h p (u++q) a c;have b:=xA h u (p++[c]) q a;simp only[Kx,List.cons_append,List.nil_append,List.length_cons]at b e⊢;rw[e,b];unfold sg;rw[Ki];grind
theorem xB{D:List Vc->Int}(h:Alt D):∀(w p u q:List Vc),D (p++(w++(u++q)))=sg (u.length*w.length)*D (p++(u++(w++q)))
 |[],p,u,q=>by simp[sg]
 |a::w,p,u,q=>by have ih:=xB h w (p++[a]) u q;have e:=xA h u p (w++q) a;simp only[Kx,List.cons_append,List.nil_append,List.length_cons]at ih e⊢;rw[ih,e];unfold sg;rw[Nat.mul_succ,ej];grind
noncomputable def sh(j:Nat)(P:Vc):Vc:=λi=>if j<=i.2 then P (i.1,i.2 -j)else 0
noncomputable def pA(P:Vc):Nat->List Vc
 |0=>[]
 |n+1=>sh n P::pA P n
noncomputable def rws:Nat->Nat->List Ix
 |_,0=>[]
 |0,_+1=>[]
 |E+1,c+1=>(false,E)::rws E c
theorem xC(E:Nat):rws E 0=[]:=by cases E<;>rfl
theorem Ja(P:Vc):sh 0 P=P:=by funext i;unfold sh;rw[Bz (Kk _)];rfl
theorem SW(j s:Nat)(P:Vc):sh j (sh s P)=sh (s+j) P:=by
 funext i;unfold sh;by_cases h:j<=i.2
 ·rw[Bz h];by_cases a:s+j<=i.2
  ·rw[Bz a,Bz (by show s<=i.2 -j;lia)];show P (i.1,i.2 -j -s)=P (i.1,i.2 -(s+j));congr 2;lia
  ·rw[BM a,BM (by show¬s<=i.2 -j;lia)]
 ·rw[BM h,BM (by lia)]
theorem pB(P:Vc):∀n,(pA P n).length=n
 |0=>rfl
 |n+1=>by rw[pA,List.length_cons,pB P n]
theorem A7{P:Vc}:∀{n i:Nat},i<n->sh i P∈pA P n
 |n+1,i,h=>by
  rw[pA];by_cases e:i=n
  ·rw[e];exact FK
  ·exact DL _ (A7 (by lia))
theorem qa{P:Vc}:∀{n:Nat}{d:Vc},d∈pA P n->∃i,i<n/\d=sh i P
 |n+1,d,h=>by
  rw[pA]at h;rcases Fk.mp h with h|h
  ·exact⟨n,by lia,h⟩
  ·obtain⟨i,a,e⟩:=qa h;exact⟨i,by lia,e⟩
theorem NT{B:Vc}{n:Nat}{l:Int}(a:B (false,n)=l)(hz:∀t,n<t->B (false,t)=0){cs:List Vc}{b c:Nat}{tl:List Ix}(f:∀d∈cs,∀t,n+b<=t->d (false,t)=0):
 ∀s,det (rws (n+b+s) (c+s)++tl) (pA B (b+s)++cs)=l^s*det (rws (n+b) c++tl) (pA B b++cs)
 |0=>by simp
 |s+1=>by
  show det ((false,n+b+s)::(rws (n+b+s) (c+s)++tl)) (sh (b+s) B::(pA B (b+s)++cs))=_;rw[tU,NT a hz f s]
  ·have e:sh (b+s) B (false,n+b+s)=l:=by unfold sh;rw[Bz (by show b+s<=n+b+s;lia),←a];show B (false,n+b+s -(b+s))=_;congr 2;lia
   rw[e,Ki];grind
  ·intro d g;rcases Fs.mp g with h|h
   ·obtain⟨i,j,rfl⟩:=qa h;unfold sh;split
    ·exact hz _ (by show n<n+b+s -i;lia)
    ·rfl
   ·exact f d h _ (by lia)
noncomputable def comb(c:Int)(a:Vc):List (Int×Vc)->Vc
 |[]=>λi=>c*a i+0*a i
 |z::L=>λi=>1*comb c a L i+z.1*z.2 i
theorem xD{D:List Vc->Int}(h:Alt D)(b:Rj D){p q:List Vc}{c:Int}{a:Vc}:∀{L:List (Int×Vc)},(∀z∈L,z.2∈q)->D (p++comb c a L::q)=c*D (p++a::q)
 |[],_=>by rw[comb,b];grind
 |z::L,d=>by rw[comb,IZ h b _ _ (d z FK),xD h b λy e=>d y (DL _ e),ey]
theorem A8(j:Nat)(c:Int)(a:Vc):∀L:List (Int×Vc),sh j (comb c a L)=comb c (sh j a) (L.map λz=>(z.1,sh j z.2))
 |[]=>by funext i;show sh j (comb c a []) i=c*sh j a i+0*sh j a i;unfold sh comb;split<;>simp
 |z::L=>by
  funext i;have ih:=congrFun (A8 j c a L) i;show sh j (comb c a (z::L)) i=1*comb c (sh j a) (L.map λz=>(z.1,sh j z.2)) i+z.1*sh j z.2 i;rw[←ih];unfold sh;split
  ·rfl
  ·simp
theorem qb{D:List Vc->Int}(h:Alt D)(d:Rj D){q:List Vc}{c:Int}{A:Vc}{L:List (Int×Vc)}:∀(a:Nat)(p:List Vc),(∀z∈L,∀j,j<a->sh j z.2∈q)->D (p++(pA (comb c A L) a++q))=c^a*D (p++(pA A a++q))
 |0,p,_=>by simp[pA]
 |a+1,p,b=>by
  have ih:=qb h d (c:=c) (A:=A) a (p++[sh a A]) λz hz j f=>b z hz j (by lia);rw[pA,pA,List.cons_append,A8,xD h d (λz hz=>?_)]
  ·simp only[Kx,List.cons_append,List.nil_append]at ih⊢;rw[ih,Ki];grind
  ·obtain⟨y,e,rfl⟩:=KE.mp hz;exact Gc _ (b y e a (by lia))
noncomputable def SS(E:Nat)(A B:Vc)(a b:Nat)(ρ:Ix):Int:=det (rws E (a+b -1)++[ρ]) (pA A a++pA B b)
noncomputable def less(c:Int)(A B:Vc)(L:List (Int×Nat)):Vc:=comb c A (L.map λz=>(z.1,sh z.2 B))
theorem A9{E:Nat}{A B:Vc}{c:Int}{L:List (Int×Nat)}{a b:Nat}(h:∀z∈L,z.2+a<=b)(ρ:Ix):SS E (less c A B L) B a b ρ=c^a*SS E A B a b ρ:=by
 unfold SS less;have e:=qb (pq (rws E (a+b -1)++[ρ])) (uT _) (q:=pA B b) (c:=c) (A:=A) (L:=L.map λz=>(z.1,sh z.2 B)) a [] λz hz j f=>by obtain⟨y,d,rfl⟩:=KE.mp hz;rw[SW];have:=h y d;exact A7 (by lia)
 simp only[List.nil_append]at e;exact e
theorem FJ{E:Nat}{B R P:Vc}{c:Int}(h:∀i,R i=c*P i)(b a:Nat)(ρ:Ix):SS E B R b a ρ=c^a*SS E B P b a ρ:=by
 have d:R=comb c P []:=funext λi=>by rw[h i];show _=c*P i+0*P i;simp
 unfold SS;have e:=qb (pq (rws E (b+a -1)++[ρ])) (uT _) (q:=[]) (c:=c) (A:=P) (L:=[]) a (pA B b) λz hz=>nomatch hz;simp only[QQ]at e;rw[d,e]
theorem Ba{B R:Vc}{n:Nat}{l:Int}(c:B (false,n)=l)(hz:∀t,n<t->B (false,t)=0){z a b s:Nat}(g:∀t,z<=t->R (false,t)=0)(m:1<=a)(k:z+a<=n+b+1)(ρ:Ix):
 SS (n+b+s) R B a (b+s) ρ=sg ((b+s)*a)*(l^s*SS (n+b) B R b a ρ):=by
 unfold SS;have e:=xB (pq (rws (n+b+s) (a+(b+s) -1)++[ρ])) (pA R a) [] (pA B (b+s)) [];simp only[List.nil_append,QQ,pB]at e;rw[e];congr 1;rw[show a+(b+s) -1=b+a -1+s by lia];refine NT c hz (λd f t h=>?_) s;obtain⟨i,j,rfl⟩:=qa f;unfold sh;split
 ·exact g _ (by show z<=t -i;lia)
 ·rfl
theorem FL(E:Nat)(B R:Vc)(ρ:Ix):SS E B R 0 1 ρ=R ρ:=by unfold SS;show det (rws E 0++[ρ]) (sh 0 R::[])=_;rw[xC,List.nil_append,Ja,tU (cs:=[]) (by intro d a;cases a)];show R ρ*1=R ρ;rw[fI]
theorem Jb{A B:Vc}{n:Nat}{l:Int}(a:B (false,n)=l)(hz:∀t,n<t->B (false,t)=0)(s:Nat)(ρ:Ix):SS (n+1+s) A B 0 (1+s) ρ=l^s*B ρ:=by unfold SS;rw[show 0+(1+s) -1=0+s by lia];have e:=NT a hz (cs:=[]) (b:=1) (c:=0) (tl:=[ρ]) (λd f=>nomatch f) s;simp only[QQ]at e;show det (rws (n+1+s) (0+s)++[ρ]) ([]++pA B (1+s))=_;rw[List.nil_append,e];congr 1;exact FL (n+1) A B ρ
noncomputable def FN(a:Int):Prop:=a=1\/a= -1
theorem FN.sq{a:Int}(h:FN a):a*a=1:=by rcases h with rfl|rfl<;>rfl
theorem FN.mul{a b:Int}(h:FN a)(c:FN b):FN (a*b):=by rcases h with rfl|rfl<;>rcases c with rfl|rfl<;>first|exact .inl rfl|exact .inr rfl
theorem qd:∀n,FN (sg n)
 |0=>.inl rfl
 |n+1=>by have:=qd n;unfold sg at this⊢;rw[Ki];exact this.mul (.inr rfl)
theorem cU{x:Int}(h:x≠0):∀n:Nat,x^n≠0
 |0=>by rw[Qr];decide
 |n+1=>by rw[Ki];exact Jn (cU h n) h
theorem FO(x y:Int):∀n:Nat,(x*y)^n=x^n*y^n
 |0=>by rw[Qr,Qr,Qr];rfl
 |n+1=>by rw[Ki,Ki,Ki,FO x y n];generalize x^n=a;generalize y^n=b;grind
theorem FP(x:Int)(m:Nat):∀n:Nat,(x^m)^n=x^(m*n)
 |0=>by rw[Nat.mul_zero,Qr,Qr]
 |n+1=>by rw[Ki,FP x m n,Nat.mul_succ,ej]
theorem FQ{l h h':Int}{b:Nat}(e:h'*h^b=l^b*h):∀a:Nat,(l^(b+1))^(a+1)*h^(b+a)=l^(b+(a+1))*h^(b*(a+1))*h'^a
 |0=>by rw[Nat.zero_add,Int.pow_one,Qr,fI,Nat.mul_one];simp
 |a+1=>by
  have ih:=FQ e a;have d:(l^(b+1))^(a+1+1)*h^(b+(a+1))=((l^(b+1))^(a+1)*h^(b+a))*(l*(l^b*h)):=by rw[Ki (l^(b+1)) (a+1),←fw b a 1,Ki h (b+a),Ki l b];generalize(l^b*l)^(a+1)=x;generalize h^(b+a)=y;generalize l^b=z;grind
  have c:l^(b+(a+1+1))*h^(b*(a+1+1))*h'^(a+1)=(l^(b+(a+1))*h^(b*(a+1))*h'^a)*(l*(h'*h^b)):=by rw[←fw b (a+1) 1,Ki l (b+(a+1)),Nat.mul_succ b (a+1),ej h (b*(a+1)) b,Ki h' a];generalize l^(b+(a+1))=x;generalize h^(b*(a+1))=y;generalize h^b=z;generalize h'^a=u;grind
  rw[d,c,ih,e]
structure Ch(A B:Vc)(m n:Nat)(P Q:Vc)(p q:Nat)(lp lq h:Int):Prop where
 hpq:q<=p
 Wn:lp≠0
 h0:h≠0
 C2:lq≠0
 lead:Q (false,q)=lq
 zero:∀t,q<t->Q (false,t)=0
 inv:∀k,k<=q->k<p->∃ε:Int,FN ε/\∀ρ,SS (p+q -k) P Q (q -k) (p -k) ρ=ε*(lp^(q -k)*h^(p -k -1))*SS (m+n -k) A B (n -k) (m -k) ρ
theorem Ch.start{A B:Vc}{m n:Nat}{l:Int}(h:n<=m)(b:B (false,n)=l)(a:l≠0)(hz:∀t,n<t->B (false,t)=0):Ch A B m n A B m n 1 l 1:=
 ⟨h,by decide,by decide,a,b,hz,λk _ _=>⟨1,.inl rfl,λc=>by rw[Int.one_pow,Int.one_pow];simp⟩⟩
theorem Ch.rest{A B P Q:Vc}{m n p q:Nat}{f e h:Int}(H:Ch A B m n P Q p q f e h)(x:1<=q){L:List (Int×Nat)}(o:∀z∈L,z.2<=p -q)(l:∀t,q<=t->less (e^(p -q+1)) P Q L (false,t)=0):
 ∃d:Int,FN d/\∀ρ,less (e^(p -q+1)) P Q L ρ=d*(f*h^(p -q))*SS (m+n -(q -1)) A B (n -(q -1)) (m -(q -1)) ρ:=by
 have hpq:=H.hpq;obtain⟨d,w,inv⟩:=H.inv (q -1) (by lia) (by lia);refine⟨sg (p -q+1)*d,(qd _).mul w,λρ=>?_⟩;have j:=inv ρ;rw[show p+q -(q -1)=q+0+(p -q+1) by lia,show q -(q -1)=1 by lia,show p -(q -1)=0+(p -q+1) by lia,show 0+(p -q+1) -1=p -q by lia,Int.pow_one]at j;have u:=A9 (E:=q+0+(p -q+1)) (A:=P) (B:=Q) (c:=e^(p -q+1)) (L:=L) (a:=1) (b:=0+(p -q+1)) (λz hz=>by have:=o z hz;lia) ρ;have i:=Ba H.lead H.zero (z:=q) (a:=1) (b:=0) (s:=p -q+1) l (Do _) (by lia) ρ;rw[u,FL,Int.pow_one,show(0+(p -q+1))*1=p -q+1 by lia,j]at i;have v:=cU H.C2 (p -q+1);have k:=(qd (p -q+1)).sq;generalize e^(p -q+1)=c at*;generalize less c P Q L ρ=R at*;generalize sg (p -q+1)=s at*;generalize h^(p -q)=g at*;generalize SS (m+n -(q -1)) A B (n -(q -1)) (m -(q -1)) ρ=S at*;have r:c*R=c*(s*d*(f*g)*S):=by
  have:c*(s*d*(f*g)*S)=s*(c*(d*(f*g)*S)):=by grind
  rw[this,i];have:s*(s*(c*R))=s*s*(c*R):=by grind
  rw[this,k,ey]
 exact Sr v r
theorem Ch.step{A B P Q i:Vc}{m n p q r:Nat}{f d l h h':Int}(H:Ch A B m n P Q p q f d h){L:List (Int×Nat)}(N:∀z∈L,z.2<=p -q)(F:∀ρ,less (d^(p -q+1)) P Q L ρ=(f*h^(p -q))*i ρ)(K:r<q)(M:i (false,r)=l)(J:l≠0)(hz:∀t,r<t->i (false,t)=0)
 (C:h'*h^(p -q)=d^(p -q)*h):Ch A B m n Q i q r d l h':=by
 have hpq:=H.hpq;have Zt:h'≠0:=λz=>by rw[z,fe]at C;exact Jn (cU H.C2 _) H.h0 C.symm
 refine⟨by lia,H.C2,Zt,J,M,hz,λk o e=>?_⟩;obtain⟨j,Jc,inv⟩:=H.inv k (by lia) (by lia);refine⟨sg ((p -k)*(q -k))*j,(qd _).mul Jc,λρ=>?_⟩;have Z:=inv ρ;have Y:=A9 (E:=p+q -k) (A:=P) (B:=Q) (c:=d^(p -q+1)) (L:=L) (a:=q -k) (b:=p -k) (λz hz=>by have:=N z hz;lia) ρ;have D:=Ba (R:=less (d^(p -q+1)) P Q L) H.lead H.zero (z:=r+1) (a:=q -k) (b:=r -k) (s:=p -r) (λt ht=>by rw[F,hz t (by lia),SF]) (by lia) (by lia) ρ;rw[FJ F,show q+(r -k)+(p -r)=p+q -k by lia,show r -k+(p -r)=p -k by lia,Y,Z,show q+(r -k)=q+r -k by lia]at D;have g:=FQ C (q -k -1);have I:=(qd ((p -k)*(q -k))).sq;have ck:(f*h^(p -q))^(q -k)=f^(q -k)*h^((p -q)*(q -k)):=by rw[FO,FP]
 have G:d^(p -r)*(f*h^(p -q))^(q -k)≠0:=Jn (cU H.C2 _) (cU (Jn H.Wn (cU H.h0 _)) _);refine Sr G ?_;rw[Nat.sub_add_cancel (js e),show p -q+(q -k -1)=p -k -1 by rw[Nat.sub_sub,lh hpq e,Nat.sub_sub],show p -q+(q -k)=(p -r)+(r -k) by rw[lh hpq (Mo e),lh (DD (Mo K) hpq) o],ej d (p -r) (r -k)]at g;rw[ck]at D⊢;generalize SS (q+r -k) Q i (r -k) (q -k) ρ=X at*;generalize SS (m+n -k) A B (n -k) (m -k) ρ=S at*;generalize sg ((p -k)*(q -k))=s at*;generalize(d^(p -q+1))^(q -k)=c at*;generalize f^(q -k)=u at*;generalize h^(p -k -1)=v at*;generalize d^(p -r)=x at*;generalize h^((p -q)*(q -k))=y at*;generalize d^(r -k)=z at*;generalize h'^(q -k -1)=w at*;have U:x*(u*y)*X=s*s*(x*(u*y)*X):=by rw[I,ey]
 have T:s*s*(x*(u*y)*X)=s*(s*(x*(u*y*X))):=by grind
 rw[U,T,←D];have O:s*(c*(j*(u*v)*S))=s*j*u*S*(c*v):=by grind
 rw[O,g];grind
end Sub
namespace Sub
open Num
theorem L7{D:List Vc->Int}{r:Ix}{M b:Nat}:∀(a e:List Vc),(∀c∈a,(c r).natAbs<=M)->(∀u,(∀c∈u,c∈e\/c∈a)->u.length+1=e.length+a.length->(D u).natAbs<=b)->(ex D r e a).natAbs<=a.length*(M*b)
 |[],_,_,_=>by simp[ex]
 |c::a,e,h,g=>by
  rw[ex];have h1:=h c FK;have k:=g (e++a) (λd f=>by
   rcases Fs.mp f with z|z
   ·exact .inl z
   ·exact .inr (DL _ z)) (by simp only[Fh,List.length_cons];lia)
  have l:=L7 (D:=D) (r:=r) (M:=M) (b:=b) a (e++[c]) (λd f=>h d (DL _ f)) (λu i j=>g u (λd f=>by
   rcases i d f with z|z
   ·rcases Fs.mp z with y|y
    ·exact .inl y
    ·rw[GM]at y;rw[y];exact .inr FK
   ·exact .inr (DL _ z)) (by simp only[Fh,List.length_cons,List.length_nil]at j⊢;lia))
  have o:(c r*D (e++a)).natAbs<=M*b:=by rw[Fn];exact On h1 k
  have n:(c r*D (e++a) -ex D r (e++[c]) a).natAbs<=(c r*D (e++a)).natAbs+(ex D r (e++[c]) a).natAbs:=by omega
  have m:(c::a).length*(M*b)=a.length*(M*b)+M*b:=by rw[List.length_cons,Nat.succ_mul]
  omega
theorem FT{N M:Nat}:∀(a:List Ix)(cs:List Vc),cs.length<=N->(∀c∈cs,∀i,(c i).natAbs<=M)->(det a cs).natAbs<=(N*M)^a.length
 |[],[],_,_=>by simp[det]
 |[],_::_,_,_=>by simp[det]
 |r::a,cs,g,e=>by
  rw[det];have:=L7 (D:=det a) (r:=r) (M:=M) (b:=(N*M)^a.length) cs [] (λc d=>e c d r) (λu f h=>FT a u (by simp only[List.length_nil]at h;lia) λc d=>by
   rcases f c d with z|z
   ·cases z
   ·exact e c z)
  refine DD this ?_;rw[List.length_cons,Nat.pow_succ];have k:cs.length*(M*(N*M)^a.length)<=N*(M*(N*M)^a.length):=XB _ g;have j:N*(M*(N*M)^a.length)=(N*M)^a.length*(N*M):=by generalize(N*M)^a.length=x;grind
  lia
theorem Bb:∀(c E:Nat),(rws E c).length<=c
 |0,E=>by rw[xC];exact Do _
 |c+1,0=>Kk _
 |c+1,E+1=>by show(rws E c).length+1<=c+1;have:=Bb c E;lia
theorem L8{P:Vc}{M:Nat}(h:∀i,(P i).natAbs<=M)(j:Nat)(i:Ix):(sh j P i).natAbs<=M:=by
 unfold sh;split
 ·exact h _
 ·exact Kk _
theorem SX{A B:Vc}{N M a b:Nat}(k:∀i,(A i).natAbs<=M)(g:∀i,(B i).natAbs<=M)(f:a+b<=N)(l:1<=a+b)(e:1<=N*M)(E:Nat)(ρ:Ix):(SS E A B a b ρ).natAbs<=(N*M)^(a+b):=by
 unfold SS;have:=FT (N:=N) (M:=M) (rws E (a+b -1)++[ρ]) (pA A a++pA B b) (by rw[Fh,pB,pB];exact f) (λc d i=>by
  rcases Fs.mp d with h|h
  ·obtain⟨j,_,rfl⟩:=qa h;exact L8 k j i
  ·obtain⟨j,_,rfl⟩:=qa h;exact L8 g j i)
 refine DD this (GE e ?_);have:=Bb (a+b -1) E;rw[Fh];show _+1<=_;omega
theorem FN.abs{a x:Int}(h:FN a):(a*x).natAbs=x.natAbs:=by rcases h with rfl|rfl<;>lia
theorem Ch.Jd{A B P Q:Vc}{m n p q:Nat}{e a h:Int}(H:Ch A B m n P Q p q e a h)(f:q<p):∃S:Int,a^(p -q)=h^(p -q -1)*S/\S.natAbs=(SS (m+n -q) A B (n -q) (m -q) (false,q)).natAbs:=by
 obtain⟨c,j,inv⟩:=H.inv q (Do _) f;obtain⟨d,k⟩:∃d,p=q+1+d:=⟨p -q -1,by lia⟩;have b:=inv (false,q);have i:=Jb (A:=P) H.lead H.zero d (false,q);rw[show p+q -q=q+1+d by lia,show q -q=0 by lia,show p -q=1+d by lia,i,H.lead,show 1+d -1=d by lia,Qr,ey]at b;have g:a^(p -q)=a^d*a:=by rw[←Ki];congr 1;lia
 refine⟨c*SS (m+n -q) A B (n -q) (m -q) (false,q),?_,j.abs⟩;rw[g,b,show p -q -1=d by lia];generalize SS (m+n -q) A B (n -q) (m -q) (false,q)=S;generalize h^d=x;grind
noncomputable def vc(r f:List Int):Vc:=λi=>if i.1 then f.getD i.2 0 else r.getD i.2 0
noncomputable def sD(a:List Int):Nat->List (Int×Nat)
 |0=>[]
 |n+1=>(-(a.getD n 0),n)::sD a n
theorem Bc{a:List Int}:∀{n:Nat}{z:Int×Nat},z∈sD a n->z.2<n
 |n+1,z,h=>by
  rcases Fk.mp h with rfl|h
  ·exact Os n
  ·exact cx (Bc h)
theorem Be(c:Int)(A B:Vc)(a:List Int)(i:Ix):∀n,less c A B (sD a n) i=c*A i -sm (λj=>a.getD j 0*(if j<=i.2 then B (i.1,i.2 -j)else 0)) n
 |0=>by show c*A i+0*A i=c*A i -0;simp
 |n+1=>by
  have ih:=Be c A B a i n;show 1*less c A B (sD a n) i+ -(a.getD n 0)*sh n B i=_;rw[ih,sm];have e:sh n B i=if n<=i.2 then B (i.1,i.2 -n)else 0:=rfl
  rw[e];generalize(if n<=i.2 then B (i.1,i.2 -n)else 0)=x;generalize sm _ n=y;generalize a.getD n 0=z;grind
theorem Je(c:Int)(P e Q d a:List Int)(b:Bool)(t:Nat):less c (vc P e) (vc Q d) (sD a a.length) (b,t)=c*(if b then e else P).getD t 0 -cf a (if b then d else Q) a.length t:=by
 rw[Be,Fx];cases b
 ·rfl
 ·rfl
end Sub
namespace Num
theorem Jf{f g:Nat->Rat}(h:∀i,1<=i->f i=0)(k:Nat):jI f g k=f 0*g k:=by unfold jI;rw[p9 (m:=1) (k+1) (by lia) λi a _=>by rw[h i a,Rat.zero_mul]];show 0+f 0*g (k -0)=_;rw[Nat.sub_zero,Rat.zero_add]
end Num
namespace Sub
open Num
structure CS(ns ms f0 g0:List Int)(w E b1:Nat)(P Q fP fQ:List Int)(ld h:Int):Prop where
 ch:Ch (vc ns f0) (vc ms g0) (ns.length -1) (ms.length -1) (vc P fP) (vc Q fQ) (P.length -1) (Q.length -1) ld (Q.getD (Q.length -1) 0) h
 lq:0<Q.length
 xE:Q.length<=P.length
 lp:P.length<=ns.length
 DZ:Q.length<=ms.length
 lf:fP.length+Q.length<=b1
 U9:fQ=[]\/fQ.length+P.length<=b1
 bP:∀i,(vc P fP i).natAbs<=2^(w*(ns.length -1+(ms.length -1)+1))
 bQ:∀i,(vc Q fQ i).natAbs<=2^(w*(ns.length -1+(ms.length -1)+1))
 bl:ld.natAbs<=2^(w*(ns.length -1+(ms.length -1)+1))
 bh:h.natAbs<=2^(w*(ns.length -1+(ms.length -1) -2*(P.length -1)))
structure FX(ns ms f0 g0:List Int)(w E:Nat):Prop where
 l1:ms.length<=ns.length
 l2:ns.length<=50
 M:∃M:Nat,(∀i,(vc ns f0 i).natAbs<=M)/\(∀i,(vc ms g0 i).natAbs<=M)/\1<=M/\(ns.length -1+(ms.length -1)+1)*M<=2^w
 E1:∀p,(ns.length -1+(ms.length -1) -2*p)*p+(ns.length -1+(ms.length -1)+1)<=E
theorem iS(x:Int):∀n:Nat,(x^n).natAbs=x.natAbs^n
 |0=>by simp
 |n+1=>by rw[Ki,Fn,iS x n,Nat.pow_succ]
theorem Jg{a b k:Nat}(f:k<=b)(e:k<=a):b -k+(a -k)=a+b -2*k:=by obtain⟨c,rfl⟩:=Nat.exists_eq_add_of_le f;obtain⟨d,rfl⟩:=Nat.exists_eq_add_of_le e;rw[W1,W1,show k+d+(k+c)=c+d+2*k by lia,PH]
theorem SY{ns a f d:List Int}{w E:Nat}(F:FX ns a f d w E){k:Nat}(c:k<=a.length -1)(n:1<=(a.length -1 -k)+(ns.length -1 -k))(e:Nat)(ρ:Ix):
 (SS e (vc ns f) (vc a d) (a.length -1 -k) (ns.length -1 -k) ρ).natAbs<=2^(w*(ns.length -1+(a.length -1) -2*k)):=by
 obtain⟨M,j,i,h,g⟩:=F.M;have l1:=F.l1;have m:1<=(ns.length -1+(a.length -1)+1)*M:=On (show 1<=ns.length -1+(a.length -1)+1 by lia) h;have l:=DD c (h7 l1 1);have b:=SX (N:=ns.length -1+(a.length -1)+1) j i (Nat.le_succ_of_le (by rw[Nat.add_comm];exact Nat.add_le_add (Nat.sub_le _ _) (Nat.sub_le _ _))) n m e ρ;refine DD b ?_;rw[dE,Jg c l];exact QR g _
theorem getD_mem'{ns:List Int}{k:Nat}(h:k<ns.length):ns.getD k 0∈ns:=by rw[AC,B1 h];exact TB h
theorem mem_getD{ns:List Int}{x:Int}(h:x∈ns):∃k,k<ns.length/\ns.getD k 0=x:=by obtain⟨i,a,e⟩:=dt h;exact⟨i,a,by rw[AC,B1 a,←e];rfl⟩
theorem map_getD{ns:List Int}{f:Int->Int}(a:f 0=0)(k:Nat):(ns.map f).getD k 0=f (ns.getD k 0):=by
 rw[AC,FM,AC];cases ns[k]? with
 |none=>exact a.symm
 |some z=>rfl
noncomputable def hnext(h l:Int)(a:Nat):Int:=if a=0 then h else(l^a).fdiv (h^(a -1))
theorem CS.step{ns g v u P Q p n i R F:List Int}{w E b1:Nat}{d h c:Int}(X:FX ns g v u w E)(C:CS ns g v u w E b1 P Q p n d h)(A:2<=Q.length)(Y:c=Q.getD (Q.length -1) 0^(P.length -Q.length+1))(Ma:i.length=P.length -Q.length+1)
 (hR:∀k,R.getD k 0=c*P.getD k 0 -cf i Q i.length k)(U:R.length<Q.length)(zR:R=[]\/R.getD (R.length -1) 0≠0)(hF:∀k,F.getD k 0=c*p.getD k 0 -cf i n i.length k)(s:F.length<=max p.length (i.length+n.length -1))(Zv:n=[]->F.length<=p.length):
 d*h^(P.length -Q.length)≠0/\(d*h^(P.length -Q.length)).natAbs<=2^(w*E)/\(∀x∈R,d*h^(P.length -Q.length)∣x)/\(∀x∈F,d*h^(P.length -Q.length)∣x)/\(0<P.length -Q.length->h^(P.length -Q.length -1)≠0/\(h^(P.length -Q.length -1)).natAbs<=2^(w*E))/\
 (∀ρ,(vc (R.map λx=>x.fdiv (d*h^(P.length -Q.length))) (F.map λx=>x.fdiv (d*h^(P.length -Q.length))) ρ).natAbs<=2^(w*(ns.length -1+(g.length -1)+1)))/\
 (R≠[]->CS ns g v u w E b1 Q (R.map λx=>x.fdiv (d*h^(P.length -Q.length))) n (F.map λx=>x.fdiv (d*h^(P.length -Q.length))) (Q.getD (Q.length -1) 0) (hnext h (Q.getD (Q.length -1) 0) (P.length -Q.length))):=by
 have ch:=C.ch;have xE:=C.xE;have lp:=C.lp;have l1:=X.l1;have lf:=C.lf;have DZ:=C.DZ;obtain⟨a,q⟩:∃a,P.length -Q.length=a:=⟨_,rfl⟩;have j:P.length -1 -(Q.length -1)=a:=by rw[Nat.sub_sub,Nat.add_sub_cancel' (Mo A)];exact q
 have Z:∀z∈sD i i.length,z.2<=P.length -1 -(Q.length -1):=λz hz=>by have:=Bc hz;lia
 have J:∀(b:Bool)(t:Nat),less c (vc P p) (vc Q n) (sD i i.length) (b,t)=(if b then F else R).getD t 0:=λb t=>by
  rw[Je];cases b
  ·exact(hR t).symm
  ·exact(hF t).symm
 have C2:=ch.C2;generalize XT:Q.getD (Q.length -1) 0=G at*;have l:G^(P.length -1 -(Q.length -1)+1)=c:=by rw[Y,j,q]
 have M:d*h^a≠0:=Jn ch.Wn (cU ch.h0 _);obtain⟨N,Jc,rest⟩:=ch.rest (L:=sD i i.length) (by lia) Z (λt ht=>by rw[l,J];exact outI (by show R.length<=t;lia));rw[l,j]at rest;have bk:(d*h^a).natAbs<=2^(w*E):=by
  rw[Fn,iS];have m:=X.E1 (P.length -1);have B:h.natAbs^a<=2^(w*(ns.length -1+(g.length -1) -2*(P.length -1))*a):=by rw[dE];exact QR C.bh a
  refine DD (On C.bl B) ?_;rw[←eP];refine GE (by decide) ?_;rw[Nat.mul_assoc,←Nat.mul_add];refine Ee _ ?_;have:(ns.length -1+(g.length -1) -2*(P.length -1))*a<=(ns.length -1+(g.length -1) -2*(P.length -1))*(P.length -1):=Ee _ (by lia);lia
 have D:∀(b:Bool)(t:Nat),(d*h^a)∣(if b then F else R).getD t 0:=λb t=>by rw[←J,rest];exact⟨N*SS (ns.length -1+(g.length -1) -(Q.length -1 -1)) (vc ns v) (vc g u) (g.length -1 -(Q.length -1 -1)) (ns.length -1 -(Q.length -1 -1)) (b,t),by grind⟩
 have dR:∀x∈R,d*h^a∣x:=λx H=>by obtain⟨k,_,rfl⟩:=mem_getD H;exact D false k
 have dF:∀x∈F,d*h^a∣x:=λx H=>by obtain⟨k,_,rfl⟩:=mem_getD H;exact D true k
 have fd:∀(b:Bool)(t:Nat),((if b then F else R).map λx=>x.fdiv (d*h^a)).getD t 0*(d*h^a)=(if b then F else R).getD t 0:=λb t=>by rw[map_getD (f:=λx=>x.fdiv (d*h^a)) (Int.zero_fdiv _),l3 (D b t),hV (D b t)]
 have O:∀ρ,vc (R.map λx=>x.fdiv (d*h^a)) (F.map λx=>x.fdiv (d*h^a)) ρ*(d*h^a)=less c (vc P p) (vc Q n) (sD i i.length) ρ:=λρ=>by obtain⟨b,t⟩:=ρ;rw[J,←fd b t];cases b<;>rfl
 have T:∀ρ,(vc (R.map λx=>x.fdiv (d*h^a)) (F.map λx=>x.fdiv (d*h^a)) ρ).natAbs<=2^(w*(ns.length -1+(g.length -1)+1)):=λρ=>by
  have m:=O ρ;rw[rest]at m;have K:vc (R.map λx=>x.fdiv (d*h^a)) (F.map λx=>x.fdiv (d*h^a)) ρ=N*SS (ns.length -1+(g.length -1) -(Q.length -1 -1)) (vc ns v) (vc g u) (g.length -1 -(Q.length -1 -1)) (ns.length -1 -(Q.length -1 -1)) ρ:=by refine Int.eq_of_mul_eq_mul_right M ?_;rw[m];grind
  rw[K,Jc.abs];refine DD (SY X (DD (Nat.sub_le _ _) (h7 DZ 1)) (DD (js (FC (Nat.sub_lt (js A) Nat.one_pos) (h7 DZ 1))) (T1 _ _)) _ _) (GE (by decide) (Ee _ (Nat.le_succ_of_le (Nat.sub_le _ _))))
 rw[q];refine⟨M,bk,dR,dF,λo=>⟨cU ch.h0 _,?_⟩,T,λS5=>?_⟩
 ·rw[iS];have m:=X.E1 (P.length -1);have B:h.natAbs^(a -1)<=2^(w*(ns.length -1+(g.length -1) -2*(P.length -1))*(a -1)):=by rw[dE];exact QR C.bh _
  refine DD B (GE (by decide) ?_);rw[Nat.mul_assoc];refine Ee _ ?_;have:(ns.length -1+(g.length -1) -2*(P.length -1))*(a -1)<=(ns.length -1+(g.length -1) -2*(P.length -1))*(P.length -1):=Ee _ (by clear B m o bk M l C2 Y XT j;lia);lia
 have Rk:0<R.length:=ag.mpr S5;have zl:=zR.resolve_left S5;have h2:∃S:Int,hnext h G a=S/\S*h^a=G^a*h/\S.natAbs<=2^(w*(ns.length -1+(g.length -1) -2*(Q.length -1))):=by
  by_cases o:a=0
  ·refine⟨h,by unfold hnext;rw[Bz o],by rw[o,Qr,Qr,fI,ey],?_⟩;have:=C.bh;rw[Nat.le_antisymm (Nat.le_of_sub_eq_zero (q.trans o)) xE]at this;exact this
  ·have XU:Q.length<P.length:=Nat.lt_of_sub_ne_zero (by rw[q];exact o);obtain⟨S,m,K⟩:=ch.Jd (Nat.sub_lt_sub_right (Mo A) XU);rw[j]at m;have I:h^(a -1)≠0:=cU ch.h0 _;refine⟨S,?_,?_,?_⟩
   ·unfold hnext;rw[BM o,m,l3 ⟨S,rfl⟩,Y2 S I]
   ·have e3:h^a=h^(a -1)*h:=by rw[←Ki];congr 1;lia
    rw[m,e3];generalize h^(a -1)=x;grind
   ·rw[K];exact SY X (h7 DZ 1) (DD (js (Nat.sub_lt_sub_right (Mo A) (FC XU lp))) (Nat.le_add_left _ _)) _ _
 obtain⟨S,hS,hh,bS⟩:=h2;rw[hS];have r:(R.map λx=>x.fdiv (d*h^a)).length=R.length:=Ap _;have Zw:(F.map λx=>x.fdiv (d*h^a)).length=F.length:=Ap _;have ql:(R.map λx=>x.fdiv (d*h^a)).getD (R.length -1) 0≠0:=λz=>by have e:=fd false (R.length -1);simp only[Bool.false_eq_true,if_false]at e;rw[z,fe]at e;exact zl e.symm
 refine⟨?_,by rw[r];exact Rk,by rw[r];exact Mo U,DD DZ l1,by rw[r];exact DD (Mo U) DZ,?_,?_,C.bQ,T,?_,bS⟩
 ·rw[r];refine ch.step (L:=sD i i.length) Z (λρ=>?_) (by lia) rfl ql (λt ht=>?_) (by rw[j];exact hh)
  ·rw[l,j,←O ρ,de]
  ·exact outI (by show(R.map λx=>x.fdiv (d*h^a)).length<=t;rw[r];lia)
 ·rw[r];rcases C.U9 with z|z
  ·rw[z];show 0+_<=_;lia
  ·lia
 ·rw[Zw];rcases C.U9 with z|z
  ·right;exact DD (h8 (Zv z) _) lf
  ·right;rw[Ma,q,Nat.add_right_comm,PH]at s;rw[(Nat.sub_eq_iff_eq_add xE).mp q]at z;rcases Nat.le_total p.length (a+n.length)with y|y
   ·rw[Nat.max_eq_right y]at s;refine DD (h8 s _) (DD (i4 ?_) z);rw[Nat.add_comm a,fw]
   ·rw[Nat.max_eq_left y]at s;exact DD (h8 s _) lf
 ·have:=C.bQ (false,Q.length -1);rw[←XT];exact this
end Sub
namespace Num
theorem Jh{f f' g g':Nat->Int}(b:∀i,f i=f' i)(a:∀i,g i=g' i)(k:Nat):tT f g k=tT f' g' k:=by rw[show f=f' from funext b,show g=g' from funext a]
abbrev co(a:List Int):Nat->Int:=λi=>a.getD i 0
end Num
namespace Sub
open Num
theorem CS.size{ns a f e P Q l k:List Int}{w E n:Nat}{c h:Int}(X:FX ns a f e w E)(C:CS ns a f e w E n P Q l k c h)(g:2<=Q.length):
 c*h^(P.length -Q.length)≠0/\(c*h^(P.length -Q.length)).natAbs<=2^(w*E)/\(0<P.length -Q.length->h^(P.length -Q.length -1)≠0/\(h^(P.length -Q.length -1)).natAbs<=2^(w*E)):=by
 have ch:=C.ch;have m:=X.E1 (P.length -1);have xE:=C.xE;generalize o:P.length -Q.length=b at*;have d:∀j,j<=b->(h^j).natAbs<=2^(w*((ns.length -1+(a.length -1) -2*(P.length -1))*(P.length -1))):=λj p=>by
  rw[iS];have i:h.natAbs^j<=2^(w*(ns.length -1+(a.length -1) -2*(P.length -1))*j):=by rw[dE];exact QR C.bh j
  refine DD i (GE (by decide) ?_);rw[Nat.mul_assoc];exact Ee _ (Ee _ (by lia))
 refine⟨Jn ch.Wn (cU ch.h0 _),?_,λ_=>⟨cU ch.h0 _,?_⟩⟩
 ·rw[Fn];refine DD (On C.bl (d b (Do _))) ?_;rw[←eP,←Nat.mul_add];exact GE (by decide) (Ee _ (by lia))
 ·exact DD (d (b -1) (by clear o xE m g;lia)) (GE (by decide) (Ee _ (by lia)))
theorem CS.start{ns a c b:List Int}{w E d:Nat}(X:FX ns a c b w E)(k:0<a.length)(f:a.getD (a.length -1) 0≠0)(m:c.length+a.length<=d)(l:b=[]\/b.length+ns.length<=d):CS ns a c b w E d ns a c b 1 1:=by
 obtain⟨M,j,h,n,g⟩:=X.M;have l1:=X.l1;have e:M<=2^(w*(ns.length -1+(a.length -1)+1)):=by refine DD (DD (lj M (show 0<ns.length -1+(a.length -1)+1 by omega)) g) (GE (by decide) ?_);exact kz w (by omega)
 refine⟨Ch.start (by omega) rfl f (λt o=>outI (by omega)),k,l1,Do _,Do _,m,l,λi=>DD (j i) e,λi=>DD (h i) e,U2 (by decide),U2 (by decide)⟩
theorem CS.bd{ns b g f P Q d c:List Int}{w E i:Nat}{e h:Int}(C:CS ns b g f w E i P Q d c e h):(∀x∈P,x.natAbs<=2^(w*(ns.length -1+(b.length -1)+1)))/\(∀x∈Q,x.natAbs<=2^(w*(ns.length -1+(b.length -1)+1)))/\(∀x∈d,x.natAbs<=2^(w*(ns.length -1+(b.length -1)+1)))/\∀x∈c,x.natAbs<=2^(w*(ns.length -1+(b.length -1)+1)):=by
 refine⟨λx a=>?_,λx a=>?_,λx a=>?_,λx a=>?_⟩
 ·obtain⟨k,_,rfl⟩:=mem_getD a;exact C.bP (false,k)
 ·obtain⟨k,_,rfl⟩:=mem_getD a;exact C.bQ (false,k)
 ·obtain⟨k,_,rfl⟩:=mem_getD a;exact C.bP (true,k)
 ·obtain⟨k,_,rfl⟩:=mem_getD a;exact C.bQ (true,k)
end Sub
namespace Num
noncomputable def hz(t:Int):List Int->List Int
 |[]=>[]
 |r::a=>(r+t*(hz t a).headD 0)::hz t a
noncomputable def cs(l:List Int):List Rat:=l.map λx:Int=>((x:Int):Rat)
noncomputable def sc(u b:Rat):List Rat->List Rat
 |[]=>[]
 |r::a=>r*u*b^a.length::sc u b a
noncomputable def Wq(N n:Nat)(r:Rat):Prop:=r.num.natAbs<2^N/\r.den<2^n
noncomputable def gz(t:Int)(M:List Int)(k:Nat):Int:=(hz t (M.drop k)).headD 0
end Num
namespace Sub
end Sub
namespace Sub
open Num
noncomputable def one:Nat->Int:=λi=>if i=0 then 1 else 0
end Sub
namespace Num
theorem qe(f:Nat->Rat):∀n,fH f (n+1)=f 0+fH (λi=>f (i+1)) n
 |0=>by rw[fH,fH,fH];grind
 |n+1=>by rw[fH,qe f n,fH];grind
theorem Bf(c:Rat)(f:Nat->Rat):∀n,fH (λi=>c*f i) n=c*fH f n
 |0=>by rw[fH,fH];grind
 |n+1=>by rw[fH,Bf c f n,fH];grind
theorem Bg(f g:Nat->Rat):∀n,fH (λi=>f i+g i) n=fH f n+fH g n
 |0=>by rw[fH,fH,fH];grind
 |n+1=>by rw[fH,Bg f g n,fH,fH];grind
theorem Bh:∀(n:Nat)(f:Nat->Rat),fH (λi=>f (n -i)) (n+1)=fH f (n+1)
 |0,f=>rfl
 |n+1,f=>by
  rw[qe,iR (g:=λi=>f (n -i)) (n+1) λi a=>by show f (n+1 -(i+1))=f (n -i);rw[show n+1 -(i+1)=n -i by lia],Bh n f,Nat.sub_zero];have:fH f (n+1+1)=fH f (n+1)+f (n+1):=by rw[fH]
  rw[this];grind
theorem qf(f g:Nat->Rat)(k:Nat):jI f g k=jI g f k:=by unfold jI;rw[←Bh];refine iR _ λi a=>?_;show f (k -i)*g (k -(k -i))=g i*f (k -i);rw[show k -(k -i)=i by omega,Rat.mul_comm]
theorem pC{f f' g g':Nat->Rat}(b:∀i,f i=f' i)(a:∀i,g i=g' i)(k:Nat):jI f g k=jI f' g' k:=by rw[show f=f' from funext b,show g=g' from funext a]
theorem xF(f g h:Nat->Rat)(k:Nat):jI (λi=>f i+g i) h k=jI f h k+jI g h k:=by unfold jI;rw[←Bg];exact iR _ λi _=>Rat.add_mul ..
theorem lO(c:Rat)(f h:Nat->Rat)(k:Nat):jI (λi=>c*f i) h k=c*jI f h k:=by unfold jI;rw[←Bf];exact iR _ λi _=>Rat.mul_assoc ..
theorem Ji(c:Rat)(f h:Nat->Rat)(k:Nat):jI f (λi=>c*h i) k=c*jI f h k:=by rw[qf,lO,qf h]
theorem C3(f g:Nat->Rat):jI f g 0=f 0*g 0:=by unfold jI;rw[fH,fH];show 0+f 0*g (0 -0)=_;rw[Rat.zero_add]
theorem FU(f g:Nat->Rat)(k:Nat):jI f g (k+1)=f 0*g (k+1)+jI (λi=>f (i+1)) g k:=by unfold jI;rw[qe];congr 1;exact iR _ λi a=>by show f (i+1)*g (k+1 -(i+1))=f (i+1)*g (k -i);rw[show k+1 -(i+1)=k -i by lia]
theorem Jj{f g:Nat->Rat}{n m:Nat}(c:∀i,n<i->f i=0)(b:∀i,m<i->g i=0):jI f g (n+m)=f n*g m:=by
 unfold jI;have e:fH (λi=>f i*g (n+m -i)) (n+m+1)=fH (λi=>f i*g (n+m -i)) (n+1):=p9 _ (by lia) λi h _=>by show f i*g (n+m -i)=0;rw[c i (by lia),Rat.zero_mul]
 rw[e,fH];have z:fH (λi=>f i*g (n+m -i)) n=0:=by
  rw[iR (g:=λ_=>0) _ λi d=>by show f i*g (n+m -i)=0;rw[b _ (by lia),Rat.mul_zero]];have:∀n,fH (λ_=>0) n=0:=λn=>by
   induction n with
   |zero=>rfl
   |succ n a=>rw[fH,a];grind
  exact this _
 rw[z,Rat.zero_add,show n+m -n=m by lia]
abbrev cQ(a:List Rat):Nat->Rat:=λi=>a.getD i 0
noncomputable def Fin(f:Nat->Rat):Prop:=∃n,∀i,n<=i->f i=0
noncomputable def DQ(g a:Nat->Rat):Prop:=∃s,Fin s/\∀k,a k=jI s g k
theorem NU(g:Nat->Rat)(k:Nat):jI (λi=>if i=0 then 1 else 0) g k=g k:=by rw[Jf (λi a=>BM (by lia))];show(1:Rat)*_=_;rw[Rat.one_mul]
theorem Bj(g:Nat->Rat)(k:Nat):jI (λ_=>0) g k=0:=by
 unfold jI;have:∀n,fH (λi=>(0:Rat)*g (k -i)) n=0:=λn=>by
  induction n with
  |zero=>rfl
  |succ n a=>rw[fH,a];grind
 exact this _
structure Mon(g:List Rat):Prop where
 ne:g≠[]
 one:g.getD (g.length -1) 0=1
theorem zN{f:Nat->Rat}(h:Fin f)(k:Nat)(c:f k≠0):∃n,f n≠0/\∀i,n<i->f i=0:=by
 obtain⟨n,a⟩:=h
 induction n with
 |zero=>exact absurd (a k (Kk _)) c
 |succ n b=>
  by_cases e:f n=0
  ·refine b λi d=>?_;by_cases g:i=n
   ·rw[g];exact e
   ·exact a i (by lia)
  ·exact⟨n,e,λi d=>a i (by lia)⟩
theorem FW{b r:List Rat}(u:bK b)(A:b≠[])(o:bK r)(C:r.length<b.length)(h:DQ (cQ b) (cQ r)):r=[]:=by
 rcases me r with e|⟨t,y,e⟩
 ·exact e
 ·rw[mf]at e;obtain⟨s,v,d⟩:=h;have B:=ag.mpr A;have l:r.getD t.length 0=y:=by rw[e,AC,Ha (Do _),hZ];rfl
  have k:y≠0:=o y (by rw[e];exact Y1);have x:b.getD (b.length -1) 0≠0:=by refine u _ ?_;rw[P2,AC,B1 (by lia)];rfl
  have:∃j,s j≠0:=Classical.byContradiction λz=>k (by have z:∀j,s j=0:=λj=>Classical.byContradiction λw=>z ⟨j,w⟩;have:=d t.length;rw[pC (f':=λ_=>0) z (λ_=>rfl),Bj]at this;exact l.symm.trans this);obtain⟨j,q⟩:=this;obtain⟨n,p,c⟩:=zN v j q;have a:=Jj (f:=s) (g:=cQ b) (n:=n) (m:=b.length -1) c (λi D=>lN (by lia));rw[←d]at a;have z:cQ r (n+(b.length -1))=0:=lN (by lia);rw[z]at a;rcases mB.mp a.symm with w|w
  ·exact absurd w p
  ·exact absurd w x
end Num
namespace Num
open Sub
section
variable{ι:Type}
inductive Wr(P:List (ι->Rat)):(ι->Rat)->(ι->Rat)->Prop where
 |refl (o:ι->Rat):Wr P o o
 |add {o x a:ι->Rat} (y:Rat) (h:Wr P o x) (m:a∈P):Wr P o (λi=>1*x i+y*a i)
end
section
variable{ι α:Type}
end
noncomputable def line(N:Nat)(a:List Rat)(i:Nat):List Rat:=List.replicate i 0++a.reverse++List.replicate (N -i -a.length) 0
theorem S6(f g:Nat->Int)(k:Nat):jI (λi=>(f i:Rat)) (λi=>(g i:Rat)) k=((tT f g k:Int):Rat):=by have:=IX (f:=λi=>(f i:Rat)) (g:=λi=>(g i:Rat)) (F:=f) (G:=g) (A:=1) (C:=1) (λi=>mi _) (λi=>mi _) k;rw[mi,mi]at this;exact this
theorem Bk(c:Rat)(p:Nat)(g:Nat->Rat)(k:Nat):jI (λi=>if i=p then c else 0) g k=if p<=k then c*g (k -p)else 0:=by
 have:∀(p:Nat)(k:Nat),jI (λi=>if i=p then c else 0) g k=if p<=k then c*g (k -p)else 0:=by
  intro p
  induction p with
  |zero=>
   intro k;have:=lO c (λi=>if i=0 then 1 else 0) g k;rw[NU]at this;rw[Bz (Kk _),Nat.sub_zero,←this];refine pC (λi=>?_) (λ_=>rfl) k;by_cases h:i=0
   ·rw[Bz h,Bz h,mi]
   ·rw[BM h,BM h,Rat.mul_zero]
  |succ p a=>
   intro k;cases k with
   |zero=>rw[C3,BM (by lia),BM (by lia),Rat.zero_mul]
   |succ k=>
    rw[FU,BM (by lia),Rat.zero_mul,Rat.zero_add];have e:(λi=>if i+1=p+1 then c else 0)=λi=>if i=p then c else 0:=funext λi=>by
     by_cases h:i=p
     ·rw[Bz h,Bz (by lia)]
     ·rw[BM h,BM (by lia)]
    rw[e,a k];by_cases h:p<=k
    ·rw[Bz h,Bz (by lia),show k+1 -(p+1)=k -p by lia]
    ·rw[BM h,BM (by lia)]
 exact this p k
noncomputable def eX(a b r:List Rat):Prop:=bK r/\r.length<b.length/\∃q:Nat->Rat,Fin q/\∀k,cQ a k=jI q (cQ b) k+cQ r k
theorem eX.uniq{a b r s:List Rat}(m:bK b)(w:b≠[])(o:eX a b r)(n:eX a b s):r=s:=by
 obtain⟨e,y,g,⟨l,q⟩,u⟩:=o;obtain⟨d,x,f,⟨j,p⟩,t⟩:=n;have c:∀k,cQ (ef (dS (max r.length s.length) λi=>cQ r i+(-1)*cQ s i)) k=cQ r k+(-1)*cQ s k:=λk=>by
  show(ef _).getD k 0=_;rw[uQ,uR];split
  ·rfl
  ·rw[show cQ r k=0 from lN (by lia),show cQ s k=0 from lN (by lia)];grind
 have h:=FW m w (iQ (dS (max r.length s.length) λi=>cQ r i+(-1)*cQ s i)) (by
  have:=C1 (dS (max r.length s.length) λi=>cQ r i+(-1)*cQ s i);rw[gZ]at this;lia) ⟨λi=>f i+(-1)*g i,⟨max l j,λi z=>by dsimp only;rw[q i (by lia),p i (by lia)];grind⟩,λk=>by
  rw[c,xF,lO];have A:=u k;have a2:=t k;grind⟩
 refine NS e d λk=>?_;have:=c k;rw[h]at this;have v:cQ [] k=0:=rfl;rw[v]at this;show cQ r k=cQ s k;grind
theorem eX.one{a:List Rat}{x:Rat}(c:x≠0):eX a [x] []:=by
 have e:∀i,cQ [x] i=if i=0 then x else 0:=λi=>by
  cases i with
  |zero=>rfl
  |succ i=>rfl
 have hz:bK []:=λy b=>by cases b
 refine⟨hz,Nat.one_pos,λi=>x⁻¹*cQ a i,⟨a.length,λi d=>by dsimp only;rw[show cQ a i=0 from lN d];grind⟩,λk=>?_⟩;rw[lO,qf,pC (g:=cQ a) e (λ_=>rfl),Bk,Bz (Kk k)];have:=Rat.inv_mul_cancel x c;show _=x⁻¹*(x*cQ a k)+0;grind
theorem xG{r:List Rat}(h:bK r):bK (gc r):=λx a=>by unfold gc at a;rw[kS]at a;obtain⟨y,b,rfl⟩:=N0.mp a;have:=h y b;grind
theorem lP(r:List Rat):(gc r).length=r.length:=Ap _
theorem NV{r:List Rat}(h:r≠[]):gc r≠[]:=λz=>h (List.map_eq_nil_iff.mp z)
inductive wk:List Rat->List Rat->List (List Rat)->Prop
 |nil {a b:List Rat} (h:eX a b []):wk a b []
 |cons {a b r:List Rat} {l:List (List Rat)} (h:eX a b r) (h0:r≠[]) (k:wk b (gc r) l):wk a b (gc r::l)
theorem wk.uniq{a b:List Rat}{l m:List (List Rat)}(e:bK b)(f:b≠[])(o:wk a b l)(g:wk a b m):l=m:=by
 induction o generalizing m with
 |nil h=>
  cases g with
  |nil _=>rfl
  |cons d c _=>exact absurd (h.uniq e f d).symm c
 |cons h i k n=>
  cases g with
  |nil d=>exact absurd (h.uniq e f d) i
  |cons d c j=>
   cases h.uniq e f d;rw[n (xG h.1) (NV i) j]
noncomputable def Bl(N n:Nat)(x:Rat):Prop:=x.num.natAbs<=2^N/\x.den<=2^n
theorem Bl.up{N n b a:Nat}{x:Rat}(h:Bl N n x)(d:N<=b)(c:n<=a):Bl b a x:=⟨DD h.1 (GE (by decide) d),DD h.2 (GE (by decide) c)⟩
theorem Bl.div{t b:Int}{N n:Nat}(d:t.natAbs<=2^N)(c:b.natAbs<=2^n)(a:b≠0):Bl N n (Rat.divInt t b):=⟨DD (lJ t b a).1 d,DD (lJ t b a).2 c⟩
theorem Bl.mul{N n M m:Nat}{x y:Rat}(b:Bl N n x)(a:Bl M m y):Bl (N+M) (n+m) (x*y):=by
 have e:x*y=Rat.divInt (x.num*y.num) ((x.den:Int)*y.den):=by
  conv=>lhs;rw[←Iy x,←Iy y]
  exact cq ..
 rw[e];have d:=x.den_pos;have c:=y.den_pos;refine Bl.div ?_ ?_ (Jn (by lia) (by lia))
 ·rw[Fn,eP];exact On b.1 a.1
 ·rw[Fn,Int.natAbs_natCast,Int.natAbs_natCast,eP];exact On b.2 a.2
theorem Bl.neg{N n:Nat}{x:Rat}(h:Bl N n x):Bl N n (-x):=⟨by rw[Rat.neg_num,Int.natAbs_neg];exact h.1,by rw[Rat.neg_den];exact h.2⟩
theorem Bl.int{N:Nat}{z:Int}(h:z.natAbs<=2^N):Bl N 0 (z:Rat):=⟨h,Do _⟩
theorem Bl.Va{N n:Nat}{x:Rat}(h:Bl N n x):Wq (N+1) (n+1) x:=⟨Fm h.1 (Q1 (by decide) (Os _)),Fm h.2 (Q1 (by decide) (Os _))⟩
theorem Bl.bd{N n m:Nat}{x:Rat}(h:Bl N n x)(b:N<m)(a:n<m):Bd m x:=⟨Fm h.1 (Q1 (by decide) b),Fm h.2 (Q1 (by decide) a)⟩
structure Sm(ns ms:List Int)(w E D0:Nat)(A B:List Int)(ld h:Int)(α β:Rat)(a b:List Rat):Prop where
 C:CS ns ms [] [] w E (ms.length+1) A B [] [] ld h
 ea:∀k,cQ a k=α*(A.getD k 0:Int)
 eb:∀k,cQ b k=β*(B.getD k 0:Int)
 Jk:α≠0
 Vb:β≠0
 la:a.length=A.length
 lb:b.length=B.length
 za:bK a
 zb:bK b
 NW:Bl (D0+w*E*(2*ns.length -A.length -B.length)) (D0+w*(ns.length -1+(ms.length -1)+1)*(2*ns.length -A.length -B.length)) α
 Ws:Bl (D0+w*E*(2*ns.length -A.length -B.length)) (D0+w*(ns.length -1+(ms.length -1)+1)*(2*ns.length -A.length -B.length)) β
theorem Sm.NX{ns d A B:List Int}{w E f:Nat}{e h:Int}{α c:Rat}{a b:List Rat}(S:Sm ns d w E f A B e h α c a b):b≠[]:=λz=>by have:=S.lb;rw[z]at this;have:=S.C.lq;simp at*;lia
theorem zO{R:List Int}{x:Rat}(c:x≠0)(b:R=[]\/R.getD (R.length -1) 0≠0):bK (R.map λy:Int=>x*(y:Rat)):=λz hz=>by
 rw[kS]at hz;obtain⟨y,a,rfl⟩:=N0.mp hz;rcases b with e|e
 ·rw[e]at a;cases a
 ·rw[P2]at a;rw[AC,a]at e;intro z;rcases mB.mp z with z|z
  ·exact c z
  ·exact e (Pm.mp z)
theorem FY(R:List Int)(x:Rat)(k:Nat):cQ (R.map λy:Int=>x*(y:Rat)) k=x*((R.getD k 0:Int):Rat):=by
 show(R.map λy:Int=>x*(y:Rat)).getD k 0=_;rw[AC,FM,AC];cases R[k]? with
 |none=>show(0:Rat)=x*((0:Int):Rat);grind
 |some z=>rfl
section
variable{ns ms A B Qs R:List Int}{w E D0:Nat}{ld h c:Int}{α β:Rat}{a b:List Rat}
theorem Sm.rem(S:Sm ns ms w E D0 A B ld h α β a b)(r:c≠0)(q:∀k,R.getD k 0=c*A.getD k 0 -cf Qs B Qs.length k)(m:R.length<B.length)(d:R=[]\/R.getD (R.length -1) 0≠0):eX a b (R.map λy:Int=>α/c*(y:Rat)):=by
 have l:(c:Rat)≠0:=λz=>r (Pm.mp z);have Vb:=S.Vb;have Jk:=S.Jk;have g:α/(c:Rat)≠0:=λz=>by
  have:α=α/(c:Rat)*c:=by grind
  rw[z]at this;exact Jk (by grind)
 refine⟨zO g d,by rw[Ap,S.lb];exact m,λi=>α/(c*β)*((Qs.getD i 0:Int):Rat),⟨Qs.length,λi n=>by dsimp only;rw[outI n];show _*((0:Int):Rat)=0;grind⟩,λk=>?_⟩;rw[FY,lO,pC (f:=λi=>((Qs.getD i 0:Int):Rat)) (g':=λi=>β*((B.getD i 0:Int):Rat)) (λ_=>rfl) S.eb,Ji,S6,S.ea k];have e:=q k;rw[lK]at e;have e:((R.getD k 0:Int):Rat)=c*((A.getD k 0:Int):Rat) -((tT (λi=>Qs.getD i 0) (λi=>B.getD i 0) k:Int):Rat):=by rw[e,Rat.intCast_sub,Qb];rfl
 rw[e];generalize((tT (λi=>Qs.getD i 0) (λi=>B.getD i 0) k:Int):Rat)=u;generalize((A.getD k 0:Int):Rat)=v;have j:(c:Rat)*β≠0:=λz=>by
  rcases mB.mp z with z|z
  ·exact l z
  ·exact Vb z
 have p:α/(c*β)*(β*u)=α/c*u:=by grind
 have o:α/(c:Rat)*(c*v -u)=α*v -α/c*u:=by grind
 rw[p,o];grind
theorem Sm.next(X:FX ns ms [] [] w E)(S:Sm ns ms w E D0 A B ld h α β a b)(t:2<=B.length)(e:c=B.getD (B.length -1) 0^(A.length -B.length+1))(H:Qs.length=A.length -B.length+1)(p:∀k,R.getD k 0=c*A.getD k 0 -cf Qs B Qs.length k)(j:R.length<B.length)(i:R=[]\/R.getD (R.length -1) 0≠0)(u:R≠[]):
 gc (R.map λy:Int=>α/c*(y:Rat))=((R.map λy=>y.fdiv (ld*h^(A.length -B.length))).map λy:Int=> -(α*Rat.divInt (ld*h^(A.length -B.length)) c)*(y:Rat))/\
 Sm ns ms w E D0 B (R.map λy=>y.fdiv (ld*h^(A.length -B.length))) (B.getD (B.length -1) 0) (hnext h (B.getD (B.length -1) 0) (A.length -B.length)) β (-(α*Rat.divInt (ld*h^(A.length -B.length)) c)) b (gc (R.map λy:Int=>α/c*(y:Rat))):=by
 have C2:B.getD (B.length -1) 0≠0:=S.C.ch.C2;have f:c≠0:=by rw[e];exact cU C2 _
 have q:=S.C.step X t e H p j i (F:=[]) (λk=>by
  have:cf Qs [] Qs.length k=0:=by rw[AX];rfl
  rw[this];show(0:Int)=c*0 -0;lia) (Kk _) (λ_=>Do _)
 obtain⟨l,r,v,_,_,_,g⟩:=q;have g:=g u;have xE:=S.C.xE;have lp:=S.C.lp;have DZ:=S.C.DZ;have l1:=X.l1;have D:=(S.C.bd).2.1 _ (getD_mem' (k:=B.length -1) (by lia));generalize K:ld*h^(A.length -B.length)=d at*;have J:(c:Rat)≠0:=λz=>f (Pm.mp z);have I:(d:Rat)≠0:=λz=>l (Pm.mp z);have Jk:=S.Jk;have m:Rat.divInt d c=(d:Rat)/c:=cw ..;have o:gc (R.map λy:Int=>α/c*(y:Rat))=((R.map λy=>y.fdiv d).map λy:Int=> -(α*Rat.divInt d c)*(y:Rat)):=by unfold gc;rw[Ta,Ta];refine Yf λx s=>?_;obtain⟨y,rfl⟩:=v x s;show-(α/c*((d*y:Int):Rat))= -(α*Rat.divInt d c)*(((d*y).fdiv d:Int):Rat);rw[l3 ⟨y,rfl⟩,Y2 y l,m,Qb];grind
 have G: -(α*Rat.divInt d c)≠0:=λz=>by
  rw[m]at z;have:α= -(-(α*((d:Rat)/c)))*c/d:=by grind
  rw[z]at this;exact Jk (by grind)
 refine⟨o,g,S.eb,λk=>by rw[o,FY],S.Vb,G,S.lb,by rw[lP,Ap,Ap],S.zb,xG (S.rem f p j i).1,S.Ws.up ?_ ?_,Bl.neg ((S.NW.mul (Bl.div r (n:=w*(ns.length -1+(ms.length -1)+1)*(A.length -B.length+1)) ?_ f)).up ?_ ?_)⟩
 ·rw[Ap];exact SL (Ee _ (by lia)) _
 ·rw[Ap];exact SL (Ee _ (by lia)) _
 ·rw[e,iS,dE];exact QR D _
 ·rw[Ap,fw,←Nat.mul_succ];exact SL (Ee _ (by lia)) _
 ·rw[Ap,fw,←Nat.mul_add];exact SL (Ee _ (by lia)) _
theorem Sm.sizes(S:Sm ns ms w E D0 A B ld h α β a b){N n:Nat}(e:D0+w*E*(2*ns.length -2)<=N)(d:D0+w*(ns.length -1+(ms.length -1)+1)*(2*ns.length -2)<=n):Bl N n α/\Bl N n β:=by have lq:=S.C.lq;have xE:=S.C.xE;have g:w*E*(2*ns.length -A.length -B.length)<=w*E*(2*ns.length -2):=Ee _ (by lia);have f:w*(ns.length -1+(ms.length -1)+1)*(2*ns.length -A.length -B.length)<=w*(ns.length -1+(ms.length -1)+1)*(2*ns.length -2):=Ee _ (by lia);exact⟨S.NW.up (DD (SL g _) e) (DD (SL f _) d),S.Ws.up (DD (SL g _) e) (DD (SL f _) d)⟩
theorem Sm.rows(S:Sm ns ms w E D0 A B ld h α β a b){N n m:Nat}(f:Bl N n α/\Bl N n β)(o:N+w*(ns.length -1+(ms.length -1)+1)<m)(j:n<m):(∀x∈a,Bd m x)/\∀x∈b,Bd m x:=by
 obtain⟨t,s,_,_⟩:=S.C.bd;have g:∀{l:List Rat}{L:List Int}{d:Rat},(∀k,cQ l k=d*((L.getD k 0:Int):Rat))->l.length=L.length->Bl N n d->(∀x∈L,x.natAbs<=2^(w*(ns.length -1+(ms.length -1)+1)))->∀x∈l,Bd m x:=λ{l L d} e v u q x i=>by
  obtain⟨k,p,rfl⟩:=dt i;have:l[k]=cQ l k:=by show _=l.getD k 0;rw[AC,B1 p];rfl
  rw[this,e k];have r:=q _ (getD_mem' (k:=k) (by lia));exact(u.mul (Bl.int r)).bd o (by lia)
 exact⟨g S.ea S.la f.1 t,g S.eb S.lb f.2 s⟩
end
noncomputable def cj(ns:List Int):List Int:=(List.range (ns.length -1)).map λi=>((i+1:Nat):Int)*ns.getD (i+1) 0
noncomputable def aY(a:List Rat):List Rat:=dS (a.length -1) λi=>((i+1:Nat):Rat)*a.getD (i+1) 0
theorem dg(ns:List Int):(cj ns).length=ns.length -1:=by unfold cj;simp
theorem lS(a:List Rat):(aY a).length=a.length -1:=gZ _ _
theorem uU(ns:List Int)(k:Nat):(cj ns).getD k 0=((k+1:Nat):Int)*ns.getD (k+1) 0:=by
 unfold cj;rw[AC,FM];by_cases h:k<ns.length -1
 ·rw[SU h];rfl
 ·rw[Dx (by simpa using h),outI (ns:=ns) (by lia),SF];rfl
theorem Bm(a:List Rat)(k:Nat):cQ (aY a) k=((k+1:Nat):Rat)*cQ a (k+1):=by
 show(dS _ _).getD k 0=_;rw[uR];split
 ·rfl
 ·rw[show cQ a (k+1)=0 from lN (by lia)];grind
structure NY(ns ms:List Int)(w E:Nat):Prop where
 X:FX ns ms [] [] w E
 hN:26+w*E*(2*ns.length -2)<=17600
 hn:26+w*(ns.length -1+(ms.length -1)+1)*(2*ns.length -2)<=5900
 hL:w*(ns.length -1+(ms.length -1)+1)<=330
 hE:w*E<=7900
 yU:ns.length<=10
theorem S7{m E:Nat}(h:∀s,s<m+1->∀p,p<m+1->(s -2*p)*p+(s+1)<=E):∀s,s<=m->∀p,(s -2*p)*p+(s+1)<=E:=λs b p=>by
 by_cases a:p<m+1
 ·exact h s (by lia) p a
 ·have:=h s (by lia) 0 (by lia);rw[show s -2*p=0 by lia,Nat.zero_mul];lia
theorem S8{ns:List Int}{M w E m:Nat}(l:2<=ns.length)(j:2*ns.length<=m+3)(g:ns.length<=50)(b:∀x∈ns,x.natAbs<=M)(h:1<=M)(e:(2*ns.length -2)*((ns.length -1)*M)<=2^w)(f:∀s,s<m+1->∀p,p<m+1->(s -2*p)*p+(s+1)<=E):FX ns (cj ns) [] [] w E:=by
 have a:M<=(ns.length -1)*M:=lj M (by lia);have d:∀k,(ns.getD k 0).natAbs<=M:=λk=>by
  by_cases c:k<ns.length
  ·exact b _ (getD_mem' c)
  ·rw[outI (by lia)];exact Kk _
 refine⟨by rw[dg];lia,g,⟨(ns.length -1)*M,λi=>?_,λi=>?_,DD h a,?_⟩,λp=>?_⟩
 ·obtain⟨z,k⟩:=i;cases z
  ·exact DD (d k) a
  ·exact Kk _
 ·obtain⟨z,k⟩:=i;cases z
  ·show((cj ns).getD k 0).natAbs<=_;rw[uU,Fn,Int.natAbs_natCast];by_cases c:k+1<ns.length
   ·exact On (by lia) (d _)
   ·rw[outI (by lia)];exact Kk _
  ·exact Kk _
 ·rw[dg,show ns.length -1+(ns.length -1 -1)+1=2*ns.length -2 by lia];exact e
 ·rw[dg];exact S7 f _ (by lia) p
theorem FZ{ns:List Int}(d:2<=ns.length)(c:ns.length<=10)(b:(∀x∈ns,x.natAbs<=1024)\/((∀x∈ns,x.natAbs<=67108864)/\ns.length<=6)):∃w E,NY ns (cj ns) w E:=by
 rcases b with b|⟨b,e⟩
 ·have a:(2*ns.length -2)*((ns.length -1)*1024)<=2^18:=DD (On (show 2*ns.length -2<=18 by lia) (XB 1024 (show ns.length -1<=9 by lia))) (by decide);have X:=S8 (m:=17) (E:=54) (w:=18) d (by lia) (by lia) b (by decide) a (by decide);refine⟨18,54,X,?_,?_,?_,by decide,c⟩
  ·have:18*54*(2*ns.length -2)<=18*54*18:=Ee _ (by lia);lia
  ·rw[dg];have:=On (Ee 18 (show ns.length -1+(ns.length -1 -1)+1<=18 by lia)) (show 2*ns.length -2<=18 by lia);lia
  ·rw[dg];lia
 ·have a:(2*ns.length -2)*((ns.length -1)*67108864)<=2^32:=DD (On (show 2*ns.length -2<=10 by lia) (XB 67108864 (show ns.length -1<=5 by lia))) (by decide);have X:=S8 (m:=9) (E:=20) (w:=32) d (by lia) (by lia) b (by decide) a (by decide);refine⟨32,20,X,?_,?_,?_,by decide,c⟩
  ·have:32*20*(2*ns.length -2)<=32*20*10:=Ee _ (by lia);lia
  ·rw[dg];have:=On (Ee 32 (show ns.length -1+(ns.length -1 -1)+1<=10 by lia)) (show 2*ns.length -2<=10 by lia);lia
  ·rw[dg];lia
theorem Sm.start{ns:List Int}{w E:Nat}{a:List Rat}{α:Rat}(P:NY ns (cj ns) w E)(p:2<=ns.length)(j:ns.getD (ns.length -1) 0≠0)(e:∀k,cQ a k=α*((ns.getD k 0:Int):Rat))(l:a.length=ns.length)(z:bK a)(g:α≠0)(f:Bl 26 26 α):Sm ns (cj ns) w E 26 ns (cj ns) 1 1 α α a (aY a):=by
 have b:=dg ns;have o:(cj ns).getD ((cj ns).length -1) 0≠0:=by rw[uU,b,show ns.length -1 -1+1=ns.length -1 by lia];exact Jn (by lia) j
 have i:bK (aY a):=λx c=>by
  rw[P2]at c;have d:cQ (aY a) ((aY a).length -1)=x:=by show(aY a).getD _ 0=x;rw[AC,c];rfl
  rw[Bm,lS,show a.length -1 -1+1=a.length -1 by lia]at d;have n:=g7 z (by lia);have m:((a.length -1:Nat):Rat)≠0:=λh=>by have:((a.length -1:Nat):Int)=0:=Pm.mp h;lia
  rw[←d];intro h;rcases mB.mp h with h|h
  ·exact m h
  ·exact n h
 refine⟨CS.start P.X (by rw[b];lia) o (by show 0+_<=_;lia) (.inl rfl),e,λk=>?_,g,g,l,by rw[lS,b,l],z,i,f.up (T1 _ _) (T1 _ _),f.up (T1 _ _) (T1 _ _)⟩;rw[Bm,uU,e (k+1),Qb];show((k+1:Nat):Rat)*_=α*(((k+1:Nat):Rat)*_);grind
theorem Sm.Jl{ns A B:List Int}{w E:Nat}{d h:Int}{α c:Rat}{a b:List Rat}(P:NY ns (cj ns) w E)(S:Sm ns (cj ns) w E 26 A B d h α c a b):(Bl 17600 5900 α/\Bl 17600 5900 c)/\(∀x∈a,Bd 18000 x)/\∀x∈b,Bd 18000 x:=by have s:=S.sizes P.hN P.hn;have:=P.hL;exact⟨s,S.rows s (by lia) (by decide)⟩
end Num
namespace VL
open PySem PySem.Spec PyProof.Rows L2
theorem ff{C:Prop}(h:false=true):C:=Bool.noConfusion h
theorem nn{α:Type}{a:α}{C:Prop}(h:none=some a):C:=Option.noConfusion rfl (heq_of_eq h)
inductive W where
 |aS|bl (b:Bool)|int (i:Int)|str (x:Str)|ty (n:String)|cls (C:Addr)|err (C:Addr)
 |tup (l:List W)|lst (l:List W)|dct (ks vs:List W)|obj (C:Addr) (fs:List Str) (vs:List W)|gx (ns:List Int)
noncomputable def C4:HO->Bool
 |.lst _|.ins _ _ _|.dK _|.dT _|.set _ _=>true
 |_=>false
noncomputable def Wt:Key->W
 |.inl i=>.int i
 |.inr x=>.str x
noncomputable def zP(K:Frag)(C:Addr)(a:List Str):Prop:=Ij K C/\a.length<1000/\a.Nodup/\∀x∈a,kG K C x
mutual
noncomputable def Rep(K:Frag)(A:Addr->Prop)(H:Hp):W->V->Prop
 |.aS,v=>v=.aS
 |.bl b,v=>v=.bl b
 |.int i,v=>v=.int i
 |.str x,v=>v=.str x
 |.ty n,v=>v=.ty n
 |.cls C,v=>v=.ref C
 |.err C,v=>∃a,v=.ref a/\H a=some (CL a C)/\¬A a
 |.tup l,v=>∃p vs,v=.ref p/\H p=some (.tup vs)/\ai K A H l vs
 |.lst l,v=>∃p vs,v=.ref p/\¬A p/\Rd H p (.lst vs)/\ai K A H l vs
 |.dct f d,v=>∃p c,v=.ref p/\¬A p/\H p=some (.dK c)/\f=c.map (λx=>Wt x.1)/\ai K A H d (c.map (·.2))
 |.obj C e d,v=>∃p g vs,v=.ref p/\¬A p/\H p=some (.ins C g (e.zip vs))/\vs.length=e.length/\zP K C e/\ai K A H d vs
 |.gx ns,v=>∃p,v=.ref p/\((∃o,H p=some (.wF o (.lst (ns.map V.int))))\/gU K (λ_=>none) p (ns.map V.int))
noncomputable def ai(K:Frag)(A:Addr->Prop)(H:Hp):List W->List V->Prop
 |[],vs=>vs=[]
 |w::a,vs=>∃v r,vs=v::r/\Rep K A H w v/\ai K A H a r
end
section
variable{K:Frag}{A B:Addr->Prop}{H H':Hp}
theorem aq.rd{p:Addr}{u:HO}(s:aq H H')(h:Rd H p u):Rd H' p u:=by
 rcases h with h|⟨o,h⟩
 ·exact .inl (s _ _ h)
 ·exact .inr ⟨o,s _ _ h⟩
noncomputable def wm(B:Addr->Prop)(H H':Hp):Prop:=∀p o,H p=some o->(C4 o=true/\B p)\/H' p=some o
theorem wm.un{p:Addr}{o:HO}(h:wm A H H')(e:H p=some o)(n:C4 o=true->¬A p):H' p=some o:=by
 rcases h p o e with⟨z,y⟩|z
 ·exact(n z y).elim
 ·exact z
mutual
theorem Rep.chg(h:wm A H H')(d:∀p o,H p=some o->B p->A p):∀(w:W){v:V},Rep K A H w v->Rep K B H' w v
 |.aS,_,r=>by rw[Rep]at r⊢;exact r
 |.bl _,_,r=>by rw[Rep]at r⊢;exact r
 |.int _,_,r=>by rw[Rep]at r⊢;exact r
 |.str _,_,r=>by rw[Rep]at r⊢;exact r
 |.ty _,_,r=>by rw[Rep]at r⊢;exact r
 |.cls _,_,r=>by rw[Rep]at r⊢;exact r
 |.err C,v,r=>by rw[Rep]at r⊢;obtain⟨a,e,b,c⟩:=r;exact⟨a,e,h.un b (λz=>by cases z),λz=>c (d a _ b z)⟩
 |.tup l,v,r=>by rw[Rep]at r⊢;obtain⟨p,f,e,b,c⟩:=r;exact⟨p,f,e,h.un b (λz=>by cases z),ai.chg h d l c⟩
 |.lst l,v,r=>by
  rw[Rep]at r⊢;obtain⟨p,f,e,n,b,c⟩:=r;refine⟨p,f,e,λz=>?_,?_,ai.chg h d l c⟩
  ·rcases b with b|⟨o,b⟩<;>exact n (d p _ b z)
  ·rcases b with b|⟨o,b⟩
   ·exact .inl (h.un b λ_=>n)
   ·exact .inr ⟨o,h.un b λz=>by cases z⟩
 |.dct s g,v,r=>by rw[Rep]at r⊢;obtain⟨p,i,e,n,b,c,j⟩:=r;exact⟨p,i,e,λz=>n (d p _ b z),h.un b λ_=>n,c,ai.chg h d g j⟩
 |.obj C t g,v,r=>by rw[Rep]at r⊢;obtain⟨p,m,f,e,n,b,c,k,j⟩:=r;exact⟨p,m,f,e,λz=>n (d p _ b z),h.un b λ_=>n,c,k,ai.chg h d g j⟩
 |.gx q,v,r=>by rw[Rep]at r⊢;obtain⟨p,e,b⟩:=r;exact⟨p,e,b.imp (by rintro⟨o,z⟩;exact⟨o,h.un z λz=>by cases z⟩) id⟩
theorem ai.chg(h:wm A H H')(a:∀p o,H p=some o->B p->A p):∀(l:List W){vs:List V},ai K A H l vs->ai K B H' l vs
 |[],_,r=>by rw[ai]at r⊢;exact r
 |w::l,vs,r=>by rw[ai]at r⊢;obtain⟨v,b,e,d,c⟩:=r;exact⟨v,b,e,Rep.chg h a w d,ai.chg h a l c⟩
end
theorem wm.same(s:aq H H'):wm A H H':=λ_ _ e=>.inr (s _ _ e)
theorem wm.put{p:Addr}{a o:HO}(b:H p=some a)(c:C4 a=true)(d:A p):wm A H (upd H p o):=λq u e=>by
 by_cases n:q=p
 ·subst n;rw[b]at e;cases e;exact .inl ⟨c,d⟩
 ·exact .inr (by rw[ah n];exact e)
theorem Rep.mv(s:aq H H')(a:∀p o,H p=some o->B p->A p)(w:W){v:V}(h:Rep K A H w v):Rep K B H' w v:=Rep.chg (.same s) a w h
theorem ai.mv(s:aq H H')(a:∀p o,H p=some o->B p->A p)(l:List W){vs:List V}(h:ai K A H l vs):ai K B H' l vs:=ai.chg (.same s) a l h
theorem Rep.same{w:W}{v:V}(s:aq H H')(h:Rep K A H w v):Rep K A H' w v:=Rep.mv s (λ_ _ _ z=>z) w h
theorem ai.same{l:List W}{vs:List V}(s:aq H H')(h:ai K A H l vs):ai K A H' l vs:=ai.mv s (λ_ _ _ z=>z) l h
theorem Rep.less{w:W}{v:V}(a:∀p,B p->A p)(h:Rep K A H w v):Rep K B H w v:=Rep.mv (aq.refl H) (λp _ _ z=>a p z) w h
theorem ai.less{l:List W}{vs:List V}(a:∀p,B p->A p)(h:ai K A H l vs):ai K B H l vs:=ai.mv (aq.refl H) (λp _ _ z=>a p z) l h
theorem ai.put{p:Addr}{a:List V}{o:HO}(b:H p=some (.lst a))(c:A p)(l:List W){vs:List V}(h:ai K A H l vs):ai K A (upd H p o) l vs:=ai.chg (.put b rfl c) (λ_ _ _ z=>z) l h
theorem ai.nil:ai K A H [] []:=by rw[ai]
theorem ai.cons{w:W}{v:V}{l:List W}{vs:List V}(b:Rep K A H w v)(a:ai K A H l vs):ai K A H (w::l) (v::vs):=by rw[ai];exact⟨v,vs,rfl,b,a⟩
theorem ai.nil_inv{vs:List V}(h:ai K A H [] vs):vs=[]:=by rw[ai]at h;exact h
theorem ai.cons_inv{w:W}{l:List W}{vs:List V}(h:ai K A H (w::l) vs):∃v r,vs=v::r/\Rep K A H w v/\ai K A H l r:=by rw[ai]at h;exact h
theorem ai.len:∀{l:List W}{vs:List V},ai K A H l vs->vs.length=l.length
 |[],vs,h=>by rw[h.nil_inv];rfl
 |w::l,vs,h=>by obtain⟨v,r,rfl,_,a⟩:=h.cons_inv;rw[List.length_cons,List.length_cons,a.len]
theorem ai.app:∀{l m:List W}{vs us:List V},ai K A H l vs->ai K A H m us->ai K A H (l++m) (vs++us)
 |[],m,vs,us,h,k=>by rw[h.nil_inv];exact k
 |w::l,m,vs,us,h,k=>by obtain⟨v,r,rfl,b,a⟩:=h.cons_inv;exact .cons b (a.app k)
theorem ai.get:∀{l:List W}{vs:List V}{i:Nat}{w:W},ai K A H l vs->l[i]?=some w->∃v,vs[i]?=some v/\Rep K A H w v
 |[],_,_,_,_,e=>by simp at e
 |x::l,vs,0,w,h,e=>by obtain⟨v,r,rfl,b,a⟩:=h.cons_inv;simp at e;subst e;exact⟨v,rfl,b⟩
 |x::l,vs,i+1,w,h,e=>by obtain⟨v,r,rfl,b,a⟩:=h.cons_inv;obtain⟨u,d,c⟩:=a.get (i:=i) (by simpa using e);exact⟨u,by simpa using d,c⟩
theorem ai.set:∀{l:List W}{vs:List V}{i:Nat}{w:W}{v:V},ai K A H l vs->Rep K A H w v->ai K A H (l.set i w) (vs.set i v)
 |[],_,_,_,_,h,_=>by rw[h.nil_inv];exact .nil
 |x::l,vs,0,w,v,h,e=>by obtain⟨c,r,rfl,b,a⟩:=h.cons_inv;exact .cons e a
 |x::l,vs,i+1,w,v,h,e=>by obtain⟨c,r,rfl,b,a⟩:=h.cons_inv;exact .cons b (a.set e)
theorem ai.take:∀{l:List W}{vs:List V}(n:Nat),ai K A H l vs->ai K A H (l.take n) (vs.take n)
 |_,_,0,_=>.nil
 |[],vs,n+1,h=>by rw[h.nil_inv];exact .nil
 |x::l,vs,n+1,h=>by obtain⟨c,r,rfl,b,a⟩:=h.cons_inv;exact .cons b (a.take n)
theorem ai.drop:∀{l:List W}{vs:List V}(n:Nat),ai K A H l vs->ai K A H (l.drop n) (vs.drop n)
 |_,_,0,h=>h
 |[],vs,n+1,h=>by rw[h.nil_inv];exact .nil
 |x::l,vs,n+1,h=>by obtain⟨b,r,rfl,c,a⟩:=h.cons_inv;exact a.drop n
theorem ai.dropLast{l:List W}{vs:List V}(h:ai K A H l vs):ai K A H l.dropLast vs.dropLast:=by rw[List.dropLast_eq_take,List.dropLast_eq_take,h.len];exact h.take _
theorem ai.rev:∀{l:List W}{vs:List V},ai K A H l vs->ai K A H l.reverse vs.reverse
 |[],vs,h=>by rw[h.nil_inv];exact .nil
 |x::l,vs,h=>by obtain⟨c,r,rfl,b,a⟩:=h.cons_inv;rw[dA,dA];exact a.rev.app (.cons b .nil)
theorem ai.rep{l:List W}{vs:List V}(h:ai K A H l vs):∀n:Nat,ai K A H (List.replicate n l).flatten (List.replicate n vs).flatten
 |0=>.nil
 |n+1=>by rw[List.replicate_succ,List.replicate_succ,List.flatten_cons,List.flatten_cons];exact h.app (h.rep n)
theorem ai.ints{ns:List Int}:∀{vs:List V},ai K A H (ns.map W.int) vs->vs=ns.map V.int:=by
 induction ns with
 |nil=>intro vs h;exact h.nil_inv
 |cons n ns b=>intro vs h;obtain⟨v,r,rfl,a,c⟩:=h.cons_inv;rw[Rep]at a;rw[a,b c];rfl
theorem ai.Jm(ns:List Int):ai K A H (ns.map W.int) (ns.map V.int):=by
 induction ns with
 |nil=>exact .nil
 |cons n ns a=>exact .cons (by rw[Rep]) a
theorem ai.ZC{bs:List Bool}:∀{vs:List V},ai K A H (bs.map W.bl) vs->vs=bs.map V.bl:=by
 induction bs with
 |nil=>intro vs h;exact h.nil_inv
 |cons n d b=>intro vs h;obtain⟨v,r,rfl,a,c⟩:=h.cons_inv;rw[Rep]at a;rw[a,b c];rfl
end
end VL
namespace VL
open PySem PySem.Spec
open PyProof.Rows hiding St
open L2
inductive Md where
 |s|f|t (ms:List Md)|o (fs:List Str) (ms:List Md)
 |io (m:Md)
 |ls (m:Md)
noncomputable def e9(P:W->V->List Addr->Prop):List W->List V->List Addr->Prop
 |[],vs,F=>vs=[]/\F=[]
 |w::d,vs,F=>∃v a c b,vs=v::a/\F=c++b/\P w v c/\e9 P d a b
mutual
noncomputable def Fp(K:Frag)(B:Addr->Prop)(H:Hp):Md->W->V->List Addr->Prop
 |.s,w,v,F=>F=[]/\Rep K B H w v
 |.f,w,v,F=>∃a p vs,w=.lst a/\v=.ref p/\F=[p]/\H p=some (.lst vs)/\ai K B H a vs
 |.t c,w,v,F=>∃a p vs,w=.tup a/\v=.ref p/\H p=some (.tup vs)/\dO K B H c a vs F
 |.o b c,w,v,F=>∃C d a p vs F',w=.obj C b a/\v=.ref p/\F=p::F'/\H p=some (.ins C d (b.zip vs))/\vs.length=b.length/\zP K C b/\dO K B H c a vs F'
 |.io _,_,_,_=>False
 |.ls m,w,v,F=>∃a p vs F',w=.lst a/\v=.ref p/\F=p::F'/\H p=some (.lst vs)/\e9 (Fp K B H m) a vs F'
noncomputable def dO(K:Frag)(B:Addr->Prop)(H:Hp):List Md->List W->List V->List Addr->Prop
 |[],b,vs,F=>b=[]/\vs=[]/\F=[]
 |m::f,b,vs,F=>∃w c v a e d,b=w::c/\vs=v::a/\F=e++d/\Fp K B H m w v e/\dO K B H f c a d
end
theorem e9.mono{P Q:W->V->List Addr->Prop}:∀{a:List W}{vs:List V}{F:List Addr},(∀w v F',(∀p∈F',p∈F)->P w v F'->Q w v F')->e9 P a vs F->e9 Q a vs F
 |[],_,_,_,h=>h
 |w::a,vs,F,k,⟨v,b,e,j,i,d,g,f⟩=>⟨v,b,e,j,i,d,k w v e (λp c=>by rw[d];exact RF _ c) g,e9.mono (λw v F' h=>k w v F' λp c=>by rw[d];exact Gc _ (h p c)) f⟩
theorem e9.len{P:W->V->List Addr->Prop}:∀{a:List W}{vs:List V}{F:List Addr},e9 P a vs F->vs.length=a.length
 |[],_,_,h=>by rw[h.1];rfl
 |w::a,vs,F,⟨v,b,i,g,d,f,e,c⟩=>by rw[d,List.length_cons,List.length_cons,e9.len c]
theorem e9.app{P:W->V->List Addr->Prop}:∀{b us:List W}{vs a:List V}{F G:List Addr},e9 P b vs F->e9 P us a G->e9 P (b++us) (vs++a) (F++G)
 |[],us,vs,a,F,G,⟨e,d⟩,k=>by rw[e,d];exact k
 |w::b,us,vs,a,F,G,⟨v,c,i,h,e,d,g,f⟩,k=>⟨v,c++a,i,h++G,by rw[e];rfl,by rw[d,Kx],g,e9.app f k⟩
noncomputable def qg(B G:Addr->Prop)(H H':Hp):Prop:=∀p o,H p=some o->(C4 o=true/\B p/\¬G p)\/H' p=some o
section
variable{K:Frag}{A B G:Addr->Prop}{H H':Hp}
theorem qg.c(h:qg A G H H'):wm A H H':=λp o e=>(h p o e).imp (λz=>⟨z.1,z.2.1⟩) id
theorem qg.un{p:Addr}{o:HO}(h:qg A G H H')(e:H p=some o)(g:C4 o=true->G p):H' p=some o:=by
 rcases h p o e with⟨z,_,y⟩|z
 ·exact(y (g z)).elim
 ·exact z
mutual
theorem Fp.chg(h:qg A G H H')(k:∀p o,H p=some o->B p->A p):∀(m:Md){w:W}{v:V}{F:List Addr},(∀p∈F,G p)->Fp K A H m w v F->Fp K B H' m w v F
 |.s,w,v,F,a,r=>by rw[Fp]at r⊢;exact⟨r.1,Rep.chg h.c k w r.2⟩
 |.f,w,v,F,a,r=>by rw[Fp]at r⊢;obtain⟨d,p,vs,j,i,b,g,e⟩:=r;exact⟨d,p,vs,j,i,b,h.un g (λ_=>a p (by rw[b];exact FK)),ai.chg h.c k d e⟩
 |.t l,w,v,F,a,r=>by rw[Fp]at r⊢;obtain⟨d,p,vs,j,i,g,e⟩:=r;exact⟨d,p,vs,j,i,h.un g (λz=>by cases z),dO.chg h k l a e⟩
 |.o I l,w,v,F,a,r=>by rw[Fp]at r⊢;obtain⟨C,E,d,p,vs,u,j,i,b,g,e,x,D⟩:=r;exact⟨C,E,d,p,vs,u,j,i,b,h.un g (λ_=>a p (by rw[b];exact FK)),e,x,dO.chg h k l (λq n=>a q (by rw[b];exact DL _ n)) D⟩
 |.io _,w,v,F,a,r=>by rw[Fp]at r;exact r.elim
 |.ls m,w,v,F,a,r=>by rw[Fp]at r⊢;obtain⟨d,p,vs,u,j,i,b,g,e⟩:=r;exact⟨d,p,vs,u,j,i,b,h.un g (λ_=>a p (by rw[b];exact FK)),e.mono λw v G y z=>Fp.chg h k m (λq n=>a q (by rw[b];exact DL _ (y q n))) z⟩
theorem dO.chg(h:qg A G H H')(f:∀p o,H p=some o->B p->A p):∀(a:List Md){b:List W}{vs:List V}{F:List Addr},(∀p∈F,G p)->dO K A H a b vs F->dO K B H' a b vs F
 |[],_,_,_,_,r=>by rw[dO]at r⊢;exact r
 |m::a,b,vs,F,g,r=>by rw[dO]at r⊢;obtain⟨w,i,v,c,s,q,n,l,e,k,j⟩:=r;exact⟨w,i,v,c,s,q,n,l,e,Fp.chg h f m (λp d=>g p (by rw[e];exact RF _ d)) k,dO.chg h f a (λp d=>g p (by rw[e];exact Gc _ d)) j⟩
end
theorem qg.same(s:aq H H'):qg A (λ_=>True) H H':=λ_ _ e=>.inr (s _ _ e)
theorem Fp.mv(s:aq H H')(a:∀p o,H p=some o->B p->A p)(m:Md){w:W}{v:V}{F:List Addr}(h:Fp K A H m w v F):Fp K B H' m w v F:=Fp.chg (.same s) a m (λ_ _=>trivial) h
theorem dO.mv(s:aq H H')(b:∀p o,H p=some o->B p->A p)(a:List Md){w:List W}{v:List V}{F:List Addr}(h:dO K A H a w v F):dO K B H' a w v F:=dO.chg (.same s) b a (λ_ _=>trivial) h
mutual
theorem Fp.rep(i:∀p,B p->A p):∀(m:Md){w:W}{v:V}{F:List Addr},(∀p∈F,¬B p)->Fp K A H m w v F->Rep K B H w v
 |.s,w,v,F,a,h=>by rw[Fp]at h;exact h.2.less i
 |.f,w,v,F,a,h=>by rw[Fp]at h;obtain⟨b,p,vs,rfl,rfl,rfl,d,c⟩:=h;rw[Rep];exact⟨p,vs,rfl,a p (GM.mpr rfl),.inl d,c.less i⟩
 |.t k,w,v,F,a,h=>by rw[Fp]at h;obtain⟨b,p,vs,rfl,rfl,d,c⟩:=h;rw[Rep];exact⟨p,vs,rfl,d,dO.rep i k a c⟩
 |.o z k,w,v,F,a,h=>by rw[Fp]at h;obtain⟨C,x,b,p,vs,g,rfl,rfl,rfl,d,c,n,r⟩:=h;rw[Rep];exact⟨p,x,vs,rfl,a p FK,d,c,n,dO.rep i k (λq e=>a q (DL _ e)) r⟩
 |.io _,w,v,F,a,h=>by rw[Fp]at h;exact h.elim
 |.ls m,w,v,F,a,h=>by
  rw[Fp]at h;obtain⟨b,p,vs,g,rfl,rfl,rfl,d,c⟩:=h;rw[Rep];have u:∀(b:List W)(vs:List V)(g:List Addr),(∀q∈g,¬B q)->e9 (Fp K A H m) b vs g->ai K B H b vs:=λb=>by
   induction b with
   |nil=>rintro vs g _ ⟨rfl,_⟩;exact .nil
   |cons w b l=>rintro vs g a ⟨v,j,D,y,rfl,rfl,d,c⟩;exact .cons (Fp.rep i m (λq e=>a q (RF _ e)) d) (l j y (λq e=>a q (Gc _ e)) c)
  exact⟨p,vs,rfl,a p FK,.inl d,u b vs g (λq e=>a q (DL _ e)) c⟩
theorem dO.rep(e:∀p,B p->A p):∀(b:List Md){a:List W}{vs:List V}{F:List Addr},(∀p∈F,¬B p)->dO K A H b a vs F->ai K B H a vs
 |[],_,_,_,_,h=>by rw[dO]at h;obtain⟨rfl,rfl,_⟩:=h;exact .nil
 |m::b,a,vs,F,d,h=>by rw[dO]at h;obtain⟨w,j,v,f,l,k,rfl,rfl,rfl,i,g⟩:=h;exact .cons (Fp.rep e m (λp c=>d p (RF _ c)) i) (dO.rep e b (λp c=>d p (Gc _ c)) g)
end
mutual
theorem Fp.mu:∀(m:Md){w:W}{v:V}{F:List Addr},Fp K A H m w v F->∀p∈F,∃o,H p=some o/\C4 o=true
 |.s,w,v,F,h,p,a=>by rw[Fp]at h;rw[h.1]at a;cases a
 |.f,w,v,F,h,p,a=>by rw[Fp]at h;obtain⟨b,q,vs,_,_,rfl,c,_⟩:=h;rw[GM.mp a];exact⟨_,c,rfl⟩
 |.t g,w,v,F,h,p,a=>by rw[Fp]at h;obtain⟨b,q,vs,_,_,c,j⟩:=h;exact dO.mu g j p a
 |.o r g,w,v,F,h,p,a=>by
  rw[Fp]at h;obtain⟨C,u,b,q,vs,d,_,_,rfl,c,_,_,i⟩:=h;rcases Fk.mp a with rfl|a
  ·exact⟨_,c,rfl⟩
  ·exact dO.mu g i p a
 |.io _,w,v,F,h,p,a=>by rw[Fp]at h;exact h.elim
 |.ls m,w,v,F,h,p,a=>by
  rw[Fp]at h;obtain⟨b,q,vs,d,_,_,rfl,c,i⟩:=h;have l:∀(b:List W)(vs:List V)(d:List Addr),e9 (Fp K A H m) b vs d->∀p∈d,∃o,H p=some o/\C4 o=true:=λb=>by
   induction b with
   |nil=>rintro vs d ⟨_,rfl⟩ p a;cases a
   |cons w b k=>
    rintro vs d ⟨v,e,x,n,rfl,rfl,c,j⟩ p a;rcases Fs.mp a with a|a
    ·exact Fp.mu m c p a
    ·exact k e n j p a
  rcases Fk.mp a with rfl|a
  ·exact⟨_,c,rfl⟩
  ·exact l b vs d i p a
theorem dO.mu:∀(b:List Md){c:List W}{vs:List V}{F:List Addr},dO K A H b c vs F->∀p∈F,∃o,H p=some o/\C4 o=true
 |[],_,_,_,h,p,a=>by rw[dO]at h;rw[h.2.2]at a;cases a
 |m::b,c,vs,F,h,p,a=>by
  rw[dO]at h;obtain⟨w,g,v,d,j,i,_,_,rfl,f,e⟩:=h;rcases Fs.mp a with a|a
  ·exact Fp.mu m f p a
  ·exact dO.mu b e p a
end
inductive kM where
 |ix (n:Nat)|fl (n:Nat) (x:Str)
noncomputable def bF:W->List kM->Option W
 |w,[]=>some w
 |.tup l,.ix n::π=>match l[n]? with
  |some u=>bF u π
  |none=>none
 |.lst l,.ix n::π=>match l[n]? with
  |some u=>bF u π
  |none=>none
 |.obj _ _ l,.fl n _::π=>match l[n]? with
  |some u=>bF u π
  |none=>none
 |_,_=>none
noncomputable def setAt:W->List kM->W->W
 |_,[],u=>u
 |.tup l,.ix n::π,u=>match l[n]? with
  |some x=>.tup (l.set n (setAt x π u))
  |none=>.tup l
 |.lst l,.ix n::π,u=>match l[n]? with
  |some x=>.lst (l.set n (setAt x π u))
  |none=>.lst l
 |.obj C a l,.fl n _::π,u=>match l[n]? with
  |some x=>.obj C a (l.set n (setAt x π u))
  |none=>.obj C a l
 |w,_,_=>w
noncomputable def iT:Md->List kM->Option Md
 |m,[]=>some m
 |.t a,.ix n::π=>match a[n]? with
  |some m=>iT m π
  |none=>none
 |.o b a,.fl n x::π=>if b[n]?=some x then(match a[n]? with
  |some m=>iT m π
  |none=>none)else none
 |.ls m,.ix _::π=>iT m π
 |_,_=>none
noncomputable def wu(K:Frag)(H:Hp):V->List kM->V->Prop
 |v,[],u=>u=v
 |v,.ix n::π,u=>∃p vs x,v=.ref p/\(H p=some (.tup vs)\/H p=some (.lst vs))/\vs[n]?=some x/\wu K H x π u
 |v,.fl n f::π,u=>∃p vs x,v=.ref p/\(∃(C b:Addr)(a:List Str),H p=some (.ins C b (a.zip vs))/\vs.length=a.length/\zP K C a/\a[n]?=some f)/\vs[n]?=some x/\wu K H x π u
theorem lU{α:Type}:∀{l:List α}{n:Nat}{x:α},l[n]?=some x->l.set n x=l
 |[],_,_,e=>by cases e
 |y::l,0,x,e=>by cases e;rfl
 |y::l,n+1,x,e=>by rw[List.set_cons_succ,lU (by simpa using e)]
theorem dO.at:∀(j:List Md){l:List W}{vs:List V}{F:List Addr}{n:Nat}{m:Md}{w:W},dO K A H j l vs F->j[n]?=some m->l[n]?=some w->
 ∃v d F' k,vs[n]?=some v/\F=d++F'++k/\Fp K A H m w v F'/\∀(H':Hp)(B:Addr->Prop) w' g i,Fp K B H' m w' g i->qg A (·∈d++k) H H'->(∀p o,H p=some o->B p->A p)->dO K B H' j (l.set n w') (vs.set n g) (d++i++k)
 |[],_,_,_,n,m,w,_,e,_=>by cases e
 |m0::j,l,vs,F,0,m,w,h,E,D=>by rw[dO]at h;obtain⟨I,s,v,f,d,k,rfl,rfl,rfl,y,x⟩:=h;cases E;cases D;refine⟨v,[],d,k,rfl,by simp,y,λH' B w' g i C q r=>?_⟩;rw[dO];exact⟨w',s,g,f,i,k,rfl,rfl,by simp,C,dO.chg q r j (λp t=>by simpa using t) x⟩
 |m0::j,l,vs,F,n+1,m,w,h,E,D=>by rw[dO]at h;obtain⟨I,s,v,f,d,k,rfl,rfl,rfl,y,x⟩:=h;obtain⟨u,L,P,J,O,rfl,N,M⟩:=dO.at j x (n:=n) (by simpa using E) (by simpa using D);refine⟨u,d++L,P,J,by simpa using O,by simp,N,λH' B w' g i C q r=>?_⟩;rw[dO];refine⟨I,s.set n w',v,f.set n g,d,L++i++J,rfl,rfl,by simp,Fp.chg q r m0 (λp t=>by simp[t]) y,M H' B w' g i C (λp o e=>(q p o e).imp (λ⟨a,b,c⟩=>⟨a,b,λz=>c ?_⟩) id) r⟩;rcases Fs.mp z with z|z<;>simp[z]
theorem e9.at{m:Md}:∀{q:List W}{vs:List V}{F:List Addr}{n:Nat}{w:W},e9 (Fp K A H m) q vs F->q[n]?=some w->
 ∃v d F' j,vs[n]?=some v/\F=d++F'++j/\Fp K A H m w v F'/\∀(H':Hp)(B:Addr->Prop) w' g i,Fp K B H' m w' g i->qg A (·∈d++j) H H'->(∀p o,H p=some o->B p->A p)->e9 (Fp K B H' m) (q.set n w') (vs.set n g) (d++i++j)
 |[],_,_,n,w,_,e=>by cases e
 |w0::L,vs,F,0,w,h,y=>by obtain⟨v,f,d,j,rfl,rfl,t,s⟩:=h;cases y;refine⟨v,[],d,j,rfl,by simp,t,λH' B w' g i x k l=>?_⟩;exact⟨g,f,i,j,rfl,by simp,x,s.mono λw v G M z=>Fp.chg k l m (λp r=>by simpa using M p r) z⟩
 |w0::L,vs,F,n+1,w,h,y=>by obtain⟨v,f,d,j,rfl,rfl,t,s⟩:=h;obtain⟨u,D,N,C,J,rfl,I,E⟩:=e9.at s (n:=n) (by simpa using y);refine⟨u,d++D,N,C,by simpa using J,by simp,I,λH' B w' g i x k l=>?_⟩;refine⟨v,f.set n g,d,D++i++C,rfl,by simp,Fp.chg k l m (λp r=>by simp[r]) t,E H' B w' g i x (λp o e=>(k p o e).imp (λ⟨a,b,c⟩=>⟨a,b,λz=>c ?_⟩) id) l⟩;rcases Fs.mp z with z|z<;>simp[z]
noncomputable def ZD(K:Frag)(A:Addr->Prop)(H:Hp)(m:Md)(w:W)(v:V)(F:List Addr)(π:List kM)(f:Md)(w':W):Prop:=
 ∃b d g c,F=d++g++c/\wu K H v π b/\Fp K A H f w' b g/\∀(H':Hp)(B:Addr->Prop) a e,Fp K B H' f a b e->qg A (·∈d++c) H H'->(∀p o,H p=some o->B p->A p)->Fp K B H' m (setAt w π a) v (d++e++c)
theorem Fp.path:∀(π:List kM)(m:Md){w:W}{v:V}{F:List Addr}{k:Md}{w':W},Fp K A H m w v F->iT m π=some k->bF w π=some w'->ZD K A H m w v F π k w'
 |[],m,w,v,F,k,w',h,d,g=>by rw[iT]at d;rw[bF]at g;cases d;cases g;refine⟨v,[],F,[],by simp,rfl,h,λH' B j u h' _ _=>?_⟩;rw[setAt];simpa using h'
 |n::π,.s,w,v,F,k,w',h,d,g=>by cases n<;>exact nn d
 |n::π,.f,w,v,F,k,w',h,d,g=>by cases n<;>exact nn d
 |n::π,.io _,w,v,F,k,w',h,d,g=>by cases n<;>exact nn d
 |.fl n _::π,.t x,w,v,F,k,w',h,d,g=>by cases d
 |.fl n _::π,.ls x,w,v,F,k,w',h,d,g=>by cases d
 |.ix n::π,.ls U,w,v,F,k,w',h,d,g=>by
  rw[Fp]at h;obtain⟨N,p,vs,F0,rfl,rfl,rfl,D,Y⟩:=h;rw[iT]at d;rw[bF]at g;cases i:N[n]? with
  |none=>rw[i]at g;exact nn g
  |some w1=>rw[i]at g;obtain⟨q,M,F',L,r,rfl,T,S⟩:=e9.at Y i;obtain⟨O,J,Z,I,rfl,R,Q,P⟩:=Fp.path π U T d g;refine⟨O,p::M++J,Z,I++L,by simp,⟨p,vs,q,rfl,.inr D,r,R⟩,Q,λH' B j u h' l y=>?_⟩;rw[setAt,i,Fp];have a:=S H' B _ q _ (P H' B j u h' (λp o e=>(l p o e).imp (by rintro⟨a,b,c⟩;exact⟨a,b,λz=>c (by rcases Fs.mp z with z|z<;>simp[z])⟩) id) y) (λp o e=>(l p o e).imp (by rintro⟨a,b,c⟩;exact⟨a,b,λz=>c (by rcases Fs.mp z with z|z<;>simp[z])⟩) id) y;rw[lU r]at a;exact⟨_,p,vs,M++(J++u++I)++L,rfl,rfl,by simp,l.un D (λ_=>by simp),a⟩
 |.ix n::π,.o fs x,w,v,F,k,w',h,d,g=>by cases d
 |.ix n::π,.t x,w,v,F,k,w',h,d,g=>by
  rw[Fp]at h;obtain⟨N,p,vs,rfl,rfl,D,Y⟩:=h;rw[iT]at d;rw[bF]at g;cases E:x[n]? with
  |none=>rw[E]at d;exact nn d
  |some U=>
   cases i:N[n]? with
   |none=>rw[i]at g;exact nn g
   |some w1=>rw[E]at d;rw[i]at g;obtain⟨q,M,F',L,r,rfl,T,S⟩:=dO.at x Y E i;obtain⟨O,J,Z,I,rfl,R,Q,P⟩:=Fp.path π U T d g;refine⟨O,M++J,Z,I++L,by simp,⟨p,vs,q,rfl,.inl D,r,R⟩,Q,λH' B j u h' l y=>?_⟩;rw[setAt,i,Fp];have a:=S H' B _ q _ (P H' B j u h' (λp o e=>(l p o e).imp (by rintro⟨a,b,c⟩;exact⟨a,b,λz=>c (by rcases Fs.mp z with z|z<;>simp[z])⟩) id) y) (λp o e=>(l p o e).imp (by rintro⟨a,b,c⟩;exact⟨a,b,λz=>c (by rcases Fs.mp z with z|z<;>simp[z])⟩) id) y;rw[lU r]at a;refine⟨_,p,vs,rfl,rfl,l.un D (λz=>by cases z),?_⟩;simpa using a
 |.fl n f::π,.o fs x,w,v,F,k,w',h,d,g=>by
  rw[Fp]at h;obtain⟨C,dx,N,p,vs,F0,rfl,rfl,rfl,D,hl,X,Y⟩:=h;rw[iT]at d;rw[bF]at g;by_cases hf:fs[n]?=some f;rotate_left
  ·rw[BM hf]at d;cases d
  rw[Bz hf]at d;cases E:x[n]? with
  |none=>rw[E]at d;exact nn d
  |some U=>
   cases i:N[n]? with
   |none=>rw[i]at g;exact nn g
   |some w1=>rw[E]at d;rw[i]at g;obtain⟨q,M,F',L,r,rfl,T,S⟩:=dO.at x Y E i;obtain⟨O,J,Z,I,rfl,R,Q,P⟩:=Fp.path π U T d g;refine⟨O,p::M++J,Z,I++L,by simp,⟨p,vs,q,rfl,⟨C,dx,fs,D,hl,X,hf⟩,r,R⟩,Q,λH' B j u h' l y=>?_⟩;rw[setAt,i,Fp];have a:=S H' B _ q _ (P H' B j u h' (λp o e=>(l p o e).imp (by rintro⟨a,b,c⟩;exact⟨a,b,λz=>c (by rcases Fs.mp z with z|z<;>simp[z])⟩) id) y) (λp o e=>(l p o e).imp (by rintro⟨a,b,c⟩;exact⟨a,b,λz=>c (by rcases Fs.mp z with z|z<;>simp[z])⟩) id) y;rw[lU r]at a;refine⟨C,dx,_,p,vs,M++(J++u++I)++L,rfl,rfl,by simp,l.un D (λ_=>by simp),hl,X,a⟩
end
noncomputable def dU(K:Frag)(A:Addr->Prop)(H H':Hp)(m:Md)(w:W)(v:V):Prop:=
 ∃F:List Addr,F.Nodup/\(∀p∈F,H p=none)/\Fp K (λq=>A q\/q∈F) H' m w v F
noncomputable def Dom(A:Addr->Prop)(H:Hp):Prop:=∀p,A p->∃o,H p=some o
theorem Dom.no{A:Addr->Prop}{H:Hp}(d:Dom A H){p:Addr}(h:H p=none):¬A p:=λz=>by obtain⟨o,e⟩:=d p z;rw[h]at e;cases e
theorem Dom.same{A:Addr->Prop}{H H':Hp}(d:Dom A H)(s:aq H H'):Dom A H':=λp z=>by obtain⟨o,e⟩:=d p z;exact⟨o,s _ _ e⟩
section
variable{K:Frag}{A B:Addr->Prop}{H H':Hp}{m:Md}{w:W}{v:V}
theorem dU.rep(d:Dom A H)(h:dU K A H H' m w v):Rep K A H' w v:=by obtain⟨F,c,a,h⟩:=h;exact Fp.rep (λp z=>.inl z) m (λp b=>d.no (a p b)) h
theorem dU.of(h:Rep K A H' w v):dU K A H H' .s w v:=⟨[],ik,by simp,by rw[Fp];exact⟨rfl,h.less λp z=>by simpa using z⟩⟩
theorem dU.s(d:Dom A H)(h:dU K A H H' m w v):dU K A H H' .s w v:=.of (h.rep d)
theorem dU.new{a:List W}{p:Addr}{vs:List V}(b:H p=none)(d:H' p=some (.lst vs))(e:ai K A H' a vs)(c:ai K (λq=>A q\/q=p) H' a vs):dU K A H H' .f (.lst a) (.ref p):=
 ⟨[p],(by simp),(by simpa using b),by rw[Fp];exact⟨a,p,vs,rfl,rfl,rfl,d,c.less λq z=>by simpa using z⟩⟩
theorem dU.fresh{a:List W}{p:Addr}{vs:List V}{H1:Hp}(s:aq H H1)(b:H1 p=none)(h:ai K A H1 a vs):dU K A H (upd H1 p (.lst vs)) .f (.lst a) (.ref p):=by
 have sm:=aG b (.lst vs);refine .new (s.free b) ao (h.same sm) (ai.mv sm (λq o z y=>?_) a h);rcases y with y|y
 ·exact y
 ·rw[y,b]at z;cases z
theorem dU.S9(h:dU K A H H' .f w v):∃a p vs,w=.lst a/\v=.ref p/\H p=none/\H' p=some (.lst vs)/\ai K (λq=>A q\/q=p) H' a vs:=by obtain⟨F,e,b,h⟩:=h;rw[Fp]at h;obtain⟨a,p,vs,rfl,rfl,rfl,d,c⟩:=h;exact⟨a,p,vs,rfl,rfl,b p (GM.mpr rfl),d,c.less λq z=>by simpa using z⟩
theorem dU.back{a:Hp}(s:aq a H)(e:∀p,B p->A p)(h:dU K A H H' m w v):dU K B a H' m w v:=by obtain⟨F,c,b,h⟩:=h;exact⟨F,c,λp d=>s.free (b p d),Fp.mv (aq.refl _) (λp o _ z=>z.imp (e p) id) m h⟩
end
abbrev Ev:=List (Option W)
noncomputable def look:Ev->Nat->Option W
 |[],_=>none
 |x::_,0=>x
 |_::l,n+1=>look l n
theorem bu:∀{a:Ev}{i:Nat}{w:W},look a i=some w↔a[i]?=some (some w)
 |[],i,w=>by simp[look]
 |x::l,0,w=>by simp[look]
 |x::l,i+1,w=>by rw[look,bu];simp
abbrev Ms:=List (Nat×Md)
noncomputable def aU(M:Ms)(i:Nat):Prop:=∃m,(i,m)∈M
structure Fz where
 ab:Addr->Prop
 B:Addr->Prop
 s0:Option V
abbrev FB(A:Fz)(M:Ms)(σ:St):Addr->Prop:=A.B
structure Rm(K:Frag)(M:Ms)(A:Fz)(H0:Hp)(σ:St)(H:Hp)(ε:Ev)(F:Nat->List Addr):Prop where
 un:∀i m m',(i,m)∈M->(i,m')∈M->m=m'
 val:∀i m w,(i,m)∈M->look ε i=some w->∃v,σ[i]?=some (some v)/\Fp K A.B H m w v (F i)
 emp:∀i,aU M i->look ε i=none->F i=[]
 nd:∀i,aU M i->(F i).Nodup
 ds:∀i j p,aU M i->aU M j->p∈F i->p∈F j->i=j
 nw:∀i p,aU M i->p∈F i->H0 p=none
 na:∀i p,aU M i->p∈F i->¬A.ab p
 all:∀p,A.B p↔A.ab p\/∃i,aU M i/\p∈F i
structure SR(K:Frag)(M:Ms)(A:Fz)(H0:Hp)(σ:St)(H:Hp)(ε:Ev):Prop where
 len:σ.length=ε.length
 sh:∀i w,¬aU M i->look ε i=some w->∃v,σ[i]?=some (some v)/\Rep K A.B H w v
 sm:aq H0 H
 dm:Dom A.ab H
 sl:∀v,A.s0=some v->σ[0]?=some (some v)/\aU M 0
 ow:∃F,Rm K M A H0 σ H ε F
theorem aV{a:Ev}{i j:Nat}{x:Option W}(h:i≠j):look (a.set i x) j=look a j:=by
 cases e:look a j with
 |none=>
  cases b:look (a.set i x) j with
  |none=>rfl
  |some w=>rw[bu,Hn h,←bu,e]at b;cases b
 |some w=>rw[bu,Hn h,←bu];exact e
theorem lV{a:Ev}{i:Nat}{w w':W}(h:look (a.set i (some w)) i=some w'):w'=w:=by
 rw[bu,kb]at h;rw[Bz rfl]at h;split at h
 ·cases h;rfl
 ·cases h
theorem uV{a:Ev}{i:Nat}{w:W}(h:look a i=some w):i<a.length:=by rw[bu]at h;exact(Fu.mp h).1
section
variable{K:Frag}{M M':Ms}{A:Fz}{H0 H H1:Hp}{σ:St}{ε:Ev}{F:Nat->List Addr}
theorem Rm.has(O:Rm K M A H0 σ H ε F){i:Nat}{p:Addr}(c:aU M i)(a:p∈F i):∃o,H p=some o/\C4 o=true:=by
 cases b:look ε i with
 |none=>rw[O.emp i c b]at a;cases a
 |some w=>obtain⟨m,d⟩:=c;obtain⟨v,_,h⟩:=O.val i m w d b;exact Fp.mu m h p a
theorem SR.dom(S:SR K M A H0 σ H ε):Dom A.B H:=λp z=>by
 obtain⟨F,O⟩:=S.ow;rcases(O.all p).mp z with z|⟨i,b,a⟩
 ·exact S.dm p z
 ·obtain⟨o,e,_⟩:=O.has b a;exact⟨o,e⟩
theorem SR.sub'(S:SR K M A H0 σ H ε):∀p,A.ab p->A.B p:=λp z=>by obtain⟨F,O⟩:=S.ow;exact(O.all p).mpr (.inl z)
theorem SR.same(S:SR K M A H0 σ H ε)(s:aq H H1):SR K M A H0 σ H1 ε:=by
 obtain⟨F,O⟩:=S.ow;exact⟨S.len,λi w b e=>let⟨v,h1,h2⟩:=S.sh i w b e;⟨v,h1,h2.same s⟩,S.sm.trans s,S.dm.same s,S.sl,F,
  ⟨O.un,λi m w a e=>let⟨v,h1,h2⟩:=O.val i m w a e;⟨v,h1,Fp.mv s (λ_ _ _ z=>z) m h2⟩,O.emp,O.nd,O.ds,O.nw,O.na,O.all⟩⟩
theorem SR.sub(S:SR K M A H0 σ H ε)(h:∀x∈M',x∈M)(s:Option V)(hz:∀v,s=some v->A.s0=some v/\aU M' 0):∃r,r.ab=A.ab/\r.s0=s/\(∀p,r.B p->A.B p)/\SR K M' r H0 σ H ε:=by
 obtain⟨F,O⟩:=S.ow;have d:∀i,aU M' i->aU M i:=by rintro i ⟨m,f⟩;exact⟨m,h _ f⟩
 have q:∀p,(A.ab p\/∃i,aU M' i/\p∈F i)->A.B p:=λp z=>(O.all p).mpr (z.imp id<|by rintro⟨i,c,n⟩;exact⟨i,d i c,n⟩);refine⟨⟨A.ab,λp=>A.ab p\/∃i,aU M' i/\p∈F i,s⟩,rfl,rfl,q,S.len,λi w t e=>?_,S.sm,S.dm,λv e=>⟨(S.sl v (hz v e).1).1,(hz v e).2⟩,F,⟨λi m u a b=>O.un i m u (h _ a) (h _ b),λi m w f e=>?_,λi c=>O.emp i (d i c),λi c=>O.nd i (d i c),λi j p c o=>O.ds i j p (d i c) (d j o),λi p c=>O.nw i p (d i c),λi p c=>O.na i p (d i c),λp=>Iff.rfl⟩⟩
 ·by_cases c:aU M i
  ·have g:=c;obtain⟨m,f⟩:=c;obtain⟨v,l,k⟩:=O.val i m w f e;refine⟨v,l,Fp.rep q m (λp n z=>?_) k⟩;rcases z with z|⟨j,o,y⟩
   ·exact O.na i p g n z
   ·have:=O.ds i j p g (d j o) n y;subst this;exact t o
  ·obtain⟨v,l,k⟩:=S.sh i w c e;exact⟨v,l,k.less q⟩
 ·obtain⟨v,l,k⟩:=O.val i m w (h _ f) e;exact⟨v,l,Fp.mv (aq.refl _) (λp _ _ z=>q p z) m k⟩
theorem SR.go(S:SR K M A H0 σ H ε):SR K [] ⟨A.ab,A.ab,none⟩ H0 σ H ε:=by
 obtain⟨a,b,c,h,d⟩:=S.sub (M':=[]) (λx f=>by cases f) none (λv e=>by cases e);obtain⟨F,O⟩:=d.ow;have e:∀p,a.B p↔A.ab p:=λp=>by rw[O.all p,b];exact⟨λz=>z.elim id (by rintro⟨i,⟨m,g⟩,_⟩;cases g),.inl⟩
 have:a.B=A.ab:=funext λp=>propext (e p);have:a=⟨A.ab,A.ab,none⟩:=by
  cases a;simp only at b c this;rw[b,this,c]
 rw[←this];exact d
theorem SR.set(S:SR K M A H0 σ H ε){i:Nat}{w:W}{v:V}(g:¬aU M i)(h:Rep K A.B H w v):SR K M A H0 (σ.set i (some v)) H (ε.set i (some w)):=by
 obtain⟨F,O⟩:=S.ow;refine⟨by rw[Pi,Pi];exact S.len,λj f d e=>?_,S.sm,S.dm,λu e=>?_,F,⟨O.un,λj m f k e=>?_,λj d e=>?_,O.nd,O.ds,O.nw,O.na,O.all⟩⟩
 ·by_cases a:i=j
  ·subst a;have l:i<σ.length:=by rw[S.len];have:=uV e;rwa [Pi]at this
   have:=lV e;subst this;exact⟨v,PP l,h⟩
  ·rw[aV a]at e;obtain⟨u,c,b⟩:=S.sh j f d e;exact⟨u,by rw[Hn a];exact c,b⟩
 ·obtain⟨c,b⟩:=S.sl u e;exact⟨by rw[Hn (by rintro rfl;exact g b)];exact c,b⟩
 ·have a:i≠j:=by rintro rfl;exact g ⟨m,k⟩
  rw[aV a]at e;obtain⟨u,c,b⟩:=O.val j m f k e;exact⟨u,by rw[Hn a];exact c,b⟩
 ·have a:i≠j:=by rintro rfl;exact g d
  rw[aV a]at e;exact O.emp j d e
theorem SR.own(S:SR K M' A H0 σ H ε){i:Nat}{m:Md}{w:W}{v:V}(y:∀x,x∈M↔x=(i,m)\/x∈M')(Q:¬aU M' i)(s:aq H H1)(h:dU K A.B H H1 m w v):
 ∃N,N.ab=A.ab/\N.s0=A.s0/\(∀p o,H p=some o->N.B p->A.B p)/\SR K M N H0 (σ.set i (some v)) H1 (ε.set i (some w)):=by
 obtain⟨F,O⟩:=S.ow;obtain⟨G,nd,nw,L⟩:∃G:List Addr,G.Nodup/\(∀p∈G,H p=none)/\(i<ε.length->Fp K (λq=>A.B q\/q∈G) H1 m w v G)/\(ε.length<=i->G=[]):=by
  by_cases g:i<ε.length
  ·obtain⟨G,nd,nw,L⟩:=h;exact⟨G,nd,nw,λ_=>L,λz=>by lia⟩
  ·exact⟨[],ik,by simp,λz=>(g z).elim,λ_=>rfl⟩
 have f:∀j,aU M j↔j=i\/aU M' j:=λj=>by
  constructor
  ·rintro⟨r,R⟩;rcases(y _).mp R with e|e
   ·cases e;exact .inl rfl
   ·exact .inr ⟨r,e⟩
  ·rintro(rfl|⟨r,R⟩)
   ·exact⟨m,(y _).mpr (.inl rfl)⟩
   ·exact⟨r,(y _).mpr (.inr R)⟩
 have P:∀j,aU M' j->j≠i:=λj c e=>by subst e;exact Q c
 have E:∀j p,aU M' j->p∈F j->p∉G:=λj p c d z=>by obtain⟨o,e,_⟩:=O.has c d;rw[nw p z]at e;cases e
 have T:∀p o,H p=some o->(A.B p\/p∈G)->A.B p:=λp o e z=>by
  rcases z with z|z
  ·exact z
  ·rw[nw p z]at e;cases e
 refine⟨⟨A.ab,λp=>A.B p\/p∈G,A.s0⟩,rfl,rfl,T,by rw[Pi,Pi];exact S.len,λj J c e=>?_,S.sm.trans s,S.dm.same s,λu e=>?_,λj=>if j=i then G else F j,⟨λj Y X a b=>?_,λj r J c e=>?_,λj c e=>?_,λj c=>?_,λj k p c U a b=>?_,λj p c d=>?_,λj p c d=>?_,λp=>?_⟩⟩
 ·have t:j≠i/\¬aU M' j:=⟨λz=>c ((f j).mpr (.inl z)),λz=>c ((f j).mpr (.inr z))⟩;rw[aV (Pt t.1)]at e;obtain⟨u,I,D⟩:=S.sh j J t.2 e;exact⟨u,by rw[Hn (Pt t.1)];exact I,Rep.mv s T J D⟩
 ·obtain⟨I,D⟩:=S.sl u e;exact⟨by rw[Hn (Pt (P 0 D))];exact I,(f 0).mpr (.inr D)⟩
 ·rcases(y _).mp a with a|a
  ·rcases(y _).mp b with b|b
   ·cases a;cases b;rfl
   ·cases a;exact(Q ⟨_,b⟩).elim
  ·rcases(y _).mp b with b|b
   ·cases b;exact(Q ⟨_,a⟩).elim
   ·exact O.un j Y X a b
 ·rcases(y _).mp c with a|a
  ·cases a;have g:i<ε.length:=by have:=uV e;rwa [Pi]at this
   have:=lV e;subst this;exact⟨v,PP (by rw[S.len];exact g),by rw[Bz rfl];exact L.1 g⟩
  ·have n:=P j ⟨r,a⟩;rw[aV (Pt n)]at e;obtain⟨u,I,D⟩:=O.val j r J a e;exact⟨u,by rw[Hn (Pt n)];exact I,by rw[BM n];exact Fp.mv s T r D⟩
 ·by_cases n:j=i
  ·subst n;rw[Bz rfl];refine L.2 (ky λg=>?_);have:look (ε.set j (some w)) j=some w:=by rw[bu];exact PP g
   rw[this]at e;cases e
  ·rw[aV (Pt n)]at e;rw[BM n];exact O.emp j (((f j).mp c).resolve_left n) e
 ·by_cases n:j=i
  ·rw[Bz n];exact nd
  ·rw[BM n];exact O.nd j (((f j).mp c).resolve_left n)
 ·by_cases C:j=i
  ·by_cases l:k=i
   ·rw[C,l]
   ·rw[Bz C]at a;rw[BM l]at b;exact(E k p (((f k).mp U).resolve_left l) b a).elim
  ·by_cases l:k=i
   ·rw[BM C]at a;rw[Bz l]at b;exact(E j p (((f j).mp c).resolve_left C) a b).elim
   ·rw[BM C]at a;rw[BM l]at b;exact O.ds j k p (((f j).mp c).resolve_left C) (((f k).mp U).resolve_left l) a b
 ·by_cases n:j=i
  ·rw[Bz n]at d;exact S.sm.free (nw p d)
  ·rw[BM n]at d;exact O.nw j p (((f j).mp c).resolve_left n) d
 ·by_cases n:j=i
  ·rw[Bz n]at d;exact S.dm.no (nw p d)
  ·rw[BM n]at d;exact O.na j p (((f j).mp c).resolve_left n) d
 ·constructor
  ·rintro(z|z)
   ·rcases(O.all p).mp z with z|⟨j,c,d⟩
    ·exact .inl z
    ·exact .inr ⟨j,(f j).mpr (.inr c),by rw[BM (P j c)];exact d⟩
   ·exact .inr ⟨i,(f i).mpr (.inl rfl),by rw[Bz rfl];exact z⟩
  ·rintro(z|⟨j,c,d⟩)
   ·exact .inl ((O.all p).mpr (.inl z))
   ·by_cases n:j=i
    ·rw[Bz n]at d;exact .inr d
    ·rw[BM n]at d;exact .inl ((O.all p).mpr (.inr ⟨j,((f j).mp c).resolve_left n,d⟩))
theorem Rm.chg(S:SR K M A H0 σ H ε)(O:Rm K M A H0 σ H ε F){i:Nat}{m:Md}{w w':W}{v:V}{F':List Addr}(N:(i,m)∈M)(R:look ε i=some w)(Q:σ[i]?=some (some v))
 (x:∀p o,H p=some o->(C4 o=true/\p∈F i)\/H1 p=some o)(nd:F'.Nodup)(nw:∀p∈F',p∈F i\/H p=none)(h:Fp K (λp=>(A.B p/\p∉F i)\/p∈F') H1 m w' v F'):
 ∃s,s.ab=A.ab/\s.s0=A.s0/\(∀p,s.B p↔(A.B p/\p∉F i)\/p∈F')/\(∀p o,H p=some o->s.B p->A.B p)/\wm A.B H H1/\SR K M s H0 σ H1 (ε.set i (some w')):=by
 have f:aU M i:=⟨m,N⟩;have J:∀p,p∈F i->A.B p:=λp c=>(O.all p).mpr (.inr ⟨i,f,c⟩);have P:wm A.B H H1:=λp o e=>(x p o e).imp (λz=>⟨z.1,J p z.2⟩) id;have I:∀p o,H p=some o->((A.B p/\p∉F i)\/p∈F')->A.B p:=λp o e z=>by
  rcases z with z|z
  ·exact z.1
  ·rcases nw p z with z|z
   ·exact J p z
   ·rw[z]at e;cases e
 have C:∀j p,aU M j->j≠i->p∈F j->p∉F i/\p∉F':=λj p d n c=>by
  have a:p∉F i:=λz=>n (O.ds j i p d f c z);refine⟨a,λz=>?_⟩;rcases nw p z with z|z
  ·exact a z
  ·obtain⟨o,e,_⟩:=O.has d c;rw[z]at e;cases e
 refine⟨⟨A.ab,λp=>(A.B p/\p∉F i)\/p∈F',A.s0⟩,rfl,rfl,λ_=>Iff.rfl,I,P,by rw[Pi];exact S.len,λj g d e=>?_,λp o e=>?_,λp z=>?_,S.sl,λj=>if j=i then F' else F j,⟨O.un,λj t g d e=>?_,λj d e=>?_,λj d=>?_,λj k p d L a b=>?_,λj p d c=>?_,λj p d c=>?_,λp=>?_⟩⟩
 ·have n:i≠j:=by rintro rfl;exact d f
  rw[aV n]at e;obtain⟨u,E,D⟩:=S.sh j g d e;exact⟨u,E,Rep.chg P I g D⟩
 ·rcases x p o (S.sm p o e)with⟨_,z⟩|z
  ·rw[O.nw i p f z]at e;cases e
  ·exact z
 ·obtain⟨o,e⟩:=S.dm p z;rcases x p o e with⟨_,y⟩|y
  ·exact(O.na i p f y z).elim
  ·exact⟨o,y⟩
 ·by_cases n:j=i
  ·subst n;have T:=O.un j m t N d;subst T;have:=lV e;subst this;exact⟨v,Q,by rw[Bz rfl];exact h⟩
  ·rw[aV (Pt n)]at e;obtain⟨u,E,D⟩:=O.val j t g d e;refine⟨u,E,?_⟩;rw[BM n];refine Fp.chg (G:=λp=>p∈F j) (λp o e=>?_) I t (λp c=>c) D;rcases x p o e with⟨z,y⟩|z
   ·exact .inl ⟨z,J p y,λq=>(C j p ⟨t,d⟩ n q).1 y⟩
   ·exact .inr z
 ·by_cases n:j=i
  ·subst n;have:look (ε.set j (some w')) j=some w':=by rw[bu];exact PP (uV R)
   rw[this]at e;cases e
  ·rw[aV (Pt n)]at e;rw[BM n];exact O.emp j d e
 ·by_cases n:j=i
  ·rw[Bz n];exact nd
  ·rw[BM n];exact O.nd j d
 ·by_cases r:j=i
  ·by_cases l:k=i
   ·rw[r,l]
   ·rw[Bz r]at a;rw[BM l]at b;exact((C k p L l b).2 a).elim
  ·by_cases l:k=i
   ·rw[BM r]at a;rw[Bz l]at b;exact((C j p d r a).2 b).elim
   ·rw[BM r]at a;rw[BM l]at b;exact O.ds j k p d L a b
 ·by_cases n:j=i
  ·rw[Bz n]at c;rcases nw p c with z|z
   ·exact O.nw i p f z
   ·exact S.sm.free z
  ·rw[BM n]at c;exact O.nw j p d c
 ·by_cases n:j=i
  ·rw[Bz n]at c;rcases nw p c with z|z
   ·exact O.na i p f z
   ·exact S.dm.no z
  ·rw[BM n]at c;exact O.na j p d c
 ·constructor
  ·rintro(⟨z,y⟩|z)
   ·rcases(O.all p).mp z with z|⟨j,d,c⟩
    ·exact .inl z
    ·have n:j≠i:=by rintro rfl;exact y c
     exact .inr ⟨j,d,by rw[BM n];exact c⟩
   ·exact .inr ⟨i,f,by rw[Bz rfl];exact z⟩
  ·rintro(z|⟨j,d,c⟩)
   ·exact .inl ⟨(O.all p).mpr (.inl z),λy=>O.na i p f y z⟩
   ·by_cases n:j=i
    ·rw[Bz n]at c;exact .inr c
    ·rw[BM n]at c;exact .inl ⟨(O.all p).mpr (.inr ⟨j,d,c⟩),(C j p d n c).1⟩
end
inductive BI where
 |len|abs|max2|min2|sum|all|any|list|tuple|F3|int|Rn
 deriving DecidableEq
inductive CE where
 |var (i:Nat)|int (i:Int)|bl (b:Bool)|str (x:Str)|aS|HS (n:String)|glob (g:Nat)
 |bin (op:Operator) (a b:CE)|neg (a:CE)|not (a:CE)
 |cmp (op:CmpOp) (a b:CE)
 |and (as:List CE)|or (as:List CE)
 |tup (as:List CE)|lst (as:List CE)
 |ix (a i:CE)|sl (a lo hi:CE)
 |call (f:Nat) (as:List CE)|blt (b:BI) (as:List CE)|bits (a:CE)
 |comp (ts:List Nat) (one:Bool) (n:Nat) (it:CE) (c:CE) (e:CE)
 |oj (as:List CE)|sE (a:CE)|rev (a:CE)
 |pop (i:Nat)
 |own (i:Nat) (π:List kM)|wz (i:Nat) (f:Nat) (as:List CE)|Ea (i g f:Nat) (as:List CE)
 |zQ (is:List Nat) (a:CE)|NZ (f:Nat) (a:CE) (as:List CE)
inductive CS where
 |set (i:Nat) (e:CE)|zS (ts:List Nat) (e:CE)|par (ts:List Nat) (es:List CE)
 |app (i:Nat) (e:CE)|put (i:Nat) (k e:CE)|drop (i:Nat)|sF (j:Nat) (e:CE)
 |ret (e:CE)|iff (c:CE) (a b:List CS)|Eb (c:CE) (b:List CS)
 |fr (ts:List Nat) (one:Bool) (it:CE) (b:List CS)
 |brk|raise (c:Nat) (e:CE)
 |Tc (i:Nat) (π:List kM) (e:CE)|C5 (i n:Nat) (e:CE)|Td (i:Nat) (π:List kM)
 |HU (e:CE)|Te (c:CE) (a b:List CS)|Ro (c:CE) (b:List CS)|Rp (i:Nat) (e:CE)
 |zT
 |Mb (is:List Nat) (b:List CS)
 |Tf (i:Nat) (as:List CE)|Tg (i:Nat) (e:CE)
noncomputable def Th:W->W->(W->Prop)->Prop
 |.int i,.int j,Q=>Q (.int (i+j))
 |.lst a,.lst b,Q=>a.length+b.length<=sizeLine/\Q (.lst (a++b))
 |.tup a,.tup b,Q=>a≠[]/\a.length+b.length<=sizeLine/\Q (.tup (a++b))
 |.str a,.str b,Q=>a.length+b.length<=sizeLine/\Q (.str (a++b))
 |_,_,_=>False
noncomputable def Ti:W->W->(W->Prop)->Prop
 |.int i,.int j,Q=>IntMulOk i j/\Q (.int (i*j))
 |.lst a,.int k,Q=> -(2^63)<=k/\k<2^63/\a.length*k.toNat<=sizeLine/\Q (.lst (List.replicate k.toNat a).flatten)
 |_,_,_=>False
noncomputable def Rq(C:Int->Int->Prop)(g:Int->Int->Int):W->W->(W->Prop)->Prop
 |.int i,.int j,Q=>C i j/\Q (.int (g i j))
 |_,_,_=>False
noncomputable def Tj:W->W->(W->Prop)->Prop
 |.int i,.int j,Q=>Q (.int (i -j))
 |_,_,_=>False
noncomputable def g8:Operator->W->W->(W->Prop)->Prop
 |.Add=>Th
 |.Sub=>Tj
 |.Mult=>Ti
 |.FloorDiv=>Rq tN λi j=>i.fdiv j
 |.Mod=>Rq (λ_ j=>j≠0) λi j=>i.fmod j
 |.Pow=>Rq Cu λi j=>i^j.toNat
 |.LShift=>Rq Cu λi j=>i*2^j.toNat
 |.RShift=>Rq (λ_ j=>0<=j) λi j=>i/2^j.toNat
 |_=>λ_ _ _=>False
noncomputable def eY:Nat->W->Bool
 |_,.int _=>true
 |_,.str x=>PyData.strOk x
 |_,.aS=>true
 |n+1,.lst l=>l.all (eY n)
 |n+1,.tup l=>l.all (eY n)
 |_,_=>false
noncomputable def iJ:Nat->W->Bool
 |_,.bl _=>true
 |_,.str x=>PyData.strOk x
 |_,.aS=>true
 |n+1,.lst l=>l.all (iJ n)
 |n+1,.tup l=>l.all (iJ n)
 |_,_=>false
noncomputable def Wv(a:Bool):W->W->(W->Prop)->Prop
 |.int i,.int j,Q=>Q (.bl (if a then !decide (i=j)else decide (i=j)))
 |.str i,.str j,Q=>Q (.bl (if a then !decide (i=j)else decide (i=j)))
 |.bl i,.bl j,Q=>Q (.bl (if a then !decide (i=j)else decide (i=j)))
 |x,y,Q=>((eY 9 x=true/\eY 9 y=true)\/(iJ 9 x=true/\iJ 9 y=true))/\∀b:Bool,(b=true↔x=y)->Q (.bl (if a then !b else b))
noncomputable def F4(p:Int->Int->Bool):W->W->(W->Prop)->Prop
 |.int i,.int j,Q=>Q (.bl (p i j))
 |_,_,_=>False
noncomputable def Ww(a:Bool):W->W->(W->Prop)->Prop
 |.aS,.aS,Q=>Q (.bl (!a))
 |.bl _,.aS,Q=>Q (.bl a)
 |.int _,.aS,Q=>Q (.bl a)
 |.str _,.aS,Q=>Q (.bl a)
 |.lst _,.aS,Q=>Q (.bl a)
 |.tup _,.aS,Q=>Q (.bl a)
 |.err _,.aS,Q=>Q (.bl a)
 |_,_,_=>False
noncomputable def eT:CmpOp->W->W->(W->Prop)->Prop
 |.Eq=>Wv false
 |.NotEq=>Wv true
 |.Lt=>F4 λi j=>decide (i<j)
 |.LtE=>F4 λi j=>decide (i<=j)
 |.Gt=>F4 λi j=>decide (j<i)
 |.GtE=>F4 λi j=>decide (j<=i)
 |.Is=>Ww false
 |.IsNot=>Ww true
 |_=>λ_ _ _=>False
noncomputable def N3:W->W->(W->Prop)->Prop
 |.lst l,.int i,Q=>∃w,kZ l i=some w/\Q w
 |.tup l,.int i,Q=>∃w,kZ l i=some w/\Q w
 |.gx ns,.int i,Q=>∃n,kZ ns i=some n/\Q (.int n)
 |_,_,_=>False
noncomputable def nK(l:List W)(a b:Option Int):List W:=(l.drop (HT.tL l.length 0 a)).take (HT.tL l.length l.length b -HT.tL l.length 0 a)
noncomputable def jU:CE->Bool
 |.aS=>true
 |_=>false
noncomputable def ZE:W->(Option Int->Prop)->Prop
 |.int i,Q=>Q (some i)
 |_,_=>False
noncomputable def Jo(c:CE)(y:W)(Q:Option Int->Prop):Prop:=cond (jU c) (Q none) (ZE y Q)
noncomputable def Ve:W->Option Int->Option Int->(W->Prop)->Prop
 |.lst l,a,b,Q=>Q (.lst (nK l a b))
 |.gx ns,a,b,Q=>Q (.lst (nK (ns.map W.int) a b))
 |_,_,_,_=>False
noncomputable def ZF:W->Option String
 |.aS=>some "NoneType"
 |.bl _=>some "bool"
 |.int _=>some "int"
 |.str _=>some "str"
 |.lst _=>some "list"
 |.tup _=>some "tuple"
 |_=>none
noncomputable def F5(a b:String):Bool:=a==b||(a=="bool"&&b=="int")
noncomputable def sf:BI->List W->(W->Prop)->Prop
 |.len,[.lst l],Q=>Q (.int l.length)
 |.len,[.tup l],Q=>Q (.int l.length)
 |.len,[.gx ns],Q=>Q (.int ns.length)
 |.abs,[.int i],Q=>Q (.int (if i<0 then-i else i))
 |.max2,[.int i,.int j],Q=>Q (.int (if j>i then j else i))
 |.min2,[.int i,.int j],Q=>Q (.int (if j<i then j else i))
 |.sum,[.lst l],Q=>∃ns:List Int,l=ns.map W.int/\Q (.int ns.sum)
 |.all,[.lst l],Q=>∃bs:List Bool,l=bs.map W.bl/\Q (.bl (bs.all id))
 |.list,[.lst l],Q=>Q (.lst l)
 |.list,[.tup l],Q=>Q (.lst l)
 |.tuple,[.lst l],Q=>Q (.tup l)
 |.tuple,[.tup l],Q=>Q (.tup l)
 |.F3,[w,.ty n],Q=>∃a,ZF w=some a/\Q (.bl (F5 a n))
 |.int,[.bl b],Q=>Q (.int (if b then 1 else 0))
 |.Rn,[.int i,.int j],Q=>(0<j/\j<1073741824)/\Q (.tup [.int (i/j),.int (i%j)])
 |_,_,_=>False
noncomputable def b8(a:Ev):List Nat->List W->Ev
 |i::c,w::b=>b8 (a.set i (some w)) c b
 |_,_=>a
noncomputable def wT(one:Bool)(a:List Nat)(w:W)(b:Ev)(Q:Ev->Prop):Prop:=
 match one,a,w with
 |true,[i],w=>Q (b.set i (some w))
 |false,a,.tup l=>l.length=a.length/\Q (b8 b a l)
 |_,_,_=>False
noncomputable def oQ(f:W->(Option W->Prop)->Prop):List W->List W->(List W->Prop)->Prop
 |[],acc,Q=>Q acc
 |w::a,acc,Q=>f w λr=>match r with
  |some y=>acc.length<sizeLine/\oQ f a (acc++[y]) Q
  |none=>oQ f a acc Q
noncomputable def truth:W->(Bool->Prop)->Prop
 |.bl b,Q=>Q b
 |_,_=>False
noncomputable def items:W->(List W->Prop)->Prop
 |.lst l,Q=>Q l
 |.tup l,Q=>Q l
 |_,_=>False
noncomputable def gy(a st:Int)(n:Nat):List W:=(List.range n).map λ(i:Nat)=>W.int (a+(i:Int)*st)
noncomputable def F6:List W->(List W->Prop)->Prop
 |[.int j],Q=> -(2^62)<=j/\j<2^62/\Q (gy 0 1 j.toNat)
 |[.int i,.int j],Q=>(-(2^62)<=i/\i<2^62/\-(2^62)<=j/\j<2^62)/\Q (gy i 1 (j -i).toNat)
 |[.int i,.int j,.int k],Q=>∃n:Nat,(k≠0/\k.natAbs<1073741824/\Builtin.Range.small i j k=true/\Builtin.Range.rangeSize i j k=(n:Int))/\Q (gy i k n)
 |_,_=>False
noncomputable def gi(l:List W):List W:=List.zipWith (λ(i:Nat) w=>W.tup [.int i,w]) (List.range l.length) l
abbrev bN:=List W->(W->Prop)->(Addr->Prop)->Prop
noncomputable def N4:W->Bool
 |.aS|.bl _|.int _|.str _=>true
 |_=>false
section
variable(Φ:Nat->bN)(G:Nat->W)
mutual
noncomputable def wE(R:Addr->Prop):CE->Ev->(W->Prop)->Prop
 |.var i,d,Q=>match look d i with
  |some w=>Q w
  |none=>False
 |.int i,_,Q=>Q (.int i)
 |.bl b,_,Q=>Q (.bl b)
 |.str x,_,Q=>Q (.str x)
 |.aS,_,Q=>Q .aS
 |.HS n,_,Q=>Q (.ty n)
 |.glob g,_,Q=>Q (G g)
 |.bin op a b,d,Q=>wE R a d λx=>wE R b d λy=>g8 op x y Q
 |.neg a,d,Q=>wE R a d λx=>match x with
  |.int i=>Q (.int (-i))
  |_=>False
 |.not a,d,Q=>wE R a d λx=>truth x λb=>Q (.bl (!b))
 |.cmp op a b,d,Q=>wE R a d λx=>wE R b d λy=>eT op x y Q
 |.and m,d,Q=>yZ R m d Q
 |.or m,d,Q=>MS R m d Q
 |.tup m,d,Q=>wA R m d λj=>j.length<=sizeLine/\Q (.tup j)
 |.lst m,d,Q=>wA R m d λj=>j.length<=sizeLine/\Q (.lst j)
 |.ix a i,d,Q=>wE R a d λx=>wE R i d λy=>N3 x y Q
 |.sl a p q,d,Q=>wE R a d λx=>wE R p d λy=>Jo p y λl=>wE R q d λz=>Jo q z λh=>Ve x l h Q
 |.call f m,d,Q=>wA R m d λj=>Φ f j Q R
 |.blt b m,d,Q=>wA R m d λj=>sf b j Q
 |.bits a,d,Q=>wE R a d λx=>match x with
  |.int i=>Q (.int (Builtin.Int.intBits i:Nat))
  |_=>False
 |.comp s one n t c e,d,Q=>wE R t d λz=>items z λj=>oQ (λw K=>wT one s w (List.replicate n none++d) λo=>wE (λ_=>False) c o λx=>truth x λk=>if k=true then wE (λ_=>False) e o λy=>K (some y)else K none) j [] λl=>Q (.lst l)
 |.oj m,d,Q=>wA R m d λj=>F6 j λl=>Q (.lst l)
 |.sE a,d,Q=>wE R a d λx=>match x with
  |.lst l=>Q (.lst (gi l))
  |_=>False
 |.rev a,d,Q=>wE R a d λx=>match x with
  |.lst l=>Q (.lst l.reverse)
  |_=>False
 |.pop _,_,_=>False
 |.own i π,d,Q=>match look d i with
  |some w=>match bF w π with
   |some u=>Q u
   |none=>False
  |none=>False
 |.wz _ _ _,_,_=>False
 |.zQ _ a,d,Q=>wE R a d λw=>N4 w=true/\Q w
 |.Ea _ _ _ _,_,_=>False
 |.NZ f a m,d,Q=>wE R a d λx=>wA R m d λj=>Φ f (x::j) (λr=>∃w y,r=.tup [w,y]/\Q w) R
noncomputable def wA(R:Addr->Prop):List CE->Ev->(List W->Prop)->Prop
 |[],_,Q=>Q []
 |a::d,b,Q=>wE R a b λx=>wA R d b λc=>Q (x::c)
noncomputable def yZ(R:Addr->Prop):List CE->Ev->(W->Prop)->Prop
 |[],_,_=>False
 |a::d,c,Q=>match d with
  |[]=>wE R a c Q
  |b::bs=>wE R a c λx=>truth x λk=>if k=true then yZ R (b::bs) c Q else Q (.bl false)
noncomputable def MS(R:Addr->Prop):List CE->Ev->(W->Prop)->Prop
 |[],_,_=>False
 |a::d,c,Q=>match d with
  |[]=>wE R a c Q
  |b::bs=>wE R a c λx=>truth x λk=>if k=true then Q (.bl true)else MS R (b::bs) c Q
end
structure Dn where
 nx:Ev->Prop
 rt:W->Prop
 bk:Ev->Prop
 ct:Ev->Prop
 ex:Addr->Prop
mutual
noncomputable def wP(R:Addr->Prop):CE->Ev->(W->Ev->Prop)->Prop
 |.pop i,c,Q=>match look c i with
  |some (.lst l)=>∃w,l[l.length -1]?=some w/\Q w (c.set i (some (.lst l.dropLast)))
  |_=>False
 |.wz i f h,c,Q=>match look c i with
  |some _=>Lm R h c λj d=>match look d i with
   |some n=>Φ f (n::j) (λr=>∃w y,r=.tup [w,y]/\Q w (d.set i (some y))) R
   |none=>False
  |none=>False
 |.Ea i g f h,c,Q=>match look c i with
  |some (.obj C _ _)=>G g=.cls C/\Lm R h c λj d=>match look d i with
   |some n=>Φ f (n::j) (λr=>∃w y,r=.tup [w,y]/\Q w (d.set i (some y))) R
   |none=>False
  |_=>False
 |.bin op a b,c,Q=>wP R a c λx m=>wP R b m λy k=>g8 op x y λz=>Q z k
 |.cmp op a b,c,Q=>wP R a c λx m=>wP R b m λy k=>eT op x y λz=>Q z k
 |.call f h,c,Q=>Lm R h c λj d=>Φ f j (λw=>Q w d) R
 |.blt b h,c,Q=>Lm R h c λj d=>sf b j λw=>Q w d
 |.ix a b,c,Q=>wP R a c λx m=>wP R b m λy k=>N3 x y λz=>Q z k
 |.and h,c,Q=>wB R h c Q
 |e,c,Q=>wE Φ G R e c λw=>Q w c
noncomputable def Lm(R:Addr->Prop):List CE->Ev->(List W->Ev->Prop)->Prop
 |[],b,Q=>Q [] b
 |a::f,b,Q=>wP R a b λx e=>Lm R f e λc d=>Q (x::c) d
noncomputable def wB(R:Addr->Prop):List CE->Ev->(W->Ev->Prop)->Prop
 |[],_,_=>False
 |a::e,d,Q=>match e with
  |[]=>wP R a d Q
  |b::bs=>wP R a d λx c=>truth x λk=>if k=true then wB R (b::bs) c Q else Q (.bl false) c
end
noncomputable def nM(b:W->Dn->Ev->Prop)(D:Dn):List W->Ev->Prop
 |[],a=>D.nx a
 |w::c,a=>b w {nx:=nM b D c,rt:=D.rt,bk:=D.nx,ct:=nM b D c,ex:=λ_=>False} a
noncomputable def Tn(c:Ev->(Bool->Ev->Prop)->Prop)(b:Dn->Ev->Prop)(D:Dn)(d:Ev):Prop:=
 ∃J:Nat->Ev->Prop,(∃m,J m d)/\∀m d,J m d->c d λk f=>if k=true then∃N:Ev->Prop,(∀a,N a->∃e,e<m/\J e a)/\b {nx:=N,rt:=D.rt,bk:=D.nx,ct:=N,ex:=λ_=>False} f else D.nx f
noncomputable def Jp(c:Ev->(Bool->Prop)->Prop)(b:Dn->Ev->Prop)(D:Dn)(a:Ev):Prop:=
 ∃J:Nat->Ev->Prop,(∃m,J m a)/\∀m a,J m a->c a λk=>if k=true then∃N:Ev->Prop,(∀d,N d->∃e,e<m/\J e d)/\b {nx:=N,rt:=D.rt,bk:=D.nx,ct:=N,ex:=λ_=>False} a else D.nx a
mutual
noncomputable def wS:CS->Dn->Ev->Prop
 |.set i e,D,d=>wE Φ G D.ex e d λw=>D.nx (d.set i (some w))
 |.zS o e,D,d=>wE Φ G D.ex e d λw=>match w with
  |.tup l=>l.length=o.length/\D.nx (b8 d o l)
  |_=>False
 |.par o s,D,d=>wA Φ G D.ex s d λh=>h.length=o.length/\D.nx (b8 d o h)
 |.app i e,D,d=>match look d i with
  |some (.lst l)=>wE Φ G D.ex e d λw=>l.length<sizeLine/\D.nx (d.set i (some (.lst (l++[w]))))
  |_=>False
 |.put i k e,D,d=>wE Φ G D.ex e d λw=>match look d i with
  |some (.lst l)=>wE Φ G D.ex k d λx=>match x with
   |.int j=>∃n,wj l.length j=some n/\D.nx (d.set i (some (.lst (l.set n w))))
   |_=>False
  |_=>False
 |.drop i,D,d=>wP Φ G D.ex (.pop i) d λ_ f=>D.nx f
 |.sF j e,D,d=>wP Φ G D.ex e d λw f=>D.nx (f.set j (some w))
 |.ret e,D,d=>wE Φ G D.ex e d D.rt
 |.iff c a b,D,d=>wE Φ G D.ex c d λx=>truth x λk=>if k=true then wSs a D d else wSs b D d
 |.Eb c b,D,d=>Jp (λd Q=>wE Φ G (λ_=>False) c d λx=>truth x Q) (wSs b) D d
 |.fr o one q b,D,d=>wE Φ G (λ_=>False) q d λz=>items z λh=>nM (λw u f=>wT one o w f λp=>wSs b u p) D h d
 |.brk,D,d=>D.bk d
 |.raise g e,D,d=>match G g with
  |.cls C=>wE Φ G D.ex e d λ_=>D.ex C
  |_=>False
 |.Tc i π e,D,d=>match look d i with
  |some m=>match bF m π with
   |some (.lst l)=>wE Φ G D.ex e d λw=>l.length<sizeLine/\D.nx (d.set i (some (setAt m π (.lst (l++[w])))))
   |_=>False
  |none=>False
 |.C5 i n e,D,d=>wE Φ G D.ex e d λw=>match look d i with
  |some (.obj C r h)=>n<h.length/\D.nx (d.set i (some (.obj C r (h.set n w))))
  |_=>False
 |.Td i π,D,d=>match look d i with
  |some m=>match bF m π with
   |some (.lst l)=>D.nx (d.set i (some (setAt m π (.lst []))))
   |_=>False
  |none=>False
 |.HU e,D,d=>wE Φ G D.ex e d λw=>match look d 0 with
  |some m=>D.rt (.tup [w,m])
  |none=>False
 |.Te c a b,D,d=>wP Φ G D.ex c d λx f=>truth x λk=>if k=true then wSs a D f else wSs b D f
 |.Ro c b,D,d=>Tn (λd Q=>wP Φ G (λ_=>False) c d λx f=>truth x λk=>Q k f) (wSs b) D d
 |.Rp i e,D,d=>match look d i with
  |some (.lst _)=>wP Φ G D.ex e d λw f=>match look f i with
   |some (.lst l)=>l.length<sizeLine/\D.nx (f.set i (some (.lst (l++[w]))))
   |_=>False
  |_=>False
 |.zT,_,_=>False
 |.Tf i t,D,d=>wA Φ G D.ex t d λh=>h.length<=sizeLine/\D.nx (d.set i (some (.lst h)))
 |.Tg i e,D,d=>match look d i with
  |some (.lst l)=>wE Φ G D.ex e d λw=>l.length<sizeLine/\D.nx (d.set i (some (.lst (l++[w]))))
  |_=>False
 |.Mb _ b,D,d=>wSs b {D with nx:=λ_=>False,bk:=λ_=>False,ct:=λ_=>False} d
noncomputable def wSs:List CS->Dn->Ev->Prop
 |[],D,a=>D.nx a
 |s::c,D,a=>match c with
  |[]=>wS s D a
  |t::b=>wS s {D with nx:=wSs (t::b) D} a
end
end
noncomputable def aX(K:Frag)(B:Addr->Prop)(H:Hp)(w:W)(v:V):Prop:=
 match w with
 |.lst l=>∃p a,v=.ref p/\Rd H p (.lst a)/\ai K B H l a
 |w=>Rep K B H w v
section
variable{K:Frag}{A B:Addr->Prop}{H H':Hp}{w:W}{v:V}
theorem Rep.b(h:Rep K B H w v):aX K B H w v:=by
 cases w with
 |lst l=>rw[Rep]at h;obtain⟨p,a,e,_,d,c⟩:=h;exact⟨p,a,e,d,c⟩
 |_=>exact h
theorem aX.same(s:aq H H')(h:aX K B H w v):aX K B H' w v:=by
 cases w with
 |lst l=>obtain⟨p,a,e,c,b⟩:=h;exact⟨p,a,e,VL.aq.rd s c,b.same s⟩
 |_=>exact Rep.same s h
theorem aX.lst{l:List W}(h:aX K B H (.lst l) v):∃p vs,v=.ref p/\Rd H p (.lst vs)/\ai K B H l vs:=h
theorem aX.To{l:List W}(h:aX K B H (.tup l) v):∃p vs,v=.ref p/\H p=some (.tup vs)/\ai K B H l vs:=by have h:Rep K B H (.tup l) v:=h;rw[Rep]at h;exact h
theorem aX.tup{l:List W}(h:aX K B H (.tup l) v):∃p vs,v=.ref p/\kY K H p vs/\ai K B H l vs:=by have h:Rep K B H (.tup l) v:=h;rw[Rep]at h;obtain⟨p,vs,e,b,a⟩:=h;exact⟨p,vs,e,kY.of b,a⟩
theorem aX.int{i:Int}(h:aX K B H (.int i) v):v=.int i:=by have h:Rep K B H (.int i) v:=h;rw[Rep]at h;exact h
theorem aX.bl{i:Bool}(h:aX K B H (.bl i) v):v=.bl i:=by have h:Rep K B H (.bl i) v:=h;rw[Rep]at h;exact h
theorem aX.str{i:Str}(h:aX K B H (.str i) v):v=.str i:=by have h:Rep K B H (.str i) v:=h;rw[Rep]at h;exact h
theorem aX.aS(h:aX K B H .aS v):v=.aS:=by have h:Rep K B H .aS v:=h;rw[Rep]at h;exact h
theorem aX.ty{n:String}(h:aX K B H (.ty n) v):v=.ty n:=by have h:Rep K B H (.ty n) v:=h;rw[Rep]at h;exact h
theorem gf(i:Int):Rep K B H (.int i) (.int i):=by rw[Rep]
theorem Bo(i:Bool):Rep K B H (.bl i) (.bl i):=by rw[Rep]
theorem Tp(i:Str):Rep K B H (.str i) (.str i):=by rw[Rep]
theorem Tq:Rep K B H .aS .aS:=by rw[Rep]
theorem ZG(n:String):Rep K B H (.ty n) (.ty n):=by rw[Rep]
theorem zU{l:List W}{p:Addr}{vs:List V}(b:H p=some (.tup vs))(a:ai K B H l vs):Rep K B H (.tup l) (.ref p):=by rw[Rep];exact⟨p,vs,rfl,b,a⟩
end
abbrev KP:=W->Prop
noncomputable def Cont(K:Frag)(B:Addr->Prop)(H:Hp)(m:Md)(P:KP)(Q:VK):Prop:=∀w v a,P w->aq H a->dU K B H a m w v->Q v a
theorem Cont.now{K:Frag}{B:Addr->Prop}{H:Hp}{P:KP}{Q:VK}(c:Cont K B H .s P Q){w:W}{v:V}(p:P w)(h:Rep K B H w v):Q v H:=c w v H p (aq.refl H) (.of h)
theorem Cont.s{K:Frag}{B:Addr->Prop}{H:Hp}{m:Md}{P:KP}{Q:VK}(d:Dom B H)(c:Cont K B H .s P Q):Cont K B H m P Q:=λw v b p a h=>c w v b p a (h.s d)
noncomputable def Jq(X:Cx)(f:Value->Value->Sem Value)(r:W->W->KP->Prop)(m:W->W->Md):Prop:=
 ∀(a:List (Addr×Obj))(s:Shared)(b:St)(H:Hp)(B:Addr->Prop)(x y:W)(d c:V)(v u:Value)(P:KP)(Q:VK),Inv X a b H s->Dom B H->RelV d v->RelV c u->aX X.K B H x d->aX X.K B H y c->r x y P->Cont X.K B H (m x y) P Q->
  wpAny (model X.prog X.w) X.A (f v u) (EP X a b Q) X.xe s
section
variable{X:Cx}
theorem Jr:kF X (binaryOp .Add) (λx y H Q=>∃l b f d,x=.ref l/\y=.ref b/\Rd H l (.lst f)/\Rd H b (.lst d)/\f.length+d.length<=sizeLine/\∀p,H p=none->Q (.ref p) (upd H p (.lst (f++d)))):=by
 intro i s B H x y v u Q I k j h;obtain⟨l,b,f,d,rfl,rfl,o,t,hz,q⟩:=h;cases k;cases j;obtain⟨z,c,n,r,e⟩:=o.ok I.hok;obtain⟨C,a,D,g,A⟩:=t.ok I.hok;have E:=r.length;have m:=g.length;refine PySem.P.add_list e A ?_ (by rw[FR,FR];lia);have w:c.toArray++a.toArray=(c++a).toArray:=by simp
 rw[w];exact⟨.ref _,_,I.Nx (t':=s.toks) (r.append g) (by rw[Fh];lia),rfl,q _ I.fresh⟩
theorem Js:kF X (binaryOp .Mult) (λx y H Q=>∃l k i,x=.ref l/\y=.int k/\Rd H l (.lst i)/\-(2^63)<=k/\k<2^63/\i.length*k.toNat<=sizeLine/\∀p,H p=none->Q (.ref p) (upd H p (.lst (List.replicate k.toNat i).flatten))):=by
 intro w s M H x y v u Q I C B h;obtain⟨l,k,i,rfl,rfl,E,J,G,hz,q⟩:=h;cases C;obtain⟨t,rfl⟩:=B;obtain⟨z,b,n,r,e⟩:=E.ok I.hok;have D:=r.length;have d:b.toArray.size*k.toNat<=sizeLine:=by rw[FR,←D];exact hz
 have g:¬b.toArray.size*k.toNat>(2^63 -1)/8:=by
  have:(sizeLine:Nat)<=(2^63 -1)/8:=by decide
  lia
 have f:¬(!Builtin.List.listFitsIndex k)=true:=by rw[fitsIndex_both J G];exact Hk
 have L:¬Builtin.List.listTooLong (b.toArray.size*k.toNat)=true:=by rw[EM d];exact Hk
 have c:List.foldl (λo j=>o++j) #[] (List.replicate (if b.toArray.isEmpty=true then 0 else k.toNat) b.toArray)=(List.replicate k.toNat b).flatten.toArray:=by
  have K:∀m:Nat,List.foldl (λo j=>o++j) #[] (List.replicate m b.toArray)=(List.replicate m b).flatten.toArray:=λm=>by have:=foldl_rep b m [];rw[List.nil_append]at this;exact this
  rw[K];cases b with
  |nil=>simp
  |cons a N=>rw[BM (by simp)]
 refine wpAny_binaryOp_repeat_ref (T:="list") (U:="int") (by decide) ⟨_,e,rfl⟩ (λA=>typeIs_int A k t) noFill_list_mul F.fills_int_mul F.slot_int_rmul repeat_list F.slot_int_index.lookup
  (call_meets F.slot_int_rmul (typeIs_int s k t) F.entry_int_rmul (F.args_int_rmul_2 _ _) (int___rmul___int_list k t l b.toArray n)
    ⟨e,rfl,⟨_,e,rfl⟩,call_meets F.slot_list_mul ⟨_,e,rfl⟩ F.entry_list_mul (F.args_list_mul_2 _ _) (AutoListH.list___mul___list_int_3 l b.toArray n k t f g L) ⟨e,?_⟩⟩)
 rw[c];exact⟨.ref _,_,I.Nx (t':=s.toks) (r.rep k.toNat) (by rw[len_rep,da];exact hz),rfl,q _ I.fresh⟩
noncomputable def Jt:W->W->Md
 |.lst _,_=>.f
 |_,_=>.s
theorem N5:Jq X (binaryOp .Add) Th Jt:=by
 intro f s m H B x y M L v u P Q I d t o A w h c;cases x with
 |int i=>
  cases y with
  |int j=>
   cases A.int;cases w.int;exact Nf f s m H _ _ v u Q I t o ⟨i,j,rfl,rfl,c.now h (gf _)⟩
  |_=>exact h.elim
 |str i=>
  cases y with
  |str j=>
   cases A.str;cases w.str;exact zg f s m H _ _ v u Q I t o ⟨i,j,rfl,rfl,h.1,c.now h.2 (Tp _)⟩
  |_=>exact h.elim
 |lst a=>
  cases y with
  |lst b=>obtain⟨p,n,rfl,G,g⟩:=A.lst;obtain⟨q,C,rfl,D,k⟩:=w.lst;obtain⟨F,h⟩:=h;refine Jr f s m H _ _ v u Q I t o ⟨p,q,n,C,rfl,rfl,G,D,by rw[g.len,k.len];exact F,λr l=>?_⟩;exact c _ _ _ h (aG l _) (.fresh (aq.refl H) l (g.app k))
  |_=>exact h.elim
 |tup a=>
  cases y with
  |tup b=>
   obtain⟨p,n,rfl,J,g⟩:=A.To;have G:kY X.K H p n:=kY.of J;obtain⟨q,C,rfl,D,k⟩:=w.tup;obtain⟨E,F,h⟩:=h;refine Ir f s m H _ _ v u Q I t o ⟨p,q,n,C,rfl,rfl,G,D,λz=>E ?_,by rw[g.len,k.len];exact F,λz=>?_,λ_ r l=>?_⟩
   ·have:=g.len;rw[z]at this;exact Kb.mp this.symm
   ·have:=k.len;rw[z]at this;have e:b=[]:=Kb.mp this.symm;subst e;rw[QQ]at h;exact c.now h (zU J g)
   ·exact c _ _ _ h (aG l _) (.of (zU ao ((g.app k).same (aG l _))))
  |_=>exact h.elim
 |_=>exact h.elim
theorem N6:Jq X (binaryOp .Mult) Ti Jt:=by
 intro b s e H B x y D C v u P Q I d g f m l h c;cases x with
 |int i=>
  cases y with
  |int j=>
   cases m.int;cases l.int;exact IC b s e H _ _ v u Q I g f ⟨i,j,rfl,rfl,h.1,c.now h.2 (gf _)⟩
  |_=>exact h.elim
 |lst a=>
  cases y with
  |int k=>obtain⟨p,q,rfl,A,o⟩:=m.lst;cases l.int;obtain⟨w,t,z,h⟩:=h;refine Js b s e H _ _ v u Q I g f ⟨p,k,q,rfl,rfl,A,w,t,by rw[o.len];exact z,λr n=>?_⟩;exact c _ _ _ h (aG n _) (.fresh (aq.refl H) n (o.rep _))
  |_=>exact h.elim
 |_=>exact h.elim
noncomputable def mS:W->W->Md:=λ_ _=>.s
theorem N7:Jq X (binaryOp .Sub) Tj mS:=by
 intro a s b H B x y m l v u P Q I d f e k g h c;cases x with
 |int i=>
  cases y with
  |int j=>
   cases k.int;cases g.int;exact Ng a s b H _ _ v u Q I f e ⟨i,j,rfl,rfl,c.now h (gf _)⟩
  |_=>exact h.elim
 |_=>exact h.elim
theorem xH{f:Value->Value->Sem Value}{C:Int->Int->Prop}{g:Int->Int->Int}(n:kF X f (rI C λi j=>.int (g i j))):Jq X f (Rq C g) mS:=by
 intro a s b H B x y p o v u P Q I d k e m l h c;cases x with
 |int i=>
  cases y with
  |int j=>
   cases m.int;cases l.int;exact n a s b H _ _ v u Q I k e ⟨i,j,rfl,rfl,h.1,c.now h.2 (gf _)⟩
  |_=>exact h.elim
 |_=>exact h.elim
noncomputable def Ju:Operator->W->W->Md
 |.Add=>Jt
 |.Mult=>Jt
 |_=>mS
theorem zV(op:Operator):Jq X (binaryOp op) (g8 op) (Ju op):=by
 cases op with
 |Add=>exact N5
 |Sub=>exact N7
 |Mult=>exact N6
 |FloorDiv=>exact xH EV
 |Mod=>exact xH Ig
 |Pow=>exact xH Nh
 |LShift=>exact xH Ni
 |RShift=>exact xH Nj
 |_=>exact λa s b H B x y f e v u P Q I d i g k j h c=>h.elim
theorem uW{f:Value->Value->Sem Value}{p:Int->Int->Bool}(m:kF X f (Ic λi j=>.bl (p i j))):Jq X f (F4 p) mS:=by
 intro a s b H B x y o n v u P Q I d g e l k h c;cases x with
 |int i=>
  cases y with
  |int j=>
   cases l.int;cases k.int;exact m a s b H _ _ v u Q I g e ⟨i,j,rfl,rfl,c.now h (Bo _)⟩
  |_=>exact h.elim
 |_=>exact h.elim
end
mutual
noncomputable def toD:W->PyData
 |.aS=>.none
 |.bl b=>.bool b
 |.int i=>.int i
 |.str x=>.str x
 |.lst l=>.list (toDL l)
 |.tup l=>.tuple (toDL l)
 |_=>.none
noncomputable def toDL:List W->List PyData
 |[]=>[]
 |w::l=>toD w::toDL l
end
mutual
noncomputable def fJ:W->Bool
 |.aS=>true
 |.bl _=>true
 |.int _=>true
 |.str x=>PyData.strOk x
 |.lst l=>nN l
 |.tup l=>nN l
 |_=>false
noncomputable def nN:List W->Bool
 |[]=>true
 |w::l=>fJ w&&nN l
end
section
variable{X:Cx}{B:Addr->Prop}{H:Hp}
mutual
theorem Tu:∀(w:W){v:V},fJ w=true->Rep X.K B H w v->Dt X H v (toD w)
 |.aS,v,_,h=>by rw[Rep]at h;subst h;rw[toD];exact NL
 |.bl b,v,_,h=>by rw[Rep]at h;subst h;rw[toD];exact L5 b
 |.int i,v,_,h=>by rw[Rep]at h;subst h;rw[toD];exact NJ i
 |.str x,v,_,h=>by rw[Rep]at h;subst h;rw[toD];exact NK x
 |.lst l,v,d,h=>by rw[Rep]at h;rw[fJ]at d;rw[toD];obtain⟨p,vs,rfl,_,c,a⟩:=h;exact uK (.inl c) (Bp l d a)
 |.tup l,v,d,h=>by rw[Rep]at h;rw[fJ]at d;rw[toD];obtain⟨p,vs,rfl,c,a⟩:=h;exact NN (kY.of c) (Bp l d a)
 |.ty _,_,d,_=>by simp[fJ]at d
 |.cls _,_,d,_=>by simp[fJ]at d
 |.err _,_,d,_=>by simp[fJ]at d
 |.dct _ _,_,d,_=>by simp[fJ]at d
 |.obj _ _ _,_,d,_=>by simp[fJ]at d
 |.gx _,_,d,_=>by simp[fJ]at d
theorem Bp:∀(l:List W){vs:List V},nN l=true->ai X.K B H l vs->Paired (Dt X H) vs (toDL l)
 |[],vs,_,h=>by rw[h.nil_inv,toDL];exact .nil
 |w::l,vs,d,h=>by obtain⟨v,r,rfl,b,a⟩:=h.cons_inv;rw[nN,AN]at d;rw[toDL];exact .cons (Tu w d.1 b) (Bp l d.2 a)
end
theorem Jv{w:W}{v:V}(d:fJ w=true)(h:aX X.K B H w v):Dt X H v (toD w):=by
 cases w with
 |lst l=>obtain⟨p,c,rfl,b,a⟩:=h.lst;rw[fJ]at d;rw[toD];exact uK (.inl b) (Bp l d a)
 |_=>exact Tu (B:=B) _ d h
end
mutual
theorem toD_lay:∀w:W,fJ w=true->(toD w).canLay0=true
 |.aS,_=>by simp[toD,PyData.canLay0]
 |.bl _,_=>by simp[toD,PyData.canLay0]
 |.int _,_=>by simp[toD,PyData.canLay0]
 |.str x,d=>by rw[fJ]at d;simp[toD,PyData.canLay0,d]
 |.lst l,d=>by rw[fJ]at d;rw[toD,PyData.canLay0];exact toDL_lay l d
 |.tup l,d=>by rw[fJ]at d;rw[toD,PyData.canLay0];exact toDL_lay l d
 |.ty _,d=>by simp[fJ]at d
 |.cls _,d=>by simp[fJ]at d
 |.err _,d=>by simp[fJ]at d
 |.dct _ _,d=>by simp[fJ]at d
 |.obj _ _ _,d=>by simp[fJ]at d
 |.gx _,d=>by simp[fJ]at d
theorem toDL_lay:∀l:List W,nN l=true->PyData.canLayAll0 (toDL l)=true
 |[],_=>by simp[toDL,PyData.canLayAll0]
 |w::l,d=>by rw[nN,AN]at d;rw[toDL,PyData.canLayAll0,toD_lay w d.1,toDL_lay l d.2];rfl
end
mutual
theorem toD_same:∀x y:W,fJ x=true->fJ y=true->(same (toD x) (toD y)=true↔x=y)
 |.aS,.aS,_,_=>by simp[toD,same]
 |.aS,.bl _,_,_=>by simp[toD,same]
 |.aS,.int _,_,_=>by simp[toD,same]
 |.aS,.str _,_,_=>by simp[toD,same]
 |.aS,.lst _,_,_=>by simp[toD,same]
 |.aS,.tup _,_,_=>by simp[toD,same]
 |.bl _,.aS,_,_=>by simp[toD,same]
 |.bl a,.bl b,_,_=>by simp[toD,same]
 |.bl _,.int _,_,_=>by simp[toD,same]
 |.bl _,.str _,_,_=>by simp[toD,same]
 |.bl _,.lst _,_,_=>by simp[toD,same]
 |.bl _,.tup _,_,_=>by simp[toD,same]
 |.int _,.aS,_,_=>by simp[toD,same]
 |.int _,.bl _,_,_=>by simp[toD,same]
 |.int _,.int _,_,_=>by simp[toD,same]
 |.int _,.str _,_,_=>by simp[toD,same]
 |.int _,.lst _,_,_=>by simp[toD,same]
 |.int _,.tup _,_,_=>by simp[toD,same]
 |.str _,.aS,_,_=>by simp[toD,same]
 |.str _,.bl _,_,_=>by simp[toD,same]
 |.str _,.int _,_,_=>by simp[toD,same]
 |.str _,.str _,_,_=>by simp[toD,same]
 |.str _,.lst _,_,_=>by simp[toD,same]
 |.str _,.tup _,_,_=>by simp[toD,same]
 |.lst _,.aS,_,_=>by simp[toD,same]
 |.lst _,.bl _,_,_=>by simp[toD,same]
 |.lst _,.int _,_,_=>by simp[toD,same]
 |.lst _,.str _,_,_=>by simp[toD,same]
 |.lst a,.lst b,d,e=>by rw[fJ]at d e;rw[toD,toD,same,toDL_same a b d e,W.lst.injEq]
 |.lst _,.tup _,_,_=>by simp[toD,same]
 |.tup _,.aS,_,_=>by simp[toD,same]
 |.tup _,.bl _,_,_=>by simp[toD,same]
 |.tup _,.int _,_,_=>by simp[toD,same]
 |.tup _,.str _,_,_=>by simp[toD,same]
 |.tup _,.lst _,_,_=>by simp[toD,same]
 |.tup a,.tup b,d,e=>by rw[fJ]at d e;rw[toD,toD,same,toDL_same a b d e,W.tup.injEq]
 |.ty _,_,d,_=>by simp[fJ]at d
 |.cls _,_,d,_=>by simp[fJ]at d
 |.err _,_,d,_=>by simp[fJ]at d
 |.dct _ _,_,d,_=>by simp[fJ]at d
 |.obj _ _ _,_,d,_=>by simp[fJ]at d
 |.gx _,_,d,_=>by simp[fJ]at d
 |_,.ty _,_,d=>by simp[fJ]at d
 |_,.cls _,_,d=>by simp[fJ]at d
 |_,.err _,_,d=>by simp[fJ]at d
 |_,.dct _ _,_,d=>by simp[fJ]at d
 |_,.obj _ _ _,_,d=>by simp[fJ]at d
 |_,.gx _,_,d=>by simp[fJ]at d
theorem toDL_same:∀x y:List W,nN x=true->nN y=true->(sameAll (toDL x) (toDL y)=true↔x=y)
 |[],[],_,_=>by simp[toDL,sameAll]
 |[],_::_,_,_=>by simp[toDL,sameAll]
 |_::_,[],_,_=>by simp[toDL,sameAll]
 |x::a,y::ys,d,e=>by rw[nN,AN]at d e;rw[toDL,toDL,sameAll,AN,toD_same x y d.1 e.1,toDL_same a ys d.2 e.2,List.cons.injEq]
end
theorem toDL_map:∀l:List W,toDL l=l.map toD
 |[]=>by rw[toDL];rfl
 |w::l=>by rw[toDL,toDL_map l];rfl
theorem qh:∀l:List W,nN l=l.all fJ
 |[]=>by rw[nN];rfl
 |w::l=>by rw[nN,qh l];rfl
theorem Jw:∀(n:Nat)(w:W),(eY n w=true\/iJ n w=true)->fJ w=true/\(toD w).depth<=n+1
 |n,.aS,_=>by simp[fJ,toD,PyData.depth]
 |n,.bl _,_=>by simp[fJ,toD,PyData.depth]
 |n,.int _,_=>by simp[fJ,toD,PyData.depth]
 |n,.str x,h=>by
  have:PyData.strOk x=true:=by
   rcases h with h|h
   ·unfold eY at h;exact h
   ·unfold iJ at h;exact h
  simp[fJ,toD,PyData.depth,this]
 |0,.lst l,h=>by rcases h with h|h<;>simp[eY,iJ]at h
 |0,.tup l,h=>by rcases h with h|h<;>simp[eY,iJ]at h
 |n+1,.lst l,h=>by
  have b:∀w∈l,fJ w=true/\(toD w).depth<=n+1:=λw a=>by
   refine Jw n w ?_;rcases h with h|h
   ·rw[eY]at h;exact .inl (HI.mp h w a)
   ·rw[iJ]at h;exact .inr (HI.mp h w a)
  refine⟨by rw[fJ,qh];exact HI.mpr λw a=>(b w a).1,?_⟩;rw[toD,toDL_map];exact Nat.succ_le_succ (xh λx c=>by obtain⟨w,a,rfl⟩:=KE.mp c;exact(b w a).2)
 |n+1,.tup l,h=>by
  have b:∀w∈l,fJ w=true/\(toD w).depth<=n+1:=λw a=>by
   refine Jw n w ?_;rcases h with h|h
   ·rw[eY]at h;exact .inl (HI.mp h w a)
   ·rw[iJ]at h;exact .inr (HI.mp h w a)
  refine⟨by rw[fJ,qh];exact HI.mpr λw a=>(b w a).1,?_⟩;rw[toD,toDL_map];exact Nat.succ_le_succ (xh λx c=>by obtain⟨w,a,rfl⟩:=KE.mp c;exact(b w a).2)
 |0,.ty _,h=>by rcases h with h|h<;>simp[eY,iJ]at h
 |0,.cls _,h=>by rcases h with h|h<;>simp[eY,iJ]at h
 |0,.err _,h=>by rcases h with h|h<;>simp[eY,iJ]at h
 |0,.dct _ _,h=>by rcases h with h|h<;>simp[eY,iJ]at h
 |0,.obj _ _ _,h=>by rcases h with h|h<;>simp[eY,iJ]at h
 |0,.gx _,h=>by rcases h with h|h<;>simp[eY,iJ]at h
 |n+1,.ty _,h=>by rcases h with h|h<;>simp[eY,iJ]at h
 |n+1,.cls _,h=>by rcases h with h|h<;>simp[eY,iJ]at h
 |n+1,.err _,h=>by rcases h with h|h<;>simp[eY,iJ]at h
 |n+1,.dct _ _,h=>by rcases h with h|h<;>simp[eY,iJ]at h
 |n+1,.obj _ _ _,h=>by rcases h with h|h<;>simp[eY,iJ]at h
 |n+1,.gx _,h=>by rcases h with h|h<;>simp[eY,iJ]at h
inductive Bq(b:Bool):PyData->Prop where
 |none:Bq b .none
 |str (x:Str):Bq b (.str x)
 |bool (x:Bool) (h:b=true):Bq b (.bool x)
 |int (x:Int) (h:b=false):Bq b (.int x)
 |list {l:List PyData} (h:∀x∈l,Bq b x):Bq b (.list l)
 |tuple {l:List PyData} (h:∀x∈l,Bq b x):Bq b (.tuple l)
mutual
theorem uX{b:Bool}:∀d e:PyData,Bq b d->Bq b e->SeqAt.noMix d e=true
 |.list a,.list ys,h,k=>by
  cases h with
  |list h=>
   cases k with
   |list k=>rw[SeqAt.noMix];exact qi a ys h k
 |.tuple a,.tuple ys,h,k=>by
  cases h with
  |tuple h=>
   cases k with
   |tuple k=>rw[SeqAt.noMix];exact qi a ys h k
 |.bool _,.int _,h,k=>by
  cases h with
  |bool _ h=>
   cases k with
   |int _ k=>rw[h]at k;cases k
 |.int _,.bool _,h,k=>by
  cases h with
  |int _ h=>
   cases k with
   |bool _ k=>rw[h]at k;exact ff k
 |.dict _,_,h,_=>by cases h
 |.none,.none,_,_=>by simp[SeqAt.noMix]
 |.none,.bool _,_,_=>by simp[SeqAt.noMix]
 |.none,.int _,_,_=>by simp[SeqAt.noMix]
 |.none,.str _,_,_=>by simp[SeqAt.noMix]
 |.none,.list _,_,_=>by simp[SeqAt.noMix]
 |.none,.tuple _,_,_=>by simp[SeqAt.noMix]
 |.none,.dict _,_,_=>by simp[SeqAt.noMix]
 |.bool _,.none,_,_=>by simp[SeqAt.noMix]
 |.bool _,.bool _,_,_=>by simp[SeqAt.noMix]
 |.bool _,.str _,_,_=>by simp[SeqAt.noMix]
 |.bool _,.list _,_,_=>by simp[SeqAt.noMix]
 |.bool _,.tuple _,_,_=>by simp[SeqAt.noMix]
 |.bool _,.dict _,_,_=>by simp[SeqAt.noMix]
 |.int _,.none,_,_=>by simp[SeqAt.noMix]
 |.int _,.int _,_,_=>by simp[SeqAt.noMix]
 |.int _,.str _,_,_=>by simp[SeqAt.noMix]
 |.int _,.list _,_,_=>by simp[SeqAt.noMix]
 |.int _,.tuple _,_,_=>by simp[SeqAt.noMix]
 |.int _,.dict _,_,_=>by simp[SeqAt.noMix]
 |.str _,.none,_,_=>by simp[SeqAt.noMix]
 |.str _,.bool _,_,_=>by simp[SeqAt.noMix]
 |.str _,.int _,_,_=>by simp[SeqAt.noMix]
 |.str _,.str _,_,_=>by simp[SeqAt.noMix]
 |.str _,.list _,_,_=>by simp[SeqAt.noMix]
 |.str _,.tuple _,_,_=>by simp[SeqAt.noMix]
 |.str _,.dict _,_,_=>by simp[SeqAt.noMix]
 |.list _,.none,_,_=>by simp[SeqAt.noMix]
 |.list _,.bool _,_,_=>by simp[SeqAt.noMix]
 |.list _,.int _,_,_=>by simp[SeqAt.noMix]
 |.list _,.str _,_,_=>by simp[SeqAt.noMix]
 |.list _,.tuple _,_,_=>by simp[SeqAt.noMix]
 |.list _,.dict _,_,_=>by simp[SeqAt.noMix]
 |.tuple _,.none,_,_=>by simp[SeqAt.noMix]
 |.tuple _,.bool _,_,_=>by simp[SeqAt.noMix]
 |.tuple _,.int _,_,_=>by simp[SeqAt.noMix]
 |.tuple _,.str _,_,_=>by simp[SeqAt.noMix]
 |.tuple _,.list _,_,_=>by simp[SeqAt.noMix]
 |.tuple _,.dict _,_,_=>by simp[SeqAt.noMix]
theorem qi{b:Bool}:∀a ys:List PyData,(∀x∈a,Bq b x)->(∀y∈ys,Bq b y)->SeqAt.noMixAll a ys=true
 |[],[],_,_=>by simp[SeqAt.noMixAll]
 |[],_::_,_,_=>by simp[SeqAt.noMixAll]
 |_::_,[],_,_=>by simp[SeqAt.noMixAll]
 |x::a,y::ys,h,k=>by rw[SeqAt.noMixAll,uX x y (h x FK) (k y FK),qi a ys (λz hz=>h z (DL _ hz)) λz hz=>k z (DL _ hz)];rfl
end
theorem uY:∀(n:Nat)(w:W),eY n w=true->Bq false (toD w)
 |n,.aS,_=>by rw[toD];exact .none
 |n,.int i,_=>by rw[toD];exact .int i rfl
 |n,.str x,_=>by rw[toD];exact .str x
 |n,.bl _,h=>by cases n<;>simp[eY]at h
 |n+1,.lst l,h=>by rw[eY]at h;rw[toD,toDL_map];exact .list λx a=>by obtain⟨w,b,rfl⟩:=KE.mp a;exact uY n w (HI.mp h w b)
 |n+1,.tup l,h=>by rw[eY]at h;rw[toD,toDL_map];exact .tuple λx a=>by obtain⟨w,b,rfl⟩:=KE.mp a;exact uY n w (HI.mp h w b)
 |0,.lst l,h=>by simp[eY]at h
 |0,.tup l,h=>by simp[eY]at h
 |n,.ty _,h=>by cases n<;>simp[eY]at h
 |n,.cls _,h=>by cases n<;>simp[eY]at h
 |n,.err _,h=>by cases n<;>simp[eY]at h
 |n,.dct _ _,h=>by cases n<;>simp[eY]at h
 |n,.obj _ _ _,h=>by cases n<;>simp[eY]at h
 |n,.gx _,h=>by cases n<;>simp[eY]at h
theorem uZ:∀(n:Nat)(w:W),iJ n w=true->Bq true (toD w)
 |n,.aS,_=>by rw[toD];exact .none
 |n,.bl i,_=>by rw[toD];exact .bool i rfl
 |n,.str x,_=>by rw[toD];exact .str x
 |n,.int _,h=>by cases n<;>simp[iJ]at h
 |n+1,.lst l,h=>by rw[iJ]at h;rw[toD,toDL_map];exact .list λx a=>by obtain⟨w,b,rfl⟩:=KE.mp a;exact uZ n w (HI.mp h w b)
 |n+1,.tup l,h=>by rw[iJ]at h;rw[toD,toDL_map];exact .tuple λx a=>by obtain⟨w,b,rfl⟩:=KE.mp a;exact uZ n w (HI.mp h w b)
 |0,.lst l,h=>by simp[iJ]at h
 |0,.tup l,h=>by simp[iJ]at h
 |n,.ty _,h=>by cases n<;>simp[iJ]at h
 |n,.cls _,h=>by cases n<;>simp[iJ]at h
 |n,.err _,h=>by cases n<;>simp[iJ]at h
 |n,.dct _ _,h=>by cases n<;>simp[iJ]at h
 |n,.obj _ _ _,h=>by cases n<;>simp[iJ]at h
 |n,.gx _,h=>by cases n<;>simp[iJ]at h
section
variable{X:Cx}
theorem u7(D:X.A.units+64<cLine)(g:Bool){a:List (Addr×Obj)}{s:Shared}{f:St}{H:Hp}{B:Addr->Prop}{x y:W}{m l:V}{v u:Value}{P:KP}{Q:VK}(I:Inv X a f H s)(r:RelV m v)(p:RelV l u)(C:aX X.K B H x m)(z:aX X.K B H y l)
 (h:((eY 9 x=true/\eY 9 y=true)\/(iJ 9 x=true/\iJ 9 y=true))/\∀b:Bool,(b=true↔x=y)->P (.bl (if g then !b else b)))(c:Cont X.K B H .s P Q):
 wpAny (model X.prog X.w) X.A (compareOp (if g then .NotEq else .Eq) v u) (EP X a f Q) X.xe s:=by
 obtain⟨i,h⟩:=h;have e:=Jw 9 x (i.imp And.left And.left);have d:=Jw 9 y (i.imp And.right And.right);have o:SeqAt.shaped (toD x)=true:=by unfold SeqAt.shaped;rw[toD_lay x e.1,KM (DD e.2 (by decide))];rfl
 have n:SeqAt.shaped (toD y)=true:=by unfold SeqAt.shaped;rw[toD_lay y d.1,KM (DD d.2 (by decide))];rfl
 have t:SeqAt.noMix (toD x) (toD y)=true:=by
  rcases i with⟨k,j⟩|⟨k,j⟩
  ·exact uX _ _ (uY 9 x k) (uY 9 y j)
  ·exact uX _ _ (uZ 9 x k) (uZ 9 y j)
 have q:=h (same (toD x) (toD y)) (toD_same x y e.1 d.1);cases g with
 |true=>exact NO D a s f H _ _ v u Q I r p ⟨_,_,Jv e.1 C,Jv d.1 z,⟨o,n,t⟩,c.now q (Bo _)⟩
 |false=>exact Fc D a s f H _ _ v u Q I r p ⟨_,_,Jv e.1 C,Jv d.1 z,⟨o,n,t⟩,c.now q (Bo _)⟩
theorem Mc(p:X.A.units+64<cLine)(e:Bool):Jq X (compareOp (if e then .NotEq else .Eq)) (Wv e) mS:=by
 intro f s r H B x y E D v u P Q I d l g n m h c;have sc:∀a b:V,Nl a b=true->(∀k:Bool,k=decide (a=b)->Q (.bl (if e then !k else k)) H)->RelV a v->RelV b u->wpAny (model X.prog X.w) X.A (compareOp (if e then .NotEq else .Eq) v u) (EP X f r Q) X.xe s:=λa b C q z t=>by
  cases e with
  |true=>exact R9 f s r H _ _ v u Q I z t ⟨C,q _ rfl⟩
  |false=>exact LV f s r H _ _ v u Q I z t ⟨C,q _ rfl⟩
 cases x with
 |int i=>
  cases y with
  |int j=>
   cases n.int;cases m.int;refine sc _ _ rfl (λk o=>c.now (w:=.bl (if e then !k else k)) ?_ (Bo _)) l g;rw[o,show decide (V.int i=V.int j)=decide (i=j)from by simp];exact h
  |_=>exact u7 p e I l g n m h c
 |str i=>
  cases y with
  |str j=>
   cases n.str;cases m.str;refine sc _ _ rfl (λk o=>c.now (w:=.bl (if e then !k else k)) ?_ (Bo _)) l g;rw[o,show decide (V.str i=V.str j)=decide (i=j)from by simp];exact h
  |_=>exact u7 p e I l g n m h c
 |bl i=>
  cases y with
  |bl j=>
   cases n.bl;cases m.bl;refine sc _ _ rfl (λk o=>c.now (w:=.bl (if e then !k else k)) ?_ (Bo _)) l g;rw[o,show decide (V.bl i=V.bl j)=decide (i=j)from by simp];exact h
  |_=>exact u7 p e I l g n m h c
 |_=>exact u7 p e I l g n m h c
theorem Me(i:Bool):Jq X (compareOp (if i then .IsNot else .Is)) (Ww i) mS:=by
 intro j s m H B x y n t v u P Q I d r o l C h c;have a:t=.aS->(∀k:Bool,k=decide (n=.aS)->P (.bl (if i then !k else k)))->wpAny (model X.prog X.w) X.A (compareOp (if i then .IsNot else .Is) v u) (EP X j m Q) X.xe s:=λe q=>by
  cases i with
  |true=>exact Ih j s m H _ _ v u Q I r o ⟨e,c.now (q _ rfl) (Bo _)⟩
  |false=>exact Nm j s m H _ _ v u Q I r o ⟨e,c.now (q _ rfl) (Bo _)⟩
 cases y with
 |aS=>
  have e:=C.aS;cases x with
  |aS=>have g:=l.aS;refine a e λk f=>?_;rw[f,g];cases i<;>exact h
  |bl b=>have g:=l.bl;refine a e λk f=>?_;rw[f,g];cases i<;>exact h
  |int b=>have g:=l.int;refine a e λk f=>?_;rw[f,g];cases i<;>exact h
  |str b=>have g:=l.str;refine a e λk f=>?_;rw[f,g];cases i<;>exact h
  |lst b=>obtain⟨p,z,g,_⟩:=l.lst;refine a e λk f=>?_;rw[f,g];cases i<;>exact h
  |tup b=>obtain⟨p,z,g,_⟩:=l.tup;refine a e λk f=>?_;rw[f,g];cases i<;>exact h
  |err b=>have l:Rep X.K B H (.err b) n:=l;rw[Rep]at l;obtain⟨p,g,_⟩:=l;refine a e λk f=>?_;rw[f,g];cases i<;>exact h
  |_=>exact h.elim
 |_=>
  exfalso
  cases x<;>exact h
theorem u9(b:X.A.units+64<cLine)(op:CmpOp):Jq X (compareOp op) (eT op) mS:=by
 cases op with
 |Eq=>exact Mc b false
 |NotEq=>exact Mc b true
 |Lt=>exact uW Sa
 |LtE=>exact uW Sb
 |Gt=>exact uW Sd
 |GtE=>exact uW Se
 |Is=>exact Me false
 |IsNot=>exact Me true
 |_=>exact λa s e H B x y g f v u P Q I d j i l k h c=>h.elim
end
noncomputable def ER(X:Cx)(b:Hp)(R:Addr->Prop):Prop:=∃E:XK,Passes (dP X.prog X.w) X E/\(∀C a,R C->aq b a->E (.ref C) none a)/\zE X (λC a=>R C/\aq b a)
theorem C6{X:Cx}:Passes (dP X.prog X.w) X E0:=λ_ _ _ _ _ _ _ h=>by obtain⟨_,_,_,_,_,q⟩:=h;exact q.elim
theorem ER.none{X:Cx}{a:Hp}:ER X a λ_=>False:=⟨E0,C6,λ_ _ z=>z.elim,λ_ _ _ _ _ _ _ _ _ _ z=>z.1.elim⟩
abbrev RL:=(Addr->Prop)->Hp->Hp->W->V->Prop
abbrev WT:=Ev->(W->Prop)->Prop
noncomputable def N8(K:Frag)(m:Md):RL:=λB H a w v=>dU K B H a m w v
noncomputable def XW(K:Frag):RL:=λB _ a w v=>aX K B a w v
noncomputable def tV(X:Cx)(M:Ms)(R:Addr->Prop)(ρ:RL)(t:WT):TE:=λb H Q=>∃A d c P,SR X.K M A d b H c/\ER X d R/\t c P/\∀w v a,P w->aq H a->ρ (FB A M b) H a w v->Q v a
noncomputable def XX(X:Cx)(M:Ms)(R:Addr->Prop)(t:WT):TT:=λe H Q=>∃A c a P,SR X.K M A c e H a/\ER X c R/\t a P/\∀x d,P x->aq H d->∃b,x=.bl b/\Q b d
abbrev Wx:=(Addr->Prop)->Hp->List W->List V->Prop
noncomputable def XY(X:Cx)(M:Ms)(R:Addr->Prop)(ρ:Wx)(t:Ev->(List W->Prop)->Prop):TA:=λb H Q=>∃A f c P,SR X.K M A f b H c/\ER X f R/\t c P/\∀d e a,P d->aq H a->ρ (FB A M b) a d e->Q e a
abbrev VE(X:Cx)(M:Ms)(R:Addr->Prop)(m:Md)(e:Expr)(t:WT):Prop:=PE X e (tV X M R (N8 X.K m) t)
abbrev VB(X:Cx)(M:Ms)(R:Addr->Prop)(e:Expr)(t:WT):Prop:=PE X e (tV X M R (XW X.K) t)
abbrev VT(X:Cx)(M:Ms)(R:Addr->Prop)(e:Expr)(t:WT):Prop:=PT X e (XX X M R t)
noncomputable def ou(K:Frag)(B:Addr->Prop)(H:Hp):List W->List V->Prop
 |[],vs=>vs=[]
 |w::a,vs=>∃v r,vs=v::r/\aX K B H w v/\ou K B H a r
noncomputable def ZH(K:Frag):Wx:=λB H a b=>ai K B H a b
noncomputable def Wy(K:Frag):Wx:=λB H a b=>ou K B H a b
abbrev VA(X:Cx)(M:Ms)(R:Addr->Prop)(es:List Expr)(t:Ev->(List W->Prop)->Prop):Prop:=PA X es (XY X M R (ZH X.K) t)
abbrev Rr(X:Cx)(M:Ms)(R:Addr->Prop)(es:List Expr)(t:Ev->(List W->Prop)->Prop):Prop:=PA X es (XY X M R (Wy X.K) t)
theorem PE.imp{X:Cx}{e:Expr}{t t':TE}(h:PE X e t)(k:∀a H Q,t' a H Q->t a H Q):PE X e t':=λb s a H Q I w=>h b s a H Q I (k a H Q w)
theorem PT.imp{X:Cx}{e:Expr}{t t':TT}(h:PT X e t)(k:∀a H Q,t' a H Q->t a H Q):PT X e t':=λb s a H Q I w=>h b s a H Q I (k a H Q w)
theorem PW.imp{X:Cx}{e:Expr}{t t':TT}(h:PW X e t)(k:∀a H Q,t' a H Q->t a H Q):PW X e t':=λc b s a H Q I w=>h c b s a H Q I (k a H Q w)
theorem PA.imp{X:Cx}{e:List Expr}{t t':TA}(h:PA X e t)(k:∀a H Q,t' a H Q->t a H Q):PA X e t':=λc b s a H Q I w=>h c b s a H Q I (k a H Q w)
section
variable{X:Cx}{M:Ms}{R:Addr->Prop}{e a b c:Expr}{t ta tb tc:WT}{m:Md}{pos:Pos}
theorem C7(h:VE X M R m e t):VE X M R .s e t:=PE.imp h<|by rintro l H Q ⟨A,i,d,P,S,g,p,k⟩;exact⟨A,i,d,P,S,g,p,λw v j f s r=>k w v j f s (r.s S.dom)⟩
theorem Tv(h:VE X M R m e t):VB X M R e t:=PE.imp h<|by rintro l H Q ⟨A,i,d,P,S,g,p,k⟩;exact⟨A,i,d,P,S,g,p,λw v j f s r=>k w v j f s (r.rep S.dom).b⟩
theorem F7{i:Nat}(h:PE X e (jQ i))(r:aU M i->(i,.f)∈M):VB X M R e (λg Q=>match look g i with|some w=>Q w|none=>False):=PE.imp h<|by
 rintro x H Q ⟨A,B,g,P,S,z,p,k⟩
 revert p
 cases l:look g i with
 |none=>exact λp=>p.elim
 |some w=>
  intro p;by_cases n:aU M i
  ·obtain⟨F,O⟩:=S.ow;obtain⟨v,j,d⟩:=O.val i .f w (r n) l;rw[Fp]at d;obtain⟨y,q,o,rfl,rfl,_,u,s⟩:=d;exact⟨_,j,k _ _ H p (aq.refl H) ⟨q,o,rfl,.inl u,s⟩⟩
  ·obtain⟨v,j,d⟩:=S.sh i w n l;exact⟨v,j,k _ _ H p (aq.refl H) d.b⟩
theorem N9{i:Nat}(h:PE X e (jQ i))(g:¬aU M i):VE X M R .s e (λd Q=>match look d i with|some w=>Q w|none=>False):=PE.imp h<|by
 rintro n H Q ⟨A,q,d,P,S,o,p,k⟩
 revert p
 cases f:look d i with
 |none=>exact λp=>p.elim
 |some w=>intro p;obtain⟨v,l,j⟩:=S.sh i w g f;exact⟨v,l,k _ _ H p (aq.refl H) (.of j)⟩
noncomputable def qj(K:Frag)(i:Nat)(π:List kM):TE:=λd H Q=>∃v u,d[i]?=some (some v)/\wu K H v π u/\Q u H
theorem F8{i:Nat}{π:List kM}{m h:Md}{K:Frag}{A:Fz}{s H:Hp}{f:St}{g:Ev}{w u:W}(S:SR K M A s f H g)(l:(i,m)∈M)(k:iT m π=some h)(n:look g i=some w)(j:bF w π=some u):
 ∃v d F,f[i]?=some (some v)/\wu K H v π d/\Fp K A.B H h u d F:=by
 obtain⟨F,O⟩:=S.ow;obtain⟨v,p,o⟩:=O.val i m w l n;obtain⟨d,z,x,y,_,r,q,_⟩:=Fp.path π m o k j;exact⟨v,d,x,p,r,q⟩
theorem xJ{d:Ev}{i:Nat}{π:List kM}{Q:W->Prop}(h:match look d i with|some w=>(match bF w π with|some u=>Q u|none=>False)|none=>False):∃w u,look d i=some w/\bF w π=some u/\Q u:=by
 cases g:look d i with
 |none=>rw[g]at h;exact h.elim
 |some w=>
  rw[g]at h;dsimp only at h;cases f:bF w π with
  |none=>rw[f]at h;exact h.elim
  |some u=>rw[f]at h;exact⟨w,u,rfl,f,h⟩
theorem Oa{i:Nat}{π:List kM}{j:Md}(h:PE X e (qj X.K i π))(r:(i,j)∈M)(o:iT j π=some .f):VB X M R e (λg Q=>match look g i with|some w=>(match bF w π with|some u=>Q u|none=>False)|none=>False):=PE.imp h<|by rintro C H Q ⟨A,I,g,P,S,G,p,k⟩;obtain⟨w,u,B,z,q⟩:=xJ p;obtain⟨v,E,F,y,x,d⟩:=F8 S r o B z;rw[Fp]at d;obtain⟨D,n,l,rfl,rfl,_,d,s⟩:=d;exact⟨v,_,y,x,k _ _ H q (aq.refl H) ⟨n,l,rfl,.inl d,s⟩⟩
theorem Ob{i:Nat}{π:List kM}{f:Md}(h:PE X e (qj X.K i π))(n:(i,f)∈M)(l:iT f π=some .s):VE X M R .s e (λd Q=>match look d i with|some w=>(match bF w π with|some u=>Q u|none=>False)|none=>False):=PE.imp h<|by rintro z H Q ⟨A,C,d,P,S,B,p,k⟩;obtain⟨w,u,y,x,q⟩:=xJ p;obtain⟨v,j,F,r,o,g⟩:=F8 S n l y x;rw[Fp]at g;exact⟨v,j,r,o,k _ _ H q (aq.refl H) (.of g.2)⟩
theorem C8{v:V}{w:W}(h:PE X e (tC v))(d:∀B H,Rep X.K B H w v):VE X M R .s e (λ_ Q=>Q w):=PE.imp h<|by rintro f H Q ⟨A,j,g,P,S,i,p,k⟩;exact k _ _ H p (aq.refl H) (.of (d _ _))
theorem F9{op:Operator}(U:VB X M R a ta)(T:VB X M R b tb)(O:∀x y,Ju op x y=m\/m=.s):VE X M R m (.BinOp a op b pos) (λi Q=>ta i λx=>tb i λy=>g8 op x y Q):=by
 rintro j s g H Q I ⟨A,E,i,P,S,D,p,k⟩;refine wpAny_BinOp (bin U T I (R:=λn l f=>∃x y,g8 op x y P/\aq H f/\aX X.K (FB A M g) f x n/\aX X.K (FB A M g) f y l) ⟨A,E,i,_,S,D,p,λx n H1 B C J=>⟨A,E,i,_,S.same C,D,B,λy l f q o G=>⟨x,y,q,C.trans o,aX.same o J,G⟩⟩⟩ ?_);rintro v u o n l f Y rv L ⟨x,y,h,sm,B,q⟩;have d:=(S.same sm).dom;refine zV op j o g f (FB A M g) x y n l v u P Q Y d rv L B q h ?_;have c:Cont X.K (FB A M g) f m P Q:=λw z Z N F r=>k w z Z N (sm.trans F) (r.back sm λ_ z=>z);rcases O x y with e|e
 ·rw[e];exact c
 ·subst e;exact Cont.s d c
end
theorem bG{x:W}{Q:Bool->Prop}(h:truth x Q):∃b,x=.bl b/\Q b:=by
 cases x with
 |bl b=>exact⟨b,rfl,h⟩
 |_=>exact h.elim
theorem Rep.kN{K:Frag}{B:Addr->Prop}{H:Hp}{b:Bool}{v:V}(h:Rep K B H (.bl b) v):v=.bl b:=by rw[Rep]at h;exact h
theorem Rep.int_inv{K:Frag}{B:Addr->Prop}{H:Hp}{b:Int}{v:V}(h:Rep K B H (.int b) v):v=.int b:=by rw[Rep]at h;exact h
theorem dU.bw{K:Frag}{B:Addr->Prop}{H H':Hp}{w:W}{v:V}(h:dU K B H H' .s w v):Rep K B H' w v:=by obtain⟨F,_,_,h⟩:=h;rw[Fp]at h;obtain⟨rfl,h⟩:=h;exact h.less λp z=>.inl z
section
variable{X:Cx}{M:Ms}{R:Addr->Prop}{e a b c:Expr}{t ta tb tc:WT}{m:Md}{pos:Pos}{rest es:List Expr}
noncomputable def Oc:W->Bool
 |.lst _=>true
 |_=>false
theorem Od{op:Operator}{x y:W}{P:W->Prop}(h:g8 op x y P)(d:(op=.Add/\(Oc x=true\/Oc y=true))\/(op=.Mult/\Oc x=true)):Ju op x y=.f:=by
 rcases d with⟨rfl,d⟩|⟨rfl,d⟩
 ·cases x with
  |lst l=>rfl
  |_=>
   rcases d with d|d
   ·cases d
   ·cases y<;>first|exact h.elim|exact ff d
 ·cases x<;>first|rfl|exact ff d
theorem zW{op:Operator}{F G:RL}(ha:PE X a (tV X M R F ta))(hb:PE X b (tV X M R G tb))(h1:∀B H H' w v,Dom B H->F B H H' w v->aX X.K B H' w v)(h2:∀B H H' w v,Dom B H->G B H H' w v->aX X.K B H' w v)
 (ho:∀B H H' w v B2 g ZI J U,F B H H' w v->G B2 g ZI J U->(op=.Add/\(Oc w=true\/Oc J=true))\/(op=.Mult/\Oc w=true)):VE X M R .f (.BinOp a op b pos) (λi Q=>ta i λx=>tb i λy=>g8 op x y Q):=by
 rintro j s l H Q I ⟨A,T,i,P,S,O,p,k⟩;refine wpAny_BinOp (bin ha hb I (R:=λo n g=>∃x y,g8 op x y P/\aq H g/\aX X.K (FB A M l) g x o/\aX X.K (FB A M l) g y n/\Ju op x y=.f) ⟨A,T,i,_,S,O,p,λx o H1 E D N=>⟨A,T,i,_,S.same D,O,E,λy n g C q L=>⟨x,y,C,D.trans q,aX.same q (h1 _ _ _ _ _ S.dom N),h2 _ _ _ _ _ (S.same D).dom L,Od C (ho _ _ _ _ _ _ _ _ _ _ N L)⟩⟩⟩ ?_);rintro v u q o n g I2 rv Z ⟨x,y,h,sm,E,C,em⟩;have d:=(S.same sm).dom;refine zV op j q l g (FB A M l) x y o n v u P Q I2 d rv Z E C h ?_;rw[em];exact λw z H' pw Y r=>k w z H' pw (sm.trans Y) (r.back sm λ_ z=>z)
theorem Oe(j:VE X M R .s a ta):VE X M R .s (.UnaryOp .USub a pos) (λd Q=>ta d λx=>match x with|.int i=>Q (.int (-i))|_=>False):=PE.imp (R6 Nk j)<|by
 rintro q H Q ⟨A,o,d,P,S,l,p,k⟩;refine⟨A,o,d,_,S,l,p,λx r n f g h=>?_⟩;cases x with
 |int i=>exact⟨i,h.bw.int_inv,k _ _ n f g (.of (gf _))⟩
 |_=>exact f.elim
theorem Of(i:VE X M R .s a ta):VE X M R .s (.UnaryOp .Not a pos) (λd Q=>ta d λx=>truth x λb=>Q (.bl (!b))):=PE.imp (M3 i)<|by rintro o H Q ⟨A,n,d,P,S,j,p,k⟩;refine⟨A,n,d,_,S,j,p,λx q l f g h=>?_⟩;obtain⟨b,rfl,f⟩:=bG f;exact⟨b,h.bw.kN,k _ _ l f g (.of (Bo _))⟩
theorem Og{op:CmpOp}(N:X.A.units+64<cLine)(O:behindInMarks op b=false)(U:VB X M R a ta)(T:VB X M R b tb):VE X M R .s (.Compare a [op] [b] pos) (λf Q=>ta f λx=>tb f λy=>eT op x y Q):=by rintro g s i H Q I ⟨A,D,f,P,S,C,p,k⟩;refine wpAny_Compare1 (bin U T I (R:=λl j d=>∃x y,eT op x y P/\aq H d/\aX X.K (FB A M i) d x l/\aX X.K (FB A M i) d y j) ⟨A,D,f,_,S,C,p,λx l H1 q B G=>⟨A,D,f,_,S.same B,C,q,λy j d o n F=>⟨x,y,o,B.trans n,aX.same n G,F⟩⟩⟩ ?_) O;rintro v u n l j d Y rv J ⟨x,y,h,sm,q,o⟩;exact u9 N op g n i d (FB A M i) x y l j v u P Q Y (S.same sm).dom rv J q o h λw z Z L E r=>k w z Z L (sm.trans E) (r.back sm λ_ z=>z)
theorem Oh{op:CmpOp}(hu:X.A.units+64<cLine)(hm:behindInMarks op b=false)(ha:VB X M R a ta)(hb:VB X M R b tb):VT X M R (.Compare a [op] [b] pos) (λj Q=>ta j λx=>tb j λy=>eT op x y Q):=by
 rintro d s i H Q I ⟨A,G,j,P,S,F,p,k⟩;have q:=bin ha hb I (R:=λo n g=>∃x y,eT op x y P/\aq H g/\aX X.K (FB A M i) g x o/\aX X.K (FB A M i) g y n) ⟨A,G,j,_,S,F,p,λx o H1 D B N=>⟨A,G,j,_,S.same B,F,D,λy n g C l L=>⟨x,y,C,B.trans l,aX.same l N,L⟩⟩⟩
  (f:=compareOp op) (Q:=EP X d i λz E=>∃b,z=.bl b/\Q b E)<|by rintro v u l o n g I2 rv O ⟨x,y,h,sm,D,C⟩;refine u9 hu op d l i g (FB A M i) x y o n v u _ _ I2 (S.same sm).dom rv O D C h λw z E pw J r=>?_;obtain⟨b,rfl,q⟩:=k w E pw (sm.trans J);exact⟨b,r.bw.kN,q⟩
 refine wpAny_isTrue_Compare1 (bJ q λv B Z=>bJ Z λu l Y=>bJ Y λc s3 ⟨z,H3,I3,T,b,ez,U⟩=>?_) hm;subst ez;cases T;exact ar ⟨H3,I3,U⟩
theorem Oi(u:VE X M R .s a ta)(r:VE X M R .s (.BoolOp .And (b::rest) pos) tb):VE X M R .s (.BoolOp .And (a::b::rest) pos) (λd Q=>ta d λx=>truth x λk=>if k=true then tb d Q else Q (.bl false)):=
 PE.imp (M1 u r)<|by
  rintro B H Q ⟨A,j,d,P,S,i,h,k⟩;refine⟨A,j,d,_,S,i,h,λx D w g f o=>?_⟩;obtain⟨q,rfl,g⟩:=bG g;refine⟨q,o.bw.kN,?_⟩;cases q with
  |true=>exact⟨A,j,d,_,S.same f,i,g,λy C v p l n=>k _ _ v p (f.trans l) (n.back f λ_ z=>z)⟩
  |false=>exact k _ _ w g f (.of (Bo _))
theorem Tw(u:VE X M R .s a ta)(r:VE X M R .s (.BoolOp .Or (b::rest) pos) tb):VE X M R .s (.BoolOp .Or (a::b::rest) pos) (λd Q=>ta d λx=>truth x λk=>if k=true then Q (.bl true)else tb d Q):=
 PE.imp (RS u r)<|by
  rintro B H Q ⟨A,j,d,P,S,i,h,k⟩;refine⟨A,j,d,_,S,i,h,λx D w g f o=>?_⟩;obtain⟨q,rfl,g⟩:=bG g;refine⟨q,o.bw.kN,?_⟩;cases q with
  |false=>exact⟨A,j,d,_,S.same f,i,g,λy C v p l n=>k _ _ v p (f.trans l) (n.back f λ_ z=>z)⟩
  |true=>exact k _ _ w g f (.of (Bo _))
abbrev Mf(X:Cx)(M:Ms)(R:Addr->Prop)(e:Expr)(t:WT):Prop:=PW X e (XX X M R t)
theorem Jx(d:VT X M R a ta):Mf X M R (.BoolOp .And [a] pos) ta:=AE d
theorem Oj(d:VT X M R a ta):Mf X M R (.BoolOp .Or [a] pos) ta:=Er d
theorem Ol(p:VT X M R a ta)(o:Mf X M R (.BoolOp .And (b::rest) pos) tb):Mf X M R (.BoolOp .And (a::b::rest) pos) (λd Q=>ta d λx=>truth x λk=>if k=true then tb d Q else Q (.bl false)):=
 PW.imp (Es p o)<|by
  rintro u H Q ⟨A,j,d,P,S,i,h,k⟩;refine⟨A,j,d,_,S,i,h,λx s f g=>?_⟩;obtain⟨q,rfl,f⟩:=bG f;refine⟨q,rfl,?_⟩;cases q with
  |true=>exact⟨A,j,d,P,S.same g,i,f,λy r n l=>k _ r n (g.trans l)⟩
  |false=>obtain⟨b,e,q⟩:=k _ s f g;cases e;exact q
theorem Tz(p:VT X M R a ta)(o:Mf X M R (.BoolOp .Or (b::rest) pos) tb):Mf X M R (.BoolOp .Or (a::b::rest) pos) (λd Q=>ta d λx=>truth x λk=>if k=true then Q (.bl true)else tb d Q):=
 PW.imp (LQ p o)<|by
  rintro u H Q ⟨A,j,d,P,S,i,h,k⟩;refine⟨A,j,d,_,S,i,h,λx s f g=>?_⟩;obtain⟨q,rfl,f⟩:=bG f;refine⟨q,rfl,?_⟩;cases q with
  |false=>exact⟨A,j,d,P,S.same g,i,f,λy r n l=>k _ r n (g.trans l)⟩
  |true=>obtain⟨b,e,q⟩:=k _ s f g;cases e;exact q
theorem Om(i:VT X M R a ta):VT X M R (.UnaryOp .Not a pos) (λd Q=>ta d λx=>truth x λb=>Q (.bl (!b))):=PT.imp (zc i)<|by rintro o H Q ⟨A,n,d,P,S,j,h,k⟩;refine⟨A,n,d,_,S,j,h,λx l f g=>?_⟩;obtain⟨q,rfl,f⟩:=bG f;obtain⟨b,e,z⟩:=k _ l f g;cases e;exact⟨q,rfl,z⟩
theorem vd(l:∀d,isTrue e X.env d=(do let v←d;standAt e.pos;holding [v] (truthy v)))(h:VE X M R .s e t):VT X M R e t:=PT.imp (uB h l)<|by rintro q H Q ⟨A,p,f,P,S,n,h,k⟩;refine⟨A,p,f,P,S,n,h,λx r o j g i=>?_⟩;obtain⟨b,rfl,z⟩:=k _ o j g;exact⟨b,i.bw.kN,z⟩
theorem Oo:VA X M R [] (λ_ Q=>Q []):=PA.imp aQ<|by rintro d H Q ⟨A,i,f,P,S,g,h,k⟩;exact k [] [] H h (aq.refl H) .nil
theorem Jy{i:Ev->(List W->Prop)->Prop}(u:starEach (a::es) X.env=(false,eval a X.env)::starEach es X.env)(w:VE X M R .s a ta)(v:VA X M R es i):VA X M R (a::es) (λd Q=>ta d λx=>i d λg=>Q (x::g)):=
 PA.imp (aj w v u)<|by rintro z H Q ⟨A,o,d,P,S,n,h,k⟩;refine⟨A,o,d,_,S,n,h,λx B D r l p=>⟨A,o,d,_,S.same l,n,r,λg C y f j q=>?_⟩⟩;exact k _ _ y f (l.trans j) (.cons (p.bw.same j) q)
theorem Jz:Rr X M R [] (λ_ Q=>Q []):=PA.imp aQ<|by rintro d H Q ⟨A,i,f,P,S,g,h,k⟩;exact k [] [] H h (aq.refl H) rfl
theorem Ga{i:Ev->(List W->Prop)->Prop}(v:starEach (a::es) X.env=(false,eval a X.env)::starEach es X.env)(y:VB X M R a ta)(w:Rr X M R es i):Rr X M R (a::es) (λd Q=>ta d λx=>i d λg=>Q (x::g)):=
 PA.imp (aj y w v)<|by rintro B H Q ⟨A,o,d,P,S,n,h,k⟩;refine⟨A,o,d,_,S,n,h,λx p C u l r=>⟨A,o,d,_,S.same l,n,u,λg q z f j s=>?_⟩⟩;exact k _ _ z f (l.trans j) ⟨p,q,rfl,aX.same j r,s⟩
theorem Oq{i:Ev->(List W->Prop)->Prop}(h:VA X M R es i):VE X M R .f (.List es pos) (λd Q=>i d λg=>g.length<=sizeLine/\Q (.lst g)):=PE.imp (nA h)<|by rintro s H Q ⟨A,r,d,P,S,q,h,k⟩;refine⟨A,r,d,_,S,q,h,λg u v n j l=>?_⟩;refine⟨by rw[ai.len l];exact n.1,λp o=>?_⟩;exact k _ _ _ n.2 (j.trans (aG o _)) (.fresh j o l)
theorem Ot{g:Ev->(List W->Prop)->Prop}{n:Nat}(h:VA X M R es g):VE X M R .s (.Tuple es n pos) (λd Q=>g d λf=>f.length<=sizeLine/\Q (.tup f)):=PE.imp (EG h)<|by rintro u H Q ⟨A,r,d,P,S,q,h,k⟩;refine⟨A,r,d,_,S,q,h,λf v w j o i=>?_⟩;refine⟨by rw[ai.len i];exact j.1,λp l=>?_⟩;exact k _ _ _ j.2 (o.trans (aG l _)) (.of (zU ao (ai.same (aG l _) i)))
theorem Br{K:Frag}{B:Addr->Prop}{H:Hp}{l:List W}{vs:List V}{i:Int}{w:W}(h:ai K B H l vs)(e:kZ l i=some w):∃v,kZ vs i=some v/\Rep K B H w v:=by
 unfold kZ at e⊢;rw[h.len];cases d:wj l.length i with
 |none=>rw[d]at e;exact nn e
 |some j=>rw[d]at e;exact h.get e
theorem aX.gx{K:Frag}{B:Addr->Prop}{H:Hp}{ns:List Int}{v:V}(h:aX K B H (.gx ns) v):∃p,v=.ref p/\gU K H p (ns.map V.int):=by
 have h:Rep K B H (.gx ns) v:=h;rw[Rep]at h;obtain⟨p,e,h⟩:=h;refine⟨p,e,?_⟩;rcases h with⟨o,h⟩|h
 ·exact .inl (.inr ⟨o,h⟩)
 ·rcases h with(h|⟨o,h⟩)|h
  ·cases h
  ·cases h
  ·exact .inr h
theorem Bs{ns:List Int}{i n:Int}(e:kZ ns i=some n):kZ (ns.map V.int) i=some (.int n):=by
 unfold kZ at e⊢;rw[Ap];cases d:wj ns.length i with
 |none=>rw[d]at e;exact nn e
 |some j=>rw[d]at e;show(ns.map V.int)[j]?=_;have e:ns[j]?=some n:=e;rw[FM,e];rfl
theorem TF(I:lA b)(K:VB X M R a ta)(J:VE X M R .s b tb):VE X M R .s (.Subscript a b pos) (λf Q=>ta f λx=>tb f λy=>N3 x y Q):=PE.imp (EJ zv K J I)<|by
 rintro L H Q ⟨A,F,f,P,S,E,h,k⟩;refine⟨A,F,f,_,S,E,h,λx O U G q g=>⟨A,F,f,_,S.same q,E,G,λy N D d o u=>?_⟩⟩;have g:=aX.same o g;cases x with
 |lst l=>
  cases y with
  |int i=>obtain⟨p,r,rfl,j,B⟩:=g.lst;obtain⟨w,e,d⟩:=d;obtain⟨v,C,z⟩:=Br B e;exact .inl ⟨p,r,i,v,rfl,u.bw.int_inv,.inl j,C,k _ _ D d (q.trans o) (.of z)⟩
  |_=>exact d.elim
 |tup l=>
  cases y with
  |int i=>obtain⟨p,r,rfl,j,B⟩:=g.tup;obtain⟨w,e,d⟩:=d;obtain⟨v,C,z⟩:=Br B e;exact .inr (.inl ⟨p,r,i,v,rfl,u.bw.int_inv,j,C,k _ _ D d (q.trans o) (.of z)⟩)
  |_=>exact d.elim
 |gx T=>
  cases y with
  |int i=>obtain⟨p,rfl,j⟩:=g.gx;obtain⟨n,e,d⟩:=d;exact .inl ⟨p,_,i,_,rfl,u.bw.int_inv,j,Bs e,k _ _ D d (q.trans o) (.of (gf _))⟩
  |_=>exact d.elim
 |_=>exact d.elim
theorem Mg{K:Frag}{B:Addr->Prop}{H:Hp}{l:List W}{vs:List V}(h:ai K B H l vs)(d f:Option Int):ai K B H (nK l d f) (CD vs d f):=by unfold nK CD;rw[h.len];exact(h.drop _).take _
noncomputable def TH(X:Cx)(M:Ms)(R:Addr->Prop)(t:Ev->(Option Int->Prop)->Prop):TO:=λh H Q=>∃A f d P,SR X.K M A f h H d/\ER X f R/\t d P/\∀o g,P o->aq H g->Q o g
theorem PO.imp{e:Option Expr}{t t':TO}(h:PO X e t)(k:∀d H Q,t' d H Q->t d H Q):PO X e t':=λf s d H Q I w=>h f s d H Q I (k d H Q w)
theorem JA:PO X none (TH X M R λ_ Q=>Q none):=PO.imp Ip<|by rintro d H Q ⟨A,i,f,P,S,g,h,k⟩;exact k none H h (aq.refl H)
theorem JB(l:VE X M R .s a ta):PO X (some a) (TH X M R λd Q=>ta d λy=>match y with|.int i=>Q (some i)|_=>False):=PO.imp (Iq l)<|by
 rintro q H Q ⟨A,p,d,P,S,n,h,k⟩;refine⟨A,p,d,_,S,n,h,λx r o f g j=>?_⟩;cases x with
 |int i=>exact⟨i,j.bw.int_inv,k _ o f g⟩
 |_=>exact f.elim
theorem TJ{z B:Option Expr}{p2:Pos}{tl y:Ev->(Option Int->Prop)->Prop}(F:VB X M R a ta)(s:PO X z (TH X M R tl))(o:PO X B (TH X M R y)):VE X M R .f (.Subscript a (.Slice z B none p2) pos) (λd Q=>ta d λx=>tl d λl=>y d λh=>Ve x l h Q):=
 PE.imp (EI Iw F s o)<|by
  rintro I H Q ⟨A,w,d,P,S,v,h,k⟩;refine⟨A,w,d,_,S,v,h,λx K O E i r=>⟨A,w,d,_,S.same i,v,E,λl N s g=>⟨A,w,d,_,S.same (i.trans g),v,s,λh L o j=>?_⟩⟩⟩;have r:=aX.same (g.trans j) r;cases x with
  |lst J=>obtain⟨p,C,rfl,u,G⟩:=r.lst;refine⟨p,C,rfl,.inl u,λq n=>?_⟩;exact k _ _ _ o (((i.trans g).trans j).trans (aG n _)) (.fresh ((i.trans g).trans j) n (Mg G l h))
  |gx D=>obtain⟨p,rfl,u⟩:=r.gx;refine⟨p,_,rfl,u,λq n=>?_⟩;exact k _ _ _ o (((i.trans g).trans j).trans (aG n _)) (.fresh ((i.trans g).trans j) n (Mg (ai.Jm D) l h))
  |_=>exact o.elim
noncomputable def TL:BI->Md
 |.list=>.f
 |_=>.s
noncomputable def i9(X:Cx)(f:Value)(b:BI):Prop:=
 ∀(d:List (Addr×Obj))(s:Shared)(g:St)(H:Hp)(B:Addr->Prop)(h:List W)(i:List V)(j:List Value)(P:KP)(Q:VK),Inv X d g H s->Dom B H->Vals i j->ou X.K B H h i->sf b h P->Cont X.K B H (TL b) P Q->
  wpAny (model X.prog X.w) X.A (call f j) (EP X d g Q) X.xe s
noncomputable def Ou(K:Frag)(b:BI):List V->Hp->VK->Prop:=λf H Q=>∃(B:Addr->Prop)(d:List W)(P:KP),Dom B H/\ou K B H d f/\sf b d P/\Cont K B H (TL b) P Q
theorem i9.r{f:Value}{b:BI}(h:i9 X f b):cF X f (Ou X.K b):=by rintro g s i H l n Q I r ⟨B,j,P,d,p,o,k⟩;exact h g s i H B j l n P Q I d r p o k
theorem ja{K:Frag}{B:Addr->Prop}{H:Hp}{w:W}{vs:List V}(h:ou K B H [w] vs):∃v,vs=[v]/\aX K B H w v:=by obtain⟨v,r,rfl,f,d⟩:=h;cases(show r=[]from d);exact⟨v,rfl,f⟩
theorem Bt{K:Frag}{B:Addr->Prop}{H:Hp}{w w':W}{vs:List V}(h:ou K B H [w,w'] vs):∃v d,vs=[v,d]/\aX K B H w v/\aX K B H w' d:=by obtain⟨v,r,rfl,i,g⟩:=h;obtain⟨d,rfl,f⟩:=ja g;exact⟨v,d,rfl,i,f⟩
theorem cw_len:i9 X (.builtin "len") .len:=by
 intro f s k H B q u n P Q I d r o h c
 match q,h with
 |[.lst l],h=>obtain⟨v,rfl,g⟩:=ja o;obtain⟨p,i,rfl,g,j⟩:=g.lst;exact iN f s k H _ n Q I r ⟨p,i,rfl,.inl (.inl g),c.now (w:=.int i.length) (by rw[j.len];exact h) (gf _)⟩
 |[.tup l],h=>obtain⟨v,rfl,g⟩:=ja o;obtain⟨p,i,rfl,g,j⟩:=g.tup;exact iN f s k H _ n Q I r ⟨p,i,rfl,.inr g,c.now (w:=.int i.length) (by rw[j.len];exact h) (gf _)⟩
 |[.gx ns],h=>obtain⟨v,rfl,g⟩:=ja o;obtain⟨p,rfl,j⟩:=g.gx;exact iN f s k H _ n Q I r ⟨p,_,rfl,.inl j,c.now (w:=.int ns.length) h (by rw[Ap];exact gf _)⟩
theorem cw_abs:i9 X (.builtin "abs") .abs:=by
 intro f s g H B j o k P Q I d r l h c
 match j,h with
 |[.int i],h=>obtain⟨v,rfl,n⟩:=ja l;cases n.int;exact EB f s g H _ k Q I r ⟨i,rfl,c.now h (gf _)⟩
theorem cw_max(n:X.calm=true):i9 X (.builtin "max") .max2:=by
 intro f s g H B k u l P Q I d r o h c
 match k,h with
 |[.int i,.int j],h=>obtain⟨v,w,rfl,q,p⟩:=Bt o;cases q.int;cases p.int;exact Cv n f s g H _ l Q I r ⟨i,j,rfl,c.now h (gf _)⟩
theorem cw_dvm:i9 X (.builtin "divmod") .Rn:=by
 intro f s g H B k w l P Q I d r o h c
 match k,h with
 |[.int i,.int j],h=>obtain⟨v,x,rfl,u,p⟩:=Bt o;cases u.int;cases p.int;exact wL f s g H _ l Q I r ⟨i,j,rfl,h.1,λq n=>c _ _ _ h.2 (aG n _) (.of (zU ao (.cons (gf _) (.cons (gf _) .nil))))⟩
theorem cw_min(n:X.calm=true):i9 X (.builtin "min") .min2:=by
 intro f s g H B k u l P Q I d r o h c
 match k,h with
 |[.int i,.int j],h=>obtain⟨v,w,rfl,q,p⟩:=Bt o;cases q.int;cases p.int;exact Cw n f s g H _ l Q I r ⟨i,j,rfl,c.now h (gf _)⟩
theorem cw_sum(o:X.calm=true):i9 X (.builtin "sum") .sum:=by
 intro f s i H B j x k P Q I d r q h c
 match j,h with
 |[.lst l],h=>obtain⟨n,rfl,h⟩:=h;obtain⟨v,rfl,g⟩:=ja q;obtain⟨p,w,rfl,g,u⟩:=g.lst;have e:=ai.ints u;subst e;exact CQ o f s i H _ k Q I r ⟨p,n,rfl,.inl g,c.now h (gf _)⟩
theorem cw_all(n:X.calm=true):i9 X (.builtin "all") .all:=by
 intro f s i H B j x k P Q I d r o h c
 match j,h with
 |[.lst l],h=>obtain⟨u,rfl,h⟩:=h;obtain⟨v,rfl,g⟩:=ja o;obtain⟨p,w,rfl,g,q⟩:=g.lst;have e:=ai.ZC q;subst e;exact CT n f s i H _ k Q I r ⟨p,u,rfl,.inl g,c.now h (Bo _)⟩
theorem cw_list:i9 X (.type "list") .list:=by
 intro f s n H B w x o P Q I d r u h c
 match w,h with
 |[.lst l],h=>obtain⟨v,rfl,g⟩:=ja u;obtain⟨p,j,rfl,g,k⟩:=g.lst;exact lC f s n H _ o Q I r ⟨p,j,rfl,.inl (.inl g),λq i=>c _ _ _ h (aG i _) (.fresh (aq.refl H) i k)⟩
 |[.tup l],h=>obtain⟨v,rfl,g⟩:=ja u;obtain⟨p,j,rfl,g,k⟩:=g.tup;exact lC f s n H _ o Q I r ⟨p,j,rfl,.inr g,λq i=>c _ _ _ h (aG i _) (.fresh (aq.refl H) i k)⟩
theorem cw_int:i9 X (.type "int") .int:=by
 intro f s g H B j o k P Q I d r l h c
 match j,h with
 |[.bl i],h=>obtain⟨v,rfl,n⟩:=ja l;cases n.bl;exact Cy f s g H _ k Q I r (.inr ⟨i,rfl,c.now h (gf _)⟩)
theorem cw_tuple:i9 X (.type "tuple") .tuple:=by
 intro f s k H B x y n P Q I d r u h c
 match x,h with
 |[.lst l],h=>obtain⟨v,rfl,g⟩:=ja u;obtain⟨p,i,rfl,g,j⟩:=g.lst;exact jS f s k H _ n Q I r ⟨p,i,rfl,.inl ⟨.inl g,λq o=>c _ _ _ h (aG o _) (.of (zU ao (ai.same (aG o _) j)))⟩⟩
 |[.tup l],h=>obtain⟨v,rfl,g⟩:=ja u;obtain⟨p,i,rfl,w,j⟩:=g.To;have g:kY X.K H p i:=kY.of w;exact jS f s k H _ n Q I r ⟨p,i,rfl,.inr ⟨g,c.now h (zU w j)⟩⟩
noncomputable def xK(K:Frag):Prop:=∀a∈["NoneType","bool","int","str","list","tuple"],∀b∈["int","bool","tuple","list","str","dict"],kitOne K (.type a) (.type b)=some (F5 a b)
theorem cw_isi(N:xK X.K):cF X (.builtin "isinstance") (λvs H Q=>∃(B:Addr->Prop)(w:W)(n:String)(P:KP),n∈["int","bool","tuple","list","str","dict"]/\ou X.K B H [w,.ty n] vs/\sf .F3 [w,.ty n] P/\Cont X.K B H .s P Q):=by
 rintro q s A H vs Z Q I r ⟨B,w,n,P,L,O,h,c⟩;obtain⟨v,Y,rfl,k,S⟩:=Bt O;cases S.ty;obtain⟨a,i,h⟩:=h;have x:Q (.bl (F5 a n)) H:=c.now h (Bo _);obtain⟨E,D,rfl,d,F⟩:=vals2 r;cases(show D=Value.type n from F);have g:∀u,u∈["NoneType","bool","int","str","list","tuple"]->a=u->kitOne X.K (.type u) (.type n)=some (F5 a n):=λu m e=>by rw[e];exact N u m n L
 have j:∀y:Tok,EP X q A Q (.bool (F5 a n)) {s with toks:=y}:=λy=>⟨.bl _,H,I.tok _,rfl,x⟩;cases w with
 |aS=>
  cases k.aS;cases i;exact fF I d .aS (g _ (by simp) rfl) j
 |bl b=>
  cases k.bl;cases i;exact fF I d (.bl b) (g _ (by simp) rfl) j
 |int b=>
  cases k.int;cases i;exact fF I d (.int b) (g _ (by simp) rfl) j
 |str b=>
  cases k.str;cases i;exact fF I d (.str b) (g _ (by simp) rfl) j
 |lst l=>
  obtain⟨p,C,rfl,f,G⟩:=k.lst;cases i;rcases f with f|⟨o,f⟩
  ·exact fF I d (.lst f) (g _ (by simp) rfl) j
  ·exact fF I d (.wF f) (g _ (by simp) rfl) j
 |tup l=>obtain⟨p,C,rfl,f,G⟩:=k.tup;cases i;cases(show E=Value.ref p from d);obtain⟨J,r',⟨o,U,T,_⟩,_⟩:=I.tuple f;exact PQ PySem.W.kitx_tuple I.jP ⟨o,U,T⟩ (g _ (by simp) rfl) (λz=>nomatch z) j
 |_=>exact nn i
end
noncomputable def Mh(K:Frag)(n:Nat)(m:Md)(sp:bN):Sp:=λc H Q E=>∃A a P R,a.length=n/\ai K A H a c/\Dom A H/\sp a P R/\Cont K A H m P Q/\∀C b,R C->aq H b->E (.ref C) none b
noncomputable def Mi(K:Frag)(n:Nat)(h:Md)(sp:bN):Sp:=λi H Q E=>∃(b:Addr->Prop)(F:List Addr)(g:W)(f:V)(e:List W)(c:List V)(P:W->Prop)(R:Addr->Prop),i=f::c/\e.length+1=n/\F.Nodup/\(∀p∈F,¬b p)/\Dom b H/\Fp K (λp=>b p\/p∈F) H h g f F/\ai K (λp=>b p\/p∈F) H e c/\sp (g::e) P R/\
 (∀w y v d a,P (.tup [w,y])->wm (·∈F) H a->d.Nodup->(∀p∈d,p∈F\/H p=none)->Fp K (λp=>b p\/p∈d) a h y f d->Rep K (λp=>b p\/p∈d) a w v->Q v a)/\(∀C a,R C->wm (·∈F) H a->E (.ref C) none a)
noncomputable def gA(K:Frag)(n:Nat)(m:Md)(sp:bN):Sp:=
 match m with
 |.io a=>Mi K n a sp
 |m=>Mh K n m sp
inductive cG(P:Program)(w:World)(K:Frag)(mg:Str->Option Value)(base:Heap):Nat->Value->Nat->Sp->Prop where
 |fn {k:Nat} {f:Addr} {fd:FuncData} {ps:List Str} {sp:Sp} (kp:keepIn K (.ref f)=true) (b:Binds K fd ps []) (F:aR P w K mg base (dP P w) k f fd ps sp):cG P w K mg base k (.ref f) ps.length sp
 |mk {k n:Nat} {C f:Addr} {fd:FuncData} {ps:List Str} {sp XZ:Sp} (M:Mk K C f) (b:Binds K fd ps []) (F:aR P w K mg base (dP P w) k f fd ps XZ)
  (h:∀vs H Q E,sp vs H Q E->∀x dx,H x=none->H dx=none->dx≠x->XZ (.ref x::vs) (upd (upd H dx (.own x)) x (.ins C dx [])) (λv H2=>v=.aS/\Q (.ref x) H2) E):cG P w K mg base (k+1) (.ref C) n sp
theorem cG.keep{P:Program}{w:World}{K:Frag}{mg:Str->Option Value}{base:Heap}{k n:Nat}{a:Value}{sp:Sp}(c:cG P w K mg base k a n sp):keepIn K a=true:=by
 cases c with
 |fn kp _ _=>exact kp
 |mk M _ _ _=>exact M.kp
theorem cG.run{X:Cx}{k n:Nat}{g:Value}{sp:Sp}{a:List (Addr×Obj)}{d:St}{H:Hp}{s:Shared}{Q:VK}{E:XK}{us:List Value}{vs:List V}(c:cG X.prog X.w X.K X.mg X.base k g n sp)(f:cC k X.A)(e:Passes (dP X.prog X.w) X E)(I:Inv X a d H s)(r:Vals vs us)(h:sp vs H Q E):
 wpAny (model X.prog X.w) X.A (call g us) (EP X a d Q) X.xe s:=by
 cases c with
 |fn p b F=>exact uC (ds:=[]) (zq:=[]) F f b .nil e I r (by rw[QQ];exact h)
 |mk M b F l=>exact EH (ds:=[]) (zq:=[]) M F f b .nil e I r (λx o m j i=>by rw[QQ];exact l vs H Q E h x o m j i)
section
variable{X:Cx}{M:Ms}{R:Addr->Prop}{e a b c:Expr}{t ta tb tc:WT}{m:Md}{pos p:Pos}{es:List Expr}{x:Str}
theorem Bu{D:Ev->(List W->Prop)->Prop}{k n:Nat}{O:Value}{sp:bN}(F:cG X.prog X.w X.K X.mg X.base k O n (Mh X.K n m sp))(hr:cC k X.A)(hg:Gl X x)(hm:X.mg x=some O)
 (hn:∀d P R,sp d P R->d.length=n)(ha:VA X M R (e::es) D)(y:(x==("__debug__":Str))=false)(he:starEach (e::es) X.env=(false,eval e X.env)::starEach es X.env)(u:(backTo pos (starEach es X.env)).any (·.1)=false):
 VE X M R m (.Call (.Name x p) (e::es) [] pos) (λj Q=>D j λd=>sp d Q R):=by
 rintro f s i H Q I ⟨A,H0,j,P,S,er,h,kk⟩;obtain⟨E,L,N,hR⟩:=er;refine Re (eZ I hg hm ?_ y);refine X1 (h₀:=X.base) I.ok.mod.HP F.keep (bJ (ha pos f s i H (λl g=>∃d,aq H g/\ai X.K (FB A M i) g d l/\sp d P R) I ⟨A,H0,j,_,S,⟨E,L,N,hR⟩,h,λd l g hw G q=>⟨d,G,q,hw⟩⟩) λus G ⟨l,g,T,r,d,sm,q,J⟩=>⟨T.jP,?_⟩) he u;exact F.run hr L T r ⟨FB A M i,d,P,R,hn _ _ _ J,q,(S.same sm).dom,J,λw v B Z o Y=>kk w v B Z (sm.trans o) (Y.back sm λ_ z=>z),λC B U o=>N C B U (S.sm.trans (sm.trans o))⟩
theorem Ov{n:Ev->(List W->Prop)->Prop}{l:BI}{o:String}(I:cF X (.builtin o) (Ou X.K l))(F:Gl X x)(E:X.mg x=none)(C:bootBuiltins x=some (.builtin o))(J:Rr X M R (e::es) n)(D:x≠"__name__")(j:(x==("__debug__":Str))=false)
 (G:starEach (e::es) X.env=(false,eval e X.env)::starEach es X.env)(i:(backTo pos (starEach es X.env)).any (·.1)=false):VE X M R (TL l) (.Call (.Name x p) (e::es) [] pos) (λd Q=>n d λf=>sf l f Q):=
 PE.imp (bY I F E C J D j G i)<|by rintro q H Q ⟨A,N,d,P,S,L,h,k⟩;exact⟨A,N,d,_,S,L,h,λf T U B g u=>⟨FB A M q,f,P,(S.same g).dom,u,B,λw v O y s r=>k w v O y (g.trans s) (r.back g λ_ z=>z)⟩⟩
theorem Ow{n:Ev->(List W->Prop)->Prop}{l:BI}{o:String}(I:cF X (.type o) (Ou X.K l))(F:Gl X x)(E:X.mg x=none)(C:bootBuiltins x=some (.type o))(J:Rr X M R (e::es) n)(D:x≠"__name__")(j:(x==("__debug__":Str))=false)
 (G:starEach (e::es) X.env=(false,eval e X.env)::starEach es X.env)(i:(backTo pos (starEach es X.env)).any (·.1)=false):VE X M R (TL l) (.Call (.Name x p) (e::es) [] pos) (λd Q=>n d λf=>sf l f Q):=
 PE.imp (tK I F E C J D j G i)<|by rintro q H Q ⟨A,N,d,P,S,L,h,k⟩;exact⟨A,N,d,_,S,L,h,λf T U B g u=>⟨FB A M q,f,P,(S.same g).dom,u,B,λw v O y s r=>k w v O y (g.trans s) (r.back g λ_ z=>z)⟩⟩
theorem Ox{n:String}(Y:xK X.K)(j:n∈["int","bool","tuple","list","str","dict"])(Z:Gl X x)(U:X.mg x=none)(O:bootBuiltins x=some (.builtin "isinstance"))(ha:VB X M R a ta)(hb:VB X M R b (λ_ Q=>Q (.ty n)))(T:x≠"__name__")(l:(x==("__debug__":Str))=false)
 (u:starEach [a,b] X.env=(false,eval a X.env)::starEach [b] X.env)(ZJ:starEach [b] X.env=(false,eval b X.env)::starEach [] X.env)(i:(backTo pos (starEach [b] X.env)).any (·.1)=false):
 VE X M R .s (.Call (.Name x p) [a,b] [] pos) (λd Q=>ta d λw=>sf .F3 [w,.ty n] Q):=
 PE.imp (bY (cw_isi Y) Z U O (aj ha (aj hb aQ ZJ) u) T l u i)<|by rintro C H Q ⟨A,B,d,P,S,y,h,k⟩;refine⟨A,B,d,_,S,y,h,λw v H1 N g J=>⟨A,B,d,λo=>o=.ty n,S.same g,y,rfl,λo q H2 D f I=>?_⟩⟩;subst D;exact⟨FB A M C,w,n,P,j,⟨v,[q],rfl,aX.same f J,q,[],rfl,I,rfl⟩,N,λE F H' L G r=>k E F H' L ((g.trans f).trans G) (r.back (g.trans f) λ_ z=>z)⟩
theorem JC{d f:Pos}(r:VE X M R .s a ta)(j:attributeBase a "bit_length" X.env (eval a X.env)=eval a X.env)(g:(f.endLine==d.line)=true):
 VE X M R .s (.Call (.Attribute a "bit_length" f) [] [] d) (λl Q=>ta l λx=>match x with|.int i=>Q (.int (Builtin.Int.intBits i:Nat))|_=>False):=
 PE.imp (zx PySem.F.plainAttrs_int PySem.F.slot_int_bit_length PySem.F.type_int_bit_length IK r j g)<|by
  rintro B H Q ⟨A,z,l,P,S,u,h,k⟩;refine⟨A,z,l,_,S,u,h,λw v y n o q=>?_⟩;cases w with
  |int i=>have e:=q.bw.int_inv;subst e;exact⟨rfl,i,rfl,rfl,k _ _ y n o (.of (gf _))⟩
  |_=>exact n.elim
end
inductive C9(K:Frag)(br:Bool)(B:Addr->Prop)(H:Hp):It->List W->Prop where
 |lst {a:Addr} {vs:List V} {ws:List W} (h:Rd H a (.lst vs)) (n:br=false->¬B a) (r:ai K B H ws vs):C9 K br B H (VF K a) ws
 |tup {a:Addr} {vs:List V} {ws:List W} (h:kY K H a vs) (r:ai K B H ws vs):C9 K br B H (VG K a) ws
 |oj (lo:Int) (n:Nat):C9 K br B H (LU lo n) (gy lo 1 n)
 |JD (lo st:Int) (n:Nat):C9 K br B H (U8 lo st n) (gy lo st n)
 |sE {a:Addr} {vs:List V} {ws:List W} (h:Rd H a (.lst vs)) (n:br=false->¬B a) (r:ai K B H ws vs):C9 K br B H (Wh K a) (gi ws)
 |rev {a:Addr} {vs:List V} {ws:List W} (h:Rd H a (.lst vs)) (n:br=false->¬B a) (r:ai K B H ws vs):C9 K br B H (Wj K a vs.length) ws.reverse
structure IW(K:Frag)(B:Addr->Prop)(Hs:Hp)(J:It)(ws:List W):Prop where
 go:∀i H,aq Hs H->i<ws.length->J.go i H
 yl:∀i H x H' w,aq Hs H->ws[i]?=some w->J.Rf i H x H'->aq H H'/\∀B':Addr->Prop,(∀p o,Hs p=some o->B' p->B p)->Rep K B' H' w x
 st:∀i H,aq Hs H->i=ws.length->J.stop i H
theorem lW(a st:Int)(n:Nat):(gy a st n).length=n:=by unfold gy;simp
theorem xM{b st:Int}{n i:Nat}{w:W}(h:(gy b st n)[i]?=some w):w=.int (b+i*st)/\i<n:=by
 unfold gy at h;rw[FM]at h;by_cases a:i<n
 ·rw[SU a]at h;cases h;exact⟨rfl,a⟩
 ·rw[Dx (by simpa using a)]at h;cases h
theorem tW(l:List W):(gi l).length=l.length:=by unfold gi;simp
theorem nO{l:List W}{i:Nat}{w:W}(h:(gi l)[i]?=some w):∃x,l[i]?=some x/\w=.tup [.int i,x]:=by
 unfold gi at h;rw[List.getElem?_zipWith]at h;by_cases a:i<l.length
 ·rw[SU a,B1 a]at h;cases h;exact⟨_,B1 a,rfl⟩
 ·rw[Dx (by simpa using a)]at h;cases h
theorem C9.iw{K:Frag}{br:Bool}{B:Addr->Prop}{k:Hp}{J:It}{l:List W}(h:C9 K br B k J l):IW K B k J l:=by
 cases h with
 |@lst a c _ h n r=>
  have q:∀H,aq k H->gU K H a c:=λH s=>.inl (VL.aq.rd s h);refine⟨λi H s b=>?_,λi H x m w s d y=>?_,λi H s b=>⟨c,q H s,by rw[r.len,b];exact Do _⟩⟩
  ·have f:i<c.length:=by rw[r.len];exact b
   exact⟨c,c[i],q H s,B1 f⟩
  ·obtain⟨rfl,y⟩:=y;obtain⟨v,e,g⟩:=r.get d;have:=y c (q _ s);rw[e]at this;cases this;exact⟨aq.refl _,λo j=>Rep.mv s j w g⟩
 |@tup a c _ h r=>
  have q:∀H,aq k H->kY K H a c:=λH s=>L2.aq.tup s h;refine⟨λi H s b=>?_,λi H x m w s d y=>?_,λi H s b=>⟨c,q H s,by rw[r.len,b];exact Do _⟩⟩
  ·have f:i<c.length:=by rw[r.len];exact b
   exact⟨c,c[i],q H s,B1 f⟩
  ·obtain⟨rfl,y⟩:=y;obtain⟨v,e,g⟩:=r.get d;have:=y c (q _ s);rw[e]at this;cases this;exact⟨aq.refl _,λo j=>Rep.mv s j w g⟩
 |oj C n=>refine⟨λi H s b=>by rw[lW]at b;exact b,λi H x m w s d y=>?_,λi H s b=>by rw[lW]at b;exact i4 b.symm⟩;obtain⟨rfl,rfl⟩:=y;obtain⟨rfl,_⟩:=xM d;exact⟨aq.refl _,λo _=>by rw[fI];exact gf _⟩
 |JD C G n=>refine⟨λi H s b=>by rw[lW]at b;exact b,λi H x m w s d y=>?_,λi H s b=>by rw[lW]at b;exact i4 b.symm⟩;obtain⟨rfl,rfl⟩:=y;obtain⟨rfl,_⟩:=xM d;exact⟨aq.refl _,λo _=>gf _⟩
 |@sE a c l h n r=>
  have q:∀H,aq k H->gU K H a c:=λH s=>.inl (VL.aq.rd s h);refine⟨λi H s b=>?_,λi H x m w s d y=>?_,λi H s b=>⟨c,q H s,by rw[r.len,b,tW]⟩⟩
  ·rw[tW]at b;have f:i<c.length:=by rw[r.len];exact b
   exact⟨c,c[i],q H s,B1 f⟩
  ·obtain⟨p,y,E,rfl,rfl,D⟩:=y;obtain⟨A,F,rfl⟩:=nO d;obtain⟨v,e,g⟩:=r.get F;have z:=D c (q _ s);rw[e]at z;obtain rfl:v=y:=He z;have u:=aG (H:=H) E (.tup [.int i,v]);exact⟨u,λo j=>zU ao (.cons (gf _) (.cons (Rep.mv (s.trans u) j A g) .nil))⟩
 |@rev a c l h n r=>
  have q:∀H,aq k H->gU K H a c:=λH s=>.inl (VL.aq.rd s h);have t:=r.len;refine⟨λi H s b=>?_,λi H x m w s d y=>?_,λi H s b=>?_⟩
  ·rw[dq]at b;exact⟨c,q H s,rfl,by rw[t];exact b⟩
  ·obtain⟨rfl,y⟩:=y;have b:i<l.length:=by have:=(Fu.mp d).1;rwa [dq]at this
   rw[List.getElem?_reverse b]at d;obtain⟨v,e,g⟩:=r.get d;have:=y c (q _ s) rfl;rw[t,e]at this;cases this;exact⟨aq.refl _,λo j=>Rep.mv s j w g⟩
  ·rw[dq]at b;show i=c.length;rw[t,b]
noncomputable def itemsOf:W->Option (List W)
 |.lst l=>some l
 |.tup l=>some l
 |_=>none
theorem tX{z:W}{Q:List W->Prop}:items z Q↔∃a,itemsOf z=some a/\Q a:=by
 cases z<;>simp[items,itemsOf]
noncomputable def Gb(X:Cx)(M:Ms)(R:Addr->Prop)(br:Bool)(t:WT):TI:=λb H Q=>∃A e c P,SR X.K M A e b H c/\ER X e R/\t c P/\∀z,P z->∃d,itemsOf z=some d/\∀J a,aq H a->C9 X.K br (FB A M b) a J d->Q J a
theorem PI.imp{X:Cx}{tg e:Expr}{t t':TI}(h:PI X tg e t)(k:∀a H Q,t' a H Q->t a H Q):PI X tg e t':=λb s a H Q I w=>h b s a H Q I (k a H Q w)
section
variable{X:Cx}{M:Ms}{R:Addr->Prop}{e a b c tg:Expr}{t ta tb tc:WT}{m:Md}{pos p:Pos}{es:List Expr}{x:Str}{br:Bool}
theorem Oz{l:Expr}{tl:TE}(y:PE X l tl):PI X tg l (λk H Q=>tl k H λx H1=>∃a,x=.ref a/\(((∃g,gU X.K H1 a g)/\Q (VF X.K a) H1)\/((∃g,kY X.K H1 a g)/\Q (VG X.K a) H1))):=by
 intro i s k H Q I h;refine bJ (y i s k H _ I h) ?_;rintro v d ⟨x,H1,f,u,w⟩;obtain⟨a,e,q⟩:=w;subst e;cases u;rcases q with⟨⟨g,n⟩,q⟩|⟨⟨g,n⟩,q⟩
 ·obtain⟨j,rv,p,hz⟩:=f.list n;refine wpAny_pyIter_list p.isList ?_;refine⟨d.heap.objs.size,[d.heap.objs.size],_,_,H1,rfl,f.kept (t':=d.toks) λb o e=>Da _ e,Cr a _,⟨_,Hb _ rfl,rfl,rfl⟩,λb r=>?_,q⟩;have e:b=d.heap.objs.size:=by simpa using r
  subst e;exact f.wH (Do _) (f.hok.fresh (Do _))
 ·obtain⟨j,rv,p,hz⟩:=f.tuple n;refine wpAny_pyIter_tuple (show d.heap.IsTuple a j.toArray from p) ?_;refine⟨d.heap.objs.size,[d.heap.objs.size],_,_,H1,rfl,f.kept (t':=d.toks) λb o e=>Da _ e,zd a _,⟨_,Hb _ rfl,rfl,rfl⟩,λb r=>?_,q⟩;have e:b=d.heap.objs.size:=by simpa using r
  subst e;exact f.wH (Do _) (f.hok.fresh (Do _))
noncomputable def OA(K:Frag)(br:Bool):RL:=λB _ d w v=>aX K B d w v/\(br=false->Rep K B d w v)
theorem jV(h:VE X M R m e t):PE X e (tV X M R (OA X.K br) t):=PE.imp h<|by rintro l H Q ⟨A,i,d,P,S,g,p,k⟩;exact⟨A,i,d,P,S,g,p,λw v j f s r=>k w v j f s ⟨(r.rep S.dom).b,λ_=>r.rep S.dom⟩⟩
theorem TM(h:VB X M R e t):PE X e (tV X M R (OA X.K true) t):=PE.imp h<|by rintro l H Q ⟨A,i,d,P,S,g,p,k⟩;exact⟨A,i,d,P,S,g,p,λw v j f s r=>k w v j f s ⟨r,λz=>by cases z⟩⟩
theorem OA.lst{K:Frag}{B:Addr->Prop}{H H':Hp}{l:List W}{v:V}(h:OA K br B H H' (.lst l) v):∃p vs,v=.ref p/\Rd H' p (.lst vs)/\(br=false->¬B p)/\ai K B H' l vs:=by obtain⟨p,vs,rfl,f,d⟩:=h.1.lst;refine⟨p,vs,rfl,f,λe=>?_,d⟩;have:=h.2 e;rw[Rep]at this;obtain⟨i,_,g,n,_⟩:=this;cases g;exact n
theorem gB(r:PE X a (tV X M R (OA X.K br) ta)):PI X tg a (Gb X M R br ta):=PI.imp (Oz r)<|by
 rintro y H Q ⟨A,w,q,P,S,u,h,k⟩;refine⟨A,w,q,P,S,u,h,λz v o hz j n=>?_⟩;obtain⟨B,g,k⟩:=k z hz;cases z with
 |lst l=>
  cases g;obtain⟨p,f,rfl,d,i,s⟩:=n.lst;exact⟨p,rfl,.inl ⟨⟨f,.inl d⟩,k _ o j (.lst d i s)⟩⟩
 |tup l=>
  cases g;obtain⟨p,f,rfl,d,i⟩:=n.1.tup;exact⟨p,rfl,.inr ⟨⟨f,d⟩,k _ o j (.tup d i)⟩⟩
 |_=>exact nn g
theorem OB{d:List Expr}{r:Nat}{n:Pos}(w:Gl X "enumerate")(s:X.mg "enumerate"=none)(y:PE X a (tV X M R (OA X.K br) ta))(g:starEach [a] X.env=(false,eval a X.env)::starEach [] X.env):
 PI X (.Tuple d r n) (.Call (.Name "enumerate" p) [a] [] pos) (Gb X M R br (λf Q=>ta f λx=>match x with|.lst l=>Q (.lst (gi l))|_=>False)):=
 PI.imp (IL w s (aj y aQ g) rfl g)<|by
  rintro G H Q ⟨A,F,f,P,S,D,h,k⟩;refine⟨A,F,f,_,S,D,h,λz v E hz o q=>?_⟩;cases z with
  |lst l=>obtain⟨I,u,k⟩:=k _ hz;cases u;obtain⟨p,j,rfl,i,C,B⟩:=q.lst;exact⟨p,rfl,⟨j,.inl i⟩,k _ E o (.sE i C B)⟩
  |_=>exact hz.elim
theorem OC(r:Gl X "reversed")(o:X.mg "reversed"=none)(s:PE X a (tV X M R (OA X.K br) ta))(f:starEach [a] X.env=(false,eval a X.env)::starEach [] X.env):
 PI X tg (.Call (.Name "reversed" p) [a] [] pos) (Gb X M R br (λd Q=>ta d λx=>match x with|.lst l=>Q (.lst l.reverse)|_=>False)):=
 PI.imp (NP r o (aj s aQ f) rfl f)<|by
  rintro D H Q ⟨A,C,d,P,S,y,h,k⟩;refine⟨A,C,d,_,S,y,h,λz v B hz j n=>?_⟩;cases z with
  |lst l=>obtain⟨E,q,k⟩:=k _ hz;cases q;obtain⟨p,i,rfl,g,w,u⟩:=n.lst;exact⟨p,i,rfl,.inl g,k _ B j (.rev g w u)⟩
  |_=>exact hz.elim
theorem JE{p2 d:Pos}(y:X.calm=true)(w:Gl X "list")(u:X.mg "list"=none)(F:Gl X "reversed")(i:X.mg "reversed"=none)(B:VB X M R a ta)(n:starEach [a] X.env=(false,eval a X.env)::starEach [] X.env):
 VE X M R .f (.Call (.Name "list" p) [.Call (.Name "reversed" p2) [a] [] d] [] pos) (λg Q=>ta g λx=>match x with|.lst l=>Q (.lst l.reverse)|_=>False):=
 PE.imp (IQ y w u F i (aj B aQ n) n)<|by
  rintro I H Q ⟨A,G,g,P,S,E,h,k⟩;refine⟨A,G,g,_,S,E,h,λz v J hz j s=>?_⟩;cases z with
  |lst l=>obtain⟨p,r,rfl,D,C⟩:=aX.lst s;exact⟨p,r,rfl,.inl D,λq o=>k _ _ _ hz (j.trans (aG o _)) (.fresh j o C.rev)⟩
  |_=>exact hz.elim
theorem JF(u:Gl X "range")(q:X.mg "range"=none)(v:VE X M R .s a ta)(f:starEach [a] X.env=(false,eval a X.env)::starEach [] X.env):
 PI X tg (.Call (.Name "range" p) [a] [] pos) (Gb X M R br (λd Q=>ta d λx=>F6 [x] λl=>Q (.lst l))):=
 PI.imp (tD u q (aj v aQ f) f)<|by
  rintro B H Q ⟨A,z,d,P,S,w,h,k⟩;refine⟨A,z,d,_,S,w,h,λx C y hz g i=>?_⟩;cases x with
  |int j=>obtain⟨o,n,hz⟩:=hz;obtain⟨D,r,k⟩:=k _ hz;cases r;cases i.bw.int_inv;exact⟨j,rfl,o,n,k _ y g (.oj 0 j.toNat)⟩
  |_=>exact hz.elim
theorem JG(C:Gl X "range")(z:X.mg "range"=none)(E:VE X M R .s a ta)(D:VE X M R .s b tb)(n:starEach [a,b] X.env=(false,eval a X.env)::starEach [b] X.env)(d:starEach [b] X.env=(false,eval b X.env)::starEach [] X.env):
 PI X tg (.Call (.Name "range" p) [a,b] [] pos) (Gb X M R br (λf Q=>ta f λx=>tb f λy=>F6 [x,y] λl=>Q (.lst l))):=
 PI.imp (Cs C z (aj E (aj D aQ d) n) (by rw[n,d];rfl) d)<|by
  rintro G H Q ⟨A,q,f,P,S,o,h,k⟩;refine⟨A,q,f,_,S,o,h,λx J L hz g v=>⟨A,q,f,_,S.same g,o,hz,λy I F hz r u=>?_⟩⟩;cases x with
  |int i=>
   cases y with
   |int j=>obtain⟨w,hz⟩:=hz;obtain⟨K,B,k⟩:=k _ hz;cases B;cases v.bw.int_inv;cases u.bw.int_inv;exact⟨i,j,rfl,w,k _ F (g.trans r) (.oj i (j -i).toNat)⟩
   |_=>exact hz.elim
  |_=>exact hz.elim
theorem JH(I:Gl X "range")(F:X.mg "range"=none)(L:VE X M R .s a ta)(K:VE X M R .s b tb)(J:VE X M R .s c tc)(v:starEach [a,b,c] X.env=(false,eval a X.env)::starEach [b,c] X.env)(f:starEach [b,c] X.env=(false,eval b X.env)::starEach [c] X.env)(q:starEach [c] X.env=(false,eval c X.env)::starEach [] X.env):
 PI X tg (.Call (.Name "range" p) [a,b,c] [] pos) (Gb X M R br (λd Q=>ta d λx=>tb d λy=>tc d λz=>F6 [x,y,z] λl=>Q (.lst l))):=
 PI.imp (CV I F (aj L (aj K (aj J aQ q) f) v) (by rw[v,f,q];rfl) (by rw[f,q];rfl))<|by
  rintro O H Q ⟨A,r,d,P,S,o,h,k⟩;refine⟨A,r,d,_,S,o,h,λx Y H1 hz g D=>⟨A,r,d,_,S.same g,o,hz,λy U H2 hz u C=>⟨A,r,d,_,S.same (g.trans u),o,hz,λz T N hz w B=>?_⟩⟩⟩;cases x with
  |int i=>
   cases y with
   |int j=>
    cases z with
    |int l=>obtain⟨n,E,hz⟩:=hz;obtain⟨Z,G,k⟩:=k _ hz;cases G;cases D.bw.int_inv;cases C.bw.int_inv;cases B.bw.int_inv;exact⟨i,j,l,n,rfl,E,k _ N ((g.trans u).trans w) (.JD i l n)⟩
    |_=>exact hz.elim
   |_=>exact hz.elim
  |_=>exact hz.elim
end
noncomputable def up(M:Ms)(n:Nat):Ms:=M.map λx=>(x.1+n,x.2)
section
variable{K:Frag}{M:Ms}{A:Fz}{H0 H H1:Hp}{σ v0:St}{ε δ:Ev}
theorem nQ{n i:Nat}{m:Md}:(i,m)∈up M n↔n<=i/\(i -n,m)∈M:=by
 unfold up;rw[KE];constructor
 ·rintro⟨⟨j,b⟩,a,e⟩;cases e;exact⟨Nat.le_add_left _ _,by rw[PH];exact a⟩
 ·rintro⟨h,a⟩;exact⟨(i -n,m),a,by simp;omega⟩
theorem dW{n i:Nat}:aU (up M n) i↔n<=i/\aU M (i -n):=by
 constructor
 ·rintro⟨m,h⟩;exact⟨(nQ.mp h).1,m,(nQ.mp h).2⟩
 ·rintro⟨h,m,a⟩;exact⟨m,nQ.mpr ⟨h,a⟩⟩
theorem qm{n i:Nat}(c:δ.length=n)(h:n<=i):look (δ++ε) i=look ε (i -n):=by
 have e:∀w,look (δ++ε) i=some w↔look ε (i -n)=some w:=λw=>by rw[bu,bu,Ha (by lia),c]
 cases b:look ε (i -n)with
 |none=>
  cases a:look (δ++ε) i with
  |none=>rfl
  |some w=>rw[e]at a;rw[b]at a;cases a
 |some w=>exact(e w).mpr b
theorem SR.block(S:SR K M A H0 σ H ε){n:Nat}(t:v0.length=n)(s:aq H H1){D:Addr}{o:HO}(y:H D=none)(I:H1 D=some o):SR K (up M n) ⟨λq=>A.ab q\/q=D,λq=>A.B q\/q=D,none⟩ H0 (v0++σ) H1 (List.replicate n none++ε):=by
 obtain⟨F,O⟩:=S.ow;have g:(List.replicate n (none:Option W)).length=n:=by simp
 have C:∀{i:Nat},n<=i->(v0++σ)[i]?=σ[i -n]?:=λ{i} h=>by rw[Ha (by lia),t]
 have x:∀p o,H p=some o->(A.B p\/p=D)->A.B p:=λp o e z=>by
  rcases z with z|rfl
  ·exact z
  ·rw[y]at e;cases e
 refine⟨by rw[Fh,Fh,t,g,S.len],λi w c e=>?_,S.sm.trans s,λp z=>?_,(λv e=>by cases e),λi=>F (i -n),⟨λi m E a b=>O.un _ m E (nQ.mp a).2 (nQ.mp b).2,λi m w G e=>?_,λi c e=>?_,λi c=>O.nd _ (dW.mp c).2,λi j p c u a b=>?_,λi p c d=>O.nw _ p (dW.mp c).2 d,λi p c d z=>?_,λp=>?_⟩⟩
 ·by_cases f:n<=i
  ·rw[qm g f]at e;rw[C f];obtain⟨v,l,k⟩:=S.sh (i -n) w (λz=>c (dW.mpr ⟨f,z⟩)) e;exact⟨v,l,Rep.mv s x w k⟩
  ·rw[bu,IR (by rw[g];lia),eQ,Bz (by lia)]at e;cases e
 ·rcases z with z|rfl
  ·exact(S.dm.same s) p z
  ·exact⟨_,I⟩
 ·obtain⟨f,r⟩:=nQ.mp G;rw[qm g f]at e;rw[C f];obtain⟨v,l,k⟩:=O.val _ m w r e;exact⟨v,l,Fp.mv s x m k⟩
 ·obtain⟨f,r⟩:=dW.mp c;rw[qm g f]at e;exact O.emp _ r e
 ·have:=O.ds _ _ p (dW.mp c).2 (dW.mp u).2 a b;have:=(dW.mp c).1;have:=(dW.mp u).1;lia
 ·rcases z with z|rfl
  ·exact O.na _ p (dW.mp c).2 d z
  ·obtain⟨o,e,_⟩:=O.has (dW.mp c).2 d;rw[y]at e;cases e
 ·constructor
  ·rintro(z|rfl)
   ·rcases(O.all p).mp z with z|⟨i,c,d⟩
    ·exact .inl (.inl z)
    ·exact .inr ⟨i+n,dW.mpr ⟨by lia,by rw[PH];exact c⟩,by rw[PH];exact d⟩
   ·exact .inl (.inr rfl)
  ·rintro((z|rfl)|⟨i,c,d⟩)
   ·exact .inl ((O.all p).mpr (.inl z))
   ·exact .inr rfl
   ·exact .inl ((O.all p).mpr (.inr ⟨i -n,(dW.mp c).2,d⟩))
end
noncomputable def TN:List Nat->LR
 |[]=>RY
 |i::a=>LS (gW i) (TN a)
noncomputable def gT(K:Frag)(one:Bool)(a:List Nat):TG:=
 match one,a with
 |true,[i]=>gW i
 |true,_=>λ_ _ _ _=>False
 |false,a=>M6 K a.length (TN a)
noncomputable def cV(a:St):List Nat->List V->St
 |i::b,v::vs=>cV (a.set i (some v)) b vs
 |_,_=>a
theorem xN:∀(b:List Nat)(vs:List V)(a:St),(cV a b vs).length=a.length
 |[],vs,a=>by rw[cV];simp
 |i::b,[],a=>by rw[cV];simp
 |i::b,v::vs,a=>by rw[cV,xN b vs,Pi]
theorem xO{n:Nat}:∀(c:List Nat)(vs:List V)(b a:St),b.length=n->(∀i∈c,i<n)->cV (b++a) c vs=cV b c vs++a
 |[],vs,b,a,_,_=>by rw[cV,cV]<;>simp
 |i::c,[],b,a,_,_=>by rw[cV,cV]<;>simp
 |i::c,v::vs,b,a,d,h=>by have hi:=h i FK;rw[cV,cV,List.set_append_left _ _ (by lia),xO c vs _ a (by rw[Pi];exact d) λj e=>h j (DL _ e)]
section
variable{K:Frag}{M:Ms}{A:Fz}{H0 H:Hp}
theorem Gd:∀(a:List Nat)(vs:List V)(b:St)(Q:St->Hp->Prop),vs.length=a.length->Q (cV b a vs) H->TN a vs b H Q
 |[],[],b,Q,_,q=>⟨rfl,q⟩
 |[],_::_,_,_,h,_=>by cases h
 |_::_,[],_,_,h,_=>by cases h
 |i::a,v::vs,b,Q,h,q=>⟨v,vs,rfl,Gd a vs _ Q (by simpa using h) (by rw[cV]at q;exact q)⟩
theorem SR.b8:∀(a:List Nat)(c:List W)(vs:List V){b:St}{d:Ev},(∀i∈a,¬aU M i)->SR K M A H0 b H d->ai K (FB A M b) H c vs->c.length=a.length->SR K M A H0 (cV b a vs) H (b8 d a c)
 |[],c,vs,b,d,_,S,_,_=>by rw[cV,VL.b8]<;>first|exact S|simp
 |i::a,[],vs,b,d,_,S,_,h=>by cases h
 |i::a,w::c,vs,b,d,e,S,r,h=>by obtain⟨v,f,rfl,m,l⟩:=r.cons_inv;rw[cV,VL.b8];have k:=e i FK;exact SR.b8 a c f (λj g=>e j (DL _ g)) (S.set k m) l (by simpa using h)
theorem tgt{b:St}{d:Ev}{one:Bool}{a:List Nat}{w:W}{v:V}{P:Ev->Prop}{Q:St->Hp->Prop}(j:∀i∈a,¬aU M i)(S:SR K M A H0 b H d)(e:Rep K (FB A M b) H w v)(h:wT one a w d P)
 (k:∀vs c,P c->SR K M A H0 (cV b a vs) H c->Q (cV b a vs) H):gT K one a v b H Q:=by
 cases one with
 |true=>
  match a,h with
  |[i],h=>
   have:=k [v] (d.set i (some w)) h (by rw[cV,cV]<;>first|exact S.set (j i FK) e|simp);rw[cV,cV]at this
   ·exact this
   ·simp
 |false=>
  cases w with
  |tup l=>obtain⟨f,h⟩:=h;rw[Rep]at e;obtain⟨p,vs,rfl,m,g⟩:=e;exact⟨p,vs,rfl,kY.of m,by rw[g.len,f],Gd a vs b Q (by rw[g.len,f]) (k vs _ h (SR.b8 a l vs j S g f))⟩
  |_=>exact h.elim
end
theorem PF.imp{X:Cx}{e:List Expr}{t t':TT}(h:PF X e t)(k:∀a H Q,t' a H Q->t a H Q):PF X e t':=λb s a H Q I w=>h b s a H Q I (k a H Q w)
noncomputable def WB(K:Frag)(M:Ms)(t:WT):TE:=λb H Q=>∃A d c P,SR K M A d b H c/\t c P/\∀w v a,P w->aq H a->Rep K (FB A M b) a w v->Q v a
noncomputable def WC(K:Frag)(M:Ms)(t:WT):TT:=λd H Q=>∃A e a P,SR K M A e d H a/\t a P/\∀x c,P x->aq H c->∃b,x=.bl b/\Q b c
section
variable{X:Cx}{M:Ms}{R:Addr->Prop}{tg iter elt:Expr}{ifs:List Expr}{scope:Scope}{xs N':List Str}{pos:Pos}{ti tc te:WT}{one:Bool}{ts:List Nat}
theorem xP(I:∀i∈ts,i<xs.length)(n:St)(H:Hp)(Q:VK)
 (hh:tV X M R (N8 X.K .f) (λu Q=>ti u λz=>items z λc=>oQ (λw K=>wT one ts w (List.replicate xs.length none++u) λa=>tc a λx=>truth x λk=>if k=true then te a λy=>K (some y)else K none) c [] λl=>Q (.lst l)) n H Q):
 E8 xs.length (Gb X M R true ti) (gT X.K one ts) (WC X.K (up M xs.length) tc) (WB X.K (up M xs.length) te) n H Q:=by
 obtain⟨A,H0,u,P,S,er,h,k⟩:=hh;refine⟨A,H0,u,_,S,er,h,λz hz=>?_⟩;obtain⟨c,ez,hw⟩:=tX.mp hz;refine⟨c,ez,λJ H1 s1 it D Y=>?_⟩;have iw:=it.iw;generalize N:(λ(w:W)(K:Option W->Prop)=>wT one ts w (List.replicate xs.length none++u) λa=>tc a λx=>truth x λk=>if k=true then te a λy=>K (some y)else K none)=f at hw;have X3:H D=none:=s1.free Y;refine⟨λi m g=>∃d r,m=c.length -i/\i<=c.length/\aq H1 g/\g D=some (.lst r)/\ai X.K (λq=>FB A M n q\/q=D) g d r/\oQ f (c.drop i) d (λl=>P (.lst l)),
  ⟨c.length,[],[],rfl,Kk _,aG Y _,ao,.nil,hw⟩,?_⟩
 rintro i m g ⟨d,r,rfl,hi,s,Vf,F,C⟩;by_cases T:i<c.length
 ·refine .inr ⟨iw.go i g s T,λx O y v t=>?_⟩;have hwi:c[i]?=some c[i]:=B1 T;rw[iq T]at C;generalize c[i]=w at*;obtain⟨s3,G⟩:=iw.yl i g x O w s hwi y;have ZL:aq H O:=s1.trans (s.trans s3);have ZM:O D=some (.lst r):=s3 _ _ Vf;have S3:SR X.K (up M xs.length) ⟨λq=>A.ab q\/q=D,λq=>A.B q\/q=D,none⟩ H0 (v++n) O (List.replicate xs.length none++u):=S.block t ZL X3 ZM;have ZN:Rep X.K (λq=>A.B q\/q=D) O w x:=by
   refine G _ λp o e z=>?_;rcases z with z|rfl
   ·exact z
   ·rw[Y]at e;cases e
  have hM:∀j∈ts,¬aU (up M xs.length) j:=λj hj z=>by have:=(dW.mp z).1;have:=I j hj;lia
  rw[oQ,←N]at C;rw[N]at C;refine tgt hM S3 ZN C λE a hp S4=>?_;have e4:cV (v++n) ts E=cV v ts E++n:=xO ts E v n t I;rw[e4]at S4⊢;have hv1:(cV v ts E).length=xs.length:=by rw[xN];exact t
  refine⟨cV v ts E,hv1,rfl,⟨_,H0,a,_,S4,hp,λq H5 U s5=>?_⟩⟩;obtain⟨b,rfl,U⟩:=bG U;refine⟨b,rfl,?_⟩;have Z:aq g H5:=s3.trans s5;cases b with
  |false=>exact⟨c.length -(i+1),by lia,d,r,rfl,T,s.trans Z,Z _ _ Vf,F.same Z,U⟩
  |true=>
   refine⟨_,H0,a,_,S4.same s5,U,λy vy H6 hy s6 ry=>?_⟩;obtain⟨L,hy⟩:=hy;have WD:=Z.trans s6;have X4:=WD _ _ Vf;refine⟨r,X4,by rw[F.len];exact L,c.length -(i+1),by lia,d++[y],r++[vy],rfl,T,λb o e=>?_,ao,?_,hy⟩
   ·rw[ah (aO e Y)];exact WD _ _ (s _ _ e)
   ·have ZO:Rep X.K (λq=>A.B q\/q=D) H6 y vy:=ry;exact ai.put X4 (.inr rfl) _ ((F.same WD).app (.cons ZO .nil))
 ·have e:i=c.length:=by lia
  subst e;refine .inl ⟨iw.st _ g s rfl,?_⟩;rw[List.drop_length,oQ]at C;exact k _ _ g C (s1.trans s) (.new X3 Vf (F.less λp z=>.inl z) F)
theorem JI(t:X.calm=true)(o:dQ scope X.env.scope X.N N' xs=true)(e:∀i∈ts,i<xs.length)(p:PI X tg iter (Gb X M R true ti))(q:∀C b d c,PG (aW X scope C xs N' b d c) tg (gT X.K one ts))
 (r:∀C b d c,PF (aW X scope C xs N' b d c) ifs (WC X.K (up M xs.length) tc))(s:∀C b d c,PE (aW X scope C xs N' b d c) elt (WB X.K (up M xs.length) te))(n:∀z,foldedSetIterable iter X.env z=pure z):
 VE X M R .f (.ListComp elt [⟨tg,iter,ifs,0⟩] scope pos) (λg Q=>ti g λz=>items z λm=>oQ (λw K=>wT one ts w (List.replicate xs.length none++g) λa=>tc a λx=>truth x λk=>if k=true then te a λy=>K (some y)else K none) m [] λl=>Q (.lst l)):=
 PE.imp (AU xs N' t o p q r s n) λj H Q h=>xP e j H Q h
end
section
variable{K:Frag}{M M':Ms}{A:Fz}{H0 H H1:Hp}{σ:St}{ε:Ev}
theorem SR.rb(S:SR K M A H0 σ H ε):∃f,SR K M A f σ H ε/\aq H0 f/\aq f H/\(∀p o,H p=some o->(C4 o=true/\A.B p)\/f p=some o):=by
 classical
 obtain⟨F,O⟩:=S.ow;have d:∀p o,(if(∃i,aU M i/\p∈F i)then none else H p)=some o->H p=some o:=λp o z=>by
  split at z
  ·cases z
  ·exact z
 refine⟨λp=>if(∃i,aU M i/\p∈F i)then none else H p,⟨S.len,S.sh,d,S.dm,S.sl,F,⟨O.un,O.val,O.emp,O.nd,O.ds,λi p c a=>Bz ⟨i,c,a⟩,O.na,O.all⟩⟩,λb o z=>?_,d,λp o z=>?_⟩
 ·try dsimp only
  rw[BM]
  ·exact S.sm _ _ z
  ·rintro⟨i,c,e⟩;rw[O.nw i b c e]at z;cases z
 ·by_cases a:∃i,aU M i/\p∈F i
  ·have g:=a;obtain⟨i,c,a⟩:=a;obtain⟨j,e,h⟩:=O.has c a;rw[z]at e;cases e;exact .inl ⟨h,(O.all p).mpr (.inr g)⟩
  ·exact .inr ((BM a).trans z)
end
section
variable{K:Frag}{B A:Addr->Prop}{H Hs:Hp}
theorem C9.low{J:It}{g:List W}(h:∀p o,H p=some o->(C4 o=true/\B p)\/Hs p=some o)(b:∀p,A p->B p)(i:C9 K false B H J g):C9 K false A Hs J g:=by
 have d:∀{a:Addr}{c:List V},Rd H a (.lst c)->¬B a->Rd Hs a (.lst c):=λ{a c} r n=>by
  rcases r with r|⟨o,r⟩
  ·rcases h a _ r with⟨_,z⟩|z
   ·exact(n z).elim
   ·exact .inl z
  ·rcases h a _ r with⟨_,z⟩|z
   ·exact(n z).elim
   ·exact .inr ⟨o,z⟩
 cases i with
 |lst q n r=>exact .lst (d q (n rfl)) (λe z=>n e (b _ z)) (ai.chg h (λp _ _ z=>b p z) _ r)
 |@tup a c _ q r=>
  refine .tup ?_ (ai.chg h (λp _ _ z=>b p z) _ r);rcases q with(q|⟨o,q⟩)|q
  ·rcases h a _ q with⟨z,_⟩|z
   ·cases z
   ·exact .inl (.inl z)
  ·rcases h a _ q with⟨z,_⟩|z
   ·cases z
   ·exact .inl (.inr ⟨o,z⟩)
  ·exact .inr q
 |oj f n=>exact .oj f n
 |JD f j n=>exact .JD f j n
 |sE q n r=>exact .sE (d q (n rfl)) (λe z=>n e (b _ z)) (ai.chg h (λp _ _ z=>b p z) _ r)
 |rev q n r=>exact .rev (d q (n rfl)) (λe z=>n e (b _ z)) (ai.chg h (λp _ _ z=>b p z) _ r)
end
abbrev WS:=Dn->Ev->Prop
noncomputable def iU:Md->Bool
 |.io _=>true
 |_=>false
noncomputable def zX(K:Frag)(ab:Addr->Prop)(f:Option V)(e H':Hp)(m:Md)(w:W)(v:V):Prop:=
 match m with
 |.io g=>∃b c d a,w=.tup [b,c]/\f=some d/\a.Nodup/\(∀p∈a,e p=none/\¬ab p)/\Fp K (λp=>ab p\/p∈a) H' g c d a/\Rep K (λp=>ab p\/p∈a) H' b v
 |m=>dU K ab e H' m w v
theorem zX.of{K:Frag}{ab:Addr->Prop}{b:Option V}{a H':Hp}{m:Md}{w:W}{v:V}(c:iU m=false)(h:dU K ab a H' m w v):zX K ab b a H' m w v:=by
 cases m with
 |io _=>cases c
 |_=>exact h
theorem zX.back{K:Frag}{ab:Addr->Prop}{a:Option V}{e d H':Hp}{m:Md}{w:W}{v:V}(s:aq e d)(h:zX K ab a d H' m w v):zX K ab a e H' m w v:=by
 cases m with
 |io q=>obtain⟨f,g,i,o,n,l,k,c,j⟩:=h;exact⟨f,g,i,o,n,l,k,λp b=>⟨s.free (c p b).1,(c p b).2⟩,j⟩
 |_=>exact dU.back s (λ_ z=>z) h
structure KS(X:Cx)(M:Ms)(m:Md)(ab:Addr->Prop)(s0:Option V)(H0:Hp)(d:Dn)(D:Ends):Prop where
 nx:∀A ε σ H,A.ab=ab->A.s0=s0->d.nx ε->SR X.K M A H0 σ H ε->D.nx σ H
 rt:∀w v H',d.rt w->aq H0 H'->zX X.K ab s0 H0 H' m w v->D.rt v H'
 bk:∀A ε σ H,A.ab=ab->A.s0=s0->d.bk ε->SR X.K M A H0 σ H ε->D.bk σ H
 ct:∀A ε σ H,A.ab=ab->A.s0=s0->d.ct ε->SR X.K M A H0 σ H ε->D.ct σ H
noncomputable def sV(X:Cx)(M:Ms)(m:Md)(t:WS):TS:=λD c H=>∃A a b d,SR X.K M A a c H b/\ER X a d.ex/\A.s0.isSome=iU m/\t d b/\KS X M m A.ab A.s0 a d D
abbrev VS(X:Cx)(M:Ms)(m:Md)(st:Stmt)(t:WS):Prop:=PS X st (sV X M m t)
abbrev Bv(X:Cx)(M:Ms)(m:Md)(st:List Stmt)(t:WS):Prop:=se X st (sV X M m t)
theorem PS.imp{X:Cx}{e:Stmt}{t t':TS}(h:PS X e t)(k:∀D a H,t' D a H->t D a H):PS X e t':=λb s a H D I w=>h b s a H D I (k D a H w)
theorem se.imp{X:Cx}{e:List Stmt}{t t':TS}(h:se X e t)(k:∀D a H,t' D a H->t D a H):se X e t':=λb s a H D I w=>h b s a H D I (k D a H w)
section
variable{X:Cx}{M M':Ms}{R:Addr->Prop}{m mr m0:Md}{st:Stmt}{rest:List Stmt}{t u:WS}{e e1 e2 c:Expr}{te t1 t2 tc:(Addr->Prop)->WT}{pos pos':Pos}{x:Str}{i:Nat}{π:List kM}
theorem JJ:Bv X M m [] (λd a=>d.nx a):=se.imp AF<|by rintro D b H ⟨A,g,a,d,S,f,hz,h,k⟩;exact k.nx A a b H rfl rfl h S
theorem JK(h:VS X M m st t):Bv X M m [st] t:=jG h
theorem Gf(h:VS X M m st t)(k:Bv X M m rest u):Bv X M m (st::rest) (λd b=>t {d with nx:=u d} b):=
 se.imp (bq h k)<|by rintro D r H ⟨A,j,b,d,S,f,hz,h,k⟩;exact⟨A,j,b,{d with nx:=u d},S,f,hz,h,λq a l s o g n p=>⟨q,j,a,d,p,f,(by rw[g];exact hz),n,by rw[o,g];exact k⟩,k.rt,k.bk,k.ct⟩
theorem JL{st:List Stmt}(h:Bv X M' m st t)(j:∀x∈M',x∈M)(g:iU m=true->aU M 0->aU M' 0):Bv X M m st (λd a=>t {d with nx:=λ_=>False,bk:=λ_=>False,ct:=λ_=>False} a):=se.imp h<|by rintro D B H ⟨A,p,a,d,S,l,hz,h,k⟩;obtain⟨y,n,b,_,o⟩:=S.sub (M':=M') j A.s0 (λv e=>⟨e,g (by rw[←hz,e];rfl) (S.sl v e).2⟩);refine⟨y,p,a,{d with nx:=λ_=>False,bk:=λ_=>False,ct:=λ_=>False},o,l,by rw[b];exact hz,h,λ_ _ _ _ _ _ z=>z.elim,λw v q f s r=>k.rt w v q f s ?_,λ_ _ _ _ _ _ z=>z.elim,λ_ _ _ _ _ _ z=>z.elim⟩;rw[b,n]at r;exact r
theorem OD:VS X M m (.Break pos) (λd a=>d.bk a):=PS.imp Eu<|by rintro D b H ⟨A,g,a,d,S,f,hz,h,k⟩;exact k.bk A a b H rfl rfl h S
theorem OE{f:List Nat}(g:∀{j:TE},PE X e j->PS X st (sr j (gT X.K false f)))(z:∀i∈f,¬aU M i)(B:∀R,VE X M R .s e (te R)):
 VS X M m st (λd b=>te d.ex b λw=>match w with|.tup l=>l.length=f.length/\d.nx (b8 b f l)|_=>False):=by
 rintro a s o H D I ⟨A,G,b,d,S,C,hz,h,k⟩;refine g (B d.ex) a s o H D I ⟨A,G,b,_,S,C,h,λw v F n q r=>?_⟩;cases w with
 |tup l=>exact tgt (P:=d.nx) z (S.same q) r.bw n λJ p y E=>k.nx A _ _ F rfl rfl y E
 |_=>exact n.elim
theorem OG{a:List Nat}{p:List Expr}{ta:(Addr->Prop)->Ev->(List W->Prop)->Prop}(n:∀{o:TA},PA X p o->PS X st (λD f H=>o f H λvs H1=>vs.length=a.length/\D.nx (cV f a vs) H1))(v:∀i∈a,¬aU M i)(w:∀R,VA X M R p (ta R)):
 VS X M m st (λd g=>ta d.ex g λj=>j.length=a.length/\d.nx (b8 g a j)):=by
 rintro b s f H D I ⟨A,z,g,d,S,y,hz,h,k⟩;refine n (w d.ex) b s f H D I ⟨A,z,g,_,S,y,h,λj vs H1 l q r=>?_⟩;exact⟨by rw[ai.len r,l.1],k.nx A _ _ H1 rfl rfl l.2 (SR.b8 a j vs v (S.same q) r l.1)⟩
theorem iV{K:Frag}{A:Fz}{J H:Hp}{C:St}{D:Ev}{w:W}{l:List W}(S:SR K M A J C H D)(d:(i,m0)∈M)(hp:iT m0 π=some .f)(N:look D i=some w)(hu:bF w π=some (.lst l)):
 ∃v p vs,C[i]?=some (some v)/\wu K H v π (.ref p)/\H p=some (.lst vs)/\ai K A.B H l vs/\A.B p/\∀H1,aq H H1->∀(b:List W)(a:List V),ai K A.B H1 b a->
  ∃h,h.ab=A.ab/\h.s0=A.s0/\(∀q o,H1 q=some o->h.B q->A.B q)/\wm A.B H1 (upd H1 p (.lst a))/\SR K M h J C (upd H1 p (.lst a)) (D.set i (some (setAt w π (.lst b)))):=by
 obtain⟨F,O⟩:=S.ow;obtain⟨v,g,j⟩:=O.val i m0 w d N;obtain⟨v',Z,F',Y,G,r,P,y⟩:=Fp.path π m0 j hp hu;rw[Fp]at P;obtain⟨ws,p,vs,e1,rfl,rfl,E,h4⟩:=P;cases e1;have L:p∈F i:=by rw[G];simp
 have I:A.B p:=(O.all p).mpr (.inr ⟨i,⟨m0,d⟩,L⟩);refine⟨v,p,vs,g,r,E,h4,I,λH1 s b a hr=>?_⟩;have U:=S.same s;obtain⟨F0,O0⟩:=U.ow;have O1:Rm K M A J C H1 D F:=⟨O.un,λi m w d e=>let⟨v,g,j⟩:=O.val i m w d e;⟨v,g,Fp.mv s (λ_ _ _ z=>z) m j⟩,O.emp,O.nd,O.ds,O.nw,O.na,O.all⟩;have T:=s _ _ E;have Q:wm A.B H1 (upd H1 p (.lst a)):=.put T rfl I;have WG:p∉Z++Y:=by
  have:=O.nd i ⟨m0,d⟩;rw[G]at this;intro z;have g:=kA.mp this;rcases Fs.mp z with z|z
  ·have j:=kA.mp g.1;exact j.2.2 p z p (by simp) rfl
  ·exact g.2.2 p (by simp) p z rfl
 have k:Fp K A.B (upd H1 p (.lst a)) m0 (setAt w π (.lst b)) v (Z++[p]++Y):=by
  refine y (upd H1 p (.lst a)) A.B (.lst b) [p] ?_ (λq o e=>?_) (λq _ _ z=>z)
  ·rw[Fp];exact⟨b,p,a,rfl,rfl,rfl,ao,ai.chg Q (λ_ _ _ z=>z) b hr⟩
  ·by_cases n:q=p
   ·subst n;rw[E]at e;cases e;exact .inl ⟨rfl,I,WG⟩
   ·exact .inr (by rw[ah n];exact s _ _ e)
 rw[←G]at k;have hc:∀q o,H1 q=some o->(C4 o=true/\q∈F i)\/upd H1 p (.lst a) q=some o:=λq o e=>by
  by_cases n:q=p
  ·subst n;rw[T]at e;cases e;exact .inl ⟨rfl,L⟩
  ·exact .inr (by rw[ah n];exact e)
 have WH:Fp K (λq=>(A.B q/\q∉F i)\/q∈F i) (upd H1 p (.lst a)) m0 (setAt w π (.lst b)) v (F i):=Fp.mv (aq.refl _) (λq _ _ z=>by
  rcases z with z|z
  ·exact z.1
  ·exact(O.all q).mpr (.inr ⟨i,⟨m0,d⟩,z⟩)) m0 k
 obtain⟨h,a1,a2,_,a3,a4,a5⟩:=O1.chg (F':=F i) U d N g hc (O.nd i ⟨m0,d⟩) (λq hq=>.inl hq) WH;exact⟨h,a1,a2,a3,Q,a5⟩
theorem nR{a:Ev}{P:List W->Prop}(h:match look a i with|some (.lst l)=>P l|_=>False):∃l,look a i=some (.lst l)/\P l:=by
 cases b:look a i with
 |none=>rw[b]at h;exact h.elim
 |some d=>
  rw[b]at h;cases d with
  |lst l=>exact⟨l,rfl,h⟩
  |_=>exact h.elim
theorem Gg{b:Ev}{P:W->List W->Prop}(h:match look b i with|some a=>(match bF a π with|some (.lst l)=>P a l|_=>False)|none=>False):∃a l,look b i=some a/\bF a π=some (.lst l)/\P a l:=by
 cases f:look b i with
 |none=>rw[f]at h;exact h.elim
 |some a=>
  rw[f]at h;dsimp only at h;cases d:bF a π with
  |none=>rw[d]at h;exact h.elim
  |some u=>
   rw[d]at h;cases u with
   |lst l=>exact⟨a,l,rfl,d,h⟩
   |_=>exact h.elim
theorem TR:iT m0 []=some m0:=by cases m0<;>rw[iT]
theorem Gh{w:W}:bF w []=some w:=by cases w<;>rw[bF]
theorem JM{w u:W}:setAt w [] u=u:=by cases w<;>rw[setAt]
theorem OH(q:∀{y:TE},PE X e y->PS X st (pN (Sv X.K "list" lD (qj X.K i π) (wM y EF))))(J:(i,m0)∈M)(G:iT m0 π=some .f)(L:∀R,VE X M R .s e (te R)):
 VS X M m st (λd a=>match look a i with|some j=>(match bF j π with|some (.lst l)=>te d.ex a λw=>l.length<sizeLine/\d.nx (a.set i (some (setAt j π (.lst (l++[w])))))|_=>False)|none=>False):=by
 rintro g s E H D I ⟨A,Y,a,d,S,P,hz,h,k⟩;obtain⟨j,l,e1,e2,h⟩:=Gg h;obtain⟨F,p,n,O,N,C,B,hB,b⟩:=iV S J G e1 e2;refine q (L d.ex) g s E H D I ⟨F,_,O,N,.inl ⟨rfl,n,.inl (.inl C)⟩,A,Y,a,_,S,P,h,λw v U z o r=>?_⟩;obtain⟨Z,Q,a2,_,_,T⟩:=b U o (l++[w]) (n++[v]) ((B.same o).app (.cons r.bw .nil));exact⟨p,n,v,rfl,rfl,o _ _ C,by rw[B.len];exact z.1,k.nx Z _ _ _ Q a2 z.2 T⟩
theorem OI(n:PS X st (pN (Su X.K "list" EN (qj X.K i π))))(y:(i,m0)∈M)(w:iT m0 π=some .f):
 VS X M m st (λd g=>match look g i with|some j=>(match bF j π with|some (.lst l)=>d.nx (g.set i (some (setAt j π (.lst []))))|_=>False)|none=>False):=by
 rintro b s r H D I ⟨A,N,g,d,S,L,hz,h,k⟩;obtain⟨j,l,e1,e2,h⟩:=Gg h;obtain⟨v,p,o,B,z,q,J,G,a⟩:=iV S y w e1 e2;obtain⟨F,C,a2,_,_,E⟩:=a H (aq.refl H) [] [] .nil;exact n b s r H D I ⟨v,_,B,z,.inl ⟨rfl,o,.inl (.inl q)⟩,p,o,rfl,rfl,q,k.nx F _ _ _ C a2 h E⟩
theorem OJ(o:∀{q:TE},PE X e q->PS X st (pN (Sv X.K "list" lD (jQ i) (wM q EF))))(F:(i,.f)∈M)(G:∀R,VE X M R .s e (te R)):
 VS X M m st (λd a=>match look a i with|some (.lst l)=>te d.ex a λw=>l.length<sizeLine/\d.nx (a.set i (some (.lst (l++[w]))))|_=>False):=by
 rintro g s E H D I ⟨A,Q,a,d,S,N,hz,h,k⟩;obtain⟨l,e1,h⟩:=nR h;obtain⟨U,p,j,L,J,B,z,Y,b⟩:=iV (π:=[]) S F TR e1 Gh;cases J;refine o (G d.ex) g s E H D I ⟨_,L,.inl ⟨rfl,j,.inl (.inl B)⟩,A,Q,a,_,S,N,h,λw v P y n r=>?_⟩;obtain⟨T,O,a2,_,_,C⟩:=b P n (l++[w]) (j++[v]) ((z.same n).app (.cons r.bw .nil));rw[JM]at C;exact⟨p,j,v,rfl,rfl,n _ _ B,by rw[z.len];exact y.1,k.nx T _ _ _ O a2 y.2 C⟩
theorem OL{J:Md}(Y:∀{tv:TE},PE X e tv->PS X st (pN (Sv X.K "list" lD (jQ i) (wM tv EF))))(L:(i,.ls J)∈M)(he:∀R,VE X M R J e (te R)):
 VS X M m st (λd C=>match look C i with|some (.lst l)=>te d.ex C λw=>l.length<sizeLine/\d.nx (C.set i (some (.lst (l++[w]))))|_=>False):=by
 rintro E s σ H D I ⟨A,H0,C,d,S,er,hz,h,k⟩;obtain⟨l,e1,h⟩:=nR h;obtain⟨F,O⟩:=S.ow;obtain⟨v0,h1,h2⟩:=O.val i _ _ L e1;rw[Fp]at h2;obtain⟨ws,p,N,F',q,rfl,j,P,h4⟩:=h2;cases q;have g:p∈F i:=by rw[j];exact FK
 have y:∀q∈F i,A.B q:=λq f=>(O.all q).mpr (.inr ⟨i,⟨_,L⟩,f⟩);have Z:(p::F').Nodup:=by rw[←j];exact O.nd i ⟨_,L⟩
 refine Y (he d.ex) E s σ H D I ⟨_,h1,.inl ⟨rfl,N,.inl (.inl P)⟩,A,H0,C,_,S,er,h,λw v H1 hw Q r=>?_⟩;obtain⟨G,nd,T,fp⟩:=r;have TQ:=Q _ _ P;have U:∀q∈F i,q∉G:=λq f z=>by obtain⟨o,e,_⟩:=O.has ⟨_,L⟩ f;rw[T q z]at e;cases e
 have ba:∀q o,H q=some o->((A.B q/\q∉F i)\/q∈p::(F'++G))->A.B q:=λq o e z=>by
  rcases z with z|z
  ·exact z.1
  ·rcases Fk.mp z with rfl|z
   ·exact y _ g
   ·rcases Fs.mp z with z|z
    ·exact y q (by rw[j];exact DL _ z)
    ·rw[T q z]at e;cases e
 have ZP:Fp X.K (λq=>(A.B q/\q∉F i)\/q∈p::(F'++G)) (upd H1 p (.lst (N++[v]))) (.ls J) (.lst (l++[w])) (.ref p) (p::(F'++G)):=by
  rw[Fp];refine⟨_,p,_,F'++G,rfl,rfl,rfl,ao,e9.app (h4.mono λw' v' F1 ZQ z=>Fp.chg (A:=A.B) (G:=(·∈F')) (λq o e=>?_) ba J ZQ z) ⟨v,[],G,[],rfl,by simp,?_,rfl,rfl⟩⟩
  ·by_cases n:q=p
   ·subst n;rw[P]at e;cases e;exact .inl ⟨rfl,y _ g,(Kt.mp Z).1⟩
   ·exact .inr (by rw[ah n];exact Q _ _ e)
  ·refine Fp.chg (A:=λq=>A.B q\/q∈G) (G:=(·∈G)) (λq o e=>?_) (λq o e z=>?_) J (λq f=>f) fp
   ·by_cases n:q=p
    ·subst n;rw[TQ]at e;cases e;exact .inl ⟨rfl,.inl (y _ g),U _ g⟩
    ·exact .inr (by rw[ah n];exact e)
   ·rcases z with z|z
    ·exact .inl z.1
    ·rcases Fk.mp z with rfl|z
     ·exact .inl (y _ g)
     ·exact(Fs.mp z).imp (λz=>y q (by rw[j];exact DL _ z)) id
 obtain⟨A',a1,a2,_,_,_,S'⟩:=O.chg (H1:=upd H1 p (.lst (N++[v]))) (F':=p::(F'++G)) S L e1 h1 (λq o e=>by
  by_cases n:q=p
  ·subst n;rw[P]at e;cases e;exact .inl ⟨rfl,g⟩
  ·exact .inr (by rw[ah n];exact Q _ _ e)) (by
   refine Kt.mpr ⟨λz=>?_,kA.mpr ⟨(Kt.mp Z).2,nd,λa ha b hb e=>?_⟩⟩
   ·rcases Fs.mp z with z|z
    ·exact(Kt.mp Z).1 z
    ·exact U _ g z
   ·subst e;exact U a (by rw[j];exact DL _ ha) hb) (λq f=>by
   rcases Fk.mp f with rfl|f
   ·exact .inl g
   ·exact(Fs.mp f).imp (λz=>by rw[j];exact DL _ z) (T q)) ZP
 exact⟨p,N,v,rfl,rfl,TQ,by rw[h4.len];exact hw.1,k.nx A' _ _ _ a1 a2 hw.2 S'⟩
theorem OM(B:∀{E F:TE},PE X e E->PE X e1 F->PS X st (sr E (RZ (jQ i) F LX)))(U:(i,.f)∈M)(Y:∀R,VE X M R .s e (te R))(T:∀R,VE X M R .s e1 (t1 R)):
 VS X M m st (λd b=>te d.ex b λw=>match look b i with|some (.lst l)=>(t1 d.ex b λx=>(match x with|.int j=>∃n,wj l.length j=some n/\d.nx (b.set i (some (.lst (l.set n w))))|_=>False))|_=>False):=by
 rintro q s P H D I ⟨A,O,b,d,S,L,hz,h,k⟩;refine B (Y d.ex) (T d.ex) q s P H D I ⟨A,O,b,_,S,L,h,λw v H1 y J r=>?_⟩;obtain⟨l,e1,y⟩:=nR y;obtain⟨v0,p,C,h1,h2,Z,K,hB,o⟩:=iV (π:=[]) S U TR e1 Gh;cases h2;refine⟨_,h1,A,O,b,_,S.same J,L,y,λz vz H2 a G Q=>?_⟩;cases z with
 |int j=>obtain⟨n,e,a⟩:=a;have g:=J.trans G;obtain⟨A',a1,a2,_,_,N⟩:=o H2 g (l.set n w) (C.set n v) ((K.same g).set (r.bw.same G));rw[JM]at N;exact⟨p,C,j,n,rfl,Q.bw.int_inv,g _ _ Z,by rw[K.len];exact e,k.nx A' _ _ _ a1 a2 a N⟩
 |_=>exact a.elim
theorem Gi(p:∀R,VE X [] R mr e (te R))(o:mr=m\/m=.s)(j:iU m=false):VS X M m (.Return (some e) pos) (λd b=>te d.ex b d.rt):=by
 rintro a s n H D I ⟨A,y,b,d,S,q,hz,h,k⟩;refine kD (p d.ex) a s n H D I ⟨_,y,b,_,S.go,q,h,λw v l g f r=>?_⟩;rcases o with rfl|rfl
 ·exact k.rt w v l g (S.sm.trans f) (.of j (r.back S.sm λ_ z=>z))
 ·exact k.rt w v l g (S.sm.trans f) (.of j ((r.s S.dm).back S.sm λ_ z=>z))
theorem JN(l:∀R,VE X M R .s e (te R)):VS X M .s (.Return (some e) pos) (λd b=>te d.ex b d.rt):=by rintro a s f H D I ⟨A,p,b,d,S,n,hz,h,k⟩;refine kD (l d.ex) a s f H D I ⟨A,p,b,_,S,n,h,λw v o j g r=>?_⟩;exact k.rt w v o j (S.sm.trans g) (.of rfl (dU.back S.sm S.sub' r))
theorem JO(o:PE X e (jQ i))(b:(i,m)∈M)(n:iU m=false):VS X M m (.Return (some e) pos) (λd f=>match look f i with|some w=>d.rt w|none=>False):=by
 rintro a s j H D I ⟨A,C,f,d,S,B,hz,h,k⟩
 try dsimp only at h
 cases g:look f i with
 |none=>rw[g]at h;exact h.elim
 |some w=>
  rw[g]at h;obtain⟨F,O⟩:=S.ow;obtain⟨v,y,r⟩:=O.val i m w b g;refine kD o a s j H D I ⟨_,y,k.rt _ _ H h S.sm (.of n ⟨F i,O.nd i ⟨m,b⟩,λp l=>O.nw i p ⟨m,b⟩ l,Fp.mv (aq.refl _) (λq _ _ z=>?_) m r⟩)⟩;rcases z with z|z
  ·exact(O.all q).mpr (.inl z)
  ·exact(O.all q).mpr (.inr ⟨i,⟨m,b⟩,z⟩)
theorem ve{K:Frag}{A:Fz}{n H:Hp}{o:St}{h:Ev}{g b:W}{v:V}(S:SR K M A n o H h)(a:(0,m0)∈M)(q:look h 0=some b)(f:∃d,A.s0=some d)(r:Rep K A.B H g v):zX K A.ab A.s0 n H (.io m0) (.tup [g,b]) v:=by obtain⟨d,f⟩:=f;obtain⟨F,O⟩:=S.ow;obtain⟨u,l,s⟩:=O.val 0 m0 b a q;rw[(S.sl d f).1]at l;cases l;have k:∀p,(A.ab p\/p∈F 0)->A.B p:=λp z=>(O.all p).mpr (z.imp id λz=>⟨0,⟨m0,a⟩,z⟩);exact⟨g,b,d,F 0,rfl,f,O.nd 0 ⟨m0,a⟩,λp j=>⟨O.nw 0 p ⟨m0,a⟩ j,O.na 0 p ⟨m0,a⟩ j⟩,Fp.mv (aq.refl _) (λp _ _ z=>k p z) m0 s,r.less k⟩
theorem TU{a b:List Stmt}(r:∀R,VT X M R c (tc R))(w:Bv X M m a t)(v:Bv X M m b u):VS X M m (.If c a b pos) (λd f=>tc d.ex f λx=>truth x λk=>if k=true then t d f else u d f):=by
 rintro g s p H D I ⟨A,n,f,d,S,l,hz,h,k⟩;refine Ew (r d.ex) w v g s p H D I ⟨A,n,f,_,S,l,h,λx y j o=>?_⟩;obtain⟨q,rfl,j⟩:=bG j;refine⟨q,rfl,?_⟩;cases q with
 |true=>exact⟨A,n,f,d,S.same o,l,hz,j,k⟩
 |false=>exact⟨A,n,f,d,S.same o,l,hz,j,k⟩
end
theorem zZ{X:Cx}{st:Stmt}{t:TS}(h:PS X.kC st t):PS X st t:=PS.kC h
section
variable{X:Cx}{M:Ms}{m:Md}{body:List Stmt}{tb:WS}{c iter tg:Expr}{tc:WT}{ti:(Addr->Prop)->WT}{pos:Pos}{one:Bool}{ts:List Nat}
theorem ON(L:VT X.kC M (λ_=>False) c tc)(O:Bv X.kC M m body tb):VS X M m (.While c body [] pos) (λd r=>Jp (λr Q=>tc r λx=>truth x Q) tb d r):=by
 refine PS.imp (zZ (wG PassesOwn.never L O)) ?_;rintro D T H ⟨A,u,r,d,S,U,hz,h,k⟩;obtain⟨J,⟨C,G⟩,s⟩:=h;refine⟨λn b f=>∃e a,e.ab=A.ab/\e.s0=A.s0/\J n a/\SR X.K M e u b f a,⟨C,A,r,rfl,rfl,G,S⟩,?_⟩;rintro n B Y ⟨y,v,t,p,F,w⟩;refine⟨y,u,v,_,w,.none,s n v F,λx R o z=>?_⟩;obtain⟨q,rfl,o⟩:=bG o;refine⟨q,rfl,?_⟩;cases q with
 |true=>obtain⟨N,P,o⟩:=o;refine⟨λb f=>∃e a,e.ab=A.ab/\e.s0=A.s0/\N a/\SR X.K M e u b f a,λb f ⟨e,a,j,a2,i,g⟩=>?_,y,u,v,_,w.same z,.none,(by rw[p];exact hz),o,⟨λe a b f j a2 i g=>⟨e,a,j.trans t,a2.trans p,i,g⟩,by rw[t,p];exact k.rt,λe a b f j a2 i g=>k.nx e a b f (j.trans t) (a2.trans p) i g,λe a b f j a2 i g=>⟨e,a,j.trans t,a2.trans p,i,g⟩⟩⟩;obtain⟨E,l,I⟩:=P a i;exact⟨E,l,e,a,j,a2,I,g⟩
 |false=>exact k.nx y _ _ R t p o (w.same z)
theorem OO(hc:X.calm=true)(hM:∀i∈ts,¬aU M i)(Y:PI X.kC tg iter (Gb X.kC M (λ_=>False) false (ti λ_=>False)))(hg:PG X.kC tg (gT X.K one ts))(hb:Bv X.kC M m body tb)(hs:∀x,foldedSetIterable iter X.env x=pure x):
 VS X M m (.For tg iter body [] pos) (λd G=>ti (λ_=>False) G λz=>items z λg=>nM (λw N a=>wT one ts w a λl=>tb N l) d g G):=by
 refine PS.imp (zZ (Nb PassesOwn.never hc Y hg hb hs)) ?_;rintro D σ H ⟨A,H0,G,d,S,er,hz,h,k⟩;refine⟨A,H0,G,_,S,.none,h,λz T=>?_⟩;obtain⟨g,ez,hw⟩:=tX.mp T;refine⟨g,ez,λJ H1 s1 it=>?_⟩;have S1:=S.same s1;obtain⟨L,Ss,Q,b1,b2⟩:=S1.rb;have low:C9 X.K false A.ab L J g:=it.low (λp o e=>b2 p o e) λp z=>S.sub' p z;have iw:=low.iw;refine⟨λi n f r=>n=g.length -i/\i<=g.length/\∃b a,b.ab=A.ab/\b.s0=A.s0/\SR X.K M b L f r a/\nM (λw N a=>wT one ts w a λl=>tb N l) d (g.drop i) a,⟨g.length,rfl,Kk _,A,G,rfl,rfl,Ss,hw⟩,?_⟩;have up:∀{b:Fz}{f:St}{r:Hp}{a:Ev},SR X.K M b L f r a->SR X.K M b H0 f r a:=λ{b f r a} q=>by obtain⟨F,O⟩:=q.ow;exact⟨q.len,q.sh,Q.trans q.sm,q.dm,q.sl,F,⟨O.un,O.val,O.emp,O.nd,O.ds,λi p Y e=>Q.free (O.nw i p Y e),O.na,O.all⟩⟩
 rintro i n R Z ⟨rfl,hi2,A2,fh,C,B,E,P⟩;by_cases u:i<g.length
 ·refine .inr ⟨iw.go i Z E.sm u,λf r=>∃b a,b.ab=A.ab/\b.s0=A.s0/\SR X.K M b L f r a/\nM (λw N a=>wT one ts w a λl=>tb N l) d (g.drop (i+1)) a,by rintro f r ⟨b,a,v,a2,t,s⟩;exact⟨g.length -(i+1),by omega,rfl,u,b,a,v,a2,t,s⟩,λx H3 y=>?_⟩;have U:g[i]?=some g[i]:=B1 u;rw[iq u,nM]at P;generalize g[i]=w at*;obtain⟨s3,I⟩:=iw.yl i Z x H3 w E.sm U y;have hr:Rep X.K (FB A2 M R) H3 w x:=I _ λp o e z=>by
   obtain⟨F,O⟩:=E.ow;rcases(O.all p).mp z with z|⟨j,hj,e2⟩
   ·rw[C]at z;exact z
   ·rw[O.nw j p hj e2]at e;cases e
  refine tgt hM (E.same s3) hr P λvs a hp S4=>?_;exact⟨A2,L,a,_,S4,.none,(by rw[B];exact hz),hp,⟨λb l TV X5 v a2 t s=>⟨b,l,v.trans C,a2.trans B,s,t⟩,λw' v' r t s q3=>k.rt w' v' r t (Q.trans s) (by rw[C,B]at q3;exact q3.back Q),λb l TV X5 v a2 t s=>k.nx b _ _ _ (v.trans C) (a2.trans B) t (up s),λb l TV X5 v a2 t s=>⟨b,l,v.trans C,a2.trans B,s,t⟩⟩⟩
 ·have e:i=g.length:=by omega
  subst e;refine .inl ⟨iw.st _ Z E.sm rfl,?_⟩;rw[List.drop_length,nM]at P;exact k.nx A2 _ _ _ C B P (up E)
end
structure Go(A:Fz)(H:Hp)(A':Fz)(H':Hp):Prop where
 ab:A'.ab=A.ab
 s0:A'.s0=A.s0
 B:∀p o,H p=some o->A'.B p->A.B p
 ch:wm A.B H H'
theorem Go.same{A:Fz}{H H':Hp}(s:aq H H'):Go A H A H':=⟨rfl,rfl,λ_ _ _ z=>z,.same s⟩
theorem Go.trans{A c b:Fz}{H H1 a:Hp}(g:Go A H c H1)(k:Go c H1 b a):Go A H b a:=by
 refine⟨k.ab.trans g.ab,k.s0.trans g.s0,λp o e z=>?_,λp o e=>?_⟩
 ·rcases g.ch p o e with⟨_,y⟩|y
  ·exact y
  ·exact g.B p o e (k.B p o y z)
 ·rcases g.ch p o e with y|y
  ·exact .inl y
  ·rcases k.ch p o y with⟨f,d⟩|h
   ·exact .inl ⟨f,g.B p o e d⟩
   ·exact .inr h
theorem Go.rep{K:Frag}{A a:Fz}{H H1:Hp}{w:W}{v:V}(g:Go A H a H1)(h:Rep K A.B H w v):Rep K a.B H1 w v:=Rep.chg g.ch g.B w h
abbrev Dd:=Ev->(W->Ev->Prop)->Prop
abbrev TY:=Ev->(List W->Ev->Prop)->Prop
noncomputable def tP(X:Cx)(M:Ms)(R:Addr->Prop)(t:Dd):TE:=λe H Q=>∃A c f P,SR X.K M A c e H f/\ER X c R/\t f P/\∀d w v b a,P w a->Go A H d b->SR X.K M d c e b a->Rep X.K d.B b w v->Q v b
noncomputable def X6(X:Cx)(M:Ms)(R:Addr->Prop)(t:Dd):TT:=λe H Q=>∃A c f P,SR X.K M A c e H f/\ER X c R/\t f P/\∀g x d a,P x a->Go A H g d->SR X.K M g c e d a->∃b,x=.bl b/\Q b d
noncomputable def ZR(X:Cx)(M:Ms)(R:Addr->Prop)(t:TY):TA:=λe H Q=>∃A c f P,SR X.K M A c e H f/\ER X c R/\t f P/\∀d g h b a,P g a->Go A H d b->SR X.K M d c e b a->ai X.K d.B b g h->Q h b
abbrev VP(X:Cx)(M:Ms)(R:Addr->Prop)(e:Expr)(t:Dd):Prop:=PE X e (tP X M R t)
abbrev HV(X:Cx)(M:Ms)(R:Addr->Prop)(e:Expr)(t:Dd):Prop:=PT X e (X6 X M R t)
abbrev Vh(X:Cx)(M:Ms)(R:Addr->Prop)(e:Expr)(t:Dd):Prop:=PW X e (X6 X M R t)
abbrev JP(X:Cx)(M:Ms)(R:Addr->Prop)(es:List Expr)(t:TY):Prop:=PA X es (ZR X M R t)
section
variable{X:Cx}{M:Ms}{R:Addr->Prop}{m m0:Md}{e a b c:Expr}{es rest:List Expr}{t ta tb:Dd}{tl:TY}{pos apos cpos p:Pos}{i j:Nat}{st:Stmt}{x:Str}{π:List kM}
theorem TZ{t:WT}(h:VE X M R .s e t):VP X M R e (λd Q=>t d λw=>Q w d):=PE.imp h<|by rintro o H Q ⟨A,l,d,P,S,g,h,k⟩;exact⟨A,l,d,_,S,g,h,λw v n f s r=>k A w v n d f (.same s) (S.same s) r.bw⟩
theorem OP{t:WT}(h:VT X M R e t):HV X M R e (λd Q=>t d λw=>Q w d):=PT.imp h<|by rintro o H Q ⟨A,l,d,P,S,g,h,k⟩;exact⟨A,l,d,_,S,g,h,λw n f s=>k A w n d f (.same s) (S.same s)⟩
theorem OQ(E:(i,.f)∈M)(C:PE X e (jQ i))(n:attributeBase e "pop" X.env (eval e X.env)=eval e X.env)(d:(apos.endLine==cpos.line)=true):
 VP X M R (.Call (.Attribute e "pop" apos) [] [] cpos) (λs Q=>match look s i with|some (.lst l)=>∃w,l[l.length -1]?=some w/\Q w (s.set i (some (.lst l.dropLast)))|_=>False):=
 PE.imp (zx UV PySem.F.slot_list_pop PySem.F.type_list_pop Ny C n d)<|by rintro T H Q ⟨A,H0,s,P,S,Z,h,k⟩;obtain⟨l,L,w,K,h⟩:=nR h;obtain⟨U,q,r,I,G,y,u,Y,o⟩:=iV (π:=[]) S E TR L Gh;cases G;obtain⟨v,J,D⟩:=u.get K;obtain⟨B,O,a2,a3,N,z⟩:=o H (aq.refl H) l.dropLast r.dropLast u.dropLast;rw[JM]at z;have g:Go A H B (upd H q (.lst r.dropLast)):=⟨O,a2,a3,N⟩;exact⟨_,I,.inl ⟨rfl,r,.inl (.inl y)⟩,q,r,v,rfl,rfl,y,by rw[u.len];exact J,k B w v _ _ h g z (g.rep D)⟩
theorem OR{op:Operator}(ha:VP X M R a ta)(hb:VP X M R b tb):VP X M R (.BinOp a op b pos) (λD Q=>ta D λx G=>tb G λy f=>g8 op x y λz=>Q z f):=by rintro n s L H Q I ⟨A,J,D,P,S,T,p,k⟩;refine wpAny_BinOp (bin ha hb I (R:=λC q l=>∃x y d f,g8 op x y (λz=>P z f)/\Go A H d l/\SR X.K M d J L l f/\Rep X.K d.B l x C/\Rep X.K d.B l y q) ⟨A,J,D,_,S,T,p,λA1 x C H1 G F g1 S1 Z=>⟨A1,J,G,_,S1,T,F,λd y q l f E O o Y=>⟨x,y,d,f,E,g1.trans O,o,O.rep Z,Y⟩⟩⟩ ?_);rintro v u U C q l I2 rv ru ⟨x,y,d,f,h,g,o,F,E⟩;exact zV op n U L l d.B x y C q v u _ Q I2 o.dom rv ru F.b E.b h λw z H' pw N r=>k d w z H' f pw (g.trans (.same N)) (o.same N) (r.rep o.dom)
theorem OS{op:CmpOp}(hu:X.A.units+64<cLine)(hm:behindInMarks op b=false)(ha:VP X M R a ta)(hb:VP X M R b tb):VP X M R (.Compare a [op] [b] pos) (λD Q=>ta D λx G=>tb G λy f=>eT op x y λz=>Q z f):=by rintro n s L H Q I ⟨A,J,D,P,S,T,p,k⟩;refine wpAny_Compare1 (bin ha hb I (R:=λC q l=>∃x y d f,eT op x y (λz=>P z f)/\Go A H d l/\SR X.K M d J L l f/\Rep X.K d.B l x C/\Rep X.K d.B l y q) ⟨A,J,D,_,S,T,p,λA1 x C H1 G F g1 S1 Z=>⟨A1,J,G,_,S1,T,F,λd y q l f E O o Y=>⟨x,y,d,f,E,g1.trans O,o,O.rep Z,Y⟩⟩⟩ ?_) hm;rintro v u U C q l I2 rv ru ⟨x,y,d,f,h,g,o,F,E⟩;exact u9 hu op n U L l d.B x y C q v u _ Q I2 o.dom rv ru F.b E.b h λw z H' pw N r=>k d w z H' f pw (g.trans (.same N)) (o.same N) (r.rep o.dom)
theorem JQ{op:CmpOp}(hu:X.A.units+64<cLine)(hm:behindInMarks op b=false)(ha:VP X M R a ta)(hb:VP X M R b tb):HV X M R (.Compare a [op] [b] pos) (λG Q=>ta G λx N=>tb N λy n=>eT op x y λz=>Q z n):=by
 rintro l s F H Q I ⟨A,O,G,P,S,er,p,k⟩;have q:=bin ha hb I (R:=λD C o=>∃x y d n,eT op x y (λz=>P z n)/\Go A H d o/\SR X.K M d O F o n/\Rep X.K d.B o x D/\Rep X.K d.B o y C) ⟨A,O,G,_,S,er,p,λA1 x D H1 N L g1 S1 rx=>⟨A1,O,N,_,S1,er,L,λd y C o n J Z E ry=>⟨x,y,d,n,J,g1.trans Z,E,Z.rep rx,ry⟩⟩⟩
  (f:=compareOp op) (Q:=EP X l F λz T=>∃b,z=.bl b/\Q b T)<|by rintro v u U D C o I2 rv ru ⟨x,y,d,n,h,g,E,L,J⟩;refine u9 hu op l U F o d.B x y D C v u _ _ I2 E.dom rv ru L.b J.b h λw z T pw Y r=>?_;obtain⟨b,rfl,q⟩:=k d w T n pw (g.trans (.same Y)) (E.same Y);exact⟨b,r.bw.kN,q⟩
 refine wpAny_isTrue_Compare1 (bJ q λv s1 q1=>bJ q1 λu U q2=>bJ q2 λc s3 ⟨z,H3,I3,r3,b,ez,q3⟩=>?_) hm;subst ez;cases r3;exact ar ⟨H3,I3,q3⟩
theorem vf(n:∀d,isTrue e X.env d=(do let v←d;standAt e.pos;holding [v] (truthy v)))(h:VP X M R e t):HV X M R e t:=PT.imp (uB h n)<|by rintro B H Q ⟨A,w,f,P,S,q,h,k⟩;refine⟨A,w,f,P,S,q,h,λy x C u r l o s g=>?_⟩;obtain⟨b,rfl,z⟩:=k y _ u r l o s;exact⟨b,g.kN,z⟩
theorem Gj(d:HV X M R a ta):Vh X M R (.BoolOp .And [a] pos) ta:=AE d
theorem JR(z:HV X M R a ta)(w:Vh X M R (.BoolOp .And (b::rest) pos) tb):Vh X M R (.BoolOp .And (a::b::rest) pos) (λg Q=>ta g λx d=>truth x λk=>if k=true then tb d Q else Q (.bl false) d):=
 PW.imp (Es z w)<|by
  rintro I H Q ⟨A,s,g,P,S,n,h,k⟩;refine⟨A,s,g,_,S,n,h,λu x F o f l r=>?_⟩;obtain⟨q,rfl,f⟩:=bG f;refine⟨q,rfl,?_⟩;cases q with
  |true=>exact⟨u,s,o,P,r,n,f,λG y E C v B D=>k G _ E C v (l.trans B) D⟩
  |false=>obtain⟨b,e,q⟩:=k u _ F o f l r;cases e;exact q
theorem JS:JP X M R [] (λd Q=>Q [] d):=PA.imp aQ<|by rintro f H Q ⟨A,l,d,P,S,g,h,k⟩;exact k A [] [] H d h (.same (aq.refl H)) S .nil
theorem Gk(w:starEach (a::es) X.env=(false,eval a X.env)::starEach es X.env)(z:VP X M R a ta)(y:JP X M R es tl):JP X M R (a::es) (λd Q=>ta d λx l=>tl l λn g=>Q (x::n) g):=
 PA.imp (aj z y w)<|by rintro I H Q ⟨A,r,d,P,S,q,h,k⟩;refine⟨A,r,d,_,S,q,h,λG x J L l v B D s=>⟨G,r,l,_,D,q,v,λF n K E g f o C u=>?_⟩⟩;exact k F _ _ E g f (B.trans o) C (.cons (o.rep s) u)
theorem T3(O:lA b)(U:VP X M R a ta)(T:VP X M R b tb):VP X M R (.Subscript a b pos) (λr Q=>ta r λx F=>tb F λy o=>N3 x y λz=>Q z o):=PE.imp (EJ zv U T O)<|by
 rintro σ H Q ⟨A,L,r,P,S,K,h,k⟩;refine⟨A,L,r,_,S,K,h,λZ x vx H1 F N D Y f=>⟨Z,L,F,_,Y,K,N,λJ y vy I o d q G u=>?_⟩⟩;have f:=(q.rep f).b;cases x with
 |lst l=>
  cases y with
  |int i=>obtain⟨p,s,rfl,g,C⟩:=f.lst;obtain⟨w,e,d⟩:=d;obtain⟨v,E,B⟩:=Br C e;exact .inl ⟨p,s,i,v,rfl,u.int_inv,.inl g,E,k J _ _ I o d (D.trans q) G B⟩
  |_=>exact d.elim
 |tup l=>
  cases y with
  |int i=>obtain⟨p,s,rfl,g,C⟩:=f.tup;obtain⟨w,e,d⟩:=d;obtain⟨v,E,B⟩:=Br C e;exact .inr (.inl ⟨p,s,i,v,rfl,u.int_inv,g,E,k J _ _ I o d (D.trans q) G B⟩)
  |_=>exact d.elim
 |gx ns=>
  cases y with
  |int i=>obtain⟨p,rfl,g⟩:=f.gx;obtain⟨n,e,d⟩:=d;exact .inl ⟨p,_,i,_,rfl,u.int_inv,g,Bs e,k J _ _ I o d (D.trans q) G (gf _)⟩
  |_=>exact d.elim
 |_=>exact d.elim
theorem ai.bl{K:Frag}{B:Addr->Prop}{H:Hp}:∀{d:List W}{vs:List V},ai K B H d vs->ou K B H d vs
 |[],_,h=>h.nil_inv
 |w::d,_,h=>by obtain⟨v,r,rfl,g,f⟩:=h.cons_inv;exact⟨v,r,rfl,g.b,f.bl⟩
theorem OT{u:BI}{s:String}(N:cF X (.builtin s) (Ou X.K u))(J:Gl X x)(I:X.mg x=none)(F:bootBuiltins x=some (.builtin s))(O:JP X M R (e::es) tl)(G:x≠"__name__")(n:(x==("__debug__":Str))=false)
 (L:starEach (e::es) X.env=(false,eval e X.env)::starEach es X.env)(l:(backTo pos (starEach es X.env)).any (·.1)=false):VP X M R (.Call (.Name x p) (e::es) [] pos) (λf Q=>tl f λg d=>sf u g λw=>Q w d):=
 PE.imp (bY N J I F O G n L l)<|by rintro σ H Q ⟨A,Y,f,P,S,U,h,k⟩;exact⟨A,Y,f,_,S,U,h,λz g vs H1 y E T o C=>⟨z.B,g,λw=>P w y,o.dom,C.bl,E,λw v Z D q r=>k z w v Z y D (T.trans (.same q)) (o.same q) (r.rep o.dom)⟩⟩
theorem OU{u:BI}{s:String}(N:cF X (.type s) (Ou X.K u))(J:Gl X x)(I:X.mg x=none)(F:bootBuiltins x=some (.type s))(O:JP X M R (e::es) tl)(G:x≠"__name__")(n:(x==("__debug__":Str))=false)
 (L:starEach (e::es) X.env=(false,eval e X.env)::starEach es X.env)(l:(backTo pos (starEach es X.env)).any (·.1)=false):VP X M R (.Call (.Name x p) (e::es) [] pos) (λf Q=>tl f λg d=>sf u g λw=>Q w d):=
 PE.imp (tK N J I F O G n L l)<|by rintro σ H Q ⟨A,Y,f,P,S,U,h,k⟩;exact⟨A,Y,f,_,S,U,h,λz g vs H1 y E T o C=>⟨z.B,g,λw=>P w y,o.dom,C.bl,E,λw v Z D q r=>k z w v Z y D (T.trans (.same q)) (o.same q) (r.rep o.dom)⟩⟩
theorem JT(o:∀{q:TE},PE X e q->PS X st (sr q (gW j)))(z:¬aU M j){tt:(Addr->Prop)->Dd}(B:∀R,VP X M R e (tt R)):VS X M m st (λd n=>tt d.ex n λw f=>d.nx (f.set j (some w))):=by rintro l s u H D I ⟨A,G,n,d,S,C,hz,h,k⟩;exact o (B d.ex) l s u H D I ⟨A,G,n,_,S,C,h,λJ w v F f y g E r=>k.nx J _ _ F g.ab g.s0 y (E.set z r)⟩
theorem JU{tt:(Addr->Prop)->Dd}(o:∀R,PS X st (pN (tP X M R (tt R)))):VS X M m st (λd n=>tt d.ex n λw f=>d.nx f):=by rintro l s q H D I ⟨A,C,n,d,S,y,hz,h,k⟩;exact o d.ex l s q H D I ⟨A,C,n,_,S,y,h,λE w v B f u g z r=>k.nx E _ _ B g.ab g.s0 u z⟩
theorem OV{x y:List Stmt}{w v:WS}{tt:(Addr->Prop)->Dd}(F:∀R,HV X M R c (tt R))(J:Bv X M m x w)(G:Bv X M m y v):VS X M m (.If c x y pos) (λd o=>tt d.ex o λx f=>truth x λk=>if k=true then w d f else v d f):=by
 rintro l s E H D I ⟨A,u,o,d,S,r,hz,h,k⟩;refine Ew (F d.ex) J G l s E H D I ⟨A,u,o,_,S,r,h,λC x K z n g B=>?_⟩;obtain⟨q,rfl,n⟩:=bG n;refine⟨q,rfl,?_⟩;cases q with
 |true=>exact⟨C,u,z,d,B,r,(by rw[g.s0];exact hz),n,by rw[g.ab,g.s0];exact k⟩
 |false=>exact⟨C,u,z,d,B,r,(by rw[g.s0];exact hz),n,by rw[g.ab,g.s0];exact k⟩
theorem OW{u:List Stmt}{tb:WS}{tt:Dd}(hc:HV X.kC M (λ_=>False) c tt)(hb:Bv X.kC M m u tb):VS X M m (.While c u [] pos) (λd E=>Tn (λE Q=>tt E λx f=>truth x λk=>Q k f) tb d E):=by
 refine PS.imp (zZ (wG PassesOwn.never hc hb)) ?_;rintro D σ H ⟨A,G,E,d,S,er,hz,h,k⟩;obtain⟨J,⟨m0,Y⟩,F⟩:=h;refine⟨λn o v=>∃r f,r.ab=A.ab/\r.s0=A.s0/\J n f/\SR X.K M r G o v f,⟨m0,A,E,rfl,rfl,Y,S⟩,?_⟩;rintro n P H1 ⟨A1,I,z,s,U,S1⟩;refine⟨A1,G,I,_,S1,.none,F n I U,λO x H2 fh C g L=>?_⟩;obtain⟨q,rfl,C⟩:=bG C;refine⟨q,rfl,?_⟩;have z:=g.ab.trans z;have s:=g.s0.trans s;cases q with
 |true=>obtain⟨N,hN,C⟩:=C;refine⟨λo v=>∃r f,r.ab=A.ab/\r.s0=A.s0/\N f/\SR X.K M r G o v f,λo v ⟨r,f,B,a2,y,w⟩=>?_,O,G,fh,_,L,.none,(by rw[s];exact hz),C,⟨λr f o v B a2 y w=>⟨r,f,B.trans z,a2.trans s,y,w⟩,by rw[z,s];exact k.rt,λr f o v B a2 y w=>k.nx r f o v (B.trans z) (a2.trans s) y w,λr f o v B a2 y w=>⟨r,f,B.trans z,a2.trans s,y,w⟩⟩⟩;obtain⟨T,l,Z⟩:=hN f y;exact⟨T,l,r,f,B,a2,Z,w⟩
 |false=>exact k.nx O _ _ H2 z s C L
theorem OX(z:∀{F:TE},PE X e F->PS X st (pN (Sv X.K "list" lD (jQ i) (wM F EF))))(G:(i,.f)∈M){tt:(Addr->Prop)->Dd}(U:∀R,VP X M R e (tt R)):
 VS X M m st (λd u=>match look u i with|some (.lst _)=>(tt d.ex u λw n=>match look n i with|some (.lst l)=>l.length<sizeLine/\d.nx (n.set i (some (.lst (l++[w]))))|_=>False)|_=>False):=by
 rintro q s Q H D I ⟨A,H0,u,d,S,er,hz,h,k⟩;obtain⟨l0,e0,h⟩:=nR h;obtain⟨v0,T,Rt,J,Z,Y,h4,_,_⟩:=iV (π:=[]) S G TR e0 Gh;cases Z;refine z (U d.ex) q s Q H D I ⟨_,J,.inl ⟨rfl,Rt,.inl (.inl Y)⟩,A,H0,u,_,S,er,h,λA1 w v P bW y g S1 r=>?_⟩;obtain⟨l,e1,y⟩:=nR y;obtain⟨v1,p1,E,N,C,B,L,hB,o⟩:=iV (π:=[]) S1 G TR e1 Gh;cases C;rw[J]at N;cases N;obtain⟨A',a1,a2,_,_,O⟩:=o P (aq.refl P) (l++[w]) (E++[v]) (L.app (.cons r .nil));rw[JM]at O;exact⟨T,E,v,rfl,rfl,B,by rw[L.len];exact y.1,k.nx A' _ _ _ (a1.trans g.ab) (a2.trans g.s0) y.2 O⟩
theorem OY{te:(Addr->Prop)->WT}(y:∀R,VE X M R .s e (te R))(z:(0,m0)∈M):VS X M (.io m0) (.Return (some e) pos) (λd f=>te d.ex f λw=>match look f 0 with|some o=>(d.rt (.tup [w,o]))|none=>False):=by
 rintro g s u H D I ⟨A,E,f,d,S,B,hz,h,k⟩;refine kD (y d.ex) g s u H D I ⟨A,E,f,_,S,B,h,λw v C l q r=>?_⟩;cases n:look f 0 with
 |none=>rw[n]at l;exact l.elim
 |some o=>rw[n]at l;exact k.rt _ v C l (S.sm.trans q) (ve (S.same q) z n (TK.mp hz) r.bw)
theorem OZ(q:(0,m0)∈M):VS X M (.io m0) (.Return none pos) (λd g=>match look g 0 with|some n=>(d.rt (.tup [.aS,n]))|none=>False):=by
 rintro f s o H D I ⟨A,u,g,d,S,r,hz,h,k⟩
 try dsimp only at h
 cases l:look g 0 with
 |none=>rw[l]at h;exact h.elim
 |some n=>rw[l]at h;exact AG f s o H D I (k.rt _ _ H h S.sm (ve S q l (TK.mp hz) Tq))
end
section
variable{X:Cx}{M:Ms}{R:Addr->Prop}{m m0:Md}{e o a b c:Expr}{es rest:List Expr}{t ta tb:Dd}{tl:TY}{pos apos cpos p:Pos}{i j n:Nat}{st:Stmt}{x:Str}{π:List kM}
theorem JV{k n:Nat}{fv:Value}{sp:bN}(F:cG X.prog X.w X.K X.mg X.base k fv n (Mh X.K n m sp))(hr:cC k X.A)(hg:Gl X x)(hm:X.mg x=some fv)
 (hn:∀d P R,sp d P R->d.length=n)(ha:JP X M R (e::es) tl)(N:(x==("__debug__":Str))=false)(he:starEach (e::es) X.env=(false,eval e X.env)::starEach es X.env)(L:(backTo pos (starEach es X.env)).any (·.1)=false):
 VP X M R (.Call (.Name x p) (e::es) [] pos) (λD Q=>tl D λd z=>sp d (λw=>Q w z) R):=by
 rintro q s U H Q I ⟨A,H0,D,P,S,er,h,kk⟩;obtain⟨E,Z,hE,hR⟩:=er;refine Re (eZ I hg hm ?_ N);refine X1 (h₀:=X.base) I.ok.mod.HP F.keep (bJ (ha pos q s U H (λG u=>∃d f g,Go A H f u/\SR X.K M f H0 U u g/\ai X.K f.B u d G/\sp d (λw=>P w g) R) I ⟨A,H0,D,_,S,⟨E,Z,hE,hR⟩,h,λf d G u g hw O l J=>⟨d,f,g,O,l,J,hw⟩⟩) λus s1 hz=>?_) he L;obtain⟨G,u,I1,r,d,f,g,O,l,J,Y⟩:=hz;exact⟨I1.jP,F.run hr Z I1 r ⟨f.B,d,_,R,hn _ _ _ Y,J,l.dom,Y,λw v T pw y r'=>kk f w v T g pw (O.trans (.same y)) (l.same y) (r'.rep l.dom),λC T rc y=>hE C T rc (l.sm.trans y)⟩⟩
theorem Gm{K:Frag}{A:Fz}{L H:Hp}{l:St}{q:Ev}{k:W}{sp:bN}{g:List W}{vs:List V}{P:W->Ev->Prop}{Q:VK}{E:XK}{s:V}(S:SR K M A L l H q)(G:(i,m0)∈M)(T:look q i=some k)(N:l[i]?=some (some s))(Z:ai K A.B H g vs)(hn:g.length+1=n)
 (h:sp (k::g) (λr=>∃w y,r=.tup [w,y]/\P w (q.set i (some y))) R)(hE:∀C H',R C->aq L H'->E (.ref C) none H')(kk:∀f w v H' d,P w d->Go A H f H'->SR K M f L l H' d->Rep K f.B H' w v->Q v H'):Mi K n m0 sp (s::vs) H Q E:=by
 obtain⟨F,O⟩:=S.ow;obtain⟨v,U,h2⟩:=O.val i m0 k G T;rw[N]at U;cases U;have I:aU M i:=⟨m0,G⟩;have Y:∀p,((A.B p/\p∉F i)\/p∈F i)->A.B p:=λp z=>by
  rcases z with z|z
  ·exact z.1
  ·exact(O.all p).mpr (.inr ⟨i,I,z⟩)
 refine⟨λp=>A.B p/\p∉F i,F i,k,s,g,vs,_,R,rfl,hn,O.nd i I,λp hp z=>z.2 hp,λp z=>S.dom p z.1,Fp.mv (aq.refl _) (λp _ _ z=>Y p z) m0 h2,Z.less Y,h,λw y v F' H' D J nd nw fp u=>?_,λC H' rc J=>hE C H' rc λp o e=>?_⟩
 ·obtain⟨w',y',e,D⟩:=D;cases e;obtain⟨f,a1,a2,aB,a3,a4,S'⟩:=O.chg (F':=F') S G T N (λp o e=>(J p o e).imp (λz=>⟨z.1,z.2⟩) id) nd nw fp;exact kk f w v H' _ D ⟨a1,a2,a3,a4⟩ S' (u.less λp z=>(aB p).mp z)
 ·rcases J p o (S.sm p o e)with⟨_,z⟩|z
  ·rw[O.nw i p I z]at e;cases e
  ·exact z
theorem O2{k n:Nat}{fv:Value}{sp:bN}(F:cG X.prog X.w X.K X.mg X.base k fv n (Mi X.K n m0 sp))(hr:cC k X.A)(hg:Gl X x)(hm:X.mg x=some fv)(hi:(i,m0)∈M)
 (hn:∀f P R,sp f P R->f.length=n)(hv:PE X e (jQ i))(ha:JP X M R es tl)(Z:(x==("__debug__":Str))=false)(he:starEach (e::es) X.env=(false,eval e X.env)::starEach es X.env)(U:(backTo pos (starEach es X.env)).any (·.1)=false):
 VP X M R (.Call (.Name x p) (e::es) [] pos) (λG Q=>match look G i with|some _=>(tl G λf l=>match look l i with|some q=>sp (q::f) (λr=>∃w y,r=.tup [w,y]/\Q w (l.set i (some y))) R|none=>False)|none=>False):=by
 rintro J s σ H Q I ⟨A,H0,G,P,S,er,h,kk⟩;obtain⟨E,pE,hE,hR⟩:=er
 try dsimp only at h
 cases Y:look G i with
 |none=>rw[Y]at h;exact h.elim
 |some w1=>
  rw[Y]at h;obtain⟨F0,O0⟩:=S.ow;obtain⟨v0,L,_⟩:=O0.val i m0 w1 hi Y;refine Re (eZ I hg hm ?_ Z);refine X1 (h₀:=X.base) I.ok.mod.HP F.keep (bJ (aj hv ha he pos J s σ H (λO N=>∃f u D C q,O=v0::u/\Go A H D N/\SR X.K M D H0 σ N C/\ai X.K D.B N f u/\look C i=some q/\sp (q::f) (λr=>∃w y,r=.tup [w,y]/\P w (C.set i (some y))) R) I ⟨v0,L,A,H0,G,_,S,⟨E,pE,hE,hR⟩,h,λD f O N C z g1 S1 T=>?_⟩) λus s1 ⟨O,N,I1,r,f,u,D,C,q,ev,g1,S1,T,d,pT⟩=>⟨I1.jP,?_⟩) he U
  ·try dsimp only at z
   cases d:look C i with
   |none=>rw[d]at z;exact z.elim
   |some q=>rw[d]at z;exact⟨f,O,D,C,q,rfl,g1,S1,T,d,z⟩
  ·subst ev;exact F.run hr pE I1 r (Gm S1 hi d L T (by have:=hn _ _ _ pT;simpa using this) pT hE λA' w v H' l z g S' rr=>kk A' w v H' l z (g1.trans g) S' rr)
theorem O3{pl:Sem Bool}{G:W}{k n:Nat}{f:Addr}{fd:FuncData}{ps fs:List Str}{ms:List Md}{sp:bN}(hG:∀C,G=.cls C->Meth X.K C x f)(F:aR X.prog X.w X.K X.mg X.base (dP X.prog X.w) k f fd ps (Mi X.K n (.o fs ms) sp))(hr:cC k X.A)(hb:Binds X.K fd ps [])(hi:(i,.o fs ms)∈M)(Z:fs.contains x=false)
 (hn:∀D P R,sp D P R->D.length=n)(hv:PE X o (jQ i))(ha:JP X M R (e::es) tl)(hst:starEach (e::es) X.env=(false,eval e X.env)::starEach es X.env)(hpl:(backTo pos (starEach es X.env)).any (·.1)=false)
 (ht:eval (.Call (.Attribute o x apos) (e::es) [] pos) X.env=(do
   let ov←eval o X.env
   standAt apos.atName
   let(f,first)←holding [ov] (getMethod ov x pl)
   callWith pos f first (backTo pos (starEach (e::es) X.env)) (backToKw pos (keywordEach [] X.env)))):
 VP X M R (.Call (.Attribute o x apos) (e::es) [] pos) (λY Q=>match look Y i with|some (.obj C _ _)=>G=.cls C/\(tl Y λD J=>match look J i with|some N=>sp (N::D) (λr=>∃w y,r=.tup [w,y]/\Q w (J.set i (some y))) R|none=>False)|_=>False):=by
 rintro L s σ H Q I ⟨A,H0,Y,P,S,er,h,kk⟩;obtain⟨E,pE,hE,hR⟩:=er
 try dsimp only at h
 cases hl:look Y i with
 |none=>rw[hl]at h;exact h.elim
 |some w1=>
  rw[hl]at h;cases w1 with
  |obj C fs' ZS=>
   obtain⟨hg,h⟩:=h;obtain⟨F0,O0⟩:=S.ow;obtain⟨v0,hv0,T4⟩:=O0.val i _ _ hi hl;rw[Fp]at T4;obtain⟨C',dx,lT,q,Rt,F',e1,rfl,e3,h1,h2,hc,_⟩:=T4;cases e1;have lk:(fs.zip Rt).lookup x=none:=by
    have:∀(l:List Str)(r:List V),l.contains x=false->(l.zip r).lookup x=none:=λl=>by
     induction l with
     |nil=>intro r _;rfl
     |cons y l ih=>
      intro r Z;cases r with
      |nil=>rfl
      |cons z r=>rw[List.contains_cons,Bool.or_eq_false_iff]at Z;rw[List.zip_cons_cons,List.lookup_cons,Z.1];exact ih r Z.2
    exact this fs Rt Z
   have mt:=hG C hg;refine PySem.W.methodCall_KW (pl:=pl) (bJ (hv L s σ H (λv' H'=>v'=V.ref q/\H'=H) I ⟨_,hv0,rfl,rfl⟩) λu s1 ⟨x1,H1,I1,rx,ex,eh⟩=>?_) ht;subst ex;subst eh;obtain rfl:u=Value.ref q:=rx;refine pS I1 h1 hc.1 mt lk ?_;refine X1 (first:=[.ref q]) (h₀:=X.base) I.ok.mod.HP mt.kp (bJ (ha pos L s1 σ H1 (λvs' WJ=>∃D U T N,Go A H1 U WJ/\SR X.K M U H0 σ WJ T/\ai X.K U.B WJ D vs'/\look T i=some N/\sp (N::D) (λr=>∃w y,r=.tup [w,y]/\P w (T.set i (some y))) R) I1 ⟨A,H0,Y,_,S,⟨E,pE,hE,hR⟩,h,λU D vs H1 T O g1 S1 rs=>?_⟩) λus s2 hz=>?_) hst hpl
   ·try dsimp only at O
    cases d:look T i with
    |none=>rw[d]at O;exact O.elim
    |some N=>rw[d]at O;exact⟨D,U,T,N,g1,S1,rs,d,O⟩
   ·obtain⟨vs,H2,I2,r,D,U,T,N,g1,S1,rs,d,pT⟩:=hz;refine⟨I2.jP,uC (us:=.ref q::us) (vs:=.ref q::vs) (ds:=[]) (zq:=[]) F hr hb .nil pE I2 (.cons rfl r) ?_⟩;rw[QQ];exact Gm S1 hi d hv0 rs (by have:=hn _ _ _ pT;simpa using this) pT hE λA' w v H' J O g S' rr=>kk A' w v H' J O (g1.trans g) S' rr
  |_=>exact h.elim
end
theorem O4{x:Str}:∀(l:List Str)(r:List V),l.contains x=false->(l.zip r).lookup x=none:=λl=>by
 induction l with
 |nil=>intro r _;rfl
 |cons y l b=>
  intro r a;cases r with
  |nil=>rfl
  |cons z r=>rw[List.contains_cons,Bool.or_eq_false_iff]at a;rw[List.zip_cons_cons,List.lookup_cons,a.1];exact b r a.2
theorem O5{x:Str}{n:Nat}{v:V}:∀(l:List Str)(r:List V)(n:Nat),l.Nodup->l[n]?=some x->r[n]?=some v->(l.zip r).lookup x=some v:=λl=>by
 induction l with
 |nil=>intro r n _ e _;exact nn e
 |cons y l g=>
  intro r n b c a;cases r with
  |nil=>exact nn a
  |cons z r=>
   rw[List.zip_cons_cons,List.lookup_cons];cases n with
   |zero=>
    cases c;cases a;rw[kf]
   |succ n=>
    have d:l[n]?=some x:=by simpa using c
    have f:(x==y)=false:=by rw[dn];rintro rfl;exact(Kt.mp b).1 (NA d)
    rw[f];exact g r n (Kt.mp b).2 d (by simpa using a)
theorem JW{x:Str}{v:V}:∀(l:List Str)(r:List V)(n:Nat),l.Nodup->l[n]?=some x->r.length=l.length->iM x v (l.zip r)=l.zip (r.set n v):=λl=>by
 induction l with
 |nil=>intro r n _ e _;exact nn e
 |cons y l g=>
  intro r n b d c;cases r with
  |nil=>cases c
  |cons z r=>
   cases n with
   |zero=>
    cases d;rw[List.set_cons_zero,List.zip_cons_cons,List.zip_cons_cons,iM];rw[Bz (by first|rfl|simp)]
   |succ n=>
    have f:l[n]?=some x:=by simpa using d
    have a:y≠x:=by rintro rfl;exact(Kt.mp b).1 (NA f)
    rw[List.set_cons_succ,List.zip_cons_cons,List.zip_cons_cons,iM];rw[BM (by first|exact a|simpa using a),g r n (Kt.mp b).2 f (by simpa using c)]
section
variable{X:Cx}{M:Ms}{R:Addr->Prop}{m m0:Md}{e o a b c:Expr}{es rest:List Expr}{t ta tb:Dd}{tl:TY}{pos apos cpos p:Pos}{i j n:Nat}{st:Stmt}{x:Str}{π:List kM}
theorem JX{pl:Sem Bool}{G:W}{k n:Nat}{f:Addr}{Z:FuncData}{ps D:List Str}{U:List Md}{sp:bN}(hG:∀C,G=.cls C->Meth X.K C x f)(F:aR X.prog X.w X.K X.mg X.base (dP X.prog X.w) k f Z ps (Mi X.K n (.o D U) sp))(hr:cC k X.A)(hb:Binds X.K Z ps [])(Y:(i,.o D U)∈M)(hx:D.contains x=false)
 (hn:∀O P R,sp O P R->O.length=n)(hv:PE X o (jQ i))
 (ht:eval (.Call (.Attribute o x apos) [] [] pos) X.env=(do
   let ov←eval o X.env
   standAt apos.atName
   let(f,first)←holding [ov] (getMethod ov x pl)
   callWith pos f first (backTo pos (starEach [] X.env)) (backToKw pos (keywordEach [] X.env)))):
 VP X M R (.Call (.Attribute o x apos) [] [] pos) (λd Q=>match look d i with|some (.obj C _ _)=>G=.cls C/\(match look d i with|some w0=>sp [w0] (λr=>∃w y,r=.tup [w,y]/\Q w (d.set i (some y))) R|none=>False)|_=>False):=by
 rintro l s σ H Q I ⟨A,H0,d,P,S,er,h,kk⟩;obtain⟨E,pE,hE,hR⟩:=er
 try dsimp only at h
 cases B:look d i with
 |none=>rw[B]at h;exact h.elim
 |some w1=>
  rw[B]at h;cases w1 with
  |obj C fs' ZS=>obtain⟨hg,h⟩:=h;obtain⟨F0,O0⟩:=S.ow;obtain⟨v0,z,T4⟩:=O0.val i _ _ Y B;rw[Fp]at T4;obtain⟨C',dx,lT,q,Rt,F',e1,rfl,e3,h1,h2,hc,_⟩:=T4;cases e1;have T:=hG C hg;refine PySem.W.methodCall_KW (pl:=pl) (bJ (hv l s σ H (λv' N=>v'=V.ref q/\N=H) I ⟨_,z,rfl,rfl⟩) λu s1 ⟨x1,H1,L,rx,ex,eh⟩=>?_) ht;subst ex;subst eh;obtain rfl:u=Value.ref q:=rx;refine pS L h1 hc.1 T (O4 D Rt hx) ?_;refine PySem.W.callWith_K0 (first:=[.ref q]) L.jP T.kp (uC (us:=[.ref q]) (vs:=[.ref q]) (ds:=[]) (zq:=[]) F hr hb .nil pE L (.cons rfl .nil) ?_);exact Gm S Y B z .nil (by have:=hn _ _ _ h;simpa using this) h hE λA' w v N J hw g S' rr=>kk A' w v N J hw g S' rr
  |_=>exact h.elim
theorem SR.more{K:Frag}{A:Fz}{u H H1:Hp}{h:St}{k:Ev}{G:List Addr}(S:SR K M A u h H k)(s:aq H H1)(nw:∀q∈G,H q=none)(ex:∀q∈G,∃o,H1 q=some o):SR K M ⟨λq=>A.ab q\/q∈G,λq=>A.B q\/q∈G,A.s0⟩ u h H1 k:=by
 obtain⟨F,O⟩:=S.ow;have r:∀p o,H p=some o->(A.B p\/p∈G)->A.B p:=λp o e z=>by
  rcases z with z|z
  ·exact z
  ·rw[nw p z]at e;cases e
 refine⟨S.len,λi w d e=>?_,S.sm.trans s,λp z=>?_,S.sl,F,⟨O.un,λi m w y e=>?_,O.emp,O.nd,O.ds,O.nw,λi p d l z=>?_,λp=>?_⟩⟩
 ·obtain⟨v,g,f⟩:=S.sh i w d e;exact⟨v,g,Rep.mv s r w f⟩
 ·rcases z with z|z
  ·exact S.dm.same s p z
  ·exact ex p z
 ·obtain⟨v,g,f⟩:=O.val i m w y e;exact⟨v,g,Fp.mv s r m f⟩
 ·rcases z with z|z
  ·exact O.na i p d l z
  ·obtain⟨o,e,_⟩:=O.has d l;rw[nw p z]at e;cases e
 ·show(A.B p\/p∈G)↔_;rw[O.all p];constructor
  ·rintro((z|z)|z)
   ·exact .inl (.inl z)
   ·exact .inr z
   ·exact .inl (.inr z)
  ·rintro((z|z)|z)
   ·exact .inl (.inl z)
   ·exact .inr z
   ·exact .inl (.inr z)
theorem O6{ta:WT}{ts:Ev->(List W->Prop)->Prop}{k n:Nat}{fv:Value}{sp:bN}(F:cG X.prog X.w X.K X.mg X.base k fv n (Mi X.K n m0 sp))(hr:cC k X.A)(hg:Gl X x)(hm:X.mg x=some fv)
 (hn:∀f P R,sp f P R->f.length=n)(hv:VE X M R m0 e ta)(ha:VA X M R es ts)(hdb:(x==("__debug__":Str))=false)(he:starEach (e::es) X.env=(false,eval e X.env)::starEach es X.env)(hpl:(backTo pos (starEach es X.env)).any (·.1)=false):
 VE X M R .s (.Call (.Name x p) (e::es) [] pos) (λJ Q=>ta J λx=>ts J λf=>sp (x::f) (λr=>∃w y,r=.tup [w,y]/\Q w) R):=by
 rintro L s σ H Q I ⟨A,H0,J,P,S,er,h,kk⟩;obtain⟨E,pE,hE,hR⟩:=er;refine Re (eZ I hg hm ?_ hdb);refine X1 (h₀:=X.base) I.ok.mod.HP F.keep (bJ (aj hv ha he pos L s σ H (λvs O=>∃g l f d G,vs=l::d/\aq H O/\G.Nodup/\(∀q∈G,H q=none)/\Fp X.K (λq=>A.B q\/q∈G) O m0 g l G/\ai X.K (λq=>A.B q\/q∈G) O f d/\sp (g::f) (λr=>∃w y,r=.tup [w,y]/\P w) R) I ⟨A,H0,J,_,S,⟨E,pE,hE,hR⟩,h,λg l H1 N Z r0=>?_⟩) λus Z ⟨vs,O,I2,r,g,l,f,d,G,ev,sm,nd,D,U,rs,pT⟩=>⟨I2.jP,?_⟩) he hpl
 ·obtain⟨G,nd,D,U⟩:=r0;have S1:=S.more Z D λq hq=>let⟨o,e,_⟩:=Fp.mu m0 U q hq;⟨o,e⟩
  exact⟨_,H0,J,_,S1,⟨E,pE,hE,hR⟩,N,λf d O hws T rs=>⟨g,l,f,d,G,rfl,Z.trans T,nd,D,Fp.mv T (λ_ _ _ z=>z) m0 U,rs,hws⟩⟩
 ·subst ev;refine F.run hr pE I2 r ⟨A.B,G,g,l,f,d,_,R,rfl,by have:=hn _ _ _ pT;simpa using this,nd,λq hq=>S.dom.no (D q hq),S.dom.same sm,U,rs,pT,λw y v F' Y N hc _ T5 _ rw'=>?_,λC Y rc hc=>hE C Y rc λq u e=>?_⟩
  ·obtain⟨w',y',e,N⟩:=N;cases e;have T:aq H Y:=λq u e=>by
    rcases hc q u (sm q u e)with⟨_,z⟩|z
    ·rw[D q z]at e;cases e
    ·exact z
   exact kk w v Y N T (.of (rw'.less λq z=>.inl z))
  ·have e2:=S.sm q u e;rcases hc q u (sm q u e2)with⟨_,z⟩|z
   ·rw[D q z]at e2;cases e2
   ·exact z
theorem O7(h:PE X e (jQ i)):PE X e (qj X.K i []):=PE.imp h<|by rintro g H Q ⟨v,u,f,d,q⟩;cases d;exact⟨v,f,q⟩
theorem wu.ix{K:Frag}{H:Hp}{n:Nat}:∀(π:List kM){v u:V},wu K H v (π++[.ix n]) u->∃p vs,wu K H v π (.ref p)/\(H p=some (.tup vs)\/H p=some (.lst vs))/\vs[n]?=some u
 |[],v,u,h=>by obtain⟨p,vs,x,e,k,g,f⟩:=h;cases f;exact⟨p,vs,by rw[e];rfl,k,g⟩
 |.ix m::π,v,u,h=>by obtain⟨p,vs,x,e,k,g,f⟩:=h;obtain⟨q,d,a,b,c⟩:=wu.ix π f;exact⟨q,d,⟨p,vs,x,e,k,g,a⟩,b,c⟩
 |.fl m _::π,v,u,h=>by obtain⟨p,vs,x,e,k,g,f⟩:=h;obtain⟨q,d,a,b,c⟩:=wu.ix π f;exact⟨q,d,⟨p,vs,x,e,k,g,a⟩,b,c⟩
theorem T6(h:PE X a (qj X.K i π))(s:PE X b (tC (.int n)))(l:lA b):PE X (.Subscript a b pos) (qj X.K i (π++[.ix n])):=
 PE.imp (EJ zv h s l)<|by rintro z H Q ⟨v,u,y,w,g⟩;obtain⟨q,f,r,d,k⟩:=wu.ix π w;exact⟨v,.ref q,y,r,d.elim (λd=>.inr (.inl ⟨q,f,n,u,rfl,rfl,kY.of d,bT k,g⟩)) λd=>.inl ⟨q,f,n,u,rfl,rfl,gU.of d,bT k,g⟩⟩
theorem wu.fl{K:Frag}{H:Hp}{n:Nat}{f:Str}:∀(π:List kM){v u:V},wu K H v (π++[.fl n f]) u->∃p vs C k d,wu K H v π (.ref p)/\H p=some (.ins C k (List.zip d vs))/\zP K C d/\d[n]?=some f/\vs[n]?=some u
 |[],v,u,h=>by obtain⟨p,vs,x,e,⟨C,k,d,s,_,y,w⟩,r,l⟩:=h;cases l;exact⟨p,vs,C,k,d,by rw[e];rfl,s,y,w,r⟩
 |.ix m::π,v,u,h=>by obtain⟨p,vs,x,e,s,r,l⟩:=h;obtain⟨q,g,C,k,d,a,b,c⟩:=wu.fl π l;exact⟨q,g,C,k,d,⟨p,vs,x,e,s,r,a⟩,b,c⟩
 |.fl m _::π,v,u,h=>by obtain⟨p,vs,x,e,s,r,l⟩:=h;obtain⟨q,g,C,k,d,a,b,c⟩:=wu.fl π l;exact⟨q,g,C,k,d,⟨p,vs,x,e,s,r,a⟩,b,c⟩
theorem O8{f:Str}(h:PE X a (qj X.K i π))(s:attributeBase a f X.env (eval a X.env)=eval a X.env):PE X (.Attribute a f pos) (qj X.K i (π++[.fl n f])):=
 PE.imp (Nn h s)<|by rintro E H Q ⟨v,u,A,z,l⟩;obtain⟨q,k,C,D,B,r,y,d,g,w⟩:=wu.fl π z;exact⟨v,.ref q,A,r,q,C,D,_,u,rfl,y,d.1,d.2.2.2 f (NA g),O5 (v:=u) (n:=n) B k n d.2.2.1 g w,l⟩
theorem O9{f:Str}{g:List Str}{U:List Md}{te:(Addr->Prop)->WT}(hps:∀{tv:TE},PE X e tv->PS X st (Sh X.K (jQ i) tv f))(J:(i,.o g U)∈M)(hf:g[n]?=some f)(hm:U[n]?=some .s)(he:∀R,VE X M R .s e (te R)):
 VS X M m st (λd y=>te d.ex y λw=>match look y i with|some (.obj C g u)=>n<u.length/\d.nx (y.set i (some (.obj C g (u.set n w))))|_=>False):=by
 rintro L s σ H D I ⟨A,H0,y,d,S,er,hz,h,k⟩;refine hps (he d.ex) L s σ H D I ⟨A,H0,y,_,S,er,h,λw v H1 l s1 r=>?_⟩
 try dsimp only at l
 cases Y:look y i with
 |none=>rw[Y]at l;exact l.elim
 |some w1=>
  rw[Y]at l;cases w1 with
  |obj C fs' u=>
   obtain⟨hn,l⟩:=l;have S1:=S.same s1;obtain⟨F,O⟩:=S1.ow;obtain⟨v0,P,fp⟩:=O.val i _ _ J Y;rw[Fp]at fp;obtain⟨C',T,lT,q,E,F',e1,rfl,e3,Z,h2,Q,h3⟩:=fp;cases e1;have r:=r.bw;have hB:A.B q:=(O.all q).mpr (.inr ⟨i,⟨_,J⟩,by rw[e3];exact FK⟩);obtain⟨w0,hw0⟩:∃w0,u[n]?=some w0:=⟨_,B1 hn⟩;obtain⟨v1,F1,G,F2,q1,e4,q3,q4⟩:=dO.at U h3 hm hw0;rw[Fp]at q3;obtain⟨rfl,_⟩:=q3;have cB:wm A.B H1 (upd H1 q (.ins C T (g.zip (E.set n v)))):=.put Z rfl hB;have WG:q∉F':=by have:=O.nd i ⟨_,J⟩;rw[e3]at this;exact(Kt.mp this).1
   have fp':dO X.K A.B (upd H1 q (.ins C T (g.zip (E.set n v)))) U (u.set n w) (E.set n v) F':=by
    rw[e4];refine q4 _ A.B w v [] ?_ (λp o e=>?_) (λ_ _ _ z=>z)
    ·rw[Fp];exact⟨rfl,Rep.chg cB (λ_ _ _ z=>z) w r⟩
    ·by_cases N:p=q
     ·subst N;rw[Z]at e;cases e;refine .inl ⟨rfl,hB,λz=>WG ?_⟩;rw[e4];rcases Fs.mp z with z|z<;>simp[z]
     ·exact .inr (by rw[ah N];exact e)
   refine⟨_,P,q,C,T,_,rfl,Z,Q.1,Q.2.2.2 f (NA hf),?_,?_⟩
   ·rw[List.length_zip,h2,Nat.min_self];exact Q.2.1
   ·rw[JW g E n Q.2.2.1 hf h2];obtain⟨A',a1,a2,_,_,_,S'⟩:=O.chg (F':=F i) (H1:=upd H1 q (.ins C T (g.zip (E.set n v)))) (w':=.obj C g (u.set n w)) S1 J Y P (λp o e=>by
     by_cases N:p=q
     ·subst N;rw[Z]at e;cases e;exact .inl ⟨rfl,by rw[e3];exact FK⟩
     ·exact .inr (by rw[ah N];exact e)) (O.nd i ⟨_,J⟩) (λp hp=>.inl hp) (Fp.mv (aq.refl _) (λp _ _ z=>by
      rcases z with z|z
      ·exact z.1
      ·exact(O.all p).mpr (.inr ⟨i,⟨_,J⟩,z⟩)) _ (by rw[Fp];exact⟨C,T,u.set n w,q,E.set n v,F',rfl,rfl,e3,ao,by rw[Pi];exact h2,Q,fp'⟩))
    exact k.nx A' _ _ _ a1 a2 l S'
  |_=>exact l.elim
end
end VL
namespace L2
open PySem PySem.Spec PyProof.Rows
section
variable{pr:Program}{wo:World}{B:Around}{EE:Value->Shared->Prop}
end
section
variable{X:Cx}{pos:Pos}
end
end L2
namespace VL
open PySem PySem.Spec
open PyProof.Rows hiding St
open L2
section
variable{K:Frag}{M M':Ms}{A:Fz}{H0 H H1:Hp}{σ:St}{ε:Ev}
theorem SR.take(S:SR K M' A H0 σ H ε){i:Nat}{m:Md}{w:W}{v:V}{F:List Addr}(l:∀x,x∈M↔x=(i,m)\/x∈M')(D:¬aU M' i)(s:i<ε.length)(nd:F.Nodup)(E:∀p∈F,A.ab p)(nw:∀p∈F,H0 p=none)(P:Fp K A.B H m w v F):
 SR K M ⟨λp=>A.ab p/\p∉F,A.B,A.s0⟩ H0 (σ.set i (some v)) H (ε.set i (some w)):=by
 obtain⟨G,O⟩:=S.ow;have f:∀j,aU M j↔j=i\/aU M' j:=λj=>by
  constructor
  ·rintro⟨q,I⟩;rcases(l _).mp I with e|e
   ·cases e;exact .inl rfl
   ·exact .inr ⟨q,e⟩
  ·rintro(rfl|⟨q,I⟩)
   ·exact⟨m,(l _).mpr (.inl rfl)⟩
   ·exact⟨q,(l _).mpr (.inr I)⟩
 have C:∀j,aU M' j->j≠i:=λj c e=>by subst e;exact D c
 refine⟨by rw[Pi,Pi];exact S.len,λj y c e=>?_,S.sm,λp z=>S.dm p z.1,λu e=>?_,λj=>if j=i then F else G j,⟨λj N L a b=>?_,λj q y c e=>?_,λj c e=>?_,λj c=>?_,λj k p c J a b=>?_,λj p c d=>?_,λj p c d=>?_,λp=>?_⟩⟩
 ·have h:j≠i/\¬aU M' j:=⟨λz=>c ((f j).mpr (.inl z)),λz=>c ((f j).mpr (.inr z))⟩;rw[aV (Pt h.1)]at e;obtain⟨u,t,r⟩:=S.sh j y h.2 e;exact⟨u,by rw[Hn (Pt h.1)];exact t,r⟩
 ·obtain⟨t,r⟩:=S.sl u e;exact⟨by rw[Hn (Pt (C 0 r))];exact t,(f 0).mpr (.inr r)⟩
 ·rcases(l _).mp a with a|a
  ·rcases(l _).mp b with b|b
   ·cases a;cases b;rfl
   ·cases a;exact(D ⟨_,b⟩).elim
  ·rcases(l _).mp b with b|b
   ·cases b;exact(D ⟨_,a⟩).elim
   ·exact O.un j N L a b
 ·rcases(l _).mp c with a|a
  ·cases a;have:=lV e;subst this;exact⟨v,PP (by rw[S.len];exact s),by rw[Bz rfl];exact P⟩
  ·have n:=C j ⟨q,a⟩;rw[aV (Pt n)]at e;obtain⟨u,t,r⟩:=O.val j q y a e;exact⟨u,by rw[Hn (Pt n)];exact t,by rw[BM n];exact r⟩
 ·by_cases n:j=i
  ·subst n;have:look (ε.set j (some w)) j=some w:=by rw[bu];exact PP s
   rw[this]at e;cases e
  ·rw[aV (Pt n)]at e;rw[BM n];exact O.emp j (((f j).mp c).resolve_left n) e
 ·by_cases n:j=i
  ·rw[Bz n];exact nd
  ·rw[BM n];exact O.nd j (((f j).mp c).resolve_left n)
 ·by_cases o:j=i
  ·by_cases g:k=i
   ·rw[o,g]
   ·rw[Bz o]at a;rw[BM g]at b;exact(O.na k p (((f k).mp J).resolve_left g) b (E p a)).elim
  ·by_cases g:k=i
   ·rw[BM o]at a;rw[Bz g]at b;exact(O.na j p (((f j).mp c).resolve_left o) a (E p b)).elim
   ·rw[BM o]at a;rw[BM g]at b;exact O.ds j k p (((f j).mp c).resolve_left o) (((f k).mp J).resolve_left g) a b
 ·by_cases n:j=i
  ·rw[Bz n]at d;exact nw p d
  ·rw[BM n]at d;exact O.nw j p (((f j).mp c).resolve_left n) d
 ·by_cases n:j=i
  ·rw[Bz n]at d;exact λz=>z.2 d
  ·rw[BM n]at d;exact λz=>O.na j p (((f j).mp c).resolve_left n) d z.1
 ·constructor
  ·intro z;by_cases d:p∈F
   ·exact .inr ⟨i,(f i).mpr (.inl rfl),by rw[Bz rfl];exact d⟩
   ·rcases(O.all p).mp z with z|⟨j,c,Q⟩
    ·exact .inl ⟨z,d⟩
    ·exact .inr ⟨j,(f j).mpr (.inr c),by rw[BM (C j c)];exact Q⟩
  ·rintro(z|⟨j,c,d⟩)
   ·exact(O.all p).mpr (.inl z.1)
   ·by_cases n:j=i
    ·rw[Bz n]at d;exact(O.all p).mpr (.inl (E p d))
    ·rw[BM n]at d;exact(O.all p).mpr (.inr ⟨j,((f j).mp c).resolve_left n,d⟩)
end
section
variable{X:Cx}{M M':Ms}{m:Md}{st:Stmt}{te:(Addr->Prop)->WT}
end
theorem a2{a b:Bool}(z:(a&&b)=true):a=true/\b=true:=by cases a<;>cases b<;>first|exact⟨rfl,rfl⟩|exact ff z
theorem a3{a b c:Bool}(z:((a&&b)&&c)=true):(a=true/\b=true)/\c=true:=⟨a2 (a2 z).1,(a2 z).2⟩
structure SE where
 N:List Str
 nk:List (Str×NameKind)
 M:Ms
 fn:List Str
 gn:List Str
 zn:List Str
 md:List Md
 mt:List (Nat×Nat)
noncomputable def bE:List Md->Nat->Md
 |[],_=>.s
 |x::_,0=>x
 |_::l,n+1=>bE l n
noncomputable def Mj:Md->Bool
 |.f=>true
 |_=>false
noncomputable def JY:Md->Bool
 |.s=>true
 |_=>false
noncomputable def xQ(M:Ms)(i:Nat):Bool:=(M.lookup i).isSome
theorem lX{M:Ms}{i:Nat}(h:xQ M i=false):¬aU M i:=by
 rintro⟨m,d⟩;unfold xQ at h;have:∀M:Ms,(i,m)∈M->(M.lookup i).isSome=true:=λM=>by
  induction M with
  |nil=>intro z;cases z
  |cons x M c=>
   intro z;obtain⟨a,b⟩:=x;rw[List.lookup_cons];cases e:i==a with
   |true=>rfl
   |false=>
    rcases Fk.mp z with z|z
    ·cases z;rw[kf]at e;cases e
    ·exact c z
 rw[this M d]at h;cases h
theorem jj{M:Ms}{i:Nat}{m:Md}(h:M.lookup i=some m):(i,m)∈M:=by
 induction M with
 |nil=>exact nn h
 |cons x M c=>
  obtain⟨a,b⟩:=x;rw[List.lookup_cons]at h;cases e:i==a with
  |true=>rw[e]at h;cases h;cases IH.mp e;exact FK
  |false=>rw[e]at h;exact DL _ (c h)
noncomputable def xR(M:Ms)(i:Nat):Bool:=match M.lookup i with
 |none=>true
 |some m=>Mj m
theorem xS{M:Ms}{i:Nat}(h:xR M i=true):aU M i->(i,.f)∈M:=λa=>by
 unfold xR at h;cases e:M.lookup i with
 |none=>exact(lX (by unfold xQ;rw[e];rfl) a).elim
 |some m=>rw[e]at h;cases m<;>first|exact jj e|exact ff h
noncomputable def z4(M:Ms)(i:Nat):Bool:=match M.lookup i with
 |none=>false
 |some m=>Mj m
theorem lY{M:Ms}{i:Nat}(h:z4 M i=true):(i,.f)∈M:=by
 unfold z4 at h;cases e:M.lookup i with
 |none=>rw[e]at h;exact ff h
 |some m=>rw[e]at h;cases m<;>first|exact jj e|exact ff h
noncomputable def SE.sc(S:SE):Scope:={kind:=.function,names:=S.nk,isGenerator:=false,isCoroutine:=false}
noncomputable def T7(S:SE)(x:Str):Bool:=match S.nk.lookup x with
 |some .local=>true
 |some .cell=>true
 |some .free=>true
 |_=>false
noncomputable def okN(x:Str):Bool:=!(x==("__debug__":Str))&&!(x==("__classdict__":Str))&&!(x==("__name__":Str))
noncomputable def iW(S:SE)(x:Str):Bool:=(S.nk.lookup x==some .globalImplicit)&&okN x
noncomputable def tys:List String:=["int","bool","tuple","list","str","dict"]
noncomputable def vg:Expr->Bool
 |.Call _ _ _ _=>false
 |_=>true
noncomputable def jk(S:SE)(i:Nat):Expr->Bool
 |.Name x _=>S.N[i]?==some x&&T7 S x&&okN x
 |_=>false
noncomputable def mC(f:Const->Bool):Expr->Bool
 |.Constant c _ _=>f c
 |_=>false
noncomputable def WK(f:Str->Pos->Bool):Expr->Bool
 |.Name x p=>f x p
 |_=>false
noncomputable def xT(f:Str->Bool):Expr->Bool:=WK λx _=>f x
noncomputable def o1{α:Type}(f:α->Bool):List α->Bool
 |[a]=>f a
 |_=>false
noncomputable def T8(f:Expr->List CmpOp->List Expr->Bool):Expr->Bool
 |.Compare l b a _=>f l b a
 |_=>false
noncomputable def tY(f:Expr->List Expr->Bool->Pos->Bool):Expr->Bool
 |.Call g b a p=>f g b a.isEmpty p
 |_=>false
noncomputable def De(f:Expr->Str->Pos->Bool):Expr->Bool
 |.Attribute o m p=>f o m p
 |_=>false
noncomputable def X8(f:Option Expr->Option Expr->Option Expr->Bool):Expr->Bool
 |.Slice l h t _=>f l h t
 |_=>false
noncomputable def Yb(f:Expr->List Comprehension->Scope->Bool):Expr->Bool
 |.ListComp x a s _=>f x a s
 |_=>false
noncomputable def Gn(f:Operator->Expr->Expr->Bool):Expr->Bool
 |.BinOp l o r _=>f o l r
 |_=>false
noncomputable def WL(f:UnaryOp->Expr->Bool):Expr->Bool
 |.UnaryOp o x _=>f o x
 |_=>false
noncomputable def Gp(f:CmpOp->Expr->Expr->Bool):Expr->Bool:=T8 λl b a=>o1 (λo=>o1 (λr=>f o l r) a) b
noncomputable def o2{α:Type}(f:α->α->Bool):List α->Bool
 |a::l=>o1 (f a) l
 |_=>false
noncomputable def o3{α:Type}(f:α->α->α->Bool):List α->Bool
 |a::l=>o2 (f a) l
 |_=>false
noncomputable def T9(f:BoolOp->List Expr->Bool):Expr->Bool
 |.BoolOp o a _=>f o a
 |_=>false
noncomputable def Dg(f:List Expr->Bool):Expr->Bool
 |.Tuple a _ _=>f a
 |_=>false
noncomputable def Pa(f:List Expr->Bool):Expr->Bool
 |.List a _=>f a
 |_=>false
noncomputable def Dh(f:Expr->Expr->Bool):Expr->Bool
 |.Subscript v s _=>f v s
 |_=>false
noncomputable def Yc(f:Expr->Option Expr->Option Expr->Bool):Expr->Bool:=Dh λv s=>X8 (λl h t=>t.isNone&&f v l h) s
noncomputable def jb(f:Str->List Expr->Bool):Expr->Bool:=tY λg a k _=>k&&xT (λx=>f x a) g
noncomputable def vh(f:Expr->Str->Pos->Pos->Bool):Expr->Bool:=tY λg b k c=>k&&b.isEmpty&&De (λo m a=>f o m a c) g
noncomputable def Ml(f:Expr->Expr->Expr->List Expr->Scope->Bool):Expr->Bool:=Yb λx a s=>o1 (λg=>decide (g.is_async=0)&&f x g.target g.iter g.ifs s) a
theorem gC{f:Const->Bool}{e:Expr}(h:mC f e=true):∃c k p,e=.Constant c k p/\f c=true:=by cases e<;>first|exact⟨_,_,_,rfl,h⟩|exact ff h
theorem Bw{f:Str->Pos->Bool}{e:Expr}(h:WK f e=true):∃x p,e=.Name x p/\f x p=true:=by cases e<;>first|exact⟨_,_,rfl,h⟩|exact ff h
theorem Gq{f:Expr->List CmpOp->List Expr->Bool}{e:Expr}(h:T8 f e=true):∃l b a p,e=.Compare l b a p/\f l b a=true:=by cases e<;>first|exact⟨_,_,_,_,rfl,h⟩|exact ff h
theorem g9{f:Expr->List Expr->Bool->Pos->Bool}{e:Expr}(h:tY f e=true):∃g b a p,e=.Call g b a p/\f g b a.isEmpty p=true:=by cases e<;>first|exact⟨_,_,_,_,rfl,h⟩|exact ff h
theorem ia{f:Expr->Str->Pos->Bool}{e:Expr}(h:De f e=true):∃o m p,e=.Attribute o m p/\f o m p=true:=by cases e<;>first|exact⟨_,_,_,rfl,h⟩|exact ff h
theorem JZ{f:Option Expr->Option Expr->Option Expr->Bool}{e:Expr}(h:X8 f e=true):∃l r t p,e=.Slice l r t p/\f l r t=true:=by cases e<;>first|exact⟨_,_,_,_,rfl,h⟩|exact ff h
theorem J0{f:Expr->List Comprehension->Scope->Bool}{e:Expr}(h:Yb f e=true):∃x a s p,e=.ListComp x a s p/\f x a s=true:=by cases e<;>first|exact⟨_,_,_,_,rfl,h⟩|exact ff h
theorem eU{α:Type}{f:α->Bool}{l:List α}(h:o1 f l=true):∃a,l=[a]/\f a=true:=by rcases l with _|⟨a,_|_⟩<;>first|exact⟨_,rfl,h⟩|exact ff h
theorem dX{f:Str->Bool}{e:Expr}(h:xT f e=true):∃x p,e=.Name x p/\f x=true:=Bw h
theorem nT{f:Operator->Expr->Expr->Bool}{e:Expr}(h:Gn f e=true):∃l o r p,e=.BinOp l o r p/\f o l r=true:=by cases e<;>first|exact⟨_,_,_,_,rfl,h⟩|exact ff h
theorem pD{f:UnaryOp->Expr->Bool}{e:Expr}(h:WL f e=true):∃o x p,e=.UnaryOp o x p/\f o x=true:=by cases e<;>first|exact⟨_,_,_,rfl,h⟩|exact ff h
theorem nU{f:CmpOp->Expr->Expr->Bool}{e:Expr}(h:Gp f e=true):∃l o r p,e=.Compare l [o] [r] p/\f o l r=true:=by obtain⟨l,g,d,p,rfl,c⟩:=Gq h;obtain⟨o,rfl,b⟩:=eU c;obtain⟨r,rfl,a⟩:=eU b;exact⟨_,_,_,_,rfl,a⟩
theorem lZ{f:BoolOp->List Expr->Bool}{e:Expr}(h:T9 f e=true):∃o a p,e=.BoolOp o a p/\f o a=true:=by cases e<;>first|exact⟨_,_,_,rfl,h⟩|exact ff h
theorem fN{f:List Expr->Bool}{e:Expr}(h:Dg f e=true):∃a k p,e=.Tuple a k p/\f a=true:=by cases e<;>first|exact⟨_,_,_,rfl,h⟩|exact ff h
theorem qo{f:List Expr->Bool}{e:Expr}(h:Pa f e=true):∃a p,e=.List a p/\f a=true:=by cases e<;>first|exact⟨_,_,rfl,h⟩|exact ff h
theorem fO{f:Expr->Expr->Bool}{e:Expr}(h:Dh f e=true):∃v s p,e=.Subscript v s p/\f v s=true:=by cases e<;>first|exact⟨_,_,_,rfl,h⟩|exact ff h
theorem Bx{f:Expr->Option Expr->Option Expr->Bool}{e:Expr}(h:Yc f e=true):∃v l r q p,e=.Subscript v (.Slice l r none q) p/\f v l r=true:=by obtain⟨v,s,p,rfl,c⟩:=fO h;obtain⟨l,r,t,q,rfl,b⟩:=JZ c;obtain⟨k,a⟩:=a2 b;rw[Option.isNone_iff_eq_none.mp k];exact⟨_,_,_,_,_,rfl,a⟩
theorem aH{f:Str->List Expr->Bool}{e:Expr}(h:jb f e=true):∃x q a p,e=.Call (.Name x q) a [] p/\f x a=true:=by obtain⟨g,a,i,p,rfl,d⟩:=g9 h;obtain⟨k,c⟩:=a2 d;obtain⟨x,q,rfl,b⟩:=dX c;rw[GT.mp k];exact⟨_,_,_,_,rfl,b⟩
theorem iX{f:Expr->Str->Pos->Pos->Bool}{e:Expr}(h:vh f e=true):∃o m a c,e=.Call (.Attribute o m a) [] [] c/\f o m a c=true:=by obtain⟨g,n,j,p,rfl,i⟩:=g9 h;obtain⟨⟨k,l⟩,d⟩:=a3 i;obtain⟨o,m,a,rfl,b⟩:=ia d;rw[GT.mp k,GT.mp l];exact⟨_,_,_,_,rfl,b⟩
theorem tZ{f:Expr->Expr->Expr->List Expr->Scope->Bool}{e:Expr}(h:Ml f e=true):∃d tg b c a p,e=.ListComp d [⟨tg,b,c,0⟩] a p/\f d tg b c a=true:=by obtain⟨x,m,s,p,rfl,j⟩:=J0 h;obtain⟨⟨tg,l,n,z⟩,rfl,i⟩:=eU j;obtain⟨k,g⟩:=a2 i;cases Bi k;exact⟨_,_,_,_,_,_,rfl,g⟩
noncomputable def ZT(n:Int):Const->Bool
 |.int j=>decide (j=n)
 |_=>false
noncomputable def xU(S:SE)(i:Nat):List kM->Expr->Bool
 |[],e=>jk S i e
 |.fl _ x::π,e=>De (λa f _=>decide (f=x)&&vg a&&xU S i π a) e
 |.ix n::π,e=>Dh (λa k=>mC (ZT n) k&&xU S i π a) e
noncomputable def jW(S:SE)(m:Md->Bool)(i:Nat)(π:List kM)(e:Expr):Bool:=!π.isEmpty&&xU S i π.reverse e&&(match S.M.lookup i with
 |some a=>(match iT a π with
  |some k=>m k
  |none=>false)
 |none=>false)
noncomputable def fj(S:SE):CE->Expr->Bool
 |.var i,e=>jk S i e&&xR S.M i
 |.own i π,e=>jW S Mj i π e
 |_,_=>false
noncomputable def Vi:BI->Str
 |.len=>"len"
 |.abs=>"abs"
 |.max2=>"max"
 |.min2=>"min"
 |.sum=>"sum"
 |.all=>"all"
 |.any=>"any"
 |.list=>"list"
 |.tuple=>"tuple"
 |.F3=>"isinstance"
 |.int=>"int"
 |.Rn=>"divmod"
noncomputable def Yd:BI->Nat->Bool
 |.any,_=>false
 |_,n=>0<n
noncomputable def Ec:CE->Bool
 |.not a=>Ec a
 |.zQ _ a=>Ec a
 |.and b=>Gr b
 |.or b=>Gr b
 |_=>true
where Gr:List CE->Bool
 |[]=>true
 |a::b=>Ec a&&Gr b
noncomputable def By:Expr->Bool
 |.Slice _ _ _ _=>false
 |_=>true
noncomputable def z5:Expr->Bool
 |.Set _ _ _=>false
 |_=>true
noncomputable def Ed:List Expr->Option (List Str)
 |[]=>some []
 |.Name x _::a=>(Ed a).map λl=>x::l
 |_::_=>none
noncomputable def Ua:Expr->Option (Bool×List Str)
 |.Name x _=>some (true,[x])
 |.Tuple a _ _=>(Ed a).map λl=>(false,l)
 |_=>none
noncomputable def mask(a:List Str)(N:List Str):List Str:=N.map λy=>if a.contains y then y++("!":Str)else y
noncomputable def SE.comp(S:SE)(a:Scope)(b:List Str):SE:=
 {S with N:=b++mask b S.N,nk:=a.names.map λp=>(p.1,if p.2=.free then .cell else p.2),M:=up S.M b.length}
noncomputable def SE.lend(S:SE)(a:List Nat):SE:={S with M:=S.M.filter (λx=>!a.contains x.1)}
noncomputable def ZU:Expr->Bool
 |.Call (.Name _ _) (_::_) _ _=>true
 |.Compare _ _ _ _=>true
 |_=>false
noncomputable def Ub:CE->Option String
 |.HS n=>some n
 |_=>none
noncomputable def Gs:CE->Bool
 |.sE _=>true
 |_=>false
noncomputable def Pb(n:Bool)(f:Expr->Bool):Option Expr->Bool
 |none=>n
 |some e=>!n&&f e
noncomputable def Mm:CE->Bool
 |.bl b=>b
 |_=>false
noncomputable def Uc:BI->List CE->Bool
 |.F3,[_,c]=>(Ub c).isSome
 |.F3,_=>false
 |_,_=>true
noncomputable def WM(y:Bool)(f:Expr->Bool):List Expr->Bool
 |[]=>y
 |[e]=>f e
 |_=>false
noncomputable def jX(f:Expr->Bool)(g:List Expr->Bool):List Expr->Bool
 |e::a=>f e&&g a
 |[]=>false
noncomputable def vj(f:Expr->Bool):List Expr->Bool:=o1 f
noncomputable def xV(S:SE)(f:List Nat)(one:Bool)(n:Nat)(g:Bool)(i:Expr->Bool)(j:SE->List Expr->Bool)(h:SE->Expr->Bool)(e tg b:Expr)(d:List Expr)(a:Scope):Bool:=
 match Ua tg with
 |some (o,c)=>(one==o)&&(n==c.length)&&(f==List.range n)&&dQ a S.sc S.N (mask c S.N) c&&decide (c++mask c S.N).Nodup&&z5 b&&(!g||!one)&&i b&&j (S.comp a c) d&&h (S.comp a c) e
 |none=>false
noncomputable def nV(c:Nat->Md):CE->Bool
 |.lst _=>true
 |.comp _ _ _ _ _ _=>true
 |.blt .list _=>true
 |.rev _=>true
 |.sl _ _ _=>true
 |.bin .Add a b=>nV c a||nV c b
 |.bin .Mult a _=>nV c a
 |.call f _=>match c f with
  |.f=>true
  |_=>false
 |_=>false
noncomputable def mo(a:Nat->Md)(c:CE):Md:=if nV a c=true then .f else .s
mutual
noncomputable def aI(S:SE)(w:Bool):CE->Expr->Bool
 |.var i,e=>jk S i e&&!xQ S.M i
 |.int i,e=>mC (λc=>decide (c=.int i)) e
 |.bl b,e=>mC (λc=>decide (c=.bool b)) e
 |.str x,e=>mC (λc=>decide (c=.str x)) e
 |.aS,e=>mC (λc=>decide (c=.none)) e
 |.HS n,e=>xT (λx=>decide (x=Str.ofString n)&&iW S x&&S.zn.contains x&&tys.contains n) e
 |.glob g,e=>xT (λx=>S.gn[g]?==some x&&iW S x) e
 |.bin op a b,e=>Gn (λo l r=>decide (op=o)&&(aI S false a l||fj S a l)&&(aI S false b r||fj S b r)) e
 |.neg a,e=>WL (λo x=>decide (o=.USub)&&aI S false a x) e
 |.not a,e=>WL (λo x=>decide (o=.Not)&&aI S false a x) e
 |.cmp op a b,e=>Gp (λo l r=>decide (op=o)&&!decide (op=.In)&&!decide (op=.NotIn)&&(aI S false a l||fj S a l)&&(aI S false b r||fj S b r)) e
 |.and j,e=>T9 (λo d=>decide (o=.And)&&!d.isEmpty&&fk S j d) e
 |.or j,e=>T9 (λo d=>decide (o=.Or)&&!d.isEmpty&&fk S j d) e
 |.tup j,e=>Dg (λd=>fk S j d) e
 |.lst j,e=>Pa (λd=>fk S j d) e
 |.ix a i,e=>Dh (λv s=>By s&&(aI S false a v||fj S a v)&&aI S false i s) e
 |.sl a A B,e=>Yc (λv l h=>(aI S false a v||fj S a v)&&Pb (jU A) (λx=>aI S false A x) l&&Pb (jU B) (λx=>aI S false B x) h) e
 |.call f j,e=>jb (λx d=>S.fn[f]?==some x&&iW S x&&!d.isEmpty&&!iU (bE S.md f)&&!S.mt.any (·.1==f)&&fk S j d) e
 |.blt b j,e=>jb (λx d=>decide (x=Vi b)&&iW S x&&S.zn.contains x&&Yd b d.length&&Uc b j&&l5 S j d) e
 |.bits a,e=>vh (λo m F E=>decide (m=("bit_length":Str))&&(F.endLine==E.line)&&vg o&&aI S false a o) e
 |.comp C one n i c x,e=>Ml (λt tg k q p=>xV S C one n (Gs i) (λk=>aI S true i k||fj S i k) (λz q=>WM (Mm c) (λf=>aI z false c f&&Ec c) q) (λz t=>aI z false x t) t tg k q p) e
 |.oj j,e=>jb (λx d=>w&&decide (x=("range":Str))&&iW S x&&S.zn.contains x&&(j.length==1||j.length==2||j.length==3)&&fk S j d) e
 |.sE a,e=>jb (λx d=>w&&decide (x=("enumerate":Str))&&iW S x&&S.zn.contains x&&vj (λv=>aI S false a v) d) e
 |.rev a,e=>jb (λx d=>cond w (decide (x=("reversed":Str))&&iW S x&&S.zn.contains x&&vj (λv=>aI S false a v) d)
  (decide (x=("list":Str))&&iW S x&&S.zn.contains x&&vj (λv=>jb (λy d=>decide (y=("reversed":Str))&&iW S y&&S.zn.contains y&&vj (λu=>aI S false a u||fj S a u) d) v) d)) e
 |.pop _,_=>false
 |.own i π,e=>jW S JY i π e
 |.wz _ _ _,_=>false
 |.zQ D a,e=>ZU e&&aI (S.lend D) false a e
 |.Ea _ _ _ _,_=>false
 |.NZ f a j,e=>jb (λx d=>S.fn[f]?==some x&&iW S x&&(match bE S.md f with
  |.io m=>Mj m
  |_=>false)&&!S.mt.any (·.1==f)&&nV (bE S.md) a&&jX (λv=>aI S false a v) (λd=>fk S j d) d) e
noncomputable def fk(S:SE):List CE->List Expr->Bool
 |[],b=>b.isEmpty
 |a::c,b=>jX (λe=>aI S false a e) (λb=>fk S c b) b
noncomputable def l5(S:SE):List CE->List Expr->Bool
 |[],b=>b.isEmpty
 |a::c,b=>jX (λe=>aI S false a e||fj S a e) (λb=>l5 S c b) b
end
structure XOk(S:SE)(Φ:Nat->bN)(Ψ:Nat->Md)(G:Nat->W)(X:Cx):Prop where
 hN:X.N=S.N
 nd:X.N.Nodup
 calm:X.calm=true
 un:X.A.units+64<cLine
 nk:∀x,X.env.scope.names.lookup x=S.nk.lookup x
 fns:∀(j:Nat)(x:Str),S.fn[j]?=some x->S.mt.any (·.1==j)=false->∃fv n k,X.mg x=some fv/\cG X.prog X.w X.K X.mg X.base k fv n (gA X.K n (Ψ j) (Φ j))/\cC k X.A/\∀ws P R,Φ j ws P R->ws.length=n
 J3:∀(j g:Nat)(x:Str),S.fn[j]?=some x->(j,g)∈S.mt->∃f fd ps n k,(∀C,G g=.cls C->Meth X.K C x f)/\Binds X.K fd ps []/\aR X.prog X.w X.K X.mg X.base (dP X.prog X.w) k f fd ps (gA X.K n (Ψ j) (Φ j))/\cC k X.A/\∀ws P R,Φ j ws P R->ws.length=n
 Di:Ψ=bE S.md
 HW:∀(j:Nat)(x:Str),S.gn[j]?=some x->∃u v,X.mg x=some u/\RelV v u/\∀B H,Rep X.K B H (G j) v
 yW:∀x∈S.zn,X.mg x=none
 kit:xK X.K
section
variable{S:SE}{Φ:Nat->bN}{Ψ:Nat->Md}{G:Nat->W}{X:Cx}
theorem XOk.kC(h:XOk S Φ Ψ G X):XOk S Φ Ψ G X.kC:=⟨h.hN,h.nd,h.calm,h.un,h.nk,h.fns,h.J3,h.Di,h.HW,h.yW,h.kit⟩
theorem BA{x:Str}(h:okN x=true):(x==("__debug__":Str))=false/\(x==("__classdict__":Str))=false/\x≠"__name__":=by unfold okN at h;simp only[AN,fg]at h;exact⟨h.1.1,h.1.2,λz=>by rw[z]at h;exact absurd h.2 (by simp)⟩
theorem bz{x:Str}(a:XOk S Φ Ψ G X)(h:iW S x=true):Gl X x/\(x==("__debug__":Str))=false/\x≠"__name__":=by unfold iW at h;rw[AN]at h;obtain⟨c,d,b⟩:=BA h.2;refine⟨?_,c,b⟩;show X.env.scope.names.lookup x=_;rw[a.nk];exact IH.mp h.1
theorem dh(b:XOk S Φ Ψ G X){i:Nat}{e:Expr}(h:jk S i e=true):PE X e (jQ i):=by
 cases e with
 |Name x pos=>simp only[jk,AN]at h;obtain⟨⟨d,a⟩,c⟩:=h;obtain⟨g,f,_⟩:=BA c;refine Eo (by rw[b.hN];exact IH.mp d) ?_ g f;unfold T7 at a;rw[←b.nk]at a;unfold Ra;split at a<;>first|exact .inl (by assumption)|exact .inr (.inl (by assumption))|exact .inr (.inr (by assumption))|exact ff a
 |_=>exact ff h
noncomputable def noStar:Expr->Bool
 |.Starred _ _=>false
 |_=>true
theorem aE{e:Expr}(h:noStar e=true)(a:List Expr)(env:Env):starEach (e::a) env=(false,eval e env)::starEach a env:=by
 cases e<;>first|rfl|exact ff h
theorem bI:∀{a:List Expr}(h:a.all noStar=true)(pos:Pos)(env:Env),(backTo pos (starEach a env)).any (·.1)=false
 |[],_,_,_=>rfl
 |e::a,h,pos,env=>by rw[List.all_cons,AN]at h;rw[aE h.1];show(false||(backTo pos (starEach a env)).any (·.1))=false;rw[bI h.2];rfl
theorem cZ{m:Md->Bool}{i:Nat}{π:List kM}{e:Expr}(h:jW S m i π e=true):
 (∃g k,π≠[]/\xU S i π.reverse e=true/\S.M.lookup i=some g/\iT g π=some k/\m k=true)/\((∃a f q,e=.Attribute a f q)\/∃a j c d q,e=.Subscript a (.Constant (.int j) c d) q):=by
 unfold jW at h;rw[AN,AN]at h;obtain⟨⟨y,l⟩,b⟩:=h;have u:π≠[]:=λz=>by rw[z]at y;exact ff y
 constructor
 ·split at b
  ·rename_i g hl
   split at b
   ·rename_i k hk
    exact⟨g,k,u,l,hl,hk,b⟩
   ·cases b
  ·cases b
 ·cases t:π.reverse with
  |nil=>exact(u (by simpa using t)).elim
  |cons s r=>
   rw[t]at l;cases s with
   |ix n=>obtain⟨v,s,p,rfl,w⟩:=fO l;obtain⟨c,k,q,rfl,A⟩:=gC (a2 w).1;cases c<;>first|exact .inr ⟨_,_,_,_,_,rfl⟩|exact ff A
   |fl n x=>obtain⟨o,m,p,rfl,w⟩:=ia l;exact .inl ⟨_,_,_,rfl⟩
theorem qp{m:Md->Bool}{i:Nat}{π:List kM}{v:Expr}{p:Pos}(h:jW S m i π (.Starred v p)=true):False:=by rcases(cZ h).2 with⟨_,_,_,e⟩|⟨_,_,_,_,_,e⟩<;>cases e
theorem aT{b:Bool}{c:CE}{e:Expr}(h:aI S b c e=true\/fj S c e=true):noStar e=true:=by
 cases e with
 |Starred v p=>
  rcases h with h|h
  ·cases c with
   |own i d=>exact(qp h).elim
   |zQ f a=>exact ff h
   |_=>exact ff h
  ·cases c<;>first|exact ff h|exact(qp h).elim
 |_=>rfl
theorem gj{a b:Bool}(h:(a||b)=true):a=true\/b=true:=by
 cases a
 ·exact .inr h
 ·exact .inl rfl
theorem jJ:∀{cs:List CE}{a:List Expr},fk S cs a=true->a.all noStar=true
 |[],a,h=>by
  cases a with
  |nil=>rfl
  |cons _ _=>exact ff h
 |c::cs,[],h=>by cases h
 |c::cs,e::a,h=>by have h:=a2 h;rw[List.all_cons,aT (.inl h.1),jJ h.2];rfl
theorem qt:∀{cs:List CE}{a:List Expr},l5 S cs a=true->a.all noStar=true
 |[],a,h=>by
  cases a with
  |nil=>rfl
  |cons _ _=>exact ff h
 |c::cs,[],h=>by cases h
 |c::cs,e::a,h=>by have h:=a2 h;rw[List.all_cons,aT (gj h.1),qt h.2];rfl
theorem vm{b:Expr}(h:By b=true):lA b:=λo i=>by cases b<;>first|rfl|exact ff h
theorem t6{a:Expr}(h:vg a=true)(f:Str)(env:Env)(b:Sem Value):attributeBase a f env b=b:=by cases a<;>first|rfl|exact ff h
theorem qu(b:XOk S Φ Ψ G X){i:Nat}:∀(π:List kM)(e:Expr),xU S i π e=true->PE X e (qj X.K i π.reverse)
 |[],e,h=>O7 (dh b h)
 |.fl n x::π,e,h=>by obtain⟨o,m,p,rfl,g⟩:=ia h;obtain⟨⟨a,f⟩,d⟩:=a3 g;have a:=Bi a;subst a;rw[dA];exact O8 (qu b π _ d) (t6 f _ _ _)
 |.ix n::π,e,h=>by
  obtain⟨v,s,p,rfl,g⟩:=fO h;obtain⟨f,d⟩:=a2 g;obtain⟨c,k,q,rfl,j⟩:=gC f;cases c<;>try exact ff j
  have a:=Bi j;subst a;rw[dA];exact T6 (qu b π _ d) iK (vm rfl)
theorem vn(b:XOk S Φ Ψ G X){m:Md->Bool}{i:Nat}{π:List kM}{e:Expr}(h:jW S m i π e=true):∃a k,(i,a)∈S.M/\iT a π=some k/\m k=true/\PE X e (qj X.K i π):=by obtain⟨⟨a,k,_,g,f,d,c⟩,_⟩:=cZ h;have:=qu b π.reverse e g;rw[List.reverse_reverse]at this;exact⟨a,k,jj f,d,c,this⟩
theorem Ud(g:XOk S Φ Ψ G X){i:Nat}{π:List kM}{e:Expr}(h:jW S JY i π e=true)(R:Addr->Prop):VE X S.M R .s e (λa Q=>match look a i with|some w=>(match bF w π with|some u=>Q u|none=>False)|none=>False):=by
 obtain⟨j,k,d,c,f,b⟩:=vn g h;cases k<;>first|(cases f;done)|skip
 exact Ob b d c
theorem Mn(g:XOk S Φ Ψ G X){i:Nat}{π:List kM}{e:Expr}(h:jW S Mj i π e=true)(R:Addr->Prop):VB X S.M R e (λa Q=>match look a i with|some w=>(match bF w π with|some u=>Q u|none=>False)|none=>False):=by
 obtain⟨j,k,d,c,f,b⟩:=vn g h;cases k<;>first|(cases f;done)|skip
 exact Oa b d c
end
structure cS(Φ:Nat->bN)(Ψ:Nat->Md)(G:Nat->W)(c:CE):Prop where
 e:∀{S:SE}{X:Cx},XOk S Φ Ψ G X->∀ex,aI S false c ex=true->∀R,VE X S.M R (mo Ψ c) ex (wE Φ G R c)
 t:∀{S:SE}{X:Cx},XOk S Φ Ψ G X->∀ex,aI S false c ex=true->Ec c=true->∀R,VT X S.M R ex (wE Φ G R c)
 i:∀{S:SE}{X:Cx},XOk S Φ Ψ G X->∀tg br ex,(aI S true c ex||(br&&fj S c ex))=true->(Gs c=true->∃elts kk tp,tg=Expr.Tuple elts kk tp)->∀R,PI X tg ex (Gb X S.M R br (wE Φ G R c))
structure qv(Φ:Nat->bN)(Ψ:Nat->Md)(G:Nat->W)(cs:List CE):Prop where
 a:∀{S:SE}{X:Cx},XOk S Φ Ψ G X->∀es,fk S cs es=true->∀R,VA X S.M R es (wA Φ G R cs)
 b:∀{S:SE}{X:Cx},XOk S Φ Ψ G X->∀es,l5 S cs es=true->∀R,Rr X S.M R es (wA Φ G R cs)
 av:∀{S:SE}{X:Cx},XOk S Φ Ψ G X->∀es pos,es≠[]->fk S cs es=true->∀R,VE X S.M R .s (.BoolOp .And es pos) (yZ Φ G R cs)
 ov:∀{S:SE}{X:Cx},XOk S Φ Ψ G X->∀es pos,es≠[]->fk S cs es=true->∀R,VE X S.M R .s (.BoolOp .Or es pos) (MS Φ G R cs)
 «at»:∀{S:SE}{X:Cx},XOk S Φ Ψ G X->∀es pos,es≠[]->fk S cs es=true->Ec.Gr cs=true->∀R,Mf X S.M R (.BoolOp .And es pos) (yZ Φ G R cs)
 ot:∀{S:SE}{X:Cx},XOk S Φ Ψ G X->∀es pos,es≠[]->fk S cs es=true->Ec.Gr cs=true->∀R,Mf X S.M R (.BoolOp .Or es pos) (MS Φ G R cs)
section
variable{Φ:Nat->bN}{Ψ:Nat->Md}{G:Nat->W}
theorem fu{c:CE}(h:nV Ψ c=false):mo Ψ c=.s:=by unfold mo;rw[h];rfl
theorem kO{c:CE}(h:nV Ψ c=true):mo Ψ c=.f:=by unfold mo;rw[h];rfl
theorem cS.s{c:CE}(h:cS Φ Ψ G c){S:SE}{X:Cx}(a:XOk S Φ Ψ G X){ex:Expr}(k:aI S false c ex=true)(R:Addr->Prop):VE X S.M R .s ex (wE Φ G R c):=C7 (h.e a ex k R)
theorem cS.b{c:CE}(h:cS Φ Ψ G c){S:SE}{X:Cx}(a:XOk S Φ Ψ G X){ex:Expr}(k:(aI S false c ex||fj S c ex)=true)(R:Addr->Prop):VB X S.M R ex (wE Φ G R c):=by
 rcases gj k with k|k
 ·exact Tv (h.e a ex k R)
 ·cases c with
  |var i=>have k:(jk S i ex&&xR S.M i)=true:=k;rw[AN]at k;exact F7 (dh a k.1) (xS k.2)
  |own i d=>exact Mn a k R
  |_=>exact ff k
theorem cS.mk1{c:CE}(b:∀{S:SE}{X:Cx},XOk S Φ Ψ G X->∀ex,aI S false c ex=true->∀R,VE X S.M R (mo Ψ c) ex (wE Φ G R c))
 (f:∀{S:SE}{ex:Expr}(env:Env),aI S false c ex=true->∀a,isTrue ex env a=(do let v←a;standAt ex.pos;holding [v] (truthy v)))
 (g:∀(S:SE)(ex:Expr),aI S true c ex=true->aI S false c ex=true)(e:∀(S:SE)(ex:Expr),fj S c ex=false):cS Φ Ψ G c:=
 ⟨b,λd ex k _ R=>vd (f _ k) (C7 (b d ex k R)),λ{S X} d h i ex k _ R=>by rw[e,X2,Ts]at k;exact gB (jV (b d ex (g _ _ k) R))⟩
theorem Pc(i:Nat):cS Φ Ψ G (.var i):=by
 have d:∀{S:SE}{X:Cx},XOk S Φ Ψ G X->∀ex,aI S false (.var i) ex=true->∀R,VE X S.M R (mo Ψ (.var i)) ex (wE Φ G R (.var i)):=λ{S X} a ex k R=>by have k:=a2 k;have e:¬aU S.M i:=lX (by simpa using k.2);rw[fu rfl];exact N9 (dh a k.1) e
 refine⟨d,λ{S X} a ex k _ R=>vd (λc=>?_) (C7 (d a ex k R)),λ{S X} a f g ex k _ R=>?_⟩
 ·have k:=a2 k;cases ex<;>first|rfl|(have:=k.1;exact ff this)
 ·rcases gj k with k|k
  ·exact gB (jV (d a ex (by exact k) R))
  ·rw[AN]at k;obtain⟨rfl,b⟩:=k;have b:(jk S i ex&&xR S.M i)=true:=b;rw[AN]at b;exact gB (TM (F7 (dh a b.1) (xS b.2)))
theorem Pd(i:Nat)(π:List kM):cS Φ Ψ G (.own i π):=by
 have d:∀R,wE Φ G R (.own i π)=λe Q=>match look e i with|some w=>(match bF w π with|some u=>Q u|none=>False)|none=>False:=λR=>rfl
 have c:∀{S:SE}{X:Cx},XOk S Φ Ψ G X->∀ex,aI S false (.own i π) ex=true->∀R,VE X S.M R (mo Ψ (.own i π)) ex (wE Φ G R (.own i π)):=λ{S X} a ex k R=>by rw[fu rfl,d];exact Ud a k R
 refine⟨c,λ{S X} a ex k _ R=>vd (λb=>?_) (C7 (c a ex k R)),λ{S X} a g h ex k _ R=>?_⟩
 ·rcases(cZ k).2 with⟨_,_,_,rfl⟩|⟨_,_,_,_,_,rfl⟩<;>rfl
 ·rcases gj k with k|k
  ·exact gB (jV (c a ex (by exact k) R))
  ·rw[AN]at k;obtain⟨rfl,f⟩:=k;rw[d];exact gB (TM (Mn a f R))
theorem Pe(i:Int):cS Φ Ψ G (.int i):=by
 refine .mk1 (λ{S X} d ex k R=>?_) (λ{S ex} b k a=>?_) (λS ex k=>by exact k) (λ_ _=>rfl)
 ·obtain⟨c,q,p,rfl,k⟩:=gC k;cases Bi k;rw[fu rfl];exact C8 iK λ_ _=>gf _
 ·obtain⟨c,q,p,rfl,k⟩:=gC k;rfl
theorem Ue(i:Bool):cS Φ Ψ G (.bl i):=by
 refine .mk1 (λ{S X} d ex k R=>?_) (λ{S ex} b k a=>?_) (λS ex k=>by exact k) (λ_ _=>rfl)
 ·obtain⟨c,q,p,rfl,k⟩:=gC k;cases Bi k;rw[fu rfl];exact C8 LP λ_ _=>Bo _
 ·obtain⟨c,q,p,rfl,k⟩:=gC k;rfl
theorem Pf(i:Str):cS Φ Ψ G (.str i):=by
 refine .mk1 (λ{S X} d ex k R=>?_) (λ{S ex} b k a=>?_) (λS ex k=>by exact k) (λ_ _=>rfl)
 ·obtain⟨c,q,p,rfl,k⟩:=gC k;cases Bi k;rw[fu rfl];exact C8 MZ λ_ _=>Tp _
 ·obtain⟨c,q,p,rfl,k⟩:=gC k;rfl
theorem Pg:cS Φ Ψ G .aS:=by
 refine .mk1 (λ{S X} d ex k R=>?_) (λ{S ex} b k a=>?_) (λS ex k=>by exact k) (λ_ _=>rfl)
 ·obtain⟨c,q,p,rfl,k⟩:=gC k;cases Bi k;rw[fu rfl];exact C8 Ep λ_ _=>Tq
 ·obtain⟨c,q,p,rfl,k⟩:=gC k;rfl
theorem J5{n:String}(h:tys.contains n=true):bootBuiltins (Str.ofString n)=some (.type n):=by
 have:n∈tys:=by simpa using h
 unfold tys at this;simp only[Fk,T2,ib]at this;rcases this with rfl|rfl|rfl|rfl|rfl|rfl<;>rfl
theorem Ph(n:String):cS Φ Ψ G (.HS n):=by
 refine .mk1 (λ{S X} d ex k R=>?_) (λ{S ex} l k a=>?_) (λS ex k=>by exact k) (λ_ _=>rfl)
 ·obtain⟨x,q,rfl,b⟩:=dX k
  replace k:=b
  simp only[AN]at k;obtain⟨⟨⟨c,g⟩,f⟩,e⟩:=k;obtain⟨j,i,h⟩:=bz d g;have c:=Bi c;subst c;rw[fu rfl];exact C8 (v:=.ty n) (AD j (d.yW _ (by simpa using f)) (J5 e) rfl h i) λ_ _=>ZG _
 ·obtain⟨x,q,rfl,b⟩:=dX k
  replace k:=b
  rfl
theorem J6(g:Nat):cS Φ Ψ G (.glob g):=by
 refine .mk1 (λ{S X} c ex k R=>?_) (λ{S ex} m k a=>?_) (λS ex k=>by exact k) (λ_ _=>rfl)
 ·obtain⟨x,q,rfl,b⟩:=dX k
  replace k:=b
  simp only[AN]at k;obtain⟨e,d⟩:=k;obtain⟨l,j,n⟩:=bz c d;obtain⟨u,v,i,h,f⟩:=c.HW g _ (IH.mp e);rw[fu rfl];exact C8 (e7 l i h j) f
 ·obtain⟨x,q,rfl,b⟩:=dX k
  replace k:=b
  rfl
theorem z6{K:Frag}{B:Addr->Prop}{H H':Hp}{w:W}{v:V}(h:dU K B H H' .f w v):Oc w=true:=by obtain⟨a,p,b,rfl,_⟩:=h.S9;rfl
theorem Gu{S:SE}{a:CE}{l:Expr}(k:fj S a l=true)(z:nV Ψ a=true):False:=by cases a<;>first|exact ff k|exact ff z
theorem Pj(op:Operator){a b:CE}(J:cS Φ Ψ G a)(I:cS Φ Ψ G b):cS Φ Ψ G (.bin op a b):=by
 refine .mk1 (λ{S X} n ex k R=>?_) (λ{S ex} P k s=>?_) (λS ex k=>by exact k) (λ_ _=>rfl)
 ·obtain⟨l,o,r,t,rfl,u⟩:=nT k
  replace k:=u
  simp only[AN]at k;obtain⟨⟨A,i⟩,g⟩:=k;have A:=Bi A;subst A;show VE X S.M R _ _ λF Q=>wE Φ G R a F λx=>wE Φ G R b F λy=>g8 op x y Q;have E:∀B H m w v,Dom B H->XW X.K B H m w v->aX X.K B m w v:=λ_ _ _ _ _ _ h=>h;have D:∀B H m w v,Dom B H->N8 X.K .f B H m w v->aX X.K B m w v:=λ_ _ _ _ _ d h=>(dU.rep d h).b;have p:=J.b n i R;have j:=I.b n g R;have L:nV Ψ a=true->VE X S.M R .f l (wE Φ G R a):=λz=>by
   rcases gj i with i|i
   ·have:=J.e n l i R;rw[kO z]at this;exact this
   ·exact(Gu i z).elim
  have O:nV Ψ b=true->VE X S.M R .f r (wE Φ G R b):=λz=>by
   rcases gj g with g|g
   ·have:=I.e n r g R;rw[kO z]at this;exact this
   ·exact(Gu g z).elim
  cases op with
  |Add=>
   by_cases c:nV Ψ a=true
   ·rw[kO (show nV Ψ (.bin .Add a b)=true by show(nV Ψ a||nV Ψ b)=true;rw[c];rfl)];exact zW (L c) j D E λ_ _ _ _ _ _ _ _ _ _ C _=>.inl ⟨rfl,.inl (z6 C)⟩
   ·by_cases q:nV Ψ b=true
    ·rw[kO (show nV Ψ (.bin .Add a b)=true by show(nV Ψ a||nV Ψ b)=true;rw[q,Bool.or_true])];exact zW p (O q) E D λ_ _ _ _ _ _ _ _ _ _ _ N=>.inl ⟨rfl,.inr (z6 N)⟩
    ·rw[fu (show nV Ψ (.bin .Add a b)=false by show(nV Ψ a||nV Ψ b)=false;rw[bj _|>.mp c,bj _|>.mp q];rfl)];exact F9 p j λ_ _=>.inr rfl
  |Mult=>
   by_cases c:nV Ψ a=true
   ·rw[kO (show nV Ψ (.bin .Mult a b)=true from c)];exact zW (L c) j D E λ_ _ _ _ _ _ _ _ _ _ C _=>.inr ⟨rfl,z6 C⟩
   ·rw[fu (show nV Ψ (.bin .Mult a b)=false from bj _|>.mp c)];exact F9 p j λ_ _=>.inr rfl
  |_=>rw[fu rfl];exact F9 p j λ_ _=>.inr rfl
 ·obtain⟨l,o,r,t,rfl,u⟩:=nT k
  replace k:=u
  rfl
theorem Pk{a:CE}(e:cS Φ Ψ G a):cS Φ Ψ G (.neg a):=by
 refine .mk1 (λ{S X} f ex k R=>?_) (λ{S ex} g k b=>?_) (λS ex k=>by exact k) (λ_ _=>rfl)
 ·obtain⟨o,x,c,rfl,d⟩:=pD k
  replace k:=d
  rw[AN]at k;cases Bi k.1;rw[fu rfl];exact Oe (e.s f k.2 R)
 ·obtain⟨o,x,c,rfl,d⟩:=pD k
  replace k:=d
  rw[AN]at k;cases Bi k.1;rfl
theorem Pn{a:CE}(h:cS Φ Ψ G a):cS Φ Ψ G (.not a):=by
 have e:∀R,wE Φ G R (.not a)=λi Q=>wE Φ G R a i λx=>truth x λb=>Q (.bl (!b)):=λR=>rfl;have g:∀{S:SE}{X:Cx},XOk S Φ Ψ G X->∀ex,aI S false (.not a) ex=true->∀R,VE X S.M R (mo Ψ (.not a)) ex (wE Φ G R (.not a)):=λ{S X} c ex k R=>by
  obtain⟨o,x,d,rfl,f⟩:=pD k
  replace k:=f
  rw[AN]at k;cases Bi k.1;rw[fu rfl,e];exact Of (h.s c k.2 R)
 refine⟨g,λ{S X} c ex k j R=>?_,λ{S X} c m n ex k _ R=>?_⟩
 ·obtain⟨o,x,d,rfl,f⟩:=pD k
  replace k:=f
  rw[AN]at k;cases Bi k.1;rw[e];exact Om (h.t c _ k.2 (by exact j) R)
 ·have l:fj S (.not a) ex=false:=rfl;rw[l,X2,Ts]at k;exact gB (jV (g c ex (by exact k) R))
theorem Po(op:CmpOp){a b:CE}(n:cS Φ Ψ G a)(m:cS Φ Ψ G b):cS Φ Ψ G (.cmp op a b):=by
 have e:∀R,wE Φ G R (.cmp op a b)=λg Q=>wE Φ G R a g λx=>wE Φ G R b g λy=>eT op x y Q:=λR=>rfl;have f:∀{S:SE}{X:Cx},XOk S Φ Ψ G X->∀ex,aI S false (.cmp op a b) ex=true->∀R,VE X S.M R .s ex (wE Φ G R (.cmp op a b))/\VT X S.M R ex (wE Φ G R (.cmp op a b)):=λ{S X} c ex k R=>by
  obtain⟨l,o,r,p,rfl,q⟩:=nU k
  replace k:=q
  simp only[AN,fg]at k;obtain⟨⟨⟨⟨d,u⟩,t⟩,i⟩,h⟩:=k;have d:=Bi d;subst d;have j:=pQ r (op:=op) (ij u) (ij t);rw[e];exact⟨Og c.un j (n.b c i R) (m.b c h R),Oh c.un j (n.b c i R) (m.b c h R)⟩
 refine⟨λc ex k R=>by rw[fu rfl];exact(f c ex k R).1,λc ex k _ R=>(f c ex k R).2,λ{S X} c w z ex k _ R=>?_⟩;have v:fj S (.cmp op a b) ex=false:=rfl;rw[v,X2,Ts]at k;exact gB (jV (f c ex (by exact k) R).1)
theorem jK{a:List Expr}(h:(!a.isEmpty)=true):a≠[]:=by rintro rfl;cases h
theorem Pp{b:List CE}(g:qv Φ Ψ G b):cS Φ Ψ G (.and b):=by
 have e:∀R,wE Φ G R (.and b)=yZ Φ G R b:=λR=>rfl;have f:∀{S:SE}{X:Cx},XOk S Φ Ψ G X->∀ex,aI S false (.and b) ex=true->∀R,VE X S.M R .s ex (wE Φ G R (.and b)):=λ{S X} a ex k R=>by
  obtain⟨o,j,c,rfl,d⟩:=lZ k
  replace k:=d
  rw[AN,AN]at k;cases Bi k.1.1;rw[e];exact g.av a _ _ (jK k.1.2) k.2 R
 refine⟨λa ex k R=>by rw[fu rfl];exact f a ex k R,λ{S X} a ex k h R=>?_,λ{S X} a l m ex k _ R=>?_⟩
 ·obtain⟨o,j,c,rfl,d⟩:=lZ k
  replace k:=d
  rw[AN,AN]at k;cases Bi k.1.1;rw[e];exact(g.at a _ _ (jK k.1.2) k.2 (by exact h) R).pt
 ·have i:fj S (.and b) ex=false:=rfl;rw[i,X2,Ts]at k;exact gB (jV (f a ex (by exact k) R))
theorem Uh{b:List CE}(g:qv Φ Ψ G b):cS Φ Ψ G (.or b):=by
 have e:∀R,wE Φ G R (.or b)=MS Φ G R b:=λR=>rfl;have f:∀{S:SE}{X:Cx},XOk S Φ Ψ G X->∀ex,aI S false (.or b) ex=true->∀R,VE X S.M R .s ex (wE Φ G R (.or b)):=λ{S X} a ex k R=>by
  obtain⟨o,j,c,rfl,d⟩:=lZ k
  replace k:=d
  rw[AN,AN]at k;cases Bi k.1.1;rw[e];exact g.ov a _ _ (jK k.1.2) k.2 R
 refine⟨λa ex k R=>by rw[fu rfl];exact f a ex k R,λ{S X} a ex k h R=>?_,λ{S X} a l m ex k _ R=>?_⟩
 ·obtain⟨o,j,c,rfl,d⟩:=lZ k
  replace k:=d
  rw[AN,AN]at k;cases Bi k.1.1;rw[e];exact(g.ot a _ _ (jK k.1.2) k.2 (by exact h) R).pt
 ·have i:fj S (.or b) ex=false:=rfl;rw[i,X2,Ts]at k;exact gB (jV (f a ex (by exact k) R))
theorem Ui{X:Cx}{M:Ms}{R:Addr->Prop}{m:Md}{e:Expr}{t:WT}{c:CE}(h:VE X M R m e t)(a:mo Ψ c=m\/mo Ψ c=.s):VE X M R (mo Ψ c) e t:=by
 rcases a with z|z
 ·rw[z];exact h
 ·rw[z];exact C7 h
theorem Pq{e:List CE}(f:qv Φ Ψ G e):cS Φ Ψ G (.tup e):=by
 refine .mk1 (λ{S X} g ex k R=>?_) (λ{S ex} h k b=>?_) (λS ex k=>by exact k) (λ_ _=>rfl)
 ·obtain⟨d,q,p,rfl,c⟩:=fN k;rw[fu rfl];exact Ot (f.a g d c R)
 ·obtain⟨d,q,p,rfl,c⟩:=fN k;rfl
theorem Pr{e:List CE}(f:qv Φ Ψ G e):cS Φ Ψ G (.lst e):=by
 refine .mk1 (λ{S X} g ex k R=>?_) (λ{S ex} h k b=>?_) (λS ex k=>by exact k) (λ_ _=>rfl)
 ·obtain⟨d,p,rfl,c⟩:=qo k;rw[kO rfl];exact Oq (f.a g d c R)
 ·obtain⟨d,p,rfl,c⟩:=qo k;rfl
theorem Uj{a i:CE}(g:cS Φ Ψ G a)(f:cS Φ Ψ G i):cS Φ Ψ G (.ix a i):=by
 refine .mk1 (λ{S X} e ex k R=>?_) (λ{S ex} h k d=>?_) (λS ex k=>by exact k) (λ_ _=>rfl)
 ·obtain⟨v,s,p,rfl,c⟩:=fO k;simp only[AN]at c;rw[fu rfl];exact TF (vm c.1.1) (g.b e c.1.2 R) (f.s e c.2 R)
 ·obtain⟨v,s,p,rfl,c⟩:=fO k;rfl
theorem Mp{a:CE}(d:cS Φ Ψ G a){S:SE}{X:Cx}(f:XOk S Φ Ψ G X){l:Option Expr}(k:Pb (jU a) (λx=>aI S false a x) l=true)(R:Addr->Prop):PO X l (TH X S.M R λb Q=>wE Φ G R a b λy=>Jo a y Q):=by
 cases l with
 |none=>
  have z:jU a=true:=k;cases a with
  |aS=>exact JA
  |_=>exact ff z
 |some x=>
  have k:(!jU a&&aI S false a x)=true:=k;rw[AN]at k;have e:(λ(b:Ev)(Q:Option Int->Prop)=>wE Φ G R a b λy=>Jo a y Q)=λb Q=>wE Φ G R a b λy=>match y with|.int i=>Q (some i)|_=>False:=by
   have c:jU a=false:=by simpa using k.1
   unfold Jo;rw[c];funext b Q;congr 1;funext y;cases y<;>rfl
  rw[e];exact JB (d.s f k.2 R)
theorem Uk{a f g:CE}(j:cS Φ Ψ G a)(h:cS Φ Ψ G f)(i:cS Φ Ψ G g):cS Φ Ψ G (.sl a f g):=by
 refine .mk1 (λ{S X} e ex k R=>?_) (λ{S ex} m k d=>?_) (λS ex k=>by exact k) (λ_ _=>rfl)
 ·obtain⟨v,l,r,q,p,rfl,c⟩:=Bx k;simp only[AN]at c;rw[kO rfl];exact TJ (j.b e c.1.1 R) (Mp h e c.1.2 R) (Mp i e c.2 R)
 ·obtain⟨v,l,r,q,p,rfl,c⟩:=Bx k;rfl
theorem J7(f:Nat){m:List CE}(C:qv Φ Ψ G m):cS Φ Ψ G (.call f m):=by
 refine .mk1 (λ{S X} b ex k R=>?_) (λ{S ex} I k c=>?_) (λS ex k=>by exact k) (λ_ _=>rfl)
 ·obtain⟨x,q,l,p,rfl,g⟩:=aH k;simp only[AN]at g;obtain⟨⟨⟨⟨⟨v,u⟩,t⟩,i⟩,s⟩,o⟩:=g;obtain⟨E,D,J⟩:=bz b u;obtain⟨H,n,r,B,F,y,A⟩:=b.fns f x (IH.mp v) (by simpa using s);have F:cG X.prog X.w X.K X.mg X.base r H n (Mh X.K n (Ψ f) (Φ f)):=by rw[←b.Di]at i;cases j:Ψ f<;>rw[j]at i F<;>first|exact F|exact ff i
  have d:=jJ o;cases l with
  |nil=>exact ff t
  |cons e l=>
   rw[List.all_cons,AN]at d;have h:=Bu (M:=S.M) (R:=R) (p:=q) (pos:=p) F y E B A (C.a b _ o R) D (aE d.1 _ _) (bI d.2 _ _);refine Ui h ?_;by_cases z:nV Ψ (.call f m)=true
   ·rw[kO z];left;have z:(match Ψ f with|.f=>true|_=>false)=true:=z;cases j:Ψ f<;>rw[j]at z<;>first|rfl|exact ff z
   ·exact .inr (fu (by simpa using z))
 ·obtain⟨x,q,l,p,rfl,g⟩:=aH k;rfl
theorem xW{X:Cx}(c:X.calm=true):∀b:BI,b≠.any->b≠.F3->(∃a,bootBuiltins (Vi b)=some (.builtin a)/\cF X (.builtin a) (Ou X.K b))\/(∃a,bootBuiltins (Vi b)=some (.type a)/\cF X (.type a) (Ou X.K b))
 |.len,_,_=>.inl ⟨"len",rfl,cw_len.r⟩
 |.abs,_,_=>.inl ⟨"abs",rfl,cw_abs.r⟩
 |.max2,_,_=>.inl ⟨"max",rfl,(cw_max c).r⟩
 |.min2,_,_=>.inl ⟨"min",rfl,(cw_min c).r⟩
 |.sum,_,_=>.inl ⟨"sum",rfl,(cw_sum c).r⟩
 |.all,_,_=>.inl ⟨"all",rfl,(cw_all c).r⟩
 |.list,_,_=>.inr ⟨"list",rfl,cw_list.r⟩
 |.tuple,_,_=>.inr ⟨"tuple",rfl,cw_tuple.r⟩
 |.int,_,_=>.inr ⟨"int",rfl,cw_int.r⟩
 |.Rn,_,_=>.inl ⟨"divmod",rfl,cw_dvm.r⟩
 |.any,h,_=>absurd rfl h
 |.F3,_,h=>absurd rfl h
theorem fK{S:SE}{a:CE}{c:List CE}{b:List Expr}(k:fk S (a::c) b=true):∃e r,b=e::r/\aI S false a e=true/\fk S c r=true:=by
 cases b with
 |nil=>exact ff k
 |cons e r=>exact⟨e,r,rfl,a2 k⟩
theorem qw{S:SE}{a:List Expr}(k:fk S [] a=true):a=[]:=GT.mp k
theorem z7{S:SE}{a:CE}{c:List CE}{b:List Expr}(k:l5 S (a::c) b=true):∃e r,b=e::r/\(aI S false a e||fj S a e)=true/\l5 S c r=true:=by
 cases b with
 |nil=>exact ff k
 |cons e r=>exact⟨e,r,rfl,a2 k⟩
theorem Dj{S:SE}{a:List Expr}(k:l5 S [] a=true):a=[]:=GT.mp k
theorem Pu(b:BI){i:List CE}(J:qv Φ Ψ G i)(g:∀c∈i,cS Φ Ψ G c):cS Φ Ψ G (.blt b i):=by
 refine .mk1 (λ{S X} h ex k R=>?_) (λ{S ex} Z k t=>?_) (λS ex k=>by exact k) (λ_ _=>rfl)
 ·obtain⟨x,q,C,p,rfl,l⟩:=aH k;simp only[AN]at l;obtain⟨⟨⟨⟨⟨m,P⟩,O⟩,F⟩,E⟩,s⟩:=l;have m:=Bi m;obtain⟨B,A,w⟩:=bz h P;have hz:=h.yW x (by simpa using O);have f:=qt s;cases C with
  |nil=>cases b<;>exact ff F
  |cons e C=>
   rw[List.all_cons,AN]at f;by_cases I:b=.F3
   ·subst I;rw[fu rfl];rcases i with _|⟨a,_|⟨c,_|⟨d,i⟩⟩⟩<;>try exact ff E
    obtain⟨n,H⟩:=TK.mp E;have ec:c=.HS n:=by cases c<;>first|(cases H;rfl)|exact nn H
    subst ec;obtain⟨N,L⟩:=a2 s;obtain⟨e2,r,rfl,D,Ru⟩:=z7 L;cases Dj Ru;have j:=f.2;rw[List.all_cons,AN]at j;have K:aI S false (.HS n) e2=true:=by
     rcases gj D with z|z
     ·exact z
     ·exact ff z
    have u:n∈["int","bool","tuple","list","str","dict"]:=by obtain⟨y,q2,rfl,l⟩:=dX K;have:=(a2 l).2;unfold tys at this;exact List.contains_iff_mem.mp this
    have Y:=(g a FK).b h N R;have U:=(g (.HS n) (DL _ FK)).b h D R;have o:bootBuiltins x=some (.builtin "isinstance"):=by rw[m];rfl
    exact Ox (M:=S.M) (R:=R) (p:=q) (pos:=p) h.kit u B hz o Y U w A (aE f.1 _ _) (aE j.1 _ _) (bI f.2 _ _)
   ·have T:mo Ψ (.blt b i)=TL b:=by
     cases b<;>first|rfl|exact fu rfl|exact kO rfl
    rw[T];rcases xW h.calm b (by rintro rfl;exact ff F) I with⟨Q,o,v⟩|⟨Q,o,v⟩
    ·exact Ov v B hz (by rw[m];exact o) (J.b h _ s R) w A (aE f.1 _ _) (bI f.2 _ _)
    ·exact Ow v B hz (by rw[m];exact o) (J.b h _ s R) w A (aE f.1 _ _) (bI f.2 _ _)
 ·obtain⟨x,q,C,p,rfl,l⟩:=aH k;rfl
theorem J8{a:CE}(h:cS Φ Ψ G a):cS Φ Ψ G (.bits a):=by
 refine .mk1 (λ{S X} i ex k R=>?_) (λ{S ex} j k b=>?_) (λS ex k=>by exact k) (λ_ _=>rfl)
 ·obtain⟨o,m,n,l,rfl,c⟩:=iX k;simp only[AN]at c;obtain⟨⟨⟨d,g⟩,e⟩,f⟩:=c;have d:=Bi d;subst d;rw[fu rfl];exact JC (h.s i f R) (t6 e _ _ _) g
 ·obtain⟨o,m,n,l,rfl,c⟩:=iX k;rfl
theorem Pw{K:Frag}{B b:Addr->Prop}{H:Hp}{w:W}{v:V}(a:N4 w=true)(r:Rep K B H w v):Rep K b H w v:=by
 cases w<;>first|(rw[Rep]at r⊢;exact r)|exact ff a
theorem jl{S:SE}{a:List Nat}:∀x∈(S.lend a).M,x∈S.M:=λx b=>(SZ.mp b).1
theorem Px(c:List Nat){a:CE}(u:cS Φ Ψ G a):cS Φ Ψ G (.zQ c a):=by
 have x:∀R,wE Φ G R (.zQ c a)=λd Q=>wE Φ G R a d λw=>N4 w=true/\Q w:=λR=>rfl;have q:∀{S:SE}{X:Cx},XOk S Φ Ψ G X->∀ex,aI S false (.zQ c a) ex=true->∀R,VE X S.M R .s ex (wE Φ G R (.zQ c a)):=λ{S X} b ex k R=>by have k:=a2 k;have m:XOk (S.lend c) Φ Ψ G X:=⟨b.hN,b.nd,b.calm,b.un,b.nk,b.fns,b.J3,b.Di,b.HW,b.yW,b.kit⟩;rw[x];refine PE.imp (u.s m k.2 R) ?_;rintro y H Q ⟨A,n,d,P,l,i,h,g⟩;obtain⟨p,D,E,C,j⟩:=l.sub (M':=(S.lend c).M) jl none (λv e=>by cases e);exact⟨p,n,d,_,j,i,h,λw v o f s r=>g w v o f.2 s (.of (Pw f.1 r.bw))⟩
 refine⟨λ{S X} b ex k R=>by rw[fu rfl];exact q b ex k R,λ{S X} b ex k z R=>?_,λ{S X} b F I ex k _ R=>?_⟩
 ·have k:=a2 k;have m:XOk (S.lend c) Φ Ψ G X:=⟨b.hN,b.nd,b.calm,b.un,b.nk,b.fns,b.J3,b.Di,b.HW,b.yW,b.kit⟩;rw[x];refine PT.imp (u.t m ex k.2 z R) ?_;rintro y H Q ⟨A,n,d,P,l,i,h,g⟩;obtain⟨p,D,E,C,j⟩:=l.sub (M':=(S.lend c).M) jl none (λv e=>by cases e);exact⟨p,n,d,_,j,i,h,λw o f s=>g w o f.2 s⟩
 ·have B:fj S (.zQ c a) ex=false:=rfl;rw[B,X2,Ts]at k;exact gB (jV (q b ex (by exact k) R))
theorem Py(i f:Nat)(c:List CE):cS Φ Ψ G (.wz i f c):=.mk1 (λd ex k R=>by cases k) (λb k a=>by cases k) (λS ex k=>by cases k) (λ_ _=>rfl)
theorem Pz(i g f:Nat)(c:List CE):cS Φ Ψ G (.Ea i g f c):=.mk1 (λd ex k R=>by cases k) (λb k a=>by cases k) (λS ex k=>by cases k) (λ_ _=>rfl)
theorem PB(f:Nat){a:CE}{g:List CE}(J:cS Φ Ψ G a)(C:qv Φ Ψ G g):cS Φ Ψ G (.NZ f a g):=by
 refine .mk1 (λ{S X} c ex k R=>?_) (λ{S ex} P k h=>?_) (λS ex k=>by exact k) (λ_ _=>rfl)
 ·obtain⟨x,q,j,p,rfl,i⟩:=aH k;simp only[AN]at i;obtain⟨⟨⟨⟨⟨B,A⟩,d⟩,z⟩,v⟩,b⟩:=i;obtain⟨N,L,T⟩:=bz c A;obtain⟨O,n,u,I,F,D,H⟩:=c.fns f x (IH.mp B) (by simpa using z);have F:cG X.prog X.w X.K X.mg X.base u O n (Mi X.K n .f (Φ f)):=by
   rw[←c.Di]at d;cases E:Ψ f<;>rw[E]at d F<;>first|(cases d;done)|skip
   rename_i m
   cases m<;>first|exact F|exact ff d
  cases j with
  |nil=>exact ff b
  |cons e j=>rw[jX,AN]at b;have t:=jJ b.2;have o:=J.e c e b.1 R;rw[c.Di,kO v]at o;rw[fu rfl,show wE Φ G R (.NZ f a g)=λl Q=>wE Φ G R a l λx=>wA Φ G R g l λs=>Φ f (x::s) (λr=>∃w y,r=.tup [w,y]/\Q w) R from rfl];exact O6 (M:=S.M) (R:=R) (p:=q) (pos:=p) F D N I H o (C.a c _ b.2 R) L (aE (aT (.inl b.1)) _ _) (bI t _ _)
 ·obtain⟨x,q,j,p,rfl,i⟩:=aH k;rfl
theorem PC(i:Nat):cS Φ Ψ G (.pop i):=.mk1 (λc ex k R=>by cases k) (λb k a=>by cases k) (λS ex k=>by cases k) (λ_ _=>rfl)
theorem PD{o:List CE}(h:∀c∈o,cS Φ Ψ G c):cS Φ Ψ G (.oj o):=by
 refine⟨λ{S X} i ex k R=>?_,λ{S X} i ex k _ R=>?_,λ{S X} i tg br ex k _ R=>?_⟩
 ·obtain⟨x,q,z,p,rfl,l⟩:=aH k;simp at l
 ·obtain⟨x,q,z,p,rfl,l⟩:=aH k;simp at l
 ·have D:fj S (.oj o) ex=false:=rfl;rw[D,X2,Ts]at k;obtain⟨x,q,z,p,rfl,l⟩:=aH k;simp only[AN]at l;obtain⟨⟨⟨⟨⟨_,v⟩,C⟩,B⟩,y⟩,u⟩:=l;have v:=Bi v;subst v;obtain⟨w,H,F⟩:=bz i C;have hz:=i.yW _ (by simpa using B);rcases o with _|⟨a,_|⟨b,_|⟨c,_|⟨d,o⟩⟩⟩⟩
  ·simp at y
  ·obtain⟨e,r,rfl,j,n⟩:=fK u;cases qw n;exact JF (M:=S.M) (R:=R) (br:=br) (tg:=tg) (p:=q) (pos:=p) w hz ((h a FK).s i j R) (aE (aT (.inl j)) _ _)
  ·obtain⟨e,r,rfl,j,n⟩:=fK u;obtain⟨f,r,rfl,m,t⟩:=fK n;cases qw t;exact JG (M:=S.M) (R:=R) (br:=br) (tg:=tg) (p:=q) (pos:=p) w hz ((h a (by simp)).s i j R) ((h b (by simp)).s i m R) (aE (aT (.inl j)) _ _) (aE (aT (.inl m)) _ _)
  ·obtain⟨e,r,rfl,j,n⟩:=fK u;obtain⟨f,r,rfl,m,t⟩:=fK n;obtain⟨g,r,rfl,A,E⟩:=fK t;cases qw E;exact JH (M:=S.M) (R:=R) (br:=br) (tg:=tg) (p:=q) (pos:=p) w hz ((h a (by simp)).s i j R) ((h b (by simp)).s i m R) ((h c (by simp)).s i A R) (aE (aT (.inl j)) _ _) (aE (aT (.inl m)) _ _) (aE (aT (.inl A)) _ _)
  ·simp at y
theorem l7{f:Expr->Bool}{a:List Expr}(h:vj f a=true):∃e,a=[e]/\f e=true:=eU h
theorem PJ{a:CE}(n:cS Φ Ψ G a):cS Φ Ψ G (.sE a):=by
 refine⟨λ{S X} c ex k R=>?_,λ{S X} c ex k _ R=>?_,λ{S X} c s v ex k m R=>?_⟩
 ·obtain⟨x,q,g,p,rfl,b⟩:=aH k;simp at b
 ·obtain⟨x,q,g,p,rfl,b⟩:=aH k;simp at b
 ·have l:fj S (.sE a) ex=false:=rfl;rw[l,X2,Ts]at k;obtain⟨x,q,g,p,rfl,b⟩:=aH k;simp only[AN]at b;obtain⟨⟨⟨⟨_,f⟩,j⟩,i⟩,d⟩:=b;have f:=Bi f;subst f;obtain⟨e,rfl,d⟩:=l7 d;obtain⟨o,u,t⟩:=bz c j;obtain⟨h,b,r,rfl⟩:=m rfl;exact OB o (c.yW _ (by simpa using i)) (jV (n.e c e d R)) (aE (aT (.inl d)) _ _)
theorem PK{a:CE}(s:cS Φ Ψ G a):cS Φ Ψ G (.rev a):=by
 have r:∀{S:SE}{X:Cx},XOk S Φ Ψ G X->∀ex,aI S false (.rev a) ex=true->∀R,VE X S.M R (mo Ψ (.rev a)) ex (wE Φ G R (.rev a)):=λ{S X} d ex k R=>by obtain⟨x,q,h,p,rfl,c⟩:=aH k;have c:(decide (x=("list":Str))&&iW S x&&S.zn.contains x&&vj (λv=>jb (λy h=>decide (y=("reversed":Str))&&iW S y&&S.zn.contains y&&vj (λu=>aI S false a u||fj S a u) h) v) h)=true:=c;simp only[AN]at c;obtain⟨⟨⟨g,n⟩,m⟩,l⟩:=c;clear k c;have g:=Bi g;subst g;obtain⟨e,rfl,l⟩:=l7 l;obtain⟨y,E,h,F,rfl,c⟩:=aH l;simp only[AN]at c;obtain⟨⟨⟨f,w⟩,t⟩,i⟩:=c;have f:=Bi f;subst f;obtain⟨u,rfl,i⟩:=l7 i;obtain⟨o,C,B⟩:=bz d n;obtain⟨A,J,I⟩:=bz d w;rw[kO rfl];exact JE d.calm o (d.yW _ (by simpa using m)) A (d.yW _ (by simpa using t)) (s.b d i R) (aE (aT (gj i)) _ _)
 refine⟨r,λ{S X} d ex k _ R=>vd (λj=>?_) (C7 (r d ex k R)),λ{S X} d D K ex k H R=>?_⟩
 ·obtain⟨x,q,h,p,rfl,c⟩:=aH k;rfl
 ·have z:fj S (.rev a) ex=false:=rfl;rw[z,X2,Ts]at k;obtain⟨x,q,h,p,rfl,c⟩:=aH k;have c:(decide (x=("reversed":Str))&&iW S x&&S.zn.contains x&&vj (λv=>aI S false a v) h)=true:=c;simp only[AN]at c;obtain⟨⟨⟨g,n⟩,m⟩,f⟩:=c;have g:=Bi g;subst g;obtain⟨e,rfl,f⟩:=l7 f;obtain⟨o,C,B⟩:=bz d n;exact OC o (d.yW _ (by simpa using m)) (jV (s.e d e f R)) (aE (aT (.inl f)) _ _)
theorem qx{f:NameKind->NameKind}:∀(l:List (Str×NameKind))(y:Str),(l.map λp=>(p.1,f p.2)).lookup y=(l.lookup y).map f
 |[],_=>rfl
 |(n,k)::r,y=>by
  rw[QP,List.lookup_cons,List.lookup_cons];by_cases e:(y==n)=true
  ·rw[e];rfl
  ·rw[bj]at e;rw[e];exact qx r y
theorem vo{sc a b:Scope}{N d c:List Str}(h:∀x,a.names.lookup x=b.names.lookup x):dQ sc a N d c=dQ sc b N d c:=by unfold dQ;simp only[h]
theorem vp{S:SE}{X:Cx}(a:XOk S Φ Ψ G X){scope:Scope}{b:List Str}(g:dQ scope X.env.scope X.N (mask b S.N) b=true)(h:(b++mask b S.N).Nodup){c:List (Addr×Obj)}{d:St}{H:Hp}{s:Shared}(I:Inv X c d H s)(C:Addr)(e:Shared)(j:Hp)(i:List Addr):
 XOk (S.comp scope b) Φ Ψ G (aW X scope C b (mask b S.N) e j i):=by
 refine⟨rfl,h,a.calm,a.un,λx=>?_,a.fns,a.J3,a.Di,a.HW,a.yW,a.kit⟩;show(relabel scope X.env).names.lookup x=_;rw[gY I (gw.of g)];show _=(scope.names.map λp=>(p.1,if p.2=.free then NameKind.cell else p.2)).lookup x;rw[qx (f:=λk=>if k=.free then NameKind.cell else k)]
noncomputable def gD(X:Cx)(i:Nat)(x:Str):Prop:=X.N[i]?=some x/\Loc X.env.scope x/\(X.fn x=true\/X.env.scope.names.lookup x=some .local)
noncomputable def di(X:Cx):List Nat->List Str->Prop
 |[],a=>a=[]
 |i::b,a=>∃x r,a=x::r/\gD X i x/\di X b r
theorem Mq{X:Cx}(a:X.N.Nodup){i:Nat}{x:Str}{p:Pos}(h:gD X i x):PG X (.Name x p) (gW i):=AH a h.1 h.2.1 h.2.2
theorem Gv{X:Cx}(f:X.N.Nodup):∀(a:List Expr)(c:List Str)(b:List Nat),Ed a=some c->di X b c->RW X a (TN b)/\(assignEach a X.env).length=b.length/\(assignEach a X.env).findIdx? (·.1)=none
 |[],c,b,h,k=>by
  cases h;cases b with
  |nil=>exact⟨Ib,rfl,rfl⟩
  |cons i d=>obtain⟨x,r,e,_⟩:=k;cases e
 |.Name x p::a,c,b,h,k=>by
  rw[Ed]at h;obtain⟨l,n,rfl⟩:=N0.mp h;cases b with
  |nil=>cases k
  |cons i d=>obtain⟨s,r,e,q,o⟩:=k;cases e;obtain⟨m,j,g⟩:=Gv f a l d n o;have e:assignEach (.Name x p::a) X.env=(false,assign (.Name x p) X.env)::assignEach a X.env:=rfl;refine⟨Ex (Mq f q) m rfl,by rw[e,List.length_cons,j,List.length_cons],?_⟩;rw[e,List.findIdx?_cons,g];rfl
 |.BoolOp ..::a,c,b,h,k=>by cases h
 |.NamedExpr ..::a,c,b,h,k=>by cases h
 |.BinOp ..::a,c,b,h,k=>by cases h
 |.UnaryOp ..::a,c,b,h,k=>by cases h
 |.Lambda ..::a,c,b,h,k=>by cases h
 |.IfExp ..::a,c,b,h,k=>by cases h
 |.Dict ..::a,c,b,h,k=>by cases h
 |.Set ..::a,c,b,h,k=>by cases h
 |.ListComp ..::a,c,b,h,k=>by cases h
 |.SetComp ..::a,c,b,h,k=>by cases h
 |.DictComp ..::a,c,b,h,k=>by cases h
 |.GeneratorExp ..::a,c,b,h,k=>by cases h
 |.Await ..::a,c,b,h,k=>by cases h
 |.Yield ..::a,c,b,h,k=>by cases h
 |.YieldFrom ..::a,c,b,h,k=>by cases h
 |.Compare ..::a,c,b,h,k=>by cases h
 |.Call ..::a,c,b,h,k=>by cases h
 |.FormattedValue ..::a,c,b,h,k=>by cases h
 |.JoinedStr ..::a,c,b,h,k=>by cases h
 |.Constant ..::a,c,b,h,k=>by cases h
 |.Attribute ..::a,c,b,h,k=>by cases h
 |.Subscript ..::a,c,b,h,k=>by cases h
 |.Starred ..::a,c,b,h,k=>by cases h
 |.List ..::a,c,b,h,k=>by cases h
 |.Tuple ..::a,c,b,h,k=>by cases h
 |.Slice ..::a,c,b,h,k=>by cases h
theorem PL{X:Cx}(q:X.calm=true)(c:X.N.Nodup){tg:Expr}{one:Bool}{b:List Str}{a:List Nat}(h:Ua tg=some (one,b))(k:di X a b):PG X tg (gT X.K one a):=by
 cases tg with
 |Name x p=>
  cases h
  match a,k with
  |[i],k=>obtain⟨g,r,e,f,d⟩:=k;cases e;exact Mq c f
  |[],k=>cases k
  |_::_::_,k=>obtain⟨g,r,e,f,d⟩:=k;cases e;obtain⟨u,v,t,_⟩:=d;cases t
 |Tuple s w p=>
  rw[Ua]at h;obtain⟨l,o,e⟩:=N0.mp h;cases e;obtain⟨n,m,j⟩:=Gv c s b a o k;have:gT X.K false a=M6 X.K a.length (TN a):=by cases a<;>rfl
  rw[this];exact M7 q n m j
 |_=>exact nn h
theorem oA{X:Cx}:∀(a:List Str)(n:Nat),(∀k x,a[k]?=some x->gD X (n+k) x)->di X ((List.range a.length).map (n+·)) a
 |[],n,_=>by simp[di]
 |x::a,n,h=>by
  rw[List.length_cons,List.range_succ_eq_map,QP];refine⟨x,a,rfl,h 0 x rfl,?_⟩;have:=oA a (n+1) λk y b=>by have:=h (k+1) y (by simpa using b);rw[show n+1+k=n+(k+1) by lia];exact this
  rw[Ta];have e:(List.range a.length).map (n+1+·)=(List.range a.length).map ((n+·)∘Nat.succ):=Yf λk _=>by show n+1+k=n+(k+1);lia
  rw[←e];exact this
theorem xX{a:Expr}(h:z5 a=true)(env:Env)(x:Value):foldedSetIterable a env x=pure x:=by
 cases a<;>first|rfl|exact ff h
theorem BB{d:List Nat}{one:Bool}{n:Nat}{i c x:CE}{R:Addr->Prop}:wE Φ G R (.comp d one n i c x)=λb Q=>wE Φ G R i b λz=>items z λf=>oQ (λw K=>wT one d w (List.replicate n none++b) λa=>wE Φ G (λ_=>False) c a λe=>truth e λk=>if k=true then wE Φ G (λ_=>False) x a λy=>K (some y)else K none) f [] λl=>Q (.lst l):=rfl
theorem qy{ts:List Nat}{one:Bool}{n:Nat}{i c x:CE}(hi:cS Φ Ψ G i)(hc:cS Φ Ψ G c)(hx:cS Φ Ψ G x){S:SE}{X:Cx}(L:XOk S Φ Ψ G X){ex:Expr}(k:aI S false (.comp ts one n i c x) ex=true)(R:Addr->Prop):
 ∃D tg d B scope p a,ex=.ListComp D [⟨tg,d,B,0⟩] scope p/\n=a.length/\(∀j∈ts,j<a.length)/\dQ scope X.env.scope X.N (mask a S.N) a=true/\(∀z,foldedSetIterable d X.env z=pure z)/\PI X tg d (Gb X S.M R true (wE Φ G R i))/\
  ∀E s U H,Inv X E U H s->(∀C m g u,PG (aW X scope C a (mask a S.N) m g u) tg (gT X.K one ts))/\(∀C m g u,PF (aW X scope C a (mask a S.N) m g u) B (WC X.K (up S.M a.length) (wE Φ G (λ_=>False) c)))/\
   ∀C m g u,PE (aW X scope C a (mask a S.N) m g u) D (WB X.K (up S.M a.length) (wE Φ G (λ_=>False) x)):=by
 obtain⟨D,tg,d,B,scope,p,rfl,J⟩:=tZ k;unfold xV at J;split at J;rotate_left
 ·cases J
 rename_i o a PM
 simp only[AN]at J;obtain⟨⟨⟨⟨⟨⟨⟨⟨⟨k1,k2⟩,k3⟩,k4⟩,k5⟩,k6⟩,k7⟩,k8⟩,l⟩,Ru⟩:=J;have k1:=IH.mp k1;have k2:=IH.mp k2;have k3:=IH.mp k3;subst k1 k2 k3;have F:=Bi k5;have Y:dQ scope X.env.scope X.N (mask a S.N) a=true:=by rw[L.hN,vo (b:=S.sc) λy=>L.nk y];exact k4
 have O:=gw.of Y;refine⟨D,tg,d,B,scope,p,a,rfl,rfl,λj hj=>SB.mp hj,Y,xX k6 _,hi.i L tg true d (by rw[Bool.true_and];exact k8) (λz=>?_) R,λE s U H I=>⟨λC m g u=>?_,λC m g u=>?_,λC m g u=>?_⟩⟩
 ·have:one=false:=by rw[z]at k7;simpa using k7
  subst this;cases tg with
  |Tuple es J p=>exact⟨_,_,_,rfl⟩
  |Name y p=>cases PM
  |_=>exact nn PM
 ·have T:=vp L Y F I C m g u;refine PL T.calm T.nd PM ?_;have:=oA (X:=aW X scope C a (mask a S.N) m g u) a 0 λk y hy=>?_
  ·simpa using this
  ·have hm:y∈a:=NA hy;have l1:(aW X scope C a (mask a S.N) m g u).env.scope.names.lookup y=some .local:=by show(relabel scope X.env).names.lookup y=_;rw[gY I O,(O.own y hm).1];rfl
   refine⟨?_,.inl l1,.inr l1⟩;show(a++mask a S.N)[0+k]?=some y;rw[Nat.zero_add,IR (Fu.mp hy).1];exact hy
 ·have T:=vp L Y F I C m g u
  match B,l with
  |[],l=>
   have l:Mm c=true:=l;cases c with
   |bl b=>have:b=true:=l;subst this;refine PF.imp E7 ?_;rintro U H Q ⟨A,g,Z,P,S',h,k⟩;obtain⟨b,e,q⟩:=k _ H h (aq.refl H);cases e;exact q
   |_=>exact ff l
  |[f],l=>have l:(aI (S.comp scope a) false c f&&Ec c)=true:=l;rw[AN]at l;exact PF.imp (NI (hc.t T f l.1 l.2 λ_=>False))<|by rintro U H Q ⟨A,g,Z,P,S',h,k⟩;exact⟨A,g,Z,P,S',.none,h,k⟩
  |_::_::_,l=>exact ff l
 ·have T:=vp L Y F I C m g u;exact PE.imp (hx.s T Ru λ_=>False)<|by rintro U H Q ⟨A,g,Z,P,S',h,k⟩;exact⟨A,g,Z,P,S',.none,h,λw v H' pw s r=>k w v H' pw s r.bw⟩
theorem Ka(o:List Nat)(one:Bool)(n:Nat){i c x:CE}(A:cS Φ Ψ G i)(B:cS Φ Ψ G c)(v:cS Φ Ψ G x):cS Φ Ψ G (.comp o one n i c x):=by
 refine .mk1 (λ{S X} m ex k R=>?_) (λ{S ex} C k e=>?_) (λS ex k=>by exact k) (λ_ _=>rfl)
 ·obtain⟨j,q,d,f,b,p,E,rfl,rfl,g,z,h,D,y⟩:=qy A B v m k R;rw[kO rfl];rw[BB];intro a s l H Q I w;obtain⟨u,t,r⟩:=y a s l H I;exact JI m.calm z g D u t r h a s l H Q I w
 ·obtain⟨j,q,d,f,b,p,rfl,F⟩:=tZ k;rfl
theorem PN:qv Φ Ψ G []:=by
 have e:∀{S:SE}{a:List Expr},fk S [] a=true->a=[]:=λ{S a} h=>by exact GT.mp h
 have f:∀{S:SE}{a:List Expr},l5 S [] a=true->a=[]:=λ{S a} h=>by exact GT.mp h
 refine⟨λd a k R=>?_,λd a k R=>?_,λd a b c k R=>absurd (e k) c,λd a b c k R=>absurd (e k) c,λd a b c k _ R=>absurd (e k) c,λd a b c k _ R=>absurd (e k) c⟩
 ·rw[e k];exact Oo
 ·rw[f k];exact Jz
theorem Kc{a:CE}{m:List CE}(l:cS Φ Ψ G a)(o:qv Φ Ψ G m):qv Φ Ψ G (a::m):=by
 have p:∀{S:SE}{j:List Expr},fk S (a::m) j=true->∃e r,j=e::r/\aI S false a e=true/\fk S m r=true:=λ{S j} h=>by
  rw[fk]at h;cases j with
  |nil=>exact ff h
  |cons e r=>rw[jX,AN]at h;exact⟨e,r,rfl,h.1,h.2⟩
 have w:∀R,wA Φ G R (a::m)=λv Q=>wE Φ G R a v λx=>wA Φ G R m v λy=>Q (x::y):=λR=>rfl;refine⟨λc j k R=>?_,λ{S X} c j k R=>?_,λ{S X} c j f q k R=>?_,λ{S X} c j f q k R=>?_,λ{S X} c j f q k i R=>?_,λ{S X} c j f q k i R=>?_⟩
 ·obtain⟨e,r,rfl,g,d⟩:=p k;rw[w];exact Jy (aE (aT (.inl g)) _ _) (l.s c g R) (o.a c r d R)
 ·rw[l5]at k;cases j with
  |nil=>exact ff k
  |cons e r=>rw[jX,AN]at k;rw[w];exact Ga (aE (aT (gj k.1)) _ _) (l.b c k.1 R) (o.b c r k.2 R)
 ·obtain⟨e,r,rfl,g,d⟩:=p k;cases m with
  |nil=>
   have:r=[]:=by exact GT.mp d
   subst this;exact Et (l.s c g R)
  |cons b u=>
   cases r with
   |nil=>exact ff d
   |cons n r=>exact Oi (l.s c g R) (o.av c (n::r) f (by simp) d R)
 ·obtain⟨e,r,rfl,g,d⟩:=p k;cases m with
  |nil=>
   have:r=[]:=by exact GT.mp d
   subst this;exact Et (l.s c g R)
  |cons b u=>
   cases r with
   |nil=>exact ff d
   |cons n r=>exact Tw (l.s c g R) (o.ov c (n::r) f (by simp) d R)
 ·obtain⟨e,r,rfl,g,d⟩:=p k;have i:=a2 i;cases m with
  |nil=>
   have:r=[]:=by exact GT.mp d
   subst this;exact Jx (l.t c e g i.1 R)
  |cons b u=>
   cases r with
   |nil=>exact ff d
   |cons n r=>exact Ol (l.t c e g i.1 R) (o.at c (n::r) f (by simp) d i.2 R)
 ·obtain⟨e,r,rfl,g,d⟩:=p k;have i:=a2 i;cases m with
  |nil=>
   have:r=[]:=by exact GT.mp d
   subst this;exact Oj (l.t c e g i.1 R)
  |cons b u=>
   cases r with
   |nil=>exact ff d
   |cons n r=>exact Tz (l.t c e g i.1 R) (o.ot c (n::r) f (by simp) d i.2 R)
variable(Φ Ψ G)
mutual
theorem snd:∀c:CE,cS Φ Ψ G c
 |.var i=>Pc i
 |.int i=>Pe i
 |.bl b=>Ue b
 |.str x=>Pf x
 |.aS=>Pg
 |.HS n=>Ph n
 |.glob g=>J6 g
 |.bin op a b=>Pj op (snd a) (snd b)
 |.neg a=>Pk (snd a)
 |.not a=>Pn (snd a)
 |.cmp op a b=>Po op (snd a) (snd b)
 |.and d=>Pp (nW d).1
 |.or d=>Uh (nW d).1
 |.tup d=>Pq (nW d).1
 |.lst d=>Pr (nW d).1
 |.ix a i=>Uj (snd a) (snd i)
 |.sl a h k=>Uk (snd a) (snd h) (snd k)
 |.call f d=>J7 f (nW d).1
 |.blt b d=>Pu b (nW d).1 (nW d).2
 |.bits a=>J8 (snd a)
 |.comp e one n i c x=>Ka e one n (snd i) (snd c) (snd x)
 |.oj d=>PD (nW d).2
 |.sE a=>PJ (snd a)
 |.rev a=>PK (snd a)
 |.pop i=>PC i
 |.own i π=>Pd i π
 |.wz i f d=>Py i f d
 |.zQ j a=>Px j (snd a)
 |.Ea i g f d=>Pz i g f d
 |.NZ f a d=>PB f (snd a) (nW d).1
theorem nW:∀cs:List CE,qv Φ Ψ G cs/\∀c∈cs,cS Φ Ψ G c
 |[]=>⟨PN,by simp⟩
 |c::cs=>⟨Kc (snd c) (nW cs).1,λd a=>by
  rcases Fk.mp a with e|h
  ·rw[e];exact snd c
  ·exact(nW cs).2 d h⟩
end
end
noncomputable def PR(S:SE)(i:Nat)(x:Str):Bool:=S.N[i]?==some x&&(S.nk.lookup x==some .local||S.nk.lookup x==some .cell)
noncomputable def Dk(S:SE):List Nat->List Str->Bool
 |[],a=>a.isEmpty
 |i::b,a=>match a with
  |x::r=>PR S i x&&Dk S b r
  |[]=>false
noncomputable def Kd(S:SE)(a:List Nat):Bool:=a.all λi=>!xQ S.M i
noncomputable def SE.less(S:SE)(i:Nat):SE:={S with M:=S.M.filter (·.1 !=i)}
noncomputable def SE.bare(S:SE):SE:={S with M:=[]}
noncomputable def Gw:Expr->Bool
 |.Tuple _ _ _=>false
 |_=>true
noncomputable def Gx:Expr->Bool
 |.ListComp _ _ _ _=>false
 |_=>true
noncomputable def Rv(S:SE)(b vs:List Expr):Option (Option (List Str)):=
 if !(b.length==2||b.length==3)||vs.length !=b.length then some none
 else if vs.any λ|.Starred ..=>true|_=>false then some none
 else
  let line:=(b.head?.map (·.pos.line)).getD 0
  let a:=b.filterMap λ
   |.Name c pos=>if S.nk.lookup c==some .local&&pos.line==line then some c else none
   |_=>none
  if a.length !=b.length||a.eraseDups.length !=a.length then some none
  else if vs.all (foldedForSure 8)then some none
  else if vs.all (constantsAlone 8)then none
  else some (some a)
noncomputable def Dl(f:List Expr->Expr->Bool):Stmt->Bool
 |.Assign a v _=>f a v
 |_=>false
noncomputable def Ye(f:Expr->List Stmt->List Stmt->Bool):Stmt->Bool
 |.While c a b _=>f c a b
 |_=>false
noncomputable def Yg(f:Expr->Expr->List Stmt->List Stmt->Bool):Stmt->Bool
 |.For t i a b _=>f t i a b
 |_=>false
noncomputable def Yh(f:Expr->Bool):Stmt->Bool
 |.Raise (some x) none _=>f x
 |_=>false
noncomputable def Ke(f:Expr->Bool):Stmt->Bool
 |.Expr v _=>f v
 |_=>false
noncomputable def BC(f:Str->Pos->Expr->Bool):Stmt->Bool:=Dl λa v=>o1 (WK λx p=>f x p v) a
noncomputable def Mr(f:List Expr->Expr->Bool):Stmt->Bool:=Dl λa v=>o1 (Dg λb=>f b v) a
noncomputable def Mt(f:List Expr->List Expr->Bool):Stmt->Bool:=Dl λb v=>o1 (Dg λc=>Dg (λa=>f c a) v) b
noncomputable def Mu(f:Expr->Expr->Expr->Bool):Stmt->Bool:=Dl λa v=>o1 (Dh λo k=>f o k v) a
noncomputable def Gy(f:Expr->Str->Pos->Pos->Expr->Bool):Stmt->Bool:=Ke (tY λg b k c=>k&&o1 (λv=>De (λo m a=>f o m a c v) g) b)
noncomputable def PU(n:Bool)(f:Expr->Bool):Stmt->Bool
 |.Return (some v) _=>f v
 |.Return none _=>n
 |_=>false
noncomputable def PV(f:Expr->List Stmt->List Stmt->Bool):Stmt->Bool
 |.If c a b _=>f c a b
 |_=>false
noncomputable def PY(f:Expr->List Stmt->Bool):Stmt->Bool:=Ye λc a b=>b.isEmpty&&f c a
noncomputable def Ul(f:Expr->Expr->List Stmt->Bool):Stmt->Bool:=Yg λt i a b=>b.isEmpty&&f t i a
noncomputable def WO:Stmt->Bool
 |.Break _=>true
 |_=>false
noncomputable def Gz(f:Str->Expr->Bool):Stmt->Bool:=Yh (tY λg a k _=>k&&o1 (λe=>xT (λx=>f x e) g) a)
noncomputable def GA(f:Stmt->Bool)(g:List Stmt->Bool):List Stmt->Bool
 |e::a=>f e&&g a
 |[]=>false
mutual
noncomputable def yX:Md->Md->Bool
 |.s,m=>JY m
 |.f,m=>Mj m
 |.t a,m=>match m with
  |.t b=>z8 a b
  |_=>false
 |.o d a,m=>match m with
  |.o c b=>decide (d=c)&&z8 a b
  |_=>false
 |.io a,m=>match m with
  |.io b=>yX a b
  |_=>false
 |.ls a,m=>match m with
  |.ls b=>yX a b
  |_=>false
noncomputable def z8:List Md->List Md->Bool
 |[],l=>l.isEmpty
 |a::c,l=>match l with
  |b::bs=>yX a b&&z8 c bs
  |[]=>false
end
mutual
theorem qz:∀{a b:Md},yX a b=true->a=b
 |.s,m,h=>by rw[yX]at h;cases m<;>first|rfl|exact ff h
 |.f,m,h=>by rw[yX]at h;cases m<;>first|rfl|exact ff h
 |.t a,m,h=>by
  cases m with
  |t b=>simp only[yX]at h;rw[vt h]
  |_=>simp[yX]at h
 |.o d a,m,h=>by
  cases m with
  |o c b=>simp only[yX,AN]at h;rw[Bi h.1,vt h.2]
  |_=>simp[yX]at h
 |.io a,m,h=>by
  cases m with
  |io b=>simp only[yX]at h;rw[qz h]
  |_=>simp[yX]at h
 |.ls a,m,h=>by
  cases m with
  |ls b=>simp only[yX]at h;rw[qz h]
  |_=>simp[yX]at h
theorem vt:∀{a b:List Md},z8 a b=true->a=b
 |[],l,h=>by
  cases l with
  |nil=>rfl
  |cons b bs=>simp[z8]at h
 |a::c,l,h=>by
  cases l with
  |nil=>simp[z8]at h
  |cons b bs=>simp only[z8,AN]at h;rw[qz h.1,vt h.2]
end
noncomputable def hasB(M:Ms)(i:Nat)(m:Md):Bool:=match M.lookup i with
 |some k=>yX k m
 |none=>false
theorem fy{M:Ms}{i:Nat}{m:Md}(h:hasB M i m=true):(i,m)∈M:=by
 unfold hasB at h;cases e:M.lookup i with
 |none=>rw[e]at h;exact ff h
 |some k=>rw[e]at h;rw[←qz h];exact jj e
noncomputable def Mv(f:Expr->Str->List Expr->Bool):Expr->Bool:=tY λg b k c=>k&&De (λo m a=>(a.endLine==c.line)&&decide (b.length<30)&&f o m b) g
mutual
noncomputable def gg(S:SE):CE->Expr->Bool
 |.pop i,e=>vh (λo m p n=>decide (m=("pop":Str))&&(p.endLine==n.line)&&z4 S.M i&&jk S i o) e
 |.wz i f h,e=>jb (λx d=>S.fn[f]?==some x&&iW S x&&!S.mt.any (·.1==f)&&(match bE S.md f with
  |.io m=>hasB S.M i m
  |_=>false)&&jX (λv=>jk S i v) (λd=>qA S h d) d) e
 |.Ea i g f h,e=>Mv (λo x d=>S.fn[f]?==some x&&S.mt.any (λy=>y.1==f&&y.2==g)&&(match bE S.md f with
  |.io (.o j k)=>hasB S.M i (.o j k)&&!j.contains x
  |_=>false)&&jk S i o&&qA S h d) e
 |.bin op a b,e=>Gn (λo l r=>decide (op=o)&&gg S a l&&gg S b r) e
 |.cmp op a b,e=>Gp (λo l r=>decide (op=o)&&!decide (op=.In)&&!decide (op=.NotIn)&&gg S a l&&gg S b r) e
 |.call f h,e=>jb (λx d=>S.fn[f]?==some x&&iW S x&&!d.isEmpty&&!iU (bE S.md f)&&!S.mt.any (·.1==f)&&qA S h d) e
 |.blt b h,e=>jb (λx d=>decide (x=Vi b)&&iW S x&&S.zn.contains x&&Yd b d.length&&!decide (b=.F3)&&!d.isEmpty&&qA S h d) e
 |.ix a b,e=>Dh (λv s=>By s&&gg S a v&&gg S b s) e
 |.and _,_=>false
 |c,e=>aI S false c e
noncomputable def qA(S:SE):List CE->List Expr->Bool
 |[],b=>b.isEmpty
 |a::c,b=>jX (λe=>gg S a e) (λb=>qA S c b) b
end
noncomputable def qE(S:SE):CE->Expr->Bool
 |.cmp op a b,e=>gg S (.cmp op a b) e
 |.wz i f d,e=>gg S (.wz i f d) e
 |.Ea i g f d,e=>gg S (.Ea i g f d) e
 |.call f d,e=>gg S (.call f d) e
 |.pop _,_=>false
 |.bin _ _ _,_=>false
 |.blt _ _,_=>false
 |.ix _ _,_=>false
 |.and _,_=>false
 |c,e=>aI S false c e&&Ec c
noncomputable def xY(S:SE):List CE->List Expr->Bool
 |[],_=>false
 |a::d,c=>match d with
  |[]=>vj (λe=>qE S a e) c
  |b::bs=>jX (λe=>qE S a e) (λc=>xY S (b::bs) c) c
noncomputable def GB(S:SE):CE->Expr->Bool
 |.and b,e=>T9 (λo a=>decide (o=.And)&&xY S b a) e
 |c,e=>qE S c e
noncomputable def Yi:Md->Bool
 |.s=>true
 |_=>false
noncomputable def Vj(a:Nat->Md):CE->Md
 |.tup b=>.t (b.map (mo a))
 |.call f _=>a f
 |c=>mo a c
noncomputable def isVar:CE->Option Nat
 |.var i=>some i
 |_=>none
noncomputable def Um(S:SE)(m:Md)(e:CE)(v:Expr):Bool:=match isVar e with
 |some i=>hasB S.M i m&&jk S i v
 |none=>false
noncomputable def Uo(S:SE)(a:Nat->Md)(m:Md)(e:CE)(v:Expr):Bool:=
 !iU m&&((Yi m&&(aI S.bare false e v||aI S false e v))||(yX (Vj a e) m&&aI S.bare false e v)||Um S m e v)
noncomputable def PZ(S:SE)(m:Md):Bool:=match m with
 |.io k=>hasB S.M 0 k
 |_=>false
noncomputable def Mw(f:Expr->Str->Pos->Pos->Bool):Stmt->Bool:=Ke (vh f)
noncomputable def Mx(f:Expr->Str->Expr->Bool):Stmt->Bool:=Dl λa v=>o1 (De λo x _=>f o x v) a
noncomputable def isCall:CE->Bool
 |.call _ _=>true
 |_=>false
noncomputable def P4(S:SE)(i n:Nat)(x:Str):Bool:=match S.M.lookup i with
 |some (.o b a)=>b[n]?==some x&&(match a[n]? with
  |some k=>JY k
  |none=>false)
 |_=>false
noncomputable def Yj(S:SE)(a:List Nat)(one e:Bool)(f:Expr->Bool)(g:List Stmt->Bool)(tg c:Expr)(b:List Stmt):Bool:=
 match Ua tg with
 |some (o,d)=>(one==o)&&Dk S a d&&Kd S a&&z5 c&&(!e||!one)&&f c&&g b
 |none=>false
noncomputable def z9:Expr->Bool
 |.SetComp _ _ _ _=>false
 |.DictComp _ _ _ _ _=>false
 |_=>true
noncomputable def Kf:Expr->Bool
 |.Starred _ _=>false
 |_=>true
mutual
noncomputable def GC(S:SE)(d:Nat->Md)(m:Md):CS->Stmt->Bool
 |.set i e,st=>BC (λx _ v=>PR S i x&&(if xQ S.M i=true then(!iU m||!(i==0))&&((z4 S.M i&&nV d e)||(isCall e&&hasB S.M i (Vj d e)))&&aI (S.less i) false e v else aI S false e v)) st
 |.zS q e,st=>Mr (λs v=>(match Ed s with|some r=>Dk S q r|none=>false)&&Kd S q&&aI S false e v&&(Gw v||Dg (λvs=>decide (Rv S s vs=some none)) v)) st
 |.par q s,st=>Mt (λtg vs=>(match Ed tg with|some r=>Dk S q r&&decide (Rv S tg vs=some (some r))&&decide r.Nodup&&r.all (λx=>S.nk.lookup x==some .local)|none=>false)&&Kd S q&&fk S s vs) st
 |.app i e,st=>Gy (λo h p l v=>decide (h=("append":Str))&&(p.endLine==l.line)&&z4 S.M i&&jk S i o&&aI S false e v) st
 |.put i k e,st=>Mu (λo j v=>z4 S.M i&&jk S i o&&By j&&aI S false k j&&aI S false e v) st
 |.drop i,st=>Ke (λv=>Gx v&&z9 v&&gg S (.pop i) v) st
 |.sF j e,st=>BC (λx _ v=>PR S j x&&!xQ S.M j&&Gx v&&z9 v&&gg S e v) st
 |.ret e,st=>PU (jU e&&Yi m) (λv=>Uo S d m e v) st
 |.iff c a b,st=>PV (λt x y=>aI S false c t&&Ec c&&aM S d m a x&&aM S d m b y) st
 |.Eb c b,st=>PY (λt x=>aI S false c t&&Ec c&&aM S d m b x) st
 |.fr q one u b,st=>Ul (λtg i x=>Yj S q one (Gs u) (λi=>aI S true u i) (λx=>aM S d m b x) tg i x) st
 |.brk,st=>WO st
 |.raise g e,st=>Gz (λx v=>S.gn[g]?==some x&&iW S x&&aI S false e v) st
 |.Tc i π e,st=>Gy (λo h p l v=>decide (h=("append":Str))&&(p.endLine==l.line)&&jW S Mj i π o&&aI S false e v) st
 |.C5 i n e,st=>Mx (λo x v=>P4 S i n x&&jk S i o&&aI S false e v) st
 |.Td i π,st=>Mw (λo h p l=>decide (h=("clear":Str))&&(p.endLine==l.line)&&jW S Mj i π o) st
 |.HU e,st=>PU (jU e&&PZ S m) (λv=>PZ S m&&aI S false e v) st
 |.Te c a b,st=>PV (λt x y=>GB S c t&&aM S d m a x&&aM S d m b y) st
 |.Ro c b,st=>PY (λt x=>GB S c t&&aM S d m b x) st
 |.Rp i e,st=>Gy (λo h p l v=>decide (h=("append":Str))&&(p.endLine==l.line)&&z4 S.M i&&jk S i o&&Kf v&&gg S e v) st
 |.zT,_=>true
 |.Tf i w,st=>BC (λx _ v=>PR S i x&&(!iU m||!(i==0))&&hasB S.M i (.ls .f)&&w.all (nV d)&&Pa (λs=>fk (S.less i) w s) v) st
 |.Tg i e,st=>Gy (λo h p l v=>decide (h=("append":Str))&&(p.endLine==l.line)&&hasB S.M i (.ls (Vj d e))&&jk S i o&&aI S false e v) st
 |.Mb _ _,_=>false
noncomputable def aM(S:SE)(d:Nat->Md)(m:Md):List CS->List Stmt->Bool
 |[],c=>c.isEmpty
 |a::g,c=>match a with
  |.Mb f b=>g.isEmpty&&(!iU m||!f.contains 0)&&aM (S.lend f) d m b c
  |a=>GA (λe=>GC S d m a e) (λc=>aM S d m g c) c
end
structure yY(S:SE)(Φ:Nat->bN)(Ψ:Nat->Md)(G:Nat->W)(X:Cx):Prop extends XOk S Φ Ψ G X where
 bk:X.env.blockKind=.function
 Rw:∀x,X.fn x=true
 My:∀j x C,S.gn[j]?=some x->G j=.cls C->uH X.K C
 Kg:∀i m m',(i,m)∈S.M->(i,m')∈S.M->m=m'
section
variable{S:SE}{Φ:Nat->bN}{Ψ:Nat->Md}{G:Nat->W}{X:Cx}
theorem yY.kC(h:yY S Φ Ψ G X):yY S Φ Ψ G X.kC:={toXOk:=h.toXOk.kC,bk:=h.bk,Rw:=h.Rw,My:=h.My,Kg:=h.Kg}
theorem XOk.pG(h:XOk S Φ Ψ G X)(M:Ms):XOk {S with M:=M} Φ Ψ G X:=⟨h.hN,h.nd,h.calm,h.un,h.nk,h.fns,h.J3,h.Di,h.HW,h.yW,h.kit⟩
theorem qF(h:yY S Φ Ψ G X){i:Nat}{x:Str}(k:PR S i x=true):gD X i x:=by unfold PR at k;simp only[AN,mM,IH]at k;refine⟨by rw[h.hN];exact k.1,?_,.inl (h.Rw x)⟩;unfold L2.Loc;rw[h.nk];exact k.2
theorem pH(h:yY S Φ Ψ G X):∀{b:List Nat}{a:List Str},Dk S b a=true->di X b a
 |[],a,k=>GT.mp k
 |i::c,[],k=>by cases k
 |i::c,x::r,k=>by rw[Dk,AN]at k;exact⟨x,r,rfl,qF h k.1,pH h k.2⟩
theorem vv{a:List Nat}(h:Kd S a=true):∀i∈a,¬aU S.M i:=λi b=>lX (by simpa using HI.mp h i b)
theorem xZ{i:Nat}{m:Md}(f:(i,m)∈S.M)(d:∀c,(i,c)∈S.M->c=m){x:Nat×Md}:x∈S.M↔x=(i,m)\/x∈(S.less i).M:=by
 show _↔_\/x∈S.M.filter (·.1 !=i);rw[SZ,bne_iff_ne];obtain⟨a,b⟩:=x;constructor
 ·intro h;by_cases e:a=i
  ·subst e;rw[d b h];exact .inl rfl
  ·exact .inr ⟨h,e⟩
 ·rintro(e|h)
  ·cases e;exact f
  ·exact h.1
theorem x6{i:Nat}:¬aU (S.less i).M i:=by rintro⟨m,h⟩;have h:(i,m)∈S.M.filter (·.1 !=i):=h;rw[SZ,bne_iff_ne]at h;exact h.2 rfl
noncomputable def BD:Expr->Bool
 |.SetComp _ _ _ _=>false
 |.DictComp _ _ _ _ _=>false
 |_=>true
theorem P5{d:Bool}{c:CE}{e:Expr}(h:aI S d c e=true):BD e=true:=by
 cases e with
 |SetComp _ _ _ _=>
  cases c with
  |own i b=>rcases(cZ h).2 with⟨_,_,_,e⟩|⟨_,_,_,_,_,e⟩<;>cases e
  |zQ f a=>exact ff h
  |_=>exact ff h
 |DictComp _ _ _ _ _=>
  cases c with
  |own i b=>rcases(cZ h).2 with⟨_,_,_,e⟩|⟨_,_,_,_,_,e⟩<;>cases e
  |zQ f a=>exact ff h
  |_=>exact ff h
 |_=>rfl
noncomputable def WQ(S:SE)(x:Str)(p:Pos):Expr->Bool
 |.ListComp _ _ scope q=>(S.nk.lookup x==some .local)&&(p.line==q.line)&&!(scope.names.any λ(n,k)=>n==x&&(k==.local||k==.cell))
 |_=>false
theorem Up(h:yY S Φ Ψ G X){e:Expr}(c:BD e=true)(x:Str)(p:Pos)(l:Nat):swapsWith e (some (.Name x p)) l X.env=pure (WQ S x p e):=by
 cases e with
 |ListComp a b scope q=>show(pure _:Sem Bool)=pure _;rw[h.bk];show(pure (true&&(X.env.scope.names.lookup x==some .local)&&(p.line==q.line)&&_):Sem Bool)=_;rw[h.nk,Bool.true_and];rfl
 |SetComp _ _ _ _=>exact ff c
 |DictComp _ _ _ _ _=>exact ff c
 |_=>rfl
theorem Kh{e:Expr}{a:List Expr}{k:Nat}{p:Pos}(l:Nat)(env:Env):swapsWithSole [.Tuple a k p] e l env=pure false:=by
 cases e<;>rfl
theorem GD{e o i:Expr}{p:Pos}(l:Nat)(env:Env):swapsWithSole [.Subscript o i p] e l env=pure false:=by
 cases e<;>rfl
theorem Kl{e:Expr}(a:Gw e=true)(b:List Expr)(k:Nat)(p:Pos)(env:Env):swappedStores [.Tuple b k p] e env=pure none:=by
 cases e<;>first|rfl|exact ff a
theorem GF{e o i:Expr}{p:Pos}(env:Env):swappedStores [.Subscript o i p] e env=pure none:=by
 cases e<;>rfl
theorem GG(h:yY S Φ Ψ G X){a vs:List Expr}{k k2:Nat}{p p2:Pos}{o:Option (List Str)}(e:Rv S a vs=some o):swappedStores [.Tuple a k p] (.Tuple vs k2 p2) X.env=pure o:=by
 unfold swappedStores;unfold Rv at e;have b:∀x,X.env.kindOf x=S.nk.lookup x:=λx=>h.nk x;simp only[b,h.bk,bne_self_eq_false,Ts];dsimp only at e;split at e
 ·rename_i c
  cases e;exact Bz c
 rename_i c1
 refine(BM c1).trans ?_;split at e
 ·rename_i c
  cases e;exact Bz c
 rename_i c2
 refine(BM c2).trans ?_;split at e
 ·rename_i c
  cases e;exact Bz c
 rename_i c3
 refine(BM c3).trans ?_;split at e
 ·rename_i c
  cases e;exact Bz c
 rename_i c4
 refine(BM c4).trans ?_;split at e
 ·cases e
 rename_i c5
 cases e;exact BM c5
end
theorem jm{f:List Expr->Expr->Bool}{e:Stmt}(h:Dl f e=true):∃a v q,e=.Assign a v q/\f a v=true:=by cases e<;>first|exact⟨_,_,_,rfl,h⟩|exact ff h
theorem Km{f:Expr->List Stmt->List Stmt->Bool}{e:Stmt}(h:Ye f e=true):∃c a b q,e=.While c a b q/\f c a b=true:=by cases e<;>first|exact⟨_,_,_,_,rfl,h⟩|exact ff h
theorem Kn{f:Expr->Expr->List Stmt->List Stmt->Bool}{e:Stmt}(h:Yg f e=true):∃t i a b q,e=.For t i a b q/\f t i a b=true:=by cases e<;>first|exact⟨_,_,_,_,_,rfl,h⟩|exact ff h
theorem Ko{f:Expr->Bool}{e:Stmt}(h:Yh f e=true):∃x q,e=.Raise (some x) none q/\f x=true:=by
 cases e<;>try exact ff h
 rename_i x y q
 cases x<;>cases y<;>first|exact⟨_,_,rfl,h⟩|exact ff h
theorem qG{f:Expr->Bool}{st:Stmt}(h:Ke f st=true):∃v q,st=.Expr v q/\f v=true:=by cases st<;>first|exact⟨_,_,rfl,h⟩|exact ff h
theorem nX{f:Str->Pos->Expr->Bool}{st:Stmt}(h:BC f st=true):∃x p v q,st=.Assign [.Name x p] v q/\f x p v=true:=by obtain⟨d,v,q,rfl,c⟩:=jm h;obtain⟨t,rfl,b⟩:=eU c;obtain⟨x,p,rfl,a⟩:=Bw b;exact⟨_,_,_,_,rfl,a⟩
theorem Dp{f:List Expr->Expr->Bool}{st:Stmt}(h:Mr f st=true):∃a k p v q,st=.Assign [.Tuple a k p] v q/\f a v=true:=by obtain⟨e,v,q,rfl,d⟩:=jm h;obtain⟨t,rfl,c⟩:=eU d;obtain⟨a,k,p,rfl,b⟩:=fN c;exact⟨_,_,_,_,_,rfl,b⟩
theorem Dq{f:List Expr->List Expr->Bool}{st:Stmt}(h:Mt f st=true):∃a k p vs c b q,st=.Assign [.Tuple a k p] (.Tuple vs c b) q/\f a vs=true:=by obtain⟨j,v,q,rfl,i⟩:=jm h;obtain⟨t,rfl,g⟩:=eU i;obtain⟨a,k,p,rfl,e⟩:=fN g;obtain⟨vs,c,b,rfl,d⟩:=fN e;exact⟨_,_,_,_,_,_,_,rfl,d⟩
theorem Dr{f:Expr->Expr->Expr->Bool}{st:Stmt}(h:Mu f st=true):∃o k p v q,st=.Assign [.Subscript o k p] v q/\f o k v=true:=by obtain⟨d,v,q,rfl,c⟩:=jm h;obtain⟨t,rfl,b⟩:=eU c;obtain⟨o,k,p,rfl,a⟩:=fO b;exact⟨_,_,_,_,_,rfl,a⟩
theorem l8{f:Expr->Str->Pos->Pos->Expr->Bool}{st:Stmt}(h:Gy f st=true):∃o m c v b q,st=.Expr (.Call (.Attribute o m c) [v] [] b) q/\f o m c b v=true:=by obtain⟨v,q,rfl,n⟩:=qG h;obtain⟨g,s,r,p,rfl,l⟩:=g9 n;obtain⟨k,j⟩:=a2 l;obtain⟨e,rfl,i⟩:=eU j;obtain⟨o,m,a,rfl,d⟩:=ia i;rw[GT.mp k];exact⟨_,_,_,_,_,_,rfl,d⟩
theorem x8{n:Bool}{f:Expr->Bool}{st:Stmt}(h:PU n f st=true):(∃v q,st=.Return (some v) q/\f v=true)\/∃q,st=.Return none q/\n=true:=by
 cases st<;>try exact ff h
 rename_i v q
 cases v
 ·exact .inr ⟨_,rfl,h⟩
 ·exact .inl ⟨_,_,rfl,h⟩
theorem x9{f:Expr->List Stmt->List Stmt->Bool}{st:Stmt}(h:PV f st=true):∃c a b q,st=.If c a b q/\f c a b=true:=by
 cases st<;>try exact ff h
 exact⟨_,_,_,_,rfl,h⟩
theorem ya{f:Expr->List Stmt->Bool}{st:Stmt}(h:PY f st=true):∃c a q,st=.While c a [] q/\f c a=true:=by obtain⟨c,a,b,q,rfl,e⟩:=Km h;obtain⟨k,d⟩:=a2 e;rw[GT.mp k];exact⟨_,_,_,rfl,d⟩
theorem GH{f:Expr->Expr->List Stmt->Bool}{st:Stmt}(h:Ul f st=true):∃tg c a q,st=.For tg c a [] q/\f tg c a=true:=by obtain⟨t,i,a,b,q,rfl,e⟩:=Kn h;obtain⟨k,d⟩:=a2 e;rw[GT.mp k];exact⟨_,_,_,_,rfl,d⟩
theorem Aa{f:Str->Expr->Bool}{st:Stmt}(h:Gz f st=true):∃x a e l q,st=.Raise (some (.Call (.Name x a) [e] [] l)) none q/\f x e=true:=by obtain⟨x,q,rfl,j⟩:=Ko h;obtain⟨g,n,m,p,rfl,i⟩:=g9 j;obtain⟨k,d⟩:=a2 i;obtain⟨e,rfl,c⟩:=eU d;obtain⟨y,a,rfl,b⟩:=dX c;rw[GT.mp k];exact⟨_,_,_,_,_,rfl,b⟩
section
variable{X:Cx}{M:Ms}{m:Md}{st:Stmt}{i j k:Nat}{e:Expr}{te:(Addr->Prop)->WT}{M':Ms}{m0:Md}
theorem Kq{x y z:Str}{a b c:Expr}{ta:TA}{P O L Q pos:Pos}{R k2 U}(hc:X.calm=true)(K:X.N.Nodup)(hi:X.N[i]?=some x)(hj:X.N[j]?=some y)(hk:X.N[k]?=some z)(J:i≠j)(G:i≠k)(F:j≠k)
 (T:X.env.scope.names.lookup x=some .local)(S:X.env.scope.names.lookup y=some .local)(hz:X.env.scope.names.lookup z=some .local)(ha:PA X [a,b,c] ta)
 (hw:swappedStores [.Tuple [.Name x P,.Name y O,.Name z L] R Q] (.Tuple [a,b,c] k2 U) X.env=pure (some [x,y,z])):
 PS X (.Assign [.Tuple [.Name x P,.Name y O,.Name z L] R Q] (.Tuple [a,b,c] k2 U) pos) (λD f H=>ta f H λvs H1=>∃v w u,vs=[v,w,u]/\D.nx (((f.set i (some v)).set j (some w)).set k (some u)) H1):=by
 intro d s f H D I h;rw[exec_Assign_arm];refine FV (ma ?_);refine FV (Kj ?_);rw[BM (by decide)];refine FV (Tuple_ (bJ (ha _ d s f H _ I h) λZ r ⟨vs,H1,I1,r1,B⟩=>?_));obtain⟨v,w,u,e1,B⟩:=B;subst e1;obtain⟨n,l,g,rfl,rv,t,ru⟩:∃n l g,Z=[n,l,g]/\RelV v n/\RelV w l/\RelV u g:=by
  cases r1 with
  |cons p q=>
   cases q with
   |cons p' q'=>
    cases q' with
    |cons C ZX=>
     cases ZX;exact⟨_,_,_,rfl,p,p',C⟩
 refine wpAny_newObj_type ?_ (by show 3<=sizeLine;decide);have I2:Inv X d f H1 {r with heap:=r.heap.push {cls:=.type "tuple",data:=.seq [n,l,g].toArray}}:=I1.kept (t':=r.toks) λb o e=>Da _ e;rw[hw];refine FV (Kj ?_);show wpAny (model X.prog X.w) X.A (do rule "assign.swapped-stores";let items←unpackItems (.ref r.heap.objs.size) 3 none;assignInOrder [λv=>bindName X.env z v,λv=>bindName X.env y v,λv=>bindName X.env x v] items.reverse;pure Flow.next) _ _ _;refine FV (wpAny_rule (FV (unpackItems_tuple (items:= #[n,l,g]) (I.ok.hd hc) (IsTup.new r.heap _) λh' E=>?_)));have I3:=I2.kept (h':=h') (t':=r.toks) λb o e=>E b o (KB (FS e)) e;show wpAny _ _ (assignInOrder [λv=>bindName X.env z v,λv=>bindName X.env y v,λv=>bindName X.env x v] [g,l,n]>>=λ_=>pure Flow.next) _ _ _;refine FV (du (km (ee I3 K hk (.inl hz) ru (λs2 I4=>?_) (.inr hz))));refine du (km (ee I4 K hj (.inl S) t (λs3 I5=>?_) (.inr S)));refine du (km (ee I5 K hi (.inl T) rv (λs4 Y=>assignInOrder_nil (Kj ?_)) (.inr T)));have e6:((f.set k (some u)).set j (some w)).set i (some v)=((f.set i (some v)).set j (some w)).set k (some u):=by rw[List.set_comm _ _ (Pt F),List.set_comm _ _ (Pt G),List.set_comm _ _ (Pt J)]
 rw[e6]at Y;exact⟨_,H1,Y,B⟩
theorem Kr(c:∀R,PS X st (sr (tV X M R (N8 X.K .s) (te R)) (gW i)))(n:¬aU M i):VS X M m st (λd b=>te d.ex b λw=>d.nx (b.set i (some w))):=by rintro a s f H D I ⟨A,q,b,d,S,o,hz,h,k⟩;refine c d.ex a s f H D I ⟨A,q,b,_,S,o,h,λw v p l g r=>?_⟩;exact k.nx A _ _ p rfl rfl l ((S.same g).set n r.bw)
theorem yb(c:∀R,PS X st (sr (tV X M' R (N8 X.K m0) (te R)) (gW i)))(g:∀x,x∈M↔x=(i,m0)\/x∈M')(y:¬aU M' i)(f:iU m=true->i≠0):VS X M m st (λd b=>te d.ex b λw=>d.nx (b.set i (some w))):=by
 rintro a s n H D I ⟨A,P,b,d,S,E,hz,h,k⟩;have C:∀v,A.s0=some v->A.s0=some v/\aU M' 0:=λv e=>by
  refine⟨e,?_⟩;have u:iU m=true:=by rw[←hz,e];rfl
  obtain⟨p,B⟩:=(S.sl v e).2;rcases(g _).mp B with z|z
  ·cases z;exact(f u rfl).elim
  ·exact⟨p,z⟩
 obtain⟨T,G,F,U,l⟩:=S.sub (M':=M') (λx q=>(g x).mpr (.inr q)) A.s0 C;refine c d.ex a s n H D I ⟨T,P,b,_,l,E,h,λw v O t o r=>?_⟩;obtain⟨Q,L,J,_,N⟩:=l.own g y o r;exact k.nx Q _ _ O (L.trans G) (J.trans F) t N
theorem Ks{pos:Pos}:VS X M .s (.Return none pos) (λd c=>d.rt .aS):=by rintro a s b H D I ⟨A,g,c,d,S,f,hz,h,k⟩;exact AG a s b H D I (k.rt _ _ H h S.sm (.of rfl (.of (by rw[Rep]))))
theorem GI{x:Str}{C:Addr}{p b pos:Pos}(F:X.calm=true)(y:Gl X x)(u:X.mg x=some (.ref C))(q:uH X.K C)(z:∀R,VE X M R .s e (te R))(f:starEach [e] X.env=[(false,eval e X.env)])(B:(x==("__debug__":Str))=false):
 VS X M m (.Raise (some (.Call (.Name x p) [e] [] b)) none pos) (λd c=>te d.ex c λ_=>d.ex C):=by
 rintro a s l H D I ⟨A,J,c,d,S,⟨E,o,G,g⟩,hz,h,k⟩;exact E3 g F y u q (aj (z d.ex) aQ f) f B a s l H D I ⟨A,J,c,_,S,⟨E,o,G,g⟩,h,λw v L t n r=>⟨by show 1<=sizeLine;decide,t,S.sm.trans n⟩⟩
end
theorem t7{f:Expr->Str->List Expr->Bool}{e:Expr}(h:Mv f e=true):∃o m a b c,e=.Call (.Attribute o m a) b [] c/\f o m b=true/\(a.endLine==c.line)=true/\b.length<30:=by obtain⟨g,b,n,p,rfl,l⟩:=g9 h;obtain⟨k,j⟩:=a2 l;obtain⟨o,m,a,rfl,i⟩:=ia j;rw[GT.mp k];have d:=a3 i;exact⟨_,_,_,_,_,rfl,d.2,d.1.1,Bi d.1.2⟩
theorem t8{y x:Str}{c a pos:Pos}{b:List Expr}{env:Env}(e:(backTo pos (starEach b env)).any (·.1)=false)(h:b.length<30)(d:(a.endLine==pos.line)=true):
 eval (.Call (.Attribute (.Name y c) x a) b [] pos) env=(do
  let ov←eval (.Name y c) env
  standAt a.atName
  let(f,first)←holding [ov] (getMethod ov x (do return (←importBound (.Name y c) env).getD true))
  callWith pos f first (backTo pos (starEach b env)) (backToKw pos (keywordEach [] env))):=by
 have j:methodCallForm (b.length+([]:List Keyword).length) (backTo pos (starEach b env)) (backToKw pos (keywordEach [] env))=true:=by
  unfold methodCallForm;have i:(backTo pos (starEach b env)).all (λx=>!x.1)=true:=by rw[HI];intro z hz;rw[List.any_eq_false]at e;simpa using e z hz
  rw[i];show(true&&true&&decide (b.length+0+0<30))=true;simpa using h
 have g:methodCallPos true (.Name y c) env a pos=pure pos:=by unfold methodCallPos;simp[d]
 rw[arm_eval_Call,show attributeBase (.Name y c) x env (eval (.Name y c) env)=eval (.Name y c) env from rfl];unfold methodCall;rw[j,g];rfl
theorem Ds{f:Expr->Str->Pos->Pos->Bool}{st:Stmt}(h:Mw f st=true):∃o m d b q,st=.Expr (.Call (.Attribute o m d) [] [] b) q/\f o m d b=true:=by obtain⟨v,q,rfl,g⟩:=qG h;obtain⟨o,m,a,c,rfl,e⟩:=iX g;exact⟨_,_,_,_,_,rfl,e⟩
theorem Du{f:Expr->Str->Expr->Bool}{st:Stmt}(h:Mx f st=true):∃o x p v q,st=.Assign [.Attribute o x p] v q/\f o x v=true:=by obtain⟨d,v,q,rfl,c⟩:=jm h;obtain⟨t,rfl,b⟩:=eU c;obtain⟨o,x,p,rfl,a⟩:=ia b;exact⟨_,_,_,_,_,rfl,a⟩
noncomputable def Dv(X:Cx)(M:Ms)(R:Addr->Prop)(g:List Md)(t:Ev->(List W->Prop)->Prop):TA:=λf H Q=>∃A e b P,SR X.K M A e f H b/\ER X e R/\t b P/\∀c d a F,P c->aq H a->F.Nodup->(∀p∈F,H p=none)->dO X.K (λq=>A.B q\/q∈F) a g c d F->Q d a
section
variable{X:Cx}{M:Ms}{R:Addr->Prop}{a:Expr}{es:List Expr}{ta:WT}{m:Md}{ms:List Md}{pos:Pos}
theorem Ku:PA X [] (Dv X M R [] λ_ Q=>Q []):=PA.imp aQ<|by rintro b H Q ⟨A,e,c,P,S,d,h,k⟩;exact k [] [] H [] h (aq.refl H) ik (by simp) (by rw[dO];exact⟨rfl,rfl,rfl⟩)
theorem GJ{n:Ev->(List W->Prop)->Prop}(E:starEach (a::es) X.env=(false,eval a X.env)::starEach es X.env)(J:VE X M R m a ta)(I:PA X es (Dv X M R ms n)):PA X (a::es) (Dv X M R (m::ms) λc Q=>ta c λx=>n c λf=>Q (x::f)):=
 PA.imp (aj J I E)<|by
  rintro T H Q ⟨A,v,c,P,S,u,h,k⟩;refine⟨A,v,c,_,S,u,h,λx w O D g B=>?_⟩;obtain⟨G,C,s,t⟩:=B;have d:∀q∈G,∃o,O q=some o:=λq j=>let⟨o,e,_⟩:=Fp.mu m t q j;⟨o,e⟩
  refine⟨_,v,c,_,S.more g s d,u,D,λf y N F i r K l L=>?_⟩;refine k _ _ N (G++F) i (g.trans r) ?_ (λp b=>?_) ?_
  ·refine kA.mpr ⟨C,K,λp b q j e=>?_⟩;subst e;obtain⟨o,e⟩:=d p b;rw[l p j]at e;cases e
  ·rcases Fs.mp b with b|b
   ·exact s p b
   ·exact g.free (l p b)
  ·rw[dO];refine⟨x,f,w,y,G,F,rfl,rfl,rfl,Fp.mv r (λp o e z=>?_) m t,dO.mv (aq.refl _) (λp o e z=>?_) ms L⟩
   ·rcases z with z|z
    ·exact .inl z
    ·rcases Fs.mp z with z|z
     ·exact .inr z
     ·rw[l p z]at e;cases e
   ·rcases z with z|z
    ·exact .inl (.inl z)
    ·rcases Fs.mp z with z|z
     ·exact .inl (.inr z)
     ·exact .inr z
theorem Kv{e:Ev->(List W->Prop)->Prop}{j:Nat}(h:PA X es (Dv X M R ms e)):VE X M R (.t ms) (.Tuple es j pos) (λd Q=>e d λb=>b.length<=sizeLine/\Q (.tup b)):=PE.imp (EG h)<|by
 rintro E H Q ⟨A,D,d,P,S,y,h,k⟩;refine⟨A,D,d,_,S,y,h,λb c C F g n q o i=>?_⟩;have u:∀(ms:List Md){b:List W}{c:List V}{F:List Addr}{B:Addr->Prop},dO X.K B C ms b c F->c.length=b.length:=λms=>by
  induction ms with
  |nil=>intro b c F B h;rw[dO]at h;rw[h.1,h.2.1];rfl
  |cons m ms r=>intro b c F B h;rw[dO]at h;obtain⟨w,G,v,l,J,I,rfl,rfl,_,_,x⟩:=h;rw[List.length_cons,List.length_cons,r x]
 refine⟨by rw[u ms i];exact g.1,λp s=>?_⟩;have f:=aG s (.tup c);refine k _ _ _ g.2 (n.trans f) ⟨F,q,o,?_⟩;rw[Fp];exact⟨b,p,c,rfl,rfl,ao,dO.mv f (λ_ _ _ z=>z) ms i⟩
theorem Kw{D:Ev->(List W->Prop)->Prop}(h:PA X es (Dv X M R ms D))(l:∀x∈ms,x=m):VE X M R (.ls m) (.List es pos) (λr Q=>D r λb=>b.length<=sizeLine/\Q (.lst b)):=PE.imp (nA h)<|by
 rintro σ H Q ⟨A,Z,r,P,S,Y,h,k⟩;refine⟨A,Z,r,_,S,Y,h,λb c n F j G N L g=>?_⟩;have T:∀(ms:List Md){b:List W}{c:List V}{F:List Addr}{B:Addr->Prop},(∀x∈ms,x=m)->dO X.K B n ms b c F->e9 (Fp X.K B n m) b c F:=λms=>by
  induction ms with
  |nil=>intro b c F B _ h;rw[dO]at h;rw[h.1];exact h.2
  |cons O ms s=>intro b c F B l h;rw[dO]at h;obtain⟨w,lT,v,f,I,C,rfl,rfl,e,y,u⟩:=h;cases l O FK;exact⟨v,f,I,C,rfl,e,y,s (λx j=>l x (DL _ j)) u⟩
 have g:=T ms l g;refine⟨by rw[g.len];exact j.1,λp d=>?_⟩;have E:=aG d (.lst c);have J:p∉F:=λz=>by
  have U:∀(b:List W)(c:List V)(i:List Addr),e9 (Fp X.K (λq=>A.B q\/q∈F) n m) b c i->∀p∈i,∃o,n p=some o:=λb=>by
   induction b with
   |nil=>rintro c i ⟨_,rfl⟩ p d;cases d
   |cons w b s=>
    rintro c i ⟨v,f,I,C,rfl,rfl,y,u⟩ p d;rcases Fs.mp d with d|d
    ·obtain⟨o,e,_⟩:=Fp.mu m y p d;exact⟨o,e⟩
    ·exact s f C u p d
  obtain⟨o,e⟩:=U b c F g p z;rw[d]at e;cases e
 refine k _ _ _ j.2 (G.trans E) ⟨p::F,Kt.mpr ⟨J,N⟩,λq t=>?_,?_⟩
 ·rcases Fk.mp t with rfl|t
  ·exact G.free d
  ·exact L q t
 ·rw[Fp];refine⟨b,p,c,F,rfl,rfl,rfl,ao,g.mono λw v i _ z=>Fp.mv E (λq o e z=>?_) m z⟩;rcases z with z|z
  ·exact .inl z
  ·rcases Fk.mp z with rfl|z
   ·rw[d]at e;cases e
   ·exact .inr z
end
noncomputable def ek(b:Nat->bN)(a:Nat->Md)(G:Nat->W)(s:CS):Prop:=∀{S:SE}{X:Cx}{m:Md},yY S b a G X->∀c,GC S a m s c=true->VS X S.M m c (wS b G s)
noncomputable def ic(b:Nat->bN)(a:Nat->Md)(G:Nat->W)(s:List CS):Prop:=∀{S:SE}{X:Cx}{m:Md},yY S b a G X->∀c,aM S a m s c=true->Bv X S.M m c (wSs b G s)
section
variable{Φ:Nat->bN}{Ψ:Nat->Md}{G:Nat->W}
theorem yY.pG{S:SE}{X:Cx}(h:yY S Φ Ψ G X)(M:Ms)(b:∀i m a,(i,m)∈M->(i,a)∈M->m=a):yY {S with M:=M} Φ Ψ G X:={toXOk:=h.toXOk.pG M,bk:=h.bk,Rw:=h.Rw,My:=h.My,Kg:=b}
theorem GK{S:SE}{X:Cx}(b:XOk S Φ Ψ G X){f:Nat}{i:List CE}{v:Expr}(k:aI S false (.call f i) v=true)(R:Addr->Prop):VE X S.M R (Ψ f) v (wE Φ G R (.call f i))/\∃g c p,v=.Call g c [] p:=by
 obtain⟨x,q,c,p,rfl,j⟩:=aH k;simp only[AN]at j;obtain⟨⟨⟨⟨⟨t,s⟩,r⟩,h⟩,o⟩,l⟩:=j;obtain⟨C,B,E⟩:=bz b s;obtain⟨D,n,m,A,F,u,z⟩:=b.fns f x (IH.mp t) (by simpa using o);have F:cG X.prog X.w X.K X.mg X.base m D n (Mh X.K n (Ψ f) (Φ f)):=by rw[←b.Di]at h;cases y:Ψ f<;>rw[y]at h F<;>first|exact F|exact ff h
 have d:=jJ l;cases c with
 |nil=>exact ff r
 |cons e c=>rw[List.all_cons,AN]at d;refine⟨?_,_,_,_,rfl⟩;exact Bu (M:=S.M) (R:=R) (p:=q) (pos:=p) F u C A z ((nW Φ Ψ G i).1.a b _ l R) B (aE d.1 _ _) (bI d.2 _ _)
theorem Ab{S:SE}{X:Cx}(d:XOk S Φ Ψ G X):∀(b:List CE)(c:List Expr),fk S b c=true->∀R,PA X c (Dv X S.M R (b.map (mo Ψ)) (wA Φ G R b))
 |[],c,k,R=>by rw[GT.mp k];exact Ku
 |a::b,[],k,R=>by cases k
 |a::b,e::c,k,R=>by have k:=a2 k;exact GJ (aE (aT (.inl k.1)) _ _) ((snd Φ Ψ G a).e d e k.1 R) (Ab d b c k.2 R)
theorem GL{S:SE}{X:Cx}(a:XOk S Φ Ψ G X){e:CE}{v:Expr}(k:aI S false e v=true)(R:Addr->Prop):VE X S.M R (Vj Ψ e) v (wE Φ G R e):=by
 cases e with
 |tup b=>obtain⟨c,d,p,rfl,k⟩:=fN k;exact Kv (Ab a b c k R)
 |call f b=>exact(GK a k R).1
 |_=>exact(snd Φ Ψ G _).e a v k R
theorem Ac{e:CE}(h:isCall e=true):∃f a,e=.call f a:=by cases e<;>first|exact⟨_,_,rfl⟩|exact ff h
theorem t9{e:CE}(h:jU e=true):e=.aS:=by cases e<;>first|rfl|exact ff h
theorem Dw{e:CE}{i:Nat}(h:isVar e=some i):e=.var i:=by cases e<;>first|(cases h;rfl)|exact nn h
theorem Ky{S:SE}{x:Str}{p:Pos}{v:Expr}(h:WQ S x p v=true):∃a b c d,v=.ListComp a b c d:=by cases v<;>first|exact⟨_,_,_,_,rfl⟩|exact ff h
theorem P6{S:SE}{e:CE}{a:Expr}{b:List Comprehension}{c:Scope}{d:Pos}(k:aI S false e (.ListComp a b c d)=true):∃f one n i c x,e=.comp f one n i c x:=by
 cases e with
 |comp f one n i c x=>exact⟨_,_,_,_,_,_,rfl⟩
 |own i g=>rcases(cZ k).2 with⟨_,_,_,e⟩|⟨_,_,_,_,_,e⟩<;>cases e
 |_=>exact ff k
theorem BE{S:SE}{X:Cx}(d:yY S Φ Ψ G X){i:Nat}{x:Str}{p q:Pos}{e:CE}{v:Expr}(J:PR S i x=true)(k:aI S false e v=true)(R:Addr->Prop):
 PS X (.Assign [.Name x p] v q) (sr (tV X S.M R (N8 X.K (mo Ψ e)) (wE Φ G R e)) (gW i)):=by
 have n:=qF d J;have a:=Up d (P5 k) x p q.line;cases m:WQ S x p v with
 |false=>rw[m]at a;exact jf d.nd n.1 n.2.1 ((snd Φ Ψ G e).e d.toXOk v k R) a n.2.2
 |true=>rw[m]at a;obtain⟨L,gs,h,U,rfl⟩:=Ky m;obtain⟨Q,one,Z,A,c,y,rfl⟩:=P6 k;obtain⟨t,T,r,B,f,Y,o,O,rfl,j,F,l,P,E⟩:=qy (snd Φ Ψ G A) (snd Φ Ψ G c) (snd Φ Ψ G y) d.toXOk k R;cases O;rw[kO rfl,BB];intro b s g H D I C;obtain⟨z,w,u⟩:=E b s g H I;exact IJ o (mask o S.N) d.nd n.1 n.2.1 d.calm F P z w u a l n.2.2 b s g H D I (xP j g H _ C)
theorem P7(i:Nat)(e:CE):ek Φ Ψ G (.set i e):=by
 intro S X m l st k;obtain⟨x,p,v,q,rfl,h⟩:=nX k;rw[AN]at h;by_cases y:xQ S.M i=true
 ·rw[Bz y]at h;simp only[AN]at h;obtain⟨F,⟨E,d⟩,C⟩:=h;have u:iU m=true->i≠0:=λz e=>by rw[z,e]at E;cases E
  have L:∀{t:Md},(i,t)∈S.M->(∀R,PS X (.Assign [.Name x p] v q) (sr (tV X (S.less i).M R (N8 X.K t) (wE Φ G R e)) (gW i)))->VS X S.M m (.Assign [.Name x p] v q) (λD o=>wE Φ G D.ex e o λw=>D.nx (o.set i (some w))):=λ{t} I O=>yb (M':=(S.less i).M) (te:=λR=>wE Φ G R e) O (λj=>xZ I (λm' T=>l.Kg i _ _ T I)) x6 u;have J:yY (S.less i) Φ Ψ G X:=l.pG (S.less i).M λa b c B Q=>l.Kg a b c (SZ.mp B).1 (SZ.mp Q).1;rcases gj d with d|d
  ·rw[AN]at d;refine L (lY d.1) λR=>?_;have:=BE J (p:=p) (q:=q) F C R;rw[kO d.2]at this;exact this
  ·rw[AN]at d;refine L (fy d.2) λR=>?_;obtain⟨f,as,rfl⟩:=Ac d.1;obtain⟨B,g,es,pp,rfl⟩:=GK J.toXOk C R;have n:=qF l F;exact jf l.nd n.1 n.2.1 B rfl n.2.2
 ·rw[BM y]at h;refine Kr (te:=λR=>wE Φ G R e) (λR=>?_) (lX (by simpa using y));refine PS.imp (BE l (p:=p) (q:=q) h.1 h.2 R)<|by rintro D σ H ⟨A,Y,o,P,S,U,p,k⟩;exact⟨A,Y,o,P,S,U,p,λw v Z N s r=>k w v Z N s (r.s S.dom)⟩
theorem P8(f:List Nat)(e:CE):ek Φ Ψ G (.zS f e):=by
 intro S X m b w k;obtain⟨j,h,p,v,q,rfl,g⟩:=Dp k;simp only[AN]at g;obtain⟨⟨⟨c,i⟩,n⟩,a⟩:=g;split at c;rotate_left
 ·cases c
 rename_i xs hxs
 have r:PG X (.Tuple j h p) (gT X.K false f):=PL b.calm b.nd (by rw[Ua,hxs];rfl) (pH b c);have d:swappedStores [.Tuple j h p] v X.env=pure none:=by
  rcases gj a with a|a
  ·exact Kl a _ _ _ _
  ·obtain⟨t,i,x,rfl,l⟩:=fN a;exact GG b (Bi l)
 exact OE (te:=λR=>wE Φ G R e) (λ{u} o=>Ey o r (Kh _ _) d rfl) (vv i) λR=>(snd Φ Ψ G e).s b.toXOk n R
theorem qH{X:Cx}{a:List Nat}{x:Str}{b:List Str}(h:di X a (x::b)):∃i r,a=i::r/\gD X i x/\di X r b:=by
 cases a with
 |nil=>cases h
 |cons i r=>obtain⟨_,_,e,d,c⟩:=h;cases e;exact⟨i,r,rfl,d,c⟩
theorem Kz{X:Cx}{a:List Nat}(h:di X a []):a=[]:=by
 cases a with
 |nil=>rfl
 |cons i r=>obtain⟨_,_,e,_⟩:=h;cases e
theorem BF{X:Cx}{a:List Nat}{x y:Str}(h:di X a [x,y]):∃i j,a=[i,j]/\gD X i x/\gD X j y:=by obtain⟨i,r,rfl,e,d⟩:=qH h;obtain⟨j,r,rfl,c,b⟩:=qH d;cases Kz b;exact⟨i,j,rfl,e,c⟩
theorem Dy{X:Cx}{a:List Nat}{x y z:Str}(h:di X a [x,y,z]):∃i j k,a=[i,j,k]/\gD X i x/\gD X j y/\gD X k z:=by obtain⟨i,r,rfl,e,d⟩:=qH h;obtain⟨j,k,rfl,c,b⟩:=BF d;exact⟨i,j,k,rfl,e,c,b⟩
theorem KA{α:Type}{l:List α}(h:l.length=2):∃a b,l=[a,b]:=by rcases l with _|⟨a,_|⟨b,_|_⟩⟩<;>first|exact⟨_,_,rfl⟩|(simp at h;done)
theorem P9{α:Type}{l:List α}(h:l.length=3):∃a b c,l=[a,b,c]:=by
 cases l with
 |nil=>cases h
 |cons a l=>obtain⟨b,c,rfl⟩:=KA (Nat.succ.inj h);exact⟨_,_,_,rfl⟩
theorem l9{b:List Expr}{x:Str}{c:List Str}(h:Ed b=some (x::c)):∃p r,b=.Name x p::r/\Ed r=some c:=by
 cases b with
 |nil=>cases h
 |cons e b=>
  cases e with
  |Name a p=>obtain⟨l,d,e⟩:=N0.mp h;cases e;exact⟨_,_,rfl,d⟩
  |_=>exact nn h
theorem BG{b:List Expr}(h:Ed b=some []):b=[]:=by
 cases b with
 |nil=>rfl
 |cons e b=>
  cases e with
  |Name a p=>obtain⟨l,c,e⟩:=N0.mp h;cases e
  |_=>exact nn h
theorem BH{a:List Expr}{x y:Str}(h:Ed a=some [x,y]):∃p q,a=[.Name x p,.Name y q]:=by obtain⟨p,r,rfl,c⟩:=l9 h;obtain⟨q,r,rfl,b⟩:=l9 c;rw[BG b];exact⟨_,_,rfl⟩
theorem Dz{a:List Expr}{x y z:Str}(h:Ed a=some [x,y,z]):∃p q r,a=[.Name x p,.Name y q,.Name z r]:=by obtain⟨p,r,rfl,b⟩:=l9 h;obtain⟨q,s,rfl⟩:=BH b;exact⟨_,_,_,rfl⟩
theorem KC{S:SE}{a vs:List Expr}{b:List Str}(h:Rv S a vs=some (some b)):(a.length=2\/a.length=3)/\vs.length=a.length:=by
 unfold Rv at h;split at h
 ·cases h
 ·rename_i c
  simp only[mM,fg,bne_iff_ne,not_or,Bool.not_eq_false,IH,ne_eq,Decidable.not_not]at c;exact c
theorem BJ{b:List Expr}{a:List Str}(h:Ed b=some a):b.length=a.length:=by
 induction a generalizing b with
 |nil=>rw[BG h];rfl
 |cons x a c=>obtain⟨p,r,rfl,d⟩:=l9 h;rw[List.length_cons,List.length_cons,c d]
theorem Qa(U:List Nat)(M:List CE):ek Φ Ψ G (.par U M):=by
 intro S X m o st k;obtain⟨tg,kd,p,f,Z1,Z,q,rfl,A⟩:=Dq k;simp only[AN]at A;obtain⟨⟨C,k2⟩,k3⟩:=A;split at C;rotate_left
 ·cases C
 rename_i xs hxs
 simp only[AN]at C;obtain⟨⟨⟨C,I⟩,B⟩,k6⟩:=C;have I:=Bi I;have B:=Bi B;obtain⟨r,P⟩:=KC I;have O:=GG o (k:=kd) (k2:=Z1) (p:=p) (p2:=Z) I;have d:∀x∈xs,X.env.scope.names.lookup x=some .local:=λx hx=>by rw[o.nk];exact IH.mp (HI.mp k6 x hx)
 have Q:=pH o C;refine OG (ta:=λR=>wA Φ G R M) (λ{tv} T=>?_) (vv k2) λR=>(nW Φ Ψ G M).1.a o.toXOk f k3 R;have J:∀{a b:Nat}{x y:Str},x≠y->X.N[a]?=some x->X.N[b]?=some y->a≠b:=λn E g e=>by rw[e,g]at E;exact n (He E).symm
 rcases r with r|r
 ·obtain⟨x,y,rfl⟩:=KA ((BJ hxs).symm.trans r);obtain⟨Y,p2,rfl⟩:=BH hxs;obtain⟨i,j,rfl,t,s⟩:=BF Q;obtain⟨a,b,rfl⟩:=KA (P.trans r);refine PS.imp (M9 o.calm o.nd t.1 s.1 (J (by simpa using B) t.1 s.1) (d x (by simp)) (d y (by simp)) T O) λD F H h=>?_;have e:(λ(f:List V) l=>f.length=[i,j].length/\D.nx (cV F [i,j] f) l)=λf l=>∃v w,f=[v,w]/\D.nx ((F.set i (some v)).set j (some w)) l:=by
   funext f l;refine propext ⟨?_,?_⟩
   ·rintro⟨E,g⟩;obtain⟨v,w,rfl⟩:=KA E;exact⟨v,w,rfl,g⟩
   ·rintro⟨v,w,rfl,g⟩;exact⟨rfl,g⟩
  rw[e]at h;exact h
 ·obtain⟨x,y,z,rfl⟩:=P9 ((BJ hxs).symm.trans r);obtain⟨Y,p2,p3,rfl⟩:=Dz hxs;obtain⟨i,j,A,rfl,t,s,K⟩:=Dy Q;obtain⟨a,b,c,rfl⟩:=P9 (P.trans r);have L:(x≠y/\x≠z)/\y≠z:=by simp only[Kt,Fk,T2,ib,not_or]at B;exact⟨B.1,B.2.1⟩
  refine PS.imp (Kq o.calm o.nd t.1 s.1 K.1 (J L.1.1 t.1 s.1) (J L.1.2 t.1 K.1) (J L.2 s.1 K.1) (d x (by simp)) (d y (by simp)) (d z (by simp)) T O) λD F H h=>?_;have e:(λ(f:List V) l=>f.length=[i,j,A].length/\D.nx (cV F [i,j,A] f) l)=λf l=>∃v w u,f=[v,w,u]/\D.nx (((F.set i (some v)).set j (some w)).set A (some u)) l:=by
   funext f l;refine propext ⟨?_,?_⟩
   ·rintro⟨E,g⟩;obtain⟨v,w,u,rfl⟩:=P9 E;exact⟨v,w,u,rfl,g⟩
   ·rintro⟨v,w,u,rfl,g⟩;exact⟨rfl,g⟩
  rw[e]at h;exact h
theorem mh{S:SE}{i:Nat}{o:Expr}(h:jk S i o=true)(nm:Str)(env:Env):attributeBase o nm env (eval o env)=eval o env:=by
 cases o with
 |Name x p=>rfl
 |_=>exact ff h
theorem Qc(i:Nat)(e:CE):ek Φ Ψ G (.app i e):=by intro S X m g p k;obtain⟨o,r,u,v,t,q,rfl,c⟩:=l8 k;simp only[AN]at c;obtain⟨⟨⟨⟨a,j⟩,h⟩,f⟩,d⟩:=c;have a:=Bi a;subst a;have b:=aE (aT (.inl d)) [] X.env;refine OJ (te:=λR=>wE Φ G R e) (λ{n} l=>?_) (lY h) λR=>(snd Φ Ψ G e).s g.toXOk d R;exact jH (AQ UV eI eD gX (dh g.toXOk f) (aj l aQ b) (mh f _ _) (by rw[b];rfl) j b rfl) rfl
theorem Qd(i:Nat)(a e:CE):ek Φ Ψ G (.put i a e):=by
 intro S X m b y k;obtain⟨o,j,p,v,q,rfl,c⟩:=Dr k;simp only[AN]at c;obtain⟨⟨⟨⟨l,h⟩,g⟩,f⟩,d⟩:=c;have t:∀u,assign (.Subscript o j p) X.env u=(do
  let ov←holding [u] (eval o X.env)
  let iv←holding [u,ov] (eval j X.env)
  standAt p
  holding [u,ov,iv] (setItem ov iv u)
  release [u,ov,iv] []):=by
  intro u;cases j with
  |Slice _ _ _ _=>exact ff g
  |_=>rfl
 refine OM (te:=λR=>wE Φ G R e) (t1:=λR=>wE Φ G R a) (λ{w x} n r=>?_) (lY l) (λR=>(snd Φ Ψ G e).s b.toXOk d R) λR=>(snd Φ Ψ G a).s b.toXOk f R;exact Ey (pos:=q) n (M8 (dh b.toXOk h) r set_list t) (GD _ _) (GF _) rfl
theorem Qe{c:List (Nat×Nat)}{f g:Nat}(h:c.any (λy=>y.1==f&&y.2==g)=true):(f,g)∈c:=by obtain⟨⟨a,b⟩,d,e⟩:=List.any_eq_true.mp h;rw[AN]at e;cases IH.mp e.1;cases IH.mp e.2;exact d
theorem BK:∀{S:SE}{c:CE}{e:Expr},gg S c e=true->noStar e=true:=λ{S c e} h=>by
 cases e with
 |Starred v p=>
  have f:aI S false c (.Starred v p)=true->False:=λz=>by have:=aT (.inl z);exact ff this
  cases c<;>first|exact ff h;done|exact(f h).elim
 |_=>rfl
theorem kP{S:SE}:∀{c:List CE}{b:List Expr},qA S c b=true->b.all noStar=true
 |[],b,h=>by rw[GT.mp h];rfl
 |a::c,[],h=>by cases h
 |a::c,e::b,h=>by have h:=a2 h;rw[List.all_cons,BK h.1,kP h.2];rfl
theorem cH{S:SE}{X:Cx}(b:XOk S Φ Ψ G X)(R:Addr->Prop){c:CE}{v:Expr}(e:gg S c v=aI S false c v)(d:wP Φ G R c=λa Q=>wE Φ G R c a λw=>Q w a)(k:gg S c v=true):VP X S.M R v (wP Φ G R c):=by rw[e]at k;rw[d];exact TZ ((snd Φ Ψ G c).s b k R)
mutual
theorem bV{S:SE}{X:Cx}(d:XOk S Φ Ψ G X)(R:Addr->Prop):∀(e:CE)(v:Expr),gg S e v=true->VP X S.M R v (wP Φ G R e)
 |.pop i,v,k=>by obtain⟨o,mt,ap,cp,rfl,m⟩:=iX k;simp only[AN]at m;obtain⟨⟨⟨j,u⟩,h⟩,t⟩:=m;have j:=Bi j;subst j;exact OQ (lY h) (dh d t) (mh t _ _) u
 |.wz i f z,v,k=>by
  obtain⟨x,q,A,p,rfl,m⟩:=aH k;simp only[AN]at m;obtain⟨⟨⟨⟨j,u⟩,h⟩,t⟩,s⟩:=m;obtain⟨I,H,L⟩:=bz d u;obtain⟨fv,n,O,Q,F,D,E⟩:=d.fns f x (IH.mp j) (by simpa using h);rw[←d.Di]at t;cases A with
  |nil=>exact ff s
  |cons e A=>
   rw[jX,AN]at s;have e0:noStar e=true:=by
    cases e with
    |Name _ _=>rfl
    |_=>exact ff s.1
   cases C:Ψ f with
   |io U=>rw[C]at t F;exact O2 (p:=q) (pos:=p) F D I Q (fy t) E (dh d s.1) (ie d R z A s.2) H (aE e0 _ _) (bI (kP s.2) _ _)
   |_=>rw[C]at t;exact ff t
 |.Ea i g f z,v,k=>by
  obtain⟨o,x,ap,A,p,rfl,m,Yk,Yl⟩:=t7 k;simp only[AN]at m;obtain⟨⟨⟨⟨j,u⟩,h⟩,t⟩,s⟩:=m;obtain⟨fa,fd,ps,n,O,Z,Y,F,D,E⟩:=d.J3 f g x (IH.mp j) (Qe u);rw[←d.Di]at h;cases o with
  |Name y py=>
   cases C:Ψ f with
   |io U=>
    rw[C]at h F;cases U with
    |o fs ms=>
     have h:(hasB S.M i (.o fs ms)&&!fs.contains x)=true:=h;rw[AN]at h;cases z with
     |nil=>
      have:A=[]:=by exact GT.mp s
      subst this;exact JX (G:=G g) Z F D Y (fy h.1) (by simpa using h.2) E (dh d t) (t8 (bI (kP s) _ _) Yl Yk)
     |cons a z=>
      cases A with
      |nil=>exact ff s
      |cons e A=>have N:=s;have N:=a2 N;exact O3 (G:=G g) Z F D Y (fy h.1) (by simpa using h.2) E (dh d t) (ie d R (a::z) (e::A) s) (aE (BK N.1) _ _) (bI (kP N.2) _ _) (t8 (bI (kP s) _ _) Yl Yk)
    |_=>exact ff h
   |_=>rw[C]at h;exact ff h
  |_=>exact ff t
 |.bin op a b,v,k=>by obtain⟨l,o,r,p,rfl,m⟩:=nT k;simp only[AN]at m;obtain⟨⟨j,u⟩,h⟩:=m;have j:=Bi j;subst j;exact OR (bV d R a l u) (bV d R b r h)
 |.cmp op a b,v,k=>by obtain⟨l,o,r,p,rfl,m⟩:=nU k;simp only[AN]at m;obtain⟨⟨⟨⟨j,t⟩,s⟩,u⟩,h⟩:=m;have j:=Bi j;subst j;exact OS d.un (pQ r (op:=op) (by simpa using t) (by simpa using s)) (bV d R a l u) (bV d R b r h)
 |.call f z,v,k=>by
  obtain⟨x,q,A,p,rfl,m⟩:=aH k;simp only[AN]at m;obtain⟨⟨⟨⟨⟨j,u⟩,h⟩,s⟩,J⟩,t⟩:=m;obtain⟨I,H,L⟩:=bz d u;obtain⟨fv,n,O,Q,F,D,E⟩:=d.fns f x (IH.mp j) (by simpa using J);have F:cG X.prog X.w X.K X.mg X.base O fv n (Mh X.K n (Ψ f) (Φ f)):=by rw[←d.Di]at s;cases C:Ψ f<;>rw[C]at s F<;>first|exact F|exact ff s
  have B:=kP t;cases A with
  |nil=>exact ff h
  |cons e A=>rw[List.all_cons,AN]at B;exact JV (p:=q) (pos:=p) F D I Q E (ie d R z _ t) H (aE B.1 _ _) (bI B.2 _ _)
 |.blt b z,v,k=>by
  obtain⟨x,q,A,p,rfl,m⟩:=aH k;simp only[AN]at m;obtain⟨⟨⟨⟨⟨⟨j,u⟩,h⟩,t⟩,s⟩,k9⟩,J⟩:=m;have j:=Bi j;obtain⟨I,H,L⟩:=bz d u;have hz:=d.yW x (List.contains_iff_mem.mp h);have B:=kP J;cases A with
  |nil=>exact ff k9
  |cons e A=>
   rw[List.all_cons,AN]at B;rcases xW d.calm b (by rintro rfl;exact ff t) (by simpa using s)with⟨id,P,T⟩|⟨id,P,T⟩
   ·exact OT T I hz (by rw[j];exact P) (ie d R z _ J) L H (aE B.1 _ _) (bI B.2 _ _)
   ·exact OU T I hz (by rw[j];exact P) (ie d R z _ J) L H (aE B.1 _ _) (bI B.2 _ _)
 |.ix a b,v,k=>by obtain⟨l,r,p,rfl,m⟩:=fO k;simp only[AN]at m;obtain⟨⟨j,u⟩,h⟩:=m;exact T3 (vm j) (bV d R a l u) (bV d R b r h)
 |.and _,v,k=>by cases k
 |.var i,v,k=>cH d R rfl rfl k
 |.int i,v,k=>cH d R rfl rfl k
 |.bl i,v,k=>cH d R rfl rfl k
 |.str i,v,k=>cH d R rfl rfl k
 |.aS,v,k=>cH d R rfl rfl k
 |.HS n,v,k=>cH d R rfl rfl k
 |.glob g,v,k=>cH d R rfl rfl k
 |.neg a,v,k=>cH d R rfl rfl k
 |.not a,v,k=>cH d R rfl rfl k
 |.or z,v,k=>cH d R rfl rfl k
 |.tup z,v,k=>cH d R rfl rfl k
 |.lst z,v,k=>cH d R rfl rfl k
 |.sl a b c,v,k=>cH d R rfl rfl k
 |.bits a,v,k=>cH d R rfl rfl k
 |.comp ts one n i c x,v,k=>cH d R rfl rfl k
 |.oj z,v,k=>cH d R rfl rfl k
 |.sE a,v,k=>cH d R rfl rfl k
 |.rev a,v,k=>cH d R rfl rfl k
 |.own i π,v,k=>cH d R rfl rfl k
 |.zQ is a,v,k=>cH d R rfl rfl k
 |.NZ f a z,v,k=>cH d R rfl rfl k
theorem ie{S:SE}{X:Cx}(d:XOk S Φ Ψ G X)(R:Addr->Prop):∀(c:List CE)(b:List Expr),qA S c b=true->JP X S.M R b (Lm Φ G R c)
 |[],b,k=>by rw[GT.mp k];exact JS
 |a::c,[],k=>by cases k
 |a::c,e::b,k=>by have k:=a2 k;exact Gk (aE (BK k.1) _ _) (bV d R a e k.1) (ie d R c b k.2)
end
theorem BL{v:Expr}(a:BD v=true)(b:Gx v=true)(t:Option Expr)(l:Nat)(env:Env):swapsWith v t l env=pure false:=by
 cases v with
 |ListComp _ _ _ _=>exact ff b
 |SetComp _ _ _ _=>exact ff a
 |DictComp _ _ _ _ _=>exact ff a
 |_=>rfl
theorem Ym{v:Expr}(h:z9 v=true):BD v=true:=by cases v<;>first|rfl|exact ff h
theorem KD(i:Nat):ek Φ Ψ G (.drop i):=by intro S X m e f k;obtain⟨v,q,rfl,a⟩:=qG k;simp only[AN]at a;obtain⟨⟨d,c⟩,b⟩:=a;exact JU (tt:=λR=>wP Φ G R (.pop i)) λR=>jH (bV e.toXOk R _ v b) (BL (Ym c) d _ _ _)
theorem KG(j:Nat)(e:CE):ek Φ Ψ G (.sF j e):=by intro S X m a o k;obtain⟨x,p,v,q,rfl,b⟩:=nX k;simp only[AN]at b;obtain⟨⟨⟨⟨h,g⟩,d⟩,c⟩,f⟩:=b;have n:=qF a h;exact JT (tt:=λR=>wP Φ G R e) (λ{l} i=>jf a.nd n.1 n.2.1 i (BL (Ym c) d _ _ _) n.2.2) (lX (by simpa using g)) λR=>bV a.toXOk R _ v f
theorem Qg(e:CE):ek Φ Ψ G (.ret e):=by
 intro S X m f h k;rcases x8 k with⟨v,q,rfl,a⟩|⟨q,rfl,a⟩
 ·unfold Uo at a;rw[AN]at a;obtain⟨c,a⟩:=a;have c:iU m=false:=by simpa using c
  rcases gj a with a|d
  ·rcases gj a with a|a
   ·rw[AN]at a;have g:m=.s:=by cases m<;>first|rfl|exact ff a.1
    rcases gj a.2 with b|b
    ·exact Gi (te:=λR=>wE Φ G R e) (λR=>(snd Φ Ψ G e).e (f.toXOk.pG []) v b R) (.inr g) c
    ·subst g;exact JN (te:=λR=>wE Φ G R e) λR=>(snd Φ Ψ G e).s f.toXOk b R
   ·rw[AN]at a;exact Gi (te:=λR=>wE Φ G R e) (λR=>GL (f.toXOk.pG []) a.2 R) (.inl (qz a.1)) c
  ·unfold Um at d;split at d
   ·rename_i i hv
    obtain rfl:=Dw hv;have b:=a2 d;exact JO (dh f.toXOk b.2) (fy b.1) c
   ·exact ff d
 ·rw[AN]at a;obtain rfl:=t9 a.1;cases m<;>try exact ff a.2
  exact Ks
theorem BN{S:SE}{m:Md}(h:PZ S m=true):∃k,m=.io k/\(0,k)∈S.M:=by
 cases m with
 |io k=>exact⟨k,rfl,fy h⟩
 |_=>exact ff h
theorem Qh(e:CE):ek Φ Ψ G (.HU e):=by
 intro S X m d f k;rcases x8 k with⟨v,q,rfl,a⟩|⟨q,rfl,a⟩
 ·rw[AN]at a;obtain⟨c,rfl,b⟩:=BN a.1;exact OY (te:=λR=>wE Φ G R e) (λR=>(snd Φ Ψ G e).s d.toXOk a.2 R) b
 ·rw[AN]at a;obtain⟨c,rfl,b⟩:=BN a.2;obtain rfl:=t9 a.1;exact OZ b
theorem qI{S:SE}{X:Cx}(d:XOk S Φ Ψ G X)(R:Addr->Prop)(c:CE)(v:Expr)(k:qE S c v=true):HV X S.M R v (wP Φ G R c):=by
 have fall:∀{c:CE},qE S c v=(aI S false c v&&Ec c)->(wP Φ G R c=λm Q=>wE Φ G R c m λw=>Q w m)->qE S c v=true->HV X S.M R v (wP Φ G R c):=λ{c} C B k=>by rw[C,AN]at k;rw[B];exact OP ((snd Φ Ψ G c).t d v k.1 k.2 R)
 cases c with
 |cmp op a b=>have k:gg S (.cmp op a b) v=true:=k;obtain⟨l,o,r,p,rfl,n⟩:=nU k;simp only[AN]at n;obtain⟨⟨⟨⟨j,y⟩,u⟩,A⟩,z⟩:=n;have j:=Bi j;subst j;exact JQ d.un (pQ r (op:=op) (by simpa using y) (by simpa using u)) (bV d R a l A) (bV d R b r z)
 |wz i f e=>have k:gg S (.wz i f e) v=true:=k;have h:=bV d R _ v k;obtain⟨x,q,s,p,rfl,_⟩:=aH k;exact vf (λ_=>rfl) h
 |Ea i g f e=>have k:gg S (.Ea i g f e) v=true:=k;have h:=bV d R _ v k;obtain⟨o,x,D,s,p,rfl,_⟩:=t7 k;exact vf (λ_=>rfl) h
 |call f e=>have k:gg S (.call f e) v=true:=k;have h:=bV d R _ v k;obtain⟨x,q,s,p,rfl,_⟩:=aH k;exact vf (λ_=>rfl) h
 |pop i=>exact ff k
 |bin op a b=>exact ff k
 |blt b e=>exact ff k
 |ix a b=>exact ff k
 |and e=>exact ff k
 |_=>exact fall rfl rfl k
theorem yc{S:SE}{X:Cx}(d:XOk S Φ Ψ G X)(R:Addr->Prop){pos:Pos}:∀(g:List CE)(c:List Expr),xY S g c=true->Vh X S.M R (.BoolOp .And c pos) (wB Φ G R g)
 |[],c,k=>by cases k
 |[a],c,k=>by obtain⟨e,rfl,k⟩:=eU k;exact Gj (qI d R a e k)
 |a::b::f,c,k=>by
  cases c with
  |nil=>exact ff k
  |cons e c=>
   have k:qE S a e=true/\xY S (b::f) c=true:=a2 k;have h:=yc d R (pos:=pos) (b::f) c k.2;cases c with
   |nil=>cases f<;>exact ff k.2
   |cons i c=>exact JR (qI d R a e k.1) h
theorem yd{S:SE}{X:Cx}(d:XOk S Φ Ψ G X)(R:Addr->Prop)(c:CE)(v:Expr)(k:GB S c v=true):HV X S.M R v (wP Φ G R c):=by
 cases c with
 |and e=>have k:T9 (λo b=>decide (o=.And)&&xY S e b) v=true:=k;obtain⟨o,b,p,rfl,a⟩:=lZ k;rw[AN]at a;have f:=Bi a.1;subst f;exact PW.pt (yc d R e b a.2)
 |_=>exact qI d R _ v k
theorem Qi(c:CE){a b:List CS}(j:ic Φ Ψ G a)(i:ic Φ Ψ G b):ek Φ Ψ G (.Te c a b):=by intro S X m d l k;obtain⟨t,x,y,q,rfl,e⟩:=x9 k;simp only[AN]at e;obtain⟨⟨h,g⟩,f⟩:=e;exact OV (tt:=λR=>wP Φ G R c) (λR=>yd d.toXOk R c t h) (j d x g) (i d y f)
theorem Qj(c:CE){b:List CS}(e:ic Φ Ψ G b):ek Φ Ψ G (.Ro c b):=by intro S X m d f k;obtain⟨t,x,q,rfl,a⟩:=ya k;simp only[AN]at a;exact OW (yd d.kC.toXOk _ c t a.1) (e d.kC x a.2)
theorem Qk(i:Nat)(e:CE):ek Φ Ψ G (.Rp i e):=by intro S X m g p k;obtain⟨o,r,u,v,t,q,rfl,c⟩:=l8 k;simp only[AN]at c;obtain⟨⟨⟨⟨⟨a,j⟩,h⟩,f⟩,s⟩,d⟩:=c;have a:=Bi a;subst a;have b:=aE (BK d) [] X.env;refine OX (tt:=λR=>wP Φ G R e) (λ{n} l=>?_) (lY h) λR=>bV g.toXOk R e v d;exact jH (AQ UV eI eD gX (dh g.toXOk f) (aj l aQ b) (mh f _ _) (by rw[b];rfl) j b rfl) rfl
theorem KH{S:SE}{i n:Nat}{x:Str}(h:P4 S i n x=true):∃b a,(i,.o b a)∈S.M/\b[n]?=some x/\a[n]?=some .s:=by
 unfold P4 at h;split at h
 ·rename_i b a hl
  rw[AN]at h;obtain⟨d,c⟩:=h;split at c
  ·rename_i k hk
   have:k=.s:=by cases k<;>first|rfl|exact ff c
   subst this;exact⟨b,a,jj hl,IH.mp d,hk⟩
  ·cases c
 ·cases h
theorem Ql(i n:Nat)(e:CE):ek Φ Ψ G (.C5 i n e):=by intro S X m b t k;obtain⟨o,x,p,v,q,rfl,a⟩:=Du k;simp only[AN]at a;obtain⟨⟨f,d⟩,c⟩:=a;obtain⟨w,u,l,j,h⟩:=KH f;exact O9 (te:=λR=>wE Φ G R e) (λ{r} g=>gv (dh b.toXOk d) g (by cases v<;>rfl)) l j h λR=>(snd Φ Ψ G e).s b.toXOk c R
theorem Qm(i:Nat)(π:List kM)(e:CE):ek Φ Ψ G (.Tc i π e):=by
 intro S X m h w k;obtain⟨o,x,A,v,z,q,rfl,c⟩:=l8 k;simp only[AN]at c;obtain⟨⟨⟨a,l⟩,g⟩,d⟩:=c;have a:=Bi a;subst a;have b:=aE (aT (.inl d)) [] X.env;obtain⟨y,k,r,p,t,j⟩:=vn h.toXOk g;have:k=.f:=by cases k<;>first|rfl|exact ff t
 subst this;refine OH (te:=λR=>wE Φ G R e) (λ{u} n=>?_) r p λR=>(snd Φ Ψ G e).s h.toXOk d R;exact jH (AQ UV eI eD gX j (aj n aQ b) (by rcases(cZ g).2 with⟨_,_,_,rfl⟩|⟨_,_,_,_,_,rfl⟩<;>rfl) (by rw[b];rfl) l b rfl) rfl
theorem Qn(i:Nat)(π:List kM):ek Φ Ψ G (.Td i π):=by
 intro S X m l n k;obtain⟨o,p,t,s,q,rfl,b⟩:=Ds k;simp only[AN]at b;obtain⟨⟨a,e⟩,c⟩:=b;have a:=Bi a;subst a;obtain⟨r,k,h,g,j,d⟩:=vn l.toXOk c;have:k=.f:=by cases k<;>first|rfl|exact ff j
 subst this;exact OI (jH (zx UV PySem.F.slot_list_clear PySem.F.type_list_clear EO d (by rcases(cZ c).2 with⟨_,_,_,rfl⟩|⟨_,_,_,_,_,rfl⟩<;>rfl) e) rfl) h g
theorem Qo:ek Φ Ψ G .brk:=by
 intro S X m b a k;cases a with
 |Break _=>exact OD
 |_=>exact ff k
theorem GN(g:Nat)(e:CE):ek Φ Ψ G (.raise g e):=by
 intro S X m b E k;obtain⟨x,F,v,L,q,rfl,l⟩:=Aa k;simp only[AN]at l;obtain⟨⟨f,p⟩,n⟩:=l;have f:=IH.mp f;show VS X S.M m _ (λD i=>match G g with|.cls C=>wE Φ G D.ex e i λ_=>D.ex C|_=>False);obtain⟨u,z,t,r,a⟩:=b.HW g x f;obtain⟨y,w,J⟩:=bz b.toXOk p;by_cases o:∃C,G g=.cls C
 ·obtain⟨C,c⟩:=o;rw[c]at a⊢;have hz:=a (λ_=>False) (λ_=>none);rw[Rep]at hz;subst hz;cases r;exact GI (te:=λR=>wE Φ G R e) b.calm y t (b.My g x C f c) (λR=>(snd Φ Ψ G e).s b.toXOk n R) (aE (aT (.inl n)) [] X.env) w
 ·rintro j s B H D I ⟨A,N,i,d,S,K,hz,h,_⟩;cases c:G g<;>rw[c]at h<;>first|exact h.elim|exact(o ⟨_,c⟩).elim
theorem Ur(c:CE){a b:List CS}(l:ic Φ Ψ G a)(j:ic Φ Ψ G b):ek Φ Ψ G (.iff c a b):=by intro S X m d n k;obtain⟨t,x,y,q,rfl,e⟩:=x9 k;simp only[AN]at e;obtain⟨⟨⟨i,h⟩,g⟩,f⟩:=e;exact TU (tc:=λR=>wE Φ G R c) (λR=>(snd Φ Ψ G c).t d.toXOk t i h R) (l d x g) (j d y f)
theorem Qp(c:CE){b:List CS}(h:ic Φ Ψ G b):ek Φ Ψ G (.Eb c b):=by intro S X m d i k;obtain⟨t,x,q,rfl,a⟩:=ya k;simp only[AN]at a;obtain⟨⟨g,f⟩,e⟩:=a;exact ON ((snd Φ Ψ G c).t d.kC.toXOk t g f _) (h d.kC x e)
theorem Qq(h:List Nat)(one:Bool)(e:CE){b:List CS}(t:ic Φ Ψ G b):ek Φ Ψ G (.fr h one e b):=by
 intro S X m c u k;obtain⟨f,i,x,q,rfl,a⟩:=GH k;unfold Yj at a;split at a;rotate_left
 ·cases a
 rename_i o xs PM
 simp only[AN]at a;obtain⟨⟨⟨⟨⟨⟨d,s⟩,r⟩,n⟩,g⟩,l⟩,j⟩:=a;have d:=IH.mp d;subst d;refine OO (ti:=λR=>wE Φ G R e) c.calm (vv r) ((snd Φ Ψ G e).i c.kC.toXOk f false i (by rw[l];rfl) (λz=>?_) _) (PL (X:=X.kC) c.calm c.kC.nd PM (pH c.kC s)) (t c.kC x j) (xX n _);have:one=false:=by rw[z]at g;simpa using g
 subst this;cases f with
 |Tuple v a p=>exact⟨_,_,_,rfl⟩
 |Name y p=>cases PM
 |_=>exact nn PM
theorem KI:ic Φ Ψ G []:=by intro S X m b a k;rw[GT.mp k];exact JJ
noncomputable def Mz(Φ:Nat->bN)(Ψ:Nat->Md)(G:Nat->W):CS->Prop
 |.Mb _ b=>ic Φ Ψ G b
 |_=>True
theorem KJ{S:SE}{m:Md}{s:CS}{a:List CS}{st:List Stmt}(k:aM S Ψ m (s::a) st=true):(∃c b,s=.Mb c b/\(a.isEmpty&&(!iU m||!c.contains 0)&&aM (S.lend c) Ψ m b st)=true)\/GA (λe=>GC S Ψ m s e) (λd=>aM S Ψ m a d) st=true:=by
 cases s<;>first|exact .inr k|exact .inl ⟨_,_,rfl,k⟩
theorem GO{s:CS}{c:List CS}(h:ek Φ Ψ G s/\Mz Φ Ψ G s)(v:ic Φ Ψ G c):ic Φ Ψ G (s::c):=by
 intro S X m a d k;rcases KJ k with⟨u,b,rfl,o⟩|k
 ·obtain⟨n,p⟩:=a2 o;obtain⟨l,f⟩:=a2 n;cases GT.mp l;have q:iU m=true->aU S.M 0->aU (S.lend u).M 0:=by rintro e ⟨g,A⟩;rw[e]at f;exact⟨g,SZ.mpr ⟨A,f⟩⟩
  have w:ic Φ Ψ G b:=h.2;exact JL (w (a.pG _ λi m j y x=>a.Kg i m j (jl _ y) (jl _ x)) d p) jl q
 have h:ek Φ Ψ G s:=h.1;cases d with
 |nil=>exact ff k
 |cons e r=>
  have k:GC S Ψ m s e=true/\aM S Ψ m c r=true:=a2 k;cases c with
  |nil=>
   have:r=[]:=by have:=k.2;exact GT.mp this
   subst this;exact JK (h a e k.1)
  |cons t B=>have z:=Gf (h a e k.1) (v a r k.2);exact z
theorem Qt(i:Nat)(e:CE):ek Φ Ψ G (.Tg i e):=by intro S X m g p k;obtain⟨o,r,t,v,s,q,rfl,c⟩:=l8 k;simp only[AN]at c;obtain⟨⟨⟨⟨a,j⟩,h⟩,f⟩,d⟩:=c;have a:=Bi a;subst a;have b:=aE (aT (.inl d)) [] X.env;refine OL (te:=λR=>wE Φ G R e) (λ{n} l=>?_) (fy h) λR=>GL g.toXOk d R;exact jH (AQ UV eI eD gX (dh g.toXOk f) (aj l aQ b) (mh f _ _) (by rw[b];rfl) j b rfl) rfl
theorem Qu(i:Nat)(g:List CE):ek Φ Ψ G (.Tf i g):=by
 intro S X m d L k;obtain⟨x,p,v,q,rfl,o⟩:=nX k;simp only[AN]at o;obtain⟨⟨⟨⟨B,r⟩,A⟩,w⟩,y⟩:=o;obtain⟨K,N,rfl,u⟩:=qo y;have h:iU m=true->i≠0:=λz e=>by rw[z,e]at r;cases r
 have s:=fy A;have F:yY (S.less i) Φ Ψ G X:=d.pG (S.less i).M λa b c I H=>d.Kg a b c (SZ.mp I).1 (SZ.mp H).1;have n:=qF d B;have D:∀x∈g.map (mo Ψ),x=Md.f:=λx C=>by obtain⟨a,E,rfl⟩:=KE.mp C;exact kO (HI.mp w a E)
 exact yb (M':=(S.less i).M) (te:=λR t Q=>wA Φ G R g t λl=>l.length<=sizeLine/\Q (.lst l)) (λR=>jf d.nd n.1 n.2.1 (Kw (Ab F.toXOk g K u R) D) rfl n.2.2) (λj=>xZ s (λO J=>d.Kg i _ _ J s)) x6 h
theorem Qv:ek Φ Ψ G .zT:=by rintro S X m g e k a s b H D I ⟨A,j,c,d,S,i,hz,h,f⟩;exact False.elim h
variable(Φ Ψ G)
mutual
theorem Us:∀s:CS,ek Φ Ψ G s/\Mz Φ Ψ G s
 |.set i e=>⟨P7 i e,trivial⟩
 |.zS d e=>⟨P8 d e,trivial⟩
 |.par d h=>⟨Qa d h,trivial⟩
 |.app i e=>⟨Qc i e,trivial⟩
 |.put i k e=>⟨Qd i k e,trivial⟩
 |.drop i=>⟨KD i,trivial⟩
 |.sF j e=>⟨KG j e,trivial⟩
 |.ret e=>⟨Qg e,trivial⟩
 |.iff c a b=>⟨Ur c (jn a) (jn b),trivial⟩
 |.Eb c b=>⟨Qp c (jn b),trivial⟩
 |.fr d one f b=>⟨Qq d one f (jn b),trivial⟩
 |.brk=>⟨Qo,trivial⟩
 |.raise g e=>⟨GN g e,trivial⟩
 |.Tc i π e=>⟨Qm i π e,trivial⟩
 |.C5 i n e=>⟨Ql i n e,trivial⟩
 |.Td i π=>⟨Qn i π,trivial⟩
 |.HU e=>⟨Qh e,trivial⟩
 |.Te c a b=>⟨Qi c (jn a) (jn b),trivial⟩
 |.Ro c b=>⟨Qj c (jn b),trivial⟩
 |.Rp i e=>⟨Qk i e,trivial⟩
 |.zT=>⟨Qv,trivial⟩
 |.Tf i l=>⟨Qu i l,trivial⟩
 |.Tg i e=>⟨Qt i e,trivial⟩
 |.Mb m b=>⟨λ_ _ k=>(by cases k),jn b⟩
theorem jn:∀a:List CS,ic Φ Ψ G a
 |[]=>KI
 |s::a=>GO (Us s) (jn a)
end
end
structure Tab(P:Program)(w:World)(K:Frag)(mg:Str->Option Value)(base:Heap)(fn gn zn:List Str)(md:List Md)(mt:List (Nat×Nat))(Φ:Nat->bN)(G:Nat->W)(k:Nat):Prop where
 fns:∀(j:Nat)(x:Str),fn[j]?=some x->mt.any (·.1==j)=false->∃fv n k',mg x=some fv/\cG P w K mg base k' fv n (gA K n (bE md j) (Φ j))/\k'<=k/\∀ws P R,Φ j ws P R->ws.length=n
 J3:∀(j g:Nat)(x:Str),fn[j]?=some x->(j,g)∈mt->∃f fd ps n k',(∀C,G g=.cls C->Meth K C x f)/\Binds K fd ps []/\aR P w K mg base (dP P w) k' f fd ps (gA K n (bE md j) (Φ j))/\k'<=k/\∀ws P R,Φ j ws P R->ws.length=n
 HW:∀(j:Nat)(x:Str),gn[j]?=some x->∃u v,mg x=some u/\RelV v u/\∀B H,Rep K B H (G j) v
 yW:∀x∈zn,mg x=none
 kit:xK K
 My:∀j x C,gn[j]?=some x->G j=.cls C->uH K C
noncomputable def aA(n:Nat)(a:List W):Ev:=a.map some++List.replicate (n -a.length) none
noncomputable def fall:Md->(W->Prop)->Ev->Prop
 |.s,P,_=>P .aS
 |.io _,P,a=>match look a 0 with
  |some b=>P (.tup [.aS,b])
  |none=>False
 |_,_,_=>False
section
variable{K:Frag}{A:Addr->Prop}{H:Hp}{N:List Str}{ws:List W}{vs:List V}{M:Ms}
theorem kQ{i:Nat}{w:W}(a:ws.length<=i)(e:look (aA N.length ws) i=some w):False:=by
 rw[bu]at e;unfold aA at e;rw[Ha (by simp;omega),eQ]at e;split at e
 ·cases e
 ·cases e
theorem ua{i:Nat}{w:W}(h:ai K A H ws vs)(e:look (aA N.length ws) i=some w):∃v,(start N vs)[i]?=some (some v)/\Rep K A H w v:=by
 have f:=h.len;by_cases a:i<ws.length
 ·rw[bu]at e;unfold aA at e;rw[IR (by simpa using a),FM]at e;obtain⟨d,c,b⟩:=N0.mp e;cases b;obtain⟨v,b,r⟩:=h.get c;refine⟨v,?_,r⟩;unfold L2.start;rw[IR (by simp;lia),FM,b];rfl
 ·exact(kQ (by lia) e).elim
theorem ye(h:ai K A H ws vs)(d:Dom A H)(g:∀i m,(i,m)∈M->ws.length<=i)(b:∀i m a,(i,m)∈M->(i,a)∈M->m=a):SR K M ⟨A,A,none⟩ H (start N vs) H (aA N.length ws):=by have f:=h.len;refine⟨by simp[L2.start,aA,f],λi w k e=>ua h e,aq.refl _,d,(λv e=>by cases e),λ_=>[],⟨b,λi m w c e=>(kQ (g i m c) e).elim,λ_ _ _=>rfl,λ_ _=>ik,(λi j p _ _ z=>by cases z),(λi p _ z=>by cases z),(λi p _ z=>by cases z),λp=>⟨.inl,λz=>z.elim id<|by rintro⟨_,_,z⟩;cases z⟩⟩⟩
open Classical in
noncomputable def era(F:List Addr)(H:Hp):Hp:=λp=>if p∈F then none else H p
theorem GP{F:List Addr}{p:Addr}{o:HO}(h:era F H p=some o):p∉F/\H p=some o:=by
 unfold era at h;split at h
 ·cases h
 ·exact⟨by assumption,h⟩
theorem GQ{F:List Addr}{p:Addr}(h:era F H p=none):p∈F\/H p=none:=by
 unfold era at h;split at h
 ·exact .inl (by assumption)
 ·exact .inr h
theorem Qw{F:List Addr}{p:Addr}(h:p∈F):era F H p=none:=by unfold era;rw[Bz h]
theorem KL{F:List Addr}{p:Addr}(h:p∉F):era F H p=H p:=by unfold era;rw[BM h]
theorem GR{F:List Addr}{k:W}{l:V}{q:Md}(E:F.Nodup)(G:∀p∈F,¬A p)(d:Dom A H)(P:Fp K (λp=>A p\/p∈F) H q k l F)(h:ai K (λp=>A p\/p∈F) H ws vs)
 (s:(0,q)∈M)(O:∀i m,(i,m)∈M->i=0\/ws.length+1<=i)(y:∀i m B,(i,m)∈M->(i,B)∈M->m=B)(L:0<N.length):
 SR K M ⟨A,λp=>A p\/p∈F,some l⟩ (era F H) (start N (l::vs)) H (aA N.length (k::ws)):=by
 have I:=h.len;have D:look (aA N.length (k::ws)) 0=some k:=rfl;have C:(start N (l::vs))[0]?=some (some l):=rfl;have u:∀i,aU M i->i≠0->∀w,look (aA N.length (k::ws)) i=some w->False:=λi ⟨m,r⟩ n w e=>kQ (by rcases O i m r with z|z;exact(n z).elim;simpa using z) e;refine⟨by simp[L2.start,aA,I],λi w g e=>?_,λp o e=>(GP e).2,d,λv e=>?_,λi=>if i=0 then F else[],⟨y,λi m w r e=>?_,λi g e=>?_,λi g=>?_,λi j p g R a b=>?_,λi p g c=>?_,λi p g c=>?_,λp=>?_⟩⟩
 ·cases i with
  |zero=>exact(g ⟨q,s⟩).elim
  |succ i=>
   have Q:look (ws.map some++List.replicate (N.length -(k::ws).length) none) i=some w:=e;have:look (aA (N.length -1) ws) i=some w:=by unfold aA;rw[show N.length -1 -ws.length=N.length -(k::ws).length by simp;lia];exact Q
   cases N with
   |nil=>cases L
   |cons x N=>obtain⟨v,f,t⟩:=ua (N:=N) h this;refine⟨v,?_,t⟩;unfold L2.start at f⊢;rw[QP,List.cons_append,List.getElem?_cons_succ,show(x::N).length -(l::vs).length=N.length -vs.length by simp];exact f
 ·cases e;exact⟨C,q,s⟩
 ·rcases cb i with rfl|g
  ·have:=y 0 m q r s;subst this;rw[D]at e;cases e;exact⟨l,C,by rw[Bz rfl];exact P⟩
  ·exact(u i ⟨m,r⟩ (by lia) w e).elim
 ·rcases cb i with rfl|J
  ·rw[D]at e;cases e
  ·rw[BM (by lia)]
 ·split
  ·exact E
  ·exact ik
 ·by_cases f:i=0
  ·by_cases t:j=0
   ·rw[f,t]
   ·rw[BM t]at b;cases b
  ·rw[BM f]at a;cases a
 ·by_cases f:i=0
  ·rw[Bz f]at c;exact Qw c
  ·rw[BM f]at c;cases c
 ·by_cases f:i=0
  ·rw[Bz f]at c;exact G p c
  ·rw[BM f]at c;cases c
 ·constructor
  ·rintro(z|z)
   ·exact .inl z
   ·exact .inr ⟨0,⟨q,s⟩,by rw[Bz rfl];exact z⟩
  ·rintro(z|⟨i,g,c⟩)
   ·exact .inl z
   ·by_cases f:i=0
    ·rw[Bz f]at c;exact .inr c
    ·rw[BM f]at c;cases c
end
theorem MB{M:Ms}(h:(M.map (·.1)).Nodup):∀i m c,(i,m)∈M->(i,c)∈M->m=c:=by
 induction M with
 |nil=>intro i m c a;cases a
 |cons x M d=>
  obtain⟨j,k⟩:=x;rw[QP,Kt]at h;intro i m c a b;rcases Fk.mp a with a|a
  ·rcases Fk.mp b with b|b
   ·cases a;cases b;rfl
   ·cases a;exact(h.1 (KE.mpr ⟨_,b,rfl⟩)).elim
  ·rcases Fk.mp b with b|b
   ·cases b;exact(h.1 (KE.mpr ⟨_,a,rfl⟩)).elim
   ·exact d h.2 i m c a b
section
variable{P:Program}{w:World}{K:Frag}{mg:Str->Option Value}{base:Heap}{x qual:Str}{st:Stmt}{f:Addr}{fd:FuncData}{N ps:List Str}{k:Nat}{fn gn zn:List Str}{md:List Md}{mt:List (Nat×Nat)}{Φ:Nat->bN}{G:Nat->W}
theorem Ad{M:Ms}{b:Value}{A:Around}{a:List Env}{s:Shared}{H:Hp}{E:XK}(t:aD N ps (aa st))(T:Tab P w K mg base fn gn zn md mt Φ G k)(q:cC k (lu P w K mg base N qual (aa st) f b A a s H E).A)(un:∀i m r,(i,m)∈M->(i,r)∈M->m=r):
 yY ⟨N,(aa st).names,M,fn,gn,zn,md,mt⟩ Φ (bE md) G (lu P w K mg base N qual (aa st) f b A a s H E):=
 {hN:=rfl,nd:=t.nd,calm:=rfl,un:=q.units,nk:=λ_=>rfl,
  fns:=λj x e h=>by obtain⟨v,n,p,o,l,d,c⟩:=T.fns j x e h;exact⟨v,n,p,o,l,q.mono d,c⟩
  J3:=λj g x e h=>by obtain⟨f,fd,ps,n,p,o,l,d,c,u⟩:=T.J3 j g x e h;exact⟨f,fd,ps,n,p,o,l,d,q.mono c,u⟩
  Di:=rfl,HW:=T.HW,yW:=T.yW,kit:=T.kit,
  bk:=by show(if(aa st).kind.isAnnotationScope then ScopeKind.function else(aa st).kind)=_;rw[t.kind];rfl
  Rw:=λ_=>rfl,My:=T.My,Kg:=un}
theorem aZ(F:CH K x qual st f fd)(O:aD N ps (aa st))(T:Tab P w K mg base fn gn zn md mt Φ G k)(b:List CS)(M:Ms)(m:Md)(t:bN)(hM:M.all (λi=>decide (ps.length<=i.1))=true)(hu:(M.map (·.1)).Nodup)(d:iU m=false)
 (g:aM ⟨N,(aa st).names,M,fn,gn,zn,md,mt⟩ (bE md) m b (ak st)=true)(B:∀c P R,t c P R->c.length=ps.length)
 (hp:∀c P R,t c P R->wSs Φ G b ⟨fall m P,P,λ_=>False,λ_=>False,R⟩ (aA N.length c)):aR P w K mg base (dP P w) (k+1) f fd ps (Mh K ps.length m t):=by
 refine CH.U6 F O (by rintro vs H Q E ⟨A,c,P,R,p,o,_⟩;rw[o.len,p]) λcdv A n s H vs Q E hr hz=>?_;obtain⟨U,c,u,R,p,o,h3,h4,L,J⟩:=hz;have y:=MB hu;refine⟨_,jn Φ (bE md) G b (Ad O T hr y) (ak st) g,⟨U,U,none⟩,H,aA N.length c,⟨fall m u,u,λ_=>False,λ_=>False,R⟩,ye o h3 (λi m hi=>?_) y,⟨E,E2,λC j rc l=>J C j rc l,λe Y S s1 h' a C h I hx q=>uI e Y S s1 h' a C h I hx (J C S q.1 q.2)⟩,(by rw[d];rfl),hp c u R h4,⟨λA' Z X j ea eb D S'=>?_,λw v j hw l r=>?_,λ_ _ _ _ _ _ z=>z.elim,λ_ _ _ _ _ _ z=>z.elim⟩⟩
 ·rw[p];exact Bi (HI.mp hM (i,m) hi)
 ·cases m with
  |s=>exact L .aS .aS j D S'.sm (.of (by rw[Rep]))
  |io _=>cases d
  |_=>exact D.elim
 ·cases m with
  |io _=>cases d
  |_=>exact L w v j hw l r
theorem vA(F:CH K x qual st f fd)(Sc:aD N ps (aa st))(T:Tab P w K mg base fn gn zn md mt Φ G k)(b:List CS)(M:Ms)(j:Md)(Sf:bN)(hM:M.all (λi=>i.1==0||decide (ps.length<=i.1))=true)(hu:(M.map (·.1)).Nodup)(U:hasB M 0 j=true)(hN:0<N.length)
 (J:aM ⟨N,(aa st).names,M,fn,gn,zn,md,mt⟩ (bE md) (.io j) b (ak st)=true)(hlen:∀h P R,Sf h P R->h.length=ps.length)
 (D:∀h P R,Sf h P R->wSs Φ G b ⟨fall (.io j) P,P,λ_=>False,λ_=>False,R⟩ (aA N.length h)):aR P w K mg base (dP P w) (k+1) f fd ps (Mi K ps.length j Sf):=by
 refine CH.U6 F Sc (by rintro vs H Q E ⟨ab,F,O,v0,h,vs',P,R,e,h1,_,_,_,_,h2,_⟩;rw[e,List.length_cons,h2.len,h1]) λcdv A outer s H vs Q E hr hz=>?_;obtain⟨ab,F,O,v0,h,vs',P0,R,e,h1,nd,na,d,fp,h2,h4,h5,h6⟩:=hz;subst e;have un:=MB hu;have U:=fy U;have Y:∀{c},aq (era F H) c->wm (·∈F) H c:=λ{c} t p o e=>by
  by_cases zY:p∈F
  ·obtain⟨o',e',hm⟩:=Fp.mu j fp p zY;rw[e]at e';cases e';exact .inl ⟨hm,zY⟩
  ·exact .inr (t p o (by rw[KL zY];exact e))
 refine⟨_,jn Φ (bE md) G b (Ad Sc T hr un) (ak st) J,⟨ab,λp=>ab p\/p∈F,some v0⟩,era F H,aA N.length (O::h),⟨fall (.io j) P0,P0,λ_=>False,λ_=>False,R⟩,GR nd na d fp h2 U (λi m hi=>?_) un hN,⟨E,E2,λC c rc t=>h6 C c rc (Y t),λu σ H1 s1 h' a C L I hx q=>uI u σ H1 s1 h' a C L I hx (h6 C H1 q.1 (Y q.2))⟩,rfl,D _ P0 R h4,⟨λA' n σ' c ea eb l S'=>?_,λw v c hw t r=>?_,λ_ _ _ _ _ _ z=>z.elim,λ_ _ _ _ _ _ z=>z.elim⟩⟩
 ·have:=HI.mp hM (i,m) hi;rw[mM]at this;rcases this with z|z
  ·exact .inl (IH.mp z)
  ·exact .inr (by rw[h1];exact Bi z)
 ·have l:(match look n 0 with|some O=>P0 (.tup [.aS,O])|none=>False):=l;cases hl:look n 0 with
  |none=>rw[hl]at l;exact l.elim
  |some y=>rw[hl]at l;obtain⟨wr,y',Z2,F',e1,X,WU,Z,g,S⟩:=ve (v:=.aS) S' U hl ⟨v0,eb⟩ (by rw[Rep]:Rep K A'.B c .aS .aS);cases e1;rw[eb]at X;cases X;rw[ea]at g S Z;exact h5 .aS y .aS F' c l (Y S'.sm) WU (λp D=>GQ (Z p D).1) g S
 ·obtain⟨wr,y,Z2,F',rfl,X,WU,Z,g,S⟩:=r;cases X;exact h5 wr y v F' c hw (Y t) WU (λp D=>GQ (Z p D).1) g S
end
end VL
namespace L2
open PySem PySem.Spec PyProof.Rows
abbrev rv(as:List (Addr×Rat)):List V:=as.map λx=>V.ref x.1
section
variable{X:Cx}{H:Hp}
end
theorem jL{α:Type}{a:List α}{x:α}(h:a.getLast?=some x):kZ a (-1)=some x:=by
 have c:a≠[]:=by intro z;rw[z]at h;cases h
 have b:0<a.length:=ag.mpr c;unfold kZ;have e:wj a.length (-1)=some (a.length -1):=by unfold wj;rw[BM (by decide),Bz (by lia)];congr 1;lia
 rw[e];show a[a.length -1]?=_;rw[←h,P2]
end L2
namespace VL
open PySem PySem.Spec
open PyProof.Rows hiding St
open L2
noncomputable def wq(r:Rat):W:=.tup [.int r.num,.int r.den]
noncomputable def af(a:List Rat):W:=.lst (a.map wq)
section
variable{K:Frag}{A:Addr->Prop}{H H':Hp}{v:V}{p:Addr}{r:Rat}{rs:List Rat}
end
noncomputable def c9:List bN->Nat->bN
 |[],_=>λ_ _ _=>False
 |x::_,0=>x
 |_::l,n+1=>c9 l n
noncomputable def pK:List W->Nat->W
 |[],_=>.aS
 |x::_,0=>x
 |_::l,n+1=>pK l n
section
variable{Q:W->Prop}{l a b:List W}{i j:Int}{x y:Str}{p q:Bool}
theorem x_len:sf .len [.lst l] Q=Q (.int l.length):=rfl
theorem Eh{ns:List Int}:sf .len [.gx ns] Q=Q (.int ns.length):=rfl
theorem Eg:sf .len [.tup l] Q=Q (.int l.length):=rfl
theorem Ln:sf .abs [.int i] Q=Q (.int (if i<0 then-i else i)):=rfl
theorem Lo:sf .max2 [.int i,.int j] Q=Q (.int (if j>i then j else i)):=rfl
theorem Lp:sf .min2 [.int i,.int j] Q=Q (.int (if j<i then j else i)):=rfl
theorem Ei:sf .list [.lst l] Q=Q (.lst l):=rfl
theorem Aw:sf .list [.tup l] Q=Q (.lst l):=rfl
theorem Ax:sf .tuple [.lst l] Q=Q (.tup l):=rfl
theorem wC:sf .tuple [.tup l] Q=Q (.tup l):=rfl
theorem Ut:sf .Rn [.int i,.int j] Q=((0<j/\j<1073741824)/\Q (.tup [.int (i/j),.int (i%j)])):=rfl
theorem Lq:sf .int [.bl p] Q=Q (.int (if p then 1 else 0)):=rfl
theorem Lr:g8 .Add (.int i) (.int j) Q=Q (.int (i+j)):=rfl
theorem Ls:g8 .Add (.lst a) (.lst b) Q=(a.length+b.length<=sizeLine/\Q (.lst (a++b))):=rfl
theorem Lu:g8 .Sub (.int i) (.int j) Q=Q (.int (i -j)):=rfl
theorem Lv:g8 .Mult (.int i) (.int j) Q=(IntMulOk i j/\Q (.int (i*j))):=rfl
theorem Lw:g8 .Mult (.lst a) (.int j) Q=(-(2^63)<=j/\j<2^63/\a.length*j.toNat<=sizeLine/\Q (.lst (List.replicate j.toNat a).flatten)):=rfl
theorem Ej:g8 .FloorDiv (.int i) (.int j) Q=(tN i j/\Q (.int (i.fdiv j))):=rfl
theorem Lx:g8 .Mod (.int i) (.int j) Q=(j≠0/\Q (.int (i.fmod j))):=rfl
theorem Ly:g8 .Pow (.int i) (.int j) Q=(Cu i j/\Q (.int (i^j.toNat))):=rfl
theorem Lz:g8 .RShift (.int i) (.int j) Q=(0<=j/\Q (.int (i/2^j.toNat))):=rfl
theorem Rz:eT .Eq (.int i) (.int j) Q=Q (.bl (decide (i=j))):=rfl
theorem RA:eT .NotEq (.int i) (.int j) Q=Q (.bl (!decide (i=j))):=rfl
theorem x_lt:eT .Lt (.int i) (.int j) Q=Q (.bl (decide (i<j))):=rfl
theorem RB:eT .LtE (.int i) (.int j) Q=Q (.bl (decide (i<=j))):=rfl
theorem RC:eT .Gt (.int i) (.int j) Q=Q (.bl (decide (j<i))):=rfl
theorem RD:eT .GtE (.int i) (.int j) Q=Q (.bl (decide (j<=i))):=rfl
theorem Uu:eT .Eq (.lst a) (.lst b) Q=(((eY 9 (.lst a)=true/\eY 9 (.lst b)=true)\/(iJ 9 (.lst a)=true/\iJ 9 (.lst b)=true))/\∀k:Bool,(k=true↔W.lst a=.lst b)->Q (.bl k)):=rfl
theorem Uv:eT .NotEq (.lst a) (.lst b) Q=(((eY 9 (.lst a)=true/\eY 9 (.lst b)=true)\/(iJ 9 (.lst a)=true/\iJ 9 (.lst b)=true))/\∀k:Bool,(k=true↔W.lst a=.lst b)->Q (.bl (!k))):=rfl
theorem uz{Q:Bool->Prop}:truth (.bl p) Q=Q p:=rfl
theorem RE:N3 (.lst l) (.int i) Q=∃w,kZ l i=some w/\Q w:=rfl
theorem LB{ns:List Int}:N3 (.gx ns) (.int i) Q=∃n,kZ ns i=some n/\Q (.int n):=rfl
theorem LC{ns:List Int}{c d:Option Int}:Ve (.gx ns) c d Q=Q (.lst (nK (ns.map W.int) c d)):=rfl
theorem LA:N3 (.tup l) (.int i) Q=∃w,kZ l i=some w/\Q w:=rfl
theorem RG{c d:Option Int}:Ve (.lst l) c d Q=Q (.lst (nK l c d)):=rfl
theorem LD{w:W}{Q:Option Int->Prop}:Jo .aS w Q=Q none:=rfl
theorem LF{n:Int}{Q:Option Int->Prop}:Jo (.int n) (.int i) Q=Q (some i):=rfl
theorem LG{n:Nat}{Q:Option Int->Prop}:Jo (.var n) (.int i) Q=Q (some i):=rfl
theorem LH{o:Operator}{c d:CE}{Q:Option Int->Prop}:Jo (.bin o c d) (.int i) Q=Q (some i):=rfl
theorem Ay{Q:List W->Prop}:items (.lst l) Q=Q l:=rfl
theorem wD{Q:List W->Prop}:items (.tup l) Q=Q l:=rfl
theorem RH{n:Nat}{w:W}{c:Ev}{Q:Ev->Prop}:wT true [n] w c Q=Q (c.set n (some w)):=rfl
theorem RI{c:List Nat}{d:Ev}{Q:Ev->Prop}:wT false c (.tup l) d Q=(l.length=c.length/\Q (b8 d c l)):=by
 cases c<;>rfl
theorem LI{i j:Nat}{c:Ev}{Q:Ev->Prop}:wT false [i,j] (.tup l) c Q=(l.length=2/\Q (b8 c [i,j] l)):=rfl
theorem LJ{i j k:Nat}{c:Ev}{Q:Ev->Prop}:wT false [i,j,k] (.tup l) c Q=(l.length=3/\Q (b8 c [i,j,k] l)):=rfl
theorem Ek{A B:Prop}:(if true=true then A else B)=A:=rfl
theorem Az{A B:Prop}:(if false=true then A else B)=B:=rfl
end
noncomputable def WN{α:Type}(S:α->Ev)(J:α->Prop)(c:α->Nat)(s:α):Ev->Prop:=λa=>∃b,a=S b/\J b/\c b<c s
noncomputable def Vl{α:Type}(S:α->Ev)(J:α->Prop)(d:α->Nat)(b:Dn->Ev->Prop)(D:Dn)(s:α)(k:Bool):Prop:=
 if k=true then∃N:Ev->Prop,(∀a,N a->∃e,e<d s/\∃c,a=S c/\e=d c/\J c)/\b {nx:=N,rt:=D.rt,bk:=D.nx,ct:=N,ex:=λ_=>False} (S s)else D.nx (S s)
theorem gE{α:Type}{S:α->Ev}{J:α->Prop}{a:α->Nat}{b:Dn->Ev->Prop}{D:Dn}{s:α}{k:Bool}(g:k=true->b {nx:=WN S J a s,rt:=D.rt,bk:=D.nx,ct:=WN S J a s,ex:=λ_=>False} (S s))(f:k=false->D.nx (S s)):Vl S J a b D s k:=by
 unfold Vl;cases k with
 |true=>exact⟨_,by rintro c ⟨d,e,j,l⟩;exact⟨_,l,d,e,rfl,j⟩,g rfl⟩
 |false=>exact f rfl
theorem kR{c:Ev->(Bool->Prop)->Prop}{b:Dn->Ev->Prop}{D:Dn}{a:Ev}{α:Type}(S:α->Ev)(J:α->Prop)(e:α->Nat)(d:α)(h:a=S d)(g:J d)(f:∀s,J s->c (S s) (Vl S J e b D s)):Jp c b D a:=by refine⟨λm a=>∃s,a=S s/\m=e s/\J s,⟨_,d,h,rfl,g⟩,?_⟩;rintro m _ ⟨s,rfl,rfl,j⟩;exact f s j
theorem cu{α:Type}{f:W->(Option W->Prop)->Prop}{h g:α->W}:∀(b:List α)(a:List W)(Q:List W->Prop),(∀x∈b,∀K:Option W->Prop,K (some (g x))->f (h x) K)->a.length+b.length<=sizeLine->Q (a++b.map g)->oQ f (b.map h) a Q
 |[],a,Q,_,_,q=>by rw[List.map_nil,oQ];simpa using q
 |w::b,a,Q,c,l,q=>by
  rw[QP,oQ];refine c w (FK ..) _ ⟨?_,cu b _ Q (λx d=>c x (DL _ d)) ?_ ?_⟩
  ·rw[List.length_cons]at l;lia
  ·rw[Fh,List.length_singleton];rw[List.length_cons]at l;lia
  ·rw[Kx];exact q
theorem mj{α:Type}(x:α):∀n,(List.replicate n [x]).flatten=List.replicate n x
 |0=>rfl
 |n+1=>by rw[List.replicate_succ,List.flatten_cons,mj x n];rfl
theorem mq{a:List Rat}{y:Rat}(h:a.getLast?=some y):kZ (a.map wq) (-1)=some (wq y):=jL (by rw[kS,h];rfl)
theorem au{n:Nat}(h:n<=1000):n<=sizeLine:=DD h (by decide)
theorem vB(K:Frag):xK K:=by intro a d b c;simp only[Fk,T2,ib]at d c;rcases d with rfl|rfl|rfl|rfl|rfl|rfl<;>rcases c with rfl|rfl|rfl|rfl|rfl|rfl<;>rfl
theorem vC{n:Nat}(h:n<=1000):n<sizeLine:=Fm h (by decide)
theorem vD(i:Int)(n:Nat):eY n (.int i)=true:=by
 cases n<;>rw[eY]
theorem Qx(r:Rat)(n:Nat):eY (n+1) (wq r)=true:=by unfold wq;rw[eY,List.all_cons,List.all_cons,vD,vD];rfl
theorem mw(a:List Rat)(n:Nat):eY (n+2) (.lst (a.map wq))=true:=by rw[eY,HI];intro x b;obtain⟨r,_,rfl⟩:=KE.mp b;exact Qx r n
theorem Qy{r s:Rat}(h:wq r=wq s):r=s:=by unfold wq at h;simp only[W.tup.injEq,List.cons.injEq,W.int.injEq,and_true]at h;exact Rat.ext h.1 (by have:=h.2;lia)
theorem BO{d c:List Rat}(h:W.lst (d.map wq)=.lst (c.map wq)):d=c:=by rw[W.lst.injEq]at h;exact(List.map_inj_right (λa b e=>Qy e)).mp h
theorem Ae{x y:List Rat}{Q:W->Prop}(h:∀k:Bool,(k=true↔x=y)->Q (.bl k)):eT .Eq (af x) (af y) Q:=
 ⟨.inl ⟨mw x 7,mw y 7⟩,λk a=>h k (a.trans ⟨λe=>BO e,λe=>by rw[e]⟩)⟩
theorem Af{x y:List Rat}{Q:W->Prop}(h:∀k:Bool,(k=true↔x=y)->Q (.bl (!k))):eT .NotEq (af x) (af y) Q:=
 ⟨.inl ⟨mw x 7,mw y 7⟩,λk a=>h k (a.trans ⟨λe=>BO e,λe=>by rw[e]⟩)⟩
theorem gk{k:Bool}{p:Prop}(h:k=true↔p)(q:p):k=true:=h.mpr q
theorem ig{k:Bool}{p:Prop}(h:k=true↔p)(q:¬p):k=false:=by
 cases k with
 |false=>rfl
 |true=>exact absurd (h.mp rfl) q
noncomputable def Hd(K:Frag)(x:Str)(st:Stmt):Prop:=∃(f:Addr)(d i:Option Addr)(b:Array (Option Value))(e kV g c a h:Value),
 nsIn K mainGlobals x=some (some (.ref f))/\K.lookup f=some ⟨e,d,.func (fnOf x x (cD st) (ak st) (aa st) .none kV g c i a h),b⟩/\codeIn K a x=true/\keepIn K (.ref f)=true
noncomputable def Hm(K:Frag)(C:Addr)(x q:Str)(st:Stmt):Prop:=∃(f:Addr)(d i:Option Addr)(b:Array (Option Value))(e kV g c a h:Value),
 findIn K (.ref C) x=some (some (.ref f))/\isFn K (.ref f)=true/\K.lookup f=some ⟨e,d,.func (fnOf x q (cD st) (ak st) (aa st) .none kV g c i a h),b⟩/\codeIn K a q=true/\keepIn K (.ref f)=true
structure Df(K:Frag)(mg:Str->Option Value)(x:Str)(st:Stmt)(ps:List Str)(f:Addr)(fd:FuncData):Prop where
 F:CH K x x st f fd
 m:mg x=some (.ref f)
 b:Binds K fd ps []
 bt:∀(s:Shared)(us:List Value),us.length=ps.length->BindsTo s fd ⟨us,[]⟩ (ps.zip us)
structure Dm(K:Frag)(C:Addr)(x q:Str)(st:Stmt)(ps:List Str)(f:Addr)(fd:FuncData):Prop where
 F:CH K x q st f fd
 M:Meth K C x f
 b:Binds K fd ps []
abbrev jM(x q:Str)(st:Stmt)(ps:List Str):Prop:=∀(kV doc pm:Value)(an:Option Addr)(cdv ct:Value)(us:List Value),us.length=ps.length->bindArgs (fnOf x q (cD st) (ak st) (aa st) .none kV doc pm an cdv ct) ⟨us,[]⟩=pure (ps.zip us)
theorem mz{α:Type}{l:List α}{n:Nat}(h:l.length=n+1):∃a r,l=a::r/\r.length=n:=by
 cases l with
 |nil=>cases h
 |cons a r=>exact⟨a,r,rfl,Nat.succ.inj h⟩
theorem bC{K:Frag}{h:Heap}{mg:Str->Option Value}{x:Str}{st:Stmt}{ps:List Str}(X:K.In h)(G:h.Ns mainGlobals mg)(i:Hd K x st)(b:jM x x st ps):∃f j,Df K mg x st ps f j:=by obtain⟨f,r,p,q,t,kV,m,e,o,n,a,l,c,k⟩:=i;have F:=EU (st:=st) l c k;exact⟨f,_,F,TC X G a,F.binds b,λs d g=>.of_eq (b kV m e p o n d g)⟩
theorem MC{K:Frag}{C:Addr}{x q:Str}{st:Stmt}{ps:List Str}(d:Hm K C x q st)(b:jM x q st ps):∃f e,Dm K C x q st ps f e:=by obtain⟨f,j,r,g,m,kV,n,h,p,o,a,i,l,c,k⟩:=d;have F:=EU (st:=st) l c k;exact⟨f,_,F,⟨a,i,k⟩,F.binds b⟩
structure Hc(K:Frag)(mg:Str->Option Value)(x:Str)(C:Addr)(fs:List Str):Prop where
 c:mg x=some (.ref C)
 ok:zP K C fs
 Z3:makesIn K C=true
 kp:keepIn K (.ref C)=true
theorem Ag{K:Frag}{H:Hp}{a:Addr}{ns:List Int}(c:ES H)(b:gU K H a (ns.map V.int)):Rep K (λ_=>False) H (.gx ns) (.ref a):=by
 rw[Rep];refine⟨a,rfl,?_⟩;rcases b with(h|⟨o,h⟩)|h
 ·rcases c a with z|⟨o,d,z⟩
  ·rw[z]at h;cases h
  ·rw[z]at h;cases h
 ·exact .inl ⟨o,h⟩
 ·exact .inr (.inr h)
noncomputable def Uw:bN:=λb Q _=>∃a:List Int,b=[.gx a]/\a.length<=63/\Q (.bl true)
noncomputable def BP(K:Frag):Sp:=λc H Q _=>∃(a:Addr)(b:List Int),c=[.ref a]/\ES H/\gU K H a (b.map V.int)/\b.length<=63/\∀d,Q (.bl true) d
theorem Qz{P:Program}{w:World}{K:Frag}{mg:Str->Option Value}{base:Heap}{k:Nat}{f:Addr}{c:FuncData}{x:Str}(F:aR P w K mg base (dP P w) k f c [x] (Mh K 1 .s Uw)):aR P w K mg base IB k f c [x] (BP K):=by refine(aR.SA F).imp λl H Q E ⟨a,b,e,i,h,g,q⟩=>?_;subst e;refine⟨λ_=>False,[.gx b],λw=>w=.bl true,λ_=>False,rfl,.cons (Ag i h) .nil,λ_ z=>z.elim,⟨b,rfl,g,rfl⟩,λw v j d _ r=>?_,λ_ _ z=>z.elim⟩;subst d;have r:=r.bw;rw[Rep]at r;subst r;exact q j
theorem walk{l:PySem.W.OpenLaw}{q:Program}{b:List Str}{A:(Str->Option Value)->Heap->Prop}{j:World->Heap->Prop}{d:DefRec}{K:Params->Frag}{k:Nat}(p:l.most=some 63)(e:d.params.defaults=[])(o:cC k callerA)(B:importsNone q=true)(c:l.prog.given.tree=none)
 (t:∀(w:World)(h:Heap),j w h->(K w.params).In h)
 (F:∀(w:World)(mg:Str->Option Value)(i:Addr)(h:Heap),(K w.params).In h->h.Ns mainGlobals mg->mg d.name=some (.ref i)->
   ∃g:FuncData,(∀(s:Shared)(u:Value),BindsTo s g ⟨[u],[]⟩ [("_law_script",u)])/\∀base:Heap,(K w.params).In base->base.Ns mainGlobals mg->aR l.prog w (K w.params) mg base IB k i g ["_law_script"] (BP (K w.params))):
 PySem.W.WalkO q b A j l.row.toRowW d [] (λf us=>PySem.call f us):=
 L2.IA (n:=63) (k:=k) (x:="_law_script") (CX:=λ_=>IB) (sp:=λw=>BP (K w.params)) p (by decide) e o B c t F (λ_ _ a m r y v=>⟨a,m,rfl,y,v,r,λ_=>rfl⟩) λ_ _ _ _ _ z=>z
noncomputable def WV:bN:=λ_ _ _=>False
theorem MD{P:Program}{w:World}{K:Frag}{mg:Str->Option Value}{base:Heap}{k n:Nat}{f:Addr}{d:FuncData}{ps:List Str}:aR P w K mg base (dP P w) k f d ps (gA K n .s WV):=
 ⟨by rintro c H Q E ⟨_,_,_,_,_,_,_,z,_⟩;exact z.elim,by rintro A a s H b e c Q E g i h r ⟨_,_,_,_,_,_,_,z,_⟩;exact z.elim⟩
theorem Df.gS{P:Program}{w:World}{K:Frag}{mg:Str->Option Value}{base:Heap}{x:Str}{st:Stmt}{ps:List Str}{f:Addr}{g:FuncData}{k n:Nat}{m:Md}{sp:bN}(D:Df K mg x st ps f g)(F:aR P w K mg base (dP P w) k f g ps (gA K n m sp))(i:n=ps.length)(h:∀a P R,sp a P R->a.length=n){d:Nat}(j:k<=d):
 ∃e n c,mg x=some e/\cG P w K mg base c e n (gA K n m sp)/\c<=d/\∀a P R,sp a P R->a.length=n:=by
 subst i;exact⟨_,_,k,D.m,.fn D.F.kp D.b F,j,h⟩
theorem Dm.gS{P:Program}{w:World}{K:Frag}{mg:Str->Option Value}{base:Heap}{x q:Str}{st:Stmt}{ps:List Str}{C f:Addr}{a:FuncData}{k n:Nat}{m:Md}{sp:bN}(D:Dm K C x q st ps f a)(F:aR P w K mg base (dP P w) k f a ps (gA K n m sp))(h:∀c P R,sp c P R->c.length=n){g:Nat}(i:k<=g){G:W}(j:G=.cls C):
 ∃f a ps n d,(∀C,G=.cls C->Meth K C x f)/\Binds K a ps []/\aR P w K mg base (dP P w) d f a ps (gA K n m sp)/\d<=g/\∀c P R,sp c P R->c.length=n:=
 ⟨f,a,ps,n,k,λl e=>by rw[j]at e;cases e;exact D.M,D.b,F,i,h⟩
end VL
namespace VL
open PySem PySem.Spec
open PyProof.Rows hiding St
open L2 Num
abbrev cW(m:Md)(P:W->Prop)(R:Addr->Prop):Dn:=⟨fall m P,P,λ_=>False,λ_=>False,R⟩
noncomputable def wI(ns:List Int):W:=.lst (ns.map W.int)
theorem b9{b:W->Dn->Ev->Prop}{D:Dn}{d:List W}{a:Ev}(J:Nat->Ev->Prop)(n:J 0 a)(l:∀i w a N,d[i]?=some w->J i a->(∀c,J (i+1) c->N c)->b w ⟨N,D.rt,D.nx,N,λ_=>False⟩ a)(m:∀a,J d.length a->D.nx a):nM b D d a:=by
 have:∀k i a,i+k=d.length->J i a->nM b D (d.drop i) a:=by
  intro k
  induction k with
  |zero=>intro i a e j;rw[List.drop_of_length_le (by lia),nM];exact m a (by rw[←e];exact j)
  |succ k h=>
   intro i a e j;have f:i<d.length:=by lia
   rw[iq f,nM];exact l i _ a _ (B1 f) j λc g=>h (i+1) c (by lia) g
 exact this d.length 0 a (by lia) n
theorem aL{x y:Int}{n m:Nat}(h:x.natAbs<2^n)(b:y.natAbs<2^m)(a:n+m<=134217728):IntMulOk x y:=zA (DD (Nat.add_le_add (bits_le h) (bits_le b)) a)
theorem fR{y:Int}{n:Nat}(h:y.natAbs<2^n)(a:n<=8000):y.natAbs.log2<1000000000:=by
 rcases cb y.natAbs with e|e
 ·rw[e];decide
 ·have:=(Nat.log2_lt (i3 e)).mpr h;lia
theorem gm(r:Rat):(r.den:Int).natAbs=r.den:=Int.natAbs_natCast _
theorem ir(r:Rat):(r.den:Int)≠0:=by have:=r.den_pos;lia
theorem QA(a b:Rat):Rat.divInt (a.num*b.num) (a.den*b.den)=a*b:=by
 conv=>rhs;rw[←Iy a,←Iy b]
 exact(cq _ _).symm
noncomputable def jo:List CS:=[.ret (.comp [0] true 1 (.var 0) (.bl true) (.bin .Mult (.var 2) (.var 0)))]
noncomputable def jN:bN:=λc Q _=>∃(a:List Int)(b:Int),c=[wI a,.int b]/\a.length<=1000/\(∀x∈a,IntMulOk b x)/\Q (wI (a.map (b*·)))
theorem GS{e:Nat->bN}{G:Nat->W}{m:Md}(c:List W)(Q:W->Prop)(R:Addr->Prop)(h:jN c Q R):wSs e G jo (cW m Q R) (aA 2 c):=by obtain⟨d,b,rfl,i,j,a⟩:=h;show wSs _ _ jo _ [some (wI d),some (.int b)];unfold jo wI;walk_at "vs";refine cu (g:=λx=>.int (b*x)) d [] _ (λx f K k=>⟨j x f,k⟩) (au (by simpa using i)) ?_;rw[List.nil_append];unfold wI at a;rw[Ta]at a;exact a
noncomputable def mD:List CS:=[.Eb (.cmp .NotEq (.var 1) (.int 0)) [.par [0,1] [(.var 1),(.bin .Mod (.var 0) (.var 1))]],.ret (.blt .abs [(.var 0)])]
noncomputable def BQ:bN:=λc Q _=>∃a b:Int,c=[.int a,.int b]/\Q (.int (Int.gcd a b:Nat))
theorem KN{k:Nat->bN}{G:Nat->W}{m:Md}(f:List W)(Q:W->Prop)(R:Addr->Prop)(h:BQ f Q R):wSs k G mD (cW m Q R) (aA 2 f):=by
 obtain⟨a,b,rfl,l⟩:=h;show wSs _ _ mD _ [some (.int a),some (.int b)];unfold mD;walk_at "vs";refine kR (α:=Int×Int) (λx=>[some (.int x.1),some (.int x.2)]) (λx=>Int.gcd x.1 x.2=Int.gcd a b) (λx=>x.2.natAbs) (a,b) rfl rfl ?_;rintro⟨x,y⟩ g;walk_at "vs";refine gE (λd=>?_) (λd=>?_)
 ·have c:y≠0:=by simpa using d
  have j:=xj x y (x.fdiv y);have i:=Fj x y c;rw[←Num.fmod_eq]at j i;walk_at "vs";exact⟨c,rfl,(y,x.fmod y),rfl,j.trans g,i⟩
 ·have c:y=0:=by simpa using d
  subst c;walk_at "vs";have e:(if x<0 then-x else x)=((Int.gcd a b:Nat):Int):=by rw[←g,Int.gcd_zero_right];split<;>lia
  rw[e];exact l
noncomputable def jq:List CS:=[.set 2 (.call 0 [(.var 0),(.var 1)]),.iff (.cmp .Lt (.var 1) (.int 0)) [.set 2 (.bin .Sub (.int 0) (.var 2))] [],.ret (.tup [(.bin .FloorDiv (.var 0) (.var 2)),(.bin .FloorDiv (.var 1) (.var 2))])]
theorem qJ{n i:Nat}{w:W}(h:(gy 0 1 n)[i]?=some w):i<n/\w=.int i:=by unfold gy at h;rw[FM]at h;obtain⟨j,e,rfl⟩:=N0.mp h;obtain⟨b,a⟩:=Fu.mp e;rw[List.getElem_range]at a;rw[Xt]at b;refine⟨b,?_⟩;rw[←a];simp
theorem bT{l:List W}{k:Nat}{w:W}(h:l[k]?=some w):kZ l (k:Int)=some w:=by unfold kZ wj;have:=(Fu.mp h).1;rw[Bz (by lia),Bz (by lia)];simpa using h
theorem nY{n k:Nat}(h:k<n):wj n (k:Int)=some k:=by unfold wj;rw[Bz (by lia),Bz (by lia)];simp
theorem Ah{a:List Rat}{k:Nat}(h:k<a.length):(a.map wq)[k]?=some (wq (a.getD k 0)):=by rw[FM,AC,B1 h];rfl
theorem fm{x:Int}{n:Int}(a:0<n):0<=x.fmod n/\x.fmod n<n:=⟨Int.fmod_nonneg_of_pos x a,Int.fmod_lt_of_pos x a⟩
theorem aN{b:Nat->bN}{G:Nat->W}{s t:CS}{d:List CS}{D:Dn}{c:Ev}(J:Ev->Prop)(f:∀N:Ev->Prop,(∀a,J a->N a)->wS b G s {D with nx:=N} c)(e:∀a,J a->wSs b G (t::d) D a):wSs b G (s::t::d) D c:=f _ e
theorem int_at{ns:List Int}{k:Nat}(h:k<ns.length):(ns.map W.int)[k]?=some (.int (ns.getD k 0)):=by rw[FM,AC,B1 h];rfl
theorem GU{ns:List Int}{P:Int->Prop}(h:∀n∈ns,P n){k:Nat}(a:k<ns.length):P (ns.getD k 0):=by rw[AC,B1 a];exact h _ (TB _)
theorem GV(ns:List Int)(k:Nat)(h:k<=ns.length):nK (ns.map W.int) none (some (k:Int))=(ns.take k).map W.int:=by unfold nK;rw[HT.AM,HT.wO,Ap,List.drop_zero,show min k ns.length -0=k by lia,List.map_take]
noncomputable def iu:List CS:=[.set 1 (.blt .len [(.var 0)]),.Eb (.and [(.cmp .Gt (.var 1) (.int 0)),(.cmp .Eq (.ix (.var 0) (.bin .Sub (.var 1) (.int 1))) (.int 0))]) [.set 1 (.bin .Sub (.var 1) (.int 1))],.ret (.sl (.var 0) .aS (.var 1))]
noncomputable def jr:bN:=λc Q _=>∃a:List Int,c=[wI a]/\∀b,iP a b->Q (wI b)
theorem DA{l:Nat->bN}{G:Nat->W}{m:Md}(i:List W)(Q:W->Prop)(R:Addr->Prop)(h:jr i Q R):wSs l G iu (cW m Q R) (aA 2 i):=by
 obtain⟨c,rfl,n⟩:=h;show wSs _ _ iu _ [some (wI c),none];unfold iu wI;walk_at "vs";refine kR (α:=Nat) (λk=>[some (.lst (c.map W.int)),some (.int k)]) (λk=>k<=c.length/\∀j,k<=j->j<c.length->c.getD j 0=0) (λk=>k) c.length (by rw[Ap]) ⟨Do _,λj g f=>by lia⟩ ?_;rintro k ⟨g,f⟩;walk_at "vs";have d:(k=0\/c.getD (k -1) 0≠0)->Q (.lst (nK (c.map W.int) none (some (k:Int)))):=λh=>by rw[GV c k g];exact n _ ⟨k,g,rfl,f,h⟩
 by_cases o:0<k
 ·rw[Bz (KM (by lia))];rw[show(k:Int) -1=((k -1:Nat):Int) by lia];refine⟨_,bT (int_at (by lia)),?_⟩;walk_at "vs";refine gE (λz=>?_) (λz=>?_)
  ·have z:=Bi z;walk_at "vs";refine⟨k -1,by rw[show(k:Int) -1=((k -1:Nat):Int) by lia],⟨by lia,λj a b=>?_⟩,by show k -1<k;lia⟩;by_cases e:j=k -1
   ·rw[e];exact z
   ·exact f j (by lia) b
  ·have z:=ij z;walk_at "vs";exact d (.inr z)
 ·rw[BM (by rw[Oy];lia)];refine gE (λz=>by cases z) (λ_=>?_);walk_at "vs";exact d (.inl (by lia))
noncomputable def dj:List CS:=[.set 2 (.blt .max2 [(.blt .len [(.var 0)]),(.blt .len [(.var 1)])]),.set 3 (.bin .Add (.blt .list [(.var 0)]) (.bin .Mult (.lst [(.int 0)]) (.bin .Sub (.var 2) (.blt .len [(.var 0)])))),.fr [4,5] false (.sE (.var 1)) [.put 3 (.var 4) (.bin .Add (.ix (.var 3) (.var 4)) (.var 5))],.ret (.call 0 [(.var 3)])]
noncomputable def gp:bN:=λd Q _=>∃a b:List Int,d=[wI a,wI b]/\a.length<=200/\b.length<=200/\∀c,iP ((List.range (max a.length b.length)).map λk=>a.getD k 0+b.getD k 0) c->Q (wI c)
theorem vE{G:Nat->W}{m:Md}(t:List W)(Q:W->Prop)(R:Addr->Prop)(h:gp t Q R):wSs (c9 [jr]) G dj (cW m Q R) (aA 6 t):=by
 obtain⟨b,a,rfl,u,v,E⟩:=h;show wSs _ _ dj _ [some (wI b),some (wI a),none,none,none,none];unfold dj wI;walk_at "vs";have c:(if((a.map W.int).length:Int)>((b.map W.int).length:Int)then((a.map W.int).length:Int)else((b.map W.int).length:Int))=((max b.length a.length:Nat):Int):=by rw[Ap,Ap];split<;>lia
 rw[c];have d:((max b.length a.length:Nat):Int) -((b.map W.int).length:Int)=((max b.length a.length -b.length:Nat):Int):=by rw[Ap];clear c v u;lia
 rw[d,Int.toNat_natCast,mj];generalize J:max b.length a.length=L at*;refine⟨au (by simp),by clear d c J v u;lia,by clear d c;lia,au (by simp;clear d c;lia),au (by simp;clear d c;lia),?_⟩;have g:∀(f:Nat->Int)(k:Nat),k<L->((List.range L).map f)[k]?=some (f k):=λf k F=>by rw[FM,SU F];rfl
 refine b9 (λi z=>∃o n,z=[some (.lst (b.map W.int)),some (.lst (a.map W.int)),some (.int L),some (.lst (((List.range L).map λk=>b.getD k 0+if k<i then a.getD k 0 else 0).map W.int)),o,n]) ⟨none,none,?_⟩ ?_ ?_
 ·have:b.map W.int++List.replicate (L -b.length) (W.int 0)=((List.range L).map λk=>b.getD k 0+if k<0 then a.getD k 0 else 0).map W.int:=by
   refine SC λq=>?_;by_cases s:q<b.length
   ·rw[IR (by simpa using s),int_at s,FM,g _ q (by lia),BM (by lia),lx];rfl
   ·by_cases j:q<L
    ·rw[Ha (by simpa using s),eQ,Bz (by rw[Ap];omega),FM,g _ q j,BM (by lia),AC,Dx (by lia)];rfl
    ·rw[Dx (by simp;omega),Dx (by simp;lia)]
  rw[this]
 ·rintro i w _ N C ⟨o,n,rfl⟩ I;obtain⟨x,p,rfl⟩:=nO C;have H:i<a.length:=by have:=(Fu.mp p).1;simpa using this
  rw[int_at H]at p;cases p;walk_at "vs";have r:i<L:=by omega
  refine⟨rfl,_,bT (by rw[FM,g _ i r];rfl),?_⟩;walk_at "vs";refine⟨i,nY (by simpa using r),I _ ⟨some (.int i),some (.int (a.getD i 0)),?_⟩⟩;have:((List.range L).map λk=>b.getD k 0+if k<i then a.getD k 0 else 0).set i (b.getD i 0+(if i<i then a.getD i 0 else 0)+a.getD i 0)=(List.range L).map λk=>b.getD k 0+if k<i+1 then a.getD k 0 else 0:=by
   refine SC λq=>?_;rw[kb];by_cases j:q<L
   ·rw[g _ q j,g _ q j];by_cases e:i=q
    ·subst e;rw[Bz rfl,Bz (by simpa using r),BM (by lia),Bz (by lia)];congr 1;lia
    ·rw[BM e];by_cases y:q<i
     ·rw[Bz y,Bz (by lia)]
     ·rw[BM y,BM (by lia)]
   ·rw[BM (by lia),Dx (by simp;lia),Dx (by simp;lia)]
  rw[←this,i5]
 ·rintro _ ⟨o,n,rfl⟩;have B:(gi (a.map W.int)).length=a.length:=by unfold gi;simp
  rw[B];walk_at "vs";refine⟨_,rfl,λA D=>E A ?_⟩;have:((List.range L).map λk=>b.getD k 0+if k<a.length then a.getD k 0 else 0)=(List.range L).map λk=>b.getD k 0+a.getD k 0:=by
   refine Yf λk _=>?_;by_cases h:k<a.length
   ·rw[Bz h]
   ·rw[BM h,AC (l:=a),Dx (by lia)];rfl
  rw[←this];exact D
noncomputable def cI:List CS:=[.ret (.call 0 [(.var 0),(.call 1 [(.var 1),(.neg (.int 1))])])]
noncomputable def fz:bN:=λe Q _=>∃(c a:List Int)(b:Nat),e=[wI c,wI a]/\c.length<=200/\a.length<=200/\b<=100000000/\(∀x∈a,x.natAbs<2^b)/\∀d,iP ((List.range (max c.length a.length)).map λk=>c.getD k 0 -a.getD k 0) d->Q (wI d)
theorem sG{G:Nat->W}{m:Md}(e:List W)(Q:W->Prop)(R:Addr->Prop)(h:fz e Q R):wSs (c9 [gp,jN]) G cI (cW m Q R) (aA 2 e):=by
 obtain⟨c,a,b,rfl,i,j,q,d,p⟩:=h;show wSs _ _ cI _ [some (wI c),some (wI a)];unfold cI;walk_at "vs";refine⟨a,-1,rfl,by lia,λx o=>aL (n:=1) (m:=b) (by decide) (d x o) (by lia),?_⟩;refine⟨c,a.map (-1*·),rfl,i,by rw[Ap];exact j,λg f=>p g ?_⟩;rw[Ap]at f;have:((List.range (max c.length a.length)).map λk=>c.getD k 0+(a.map (-1*·)).getD k 0)=(List.range (max c.length a.length)).map λk=>c.getD k 0 -a.getD k 0:=by
  refine Yf λk _=>?_;rw[AC (l:=a.map _),FM,AC (l:=a)];cases a[k]? with
  |none=>show _+(0:Int)=_ -(0:Int);lia
  |some z=>show _+ -1*z=_ -z;lia
 rw[←this];exact f
noncomputable def jt:List CS:=[.set 2 (.int 1),.Eb (.cmp .Gt (.var 1) (.int 0)) [.iff (.cmp .Eq (.bin .Mod (.var 1) (.int 2)) (.int 1)) [.set 2 (.bin .Mult (.var 2) (.var 0))] [],.set 1 (.bin .FloorDiv (.var 1) (.int 2)),.iff (.cmp .Gt (.var 1) (.int 0)) [.set 0 (.bin .Mult (.var 0) (.var 0))] []],.ret (.var 2)]
noncomputable def mE:bN:=λa Q _=>∃(x:Int)(e n:Nat),a=[.int x,.int e]/\x.natAbs<2^n/\n*(e+1)<=60000000/\Q (.int (x^e))
theorem WW{x:Int}{n:Nat}(h:x.natAbs<2^n)(e:Nat):(x^e).natAbs<2^(n*e+1):=by rw[Int.natAbs_pow];have:x.natAbs^e<=(2^n)^e:=QR (Mo h) e;rw[←dE]at this;rw[Nat.pow_succ];have:=U2 (n:=n*e) (show 0<2 by decide);lia
theorem GW{u:Nat->bN}{G:Nat->W}{m:Md}(j:List W)(Q:W->Prop)(R:Addr->Prop)(h:mE j Q R):wSs u G jt (cW m Q R) (aA 3 j):=by
 obtain⟨x,e,n,rfl,y,C,B⟩:=h;show wSs _ _ jt _ [some (.int x),some (.int e),none];unfold jt;walk_at "vs";refine kR (α:=Nat×Nat×Nat) (λs=>[some (.int (x^s.1)),some (.int s.2.1),some (.int (x^s.2.2))]) (λs=>s.1*s.2.1+s.2.2=e/\(0<s.2.1->0<s.1)) (λs=>s.2.1) (1,e,0) (by show _=[some (W.int (x^1)),some (W.int (e:Int)),some (W.int (x^0))];rw[Ki,Qr,ey]) ⟨by show 1*e+0=e;lia,λ_=>by show 0<1;decide⟩ ?_;rintro⟨a,d,p⟩ ⟨A,k⟩;dsimp only at A k;walk_at "vs";refine gE (λz=>?_) (λz=>?_)
 ·have f:0<d:=by have:=Bi z;lia
  have I:=k f;have c:a<=e:=by have:a*1<=a*d:=Ee a f;lia
  have w:p<=e:=by lia
  have t:∀q,q<=e->(x^q).natAbs<2^(n*e+1):=λq g=>FC (WW y q) (GE (by decide) (h8 (Ee n g) 1));have J:n*e<=60000000:=DD (Ee n (Nat.le_succ e)) C;have mo:∀q r,q<=e->r<=e->IntMulOk (x^q) (x^r):=λq r D b=>aL (t q D) (t r b) (by lia);have H:(d:Int).fmod 2=((d%2:Nat):Int):=by rw[il _ (by decide)];lia
  have F:(d:Int).fdiv 2=((d/2:Nat):Int):=by rw[L9 _ (by decide)];lia
  have l:tN (d:Int) 2:=⟨by decide,by decide⟩;walk_at "vs";rw[H,F];refine⟨by decide,?_⟩;have i:a*d=a*(2*(d/2))+a*(d%2):=by rw[←Nat.mul_add,Nat.div_add_mod]
  have E:a*(2*(d/2))=2*a*(d/2):=by rw[da 2 a,Nat.mul_assoc]
  split
  ·rename_i h
   have h:=Bi h;have o:d%2=1:=by lia
   rw[o,Nat.mul_one]at i;refine⟨mo p a w c,l,?_⟩;split
   ·refine⟨mo a a c c,(2*a,d/2,p+a),?_,⟨?_,λ_=>?_⟩,?_⟩
    ·show[some (W.int (x^a*x^a)),some (W.int ((d/2:Nat):Int)),some (W.int (x^p*x^a))]=[some (W.int (x^(2*a))),some (W.int ((d/2:Nat):Int)),some (W.int (x^(p+a)))];rw[ej,Nat.two_mul,ej]
    ·show 2*a*(d/2)+(p+a)=e;lia
    ·show 0<2*a;lia
    ·show d/2<d;lia
   ·rename_i b
    rw[Oy]at b;refine⟨(a,d/2,p+a),?_,⟨?_,λz=>?_⟩,?_⟩
    ·show[some (W.int (x^a)),some (W.int ((d/2:Nat):Int)),some (W.int (x^p*x^a))]=[some (W.int (x^a)),some (W.int ((d/2:Nat):Int)),some (W.int (x^(p+a)))];rw[ej]
    ·show a*(d/2)+(p+a)=e;have v:d/2=0:=by lia
     rw[v]at i E⊢;lia
    ·exact I
    ·show d/2<d;lia
  ·rename_i h
   rw[Oy]at h;have o:d%2=0:=by lia
   rw[o,Nat.mul_zero]at i;refine⟨l,?_⟩;split
   ·refine⟨mo a a c c,(2*a,d/2,p),?_,⟨?_,λ_=>?_⟩,?_⟩
    ·show[some (W.int (x^a*x^a)),some (W.int ((d/2:Nat):Int)),some (W.int (x^p))]=[some (W.int (x^(2*a))),some (W.int ((d/2:Nat):Int)),some (W.int (x^p))];rw[Nat.two_mul,ej]
    ·show 2*a*(d/2)+p=e;lia
    ·show 0<2*a;lia
    ·show d/2<d;lia
   ·rename_i b
    rw[Oy]at b;lia
 ·have f:d=0:=by have:=ij z;lia
  subst f;walk_at "vs";have:p=e:=by lia
  rw[this];exact B
noncomputable def tabI(n:Nat)(f:Nat->Int):List Int:=(List.range n).map f
theorem iY{n k:Nat}{f:Nat->Int}(h:k<n):(tabI n f)[k]?=some (f k):=by unfold tabI;rw[FM,SU h];rfl
theorem bf(n:Nat)(f:Nat->Int):(tabI n f).length=n:=by unfold tabI;simp
theorem mF{n k:Nat}{f g:Nat->Int}(h:k<n)(b:∀j,j<n->j≠k->g j=f j):(tabI n f).set k (g k)=tabI n g:=by
 refine SC λq=>?_;rw[kb];by_cases a:q<n
 ·rw[iY a,iY a];by_cases e:k=q
  ·subst e;rw[Bz rfl,Bz (by rw[bf];exact h)]
  ·rw[BM e,b q a (Pt e)]
 ·rw[BM (by lia),Dx (by rw[bf];lia),Dx (by rw[bf];lia)]
theorem QB{x y:List Int}{Q:W->Prop}(h:∀k:Bool,(k=true↔x=y)->Q (.bl k)):eT .Eq (wI x) (wI y) Q:=by
 have c:∀z:List Int,eY 9 (.lst (z.map W.int))=true:=λz=>by rw[eY,HI];intro w d;obtain⟨i,_,rfl⟩:=KE.mp d;exact vD i 8
 refine⟨.inl ⟨c x,c y⟩,λk f=>h k (f.trans ⟨λe=>?_,λe=>by rw[e]⟩)⟩;unfold wI at e;rw[W.lst.injEq]at e;exact(List.map_inj_right (λa b e=>W.int.inj e)).mp e
theorem BR{a:List Int}{i:Nat}{w:W}(h:(gi (a.map W.int))[i]?=some w):i<a.length/\w=.tup [.int i,.int (a.getD i 0)]:=by
 obtain⟨x,b,rfl⟩:=nO h;have c:i<a.length:=by have:=(Fu.mp b).1;simpa using this
 rw[int_at c]at b;cases b;exact⟨c,rfl⟩
theorem yf(a:List Int):(gi (a.map W.int)).length=a.length:=by unfold gi;simp
noncomputable def cJ:List CS:=[.iff (.or [(.cmp .Eq (.var 0) (.lst [])),(.cmp .Eq (.var 1) (.lst []))]) [.ret (.lst [])] [],.set 2 (.bin .Mult (.lst [(.int 0)]) (.bin .Sub (.bin .Add (.blt .len [(.var 0)]) (.blt .len [(.var 1)])) (.int 1))),.fr [3,4] false (.sE (.var 0)) [.iff (.cmp .NotEq (.var 4) (.int 0)) [.fr [5,6] false (.sE (.var 1)) [.put 2 (.bin .Add (.var 3) (.var 5)) (.bin .Add (.ix (.var 2) (.bin .Add (.var 3) (.var 5))) (.bin .Mult (.var 4) (.var 6)))]] []],.ret (.var 2)]
noncomputable def fD:bN:=λc Q _=>∃a b:List Int,c=[wI a,wI b]/\a.length<=200/\b.length<=200/\(∀x∈a,∀y∈b,IntMulOk x y)/\Q (wI (if a=[]\/b=[]then[]else tabI (a.length+b.length -1) (cf a b a.length)))
theorem sH{D:Nat->bN}{G:Nat->W}{m:Md}(A:List W)(Q:W->Prop)(R:Addr->Prop)(h:fD A Q R):wSs D G cJ (cW m Q R) (aA 7 A):=by
 obtain⟨a,b,rfl,S,O,I,l⟩:=h;show wSs _ _ cJ _ [some (wI a),some (wI b),none,none,none,none,none];unfold cJ;refine aN (λs=>(a≠[]/\b≠[])/\s=[some (wI a),some (wI b),none,none,none,none,none]) (λN r=>?_) ?_
 ·walk_at "vs";refine⟨au (by simp),QB (y:=[]) λU C=>?_⟩;walk_at "vs";by_cases o:a=[]
  ·cases gk C o;rw[Bz rfl];rw[Bz (.inl o)]at l;exact⟨au (by simp),l⟩
  ·cases ig C o;rw[BM (by decide)];refine⟨au (by simp),QB (y:=[]) λT B=>?_⟩;walk_at "vs";by_cases p:b=[]
   ·cases gk B p;rw[Bz rfl];rw[Bz (.inr p)]at l;exact⟨au (by simp),l⟩
   ·cases ig B p;rw[BM (by decide)];exact r _ ⟨⟨o,p⟩,rfl⟩
 rintro _ ⟨⟨o,p⟩,rfl⟩;rw[BM (λz=>z.elim o p)]at l;have X:=ag.mpr o;unfold wI at*;walk_at "vs";have L:((a.map W.int).length:Int)+((b.map W.int).length:Int) -1=((a.length+b.length -1:Nat):Int):=by rw[Ap,Ap];lia
 rw[L,Int.toNat_natCast,mj];refine⟨au (by simp),by lia,by lia,au (by simp;lia),?_⟩;refine b9 (λi t=>∃o3 u d c,t=[some (.lst (a.map W.int)),some (.lst (b.map W.int)),some (.lst ((tabI (a.length+b.length -1) (cf a b i)).map W.int)),o3,u,d,c]) ⟨none,none,none,none,?_⟩ ?_ ?_
 ·have:tabI (a.length+b.length -1) (cf a b 0)=List.replicate (a.length+b.length -1) 0:=by unfold tabI;have:cf a b 0=λ_=>0:=rfl;rw[this,List.map_const',Xt]
  rw[this,List.map_replicate]
 ·rintro i w _ N H ⟨o3,u,d,c,rfl⟩ r;obtain⟨K,rfl⟩:=BR H;walk_at "vs";refine⟨rfl,?_⟩;by_cases z:a.getD i 0=0
  ·rw[KM z];walk_at "vs";refine r _ ⟨some (.int i),some (.int (a.getD i 0)),d,c,?_⟩;rw[show cf a b (i+1)=cf a b i from funext λk=>IT z k]
  ·rw[OK z];walk_at "vs";refine b9 (λj t=>∃d c,t=[some (.lst (a.map W.int)),some (.lst (b.map W.int)),some (.lst ((tabI (a.length+b.length -1) (DY a b i j)).map W.int)),some (.int i),some (.int (a.getD i 0)),d,c]) ⟨d,c,?_⟩ ?_ ?_
   ·rw[show DY a b i 0=cf a b i from funext λk=>Ft a b i k]
   ·rintro j w _ Y E ⟨d,c,rfl⟩ M;obtain⟨J,rfl⟩:=BR E;have v:i+j<a.length+b.length -1:=by lia
    walk_at "vs";rw[show(i:Int)+(j:Int)=((i+j:Nat):Int) by lia];refine⟨rfl,_,bT (by rw[FM,iY v];rfl),?_⟩;walk_at "vs";refine⟨GU (P:=λx=>IntMulOk x (b.getD j 0)) (λx F=>GU (P:=λy=>IntMulOk x y) (I x F) J) K,i+j,nY (by rw[Ap,bf];exact v),M _ ⟨some (.int j),some (.int (b.getD j 0)),?_⟩⟩;have e:=mF (n:=a.length+b.length -1) (f:=DY a b i j) (g:=DY a b i (j+1)) (k:=i+j) v (λq _ l=>by rw[xo,BM l,lx]);rw[xo,Bz rfl]at e;rw[←e,i5]
   ·rintro _ ⟨d,c,rfl⟩;refine r _ ⟨some (.int i),some (.int (a.getD i 0)),d,c,?_⟩;rw[yf,show DY a b i b.length=cf a b (i+1)from funext λk=>Fv a b i k]
 ·rintro _ ⟨o3,u,d,c,rfl⟩;rw[yf];walk_at "vs";exact l
noncomputable def yg:List CS:=[.par [0,1] [(.blt .abs [(.var 0)]),(.blt .abs [(.var 1)])],.Eb (.cmp .Gt (.bits (.var 1)) (.glob 0)) [.par [0,1] [(.var 1),(.bin .Mod (.var 0) (.var 1))],.zS [0,1] (.call 0 [(.call 1 [(.var 0),(.var 1)]),(.var 0),(.var 1)]),.par [0,1] [(.blt .abs [(.var 0)]),(.blt .abs [(.var 1)])]],.Eb (.cmp .NotEq (.var 1) (.int 0)) [.par [0,1] [(.var 1),(.bin .Mod (.var 0) (.var 1))]],.ret (.var 0)]
noncomputable def Ai:bN:=λc Q _=>∃(a b:Int)(n:Nat),c=[.int a,.int b]/\b.natAbs<2^n/\n<=6000/\Q (.int (Int.gcd a b:Nat))
theorem Uy{r:Nat->bN}{m:Md}(o:List W)(Q:W->Prop)(R:Addr->Prop)(h:Ai o Q R):wSs r (pK [.int 6000]) yg (cW m Q R) (aA 2 o):=by
 obtain⟨a,b,n,rfl,v,B,t⟩:=h;show wSs _ _ yg _ [some (.int a),some (.int b)];unfold yg;have A:(if a<0 then-a else a)=(a.natAbs:Int):=by split<;>lia
 have w:(if b<0 then-b else b)=(b.natAbs:Int):=by split<;>lia
 have u:Int.gcd (a.natAbs:Int) (b.natAbs:Int)=Int.gcd a b:=rfl;refine aN (λc=>c=[some (.int (a.natAbs:Int)),some (.int (b.natAbs:Int))]) (λN j=>?_) ?_
 ·walk_at "vs";rw[A,w];exact⟨rfl,j _ rfl⟩
 rintro _ rfl;have p:Builtin.Int.intBits (b.natAbs:Int)<=n:=bits_le (by rw[Int.natAbs_natCast];exact v);refine aN (λc=>c=[some (.int (a.natAbs:Int)),some (.int (b.natAbs:Int))]) (λN j=>?_) ?_
 ·rw[wS];refine kR (α:=Unit) (λ_=>[some (.int (a.natAbs:Int)),some (.int (b.natAbs:Int))]) (λ_=>True) (λ_=>0) () rfl trivial ?_;rintro _ _;walk_at "vs";refine gE (λz=>?_) (λ_=>j _ rfl);have:=Bi z;lia
 rintro _ rfl;walk_at "vs";refine kR (α:=Int×Int) (λx=>[some (.int x.1),some (.int x.2)]) (λx=>Int.gcd x.1 x.2=Int.gcd a b/\0<=x.1/\0<=x.2) (λx=>x.2.natAbs) (a.natAbs,b.natAbs) rfl ⟨u,Int.natCast_nonneg _,Int.natCast_nonneg _⟩ ?_;rintro⟨x,y⟩ ⟨g,s,q⟩;dsimp only at g s q;walk_at "vs";refine gE (λi=>?_) (λi=>?_)
 ·have d:y≠0:=by simpa using i
  have l:=xj x y (x.fdiv y);have k:=Fj x y d;have f:=fm (x:=x) (n:=y) (by clear k l d;lia);rw[←Num.fmod_eq]at l k;walk_at "vs";exact⟨d,rfl,(y,x.fmod y),rfl,⟨l.trans g,q,f.1⟩,k⟩
 ·have d:y=0:=by simpa using i
  subst d;walk_at "vs";have e:x=((Int.gcd a b:Nat):Int):=by rw[←g,Int.gcd_zero_right];lia
  rw[e];exact t
noncomputable def fS:List CS:=[.iff (.cmp .Eq (.var 1) (.int 0)) [.zT] [],.set 2 (.call 0 [(.var 0),(.var 1)]),.iff (.cmp .Lt (.var 1) (.int 0)) [.set 2 (.neg (.var 2))] [],.ret (.tup [(.bin .FloorDiv (.var 0) (.var 2)),(.bin .FloorDiv (.var 1) (.var 2))])]
noncomputable def iy:bN:=λa Q R=>∃(t b:Int)(n:Nat),a=[.int t,.int b]/\b.natAbs<2^n/\n<=6000/\(b=0->False)/\(b≠0->Q (wq (Rat.divInt t b)))
theorem Aj{G:Nat->W}{m:Md}(k:List W)(Q:W->Prop)(R:Addr->Prop)(h:iy k Q R):wSs (c9 [Ai]) G fS (cW m Q R) (aA 3 k):=by
 obtain⟨t,b,n,rfl,j,i,q,a⟩:=h;show wSs _ _ fS _ [some (.int t),some (.int b),none];unfold fS;walk_at "vs";by_cases e:b=0
 ·rw[Bz (KM e)];exact q e
 rw[BM (by rw[Oy];exact e)];have a:=a e;refine⟨t,b,n,rfl,j,i,?_⟩;obtain⟨c,o,l⟩:=xr t b e;have p:((Int.gcd t b:Nat):Int).natAbs<2^n:=by have:((Int.gcd t b:Nat):Int)<=b.natAbs:=Ya (by clear l o c;lia) (by rw[Int.dvd_natAbs];exact Pl ..);lia
 unfold wq at a;generalize((Int.gcd t b:Nat):Int)=g at*;rw[o,l]at a;by_cases f:b<0
 ·rw[Bz f]at c a;rw[Bz (KM f)];walk_at "vs";have d:=fR (y:= -g) (by lia) (DD i (by decide));exact⟨⟨c,d⟩,⟨c,d⟩,au (by simp),a⟩
 ·rw[BM f]at c a;rw[BM (by rw[Oy];exact f)];have d:=fR (y:=g) p (DD i (by decide));exact⟨⟨c,d⟩,⟨c,d⟩,au (by simp),a⟩
end VL
namespace L2
open PySem
theorem uc{r:Nat}:Builtin.Range.rangeSize ((r:Int) -1) (-1) (-1)=(r:Int):=by
 unfold Builtin.Range.rangeSize;rw[BM (by decide)];split
 ·show((r:Int) -1 - -1 -1)/1+1=_;lia
 ·lia
theorem Ak{r:Nat}(h:r<=1000):Builtin.Range.small ((r:Int) -1) (-1) (-1)=true:=by
 unfold Builtin.Range.small;rw[uc];have f:∀x:Int,-2000<=x->x<=2000->Builtin.Range.rangeFitsLong x=true:=λx b a=>by unfold Builtin.Range.rangeFitsLong;simp;lia
 rw[f _ (by lia) (by lia),f _ (by lia) (by lia),f _ (by lia) (by lia),BM (by decide),f (-1+(-1+1)) (by decide) (by decide)];simp
end L2
namespace VL
open PySem PySem.Spec
open PyProof.Rows hiding St
open L2 Num
theorem QC{a:List Rat}{i:Nat}{w:W}(h:(a.map wq)[i]?=some w):∃x,a[i]?=some x/\w=wq x:=by
 rw[FM]at h;cases e:a[i]? with
 |none=>rw[e]at h;cases h
 |some x=>rw[e]at h;cases h;exact⟨x,rfl,rfl⟩
structure Yp(rs:List Rat)(ns:List Int)(B:Int):Prop where
 pos:0<B
 eq:ns=rs.map λx=>x.num*(B/x.den)
 dv:∀x∈rs,(x.den:Int)∣B
noncomputable def iz:List CS:=[.set 1 (.int 1),.fr [2] true (.var 0) [.set 3 (.ix (.var 2) (.int 1)),.iff (.cmp .NotEq (.bin .Mod (.var 1) (.var 3)) (.int 0)) [.set 1 (.bin .Mult (.bin .FloorDiv (.var 1) (.call 0 [(.var 1),(.var 3)])) (.var 3))] []],.ret (.tup [(.comp [0] true 1 (.var 0) (.bl true) (.bin .Mult (.ix (.var 0) (.int 0)) (.bin .FloorDiv (.var 2) (.ix (.var 0) (.int 1))))),(.var 1)])]
noncomputable def mG:bN:=λc Q _=>∃(a:List Rat)(D:Int)(n k:Nat),c=[af a]/\((∀x∈a,Cd D n x)/\0<D/\D.natAbs<2^k/\k<=6000/\n<=100000/\a.length<=100)/\∀(b:List Int)(B:Int),Yp a b B->B∣D->B.natAbs<2^k->(∀x∈b,x.natAbs<2^n)->Q (.tup [wI b,.int B])
theorem DB{G:Nat->W}{m:Md}(J:List W)(Q:W->Prop)(R:Addr->Prop)(h:mG J Q R):wSs (c9 [Ai]) G iz (cW m Q R) (aA 4 J):=by
 obtain⟨o,D,n,k,rfl,⟨A,hD,Yq,hk,hn,hl⟩,Z⟩:=h;have a:∀y:Int,0<y->y∣D->y.natAbs<2^k:=λy E C=>by have:=Ya hD C;lia
 show wSs _ _ iz _ [some (af o),none,none,none];unfold iz;simp only[wSs,wS,wE,look,List.set];unfold af;walk_at "vs";refine b9 (λi T=>∃B o2 o3,(0<B/\B∣D/\∀j x,j<i->o[j]?=some x->(x.den:Int)∣B)/\T=[some (.lst (o.map wq)),some (.int B),o2,o3]) ⟨1,none,none,⟨by decide,Int.one_dvd _,λj x h=>by lia⟩,rfl⟩ ?_ ?_
 ·rintro i w _ N X ⟨B,o2,o3,⟨d,b,s⟩,rfl⟩ hN;obtain⟨x,c,rfl⟩:=QC X;have r:=NA c;have M:=(A x r).dvd.1;have p:0<(x.den:Int):=by have:=x.den_pos;lia
  have t:=a _ p M;have O:=a _ d b;have f:∀q:Int,0<q->q∣D->B∣q->(x.den:Int)∣q->N [some (.lst (o.map wq)),some (.int q),some (wq x),some (.int x.den)]:=λq E C h3 h4=>
   hN _ ⟨q,_,_,⟨E,C,λj z l hz=>by
    by_cases u:j=i
    ·subst u;rw[c]at hz;cases hz;exact h4
    ·exact Int.dvd_trans (s j z (by lia) hz) h3⟩,rfl⟩
  walk_at "vs";refine⟨_,rfl,?_⟩;walk_at "vs";refine⟨ir x,?_⟩;by_cases hz:B.fmod x.den=0
  ·rw[KM hz];walk_at "vs";refine f B d b (Int.dvd_refl _) (Int.dvd_of_fmod_eq_zero hz)
  ·rw[OK hz];walk_at "vs";have hg:((Int.gcd B x.den:Nat):Int)<=x.den:=Ya p (Pl ..);have S:0<((Int.gcd B x.den:Nat):Int):=by have:0<Int.gcd B x.den:=Int.gcd_pos_of_ne_zero_left _ (by lia);lia
   have P:((Int.gcd B x.den:Nat):Int)∣B:=dk ..;have WX:((Int.gcd B x.den:Nat):Int)∣(x.den:Int):=Pl ..;have WY:=FH (ir x) b M;refine⟨B,x.den,k,rfl,t,hk,?_⟩;generalize((Int.gcd B x.den:Nat):Int)=g at*;have U:g.natAbs<2^k:=by lia
   have Z4:0<B/g:=ip d (Tb S) P;have Y:B/g<=B:=lL _ (Tb d);have I:(B/g).natAbs<2^k:=by lia
   walk_at "vs";rw[L9 _ (Tb S)];refine⟨⟨by lia,fR U (by lia)⟩,aL I t (by lia),f _ (Int.mul_pos Z4 p) WY ?_ ⟨B/g,de _ _⟩⟩;obtain⟨j,l⟩:=WX;refine⟨j,?_⟩;rw[l,←gL,hV P]
 ·rintro _ ⟨B,o2,o3,⟨d,b,s⟩,rfl⟩;rw[Ap]at s;have F:∀x∈o,(x.den:Int)∣B:=λx c=>by obtain⟨j,l,e⟩:=dt c;exact s j x l (by rw[←e];exact B1 l)
  have O:=a _ d b;have L:∀x∈o,(x.num*(B/x.den)).natAbs<2^n:=λx r=>by
   have v:=F x r;have e:=(A x r).dvd;obtain⟨j,l⟩:=b;have e2:D/x.den=B/x.den*j:=by rw[l];exact Int.mul_ediv_assoc' _ v|>λh=>by rw[←h]
   have j0:j≠0:=λz=>by rw[z,SF]at l;lia
   refine Fm ?_ e.2;rw[e2,←gL,Fn (x.num*(B/x.den)) j];exact kz _ (by lia)
  walk_at "vs";refine cu (h:=wq) (g:=λx=>.int (x.num*(B/x.den))) o [] _ (λx c K hK=>?_) (au (by simpa using DD hl (by decide))) ?_
  ·have p:0<(x.den:Int):=by have:=x.den_pos;lia
   have t:=a _ p (A x c).dvd.1;have H:=L x c;have q0:0<B/x.den:=ip d (Tb p) (F x c);have I:(B/x.den).natAbs<2^k:=by have E:=lL (x.den:Int) (Tb d);lia
   have W0:x.num.natAbs<2^n:=by refine Fm ?_ H;rw[Fn];exact kz _ (by lia)
   refine⟨_,rfl,_,rfl,⟨ir x,fR t (by lia)⟩,?_⟩;walk_at "vs";rw[L9 _ (Tb p)];exact⟨aL W0 I (by lia),hK⟩
  ·refine⟨au (by simp),?_⟩;have:=Z _ B ⟨d,rfl,F⟩ b O (λz hz=>by obtain⟨x,c,rfl⟩:=KE.mp hz;exact L x c);unfold wI at this;rw[Ta]at this;exact this
noncomputable def eu:List CS:=[.set 1 (.int 0),.fr [2] true (.var 0) [.set 1 (.call 0 [(.var 2),(.var 1)]),.iff (.cmp .Eq (.var 1) (.int 1)) [.ret (.tup [(.int 1),(.blt .list [(.var 0)])])] []],.ret (.tup [(.var 1),(.comp [0] true 1 (.var 0) (.bl true) (.bin .FloorDiv (.var 0) (.var 2)))])]
structure Yt(ns:List Int)(c:Int)(ms:List Int):Prop where
 pos:0<c
 dv:∀x∈ns,c∣x
 all:∀d:Int,(∀x∈ns,d∣x)->d∣c
 eq:ms=ns.map (·/c)
noncomputable def iZ:bN:=λd Q _=>∃(a:List Int)(n:Nat),d=[wI a]/\((∃x∈a,x≠0)/\a.length<=500/\n<=6000/\∀x∈a,x.natAbs<2^n)/\∀c b,Yt a c b->c.natAbs<2^n->Q (.tup [.int c,wI b])
theorem yh{G:Nat->W}{m:Md}(t:List W)(Q:W->Prop)(R:Addr->Prop)(h:iZ t Q R):wSs (c9 [Ai]) G eu (cW m Q R) (aA 3 t):=by
 obtain⟨a,n,rfl,⟨⟨H,T,I⟩,p,J,L⟩,v⟩:=h;show wSs _ _ eu _ [some (wI a),none,none];unfold eu;simp only[wSs,wS,wE,look,List.set];unfold wI at*;walk_at "vs";refine b9 (λi F=>∃(c:Int)(o2:Option W),(0<=c/\(∀j,j<i->j<a.length->c∣a.getD j 0)/\(∀d:Int,(∀x∈a,d∣x)->d∣c)/\c.natAbs<2^n)/\F=[some (.lst (a.map W.int)),some (.int c),o2]) ⟨0,none,⟨by decide,λj h=>by lia,λd _=>Int.dvd_zero d,U2 (by decide)⟩,rfl⟩ ?_ ?_
 ·rintro i w _ N o ⟨c,o2,⟨s,f,q,l⟩,rfl⟩ M;have A:i<a.length:=by have:=(Fu.mp o).1;simpa using this
  rw[int_at A]at o;cases o;have y:a.getD i 0∈a:=Sub.getD_mem' A;walk_at "vs";refine⟨a.getD i 0,c,n,rfl,l,J,?_⟩;have P:((Int.gcd (a.getD i 0) c:Nat):Int)∣a.getD i 0:=dk ..;have D:((Int.gcd (a.getD i 0) c:Nat):Int)∣c:=Pl ..;have C:∀d:Int,(∀x∈a,d∣x)->d∣((Int.gcd (a.getD i 0) c:Nat):Int):=λd h=>Int.dvd_coe_gcd (h _ y) (q d h);have B:((Int.gcd (a.getD i 0) c:Nat):Int).natAbs<2^n:=by
   rcases Int.lt_or_eq_of_le s with r|r
   ·have:=Ya r D;lia
   ·rw[←r,Int.gcd_zero_right];have:=L _ y;lia
  have S:0<=((Int.gcd (a.getD i 0) c:Nat):Int):=by lia
  generalize((Int.gcd (a.getD i 0) c:Nat):Int)=g at*;have k:∀j,j<i+1->j<a.length->g∣a.getD j 0:=λj b p=>by
   by_cases e:j=i
   ·subst e;exact P
   ·exact Int.dvd_trans D (f j (by lia) p)
  walk_at "vs";by_cases e:g=1
  ·rw[KM e];walk_at "vs";subst e;have:=v 1 a ⟨by decide,λx _=>Int.one_dvd x,C,by simp⟩ B;exact⟨au (by simp),this⟩
  ·rw[OK e];walk_at "vs";exact M _ ⟨g,_,⟨S,k,C,B⟩,rfl⟩
 ·rintro _ ⟨c,o2,⟨s,f,q,l⟩,rfl⟩;rw[Ap]at f;have k:∀x∈a,c∣x:=λx u=>by obtain⟨j,b,e⟩:=dt u;have:=f j b b;rw[AC,B1 b]at this;rw[←e];exact this
  have E:0<c:=by
   rcases Int.lt_or_eq_of_le s with z|z
   ·exact z
   ·have:=k H T;rw[←z,Int.zero_dvd]at this;exact absurd this I
  walk_at "vs";refine cu (h:=W.int) (g:=λx=>.int (x/c)) a [] _ (λx u K O=>?_) (au (by simpa using DD p (by decide))) ?_
  ·walk_at "vs";rw[L9 _ (Tb E)];exact⟨⟨by lia,fR l (by lia)⟩,O⟩
  ·refine⟨au (by simp),?_⟩;have:=v c _ ⟨E,k,q,rfl⟩ l;rw[Ta]at this;exact this
noncomputable def eE:List CS:=[.zS [1,2] (.call 0 [(.var 0)]),.zS [3,1] (.call 1 [(.var 1)]),.ret (.tup [(.var 1),(.var 2),(.var 3)])]
structure Prim(rs:List Rat)(ms:List Int)(B c:Int):Prop where
 bpos:0<B
 cpos:0<c
 len:ms.length=rs.length
 at_:∀i,(ms.getD i 0:Rat)*c=rs.getD i 0*B
 one:∀d:Int,(∀x∈ms,d∣x)->d∣1
noncomputable def fT:bN:=λd Q _=>∃(a:List Rat)(D:Int)(n k:Nat),d=[af a]/\((∃x∈a,x≠0)/\(∀x∈a,Cd D n x)/\0<D/\D.natAbs<2^k/\k<=6000/\n<=6000/\a.length<=100)/\∀(b:List Int)(B c:Int),Prim a b B c->B.natAbs<2^k->c.natAbs<2^n->(∀x∈b,x.natAbs<2^n)->Q (.tup [wI b,.int B,.int c])
theorem ud{α:Type}{l:List α}{f:α->Int}{i:Nat}{x:α}(h:l[i]?=some x):(l.map f).getD i 0=f x:=by rw[AC,FM,h];rfl
theorem KO{a:List Rat}{ns f:List Int}{B c:Int}(g:Yp a ns B)(b:Yt ns c f):Prim a f B c:=by
 have p:ns.length=a.length:=by rw[g.eq,Ap]
 have o:f.length=a.length:=by rw[b.eq,Ap,p]
 refine⟨g.pos,b.pos,o,λi=>?_,λd r=>?_⟩
 ·by_cases q:i<a.length
  ·have k:=B1 q;have v:ns.getD i 0=a[i].num*(B/a[i].den):=by rw[g.eq];exact ud k
   have l:ns[i]?=some (ns.getD i 0):=by rw[AC,B1 (by lia)];rfl
   have u:f.getD i 0=ns.getD i 0/c:=by rw[b.eq];exact ud l
   have w:=b.dv _ (NA l);have:f.getD i 0*c=ns.getD i 0:=by rw[u];exact hV w
   have t:((f.getD i 0:Int):Rat)*(c:Rat)=((ns.getD i 0:Int):Rat):=by rw[←this,Qb]
   rw[t,v];have s:a.getD i 0=a[i]:=by rw[AC,k];rfl
   rw[s];exact nH (g.dv _ (TB _))
  ·have n:f.getD i 0=0:=by rw[AC,Dx (by lia)];rfl
   have m:a.getD i 0=0:=by rw[AC,Dx (by lia)];rfl
   rw[n,m];show((0:Int):Rat)*_=0*_;grind
 ·have:=b.all (d*c) λx j=>by have e:=r (x/c) (by rw[b.eq];exact KE.mpr ⟨x,j,rfl⟩);obtain⟨y,h⟩:=e;refine⟨y,?_⟩;rw[←hV (b.dv x j),h];grind
  obtain⟨y,h⟩:=this;refine⟨y,?_⟩;have z:=b.pos;have:c*1=c*(d*y):=by rw[fI];rw[de c,gL,de y c,←gL];exact h
  exact Sr (by lia) this
theorem yi{G:Nat->W}{m:Md}(f:List W)(Q:W->Prop)(R:Addr->Prop)(h:fT f Q R):wSs (c9 [mG,iZ]) G eE (cW m Q R) (aA 4 f):=by
 obtain⟨e,D,n,k,rfl,⟨⟨a,o,p⟩,w,A,H,v,t,u⟩,s⟩:=h;show wSs _ _ eE _ [some (af e),none,none,none];unfold eE;walk_at "vs";refine⟨e,D,n,k,rfl,⟨w,A,H,v,by lia,u⟩,λg B b J F l=>?_⟩;refine⟨rfl,?_⟩;walk_at "vs";have I:g.length=e.length:=by rw[b.eq,Ap]
 refine⟨g,n,rfl,⟨⟨a.num*(B/a.den),by rw[b.eq];exact KE.mpr ⟨a,o,rfl⟩,?_⟩,by lia,t,l⟩,λc q j E=>?_⟩
 ·have d:=b.dv a o;have C:0<(a.den:Int):=by have:=a.den_pos;lia
  have:0<B/a.den:=ip b.pos (Tb C) d;exact Jn (λz=>p (Rat.num_eq_zero.mp z)) (by lia)
 ·refine⟨rfl,?_⟩;walk_at "vs";refine⟨au (by simp),s q B c (KO b j) F E λx i=>?_⟩;rw[j.eq]at i;obtain⟨y,r,rfl⟩:=KE.mp i;have:=X9 y c;have:=l y r;lia
noncomputable def cK:List CS:=[.iff (.cmp .Eq (.var 2) (.int 0)) [.ret (.var 0)] [],.ret (.bin .FloorDiv (.call 0 [(.var 1),(.var 2)]) (.call 0 [(.var 0),(.bin .Sub (.var 2) (.int 1))]))]
noncomputable def fE:bN:=λb Q _=>∃(h l:Int)(a n:Nat),b=[.int h,.int l,.int a]/\(h.natAbs<2^n/\l.natAbs<2^n/\n*(a+1)<=60000000/\(0<a->h^(a -1)≠0/\(h^(a -1)).natAbs.log2<1000000000))/\Q (.int (Sub.hnext h l a))
theorem sI{G:Nat->W}{m:Md}(c:List W)(Q:W->Prop)(R:Addr->Prop)(h:fE c Q R):wSs (c9 [mE]) G cK (cW m Q R) (aA 3 c):=by
 obtain⟨h,l,a,n,rfl,⟨k,j,d,f⟩,b⟩:=h;show wSs _ _ cK _ [some (.int h),some (.int l),some (.int a)];unfold cK;walk_at "vs";by_cases z:(a:Int)=0
 ·rw[KM z];walk_at "vs";have e:Sub.hnext h l a=h:=by unfold Sub.hnext;rw[Bz (by lia)]
  rw[e]at b;exact b
 ·rw[OK z];walk_at "vs";obtain⟨i,g⟩:=f (by lia);have e:Sub.hnext h l a=(l^a).fdiv (h^(a -1)):=by unfold Sub.hnext;rw[BM (by lia)]
  rw[e]at b;refine⟨l,a,n,rfl,j,d,?_⟩;rw[show(a:Int) -1=((a -1:Nat):Int) by lia];refine⟨h,a -1,n,rfl,k,DD (Ee _ (by lia)) d,?_⟩;walk_at "vs";exact⟨⟨i,g⟩,b⟩
theorem eV{x:Nat}{n m:Nat}(h:x<2^n)(a:n<=m):x<2^m:=FC h (GE (by decide) a)
theorem yj{a b:Int}{n:Nat}(d:a.natAbs<n)(c:b.natAbs<n):(a -b).natAbs<2*n:=by have:=Int.natAbs_sub_le a b;lia
theorem W2{p i:Nat}(h:p<i):i -p=(i -(p+1))+1:=by lia
theorem nZ{ns:List Int}{n:Nat}(h:∀x∈ns,x.natAbs<2^n)(k:Nat):(ns.getD k 0).natAbs<2^n:=by
 by_cases a:k<ns.length
 ·rw[AC,B1 a];exact h _ (TB a)
 ·rw[outI (by lia)];exact U2 (by decide)
theorem ME{ns:List Int}(h:0<ns.length):kZ (ns.map W.int) (-1)=some (.int (ns.getD (ns.length -1) 0)):=by refine jL ?_;rw[P2,Ap,int_at (by omega)]
theorem qK{n k:Nat}{f:Nat->Int}(h:k<n):(tabI n f).getD k 0=f k:=by rw[AC,iY h];rfl
theorem vF(n:Nat)(f:Nat->Int)(k:Nat):(tabI n f).getD k 0=if k<n then f k else 0:=by
 by_cases h:k<n
 ·rw[Bz h,qK h]
 ·rw[BM h];exact outI (by rw[bf];lia)
theorem qL{n:Nat}{f:Nat->Int}{x:Int}(h:x∈tabI n f):∃k,k<n/\x=f k:=by unfold tabI at h;obtain⟨k,a,rfl⟩:=KE.mp h;exact⟨k,SB.mp a,rfl⟩
theorem yk{n:Nat}{f g:Nat->Int}(h:∀k,k<n->f k=g k):tabI n f=tabI n g:=by unfold tabI;exact Yf λk a=>h k (SB.mp a)
theorem GX(n:Nat)(x:Int):List.replicate n (W.int x)=(tabI n λ_=>x).map W.int:=by unfold tabI;rw[List.map_const',Xt,List.map_replicate]
theorem DC{n:Nat}(ns:List Int)(h:ns.length=n):ns=tabI n λk=>ns.getD k 0:=by
 refine SC λj=>?_;by_cases a:j<n
 ·rw[iY a,AC,B1 (by lia)];rfl
 ·rw[Dx (by lia),Dx (by rw[bf];lia)]
theorem BS{r n s:Nat}{w:W}(h:(gy ((r:Int) -1) (-1) n)[s]?=some w):s<n/\w=.int ((r:Int) -1 -s):=by unfold gy at h;rw[FM]at h;obtain⟨j,e,rfl⟩:=N0.mp h;obtain⟨b,a⟩:=Fu.mp e;rw[List.getElem_range]at a;rw[Xt]at b;refine⟨b,?_⟩;rw[←a];congr 1;lia
theorem DE(a st:Int)(n:Nat):(gy a st n).length=n:=by unfold gy;simp
theorem ue{r:Nat}{Q:List W->Prop}(h:r<=1000)(q:Q (gy ((r:Int) -1) (-1) r)):F6 [.int ((r:Int) -1),.int (-1),.int (-1)] Q:=
 ⟨r,⟨by decide,by decide,Ak h,uc⟩,q⟩
theorem KQ{R:List Int}(h:0<R.length):∃a x,R=a++[x]:=
 ⟨R.dropLast,R.getLast (λz=>by rw[z]at h;cases h),(cm _).symm⟩
theorem pop_at{a:List Int}{x:Int}:((a++[x]).map W.int)[((a++[x]).map W.int).length -1]?=some (.int x):=by simp
theorem QD{a:List Int}{x:Int}:((a++[x]).map W.int).dropLast=a.map W.int:=by simp
noncomputable def bZ:List CS:=[.set 2 (.blt .max2 [(.bin .Add (.bin .Sub (.blt .len [(.var 0)]) (.blt .len [(.var 1)])) (.int 1)),(.int 0)]),.set 3 (.ix (.var 1) (.neg (.int 1))),.set 4 (.blt .list [(.var 0)]),.set 5 (.bin .Mult (.lst [(.int 0)]) (.var 2)),.fr [6] true (.oj [(.bin .Sub (.var 2) (.int 1)),(.neg (.int 1)),(.neg (.int 1))]) [.sF 7 (.pop 4),.put 5 (.var 6) (.var 7),.set 4 (.call 0 [(.var 4),(.var 3)]),.fr [8] true (.oj [(.bin .Sub (.blt .len [(.var 1)]) (.int 1))]) [.put 4 (.bin .Add (.var 6) (.var 8)) (.bin .Sub (.ix (.var 4) (.bin .Add (.var 6) (.var 8))) (.bin .Mult (.var 7) (.ix (.var 1) (.var 8))))]],.set 9 (.int 1),.fr [6] true (.oj [(.var 2)]) [.put 5 (.var 6) (.bin .Mult (.ix (.var 5) (.var 6)) (.var 9)),.set 9 (.bin .Mult (.var 9) (.var 3))],.ret (.tup [(.var 5),(.call 1 [(.var 4)]),(.var 9)])]
structure QE(ns ms:List Int)(N M:Nat)(Qs R:List Int):Prop where
 Uz:Qs.length=ns.length+1 -ms.length
 UA:R.length<ms.length
 eq:∀k,(ms.getD (ms.length -1) 0)^(ns.length+1 -ms.length)*ns.getD k 0=tT (λi=>Qs.getD i 0) (λi=>ms.getD i 0) k+R.getD k 0
 bQ:∀x∈Qs,x.natAbs<2^(N+(ns.length+1 -ms.length)*(M+1))
 bR:∀x∈R,x.natAbs<2^(N+(ns.length+1 -ms.length)*(M+1))
 last:R=[]\/R.getD (R.length -1) 0≠0
noncomputable def dw:bN:=λd Q _=>∃(b a:List Int)(N M:Nat),d=[wI b,wI a]/\(0<a.length/\b.length<=100/\a.length<=100/\(∀x∈b,x.natAbs<2^N)/\(∀x∈a,x.natAbs<2^M)/\N+101*(M+1)<=1000000)/\
 ∀c R:List Int,QE b a N M c R->Q (.tup [wI c,wI R,.int ((a.getD (a.length -1) 0)^(b.length+1 -a.length))])
theorem oS{G:Nat->W}{m:Md}(ws:List W)(Q:W->Prop)(R:Addr->Prop)(h:dw ws Q R):wSs (c9 [jN,jr]) G bZ (cW m Q R) (aA 10 ws):=by
 obtain⟨u,b,N,M,rfl,⟨lm,la,lb,bn,bm,hNM⟩,q⟩:=h;show wSs _ _ bZ _ [some (wI u),some (wI b),none,none,none,none,none,none,none,none];unfold bZ wI;walk_at "vs";have eR:(if(0:Int)>((u.map W.int).length:Int) -((b.map W.int).length:Int)+1 then(0:Int)else((u.map W.int).length:Int) -((b.map W.int).length:Int)+1)=((u.length+1 -b.length:Nat):Int):=by rw[Ap,Ap];split<;>lia
 have U:=nZ bm (b.length -1);have eL:=ME lm;have o:∀s,s<=u.length+1 -b.length->s*(M+1)<=101*(M+1):=λs r=>XB _ (by lia);rw[eR];have Z5:(b.map W.int).length=b.length:=Ap _;generalize hl:b.getD (b.length -1) 0=l at*;generalize S:u.length+1 -b.length=a at*;refine⟨_,eL,?_⟩;walk_at "vs";rw[Int.toNat_natCast,mj,GX];refine⟨au (by simp),by lia,by lia,au (by simp;lia),?_⟩;refine ue (by lia) ?_;walk_at "vs";refine b9 (λs P=>∃(R:List Int)(r H:Nat->Int)(I X B:Option W),(uS u b l s H R/\R.length=u.length -s/\(∀x∈R,x.natAbs<2^(N+s*(M+1)))/\(∀i,i<a->a -s<=i->H i=r i*l^(i -(a -s))/\(r i).natAbs<2^(N+(a -1 -i)*(M+1)))/\(∀i,(i<a -s\/a<=i)->H i=0))/\P=[some (.lst (u.map W.int)),some (.lst (b.map W.int)),some (.int a),some (.int l),some (.lst (R.map W.int)),some (.lst ((tabI a r).map W.int)),I,X,B,none]) ⟨u,λ_=>0,λ_=>0,none,none,none,⟨uS.start u b l,by lia,λx hx=>by rw[Nat.zero_mul];exact bn x hx,λi h1 h2=>by lia,λ_ _=>rfl⟩,rfl⟩ ?_ ?_
 ·rintro s w _ N1 hw ⟨R,L,H,I,X,B,⟨O,lR,T,D,hz⟩,rfl⟩ ju;obtain⟨r,rfl⟩:=BS hw;have hp:((a:Nat):Int) -1 -(s:Int)=((a -1 -s:Nat):Int):=by lia
  rw[hp];generalize hpp:a -1 -s=p at*;have J:a=p+s+1:=by lia
  obtain⟨d,A⟩:∃d,b.length=d+1:=⟨_,(Nat.succ_pred_eq_of_pos lm).symm⟩;have hn:u.length=p+d+(s+1):=by lia
  have bs:=o s (Mo r);have Yu:=o (s+1) r;clear hpp hp S;have r2:a -s=p+1:=by rw[J,Nat.add_right_comm,PH]
  have r1:a -(s+1)=p:=by rw[J];exact PH p (s+1)
  have e1:p+b.length -1=p+d:=by rw[A];rfl
  have Rx:R.length=p+b.length:=by rw[lR,hn,A,←fw,Nat.add_right_comm,PH];rfl
  obtain⟨c,x,rfl⟩:=KQ (R:=R) (by rw[Rx,A];exact Nat.succ_pos _);have Rk:c.length=p+d:=by rw[Fh,A]at Rx;exact Nat.succ.inj Rx
  have ex:(c++[x]).getD (p+d) 0=x:=by rw[AC,Ha (i4 Rk),Rk,hZ];rfl
  have eg:∀k,k<p+d->(c++[x]).getD k 0=c.getD k 0:=λk v=>by rw[AC,IR (by rw[Rk];exact v),←AC]
  have bx:x.natAbs<2^(N+s*(M+1)):=T x (Gc _ (GM.mpr rfl));have Yv:∀y∈c,y.natAbs<2^(N+s*(M+1)):=λy C=>T y (RF _ C);walk_at "vs";refine⟨_,pop_at,?_⟩;rw[QD];walk_at "vs";refine⟨p,nY (by rw[Ap,bf,J];exact Nat.lt_succ_of_le (T1 _ _)),?_⟩;have et:=mF (n:=a) (f:=L) (g:=λk=>if k=p then x else L k) (k:=p) (by rw[J];exact Nat.lt_succ_of_le (T1 _ _)) (λj _ Z=>BM Z);rw[Bz rfl]at et;rw[←i5,et];refine⟨c,l,rfl,by lia,λy C=>aL U (Yv y C) (by lia),?_⟩;have em:(c.map λy=>l*y)=tabI (p+d) λk=>l*c.getD k 0:=by
   conv=>lhs;rw[DC c Rk]
   unfold tabI;rw[Ta];rfl
  rw[em];unfold wI;walk_at "vs";rw[Z5];refine⟨by lia,by lia,?_⟩;rw[show((b.length:Int) -1).toNat=d by rw[A];lia];refine b9 (λj P=>∃(B:Option W),P=[some (.lst (u.map W.int)),some (.lst (b.map W.int)),some (.int a),some (.int l),some (.lst ((tabI (p+d) λk=>if p<=k/\k<p+j then l*c.getD k 0 -x*b.getD (k -p) 0 else l*c.getD k 0).map W.int)),some (.lst ((tabI a λk=>if k=p then x else L k).map W.int)),some (.int p),some (.int x),B,none]) ⟨B,?_⟩ ?_ ?_
  ·rw[yk (n:=p+d) (f:=λk=>if p<=k/\k<p+0 then l*c.getD k 0 -x*b.getD (k -p) 0 else l*c.getD k 0) λk _=>BM (show¬(p<=k/\k<p+0)from λz=>NM _ (FC z.2 z.1))]
  ·rintro j w _ N2 yV ⟨B,rfl⟩ Ef;obtain⟨Z,rfl⟩:=qJ yV;have ix:p+j<p+d:=Nat.add_lt_add_left Z p;walk_at "vs";rw[show(p:Int)+(j:Int)=((p+j:Nat):Int) by lia];refine⟨_,bT (by rw[FM,iY ix];rfl),?_⟩;rw[BM (show¬(p<=p+j/\p+j<p+j)from λz=>NM _ z.2)];refine⟨_,bT (int_at (by rw[A];exact cx Z)),?_⟩;walk_at "vs";refine⟨aL bx (nZ bm j) (by lia),p+j,nY (by rw[Ap,bf];exact ix),Ef _ ⟨some (.int j),?_⟩⟩;have e:=mF (n:=p+d) (f:=λk=>if p<=k/\k<p+j then l*c.getD k 0 -x*b.getD (k -p) 0 else l*c.getD k 0) (g:=λk=>if p<=k/\k<p+(j+1)then l*c.getD k 0 -x*b.getD (k -p) 0 else l*c.getD k 0) ix (λk _ v=>by
    by_cases t:p<=k/\k<p+j
    ·rw[Bz t,Bz ⟨t.1,cx t.2⟩]
    ·rw[BM t,BM λz=>t ⟨z.1,Nat.lt_of_le_of_ne (Nat.le_of_lt_succ z.2) v⟩])
   rw[Bz ⟨T1 _ _,Os _⟩,W1]at e;rw[←e,i5]
  ·rintro _ ⟨B,rfl⟩;rw[DE];refine ju _ ⟨_,λk=>if k=p then x else L k,λi=>l*H i+if i=p then(c++[x]).getD (p+b.length -1) 0 else 0,_,_,_,⟨O.step lm hl.symm Rx (R':=tabI (p+d) λk=>if p<=k/\k<p+d then l*c.getD k 0 -x*b.getD (k -p) 0 else l*c.getD k 0) (by rw[bf,e1]) (λk v=>?_),by rw[bf,hn,PH],λy C=>?_,λi h1 h2=>?_,λi h=>?_⟩,rfl⟩
   ·rw[e1]at v;rw[qK v,e1,ex,eg k v];by_cases E:p<=k
    ·rw[Bz ⟨E,v⟩,Bz E]
    ·rw[BM λz=>E z.1,BM E,Int.sub_zero]
   ·obtain⟨k,v,rfl⟩:=qL C;have c1:(l*c.getD k 0).natAbs<2^(M+(N+s*(M+1))):=by rw[Fn];exact lt_mul U (nZ Yv k)
    have c2:(x*b.getD (k -p) 0).natAbs<2^(M+(N+s*(M+1))):=by rw[Fn,da];exact lt_mul (nZ bm _) bx
    have c3:2^(N+(s+1)*(M+1))=2*2^(M+(N+s*(M+1))):=by rw[Nat.add_mul,Nat.one_mul,show N+(s*(M+1)+(M+1))=(M+(N+s*(M+1)))+1 by lia,Nat.pow_succ];lia
    rw[c3];split
    ·exact yj c1 c2
    ·exact FC c1 (lj _ (by decide))
   ·show l*H i+(if i=p then _ else 0)=(if i=p then x else L i)*l^(i -(a -(s+1)))/\(if i=p then x else L i).natAbs<_;rw[r1]at h2⊢;rw[r2]at D hz;by_cases K:i=p
    ·rw[Bz K,Bz K,hz i (.inl (by rw[K];exact Os p)),e1,ex,K,hZ,Qr];refine⟨by rw[SF,Int.zero_add,fI],?_⟩;rw[show a -1 -p=s by rw[J];exact W1 p s];exact bx
    ·have pi:=Nat.lt_of_le_of_ne h2 (Pt K);have hh:=D i h1 pi;rw[BM K,BM K,hh.1,W2 pi,Ki];exact⟨by grind,hh.2⟩
   ·show l*H i+(if i=p then _ else 0)=0;rw[r1,J]at h;rw[BM (by clear O D hz bs Yu;lia),hz i (by rw[r2,J];clear O D hz bs Yu;lia),SF];rfl
 ·rintro _ ⟨R,r,H,I,X,B,⟨O,lR,T,D,hz⟩,rfl⟩;rw[DE]at O lR T D hz;have brr:=o a (by lia);walk_at "vs";refine⟨by lia,by lia,?_⟩;rw[Int.toNat_natCast];refine b9 (λj P=>∃(I:Option W),P=[some (.lst (u.map W.int)),some (.lst (b.map W.int)),some (.int a),some (.int l),some (.lst (R.map W.int)),some (.lst ((tabI a λk=>if k<j then r k*l^k else r k).map W.int)),I,X,B,some (.int (l^j))]) ⟨I,?_⟩ ?_ ?_
  ·rw[Qr,yk (n:=a) (f:=λk=>if k<0 then r k*l^k else r k) λk _=>BM (Nat.not_lt_zero k)]
  ·rintro j w _ N2 yV ⟨I,rfl⟩ Ef;obtain⟨F,rfl⟩:=qJ yV;have bh:=(D j F (by lia)).2;have bp:=FI (i:=j) U;have Yw:(l^j).natAbs<2^(M*j+1):=by
    have:2^(M*j+1)=2*2^(M*j):=by rw[Nat.pow_succ];lia
    have:0<2^(M*j):=U2 (by decide);lia
   have k1:=o (a -1 -j) (by lia);have k2:M*j<=M*101:=Ee _ (by lia);walk_at "vs";refine⟨_,bT (by rw[FM,iY F];rfl),?_⟩;rw[BM (NM j)];walk_at "vs";refine⟨aL bh Yw (by lia),j,nY (by rw[Ap,bf];exact F),aL Yw U (by lia),?_⟩;have e:=mF (n:=a) (f:=λk=>if k<j then r k*l^k else r k) (g:=λk=>if k<j+1 then r k*l^k else r k) F (λk _ v=>by
    by_cases t:k<j
    ·rw[Bz t,Bz (by lia)]
    ·rw[BM t,BM (by lia)])
   rw[Bz (Os j)]at e;rw[←i5,e];refine Ef _ ⟨some (.int j),?_⟩;rw[Ki]
  ·rintro _ ⟨I,rfl⟩;rw[DE];walk_at "vs";refine⟨R,rfl,λts Y=>?_⟩;refine⟨au (by simp),?_⟩;have tl:=xw Y;have Z6:∀i,H i=(tabI a λk=>if k<a then r k*l^k else r k).getD i 0:=λi=>by
    rw[vF];by_cases hi:i<a
    ·rw[Bz hi,Bz hi,(D i hi (by lia)).1,show i -(a -a)=i by lia]
    ·rw[BM hi,hz i (by lia)]
   refine q _ ts ⟨?_,by lia,λk=>?_,λy C=>?_,λy C=>?_,Y.last⟩
   ·rw[bf,S]
   ·rw[S,hl,O k,AY Y];congr 2;exact funext Z6
   ·obtain⟨k,v,rfl⟩:=qL C;rw[Bz v,Fn,S];refine eV (IY (D k v (by lia)).2 (FI (i:=k) U)) ?_;have e:a*(M+1)=(a -1 -k)*(M+1)+(k+1)*(M+1):=by rw[←Nat.add_mul,show a -1 -k+(k+1)=a by lia]
    have e2:M*k<=(k+1)*(M+1):=by rw[da];exact On (by lia) (by lia)
    lia
   ·rw[S];exact T y (Y.mem y C)
end VL
namespace L2
open PySem
end L2
namespace VL
open PySem PySem.Spec
open PyProof.Rows hiding St
open L2 Num
noncomputable def mH:List CS:=[.zS [2,3] (.var 0),.zS [4,5] (.var 1),.set 6 (.call 0 [(.var 2),(.var 5)]),.set 7 (.call 0 [(.var 4),(.var 3)]),.ret (.tup [(.bin .Mult (.bin .FloorDiv (.var 2) (.var 6)) (.bin .FloorDiv (.var 4) (.var 7))),(.bin .Mult (.bin .FloorDiv (.var 3) (.var 7)) (.bin .FloorDiv (.var 5) (.var 6)))])]
noncomputable def n5:bN:=λe Q _=>∃(a b:Rat)(d c n m:Nat),e=[wq a,wq b]/\(Wq d n a/\Wq c m b/\d<=1000000/\c<=1000000/\n<=6000/\m<=6000)/\Q (wq (a*b))
theorem KR{G:Nat->W}{m:Md}(c:List W)(Q:W->Prop)(R:Addr->Prop)(h:n5 c Q R):wSs (c9 [Ai]) G mH (cW m Q R) (aA 8 c):=by
 obtain⟨a,b,C,B,n,m,rfl,⟨j,e,D,H,E,F⟩,q⟩:=h;show wSs _ _ mH _ [some (wq a),some (wq b),none,none,none,none,none,none];unfold mH wq;unfold wq at q;have A:=j.1;have l:(a.den:Int).natAbs<2^n:=by rw[Int.natAbs_natCast];exact j.2
 have z:=e.1;have k:(b.den:Int).natAbs<2^m:=by rw[Int.natAbs_natCast];exact e.2
 obtain⟨s,r,u,t⟩:=Fo a b;have p:((Int.gcd a.num b.den:Nat):Int).natAbs<2^m:=by have:((Int.gcd a.num b.den:Nat):Int)<=b.den:=Ya (dpos b) (Pl ..);lia
 have o:((Int.gcd b.num a.den:Nat):Int).natAbs<2^n:=by have:((Int.gcd b.num a.den:Nat):Int)<=a.den:=Ya (dpos a) (Pl ..);lia
 walk_at "vs";refine⟨rfl,?_⟩;walk_at "vs";refine⟨rfl,?_⟩;walk_at "vs";refine⟨a.num,b.den,m,rfl,k,by lia,?_⟩;refine⟨b.num,a.den,n,rfl,l,by lia,?_⟩;generalize((Int.gcd a.num b.den:Nat):Int)=f at*;generalize((Int.gcd b.num a.den:Nat):Int)=g at*;have cf:∀i:Int,tN i f:=λi=>⟨by lia,fR p (by lia)⟩;have d:∀i:Int,tN i g:=λi=>⟨by lia,fR o (by lia)⟩;have y:(a.num/f).natAbs<2^C:=Fm (X9 ..) A;have x:(b.num/g).natAbs<2^B:=Fm (X9 ..) z;have w:((a.den:Int)/g).natAbs<2^n:=Fm (X9 ..) l;have v:((b.den:Int)/f).natAbs<2^m:=Fm (X9 ..) k;walk_at "vs";simp only[L9 _ (Tb s),L9 _ (Tb r)];refine⟨cf _,d _,aL y x (by lia),d _,cf _,aL w v (by lia),au (by simp),?_⟩;rw[u,t]at q;exact q
abbrev Vn:List Str:=["ahead","last","factor_ahead","factor_last","lead","height","sign","scale","known"]
abbrev pG:Md:=.o Vn [.s,.s,.s,.s,.s,.s,.s,.s,.s]
noncomputable def oB(C:Addr)(A B d c:List Int)(a h sg sc b:Int):W:=.obj C Vn [wI A,wI B,wI d,wI c,.int a,.int h,.int sg,.int sc,.int b]
structure MF(A B fA fB:List Int)(ld h:Int)(N E:Nat):Prop where
 l2:2<=B.length
 UB:B.length<=A.length
 Z9:A.length<=15
 lf:fA.length<=40
 U9:fB.length<=40
 bA:∀x∈A,x.natAbs<2^N
 bB:∀x∈B,x.natAbs<2^N
 Yz:∀x∈fA,x.natAbs<2^N
 W3:∀x∈fB,x.natAbs<2^N
 bl:ld.natAbs<2^N
 bh:h.natAbs<2^N
 hN:N<=5000
 hE:E<=7900
 k0:ld*h^(A.length -B.length)≠0
 kE:(ld*h^(A.length -B.length)).natAbs<=2^E
 h0:0<A.length -B.length->h^(A.length -B.length -1)≠0/\(h^(A.length -B.length -1)).natAbs<=2^E
noncomputable def QG(A B a R:List Int)(c:Int):Prop:=c=B.getD (B.length -1) 0^(A.length -B.length+1)/\a.length=A.length -B.length+1/\(∀k,R.getD k 0=c*A.getD k 0 -cf a B a.length k)/\R.length<B.length/\(R=[]\/R.getD (R.length -1) 0≠0)
noncomputable def UC(b a d F:List Int)(c:Int):Prop:=(∀k,F.getD k 0=c*b.getD k 0 -cf d a d.length k)/\F.length<=max b.length (d.length+a.length -1)/\(a=[]->F.length<=b.length)
noncomputable def KU(A B:List Int)(sg:Int):Int:=Sub.sg ((A.length -1)*(B.length -1))*sg
theorem GY(n:Nat):Sub.sg n=if n%2=0 then 1 else-1:=by
 unfold Sub.sg
 induction n with
 |zero=>rfl
 |succ n a=>
  rw[Ki,a];by_cases h:n%2=0
  ·rw[Bz h,BM (by lia)];rfl
  ·rw[BM h,Bz (by lia)];rfl
theorem GZ{A B:List Int}{sg:Int}(d:0<A.length)(c:0<B.length)(b:A.length%2=0)(a:B.length%2=0):KU A B sg= -sg:=by
 unfold KU;rw[GY,BM]
 ·lia
 ·rw[Nat.mul_mod,show(A.length -1)%2=1 by lia,show(B.length -1)%2=1 by lia];decide
theorem G0{A B:List Int}{sg:Int}(c:0<A.length)(b:0<B.length)(h:¬(A.length%2=0/\B.length%2=0)):KU A B sg=sg:=by
 unfold KU;rw[GY,Bz]
 ·exact ey _
 ·rw[Nat.mul_mod];by_cases a:A.length%2=0
  ·rw[show(B.length -1)%2=0 by lia,Nat.mul_zero]
  ·rw[show(A.length -1)%2=0 by lia,Nat.zero_mul]
theorem pI{n:Nat}:(n:Int).fmod 2=0↔n%2=0:=by rw[il _ (by decide)];lia
noncomputable def ym(C:Addr):bN:=λg Q _=>∃(A B d b:List Int)(a h sg sc f:Int)(N E:Nat),g=[oB C A B d b a h sg sc f]/\MF A B d b a h N E/\
 (∀(e:List Int)(c:Int),QG A B e [] c->Q (.tup [.bl false,oB C A B d b a h sg sc f]))/\
 (∀(e R F:List Int)(c:Int),R≠[]->QG A B e R c->UC d b e F c->Q (.tup [.bl true,oB C B (R.map λy=>y.fdiv (a*h^(A.length -B.length))) b (F.map λy=>y.fdiv (a*h^(A.length -B.length))) (B.getD (B.length -1) 0) (Sub.hnext h (B.getD (B.length -1) 0) (A.length -B.length)) (KU A B sg) c (a*h^(A.length -B.length))]))
theorem yo{n m:Nat}(h:Nat.blt n m=true):n<m:=Nat.le_of_ble_eq_true h
theorem UD{y:Int}{n:Nat}(h:y.natAbs<2^n)(e:Nat):(y^e).natAbs<2^(n*e+1):=by rw[Sub.iS];refine Fm (QR (Mo h) e) ?_;rw[←dE];exact Q1 (by decide) (Os _)
theorem QH(a bs:List Int)(k:Nat):(if a=[]\/bs=[]then[]else tabI (a.length+bs.length -1) (cf a bs a.length)).getD k 0=cf a bs a.length k:=by
 by_cases b:a=[]\/bs=[]
 ·rw[Bz b];rcases b with z|z
  ·rw[z];rfl
  ·rw[AX,z];rfl
 ·rw[BM b,vF];have c:0<a.length:=ag.mpr λz=>b (.inl z);split
  ·rfl
  ·rw[xq a bs k a.length (by omega)]
theorem KW(a bs:List Int):(if a=[]\/bs=[]then[]else tabI (a.length+bs.length -1) (cf a bs a.length)).length<=a.length+bs.length -1/\(bs=[]->(if a=[]\/bs=[]then[]else tabI (a.length+bs.length -1) (cf a bs a.length)).length=0):=by
 by_cases b:a=[]\/bs=[]
 ·rw[Bz b];exact⟨Kk _,λ_=>rfl⟩
 ·rw[BM b,bf];exact⟨Do _,λz=>absurd (.inr z) b⟩
theorem QI{a bs:List Int}{n m:Nat}(g:∀y∈a,y.natAbs<2^n)(f:∀y∈bs,y.natAbs<2^m)(d:a.length<=100):∀y∈(if a=[]\/bs=[]then[]else tabI (a.length+bs.length -1) (cf a bs a.length)),y.natAbs<2^(n+m+7):=λy c=>by
 by_cases b:a=[]\/bs=[]
 ·rw[Bz b]at c;cases c
 ·rw[BM b]at c;obtain⟨k,_,rfl⟩:=qL c;refine Fm (L6 g f k a.length) ?_;have e:(2:Nat)^(n+m+7)=2^(n+m)*128:=eP 2 (n+m) 7;have h:0<2^(n+m):=U2 (by decide);rw[e];generalize 2^(n+m)=z at*;have:=XB z d;omega
theorem QJ{A B a R:List Int}{N M:Nat}(h:QE A B N M a R)(b:B.length<=A.length):QG A B a R (B.getD (B.length -1) 0^(A.length+1 -B.length)):=by
 have e:A.length+1 -B.length=A.length -B.length+1:=by lia
 refine⟨by rw[e],by rw[h.Uz,e],λk=>?_,h.UA,h.last⟩;rw[h.eq k,lK];show _=tT (λi=>a.getD i 0) (λi=>B.getD i 0) k+_ -tT (λi=>a.getD i 0) (λi=>B.getD i 0) k;lia
noncomputable def dD:List CS:=[.zS [1,2,3] (.call 0 [(.own 0 [.fl 0 "ahead"]),(.own 0 [.fl 1 "last"])]),.iff (.cmp .Eq (.var 2) (.lst [])) [.HU (.bl false)] [],.set 4 (.call 1 [(.call 2 [(.own 0 [.fl 2 "factor_ahead"]),(.var 3)]),(.call 3 [(.var 1),(.own 0 [.fl 3 "factor_last"])])]),.iff (.and [(.cmp .Eq (.bin .Mod (.blt .len [(.own 0 [.fl 0 "ahead"])]) (.int 2)) (.int 0)),(.cmp .Eq (.bin .Mod (.blt .len [(.own 0 [.fl 1 "last"])]) (.int 2)) (.int 0))]) [.C5 0 6 (.neg (.own 0 [.fl 6 "sign"]))] [],.set 5 (.bin .Sub (.blt .len [(.own 0 [.fl 0 "ahead"])]) (.blt .len [(.own 0 [.fl 1 "last"])])),.set 6 (.bin .Mult (.own 0 [.fl 4 "lead"]) (.call 4 [(.own 0 [.fl 5 "height"]),(.var 5)])),.C5 0 7 (.var 3),.C5 0 8 (.var 6),.C5 0 0 (.own 0 [.fl 1 "last"]),.C5 0 2 (.own 0 [.fl 3 "factor_last"]),.C5 0 1 (.comp [0] true 1 (.var 2) (.bl true) (.bin .FloorDiv (.var 0) (.var 7))),.C5 0 3 (.comp [0] true 1 (.var 4) (.bl true) (.bin .FloorDiv (.var 0) (.var 7))),.C5 0 4 (.ix (.own 0 [.fl 0 "ahead"]) (.neg (.int 1))),.C5 0 5 (.call 5 [(.own 0 [.fl 5 "height"]),(.own 0 [.fl 4 "lead"]),(.var 5)]),.HU (.bl true)]
theorem vG{G:Nat->W}{m:Md}{C:Addr}(S:List W)(Q:W->Prop)(R:Addr->Prop)(h:ym C S Q R):wSs (c9 [dw,fz,jN,fD,mE,fE]) G dD (cW m Q R) (aA 7 S):=by
 obtain⟨A,B,i,d,o,h,sg,sc,r,N,E,rfl,⟨l2,UB,Z9,lf,U9,bA,bB,Yz,W3,bl,P,hN,hE,k0,kE,h0⟩,Y,X⟩:=h;show wSs _ _ dD _ [some (oB C A B i d o h sg sc r),none,none,none,none,none,none];have Z:=nZ bB (B.length -1);have O:=ME (ns:=B) (by lia);unfold dD;have m1:N*(A.length+1 -B.length)<=5000*14:=On hN (by lia);have m2:(A.length+1 -B.length)*(N+1)<=14*5001:=On (by lia) (by lia);refine aN (λb=>∃a j,QE A B N N a j/\b=[some (oB C A B i d o h sg sc r),some (wI a),some (wI j),some (.int (B.getD (B.length -1) 0^(A.length+1 -B.length))),none,none,none]) (λD l=>?_) ?_
 ·unfold oB at l⊢;walk_at "vs";exact⟨A,B,N,N,rfl,⟨by lia,by lia,by lia,bA,bB,by lia⟩,λa R u=>⟨rfl,l _ ⟨a,R,u,rfl⟩⟩⟩
 rintro _ ⟨a,j,u,rfl⟩;have dR:=QJ u UB;have YA:=u.bQ;have lQ:=u.Uz;have lR:=u.UA;generalize hc:B.getD (B.length -1) 0^(A.length+1 -B.length)=c at*;obtain⟨L,hn0⟩:∃L:Nat,L=80000:=⟨_,rfl⟩;have bc:c.natAbs<2^L:=by rw[←hc];exact eV (UD Z _) (by lia)
 refine aN (λb=>j≠[]/\b=[some (oB C A B i d o h sg sc r),some (wI a),some (wI j),some (.int c),none,none,none]) (λD l=>?_) ?_
 ·walk_at "vs";refine⟨au (by simp),QB (y:=[]) λk x=>?_⟩;walk_at "vs";by_cases s:j=[]
  ·cases gk x s;walk_at "vs";subst s;exact Y a c dR
  ·cases ig x s;walk_at "vs";exact l _ ⟨s,rfl⟩
 rintro _ ⟨s,rfl⟩;refine aN (λb=>∃F,UC i d a F c/\F.length<=100/\b=[some (oB C A B i d o h sg sc r),some (wI a),some (wI j),some (.int c),some (wI F),none,none]) (λD l=>?_) ?_
 ·unfold oB at l⊢;walk_at "vs";refine⟨i,c,rfl,by lia,λy w=>aL bc (Yz y w) (by lia),?_⟩;refine⟨a,d,rfl,by lia,by lia,λy w z hz=>aL (YA y w) (W3 z hz) (by lia),?_⟩;have U:=KW a d;have tb:=QI YA W3 (by lia);have tc:=QH a d;generalize(if a=[]\/d=[]then[]else tabI (a.length+d.length -1) (cf a d a.length))=I at*;have l4:I.length<=100:=by lia
  have YB:i.length<=100:=DD lf (by decide);refine⟨_,I,_,rfl,by rw[Ap];exact DD YB (by decide),DD l4 (by decide),?_,tb,λF T=>?_⟩
  ·lia
  have H:=xw T;rw[Ap,Xt,Ap]at H;refine l _ ⟨F,⟨λk=>?_,DD H (Nat.max_le.mpr ⟨Nat.le_max_left _ _,DD U.1 (Nat.le_max_right _ _)⟩),λz=>?_⟩,DD H (Nat.max_le.mpr ⟨YB,l4⟩),rfl⟩
  ·rw[AY T,←tc k];by_cases x:k<max (i.map (c*·)).length I.length
   ·rw[AC,FM,SU x];show(i.map λy=>c*y).getD k 0 -_=_;rw[Sub.map_getD (f:=λy=>c*y) (SF c)]
   ·rw[Ap]at x;rw[outI (by rw[Ap,Xt,Ap];lia),outI (ns:=I) (by lia),outI (ns:=i) (by lia)];simp
  ·have:=U.2 z;lia
 rintro _ ⟨F,dF,H,rfl⟩;refine aN (λb=>b=[some (oB C A B i d o h (KU A B sg) sc r),some (wI a),some (wI j),some (.int c),some (wI F),none,none]) (λD l=>?_) ?_
 ·have a0:0<A.length:=by lia
  have b0:0<B.length:=by lia
  have y:¬(A.length%2=0/\B.length%2=0)->D [some (oB C A B i d o h sg sc r),some (wI a),some (wI j),some (.int c),some (wI F),none,none]:=λe=>l _ (by rw[G0 a0 b0 e]);have z:A.length%2=0->B.length%2=0->D [some (oB C A B i d o h (-sg) sc r),some (wI a),some (wI j),some (.int c),some (wI F),none,none]:=λq p=>l _ (by rw[GZ a0 b0 q p]);clear l;unfold oB wI at y z⊢;walk_at "vs";refine⟨by decide,?_⟩;by_cases q:((A.map W.int).length:Int).fmod 2=0
  ·rw[Bz (KM q)];refine⟨by decide,?_⟩;by_cases p:((B.map W.int).length:Int).fmod 2=0
   ·rw[Bz (KM p)];rw[Ap]at q p;exact⟨by simp,z (pI.mp q) (pI.mp p)⟩
   ·rw[BM (by rw[Oy];exact p)];rw[Ap]at p;exact y λt=>p (pI.mpr t.2)
  ·rw[BM (by rw[Oy];exact q)];rw[Ap]at q;exact y λt=>q (pI.mpr t.1)
 rintro _ rfl;have J:=X a j F c s dR dF;generalize KU A B sg=sg' at*;have UE:(o*h^(A.length -B.length)).natAbs.log2<1000000000:=fR (n:=E+1) (Fm kE (Q1 (by decide) (Os _))) (by lia);have m3:N*(A.length -B.length+1)<=N*(A.length+1 -B.length):=Ee _ (by lia);have m4:N*(A.length -B.length)<=N*(A.length -B.length+1):=Ee _ (by lia);clear Y X;unfold oB wI at J⊢;walk_at "vs";rw[Ap,Ap,show(A.length:Int) -(B.length:Int)=((A.length -B.length:Nat):Int) by lia];generalize HR:A.length -B.length=v at*;refine⟨h,v,N,rfl,P,by lia,?_⟩;walk_at "vs";refine⟨aL bl (UD P v) (by lia),yo rfl,yo rfl,yo rfl,yo rfl,?_⟩;refine cu (h:=W.int) (g:=λy=>.int (y.fdiv (o*h^v))) j [] _ (λy w K M=>⟨⟨k0,UE⟩,M⟩) (au (by simp;lia)) ⟨yo rfl,?_⟩;refine cu (h:=W.int) (g:=λy=>.int (y.fdiv (o*h^v))) F [] _ (λy w K M=>⟨⟨k0,UE⟩,M⟩) (au (by simp;lia)) ⟨yo rfl,_,O,yo rfl,?_⟩;refine⟨h,B.getD (B.length -1) 0,v,N,rfl,⟨P,Z,by lia,λhd=>⟨(h0 hd).1,fR (n:=E+1) (Fm (h0 hd).2 (Q1 (by decide) (Os _))) (by lia)⟩⟩,yo rfl,?_⟩;rw[Ta,Ta]at J;exact J
theorem fL{x n:Nat}(h:x<=2^n):x<2^(n+1):=Fm h (Q1 (by decide) (Os _))
theorem BU:∀(n:Nat)(V:List Int),V.length=n->∃W:List Int,(∀k,W.getD k 0=V.getD k 0)/\(W=[]\/W.getD (W.length -1) 0≠0)/\W.length<=V.length
 |0,V,h=>⟨V,λ_=>rfl,.inl (Kb.mp h),Do _⟩
 |n+1,V,h=>by
  have b:V≠[]:=λz=>by rw[z]at h;cases h
  obtain⟨a,x,rfl⟩:∃a x,V=a++[x]:=⟨V.dropLast,V.getLast b,(cm b).symm⟩;have d:a.length=n:=by rw[Fh]at h;simp only[List.length_cons,List.length_nil]at h;lia
  have ex:(a++[x]).getD n 0=x:=by rw[AC,Ha (by lia),d,hZ];rfl
  by_cases f:x=0
  ·obtain⟨W,e,z,l⟩:=BU n a d;refine⟨W,λk=>?_,z,by rw[Fh];lia⟩;rw[e k];by_cases g:k<a.length
   ·rw[AC,AC,IR g]
   ·rw[outI (by lia)];by_cases c:k=n
    ·rw[c,ex,f]
    ·rw[outI (by rw[Fh];show a.length+1<=k;lia)]
  ·refine⟨a++[x],λ_=>rfl,.inr ?_,Do _⟩;rw[h,PH,ex];exact f
noncomputable def UG(x:Addr)(H H':Hp):Prop:=∀b o,b≠x->H b=some o->H' b=some o
noncomputable def G3(C:Addr):Sp:=λg H Q _=>∃(x f:Addr)(e d c:V),g=[.ref x,e,d,c]/\H x=some (.ins C f [])/\∀(b:Addr)(a:Hp),UG x H a->H b=none->a b=some (.lst [])->a x=some (.ins C f (Vn.zip [e,d,c,.ref b,.int 1,.int 1,.int 1,.int 1,.int 1]))->Q .aS a
noncomputable def vH(C:Addr):bN:=λa Q _=>∃A B f:List Int,a=[wI A,wI B,wI f]/\Q (oB C A B f [] 1 1 1 1 1)
theorem mJ{K:Frag}{A:Addr->Prop}{H:Hp}(i:Int):Rep K A H (.int i) (.int i):=by rw[Rep]
theorem MG{K:Frag}{B:Addr->Prop}{H:Hp}:∀{n:Nat}{a:List W}{vs:List V},ai K B H a vs->a.length=n->dO K B H (List.replicate n .s) a vs []
 |0,[],vs,r,_=>by
  cases r;show dO K B H [] _ _ _;rw[dO];exact⟨rfl,rfl,rfl⟩
 |n+1,w::a,vs,r,e=>by obtain⟨v,b,rfl,d,c⟩:=r.cons_inv;show dO K B H (.s::List.replicate n .s) _ _ _;rw[dO];refine⟨w,a,v,b,[],[],rfl,rfl,rfl,?_,MG c (by simpa using e)⟩;rw[Fp];exact⟨rfl,d⟩
 |0,_::_,_,_,e=>by cases e
 |n+1,[],_,_,e=>by cases e
theorem Al{P:Program}{w:World}{K:Frag}{mg:Str->Option Value}{base:Heap}{k:Nat}{C f:Addr}{D:FuncData}{ps:List Str}(X:zP K C Vn)(M:Mk K C f)(b:Binds K D ps [])(F:aR P w K mg base (dP P w) k f D ps (G3 C)):
 cG P w K mg base (k+1) (.ref C) 3 (gA K 3 pG (vH C)):=by
 refine .mk M b F λvs H Q E hz x j m q O=>?_;obtain⟨A,ws,P,R,l,r,d,⟨a,b',f',e,Y⟩,c,er⟩:=hz;subst e;obtain⟨y,_,rfl,N,r⟩:=r.cons_inv;obtain⟨v,_,rfl,L,r⟩:=r.cons_inv;obtain⟨u,_,rfl,J,r⟩:=r.cons_inv;cases r;refine⟨x,j,y,v,u,rfl,ao,λg I T h e4 ex=>⟨rfl,?_⟩⟩;have G:g≠x:=λe=>by rw[e,ao]at h;cases h
 have s:g≠j:=λe=>by rw[e,ah O,ao]at h;cases h
 have Z:H g=none:=by rw[ah G,ah s]at h;exact h
 have sm:aq H I:=λb o i=>by
  have B:b≠x:=λe=>by rw[e,m]at i;cases i
  have S:b≠j:=λe=>by rw[e,q]at i;cases i
  exact T b o B (by rw[ah B,ah S];exact i)
 have t:∀p o,H p=some o->(A p\/p∈[x])->A p:=λp o e z=>by
  rcases z with z|z
  ·exact z
  ·rw[GM.mp z,m]at e;cases e
 refine c _ (.ref x) I Y sm ⟨[x],by simp,λp U=>by rw[GM.mp U];exact m,?_⟩;unfold oB;rw[Fp];refine⟨C,j,_,x,[y,v,u,.ref g,.int 1,.int 1,.int 1,.int 1,.int 1],[],rfl,rfl,rfl,ex,rfl,X,?_⟩;refine MG (n:=9) ?_ rfl;refine .cons (Rep.mv sm t _ N) (.cons (Rep.mv sm t _ L) (.cons (Rep.mv sm t _ J) (.cons ?_ (.cons (mJ 1) (.cons (mJ 1) (.cons (mJ 1) (.cons (mJ 1) (.cons (mJ 1) .nil))))))));show Rep _ _ _ (.lst []) _;rw[Rep];refine⟨g,[],rfl,λz=>?_,.inl e4,.nil⟩;rcases z with z|z
 ·obtain⟨o,e⟩:=d g z;rw[Z]at e;cases e
 ·exact G (GM.mp z)
theorem KY(ns:List Int)(a b:Option Int):∃c:List Int,nK (ns.map W.int) a b=c.map W.int:=by unfold nK;exact⟨_,by rw[←List.map_drop,←List.map_take]⟩
end VL
namespace VL
open PySem PySem.Spec
open PyProof.Rows hiding St
open L2
noncomputable def W4(P:Program)(w:World)(K:Frag)(mg:Str->Option Value)(base:Heap)(k:Nat):List Str->List Md->List bN->Prop
 |x::fn,m::md,S::Ss=>(∃c n b,mg x=some c/\cG P w K mg base b c n (gA K n m S)/\b<=k/\∀a P R,S a P R->a.length=n)/\W4 P w K mg base k fn md Ss
 |[],_,_=>True
 |_,_,_=>False
noncomputable def W5(mg:Str->Option Value):List Str->Prop
 |[]=>True
 |x::zn=>mg x=none/\W5 mg zn
theorem G4{mg:Str->Option Value}:∀{zn:List Str},W5 mg zn->∀x∈zn,mg x=none
 |y::zn,h,x,a=>by
  rcases Fk.mp a with e|a
  ·rw[e];exact h.1
  ·exact G4 h.2 x a
theorem G5{P:Program}{w:World}{K:Frag}{mg:Str->Option Value}{base:Heap}{k:Nat}:∀{fn:List Str}{md:List Md}{Ss:List bN},W4 P w K mg base k fn md Ss->∀(j:Nat)(x:Str),fn[j]?=some x->∃c n b,mg x=some c/\cG P w K mg base b c n (gA K n (bE md j) (c9 Ss j))/\b<=k/\∀a P R,c9 Ss j a P R->a.length=n
 |y::fn,m::md,S::Ss,h,0,x,e=>by
  cases e;exact h.1
 |y::fn,m::md,S::Ss,h,j+1,x,e=>G5 (fn:=fn) h.2 j x e
 |[],_,_,_,j,x,e=>by cases e
 |_::_,[],_,h,_,_,_=>h.elim
 |_::_,_::_,[],h,_,_,_=>h.elim
theorem tab_of{P:Program}{w:World}{K:Frag}{mg:Str->Option Value}{base:Heap}{k:Nat}{fn zn:List Str}{md:List Md}{Ss:List bN}(h:W4 P w K mg base k fn md Ss)(z:W5 mg zn):Tab P w K mg base fn [] zn md [] (c9 Ss) (pK []) k:=
 ⟨λj x e _=>G5 h j x e,λ_ _ _ _ h=>(by cases h),λ_ _ e=>(by simp at e),G4 z,vB K,λ_ _ _ e=>(by simp at e)⟩
end VL
namespace VL
open PySem PySem.Spec
open PyProof.Rows hiding St
open L2 Num
theorem UH{d:Nat->bN}{G:Nat->W}{c:CE}{b:List CS}{D:Dn}{a:Ev}{α:Type}(S:α->Ev)(J:α->Prop)(f:α->Nat)(e:α)(i:a=S e)(h:J e)(g:∀s,J s->wE d G (λ_=>False) c (S s) λx=>truth x (Vl S J f (wSs d G b) D s)):wS d G (.Eb c b) D a:=by show Jp (λa Q=>wE d G (λ_=>False) c a λx=>truth x Q) (wSs d G b) D a;exact kR S J f e i h g
theorem BV{d:Nat->bN}{G:Nat->W}{D:Dn}{c:Ev}{i:Nat}{e:CE}{b:List CS}{l:List W}(f:∀Q:W->Prop,Q (.lst l)->wE d G (λ_=>False) e c Q)(h:nM (λw g a=>wSs d G b g (a.set i (some w))) D l c):wS d G (.fr [i] true e b) D c:=f _ h
theorem G6{y:Int}{n:Nat}(h:y.natAbs<2^n)(a:n<=999999999):y.natAbs.log2<1000000000:=by
 rcases cb y.natAbs with e|e
 ·rw[e];decide
 ·have:=(Nat.log2_lt (i3 e)).mpr h;lia
noncomputable def yp:bN:=λa Q _=>∃(t b:Int)(n:Nat),a=[.int t,.int b]/\n<=999999999/\b≠0/\b.natAbs<2^n/\Q (wq (Rat.divInt t b))
theorem UI{G:Nat->W}{m:Md}(i:List W)(Q:W->Prop)(R:Addr->Prop)(h:yp i Q R):wSs (c9 [BQ]) G jq (cW m Q R) (aA 3 i):=by
 obtain⟨t,b,n,rfl,j,p,f,c⟩:=h;show wSs _ _ jq _ [some (.int t),some (.int b),none];unfold jq;walk_at "vs";refine⟨t,b,rfl,?_⟩;obtain⟨a,l,k⟩:=xr t b p;have o:((Int.gcd t b:Nat):Int).natAbs<2^n:=by have:((Int.gcd t b:Nat):Int)<=b.natAbs:=Ya (by clear k l a f;lia) (by rw[Int.dvd_natAbs];exact Pl ..);omega
 unfold wq at c;generalize((Int.gcd t b:Nat):Int)=g at*;rw[l,k]at c;by_cases e:b<0
 ·rw[Bz e]at a c;rw[Bz (KM e)];walk_at "vs";rw[Int.zero_sub];have d:=G6 (y:= -g) (by omega) j;exact⟨⟨a,d⟩,⟨a,d⟩,au (by simp),c⟩
 ·rw[BM e]at a c;rw[BM (by rw[Oy];exact e)];have d:=G6 (y:=g) o j;exact⟨⟨a,d⟩,⟨a,d⟩,au (by simp),c⟩
noncomputable def Wl(a b:Int):Prop:=(a=0/\0<=b)\/(a=1/\0<=b/\b<1000000000)
noncomputable def wW(a b:Int):W:=.lst [.int a,.int b]
noncomputable def qN:List CS:=[.set 2 (.int 0),.fr [3] true (.sl (.var 0) (.var 1) (.bin .Add (.var 1) (.int 1))) [.set 2 (.var 3)],.iff (.or [(.cmp .Lt (.var 2) (.int 0)),(.cmp .GtE (.var 2) (.bin .Pow (.int 10) (.int 18)))]) [.ret (.lst [(.int 0),(.blt .abs [(.var 2)])])] [],.ret (.lst [(.int 1),(.bin .Add (.bin .Mod (.bin .Add (.bin .Mod (.var 2) (.int 998244341)) (.bin .Mult (.int 7919) (.var 1))) (.int 998244353)) (.int 3))])]
noncomputable def uf:bN:=λc Q _=>∃(d:List Int)(k:Nat),c=[.gx d,.int k]/\k<=100/\∀a b,Wl a b->Q (wW a b)
theorem QK{l:Nat->bN}{G:Nat->W}{m:Md}(p:List W)(Q:W->Prop)(R:Addr->Prop)(h:uf p Q R):wSs l G qN (cW m Q R) (aA 4 p):=by
 obtain⟨b,k,rfl,u,d⟩:=h;show wSs _ _ qN _ [some (.gx b),some (.int k),none,none];unfold qN;refine aN (λa=>a=[some (.gx b),some (.int k),some (.int 0),none]) (λN g=>?_) ?_
 ·walk_at "vs";exact g _ rfl
 rintro _ rfl;refine aN (λa=>∃(c:Int)(o:Option W),a=[some (.gx b),some (.int k),some (.int c),o]) (λN g=>?_) ?_
 ·walk_at "vs";obtain⟨t,e⟩:=KY b (some (k:Int)) (some ((k:Int)+1));rw[e];refine b9 (λi r=>∃(c:Int)(o:Option W),r=[some (.gx b),some (.int k),some (.int c),o]) ⟨0,none,rfl⟩ ?_ ?_
  ·rintro i w _ v q ⟨c,o,rfl⟩ s;rw[FM]at q;obtain⟨z,_,rfl⟩:=N0.mp q;walk_at "vs";exact s _ ⟨z,_,rfl⟩
  ·rintro _ ⟨c,o,rfl⟩;exact g _ ⟨c,o,rfl⟩
 rintro _ ⟨c,o,rfl⟩;have j:wS l G (.ret (.lst [(.int 1),(.bin .Add (.bin .Mod (.bin .Add (.bin .Mod (.var 2) (.int 998244341)) (.bin .Mult (.int 7919) (.var 1))) (.int 998244353)) (.int 3))])) (cW m Q R) [some (.gx b),some (.int k),some (.int c),o]:=by walk_at "vs";have f:=fm (x:=c.fmod 998244341+7919*(k:Int)) (n:=998244353) (by decide);refine⟨by decide,aL (n:=13) (m:=7) (by decide) (by lia) (by decide),by decide,au (by simp),d _ _ (.inr ⟨rfl,by lia,by lia⟩)⟩
 walk_at "vs";by_cases h:c<0
 ·rw[Bz (KM h)];exact⟨au (by simp),d _ _ (.inl ⟨rfl,by split<;>lia⟩)⟩
 ·rw[BM (by rw[Oy];exact h)];refine⟨iO (by decide) (by decide) (by decide),?_⟩;split
  ·exact⟨au (by simp),d _ _ (.inl ⟨rfl,by first|lia|(split<;>lia)⟩)⟩
  ·exact j
noncomputable def qO:List CS:=[.iff (.cmp .Eq (.ix (.var 0) (.int 0)) (.int 0)) [.set 2 (.bin .Mod (.ix (.var 0) (.int 1)) (.var 1)),.put 0 (.int 1) (.bin .FloorDiv (.ix (.var 0) (.int 1)) (.var 1)),.HU (.var 2)] [],.fr [3] true (.oj [(.int 2)]) [.zS [4,5] (.blt .Rn [(.ix (.var 0) (.int 1)),(.int 4099)]),.put 0 (.int 1) (.bin .Mod (.bin .Add (.bin .Add (.bin .Mult (.var 5) (.int 240007)) (.bin .Mult (.var 4) (.int 89))) (.int 1201)) (.int 998244353))],.HU (.bin .Mod (.bin .FloorDiv (.ix (.var 0) (.int 1)) (.int 5)) (.var 1))]
noncomputable def yq:bN:=λe Q _=>∃(a b n:Int),e=[wW a b,.int n]/\Wl a b/\0<n/\n<2^30/\∀x d c,0<=x->x<n->Wl d c->Q (.tup [.int x,wW d c])
theorem sJ{x y:W}:kZ [x,y] 0=some x:=rfl
theorem mK{x y:W}:kZ [x,y] 1=some y:=rfl
theorem KZ{b n:Int}(h:0<=b)(a:0<n):0<=b.fdiv n:=by rw[L9 _ (by lia)];exact mI h (by lia)
theorem QL{t:Nat->bN}{G:Nat->W}{m:Md}(p:List W)(Q:W->Prop)(R:Addr->Prop)(h:yq p Q R):wSs t G qO (cW (.io m) Q R) (aA 6 p):=by
 obtain⟨a,b,n,rfl,r,o,y,k⟩:=h;show wSs _ _ qO _ [some (wW a b),some (.int n),none,none,none,none];unfold qO;have u:n.natAbs.log2<1000000000:=fR (n:=31) (by lia) (by decide);refine aN (λd=>(a=1/\0<=b/\b<1000000000)/\d=[some (wW a b),some (.int n),none,none,none,none]) (λN l=>?_) ?_
 ·unfold wW at l k⊢;walk_at "vs";refine⟨_,sJ,?_⟩;walk_at "vs";rcases r with⟨rfl,c⟩|⟨rfl,c,j⟩
  ·rw[Bz (KM rfl)];have f:=fm (x:=b) (n:=n) o;refine⟨_,mK,by lia,?_⟩;refine⟨_,mK,⟨by lia,u⟩,1,rfl,?_⟩;exact k _ _ _ f.1 f.2 (.inl ⟨rfl,KZ c o⟩)
  ·rw[BM (by decide)];exact l _ ⟨⟨rfl,c,j⟩,rfl⟩
 rintro _ ⟨⟨rfl,c,j⟩,rfl⟩;refine aN (λd=>∃(b:Int)(o3 g e:Option W),(0<=b/\b<1000000000)/\d=[some (wW 1 b),some (.int n),none,o3,g,e]) (λN l=>?_) ?_
 ·walk_at "vs";refine⟨by decide,by decide,?_⟩;refine b9 (λi s=>∃(b:Int)(o3 g e:Option W),(0<=b/\b<1000000000)/\s=[some (wW 1 b),some (.int n),none,o3,g,e]) ⟨b,none,none,none,⟨c,j⟩,rfl⟩ ?_ ?_
  ·rintro i w _ D r ⟨b,o3,g,e,⟨c,j⟩,rfl⟩ q;unfold wW at q⊢;walk_at "vs";refine⟨_,mK,?_⟩;rw[Ut];refine⟨⟨by decide,by decide⟩,rfl,?_⟩;walk_at "vs";have A:=Int.emod_nonneg b (show(4099:Int)≠0 by decide);have z:=Int.emod_lt_of_pos b (show(0:Int)<4099 by decide);have C:0<=b/4099:=mI c (by decide);have B:b/4099<=b:=by lia
   have f:=fm (x:=b%4099*240007+b/4099*89+1201) (n:=998244353) (by decide);refine⟨aL (n:=31) (m:=31) (by lia) (by decide) (by decide),aL (n:=31) (m:=31) (by lia) (by decide) (by decide),by decide,1,rfl,q _ ⟨_,_,_,_,⟨f.1,by lia⟩,rfl⟩⟩
  ·rintro _ ⟨b,o3,g,e,v,rfl⟩;exact l _ ⟨b,o3,g,e,v,rfl⟩
 rintro _ ⟨b,o3,g,e,⟨c,j⟩,rfl⟩;unfold wW at k⊢;walk_at "vs";have f:=fm (x:=b.fdiv 5) (n:=n) o;refine⟨_,mK,⟨by decide,fR (n:=3) (by decide) (by decide)⟩,by lia,?_⟩;exact k _ _ _ f.1 f.2 (.inr ⟨rfl,c,j⟩)
structure ug(row:List Rat):Prop where
 l2:2<=row.length
 yU:row.length<=10
 z:bK row
 b:∀x∈row,(x.den:Int)∣60/\(x.num.natAbs<=12\/(x.num.natAbs<=1000000/\row.length<=6))
noncomputable def iA:List CS:=[.sF 1 (.bin .Add (.int 2) (.wz 0 0 [(.int 5)])),.sF 2 (.cmp .Eq (.wz 0 0 [(.int 4)]) (.int 3)),.Te (.cmp .Eq (.wz 0 0 [(.int 8)]) (.int 5)) [.sF 1 (.bin .Add (.int 7) (.wz 0 0 [(.int 4)])),.set 2 (.bl false)] [],.set 3 (.lst []),.fr [4] true (.oj [(.var 1)]) [.sF 5 (.bin .Sub (.wz 0 0 [(.ix (.lst [(.int 25),(.bin .Add (.bin .Mult (.int 2) (.bin .Pow (.int 10) (.int 6))) (.int 1))]) (.blt .int [(.var 2)]))]) (.ix (.lst [(.int 12),(.bin .Pow (.int 10) (.int 6))]) (.blt .int [(.var 2)]))),.Rp 3 (.call 1 [(.var 5),(.bin .Add (.int 1) (.bin .Mult (.wz 0 0 [(.int 5)]) (.wz 0 0 [(.int 2)])))])],.iff (.cmp .Eq (.ix (.ix (.var 3) (.neg (.int 1))) (.int 0)) (.int 0)) [.put 3 (.neg (.int 1)) (.tup [(.int 1),(.int 1)])] [],.Mb [3] [.HU (.var 3)]]
noncomputable def iB:bN:=λf Q _=>∃(a b:Int),f=[wW a b]/\Wl a b/\∀c e d,ug c->Wl e d->Q (.tup [af c,wW e d])
noncomputable def YD(s:Int)(g:Bool):Prop:=(2<=s/\s<=6)\/(7<=s/\s<=10/\g=false)
noncomputable def QM(s:Int)(x:Rat):Prop:=(x.den:Int)∣60/\(x.num.natAbs<=12\/(x.num.natAbs<=1000000/\s<=6))
theorem QN{s t b:Int}{g:Bool}(c:YD s g)(f:1<=b)(d:b<=5)(a:t.natAbs<=if g then 1000000 else 12):QM s (Rat.divInt t b):=by
 obtain⟨k,i⟩:=lJ t b (by lia);have j:=(Rat.divInt t b).den_pos;refine⟨?_,?_⟩
 ·have:(Rat.divInt t b).den=1\/(Rat.divInt t b).den=2\/(Rat.divInt t b).den=3\/(Rat.divInt t b).den=4\/(Rat.divInt t b).den=5:=by lia
  rcases this with e|e|e|e|e<;>rw[e]<;>decide
 ·cases g with
  |false=>rw[BM (by decide)]at a;exact .inl (by lia)
  |true=>
   rw[Bz rfl]at a;rcases c with h|⟨_,_,h⟩
   ·exact .inr ⟨by lia,h.2⟩
   ·cases h
theorem DF{G:Nat->W}{m:Md}(M:List W)(Q:W->Prop)(R:Addr->Prop)(h:iB M Q R):wSs (c9 [yq,yp]) G iA (cW (.io m) Q R) (aA 6 M):=by
 obtain⟨a,b,rfl,d,F⟩:=h;show wSs _ _ iA _ [some (wW a b),none,none,none,none,none];unfold iA;refine aN (λc=>∃a b s:Int,(Wl a b/\2<=s/\s<=6)/\c=[some (wW a b),some (.int s),none,none,none,none]) (λN f=>?_) ?_
 ·walk_at "vs";exact⟨a,b,5,rfl,d,by decide,by decide,λx p o D C r=>⟨_,_,rfl,f _ ⟨p,o,_,⟨r,by lia,by lia⟩,rfl⟩⟩⟩
 clear d a b;rintro _ ⟨a,b,s,⟨d,P,O⟩,rfl⟩;refine aN (λc=>∃(a b:Int)(g:Bool),Wl a b/\c=[some (wW a b),some (.int s),some (.bl g),none,none,none]) (λN f=>?_) ?_
 ·walk_at "vs";exact⟨a,b,4,rfl,d,by decide,by decide,λx p o D C r=>⟨_,_,rfl,f _ ⟨p,o,_,r,rfl⟩⟩⟩
 clear d a b;rintro _ ⟨a,b,g,d,rfl⟩;refine aN (λc=>∃(a b s:Int)(g:Bool),(Wl a b/\YD s g)/\c=[some (wW a b),some (.int s),some (.bl g),none,none,none]) (λN f=>?_) ?_
 ·walk_at "vs";refine⟨a,b,8,rfl,d,by decide,by decide,λx p o D C r=>⟨_,_,rfl,?_⟩⟩;walk_at "vs";split
  ·exact⟨p,o,4,rfl,r,by decide,by decide,λy a2 L v Z H=>⟨_,_,rfl,f _ ⟨a2,L,_,false,⟨H,.inr ⟨by lia,by lia,rfl⟩⟩,rfl⟩⟩⟩
  ·exact f _ ⟨p,o,s,g,⟨r,.inl ⟨P,O⟩⟩,rfl⟩
 clear d a b P O s g;rintro _ ⟨a,b,s,g,⟨d,T⟩,rfl⟩;have s2:2<=s/\s<=10:=by rcases T with h|⟨h1,h2,_⟩<;>lia
 refine aN (λc=>c=[some (wW a b),some (.int s),some (.bl g),some (af []),none,none]) (λN f=>?_) ?_
 ·walk_at "vs";exact⟨au (by simp),f _ rfl⟩
 rintro _ rfl;refine aN (λc=>∃(a b:Int)(j:List Rat)(u k:Option W),(Wl a b/\(j.length:Int)=s/\∀x∈j,QM s x)/\c=[some (wW a b),some (.int s),some (.bl g),some (af j),u,k]) (λN f=>?_) ?_
 ·refine BV (l:=gy 0 1 s.toNat) (λQ F=>?_) ?_
  ·walk_at "vs";exact⟨by lia,by lia,F⟩
  refine b9 (λi Y=>∃(a b:Int)(j:List Rat)(u k:Option W),(Wl a b/\j.length=i/\∀x∈j,QM s x)/\Y=[some (wW a b),some (.int s),some (.bl g),some (af j),u,k]) ⟨a,b,[],none,none,⟨d,rfl,by simp⟩,rfl⟩ ?_ ?_
  ·clear d a b;rintro i w _ N1 U ⟨a,b,j,u,k,⟨d,A,B⟩,rfl⟩ S;obtain⟨U,rfl⟩:=qJ U;show wSs _ _ (CS.sF 5 _::CS.Rp 3 _::[]) _ [some (wW a b),some (.int s),some (.bl g),some (af j),some (.int i),k];refine aN (λc=>∃(a b t:Int),(Wl a b/\t.natAbs<=if g then 1000000 else 12)/\c=[some (wW a b),some (.int s),some (.bl g),some (af j),some (.int i),some (.int t)]) (λN f=>?_) ?_
   ·walk_at "vs";refine⟨iO (by decide) (by decide) (by decide),aL (n:=2) (m:=20) (by decide) (by decide) (by decide),au (by simp),?_⟩;cases g with
    |false=>refine⟨_,sJ,a,b,25,rfl,d,by decide,by decide,λx p o D C r=>⟨_,_,rfl,iO (by decide) (by decide) (by decide),au (by simp),_,sJ,?_⟩⟩;exact f _ ⟨p,o,x -12,⟨r,by rw[BM (by decide)];lia⟩,rfl⟩
    |true=>refine⟨_,mK,a,b,2000001,rfl,d,by decide,by decide,λx p o D C r=>⟨_,_,rfl,iO (by decide) (by decide) (by decide),au (by simp),_,mK,?_⟩⟩;exact f _ ⟨p,o,x -1000000,⟨r,by rw[Bz rfl];lia⟩,rfl⟩
   clear d a b;rintro _ ⟨a,b,t,⟨d,ht⟩,rfl⟩;unfold af at S⊢;walk_at "vs";refine⟨a,b,5,rfl,d,by decide,by decide,λx a1 b1 D C J=>⟨_,_,rfl,?_⟩⟩;walk_at "vs";refine⟨a1,b1,2,rfl,J,by decide,by decide,λy a2 L v Z H=>⟨_,_,rfl,?_⟩⟩;walk_at "vs";have xy:0<=x*y/\x*y<=4:=by
    have:y=0\/y=1:=by lia
    rcases this with rfl|rfl
    ·rw[SF];decide
    ·rw[fI];lia
   refine⟨aL (n:=3) (m:=1) (by lia) (by lia) (by decide),?_⟩;generalize x*y=z at*;refine⟨t,1+z,3,rfl,by decide,by lia,by lia,?_⟩;refine⟨vC (by rw[Ap];lia),S _ ⟨a2,L,j++[Rat.divInt t (1+z)],some (.int i),some (.int t),⟨H,by rw[Fh,A];rfl,λq F=>?_⟩,?_⟩⟩
   ·rcases Fs.mp F with h|h
    ·exact B q h
    ·rw[GM.mp h];exact QN T (by lia) (by lia) ht
   ·rw[cc];rfl
  ·rintro _ ⟨a,b,j,u,k,⟨d,A,B⟩,rfl⟩;rw[DE]at A;exact f _ ⟨a,b,j,u,k,⟨d,by lia,B⟩,rfl⟩
 clear d a b;rintro _ ⟨a,b,j,u,k,⟨d,A,B⟩,rfl⟩;obtain⟨t,y,rfl⟩:∃t y,j=t++[y]:=by
  rcases me j with rfl|⟨t,y,rfl⟩
  ·simp at A;lia
  ·exact⟨t,y,mf⟩
 have lt:((t.length+1:Nat):Int)=s:=by rw[Fh]at A;exact A
 have I:∀y:Rat,y≠0->QM s y->ug (t++[y]):=λy v E=>by
  have e:(t++[y]).length=t.length+1:=Fh;refine⟨by lia,by lia,λz hz=>?_,λx h=>?_⟩
  ·rw[Y1]at hz;cases hz;exact v
  ·rw[e];have X:QM s x->(x.den:Int)∣60/\(x.num.natAbs<=12\/(x.num.natAbs<=1000000/\t.length+1<=6)):=λh=>⟨h.1,h.2.imp id λh=>⟨h.1,by lia⟩⟩;rcases Fs.mp h with h|h
   ·exact X (B x (RF _ h))
   ·have e:=GM.mp h;subst e;exact X E
 have K:∀y:Rat,y≠0->QM s y->wSs (c9 [yq,yp]) G [.Mb [3] [.HU (.var 3)]] (cW (.io m) Q R) [some (wW a b),some (.int s),some (.bl g),some (af (t++[y])),u,k]:=λy v E=>by walk_at "vs";exact F _ _ _ (I y v E) d
 refine aN (λc=>∃y:Rat,(y≠0/\QM s y)/\c=[some (wW a b),some (.int s),some (.bl g),some (af (t++[y])),u,k]) (λN f=>?_) ?_
 ·unfold af at f⊢;walk_at "vs";refine⟨_,mq Y1,_,rfl,?_⟩;walk_at "vs";split
  ·refine⟨au (by simp),t.length,?_,f _ ⟨1,⟨by decide,by decide,.inl (by decide)⟩,?_⟩⟩
   ·rw[Ap,Fh];unfold wj;rw[BM (by decide),Bz (by show-((t.length+1:Nat):Int)<=-1;lia)];show some ((-1:Int)+((t.length+1:Nat):Int)).toNat=some t.length;congr 1;lia
   ·rw[cc,cc,List.set_append_right _ _ (by simp)];simp;rfl
  ·rename_i h
   exact f _ ⟨y,⟨λe=>h (by rw[e];rfl),B y (Gc _ (GM.mpr rfl))⟩,rfl⟩
 ·rintro _ ⟨y,⟨v,E⟩,rfl⟩;exact K y v E
theorem qP{a:List Rat}{x:Nat}(h:∀z∈a,Bd x z)(c:0<x)(k:Nat):Bd x (cQ a k):=by
 by_cases b:k<a.length
 ·have:cQ a k=a[k]:=by show a.getD k 0=_;rw[AC,B1 b];rfl
  rw[this];exact h _ (TB b)
 ·rw[show cQ a k=0 from lN (by lia)];exact⟨U2 (by decide),Nat.one_lt_two_pow (by lia)⟩
theorem dG{a b n m:Nat}(d:a<2^n)(c:b<2^m):a*b<2^(n+m):=by rw[eP];exact Nat.mul_lt_mul'' d c
noncomputable def qQ:List CS:=[.set 4 (.blt .list [(.var 0)]),.fr [5] true (.oj [(.blt .len [(.var 2)])]) [.zS [6,7] (.ix (.var 4) (.bin .Add (.var 3) (.var 5))),.set 8 (.tup [(.bin .Mult (.ix (.var 1) (.int 0)) (.ix (.ix (.var 2) (.var 5)) (.int 0))),(.bin .Mult (.ix (.var 1) (.int 1)) (.ix (.ix (.var 2) (.var 5)) (.int 1)))]),.put 4 (.bin .Add (.var 3) (.var 5)) (.call 0 [(.bin .Sub (.bin .Mult (.var 6) (.ix (.var 8) (.int 1))) (.bin .Mult (.ix (.var 8) (.int 0)) (.var 7))),(.bin .Mult (.var 7) (.ix (.var 8) (.int 1)))])],.ret (.var 4)]
noncomputable def BW:bN:=λc Q _=>∃(a b:List Rat)(h:Rat)(p x y:Nat),c=[af a,wq h,af b,.int p]/\(p+b.length<=a.length/\a.length<=100/\(∀z∈a,Bd x z)/\(∀z∈b,Bd y z)/\Bd (x+y) h/\0<x/\0<y/\2*x+2*y<=100000000)/\
 Q (af (dS a.length λk=>cQ a k -if p<=k/\k<p+b.length then h*cQ b (k -p)else 0))
theorem yr(r h o:Rat):Rat.divInt (r.num*(h.den*o.den) -h.num*o.num*r.den) (r.den*(h.den*o.den))=r -h*o:=by
 have c:=r.den_pos;have b:=h.den_pos;have a:=o.den_pos;have e:r -h*o=Rat.divInt r.num r.den -Rat.divInt (h.num*o.num) (h.den*o.den):=by rw[QA,Iy]
 rw[e,Rat.divInt_sub_divInt _ _ (by lia) (Jn (by lia) (by lia))]
theorem QO{G:Nat->W}{m:Md}(F:List W)(Q:W->Prop)(R:Addr->Prop)(h:BW F Q R):wSs (c9 [yp]) G qQ (cW m Q R) (aA 9 F):=by
 obtain⟨a,b,h,p,x,y,rfl,⟨hp,hr,Z,bo,t,M,L,T⟩,B⟩:=h;show wSs _ _ qQ _ [some (af a),some (wq h),some (af b),some (.int p),none,none,none,none,none];unfold qQ;refine aN (λd=>d=[some (af a),some (wq h),some (af b),some (.int p),some (af a),none,none,none,none]) (λN C=>?_) ?_
 ·unfold af;walk_at "vs";exact C _ rfl
 rintro _ rfl;refine aN (λd=>∃s q o i:Option W,d=[some (af a),some (wq h),some (af b),some (.int p),some (af (dS a.length λk=>cQ a k -if p<=k/\k<p+b.length then h*cQ b (k -p)else 0)),s,q,o,i]) (λN C=>?_) ?_
 ·refine BV (l:=gy 0 1 b.length) (λQ B=>?_) ?_
  ·unfold af;walk_at "vs";rw[Ap];exact⟨by lia,by lia,B⟩
  refine b9 (λj K=>∃s q o i:Option W,K=[some (af a),some (wq h),some (af b),some (.int p),some (af (dS a.length λk=>cQ a k -if p<=k/\k<p+j then h*cQ b (k -p)else 0)),s,q,o,i]) ⟨none,none,none,none,?_⟩ ?_ ?_
  ·rw[Fy (g:=λk=>a.getD k 0) (λk _=>?_),C0];rw[BM λz=>NM _ (FC z.2 z.1)];show cQ a k -0=cQ a k;grind
  ·rintro j w _ N1 U ⟨s,q,o,i,rfl⟩ H;obtain⟨Y,rfl⟩:=qJ U;have E:p+j<a.length:=by lia
   unfold af at H⊢;walk_at "vs";rw[show(p:Int)+(j:Int)=((p+j:Nat):Int) by lia];refine⟨_,bT (by rw[FM,uP E];rfl),?_⟩;rw[BM (show¬(p<=p+j/\p+j<p+j)from λz=>NM _ z.2),show cQ a (p+j) -0=cQ a (p+j) by grind];have D:=qP Z M (p+j);have u:=qP bo L j;generalize hz:cQ a (p+j)=r at*;have I:(b.map wq)[j]?=some (wq (cQ b j)):=Ah Y;have dz:=ir r;have A:=ir h;have O:=ir (cQ b j);have S:(h.num*(cQ b j).num).natAbs<2^(x+2*y):=by rw[Fn];exact eV (dG t.1 u.1) (by lia)
   have v:((h.den:Int)*((cQ b j).den:Int)).natAbs<2^(x+2*y):=by rw[Fn,gm,gm];exact eV (dG t.2 u.2) (by lia)
   have P:((r.den:Int)*((h.den:Int)*((cQ b j).den:Int))).natAbs<2^(2*x+2*y):=by rw[Fn,gm];exact eV (dG D.2 v) (by lia)
   have J:(r.den:Int).natAbs<2^x:=by rw[gm];exact D.2
   have e:=FA (n:=a.length) (f:=λk=>cQ a k -if p<=k/\k<p+j then h*cQ b (k -p)else 0) (g:=λk=>cQ a k -if p<=k/\k<p+(j+1)then h*cQ b (k -p)else 0) E (λk _ X=>by
    by_cases c:p<=k/\k<p+j
    ·rw[Bz c,Bz ⟨c.1,cx c.2⟩]
    ·rw[BM c,BM λz=>c ⟨z.1,Nat.lt_of_le_of_ne (Nat.le_of_lt_succ z.2) X⟩])
   rw[Bz ⟨T1 _ _,Os _⟩,W1,hz]at e;refine⟨rfl,_,sJ,_,bT I,_,sJ,?_⟩;refine⟨aL t.1 u.1 (by lia),_,mK,_,bT I,_,mK,aL (x:=(h.den:Int)) (y:=((cQ b j).den:Int)) (n:=x+y) (m:=y) (by rw[gm];exact t.2) (by rw[gm];exact u.2) (by lia),au (by simp),?_⟩;refine⟨_,mK,aL D.1 v (by lia),_,sJ,aL S J (by lia),_,mK,aL J v (by lia),?_⟩;refine⟨_,_,2*x+2*y,rfl,by lia,Jn dz (Jn A O),P,?_⟩;rw[yr];refine⟨p+j,by rw[show(p:Int)+(j:Int)=((p+j:Nat):Int) by lia];exact nY (by rw[Ap,gZ];exact E),?_⟩;rw[←i5,e];exact H _ ⟨_,_,_,_,rfl⟩
  ·rintro _ ⟨s,q,o,i,rfl⟩;rw[DE];exact C _ ⟨s,q,o,i,rfl⟩
 rintro _ ⟨s,q,o,i,rfl⟩;walk_at "vs";exact B
noncomputable def bt(X:Nat):Nat->Nat
 |0=>X
 |s+1=>2*bt X s+2*X+2
theorem MH{X:Nat}(h:X<=18000):∀s,s<=10->bt X s+40000<=2^s*60000
 |0,_=>by show X+40000<=1*60000;lia
 |s+1,a=>by have:=MH h s (by lia);rw[bt,Nat.pow_succ];lia
theorem MI(X:Nat):∀s,X<=bt X s
 |0=>Do _
 |s+1=>by rw[bt];lia
theorem yt{t b:Rat}(a:b≠0):Rat.divInt (t.num*b.den) (t.den*b.num)=t*b⁻¹:=by
 conv=>rhs;rw[←Iy t,Rat.inv_def]
 exact(cq ..).symm
theorem Am{ρ:List Rat}{n:Nat}(h:∀k,n<=k->cQ ρ k=0):(ef ρ).length<=n:=by
 refine ky λz=>?_;have a:0<(ef ρ).length:=by lia
 have e:=g7 (iQ ρ) a;rw[uQ]at e;exact e (h _ (by lia))
structure RT(a b ρ:List Rat)(X s:Nat):Prop where
 l:ρ.length=a.length
 q:∃q:Nat->Rat,Fin q/\∀k,cQ a k=jI q (cQ b) k+cQ ρ k
 z:∀k,a.length -s<=k->cQ ρ k=0
 b:∀x∈ρ,Bd (bt X s) x
theorem RT.step{a b ρ:List Rat}{X s p:Nat}(h:RT a b ρ X s)(L:0<b.length)(J:a.length=p+b.length+s)(u:0<X)(I:∀x∈b,Bd X x){g:Rat}(F:g=cQ ρ (p+b.length -1)*(cQ b (b.length -1))⁻¹)(r:Bd (bt X s+X) g)(w:cQ b (b.length -1)≠0):
 RT a b (dS ρ.length λk=>cQ ρ k -if p<=k/\k<p+b.length then g*cQ b (k -p)else 0) X (s+1):=by
 have co:∀k,cQ (dS ρ.length λk=>cQ ρ k -if p<=k/\k<p+b.length then g*cQ b (k -p)else 0) k=cQ ρ k -if p<=k then g*cQ b (k -p)else 0:=λk=>by
  show(dS _ _).getD k 0=_;rw[uR,h.l];by_cases o:k<a.length
  ·rw[Bz o];by_cases f:p<=k
   ·rw[Bz f];by_cases m:k<p+b.length
    ·rw[Bz ⟨f,m⟩]
    ·rw[BM λz=>m z.2,show cQ b (k -p)=0 from lN (by lia)];grind
   ·rw[BM f,BM λz=>f z.1]
  ·rw[BM o,show cQ ρ k=0 from lN (by rw[h.l];lia)];split
   ·rw[show cQ b (k -p)=0 from lN (by lia)];grind
   ·grind
 obtain⟨q,⟨n,D⟩,e⟩:=h.q;refine⟨gZ _ _|>.trans h.l,⟨λi=>q i+if i=p then g else 0,⟨max n (p+1),λi K=>by dsimp only;rw[D i (by lia),BM (by lia)];grind⟩,λk=>?_⟩,λk E=>?_,λx C=>?_⟩
 ·rw[xF,Bk,co,e k];grind
 ·rw[co];by_cases c:k=p+b.length -1
  ·rw[c,Bz (by lia),F,show p+b.length -1 -p=b.length -1 by lia];have:=Rat.inv_mul_cancel _ w;grind
  ·rw[h.z k (by lia),show cQ b (k -p)=0 from lN (by lia)];split<;>grind
 ·obtain⟨k,E,rfl⟩:=FD C;have v:0<bt X s:=FC u (MI X s);have d:=qP h.b v k;by_cases c:p<=k/\k<p+b.length
  ·rw[Bz c];have t:=qP I u (k -p);rw[←yr];have j:(((g.den:Int))*((cQ b (k -p)).den:Int)).natAbs<2^(bt X s+X+X):=by rw[Fn,gm,gm];exact dG r.2 t.2
   have y:(g.num*(cQ b (k -p)).num).natAbs<2^(bt X s+X+X):=by rw[Fn];exact dG r.1 t.1
   obtain⟨H,G⟩:=lJ ((cQ ρ k).num*(g.den*(cQ b (k -p)).den) -g.num*(cQ b (k -p)).num*(cQ ρ k).den) ((cQ ρ k).den*(g.den*(cQ b (k -p)).den)) (Jn (ir _) (Jn (ir _) (ir _)));refine⟨Fm H ?_,Fm G ?_⟩
   ·have B:((cQ ρ k).num*(g.den*(cQ b (k -p)).den)).natAbs<2^(bt X s+(bt X s+X+X)):=by rw[Fn];exact dG d.1 j
    have A:(g.num*(cQ b (k -p)).num*(cQ ρ k).den).natAbs<2^(bt X s+(bt X s+X+X)):=by rw[Fn,da,gm];exact dG d.2 y
    refine FC (yj B A) ?_;rw[da,←Nat.pow_succ];exact GE (by decide) (by rw[bt];lia)
   ·rw[Fn,gm];exact eV (dG d.2 j) (by rw[bt];lia)
  ·rw[BM c,show cQ ρ k -0=cQ ρ k by grind];exact⟨eV d.1 (by rw[bt];lia),eV d.2 (by rw[bt];lia)⟩
noncomputable def jv:List CS:=[.set 2 (.blt .list [(.var 0)]),.fr [3] true (.oj [(.bin .Sub (.blt .len [(.var 0)]) (.blt .len [(.var 1)])),(.neg (.int 1)),(.neg (.int 1))]) [.zS [4,5] (.ix (.var 2) (.bin .Sub (.bin .Add (.var 3) (.blt .len [(.var 1)])) (.int 1))),.set 6 (.call 0 [(.bin .Mult (.var 4) (.ix (.ix (.var 1) (.neg (.int 1))) (.int 1))),(.bin .Mult (.var 5) (.ix (.ix (.var 1) (.neg (.int 1))) (.int 0)))]),.set 2 (.call 1 [(.var 2),(.var 6),(.var 1),(.var 3)])],.Eb (.and [(.cmp .NotEq (.var 2) (.lst [])),(.cmp .Eq (.ix (.ix (.var 2) (.neg (.int 1))) (.int 0)) (.int 0))]) [.drop 2],.ret (.var 2)]
noncomputable def pJ:bN:=λc Q _=>∃(a b:List Rat)(X:Nat),c=[af a,af b]/\(0<b.length/\b.length<=a.length/\a.length<=10/\bK b/\(∀z∈a,Bd X z)/\(∀z∈b,Bd X z)/\0<X/\X<=18000)/\∀r,eX a b r->Q (af r)
theorem G7{G:Nat->W}{m:Md}(M:List W)(Q:W->Prop)(R:Addr->Prop)(h:pJ M Q R):wSs (c9 [yp,BW]) G jv (cW m Q R) (aA 7 M):=by
 obtain⟨a,b,X,rfl,⟨Y,UB,la,zb,ba,K,E,hX⟩,o⟩:=h;show wSs _ _ jv _ [some (af a),some (af b),none,none,none,none,none];unfold jv;have C:cQ b (b.length -1)≠0:=g7 zb Y;obtain⟨c,H⟩:∃c,a.length+1=c+b.length:=⟨a.length+1 -b.length,by lia⟩;refine aN (λd=>d=[some (af a),some (af b),some (af a),none,none,none,none]) (λN I=>?_) ?_
 ·unfold af;walk_at "vs";exact I _ rfl
 rintro _ rfl;refine aN (λd=>∃(ρ:List Rat)(o3 j i g:Option W),RT a b ρ X c/\d=[some (af a),some (af b),some (af ρ),o3,j,i,g]) (λN I=>?_) ?_
 ·refine BV (l:=gy ((c:Int) -1) (-1) c) (λQ o=>?_) ?_
  ·unfold af;walk_at "vs";rw[Ap,Ap,show(a.length:Int) -(b.length:Int)=(c:Int) -1 by lia];exact ue (by lia) o
  refine b9 (λs Z=>∃(ρ:List Rat)(o3 j i g:Option W),RT a b ρ X s/\Z=[some (af a),some (af b),some (af ρ),o3,j,i,g]) ⟨a,none,none,none,none,⟨rfl,⟨λ_=>0,⟨0,λ_ _=>rfl⟩,λk=>by rw[Bj];grind⟩,λk u=>lN (by simpa using u),ba⟩,rfl⟩ ?_ ?_
  ·rintro s w _ N1 hw ⟨ρ,o3,j,i,g,f,rfl⟩ ju;obtain⟨hs,rfl⟩:=BS hw;obtain⟨p,hp⟩:∃p,c=p+s+1:=⟨c -1 -s,by lia⟩;rw[show((c:Nat):Int) -1 -(s:Int)=(p:Int) by lia];have r:a.length=p+b.length+s:=by lia
   have L:0<bt X s:=FC E (MI X s);have hbt:=MH hX s (by lia);have hb9:2^s*60000<=2^9*60000:=XB _ (GE (by decide) (by lia));have bt2:bt X s<=30680000:=by lia
   have A:=qP f.b L (p+b.length -1);have v:=qP K E (b.length -1);have T:b.getLast?=some (cQ b (b.length -1)):=by rw[P2];show _=some (b.getD _ 0);rw[AC,B1 (show b.length -1<b.length by lia)];rfl
   have F:(ρ.map wq)[p+b.length -1]?=some (wq (cQ ρ (p+b.length -1))):=Ah (by rw[f.l];lia);have O:(cQ b (b.length -1)).num≠0:=λz=>C (Rat.num_eq_zero.mp z);refine aN (λd=>d=[some (af a),some (af b),some (af ρ),some (.int p),some (.int (cQ ρ (p+b.length -1)).num),some (.int (cQ ρ (p+b.length -1)).den),g]) (λN2 B=>?_) ?_
   ·unfold af at B⊢;walk_at "vs";rw[Ap,show(p:Int)+(b.length:Int) -1=((p+b.length -1:Nat):Int) by lia];refine⟨_,bT F,?_⟩;exact⟨rfl,B _ rfl⟩
   rintro _ rfl;refine aN (λd=>d=[some (af a),some (af b),some (af ρ),some (.int p),some (.int (cQ ρ (p+b.length -1)).num),some (.int (cQ ρ (p+b.length -1)).den),some (wq (cQ ρ (p+b.length -1)*(cQ b (b.length -1))⁻¹))]) (λN2 B=>?_) ?_
   ·unfold af at B⊢;walk_at "vs";have dB:((cQ b (b.length -1)).den:Int).natAbs<2^X:=by rw[gm];exact v.2
    have dR:((cQ ρ (p+b.length -1)).den:Int).natAbs<2^bt X s:=by rw[gm];exact A.2
    refine⟨_,mq T,_,mK,aL A.1 dB (by lia),_,mq T,_,sJ,aL dR v.1 (by lia),?_⟩;refine⟨_,_,bt X s+X,rfl,by lia,Jn (ir _) O,?_,?_⟩
    ·rw[Fn,gm];exact dG A.2 v.1
    ·rw[yt C];exact B _ rfl
   rintro _ rfl;have U:Bd (bt X s+X) (cQ ρ (p+b.length -1)*(cQ b (b.length -1))⁻¹):=by rw[←yt C];obtain⟨S,P⟩:=lJ ((cQ ρ (p+b.length -1)).num*(cQ b (b.length -1)).den) ((cQ ρ (p+b.length -1)).den*(cQ b (b.length -1)).num) (Jn (ir _) O);rw[Fn,gm]at S P;exact⟨Fm S (dG A.1 v.2),Fm P (dG A.2 v.1)⟩
   walk_at "vs";refine⟨ρ,b,_,p,bt X s,X,rfl,⟨by rw[f.l];lia,by rw[f.l];lia,f.b,K,U,L,E,by lia⟩,?_⟩;exact ju _ ⟨_,_,_,_,_,f.step Y r E K rfl U C,rfl⟩
  ·rintro _ ⟨ρ,o3,j,i,g,f,rfl⟩;rw[DE]at f;exact I _ ⟨ρ,o3,j,i,g,f,rfl⟩
 rintro _ ⟨ρ,o3,j,i,g,f,rfl⟩;have J:eX a b (ef ρ):=by
  refine⟨iQ _,?_,?_⟩
  ·have:=Am (ρ:=ρ) (n:=b.length -1) λk u=>f.z k (by lia);lia
  ·obtain⟨q,fq,e⟩:=f.q;exact⟨q,fq,λk=>by rw[e k,show cQ (ef ρ) k=cQ ρ k from uQ ρ k]⟩
 have o:=o _ J;walk_at "vs";refine kR (α:=List Rat) (λx=>[some (af a),some (af b),some (af x),o3,j,i,g]) (λx=>ef x=ef ρ) (λx=>x.length) ρ rfl rfl ?_;rintro us D;walk_at "vs";refine⟨au (by simp),Af (y:=[]) λk u=>?_⟩;walk_at "vs";rcases me us with rfl|⟨t,y,rfl⟩
 ·cases gk u rfl;walk_at "vs";refine gE (λz=>by cases z) (λ_=>?_);walk_at "vs";rw[←D]at o;exact o
 ·rw[mf]at*;cases ig u (by simp);unfold af;walk_at "vs";refine⟨_,mq Y1,_,rfl,?_⟩;walk_at "vs";refine gE (λz=>?_) (λz=>?_)
  ·have yn:y=0:=Rat.num_eq_zero.mp (Bi z);subst yn;walk_at "vs";refine⟨wq 0,?_,t,?_,?_,?_⟩
   ·simp
   ·rw[cc];simp
   ·rw[←D,kK]
   ·simp
  ·have y0:y≠0:=λe=>by rw[e]at z;cases z
   walk_at "vs";rw[kL t y0]at D;rw[←D]at o;exact o
end VL
namespace Num
open Sub VL
theorem BX{A B:List Int}{d:Nat}(a:0<B.length)(e:A.length=d+B.length):∀s,s<=d+1->∃(Q:Nat->Int)(R:List Int),uS A B (B.getD (B.length -1) 0) s Q R/\R.length=A.length -s/\∀i,d+1<=i->Q i=0
 |0,_=>⟨λ_=>0,A,uS.start A B _,rfl,λ_ _=>rfl⟩
 |s+1,l=>by
  obtain⟨Q,R,g,j,f⟩:=BX a e s (by lia);obtain⟨p,m⟩:∃p,d=p+s:=⟨d -s,by lia⟩;have h:R.length=p+B.length:=by lia
  refine⟨_,tabI (p+B.length -1) λk=>(B.getD (B.length -1) 0)*R.getD k 0 -(if p<=k then R.getD (p+B.length -1) 0*B.getD (k -p) 0 else 0),g.step a rfl h (bf _ _) (λk b=>?_),by rw[bf];lia,λi c=>?_⟩
  ·rw[qK b]
  ·rw[f i c,BM (by lia)];lia
theorem K0{A B:List Int}(g:0<B.length)(m:B.length<=A.length):∃a R:List Int,a.length=A.length -B.length+1/\(∀k,R.getD k 0=(B.getD (B.length -1) 0)^(A.length -B.length+1)*A.getD k 0 -cf a B a.length k)/\R.length<B.length/\(R=[]\/R.getD (R.length -1) 0≠0):=by
 obtain⟨Q,R,f,j,b⟩:=BX (A:=A) (B:=B) (d:=A.length -B.length) g (by lia) (A.length -B.length+1) (Do _);obtain⟨h,e,z,l⟩:=BU _ R rfl;refine⟨tabI (A.length -B.length+1) Q,h,bf _ _,λk=>?_,by lia,z⟩;rw[e k,lK];have:=f k;have c:tT (λi=>(tabI (A.length -B.length+1) Q).getD i 0) (λi=>B.getD i 0) k=tT Q (λi=>B.getD i 0) k:=by
  refine Jh (λi=>?_) (λ_=>rfl) k;rw[vF];split
  ·rfl
  ·exact(b i (by lia)).symm
 show _=_ -tT (λi=>(tabI (A.length -B.length+1) Q).getD i 0) (λi=>B.getD i 0) k;rw[c];lia
theorem Sm.go{ns A B:List Int}{w E:Nat}{m h:Int}{α d:Rat}{a b r:List Rat}(P:NY ns (cj ns) w E)(S:Sm ns (cj ns) w E 26 A B m h α d a b)(j:eX a b r)(g:r≠[]):∃(v:List Int)(t h':Int)(c:Rat),Sm ns (cj ns) w E 26 B v t h' d c b (gc r):=by
 have lq:=S.C.lq;have o:2<=B.length:=ky λz=>by
  have n:b.length=1:=by rw[S.lb];lia
  obtain⟨x,rfl⟩:=List.length_eq_one_iff.mp n;have l:x≠0:=S.zb x rfl;exact g (j.uniq S.zb S.NX (eX.one l))
 obtain⟨y,R,u,k,i,f⟩:=K0 lq S.C.xE;have q:(B.getD (B.length -1) 0)^(A.length -B.length+1)≠0:=cU S.C.ch.C2 _;have e:=j.uniq S.zb S.NX (S.rem q k i f);subst e;have p:R≠[]:=λz=>g (by rw[z];rfl);obtain⟨_,s⟩:=S.next P.X o rfl u k i f p;exact⟨_,_,_,_,s⟩
end Num
namespace VL
open PySem PySem.Spec
open PyProof.Rows hiding St
open L2 Num
theorem K1(x:Rat)(h:(x.den:Int)∣60):x=(1/60:Rat)*((x.num*(60/x.den):Int):Rat):=by
 obtain⟨d,a⟩:=h;have b:=ir x;rw[a,Y2 d b,Qb];have e:((60:Int):Rat)=((x.den:Int):Rat)*(d:Rat):=by rw[a,Qb]
 have f:(60:Rat)=((x.den:Int):Rat)*(d:Rat):=e;have g:((x.den:Int):Rat)≠0:=λz=>b (Pm.mp z);have c:x*((x.den:Int):Rat)=((x.num:Int):Rat):=by have:x=((x.num:Int):Rat)/((x.den:Int):Rat):=(Iy x).symm.trans (cw ..);generalize((x.den:Int):Rat)=u at*;generalize((x.num:Int):Rat)=v at*;grind
 rw[←c];have:(1/60:Rat)*(x*((x.den:Int):Rat)*(d:Rat))=x*(1/60*(((x.den:Int):Rat)*(d:Rat))):=by grind
 rw[this,←f];grind
theorem BY{a:List Rat}(h:ug a):∃(ns:List Int)(w E:Nat),NY ns (cj ns) w E/\Sm ns (cj ns) w E 26 ns (cj ns) 1 1 (Rat.divInt 1 60) (Rat.divInt 1 60) a (aY a):=by
 have g:Rat.divInt 1 60=(1/60:Rat):=cw ..;have e:∀k,cQ a k=(1/60:Rat)*(((a.map λx:Rat=>x.num*(60/(x.den:Int))).getD k 0:Int):Rat):=λk=>by
  show a.getD k 0=_;rw[AC,AC,FM];cases c:a[k]? with
  |none=>show(0:Rat)=1/60*((0:Int):Rat);grind
  |some x=>exact K1 x (h.b x (NA c)).1
 have l:(a.map λx:Rat=>x.num*(60/(x.den:Int))).length=a.length:=Ap _;have l2:=h.l2;have f:∀x∈a,(x.num*(60/(x.den:Int))).natAbs<=x.num.natAbs*60:=λx c=>by rw[Fn];refine Ee _ ?_;have j:=x.den_pos;have:(60:Int)/(x.den:Int)<=60:=lL _ (by decide);have:0<=(60:Int)/(x.den:Int):=mI (by decide) (by lia);lia
 obtain⟨w,E,P⟩:=FZ (ns:=a.map λx:Rat=>x.num*(60/(x.den:Int))) (by rw[l];exact h.l2) (by rw[l];exact h.yU) (by
  by_cases i:a.length<=6
  ·refine .inr ⟨λx c=>?_,by rw[l];exact i⟩;obtain⟨y,d,rfl⟩:=KE.mp c;have:=f y d;have:=(h.b y d).2;lia
  ·refine .inl λx c=>?_;obtain⟨y,d,rfl⟩:=KE.mp c;have:=f y d;have:=(h.b y d).2;lia)
 have z:=g7 h.z (by lia);refine⟨_,w,E,P,Sm.start P (by rw[l];exact l2) (λhz=>z ?_) (by rw[g];exact e) l.symm h.z (by rw[g];grind) (Bl.div (by decide) (by decide) (by decide))⟩;have:=e (a.length -1);rw[l]at hz;rw[hz]at this;show cQ a _=0;rw[this];show(1/60:Rat)*((0:Int):Rat)=0;grind
noncomputable def G8:List CS:=[.app 1 (.comp [0,1] false 2 (.var 2) (.bl true) (.tup [(.bin .Sub (.int 0) (.var 0)),(.var 1)])),.set 2 (.call 1 [(.ix (.var 1) (.neg (.int 2))),(.ix (.var 1) (.neg (.int 1)))])]
noncomputable def mL:List CS:=[.set 1 (.lst [(.var 0),(.comp [0] true 1 (.oj [(.int 1),(.blt .len [(.var 0)])]) (.bl true) (.call 0 [(.bin .Mult (.ix (.ix (.var 1) (.var 0)) (.int 0)) (.var 0)),(.ix (.ix (.var 1) (.var 0)) (.int 1))]))]),.set 2 (.call 1 [(.ix (.var 1) (.int 0)),(.ix (.var 1) (.int 1))]),.Eb (.cmp .NotEq (.var 2) (.lst [])) G8,.iff (.cmp .Gt (.blt .len [(.ix (.var 1) (.neg (.int 1)))]) (.int 1)) [.ret .aS] [],.ret (.var 1)]
noncomputable def vI:bN:=λb Q _=>∃a:List Rat,b=[af a]/\ug a/\Q .aS/\∀l,wk a (aY a) l->Q (.lst ((a::aY a::l).map af))
noncomputable def DJ(c:List Rat)(ns:List Int)(w E:Nat)(x:List (List Rat)×List Rat):Prop:=
 ∃(i d:List (List Rat))(a b:List Rat)(A B:List Int)(g h:Int)(f e:Rat),x.1=i++[a,b]/\x.1=c::aY c::d/\d.length+b.length<=20/\eX a b x.2/\Sm ns (cj ns) w E 26 A B g h f e a b/\∀l,wk a b l->wk c (aY c) (d++l)
theorem UK{l:List W}{x y:W}:kZ (l++[x,y]) (-1)=some y:=by
 have:(l++[x,y]).getLast?=some y:=by rw[show l++[x,y]=(l++[x])++[y] by simp,Y1]
 exact jL this
theorem UL{l:List W}{x y:W}:kZ (l++[x,y]) (-2)=some x:=by
 have e:(l++[x,y]).length=l.length+2:=by simp
 unfold kZ wj;rw[BM (by decide),e,Bz (by show-((l.length+2:Nat):Int)<=-2;lia)];show(l++[x,y])[((-2:Int)+((l.length+2:Nat):Int)).toNat]?=some x;rw[show((-2:Int)+((l.length+2:Nat):Int)).toNat=l.length by lia,Ha (Do _),hZ];rfl
theorem G9(x:Rat):W.tup [.int (0 -x.num),.int x.den]=wq (-x):=by unfold wq;rw[Rat.neg_num,Rat.neg_den,Int.zero_sub]
theorem QS(x:Rat)(k:Nat):Rat.divInt (x.num*(k:Int)) x.den=(k:Rat)*x:=by
 have e:(k:Rat)*x=Rat.divInt (k:Int) 1*Rat.divInt x.num x.den:=by rw[Iy,cw];show(k:Rat)*x=(k:Rat)/((1:Int):Rat)*x;have:((1:Int):Rat)=1:=rfl;rw[this];grind
 rw[e,cq,ey,de]
theorem K2{G:Nat->W}{m:Md}(T:List W)(Q:W->Prop)(R:Addr->Prop)(h:vI T Q R):wSs (c9 [yp,pJ]) G mL (cW m Q R) (aA 3 T):=by
 obtain⟨c,rfl,v,q0,q1⟩:=h;show wSs _ _ mL _ [some (af c),none,none];unfold mL;have l2:=v.l2;have yU:=v.yU;obtain⟨U,w,E,P,M⟩:=BY v;refine aN (λd=>d=[some (af c),some (.lst [af c,af (aY c)]),none]) (λN q=>?_) ?_
 ·unfold af at q⊢;walk_at "vs";rw[Ap];refine⟨⟨by decide,by decide,by lia,by lia⟩,?_⟩;rw[show((c.length:Int) -1).toNat=c.length -1 by lia];unfold gy;refine cu (h:=λi:Nat=>W.int (1+(i:Int)*1)) (g:=λi:Nat=>wq (((i+1:Nat):Rat)*c.getD (i+1) 0)) _ [] _ (λi Z K I=>?_) (au (by simp;lia)) ?_
  ·have Z:=SB.mp Z;have ei:(1+(i:Int)*1)=((i+1:Nat):Int):=by lia
   rw[ei];walk_at "vs";have ea:(c.map wq)[i+1]?=some (wq (c.getD (i+1) 0)):=Ah (by lia);have hb:=v.b (c.getD (i+1) 0) (by rw[AC,B1 (show i+1<c.length by lia)];exact TB _);generalize c.getD (i+1) 0=y at*;refine⟨_,bT ea,_,sJ,aL (n:=20) (m:=4) (by have:=hb.2;lia) (by lia) (by decide),_,bT ea,_,mK,?_⟩;have dl:((y.den:Int)).natAbs<2^6:=by have:=Ya (by decide) hb.1;have:=y.den_pos;lia
   refine⟨_,_,6,rfl,by decide,ir y,dl,?_⟩;rw[QS];exact I
  ·refine⟨au (by simp),q _ ?_⟩;unfold aY dS;rw[Ta];rfl
 rintro _ rfl;obtain⟨⟨_,_⟩,L,J⟩:=M.Jl P;have ls:=lS c;refine aN (λd=>∃r,eX c (aY c) r/\d=[some (af c),some (.lst [af c,af (aY c)]),some (af r)]) (λN q=>?_) ?_
 ·walk_at "vs";refine⟨_,sJ,_,mK,?_⟩;exact⟨c,aY c,18000,rfl,⟨by lia,by lia,yU,M.zb,L,J,by decide,by decide⟩,λr h=>q _ ⟨r,h,rfl⟩⟩
 rintro _ ⟨r0,H,rfl⟩;refine aN (λd=>∃l b,(wk c (aY c) l/\(c::aY c::l).getLast?=some b)/\∃o,d=[some (af c),some (.lst ((c::aY c::l).map af)),o]) (λN q=>?_) ?_
 ·refine UH (α:=List (List Rat)×List Rat) (λx=>[some (af c),some (.lst (x.1.map af)),some (af x.2)]) (DJ c U w E) (λx=>x.2.length) ([c,aY c],r0) rfl ⟨[],[],c,aY c,_,_,_,_,_,_,rfl,rfl,by rw[ls];show 0+_<=20;lia,H,M,λl h=>h⟩ ?_;rintro⟨l,r⟩ ⟨D,j,a,b,A,B,ld,h,α,β,F,u,lp,s,S,f⟩;dsimp only at F u s⊢;walk_at "vs";refine⟨au (by simp),Af (y:=[]) λk Y=>?_⟩;by_cases e:r=[]
  ·cases gk Y e;walk_at "vs";refine gE (λz=>by cases z) (λ_=>?_);subst e;have p:=f [] (.nil s);rw[QQ]at p;refine q _ ⟨j,b,⟨p,?_⟩,_,by rw[u]⟩;rw[←u,F,show D++[a,b]=(D++[a])++[b] by simp,Y1]
  ·cases ig Y e;walk_at "vs";refine gE (λ_=>?_) (λz=>by cases z);obtain⟨B',YE,h',β',O⟩:=S.go P s e;obtain⟨_,L,J⟩:=O.Jl P;have lr:=s.2.1;have lb:b.length<=10:=by have:=S.lb;have:=S.C.DZ;have:=dg U;have:=P.yU;lia
   unfold G8;refine aN (λd=>d=[some (af c),some (.lst ((l++[gc r]).map af)),some (af r)]) (λN1 X=>?_) ?_
   ·unfold af at X⊢;walk_at "vs";refine cu (h:=wq) (g:=λx=>wq (-x)) r [] _ (λx hx K I=>?_) (au (by simp;lia)) ?_
    ·unfold wq;walk_at "vs";refine⟨rfl,au (by simp),?_⟩;rw[G9];exact I
    ·refine⟨vC (by rw[Ap,u];simp;lia),X _ ?_⟩;rw[cc];unfold gc;simp
   rintro _ rfl;walk_at "vs";have el:(l++[gc r]).map af=(D++[a]).map af++[af b,af (gc r)]:=by rw[F];simp
   rw[el];refine⟨_,UL,_,UK,?_⟩;rw[←el];refine⟨b,gc r,18000,rfl,⟨by rw[lP];exact ag.mpr e,by rw[lP];exact Mo lr,lb,O.zb,L,J,by decide,by decide⟩,λr' t=>?_⟩;refine⟨(l++[gc r],r'),rfl,⟨D++[a],j++[gc r],b,gc r,_,_,_,_,_,_,?_,?_,?_,t,O,λl' p=>?_⟩,?_⟩
   ·show l++[gc r]=_;rw[F];simp
   ·show l++[gc r]=_;rw[u];simp
   ·rw[Fh,lP];show j.length+1+_<=20;lia
   ·have:=f (gc r::l') (.cons s e p);rw[Kx];exact this
   ·have:=t.2.1;rw[lP]at this;exact this
 rintro _ ⟨l,b,⟨p,hl⟩,o,rfl⟩;walk_at "vs";refine⟨_,jL (by rw[kS,hl];rfl),?_⟩;unfold af;walk_at "vs";split
 ·exact q0
 ·exact q1 l p
theorem yu{α:Type}(f:α->W)(d:α)(l:List α):gi (l.map f)=(List.range l.length).map λi:Nat=>W.tup [.int i,f (l.getD i d)]:=by
 unfold gi;refine SC λi=>?_;rw[List.getElem?_zipWith,FM,FM,Ap];by_cases h:i<l.length
 ·have e:l.getD i d=l[i]:=by rw[AC,B1 h];rfl
  rw[SU h,B1 h];show some (W.tup [W.int i,f l[i]])=some (W.tup [W.int i,f (l.getD i d)]);rw[e]
 ·rw[Dx (show(List.range l.length).length<=i by simpa using h)];rfl
theorem MJ(l:List W):nK l (some 1) none=l.drop 1:=by
 unfold nK;rw[HT.wO,show(1:Int)=((1:Nat):Int)from rfl,HT.AM];cases l with
 |nil=>rfl
 |cons x l=>rw[show min 1 (x::l).length=1 by simp];exact ll (by simp)
theorem qR(n:Nat)(g:Nat->W):((List.range n).map g).drop 1=(List.range (n -1)).map λi=>g (i+1):=by
 cases n with
 |zero=>rfl
 |succ n=>rw[List.range_succ_eq_map];simp
noncomputable def cL:List CS:=[.ret (.sl (.comp [0,1] false 2 (.sE (.var 0)) (.bl true) (.bin .Mult (.var 0) (.var 1))) (.int 1) .aS)]
noncomputable def dH:bN:=λb Q _=>∃(a:List Int)(n:Nat),b=[wI a]/\a.length<=100/\(∀x∈a,x.natAbs<2^n)/\n<=1000000/\Q (wI (cj a))
theorem sL{e:Nat->bN}{G:Nat->W}{m:Md}(c:List W)(Q:W->Prop)(R:Addr->Prop)(h:dH c Q R):wSs e G cL (cW m Q R) (aA 1 c):=by
 obtain⟨a,n,rfl,l,f,k,b⟩:=h;show wSs _ _ cL _ [some (wI a)];unfold cL wI;walk_at "vs";rw[yu W.int 0 a];refine cu (h:=λi:Nat=>W.tup [.int i,W.int (a.getD i 0)]) (g:=λi:Nat=>W.int ((i:Int)*a.getD i 0)) _ [] _ (λi d K j=>?_) (au (by simp;lia)) ?_
 ·have d:=SB.mp d;walk_at "vs";exact⟨rfl,aL (n:=7) (m:=n) (by lia) (nZ f i) (by lia),j⟩
 ·rw[List.nil_append,MJ,qR];unfold wI cj at b;rw[Ta]at b;exact b
noncomputable def mO:List CS:=[.ret (.sl (.comp [0,1] false 2 (.sE (.var 0)) (.bl true) (.call 0 [(.tup [(.var 0),(.int 1)]),(.var 1)])) (.int 1) .aS)]
noncomputable def qS:bN:=λb Q _=>∃(a:List Rat),b=[af a]/\a.length<=100/\(∀x∈a,Bd 100 x)/\Q (af (aY a))
theorem K3{G:Nat->W}{m:Md}(d:List W)(Q:W->Prop)(R:Addr->Prop)(h:qS d Q R):wSs (c9 [n5]) G mO (cW m Q R) (aA 1 d):=by
 obtain⟨a,rfl,k,f,c⟩:=h;show wSs _ _ mO _ [some (af a)];unfold mO af;walk_at "vs";rw[yu wq 0 a];refine cu (h:=λi:Nat=>W.tup [.int i,wq (a.getD i 0)]) (g:=λi:Nat=>wq ((i:Rat)*a.getD i 0)) _ [] _ (λi e K j=>?_) (au (by simp;lia)) ?_
 ·have e:=SB.mp e;have b:=qP f (by decide) i;walk_at "vs";refine⟨rfl,au (by simp),(i:Rat),a.getD i 0,7,100,1,100,rfl,⟨⟨?_,(by decide:1<2^1)⟩,b,by decide,by decide,by decide,by decide⟩,j⟩;show((i:Int)).natAbs<2^7;lia
 ·rw[List.nil_append,MJ,qR];unfold af aY dS at c;rw[Ta]at c;exact c
noncomputable def iC:List CS:=[.ret (.tup [(.neg (.ix (.var 0) (.int 0))),(.ix (.var 0) (.int 1))])]
noncomputable def jw:bN:=λa Q _=>∃x:Rat,a=[wq x]/\Q (wq (-x))
theorem DG{b:Nat->bN}{G:Nat->W}{m:Md}(a:List W)(Q:W->Prop)(R:Addr->Prop)(h:jw a Q R):wSs b G iC (cW m Q R) (aA 1 a):=by obtain⟨x,rfl,c⟩:=h;show wSs _ _ iC _ [some (wq x)];unfold iC wq;walk_at "vs";refine⟨_,sJ,_,mK,au (by simp),?_⟩;have:=G9 x;rw[Int.zero_sub]at this;rw[this];exact c
theorem QT{ns A B:List Int}{w E:Nat}{d h:Int}{α f:Rat}{a b:List Rat}(P:NY ns (cj ns) w E)(S:Sm ns (cj ns) w E 26 A B d h α f a b)(e:2<=B.length):MF A B [] [] d h (w*(ns.length -1+((cj ns).length -1)+1)+1) (w*E):=by have C:=S.C;have l1:=P.X.l1;have xE:=C.xE;have lp:=C.lp;have:=P.hL;have:=P.yU;obtain⟨i,g,j⟩:=C.size P.X e;obtain⟨n,m,l,k⟩:=C.bd;exact⟨e,xE,by lia,Kk _,Kk _,λx c=>fL (n x c),λx c=>fL (m x c),λx c=>fL (l x c),λx c=>fL (k x c),fL C.bl,fL (DD C.bh (GE (by decide) (Ee _ (Nat.le_succ_of_le (Nat.sub_le _ _))))),by lia,P.hE,i,g,j⟩
theorem UM{e:Nat->bN}{G:Nat->W}{c:CE}{b:List CS}{D:Dn}{d:Ev}(J:Nat->Ev->Prop)(f:Nat)(j:J f d)(i:∀m d,J m d->wP e G (λ_=>False) c d λx h=>truth x λk=>if k=true then∃N:Ev->Prop,(∀a,N a->∃g,g<m/\J g a)/\wSs e G b {nx:=N,rt:=D.rt,bk:=D.nx,ct:=N,ex:=λ_=>False} h else D.nx h):wS e G (.Ro c b) D d:=⟨J,⟨f,j⟩,i⟩
noncomputable def yv:List CS:=[.zS [6,7] (.tup [(.var 7),(.call 6 [(.call 7 [(.var 6),(.call 4 [(.own 4 [.fl 8 "known"]),(.own 4 [.fl 7 "scale"])])])])]),.Tg 5 (.comp [0] true 1 (.own 4 [.fl 1 "last"]) (.bl true) (.call 7 [(.var 8),(.tup [(.var 0),(.int 1)])]))]
noncomputable def iD:List CS:=[.iff (.cmp .Eq (.var 0) (.lst [])) [.zT] [],.iff (.cmp .Eq (.blt .len [(.var 0)]) (.int 1)) [.zT] [],.zS [1,2,3] (.call 0 [(.var 0)]),.set 4 (.call 1 [(.var 1),(.call 2 [(.var 1)]),(.lst [])]),.Tf 5 [(.blt .list [(.var 0)]),(.call 3 [(.var 0)])],.set 6 (.call 4 [(.var 3),(.var 2)]),.set 7 (.var 6),.Ro (.and [(.cmp .Gt (.blt .len [(.own 4 [.fl 1 "last"])]) (.int 1)),(.Ea 4 0 5 [])]) yv,.ret (.var 5)]
noncomputable def mP:bN:=λb Q _=>∃a:List Rat,b=[af a]/\ug a/\∀l,wk a (aY a) l->Q (.lst ((a::aY a::l).map af))
structure SJ(row:List Rat)(ns:List Int)(w E:Nat)(pre:List (List Rat))(A B:List Int)(ld h:Int)(α β:Rat):Prop where
 ex:∃a b,Sm ns (cj ns) w E 26 A B ld h α β a b/\pre.length+b.length<=20/\∀l,wk a b l->wk row (aY row) (pre++l)
theorem DH{C:Addr}{m:Md}(ws:List W)(Q:W->Prop)(R:Addr->Prop)(h:mP ws Q R):wSs (c9 [fT,vH C,dH,qS,iy,ym C,jw,n5]) (pK [.cls C]) iD (cW m Q R) (aA 8 ws):=by
 obtain⟨d,rfl,G,hq⟩:=h;show wSs _ _ iD _ [some (af d),none,none,none,none,none,none,none];unfold iD;have l2:=G.l2;have yU:=G.yU;refine aN (λf=>f=[some (af d),none,none,none,none,none,none,none]) (λN p=>?_) ?_
 ·walk_at "vs";refine⟨au (by simp),Ae (y:=[]) λk hk=>?_⟩;cases ig hk (λz=>by rw[z]at l2;simp at l2);walk_at "vs";exact p _ rfl
 rintro _ rfl;refine aN (λf=>f=[some (af d),none,none,none,none,none,none,none]) (λN p=>?_) ?_
 ·unfold af at p⊢;walk_at "vs";rw[Ap,BM (by rw[Oy];lia)];exact p _ rfl
 rintro _ rfl;have zl:=g7 G.z (by lia);refine aN (λf=>∃(ns:List Int)(B c:Int)(w E:Nat),(NY ns (cj ns) w E/\(∀x∈ns,x.natAbs<2^26)/\2<=ns.length/\B≠0/\B.natAbs<2^6/\Sm ns (cj ns) w E 26 ns (cj ns) 1 1 (Rat.divInt c B) (Rat.divInt c B) d (aY d))/\f=[some (af d),some (wI ns),some (.int B),some (.int c),none,none,none,none]) (λN p=>?_) ?_
 ·walk_at "vs";obtain⟨n,QU,hcd,hpb⟩:∃n:Nat,n<=26/\(∀x∈d,Cd 60 n x)/\(n=10\/d.length<=6):=by
   have go:∀(n:Nat),(∀x∈d,x.num.natAbs*60<2^n)->∀x∈d,Cd 60 n x:=λn hn x q=>by refine Cd.of (G.b x q).1 ?_;rw[Fn];refine Fm (Ee _ ?_) (hn x q);have d1:=x.den_pos;have:(60:Int)/(x.den:Int)<=60:=lL _ (by decide);have:0<=(60:Int)/(x.den:Int):=mI (by decide) (by lia);lia
   by_cases l6:d.length<=6
   ·exact⟨26,by decide,go 26 λx q=>by have:=(G.b x q).2;lia,.inr l6⟩
   ·exact⟨10,by decide,go 10 λx q=>by have:=(G.b x q).2;lia,.inl rfl⟩
  refine⟨d,60,n,6,rfl,⟨⟨d.getD (d.length -1) 0,?_,zl⟩,hcd,by decide,by decide,by decide,by lia,by lia⟩,λms B c s bB bc bm=>⟨rfl,?_⟩⟩
  ·rw[AC,B1 (show d.length -1<d.length by lia)];exact TB _
  have b0:B≠0:=by have:=s.bpos;lia
  have J:c≠0:=by have:=s.cpos;lia
  have qB:(B:Rat)≠0:=λz=>b0 (Pm.mp z);have qc:(c:Rat)≠0:=λz=>J (Pm.mp z);have ed:Rat.divInt c B=(c:Rat)/B:=cw ..;have e:∀k,cQ d k=Rat.divInt c B*((ms.getD k 0:Int):Rat):=λk=>by
   have:=s.at_ k;rw[ed];show d.getD k 0=_;generalize d.getD k 0=u at*;generalize((ms.getD k 0:Int):Rat)=v at*;have e1:u=v*c/B:=by rw[this];grind
   rw[e1];grind
  obtain⟨w,E,P⟩:=FZ (ns:=ms) (by rw[s.len];exact l2) (by rw[s.len];exact yU) (by
   rcases hpb with h|h
   ·subst h;exact .inl λx q=>Mo (bm x q)
   ·exact .inr ⟨λx q=>Mo (eV (bm x q) QU),by rw[s.len];exact h⟩)
  refine p _ ⟨ms,B,c,w,E,⟨P,λx q=>eV (bm x q) QU,by rw[s.len];exact l2,b0,bB,Sm.start P (by rw[s.len];exact l2) (λz=>zl ?_) e s.len.symm G.z ?_ (Bl.div (Mo (eV bc QU)) (Mo (eV bB (by decide))) b0)⟩,rfl⟩
  ·have:=e (d.length -1);rw[s.len]at z;rw[z]at this;show cQ d _=0;rw[this];show Rat.divInt c B*((0:Int):Rat)=0;grind
  ·rw[ed];intro z;have:(c:Rat)=(c:Rat)/B*B:=by grind
   rw[z]at this;exact qc (by grind)
 rintro _ ⟨ns,B,c,w,E,⟨P,bns,ln,b0,bB,S0⟩,rfl⟩;have lns:=P.yU;refine aN (λf=>f=[some (af d),some (wI ns),some (.int B),some (.int c),some (oB C ns (cj ns) [] [] 1 1 1 1 1),none,none,none]) (λN p=>?_) ?_
 ·walk_at "vs";refine⟨ns,26,rfl,by lia,bns,by decide,au (by simp),ns,cj ns,[],rfl,p _ rfl⟩
 rintro _ rfl;refine aN (λf=>f=[some (af d),some (wI ns),some (.int B),some (.int c),some (oB C ns (cj ns) [] [] 1 1 1 1 1),some (.lst ([d,aY d].map af)),none,none]) (λN p=>?_) ?_
 ·unfold af at p⊢;walk_at "vs";refine⟨d,rfl,by lia,λx q=>?_,au (by simp),p _ rfl⟩;obtain⟨h1,h2⟩:=G.b x q;have d1:=x.den_pos;have:=Ya (by decide) h1;refine⟨FC (show x.num.natAbs<2^20 by lia) (GE (by decide) (by decide)),FC (show x.den<2^6 by lia) (GE (by decide) (by decide))⟩
 rintro _ rfl;refine aN (λf=>f=[some (af d),some (wI ns),some (.int B),some (.int c),some (oB C ns (cj ns) [] [] 1 1 1 1 1),some (.lst ([d,aY d].map af)),some (wq (Rat.divInt c B)),none]) (λN p=>?_) ?_
 ·walk_at "vs";exact⟨c,B,6,rfl,bB,by decide,b0,λ_=>p _ rfl⟩
 rintro _ rfl;refine aN (λf=>f=[some (af d),some (wI ns),some (.int B),some (.int c),some (oB C ns (cj ns) [] [] 1 1 1 1 1),some (.lst ([d,aY d].map af)),some (wq (Rat.divInt c B)),some (wq (Rat.divInt c B))]) (λN p=>?_) ?_
 ·walk_at "vs";exact p _ rfl
 rintro _ rfl;refine aN (λf=>∃i o4 o6 o7,wk d (aY d) i/\f=[some (af d),some (wI ns),some (.int B),some (.int c),o4,some (.lst ((d::aY d::i).map af)),o6,o7]) (λN p=>?_) ?_
 ·refine UM (λm ε=>∃(i:List (List Rat))(A j:List Int)(T h sg sc kn:Int)(O M:Rat),SJ d ns w E i A j T h O M/\m=j.length/\ε=[some (af d),some (wI ns),some (.int B),some (.int c),some (oB C A j [] [] T h sg sc kn),some (.lst ((d::aY d::i).map af)),some (wq O),some (wq M)]) _ ⟨[],ns,cj ns,1,1,1,1,1,_,_,⟨d,aY d,S0,by rw[lS];show 0+_<=20;lia,λl h=>h⟩,rfl,rfl⟩ ?_;rintro m _ ⟨i,A,j,T,h,sg,sc,kn,O,M,⟨a,b,S,lp,H⟩,rfl,rfl⟩;have D:eX a b []->wk d (aY d) i:=λvJ=>by have I:=H [] (.nil vJ);rw[QQ]at I;exact I
  unfold oB wI;walk_at "vs";rw[Ap];by_cases hl:1<j.length;rotate_left
  ·rw[BM (by rw[Oy];lia)];have lq:=S.C.lq;have l1:b.length=1:=by rw[S.lb];lia
   obtain⟨x,rfl⟩:=List.length_eq_one_iff.mp l1;exact p _ ⟨i,_,_,_,D (eX.one (S.zb x rfl)),rfl⟩
  rw[Bz (KM (by lia))];refine⟨rfl,A,j,[],[],T,h,sg,sc,kn,_,_,rfl,QT P S hl,λQs t dv=>?_,λQs R F t hR dv df=>?_⟩
  ·obtain⟨Y,Ma,cR,U,zR⟩:=dv;have J:t≠0:=by rw[Y];exact Sub.cU S.C.ch.C2 _
   refine⟨_,_,rfl,?_⟩;exact p _ ⟨i,_,_,_,D (S.rem J cR U zR),rfl⟩
  ·obtain⟨Y,Ma,cR,U,zR⟩:=dv;have J:t≠0:=by rw[Y];exact Sub.cU S.C.ch.C2 _
   have f0:F=[]:=Kb.mp (Nat.le_zero.mp (df.2.2 rfl));subst f0;obtain⟨en,S'⟩:=S.next P.X hl Y Ma cR U zR hR;have vJ:=S.rem J cR U zR;have W7:(R.map λy:Int=>O/t*(y:Rat))≠[]:=λz=>hR (List.map_eq_nil_iff.mp z);obtain⟨⟨NW,Ws⟩,_,_⟩:=S.Jl P;obtain⟨⟨_,W8⟩,_,_⟩:=S'.Jl P;have bB':=S'.C.bd.2.1;have DZ:=S.C.DZ;have xE:=S.C.xE;have lpA:=S.C.lp;have hL:=P.hL;have hE:=P.hE;have kE:=(S.C.size P.X hl).2.1;have bc:t.natAbs<=2^(330*10):=by rw[Y,Sub.iS];refine DD (QR ((S.C.bd).2.1 _ (Sub.getD_mem' (k:=j.length -1) (by lia))) _) ?_;rw[←dE];exact GE (by decide) (On hL (by lia))
   refine⟨_,_,rfl,?_⟩;rw[uz,Bz rfl];generalize Zx:T*h^(A.length -j.length)=L at*;generalize hβ: -(O*Rat.divInt L t)=o at*;generalize Z:(R.map λy=>y.fdiv L)=r at*;have lBn:r.length<j.length:=by rw[←Z,Ap];exact U
   refine⟨λf=>f=[some (af d),some (.lst (ns.map W.int)),some (.int B),some (.int c),some (oB C j r [] [] (j.getD (j.length -1) 0) (Sub.hnext h (j.getD (j.length -1) 0) (A.length -j.length)) (KU A j sg) t L),some (.lst ((d::aY d::(i++[r.map λy:Int=>o*(y:Rat)])).map af)),some (wq M),some (wq o)],?_,?_⟩
   ·rintro _ rfl;refine⟨r.length,lBn,i++[r.map λy:Int=>o*(y:Rat)],j,r,_,_,_,_,_,M,o,⟨b,r.map λy:Int=>o*(y:Rat),by rw[←en];exact S',?_,λl I=>?_⟩,rfl,rfl⟩
    ·rw[Fh,Ap,←Z,Ap];have:=S.lb;show i.length+1+_<=20;lia
    ·rw[←en]at I⊢;rw[Kx];exact H _ (.cons vJ W7 I)
   ·unfold yv;refine aN (λf=>f=[some (af d),some (.lst (ns.map W.int)),some (.int B),some (.int c),some (oB C j r [] [] (j.getD (j.length -1) 0) (Sub.hnext h (j.getD (j.length -1) 0) (A.length -j.length)) (KU A j sg) t L),some (.lst ((d::aY d::i).map af)),some (wq M),some (wq o)]) (λN1 ju=>?_) ?_
    ·unfold oB wI at ju⊢;walk_at "vs";refine⟨L,t,3301,rfl,Fm bc (Q1 (by decide) (by decide)),by decide,J,λ_=>?_⟩;refine⟨O,Rat.divInt L t,17601,7901,5901,3301,rfl,⟨NW.Va,(Bl.div (DD kE (GE (by decide) hE)) bc J).Va,by decide,by decide,by decide,by decide⟩,?_⟩;refine⟨_,rfl,au (by simp),rfl,?_⟩;rw[hβ];exact ju _ rfl
    rintro _ rfl;unfold oB wI;walk_at "vs";have aai:i.length<=20:=by lia
    refine cu (h:=W.int) (g:=λy:Int=>wq (o*(y:Rat))) r [] _ (λy hy K hK=>?_) (au (by simp;lia)) ?_
    ·walk_at "vs";refine⟨au (by simp),o,(y:Rat),17601,331,5901,1,rfl,⟨W8.Va,(Bl.int (DD (bB' y hy) (GE (by decide) hL))).Va,by decide,by decide,by decide,by decide⟩,hK⟩
    ·refine⟨vC (by rw[Ap];simp;lia),?_⟩;rw[List.nil_append];have el:(d::aY d::i).map af++[W.lst (r.map λy:Int=>wq (o*(y:Rat)))]=(d::aY d::(i++[r.map λy:Int=>o*(y:Rat)])).map af:=by simp[af]
     rw[el]
 rintro _ ⟨i,o4,o6,o7,I,rfl⟩;walk_at "vs";exact hq i I
noncomputable def jx:List CS:=[.iff (.cmp .Eq (.var 0) (.lst [])) [.raise 0 (.str "Sturm's row of the row 0")] [],.zT,.zT,.zT,.zT,.zT,.zT,.zT,.zT]
noncomputable def vK(C:Addr):bN:=λa _ R=>a=[af []]/\R C
theorem Hf{b:Nat->bN}{C:Addr}{m:Md}(a:List W)(Q:W->Prop)(R:Addr->Prop)(h:vK C a Q R):wSs b (pK [.cls C]) jx (cW m Q R) (aA 8 a):=by obtain⟨rfl,d⟩:=h;show wSs _ _ jx _ [some (af []),none,none,none,none,none,none,none];unfold jx;refine aN (λ_=>False) (λN e=>?_) (λ_ h=>h.elim);walk_at "vs";refine⟨au (by simp),Ae (x:=[]) (y:=[]) λk c=>?_⟩;cases gk c rfl;walk_at "vs";exact d
noncomputable def iE:List CS:=[.set 1 (.call 0 [(.var 0)]),.iff (.cmp .Is (.var 1) .aS) [.ret (.bl true)] [],.set 2 (.blt .list [(.var 0)]),.set 3 (.call 1 [(.var 2)]),.iff (.or [(.not (.zQ [3] (.blt .F3 [(.var 3),(.HS "list")]))),(.zQ [3] (.cmp .NotEq (.var 3) (.var 1))),(.cmp .NotEq (.var 2) (.var 0))]) [.ret (.bl false)] [],.Tc 3 [.ix 0] (.tup [(.int 1),(.int 1)]),.Td 3 [.ix 1],.ret (.and [(.cmp .Eq (.var 2) (.var 0)),(.cmp .Eq (.call 1 [(.var 2)]) (.var 1))])]
noncomputable def iF:bN:=λb Q _=>∃a:List Rat,b=[af a]/\ug a/\Q (.bl true)
theorem mQ(l:List (List Rat)):eY 9 (.lst (l.map af))=true:=by rw[eY,HI];intro x a;obtain⟨r,_,rfl⟩:=KE.mp a;exact mw r 6
theorem K4{l:List (List Rat)}{Q:W->Prop}(h:Q (.bl true)):eT .Eq (.lst (l.map af)) (.lst (l.map af)) Q:=by rw[Uu];refine⟨.inl ⟨mQ l,mQ l⟩,λk a=>?_⟩;rw[a.mpr rfl];exact h
theorem K5{l:List (List Rat)}{Q:W->Prop}(h:Q (.bl false)):eT .NotEq (.lst (l.map af)) (.lst (l.map af)) Q:=by rw[Uv];refine⟨.inl ⟨mQ l,mQ l⟩,λk a=>?_⟩;rw[a.mpr rfl];exact h
theorem DI{G:Nat->W}{m:Md}(i:List W)(Q:W->Prop)(R:Addr->Prop)(h:iF i Q R):wSs (c9 [vI,mP]) G iE (cW m Q R) (aA 4 i):=by
 obtain⟨a,rfl,e,n⟩:=h;show wSs _ _ iE _ [some (af a),none,none,none];unfold iE;obtain⟨r,w,E,P,p⟩:=BY e;have l2:=e.l2;have yU:=e.yU;refine aN (λb=>b=[some (af a),some .aS,none,none]\/∃l,wk a (aY a) l/\b=[some (af a),some (.lst ((a::aY a::l).map af)),none,none]) (λN c=>?_) ?_
 ·walk_at "vs";exact⟨a,rfl,e,c _ (.inl rfl),λl f=>c _ (.inr ⟨l,f,rfl⟩)⟩
 intro b q;refine aN (λb=>∃l,wk a (aY a) l/\b=[some (af a),some (.lst ((a::aY a::l).map af)),none,none]) (λN c=>?_) ?_
 ·rcases q with rfl|⟨l,f,rfl⟩
  ·walk_at "vs";exact n
  ·walk_at "vs";exact c _ ⟨l,f,rfl⟩
 rintro _ ⟨l,f,rfl⟩;have j:∀d,wk a (aY a) d->d=l:=λd h=>h.uniq p.zb p.NX f;refine aN (λb=>b=[some (af a),some (.lst ((a::aY a::l).map af)),some (af a),none]) (λN c=>?_) ?_
 ·unfold af;walk_at "vs";exact c _ rfl
 rintro _ rfl;refine aN (λb=>b=[some (af a),some (.lst ((a::aY a::l).map af)),some (af a),some (.lst ((a::aY a::l).map af))]) (λN c=>?_) ?_
 ·walk_at "vs";exact⟨a,rfl,e,λd h=>by rw[j d h];exact c _ rfl⟩
 rintro _ rfl;refine aN (λb=>b=[some (af a),some (.lst ((a::aY a::l).map af)),some (af a),some (.lst ((a::aY a::l).map af))]) (λN c=>?_) ?_
 ·walk_at "vs";refine⟨"list",rfl,rfl,?_⟩;walk_at "vs";rw[BM (by decide)];refine K5 ?_;refine⟨rfl,?_⟩;walk_at "vs";refine Af λk g=>?_;cases gk g rfl;walk_at "vs";exact c _ rfl
 rintro _ rfl;refine aN (λb=>∃o,b=[some (af a),some (.lst ((a::aY a::l).map af)),some (af a),some (.lst (o::af (aY a)::l.map af))]) (λN c=>?_) ?_
 ·unfold af at c⊢;walk_at "vs";refine⟨au (by simp),vC (by rw[Ap];lia),c _ ⟨_,rfl⟩⟩
 rintro _ ⟨o,rfl⟩;refine aN (λb=>∃o,b=[some (af a),some (.lst ((a::aY a::l).map af)),some (af a),o]) (λN c=>?_) ?_
 ·unfold af at c⊢;walk_at "vs";exact c _ ⟨_,rfl⟩
 rintro _ ⟨o,rfl⟩;walk_at "vs";refine Ae λk g=>?_;cases gk g rfl;walk_at "vs";refine⟨a,rfl,e,λd h=>?_⟩;rw[j d h];exact K4 n
noncomputable def mR:CS:=.fr [1] true (.oj [(.blt .max2 [(.int 1),(.blt .min2 [(.blt .len [(.var 0)]),(.int 8)])])]) [.iff (.not (.call 0 [(.NZ 1 (.call 2 [(.var 0),(.var 1)]) [])])) [.ret (.bl false)] []]
theorem K6{G:Nat->W}{ns:List Int}{D:Dn}(p:∀o,D.nx [some (.gx ns),o,none,none]):wS (c9 [iF,iB,uf]) G mR D [some (.gx ns),none,none,none]:=by
 unfold mR;obtain⟨c,r,e⟩:∃c:Nat,c<=8/\(if(if(8:Int)<(ns.length:Int)then(8:Int)else(ns.length:Int))>1 then(if(8:Int)<(ns.length:Int)then(8:Int)else(ns.length:Int))else 1)=(c:Int):=by
  by_cases h:(8:Int)<(ns.length:Int)
  ·exact⟨8,by decide,by rw[Bz h,Bz (by decide)];rfl⟩
  ·rw[BM h];by_cases g:(ns.length:Int)>1
   ·exact⟨ns.length,by lia,by rw[Bz g]⟩
   ·exact⟨1,by decide,by rw[BM g];rfl⟩
 refine BV (l:=gy 0 1 c) (λQ n=>?_) ?_
 ·walk_at "vs";rw[e];exact⟨by lia,by lia,n⟩
 refine b9 (λi j=>∃o,j=[some (.gx ns),o,none,none]) ⟨none,rfl⟩ ?_ ?_
 ·rintro i w _ N f ⟨o,rfl⟩ k;obtain⟨q,rfl⟩:=qJ f;walk_at "vs";refine⟨ns,i,rfl,by lia,λa b f=>?_⟩;refine⟨a,b,rfl,f,λd t s m u=>⟨_,_,rfl,?_⟩⟩;refine⟨d,rfl,m,?_⟩;walk_at "vs";exact k _ ⟨_,rfl⟩
 ·rintro _ ⟨o,rfl⟩;exact p o
theorem Hg{G:Nat->W}{ns:List Int}{D:Dn}(b:∀a,(∃o,a=[some (.gx ns),o,none,none])->D.nx a):wS (c9 [iF,iB,uf]) G mR D [some (.gx ns),none,none,none]:=K6 λo=>b _ ⟨o,rfl⟩
end VL
namespace UX
open PySem PySem.Spec
open PyProof.Rows hiding St
open L2 VL Num
set_option genInjectivity false
set_option genSizeOf false
noncomputable def top(i:Nat):Stmt:=PySem.Challenge.pw_paperwright_k41_sturms_row.main.body.getD i (.Pass ⟨0,0,0,0⟩)
abbrev yw:Stmt:=top 4
abbrev Hh:Stmt:=top 5
abbrev yx:Stmt:=top 7
abbrev jy:Stmt:=top 10
abbrev fU:Stmt:=top 21
abbrev iG:Stmt:=top 22
abbrev mT:Stmt:=top 23
abbrev iH:Stmt:=top 25
abbrev iI:Stmt:=top 26
abbrev jz:Stmt:=top 27
abbrev dI:Stmt:=top 28
abbrev cM:Stmt:=top 29
abbrev cN:Stmt:=top 30
abbrev cO:Stmt:=top 31
abbrev b7:Stmt:=top 32
abbrev eG:Stmt:=top 33
abbrev gF:Stmt:=inClass (top 35) 0
abbrev dJ:Stmt:=inClass (top 35) 2
abbrev cP:Stmt:=top 36
abbrev eH:Stmt:=top 38
abbrev mU:Stmt:=top 40
abbrev cy:Stmt:=top 42
abbrev qT:Stmt:=top 44
abbrev qU:Stmt:=top 45
abbrev mV:Stmt:=top 46
abbrev jA:Stmt:=top 47
abbrev vL:Stmt:=top 48
abbrev dM:Stmt:=top 49
abbrev qV:Stmt:=top 50
abbrev yy:Stmt:=top 51
abbrev mW:Stmt:=top 52
abbrev mX:Stmt:=top 53
abbrev yz:Stmt:=top 54
theorem QV:aD ["one","other"] ["one","other"] (aa yw):=⟨rfl,rfl,rfl,by decide+kernel,rfl,by decide+kernel,by decide+kernel⟩
theorem DK:aD ["number","exponent","power"] ["number","exponent"] (aa jy):=⟨rfl,rfl,rfl,by decide+kernel,rfl,by decide+kernel,by decide+kernel⟩
theorem yC:aD ["top","bottom","divisor"] ["top","bottom"] (aa fU):=⟨rfl,rfl,rfl,by decide+kernel,rfl,by decide+kernel,by decide+kernel⟩
theorem An:aD ["one"] ["one"] (aa iG):=⟨rfl,rfl,rfl,by decide+kernel,rfl,by decide+kernel,by decide+kernel⟩
theorem Hi:aD ["one","other","top","bottom","other_top","other_bottom","first","second"] ["one","other"] (aa mT):=⟨rfl,rfl,rfl,by decide+kernel,rfl,by decide+kernel,by decide+kernel⟩
theorem Ao:aD ["row","bottom","number","part"] ["row"] (aa iH):=⟨rfl,rfl,rfl,by decide+kernel,rfl,by decide+kernel,by decide+kernel⟩
theorem Aq:aD ["numbers","length"] ["numbers"] (aa iI):=⟨rfl,rfl,rfl,by decide+kernel,rfl,by decide+kernel,by decide+kernel⟩
theorem DM:aD ["numbers","by"] ["numbers","by"] (aa jz):=⟨rfl,rfl,rfl,by decide+kernel,rfl,by decide+kernel,by decide+kernel⟩
theorem sM:aD ["one","other","length","told","place","number"] ["one","other"] (aa dI):=⟨rfl,rfl,rfl,by decide+kernel,rfl,by decide+kernel,by decide+kernel⟩
theorem qW:aD ["one","other"] ["one","other"] (aa cM):=⟨rfl,rfl,rfl,by decide+kernel,rfl,by decide+kernel,by decide+kernel⟩
theorem qX:aD ["one","other","told","place","number","further","factor"] ["one","other"] (aa cN):=⟨rfl,rfl,rfl,by decide+kernel,rfl,by decide+kernel,by decide+kernel⟩
theorem qY:aD ["numbers"] ["numbers"] (aa cO):=⟨rfl,rfl,rfl,by decide+kernel,rfl,by decide+kernel,by decide+kernel⟩
theorem n6:aD ["one","other","room","lead","rest","quotient","place","head","further","scale"] ["one","other"] (aa b7):=⟨rfl,rfl,rfl,by decide+kernel,rfl,by decide+kernel,by decide+kernel⟩
theorem vM:aD ["numbers","content","number"] ["numbers"] (aa eG):=⟨rfl,rfl,rfl,by decide+kernel,rfl,by decide+kernel,by decide+kernel⟩
theorem qZ:aD ["self","one","other","factor"] ["self","one","other","factor"] (aa gF):=⟨rfl,rfl,rfl,by decide+kernel,rfl,by decide+kernel,by decide+kernel⟩
theorem sN:aD ["self","quotient","rest","scale","factor","drop","known"] ["self"] (aa dJ):=⟨rfl,rfl,rfl,by decide+kernel,rfl,by decide+kernel,by decide+kernel⟩
theorem rj:aD ["height","lead","drop"] ["height","lead","drop"] (aa cP):=⟨rfl,rfl,rfl,by decide+kernel,rfl,by decide+kernel,by decide+kernel⟩
theorem vN:aD ["row","numbers","bottom","content"] ["row"] (aa eH):=⟨rfl,rfl,rfl,by decide+kernel,rfl,by decide+kernel,by decide+kernel⟩
theorem Hj:aD ["row"] ["row"] (aa mU):=⟨rfl,rfl,rfl,by decide+kernel,rfl,by decide+kernel,by decide+kernel⟩
theorem mY:aD ["row","numbers","bottom","content","chain","told","ahead","last"] ["row"] (aa cy):=⟨rfl,rfl,rfl,by decide+kernel,rfl,by decide+kernel,by decide+kernel⟩
theorem K7:aD ["_law_script","_law_place","_law_cell","_law_one"] ["_law_script","_law_place"] (aa qT):=⟨rfl,rfl,rfl,by decide+kernel,rfl,by decide+kernel,by decide+kernel⟩
theorem K8:aD ["_law_well_here","_law_many","_law_found","_law_turn","_law_upper","_law_lower"] ["_law_well_here","_law_many"] (aa qU):=⟨rfl,rfl,rfl,by decide+kernel,rfl,by decide+kernel,by decide+kernel⟩
theorem Hl:aD ["_law_one","_law_other"] ["_law_one","_law_other"] (aa mV):=⟨rfl,rfl,rfl,by decide+kernel,rfl,by decide+kernel,by decide+kernel⟩
theorem DN:aD ["_law_top","_law_bottom","_law_share_here"] ["_law_top","_law_bottom"] (aa jA):=⟨rfl,rfl,rfl,by decide+kernel,rfl,by decide+kernel,by decide+kernel⟩
theorem vO:aD ["_law_e","_law_at","_law_found"] ["_law_e","_law_at"] (aa vL):=⟨rfl,rfl,rfl,by decide+kernel,rfl,by decide+kernel,by decide+kernel⟩
theorem sO:aD ["_law_one","_law_share_here","_law_other","_law_place","_law_found","_law_k","_law_top","_law_bottom","_law_part"] ["_law_one","_law_share_here","_law_other","_law_place"] (aa dM):=⟨rfl,rfl,rfl,by decide+kernel,rfl,by decide+kernel,by decide+kernel⟩
theorem K9:aD ["_law_one","_law_other","_law_rest_here","_law_place","_law_top","_law_bottom","_law_share_here"] ["_law_one","_law_other"] (aa qV):=⟨rfl,rfl,rfl,by decide+kernel,rfl,by decide+kernel,by decide+kernel⟩
theorem QW:aD ["_law_row","_law_found","_law_rest_here"] ["_law_row"] (aa yy):=⟨rfl,rfl,rfl,by decide+kernel,rfl,by decide+kernel,by decide+kernel⟩
theorem Ho:aD ["_law_well_here","_law_size","_law_great","_law_found","_law_k","_law_top"] ["_law_well_here"] (aa mW):=⟨rfl,rfl,rfl,by decide+kernel,rfl,by decide+kernel,by decide+kernel⟩
theorem Hq:aD ["_law_row","_law_due_here","_law_handed","_law_told"] ["_law_row"] (aa mX):=⟨rfl,rfl,rfl,by decide+kernel,rfl,by decide+kernel,by decide+kernel⟩
theorem rm:aD ["_law_script","_law_k","_law_caught","_law_e"] ["_law_script"] (aa yz):=⟨rfl,rfl,rfl,by decide+kernel,rfl,by decide+kernel,by decide+kernel⟩
structure Tx(K:Frag)(mg:Str->Option Value)where
 ay:Addr
 jO:Hc K mg "Chain" ay ["ahead","last","factor_ahead","factor_last","lead","height","sign","scale","known"]
 MK:Addr
 ML:FuncData
 yD:Df K mg "gcd" yw ["one","other"] MK ML
 QX:Addr
 QY:FuncData
 QZ:Df K mg "turn" Hh ["one","other"] QX QY
 Hr:Addr
 Ht:FuncData
 Hu:Df K mg "turned" yx ["by","one","other"] Hr Ht
 yE:Addr
 yF:FuncData
 rq:Df K mg "raised" jy ["number","exponent"] yE yF
 rA:Addr
 rB:FuncData
 rC:Df K mg "fraction" fU ["top","bottom"] rA rB
 uh:Addr
 um:FuncData
 uo:Df K mg "negated" iG ["one"] uh um
 BZ:Addr
 B0:FuncData
 vP:Df K mg "times" mT ["one","other"] BZ B0
 ur:Addr
 uu:FuncData
 uv:Df K mg "cleared" iH ["row"] ur uu
 uw:Addr
 ux:FuncData
 n8:Df K mg "trimmed" iI ["numbers"] uw ux
 yG:Addr
 yH:FuncData
 mZ:Df K mg "scaled" jz ["numbers","by"] yG yH
 m5:Addr
 m6:FuncData
 m7:Df K mg "whole_plus" dI ["one","other"] m5 m6
 jY:Addr
 jZ:FuncData
 j3:Df K mg "whole_minus" cM ["one","other"] jY jZ
 j4:Addr
 j5:FuncData
 j6:Df K mg "whole_times" cN ["one","other"] j4 j5
 j7:Addr
 j8:FuncData
 j9:Df K mg "whole_slope" cO ["numbers"] j7 j8
 jc:Addr
 jd:FuncData
 je:Df K mg "whole_divided" b7 ["one","other"] jc jd
 oE:Addr
 oF:FuncData
 oG:Df K mg "shortened" eG ["numbers"] oE oF
 kg:Addr
 kj:FuncData
 dZ:Dm K ay "__init__" "Chain.__init__" gF ["self","one","other","factor"] kg kj
 m8:Addr
 m9:FuncData
 nc:Dm K ay "step" "Chain.step" dJ ["self"] m8 m9
 ko:Addr
 kq:FuncData
 kr:Df K mg "next_height" cP ["height","lead","drop"] ko kq
 oH:Addr
 oJ:FuncData
 oK:Df K mg "primitive" eH ["row"] oH oJ
 B3:Addr
 B4:FuncData
 B5:Df K mg "slope" mU ["row"] B3 B4
 jB:Addr
 jC:FuncData
 c7:Df K mg "sturm_row" cy ["row"] jB jC
 Hv:Addr
 Hw:FuncData
 Hx:Df K mg "_law_well" qT ["_law_script","_law_place"] Hv Hw
 Hy:Addr
 Hz:FuncData
 HA:Df K mg "_law_draw" qU ["_law_well_here","_law_many"] Hy Hz
 B6:Addr
 B7:FuncData
 B8:Df K mg "_law_share" mV ["_law_one","_law_other"] B6 B7
 yI:Addr
 yJ:FuncData
 jD:Df K mg "_law_lowest" jA ["_law_top","_law_bottom"] yI yJ
 HB:Addr
 HC:FuncData
 vQ:Df K mg "_law_only" vL ["_law_e","_law_at"] HB HC
 nh:Addr
 ni:FuncData
 nj:Df K mg "_law_less_times" dM ["_law_one","_law_share_here","_law_other","_law_place"] nh ni
 HD:Addr
 HE:FuncData
 HF:Df K mg "_law_rest" qV ["_law_one","_law_other"] HD HE
 MM:Addr
 MN:FuncData
 MO:Df K mg "_law_due" yy ["_law_row"] MM MN
 B9:Addr
 Ca:FuncData
 Cb:Df K mg "_law_drawn" mW ["_law_well_here"] B9 Ca
 Cc:Addr
 Ce:FuncData
 Cf:Df K mg "_law_right" mX ["_law_row"] Cc Ce
 MP:Addr
 MQ:FuncData
 UN:Df K mg "law" yz ["_law_script"] MP MQ
 dN:mg "ValueError"=none
 rD:mg "abs"=none
 jE:mg "divmod"=none
 bO:mg "enumerate"=none
 yK:mg "int"=none
 aJ:mg "isinstance"=none
 gq:mg "len"=none
 fV:mg "list"=none
 rE:mg "max"=none
 yL:mg "min"=none
 cT:mg "range"=none
 Q0:∃u,mg "LONG"=some u/\RelV (.int 6000) u
 aF:Addr
 nq:mg "HouseError"=some (.ref aF)
 vR:uH K aF
 cz:Addr
 Ar:mg "NoNumber"=some (.ref cz)
 c8:Addr
 DO:mg "NoValue"=some (.ref c8)
 eK:Addr
 HG:mg "NoText"=some (.ref eK)
 eN:Addr
 HH:mg "NoRoot"=some (.ref eN)
 az:Addr
 Cg:mg "NoRow"=some (.ref az)
 vU:uH K az
 eO:Addr
 HJ:mg "TooFar"=some (.ref eO)
 eS:Addr
 HK:mg "NoLine"=some (.ref eS)
 n9:kitOne K (.ref az) (.ref cz)=some false
 oU:kitOne K (.ref az) (.ref c8)=some false
 rF:kitOne K (.ref az) (.ref eK)=some false
 rG:kitOne K (.ref az) (.ref eN)=some false
 sP:kitOne K (.ref az) (.ref az)=some true
 rH:kitOne K (.ref az) (.ref eO)=some false
 rJ:kitOne K (.ref az) (.ref eS)=some false
 kT:kitOne K (.ref az) (.ref aF)=some true
 kU:kitOne K (.ref az) (.type "ValueError")=some true
 bD:mroIn K az (.ref aF)=some true
section
variable{P:Program}{w:World}{K:Frag}{mg:Str->Option Value}{base:Heap}
theorem UO:aM ⟨["one","other"],(aa yw).names,[],["turned","turn"],["LONG"],["abs"],[.s,.s],[]⟩ (bE [.s,.s]) .s yg (ak yw)=true:=by decide+kernel
theorem UP(T:Tx K mg):Tab P w K mg base ["turned","turn"] ["LONG"] ["abs"] [.s,.s] [] (c9 [WV,WV]) (pK [(.int 6000)]) 1:=by
 refine⟨λj x e h=>?_,λj g x e h=>?_,λj x e=>?_,?_,vB K,λj x C e h=>?_⟩
 ·match j,e with
  |0,e=>cases e;exact T.Hu.gS (m:=.s) (MD (k:=1)) rfl (by walk_at "len_of") (by decide)
  |1,e=>cases e;exact T.QZ.gS (m:=.s) (MD (k:=1)) rfl (by walk_at "len_of") (by decide)
  |_+2,e=>simp at e
 ·cases h
 ·match j,e with
  |0,e=>cases e;obtain⟨u,b,a⟩:=T.Q0;exact⟨u,_,b,a,λ_ _=>by show Rep _ _ _ (.int 6000) _;rw[Rep]⟩
  |_+1,e=>simp at e
 ·intro x h;simp only[Fk,T2,ib]at h;rcases h with rfl
  ·exact T.rD
 ·match j,e with
  |0,e=>cases h
  |_+1,e=>simp at e
theorem Ci(T:Tx K mg):aR P w K mg base (dP P w) 2 T.MK T.ML ["one","other"] (gA K 2 .s Ai):=
 aZ T.yD.F QV (UP T) yg [] .s Ai (by decide) (by decide) rfl UO (by walk_at "len_of") Uy
theorem HL:aM ⟨["number","exponent","power"],(aa jy).names,[],[],[],[],[],[]⟩ (bE []) .s jt (ak jy)=true:=by decide+kernel
theorem yM(T:Tx K mg):aR P w K mg base (dP P w) 1 T.yE T.yF ["number","exponent"] (gA K 2 .s mE):=
 aZ T.rq.F DK (tab_of (k:=0) (Ss:=[]) (by exact trivial) (by exact trivial)) jt [] .s mE (by decide) (by decide) rfl HL (by walk_at "len_of") GW
theorem As:aM ⟨["top","bottom","divisor"],(aa fU).names,[],["gcd"],[],[],[.s],[]⟩ (bE [.s]) .s fS (ak fU)=true:=by decide+kernel
theorem Au(T:Tx K mg):aR P w K mg base (dP P w) 3 T.rA T.rB ["top","bottom"] (gA K 2 .s iy):=
 aZ T.rC.F yC (tab_of (k:=2) (by exact⟨T.yD.gS (m:=.s) (Ci T) rfl (by walk_at "len_of") (by decide),trivial⟩) (by exact trivial)) fS [] .s iy (by decide) (by decide) rfl As (by walk_at "len_of") Aj
theorem DP:aM ⟨["one"],(aa iG).names,[],[],[],[],[],[]⟩ (bE []) .s iC (ak iG)=true:=by decide+kernel
theorem DR(T:Tx K mg):aR P w K mg base (dP P w) 1 T.uh T.um ["one"] (gA K 1 .s jw):=
 aZ T.uo.F An (tab_of (k:=0) (Ss:=[]) (by exact trivial) (by exact trivial)) iC [] .s jw (by decide) (by decide) rfl DP (by walk_at "len_of") DG
theorem La:aM ⟨["one","other","top","bottom","other_top","other_bottom","first","second"],(aa mT).names,[],["gcd"],[],[],[.s],[]⟩ (bE [.s]) .s mH (ak mT)=true:=by decide+kernel
theorem Cj(T:Tx K mg):aR P w K mg base (dP P w) 3 T.BZ T.B0 ["one","other"] (gA K 2 .s n5):=
 aZ T.vP.F Hi (tab_of (k:=2) (by exact⟨T.yD.gS (m:=.s) (Ci T) rfl (by walk_at "len_of") (by decide),trivial⟩) (by exact trivial)) mH [] .s n5 (by decide) (by decide) rfl La (by walk_at "len_of") KR
theorem DS:aM ⟨["row","bottom","number","part"],(aa iH).names,[],["gcd"],[],[],[.s],[]⟩ (bE [.s]) .s iz (ak iH)=true:=by decide+kernel
theorem DT(T:Tx K mg):aR P w K mg base (dP P w) 3 T.ur T.uu ["row"] (gA K 1 .s mG):=
 aZ T.uv.F Ao (tab_of (k:=2) (by exact⟨T.yD.gS (m:=.s) (Ci T) rfl (by walk_at "len_of") (by decide),trivial⟩) (by exact trivial)) iz [] .s mG (by decide) (by decide) rfl DS (by walk_at "len_of") DB
theorem DU:aM ⟨["numbers","length"],(aa iI).names,[],[],[],["len"],[],[]⟩ (bE []) .f iu (ak iI)=true:=by decide+kernel
theorem uy(T:Tx K mg):aR P w K mg base (dP P w) 1 T.uw T.ux ["numbers"] (gA K 1 .f jr):=
 aZ T.n8.F Aq (tab_of (k:=0) (Ss:=[]) (by exact trivial) (by exact⟨T.gq,trivial⟩)) iu [] .f jr (by decide) (by decide) rfl DU (by walk_at "len_of") DA
theorem HM:aM ⟨["numbers","by"],(aa jz).names,[],[],[],[],[],[]⟩ (bE []) .f jo (ak jz)=true:=by decide+kernel
theorem rK(T:Tx K mg):aR P w K mg base (dP P w) 1 T.yG T.yH ["numbers","by"] (gA K 2 .f jN):=
 aZ T.mZ.F DM (tab_of (k:=0) (Ss:=[]) (by exact trivial) (by exact trivial)) jo [] .f jN (by decide) (by decide) rfl HM (by walk_at "len_of") GS
theorem vV:aM ⟨["one","other","length","told","place","number"],(aa dI).names,[(3,.f)],["trimmed"],[],["max","len","list","enumerate"],[.f],[]⟩ (bE [.f]) .f dj (ak dI)=true:=by decide+kernel
theorem vW(T:Tx K mg):aR P w K mg base (dP P w) 2 T.m5 T.m6 ["one","other"] (gA K 2 .f gp):=
 aZ T.m7.F sM (tab_of (k:=1) (by exact⟨T.n8.gS (m:=.f) (uy T) rfl (by walk_at "len_of") (by decide),trivial⟩) (by exact⟨T.rE,T.gq,T.fV,T.bO,trivial⟩)) dj [(3,.f)] .f gp (by decide) (by decide) rfl vV (by walk_at "len_of") vE
theorem sQ:aM ⟨["one","other"],(aa cM).names,[],["whole_plus","scaled"],[],[],[.f,.f],[]⟩ (bE [.f,.f]) .f cI (ak cM)=true:=by decide+kernel
theorem sR(T:Tx K mg):aR P w K mg base (dP P w) 3 T.jY T.jZ ["one","other"] (gA K 2 .f fz):=
 aZ T.j3.F qW (tab_of (k:=2) (by exact⟨T.m7.gS (m:=.f) (vW T) rfl (by walk_at "len_of") (by decide),T.mZ.gS (m:=.f) (rK T) rfl (by walk_at "len_of") (by decide),trivial⟩) (by exact trivial)) cI [] .f fz (by decide) (by decide) rfl sQ (by walk_at "len_of") sG
theorem sS:aM ⟨["one","other","told","place","number","further","factor"],(aa cN).names,[(2,.f)],[],[],["len","enumerate"],[],[]⟩ (bE []) .f cJ (ak cN)=true:=by decide+kernel
theorem sU(T:Tx K mg):aR P w K mg base (dP P w) 1 T.j4 T.j5 ["one","other"] (gA K 2 .f fD):=
 aZ T.j6.F qX (tab_of (k:=0) (Ss:=[]) (by exact trivial) (by exact⟨T.gq,T.bO,trivial⟩)) cJ [(2,.f)] .f fD (by decide) (by decide) rfl sS (by walk_at "len_of") sH
theorem sW:aM ⟨["numbers"],(aa cO).names,[],[],[],["enumerate"],[],[]⟩ (bE []) .f cL (ak cO)=true:=by decide+kernel
theorem sX(T:Tx K mg):aR P w K mg base (dP P w) 1 T.j7 T.j8 ["numbers"] (gA K 1 .f dH):=
 aZ T.j9.F qY (tab_of (k:=0) (Ss:=[]) (by exact trivial) (by exact⟨T.bO,trivial⟩)) cL [] .f dH (by decide) (by decide) rfl sW (by walk_at "len_of") sL
theorem oV:aM ⟨["one","other","room","lead","rest","quotient","place","head","further","scale"],(aa b7).names,[(4,.f),(5,.f)],["scaled","trimmed"],[],["max","len","list","range"],[.f,.f],[]⟩ (bE [.f,.f]) .s bZ (ak b7)=true:=by decide+kernel
theorem oW(T:Tx K mg):aR P w K mg base (dP P w) 2 T.jc T.jd ["one","other"] (gA K 2 .s dw):=
 aZ T.je.F n6 (tab_of (k:=1) (by exact⟨T.mZ.gS (m:=.f) (rK T) rfl (by walk_at "len_of") (by decide),T.n8.gS (m:=.f) (uy T) rfl (by walk_at "len_of") (by decide),trivial⟩) (by exact⟨T.rE,T.gq,T.fV,T.cT,trivial⟩)) bZ [(4,.f),(5,.f)] .s dw (by decide) (by decide) rfl oV (by walk_at "len_of") oS
theorem yN:aM ⟨["numbers","content","number"],(aa eG).names,[],["gcd"],[],["list"],[.s],[]⟩ (bE [.s]) .s eu (ak eG)=true:=by decide+kernel
theorem yO(T:Tx K mg):aR P w K mg base (dP P w) 3 T.oE T.oF ["numbers"] (gA K 1 .s iZ):=
 aZ T.oG.F vM (tab_of (k:=2) (by exact⟨T.yD.gS (m:=.s) (Ci T) rfl (by walk_at "len_of") (by decide),trivial⟩) (by exact⟨T.fV,trivial⟩)) eu [] .s iZ (by decide) (by decide) rfl yN (by walk_at "len_of") yh
theorem sY:aM ⟨["height","lead","drop"],(aa cP).names,[],["raised"],[],[],[.s],[]⟩ (bE [.s]) .s cK (ak cP)=true:=by decide+kernel
theorem sZ(T:Tx K mg):aR P w K mg base (dP P w) 2 T.ko T.kq ["height","lead","drop"] (gA K 3 .s fE):=
 aZ T.kr.F rj (tab_of (k:=1) (by exact⟨T.rq.gS (m:=.s) (yM T) rfl (by walk_at "len_of") (by decide),trivial⟩) (by exact trivial)) cK [] .s fE (by decide) (by decide) rfl sY (by walk_at "len_of") sI
theorem yP:aM ⟨["row","numbers","bottom","content"],(aa eH).names,[],["cleared","shortened"],[],[],[.s,.s],[]⟩ (bE [.s,.s]) .s eE (ak eH)=true:=by decide+kernel
theorem yQ(T:Tx K mg):aR P w K mg base (dP P w) 4 T.oH T.oJ ["row"] (gA K 1 .s fT):=
 aZ T.oK.F vN (tab_of (k:=3) (by exact⟨T.uv.gS (m:=.s) (DT T) rfl (by walk_at "len_of") (by decide),T.oG.gS (m:=.s) (yO T) rfl (by walk_at "len_of") (by decide),trivial⟩) (by exact trivial)) eE [] .s fT (by decide) (by decide) rfl yP (by walk_at "len_of") yi
theorem Lb:aM ⟨["row"],(aa mU).names,[],["times"],[],["enumerate"],[.s],[]⟩ (bE [.s]) .f mO (ak mU)=true:=by decide+kernel
theorem Lc(T:Tx K mg):aR P w K mg base (dP P w) 4 T.B3 T.B4 ["row"] (gA K 1 .f qS):=
 aZ T.B5.F Hj (tab_of (k:=3) (by exact⟨T.vP.gS (m:=.s) (Cj T) rfl (by walk_at "len_of") (by decide),trivial⟩) (by exact⟨T.bO,trivial⟩)) mO [] .f qS (by decide) (by decide) rfl Lb (by walk_at "len_of") K3
theorem tu(T:Tx K mg):aR P w K mg base (dP P w) 1 T.kg T.kj ["self","one","other","factor"] (G3 T.ay):=by
 have g:=T.jO.ok.1;have d:=T.jO.ok.2.2.2;refine T.dZ.F.U6 qZ (λn H Q E h=>?_) (λv A k s H n Q E y h=>?_)
 ·obtain⟨x,a,t,r,p,rfl,_⟩:=h;rfl
 obtain⟨x,a,t,r,p,rfl,u,q⟩:=h;refine⟨_,(@bq _ _ _ _ _ (gv (pv 0) (pv 1) rfl)
  (@bq _ _ _ _ _ (gv (pv 0) (pv 2) rfl)
  (@bq _ _ _ _ _ (gv (pv 0) (pv 3) rfl)
  (@bq _ _ _ _ _ (gv (pv 0) (nA aQ) rfl)
  (@bq _ _ _ _ _ (gv (pv 0) iK rfl)
  (@bq _ _ _ _ _ (gv (pv 0) iK rfl)
  (@bq _ _ _ _ _ (gv (pv 0) iK rfl)
  (@bq _ _ _ _ _ (gv (pv 0) iK rfl)
  (jG (gv (pv 0) iK rfl)))))))))),?_⟩
 refine⟨_,rfl,_,rfl,x,T.ay,a,_,rfl,u,g,d "ahead" (by decide),by show 0<1000;decide,?_⟩;refine⟨_,rfl,_,rfl,x,T.ay,a,_,rfl,ao,g,d "last" (by decide),by show 1<1000;decide,?_⟩;refine⟨_,rfl,_,rfl,x,T.ay,a,_,rfl,ao,g,d "factor_ahead" (by decide),by show 2<1000;decide,?_⟩;refine⟨fG (by simp),λj i=>?_⟩;have c:j≠x:=λe=>by rw[e,ao]at i;cases i
 refine⟨_,rfl,x,T.ay,a,_,rfl,wU ao i,g,d "factor_last" (by decide),by show 3<1000;decide,?_⟩;refine⟨_,rfl,x,T.ay,a,_,rfl,ao,g,d "lead" (by decide),by show 4<1000;decide,?_⟩;refine⟨_,rfl,x,T.ay,a,_,rfl,ao,g,d "height" (by decide),by show 5<1000;decide,?_⟩;refine⟨_,rfl,x,T.ay,a,_,rfl,ao,g,d "sign" (by decide),by show 6<1000;decide,?_⟩;refine⟨_,rfl,x,T.ay,a,_,rfl,ao,g,d "scale" (by decide),by show 7<1000;decide,?_⟩;refine⟨_,rfl,x,T.ay,a,_,rfl,ao,g,d "known" (by decide),by show 8<1000;decide,?_⟩;rw[ah c,ah c,ah c]at i;refine q j _ (λb o f m=>?_) i ?_ ao
 ·have l:b≠j:=aO m i;rw[ah f,ah f,ah f,ah f,ah f,ah f,ah l,ah f,ah f,ah f];exact m
 ·rw[ah c,ah c,ah c,ah c,ah c,ah c,ao]
theorem Ld(T:Tx K mg):cG P w K mg base 2 (.ref T.ay) 3 (gA K 3 pG (vH T.ay)):=
 Al T.jO.ok ⟨T.jO.Z3,T.dZ.M.1,T.dZ.M.fn,T.jO.kp⟩ T.dZ.b (tu T)
theorem vX:aM ⟨["self","quotient","rest","scale","factor","drop","known"],(aa dJ).names,[(0,pG)],["whole_divided","whole_minus","scaled","whole_times","raised","next_height"],[],["len"],[.s,.f,.f,.f,.s,.s],[]⟩ (bE [.s,.f,.f,.f,.s,.s]) (.io pG) dD (ak dJ)=true:=by decide+kernel
theorem vY(T:Tx K mg):aR P w K mg base (dP P w) 4 T.m8 T.m9 ["self"] (gA K 1 (.io pG) (ym T.ay)):=
 vA T.nc.F sN (tab_of (k:=3) (by exact⟨T.je.gS (m:=.s) (oW T) rfl (by walk_at "len_of") (by decide),T.j3.gS (m:=.f) (sR T) rfl (by walk_at "len_of") (by decide),T.mZ.gS (m:=.f) (rK T) rfl (by walk_at "len_of") (by decide),T.j6.gS (m:=.f) (sU T) rfl (by walk_at "len_of") (by decide),T.rq.gS (m:=.s) (yM T) rfl (by walk_at "len_of") (by decide),T.kr.gS (m:=.s) (sZ T) rfl (by walk_at "len_of") (by decide),trivial⟩) (by exact⟨T.gq,trivial⟩)) dD [(0,pG)] pG (ym T.ay) (by decide) (by decide) (by decide) (by decide) vX (by walk_at "len_of") vG
theorem yR:aM ⟨["row","numbers","bottom","content","chain","told","ahead","last"],(aa cy).names,[(4,pG),(5,(.ls .f))],["primitive","Chain","whole_slope","slope","fraction","step","negated","times"],[],["len","list"],[.s,pG,.f,.f,.s,(.io pG),.s,.s],[(5,0)]⟩ (bE [.s,pG,.f,.f,.s,(.io pG),.s,.s]) (.ls .f) iD (ak cy)=true:=by decide+kernel
theorem yS(T:Tx K mg):Tab P w K mg base ["primitive","Chain","whole_slope","slope","fraction","step","negated","times"] [] ["len","list"] [.s,pG,.f,.f,.s,(.io pG),.s,.s] [(5,0)] (c9 [fT,(vH T.ay),dH,qS,iy,(ym T.ay),jw,n5]) (pK [(.cls T.ay)]) 4:=by
 refine⟨λj x e h=>?_,λj g x e h=>?_,λj x e=>?_,?_,vB K,λj x C e h=>?_⟩
 ·match j,e with
  |0,e=>cases e;exact T.oK.gS (m:=.s) (yQ T) rfl (by walk_at "len_of") (by decide)
  |1,e=>cases e;exact⟨_,_,2,T.jO.c,Ld T,by decide,by walk_at "len_of"⟩
  |2,e=>cases e;exact T.j9.gS (m:=.f) (sX T) rfl (by walk_at "len_of") (by decide)
  |3,e=>cases e;exact T.B5.gS (m:=.f) (Lc T) rfl (by walk_at "len_of") (by decide)
  |4,e=>cases e;exact T.rC.gS (m:=.s) (Au T) rfl (by walk_at "len_of") (by decide)
  |5,e=>cases h
  |6,e=>cases e;exact T.uo.gS (m:=.s) (DR T) rfl (by walk_at "len_of") (by decide)
  |7,e=>cases e;exact T.vP.gS (m:=.s) (Cj T) rfl (by walk_at "len_of") (by decide)
  |_+8,e=>simp at e
 ·simp only[Fk,T2,ib,Prod.mk.injEq]at h;rcases h with⟨rfl,rfl⟩
  ·cases e;exact T.nc.gS (m:=(.io pG)) (vY T) (by walk_at "len_of") (by decide) rfl
 ·match j,e with
  |_+0,e=>simp at e
 ·intro x h;simp only[Fk,T2,ib]at h;rcases h with rfl|rfl
  ·exact T.gq
  ·exact T.fV
 ·match j,e with
  |_+0,e=>simp at e
theorem yT(T:Tx K mg):aR P w K mg base (dP P w) 5 T.jB T.jC ["row"] (gA K 1 (.ls .f) mP):=
 aZ T.c7.F mY (yS T) iD [(4,pG),(5,(.ls .f))] (.ls .f) mP (by decide) (by decide) rfl yR (by walk_at "len_of") DH
theorem vZ:aM ⟨["row","numbers","bottom","content","chain","told","ahead","last"],(aa cy).names,[],[],["NoRow"],[],[],[]⟩ (bE []) .s jx (ak cy)=true:=by decide+kernel
theorem v5(T:Tx K mg):Tab P w K mg base [] ["NoRow"] [] [] [] (c9 []) (pK [(.cls T.az)]) 0:=by
 refine⟨λj x e h=>?_,λj g x e h=>?_,λj x e=>?_,?_,vB K,λj x C e h=>?_⟩
 ·match j,e with
  |_+0,e=>simp at e
 ·cases h
 ·match j,e with
  |0,e=>cases e;exact⟨_,.ref T.az,T.Cg,rfl,λ_ _=>by rw[pK,Rep]⟩
  |_+1,e=>simp at e
 ·intro x h;cases h
 ·match j,e with
  |0,e=>cases h;exact T.vU
  |_+1,e=>simp at e
theorem v9(T:Tx K mg):aR P w K mg base (dP P w) 1 T.jB T.jC ["row"] (gA K 1 .s (vK T.az)):=
 aZ T.c7.F mY (v5 T) jx [] .s (vK T.az) (by decide) (by decide) rfl vZ (by walk_at "len_of") Hf
theorem Q2:aM ⟨["_law_script","_law_place","_law_cell","_law_one"],(aa qT).names,[],[],[],["abs"],[],[]⟩ (bE []) .f qN (ak qT)=true:=by decide+kernel
theorem Q3(T:Tx K mg):aR P w K mg base (dP P w) 1 T.Hv T.Hw ["_law_script","_law_place"] (gA K 2 .f uf):=
 aZ T.Hx.F K7 (tab_of (k:=0) (Ss:=[]) (by exact trivial) (by exact⟨T.rD,trivial⟩)) qN [] .f uf (by decide) (by decide) rfl Q2 (by walk_at "len_of") QK
theorem Q4:aM ⟨["_law_well_here","_law_many","_law_found","_law_turn","_law_upper","_law_lower"],(aa qU).names,[(0,.f)],[],[],["range","divmod"],[],[]⟩ (bE []) (.io .f) qO (ak qU)=true:=by decide+kernel
theorem Q5(T:Tx K mg):aR P w K mg base (dP P w) 1 T.Hy T.Hz ["_law_well_here","_law_many"] (gA K 2 (.io .f) yq):=
 vA T.HA.F K8 (tab_of (k:=0) (Ss:=[]) (by exact trivial) (by exact⟨T.cT,T.jE,trivial⟩)) qO [(0,.f)] .f yq (by decide) (by decide) (by decide) (by decide) Q4 (by walk_at "len_of") QL
theorem Le:aM ⟨["_law_one","_law_other"],(aa mV).names,[],[],[],["abs"],[],[]⟩ (bE []) .s mD (ak mV)=true:=by decide+kernel
theorem Lf(T:Tx K mg):aR P w K mg base (dP P w) 1 T.B6 T.B7 ["_law_one","_law_other"] (gA K 2 .s BQ):=
 aZ T.B8.F Hl (tab_of (k:=0) (Ss:=[]) (by exact trivial) (by exact⟨T.rD,trivial⟩)) mD [] .s BQ (by decide) (by decide) rfl Le (by walk_at "len_of") KN
theorem HN:aM ⟨["_law_top","_law_bottom","_law_share_here"],(aa jA).names,[],["_law_share"],[],[],[.s],[]⟩ (bE [.s]) .s jq (ak jA)=true:=by decide+kernel
theorem nt(T:Tx K mg):aR P w K mg base (dP P w) 2 T.yI T.yJ ["_law_top","_law_bottom"] (gA K 2 .s yp):=
 aZ T.jD.F DN (tab_of (k:=1) (by exact⟨T.B8.gS (m:=.s) (Lf T) rfl (by walk_at "len_of") (by decide),trivial⟩) (by exact trivial)) jq [] .s yp (by decide) (by decide) rfl HN (by walk_at "len_of") UI
theorem wc:aM ⟨["_law_one","_law_share_here","_law_other","_law_place","_law_found","_law_k","_law_top","_law_bottom","_law_part"],(aa dM).names,[(4,.f)],["_law_lowest"],[],["list","range","len"],[.s],[]⟩ (bE [.s]) .f qQ (ak dM)=true:=by decide+kernel
theorem we(T:Tx K mg):aR P w K mg base (dP P w) 3 T.nh T.ni ["_law_one","_law_share_here","_law_other","_law_place"] (gA K 4 .f BW):=
 aZ T.nj.F sO (tab_of (k:=2) (by exact⟨T.jD.gS (m:=.s) (nt T) rfl (by walk_at "len_of") (by decide),trivial⟩) (by exact⟨T.fV,T.cT,T.gq,trivial⟩)) qQ [(4,.f)] .f BW (by decide) (by decide) rfl wc (by walk_at "len_of") QO
theorem Q6:aM ⟨["_law_one","_law_other","_law_rest_here","_law_place","_law_top","_law_bottom","_law_share_here"],(aa qV).names,[(2,.f)],["_law_lowest","_law_less_times"],[],["list","range","len"],[.s,.f],[]⟩ (bE [.s,.f]) .f jv (ak qV)=true:=by decide+kernel
theorem Q7(T:Tx K mg):aR P w K mg base (dP P w) 4 T.HD T.HE ["_law_one","_law_other"] (gA K 2 .f pJ):=
 aZ T.HF.F K9 (tab_of (k:=3) (by exact⟨T.jD.gS (m:=.s) (nt T) rfl (by walk_at "len_of") (by decide),T.nj.gS (m:=.f) (we T) rfl (by walk_at "len_of") (by decide),trivial⟩) (by exact⟨T.fV,T.cT,T.gq,trivial⟩)) jv [(2,.f)] .f pJ (by decide) (by decide) rfl Q6 (by walk_at "len_of") G7
theorem UQ:aM ⟨["_law_row","_law_found","_law_rest_here"],(aa yy).names,[(1,.f)],["_law_lowest","_law_rest"],[],["range","len"],[.s,.f],[]⟩ (bE [.s,.f]) .s mL (ak yy)=true:=by decide+kernel
theorem UR(T:Tx K mg):aR P w K mg base (dP P w) 5 T.MM T.MN ["_law_row"] (gA K 1 .s vI):=
 aZ T.MO.F QW (tab_of (k:=4) (by exact⟨T.jD.gS (m:=.s) (nt T) rfl (by walk_at "len_of") (by decide),T.HF.gS (m:=.f) (Q7 T) rfl (by walk_at "len_of") (by decide),trivial⟩) (by exact⟨T.cT,T.gq,trivial⟩)) mL [(1,.f)] .s vI (by decide) (by decide) rfl UQ (by walk_at "len_of") K2
theorem Lg:aM ⟨["_law_well_here","_law_size","_law_great","_law_found","_law_k","_law_top"],(aa mW).names,[(0,.f),(3,.f)],["_law_draw","_law_lowest"],[],["range","int"],[(.io .f),.s],[]⟩ (bE [(.io .f),.s]) (.io .f) iA (ak mW)=true:=by decide+kernel
theorem Lh(T:Tx K mg):aR P w K mg base (dP P w) 3 T.B9 T.Ca ["_law_well_here"] (gA K 1 (.io .f) iB):=
 vA T.Cb.F Ho (tab_of (k:=2) (by exact⟨T.HA.gS (m:=(.io .f)) (Q5 T) rfl (by walk_at "len_of") (by decide),T.jD.gS (m:=.s) (nt T) rfl (by walk_at "len_of") (by decide),trivial⟩) (by exact⟨T.cT,T.yK,trivial⟩)) iA [(0,.f),(3,.f)] .f iB (by decide) (by decide) (by decide) (by decide) Lg (by walk_at "len_of") DF
theorem Li:aM ⟨["_law_row","_law_due_here","_law_handed","_law_told"],(aa mX).names,[(3,(.ls .f))],["_law_due","sturm_row"],[],["list","isinstance"],[.s,(.ls .f)],[]⟩ (bE [.s,(.ls .f)]) .s iE (ak mX)=true:=by decide+kernel
theorem Lj(T:Tx K mg):aR P w K mg base (dP P w) 6 T.Cc T.Ce ["_law_row"] (gA K 1 .s iF):=
 aZ T.Cf.F Hq (tab_of (k:=5) (by exact⟨T.MO.gS (m:=.s) (UR T) rfl (by walk_at "len_of") (by decide),T.c7.gS (m:=(.ls .f)) (yT T) rfl (by walk_at "len_of") (by decide),trivial⟩) (by exact⟨T.fV,T.aJ,trivial⟩)) iE [(3,(.ls .f))] .s iF (by decide) (by decide) rfl Li (by walk_at "len_of") DI
noncomputable def MR(T:Tx K mg)(C:Addr)(k:Int):Prop:=uH K C/\kitOne K (.ref C) (.ref T.cz)=some (decide ((0:Int)=k))/\kitOne K (.ref C) (.ref T.c8)=some (decide ((1:Int)=k))/\kitOne K (.ref C) (.ref T.eK)=some (decide ((2:Int)=k))/\kitOne K (.ref C) (.ref T.eN)=some (decide ((3:Int)=k))/\kitOne K (.ref C) (.ref T.az)=some (decide ((4:Int)=k))/\kitOne K (.ref C) (.ref T.eO)=some (decide ((5:Int)=k))/\kitOne K (.ref C) (.ref T.eS)=some (decide ((6:Int)=k))/\kitOne K (.ref C) (.ref T.aF)=some true/\kitOne K (.ref C) (.type "ValueError")=some true
@[irreducible] noncomputable def rL(T:Tx K mg):Sp:=λc H Q _=>∃(a C:Addr)(k:Int),c=[.ref a,.int k]/\H a=some (CL a C)/\MR T C k/\∀b,aq H b->Q (.bl true) b
theorem DV{T:Tx K mg}{vs:List V}{H:Hp}{Q:VK}{E:XK}(h:∃(a C:Addr)(k:Int),vs=[.ref a,.int k]/\H a=some (CL a C)/\MR T C k/\∀H',aq H H'->Q (.bl true) H'):rL T vs H Q E:=by unfold rL;exact h
theorem Lk(T:Tx K mg):aR P w K mg base IB 1 T.HB T.HC ["_law_e","_law_at"] (rL T):=by
 refine T.vQ.F.ok vO (λX H Q E h=>?_) (λcdv A I s H X Q E hr h=>?_)
 ·unfold rL at h;obtain⟨a,C,k,rfl,_⟩:=h;rfl
 unfold rL at h;obtain⟨a,C,k,rfl,l,⟨b,k0,k1,k2,k3,k4,k5,k6,Z,Y⟩,q⟩:=h;have hb:([decide ((0:Int)=k),decide ((1:Int)=k),decide ((2:Int)=k),decide ((3:Int)=k),decide ((4:Int)=k),decide ((5:Int)=k),decide ((6:Int)=k)]:List Bool)=(List.range 7).map λj:Nat=>decide ((j:Int)=k):=rfl;generalize decide ((0:Int)=k)=f at*;generalize decide ((1:Int)=k)=e at*;generalize decide ((2:Int)=k)=d at*;generalize decide ((3:Int)=k)=c at*;generalize decide ((4:Int)=k)=p at*;generalize decide ((5:Int)=k)=o at*;generalize decide ((6:Int)=k)=m at*;refine⟨_,(@bq _ _ _ _ _ (jf (i:=2) vO.nd rfl (by first|exact Or.inl rfl|exact Or.inr rfl) (nA (aj (bY bU (by rfl) T.aJ (by rfl) (aj (pv 0) (aj (e7 (v:=.ref T.cz) rfl T.Ar rfl) aQ))) (aj (bY bU (by rfl) T.aJ (by rfl) (aj (pv 0) (aj (e7 (v:=.ref T.c8) rfl T.DO rfl) aQ))) (aj (bY bU (by rfl) T.aJ (by rfl) (aj (pv 0) (aj (e7 (v:=.ref T.eK) rfl T.HG rfl) aQ))) (aj (bY bU (by rfl) T.aJ (by rfl) (aj (pv 0) (aj (e7 (v:=.ref T.eN) rfl T.HH rfl) aQ))) aQ))))))
  (@bq _ _ _ _ _ (jf (i:=2) vO.nd rfl (by first|exact Or.inl rfl|exact Or.inr rfl) (R5 Nz (pv 2) (nA (aj (bY bU (by rfl) T.aJ (by rfl) (aj (pv 0) (aj (e7 (v:=.ref T.az) rfl T.Cg rfl) aQ))) (aj (bY bU (by rfl) T.aJ (by rfl) (aj (pv 0) (aj (e7 (v:=.ref T.eO) rfl T.HJ rfl) aQ))) (aj (bY bU (by rfl) T.aJ (by rfl) (aj (pv 0) (aj (e7 (v:=.ref T.eS) rfl T.HK rfl) aQ))) aQ))))))
  (@bq _ _ _ _ _ (Ew (PW.pt (LQ (zc (uB (bY bU (by rfl) T.aJ (by rfl) (aj (pv 0) (aj (e7 (v:=.ref T.aF) rfl T.nq rfl) aQ))))) (Er (zc (uB (bY bU (by rfl) T.aJ (by rfl) (aj (pv 0) (aj (AD (v:=.ty "ValueError") (u:=.type "ValueError") (by rfl) T.dN (by rfl) rfl) aQ)))))))) (jG (kD LP)) AF)
  (jG (kD (AL (IS hr.units) (pv 2) (AU ["_law_k"] ["_law_e","_law_at","_law_found"] rfl (by show dQ _ (aa vL) ["_law_e","_law_at","_law_found"] ["_law_e","_law_at","_law_found"] ["_law_k"]=true;decide+kernel) (tD rfl T.cT (aj iK aQ)) (λ_ _ _ _=>(AH (i:=0) (show List.Nodup ((["_law_k"]:List Str)++(["_law_e","_law_at","_law_found"]:List Str)) by decide+kernel) rfl (Or.inl rfl) (Or.inr rfl))) (λ_ _ _ _=>E7) (λ_ _ _ _=>(AL LV (pv 0) (pv 2) (pQ _)))) (pQ _))))))),?_⟩
 refine⟨_,rfl,a,C,_,_,_,rfl,l,b,.own _,k0,?_⟩;refine⟨_,rfl,a,C,_,_,_,rfl,l,b,.own _,k1,?_⟩;refine⟨_,rfl,a,C,_,_,_,rfl,l,b,.own _,k2,?_⟩;refine⟨_,rfl,a,C,_,_,_,rfl,l,b,.own _,k3,?_⟩;refine⟨fG (by simp),λB M=>?_⟩;have R:=aG M (.lst [V.bl f,V.bl e,V.bl d,V.bl c]);have e1:upd H B (.lst [V.bl f,V.bl e,V.bl d,V.bl c]) B=some (.lst [V.bl f,V.bl e,V.bl d,V.bl c]):=ao;generalize upd H B (.lst [V.bl f,V.bl e,V.bl d,V.bl c])=O at*;have g:=R _ _ l;refine⟨_,rfl,?_⟩;refine⟨_,rfl,a,C,_,_,_,rfl,g,b,.own _,k4,?_⟩;refine⟨_,rfl,a,C,_,_,_,rfl,g,b,.own _,k5,?_⟩;refine⟨_,rfl,a,C,_,_,_,rfl,g,b,.own _,k6,?_⟩;refine⟨fG (by simp),λy t=>?_⟩;refine⟨B,y,_,_,rfl,rfl,wU e1 t,ao,fG (by simp),λr L=>?_⟩;have N:aq H (upd (upd O y (.lst [V.bl p,V.bl o,V.bl m])) r (.lst ([V.bl f,V.bl e,V.bl d,V.bl c]++[V.bl p,V.bl o,V.bl m]))):=R.trans ((aG t _).trans (aG L _));have h3:upd (upd O y (.lst [V.bl p,V.bl o,V.bl m])) r (.lst ([V.bl f,V.bl e,V.bl d,V.bl c]++[V.bl p,V.bl o,V.bl m])) r=some (.lst ([f,e,d,c,p,o,m].map V.bl)):=ao;generalize upd (upd O y (.lst [V.bl p,V.bl o,V.bl m])) r (.lst ([V.bl f,V.bl e,V.bl d,V.bl c]++[V.bl p,V.bl o,V.bl m]))=H3 at*;refine⟨_,rfl,a,C,_,_,_,rfl,N _ _ l,b,.own _,Z,?_⟩;refine⟨_,rfl,?_⟩;dsimp only;rw[BM (by decide)];refine⟨_,rfl,a,C,_,_,_,rfl,N _ _ l,b,.ty _,Y,?_⟩;refine⟨_,rfl,?_⟩;dsimp only;rw[BM (by decide)]
 repeat refine⟨_,rfl,?_⟩
 refine⟨by decide,by decide,λD U=>zH (n:=7) (λi x G=>i<=7/\aq H3 G/\G D=some (.lst x)/\x=(((List.range i).map λj:Nat=>decide ((j:Int)=k)).map V.bl)) ?_ ?_ ?_⟩
 ·exact⟨by decide,aG U _,ao,rfl⟩
 ·rintro i x G S ⟨_,sm,J,rfl⟩;refine⟨_,rfl,_,rfl,rfl,?_⟩;refine SG S J (by rw[Ap,Ap,Xt];exact CI (by omega)) ⟨S,EW sm U _,ao,?_⟩;rw[List.range_succ,cc,cc];congr 1;show[V.bl (decide (V.int (0+(i:Int))=V.int k))]=[V.bl (decide ((i:Int)=k))];congr 2;rw[Int.zero_add];by_cases h:(i:Int)=k
  ·rw[KM h,KM (Wp V.int h)]
  ·rw[OK h,OK (λz=>h (V.int.inj z))]
 ·rintro x G ⟨_,sm,J,rfl⟩;refine⟨r,D,_,_,rfl,rfl,gU.of (sm _ _ h3),gU.of J,?_⟩;rw[KM hb];exact q _ (N.trans sm)
theorem US:GC ⟨["_law_script","_law_k","_law_caught","_law_e"],(aa yz).names,[],["_law_right","_law_drawn","_law_well"],[],["range","max","min","len"],[.s,(.io .f),.f],[]⟩ (bE [.s,(.io .f),.f]) .s mR ((ak yz).getD 0 (.Pass ⟨0,0,0,0⟩))=true:=by decide+kernel
theorem UT(T:Tx K mg):aR P w K mg base (dP P w) 7 T.MP T.MQ ["_law_script"] (gA K 1 .s Uw):=by
 refine T.UN.F.U6 rm (λX H Q E h=>?_) (λcdv A v s H X Q E y h=>?_)
 ·obtain⟨A,U,P1,R,l,r,_⟩:=h;exact r.len.trans l
 obtain⟨O,U,P1,R,l,r,d,⟨J,rfl,h63,hq⟩,c,L⟩:=h;have Y:=tab_of (P:=P) (w:=w) (K:=K) (mg:=mg) (base:=base) (k:=6) (fn:=["_law_right","_law_drawn","_law_well"]) (zn:=["range","max","min","len"]) (md:=[.s,(.io .f),.f]) (Ss:=[iF,iB,uf]) (by exact⟨T.Cf.gS (m:=.s) (Lj T) rfl (by walk_at "len_of") (by decide),T.Cb.gS (m:=(.io .f)) (Lh T) rfl (by walk_at "len_of") (by decide),T.Hx.gS (m:=.f) (Q3 T) rfl (by walk_at "len_of") (by decide),trivial⟩) (by exact⟨T.cT,T.rE,T.yL,T.gq,trivial⟩);have G:∀i m x,(i,m)∈([]:Ms)->(i,x)∈([]:Ms)->m=x:=λi m x z=>by cases z
 refine⟨_,(@bq _ _ _ _ _ ((Us _ _ _ mR).1 (Ad rm Y y G) _ US) (@bq _ _ _ _ _ (jf (i:=2) rm.nd rfl (by first|exact Or.inl rfl|exact Or.inr rfl) Ep)
  (@bq _ _ _ _ _ (ND (i:=3) ⟨rfl,rfl⟩ rm.nd rfl rfl rfl T.nq T.vR (IF (v9 T) (y.mono (by omega)) rfl T.c7.m T.c7.F.kp T.c7.b (aj (nA aQ) aQ Ff)) (λ_=>(jG (jf (i:=2) rm.nd rfl (by first|exact Or.inl rfl|exact Or.inr rfl) (pv 3)))))
  (jG (kD (Il (Lk T) (y.mono (by omega)) rfl T.vQ.m T.vQ.F.kp T.vQ.b .nil Sx (aj (pv 2) (aj iK aQ)))))))),?_⟩
 refine⟨⟨O,O,none⟩,H,aA 4 [.gx J],⟨λD=>∃o,D=[some (.gx J),o,none,none],λ_=>False,λ_=>False,λ_=>False,R⟩,ye r d (λi m z=>by cases z) G,⟨E,E2,λC N rc Z=>L C N rc Z,λe S B u h' a C j I hx q=>uI e S B u h' a C j I hx (L C B q.1 q.2)⟩,rfl,Hg (λD h=>h),⟨?_,λ_ _ _ z=>z.elim,λ_ _ _ _ _ _ z=>z.elim,λ_ _ _ _ _ _ z=>z.elim⟩⟩;rintro A' _ t N ea eb ⟨o,rfl⟩ M;have g:t.length=3+1:=M.len;obtain⟨y0,t1,rfl,h1⟩:=mz g;obtain⟨y1,t2,rfl,h2⟩:=mz (n:=2) h1;obtain⟨y2,t3,rfl,h3⟩:=mz (n:=1) h2;obtain⟨y3,t4,rfl,h4⟩:=mz (n:=0) h3;cases Kb.mp h4;refine⟨fG (by simp),λp hp=>?_⟩;refine⟨λ_=>False,[af []],λ_=>False,λC=>C=T.az,rfl,.cons (by rw[show af []=W.lst []from rfl,Rep];exact⟨p,[],rfl,id,.inl ao,.nil⟩) .nil,λq z=>z.elim,⟨rfl,rfl⟩,λ_ _ _ z=>z.elim,?_⟩;rintro C B rfl u;refine⟨_,rfl,T.vU,T.bD,λa ha=>?_⟩;refine⟨_,rfl,?_⟩;refine⟨_,rfl,?_⟩;refine DV ⟨a,T.az,4,rfl,ao,⟨T.vU,T.n9,T.oU,T.rF,T.rG,T.sP,T.rH,T.rJ,T.kT,T.kU⟩,λH2 sm=>c _ _ H2 hq (M.sm.trans ((aG hp _).trans (u.trans ((aG ha _).trans sm)))) (.of (by rw[Rep]))⟩
end
theorem RJ{K:Frag}{x:Str}{st:Stmt}{f:Addr}{g m:Option Addr}{d:Array (Option Value)}{h kV i e b j:Value}(a:nsIn K mainGlobals x=some (some (.ref f)))(l:K.lookup f=some ⟨h,g,.func (fnOf x x (cD st) (ak st) (aa st) .none kV i e m b j),d⟩)(c:codeIn K b x=true)(k:keepIn K (.ref f)=true):Hd K x st:=⟨f,g,m,d,h,kV,i,e,b,j,a,l,c,k⟩
theorem RK{K:Frag}{C:Addr}{x q:Str}{st:Stmt}{f:Addr}{g n:Option Addr}{d:Array (Option Value)}{h kV j e b m:Value}(a:findIn K (.ref C) x=some (some (.ref f)))(i:isFn K (.ref f)=true)(l:K.lookup f=some ⟨h,g,.func (fnOf x q (cD st) (ak st) (aa st) .none kV j e n b m),d⟩)(c:codeIn K b q=true)(k:keepIn K (.ref f)=true):Hm K C x q st:=⟨f,g,n,d,h,kV,j,e,b,m,a,i,l,c,k⟩
theorem oh{x q:Str}{st:Stmt}{i:Str}(h:∀(kV a d:Value)(g:Option Addr)(b f c:Value),bindArgs (fnOf x q (cD st) (ak st) (aa st) .none kV a d g b f) ⟨[c],[]⟩=pure ([i].zip [c])):jM x q st [i]:=λkV a d g b f k j=>by obtain⟨c,l,rfl,e⟩:=mz j;cases Kb.mp e;exact h kV a d g b f c
theorem jR{x q:Str}{st:Stmt}{l k:Str}(h:∀(kV a e:Value)(j:Option Addr)(b i d c:Value),bindArgs (fnOf x q (cD st) (ak st) (aa st) .none kV a e j b i) ⟨[d,c],[]⟩=pure ([l,k].zip [d,c])):jM x q st [l,k]:=λkV a e j b i n m=>by obtain⟨d,p,rfl,g⟩:=mz m;obtain⟨c,o,rfl,f⟩:=mz g;cases Kb.mp f;exact h kV a e j b i d c
theorem UU{x q:Str}{st:Stmt}{m l p2:Str}(h:∀(kV a e:Value)(k:Option Addr)(b j d c a2:Value),bindArgs (fnOf x q (cD st) (ak st) (aa st) .none kV a e k b j) ⟨[d,c,a2],[]⟩=pure ([m,l,p2].zip [d,c,a2])):jM x q st [m,l,p2]:=λkV a e k b j p o=>by obtain⟨d,s,rfl,i⟩:=mz o;obtain⟨c,r,rfl,g⟩:=mz i;obtain⟨a2,n,rfl,f⟩:=mz g;cases Kb.mp f;exact h kV a e k b j d c a2
theorem UW{x q:Str}{st:Stmt}{o n p2 m:Str}(h:∀(kV a e:Value)(l:Option Addr)(b k d c a2 a3:Value),bindArgs (fnOf x q (cD st) (ak st) (aa st) .none kV a e l b k) ⟨[d,c,a2,a3],[]⟩=pure ([o,n,p2,m].zip [d,c,a2,a3])):jM x q st [o,n,p2,m]:=λkV a e l b k t s=>by obtain⟨d,v,rfl,j⟩:=mz s;obtain⟨c,u,rfl,i⟩:=mz j;obtain⟨a2,r,rfl,g⟩:=mz i;obtain⟨a3,p,rfl,f⟩:=mz g;cases Kb.mp f;exact h kV a e l b k d c a2 a3
theorem all_mk{l:PySem.W.OpenLaw}{w:World}{K:Frag}{h:Heap}{mg:Str->Option Value}{f:Addr}(X:K.In h)(G:h.Ns mainGlobals mg)(d:mg "law"=some (.ref f))
 {a:Addr}(rM:nsIn K mainGlobals "Chain"=some (some (.ref a)))(rN:plainGet K a Str.empty=true)(rO:hasDictIn K a=true)(rP:plainOver K a=true)(rQ:findIn K (.ref a) "__setattr__"=some (some (.builtin "object.__setattr__")))(rR:makesIn K a=true)(rS:keepIn K (.ref a)=true)
 (gG:findIn K (.ref a) "ahead"=some none)
 (i0:findIn K (.ref a) "last"=some none)
 (cA:findIn K (.ref a) "factor_ahead"=some none)
 (cE:findIn K (.ref a) "factor_last"=some none)
 (i6:findIn K (.ref a) "lead"=some none)
 (fW:findIn K (.ref a) "height"=some none)
 (i7:findIn K (.ref a) "sign"=some none)
 (gH:findIn K (.ref a) "scale"=some none)
 (gI:findIn K (.ref a) "known"=some none)
 (a0:Hd K "gcd" yw)
 (a1:Hd K "turn" Hh)
 (a2:Hd K "turned" yx)
 (a3:Hd K "raised" jy)
 (a4:Hd K "fraction" fU)
 (a5:Hd K "negated" iG)
 (a6:Hd K "times" mT)
 (a7:Hd K "cleared" iH)
 (a8:Hd K "trimmed" iI)
 (a9:Hd K "scaled" jz)
 (Xb:Hd K "whole_plus" dI)
 (Xc:Hd K "whole_minus" cM)
 (Xd:Hd K "whole_times" cN)
 (Xe:Hd K "whole_slope" cO)
 (Xf:Hd K "whole_divided" b7)
 (Xg:Hd K "shortened" eG)
 (Xh:Hm K a "__init__" "Chain.__init__" gF)
 (Xi:Hm K a "step" "Chain.step" dJ)
 (Xj:Hd K "next_height" cP)
 (Xk:Hd K "primitive" eH)
 (Xl:Hd K "slope" mU)
 (Xm:Hd K "sturm_row" cy)
 (Xn:Hd K "_law_well" qT)
 (Xo:Hd K "_law_draw" qU)
 (Xp:Hd K "_law_share" mV)
 (Xq:Hd K "_law_lowest" jA)
 (Xr:Hd K "_law_only" vL)
 (Xs:Hd K "_law_less_times" dM)
 (Xu:Hd K "_law_rest" qV)
 (Xv:Hd K "_law_due" yy)
 (Xw:Hd K "_law_drawn" mW)
 (Xx:Hd K "_law_right" mX)
 (a32:Hd K "law" yz)
 (dN:nsIn K mainGlobals "ValueError"=some none)
 (rD:nsIn K mainGlobals "abs"=some none)
 (jE:nsIn K mainGlobals "divmod"=some none)
 (bO:nsIn K mainGlobals "enumerate"=some none)
 (yK:nsIn K mainGlobals "int"=some none)
 (aJ:nsIn K mainGlobals "isinstance"=some none)
 (gq:nsIn K mainGlobals "len"=some none)
 (fV:nsIn K mainGlobals "list"=some none)
 (rE:nsIn K mainGlobals "max"=some none)
 (yL:nsIn K mainGlobals "min"=some none)
 (cT:nsIn K mainGlobals "range"=some none)
 {Q8:Tok}(Av:nsIn K mainGlobals "LONG"=some (some (.int 6000 Q8)))
 {c:Addr}(i8:nsIn K mainGlobals "HouseError"=some (some (.ref c)))(gJ:excIn K c V6 "ValueError.__new__"=true)(gK:findIn K (.ref c) "__getattribute__"=some (some (.builtin "BaseException.__getattribute__")))(gM:findIn K (.ref c) "__getattr__"=some none)(gO:findIn K (.ref c) "__class__"=some (some (.builtin "object.__class__")))(gP:mroIn K c (.type "object")=some true)(gQ:mroIn K c (.type "BaseException")=some true)
 {cz:Addr}(kW:nsIn K mainGlobals "NoNumber"=some (some (.ref cz)))
 {c8:Addr}(oi:nsIn K mainGlobals "NoValue"=some (some (.ref c8)))
 {O:Addr}(rT:nsIn K mainGlobals "NoText"=some (some (.ref O)))
 {N:Addr}(rV:nsIn K mainGlobals "NoRoot"=some (some (.ref N)))
 {b:Addr}(wg:nsIn K mainGlobals "NoRow"=some (some (.ref b)))(rW:excIn K b V6 "ValueError.__new__"=true)(rX:findIn K (.ref b) "__getattribute__"=some (some (.builtin "BaseException.__getattribute__")))(rY:findIn K (.ref b) "__getattr__"=some none)(rZ:findIn K (.ref b) "__class__"=some (some (.builtin "object.__class__")))(r6:mroIn K b (.type "object")=some true)(r8:mroIn K b (.type "BaseException")=some true)
 {M:Addr}(r9:nsIn K mainGlobals "TooFar"=some (some (.ref M)))
 {L:Addr}(sd:nsIn K mainGlobals "NoLine"=some (some (.ref L)))
 (dY:kitOne K (.ref b) (.ref cz)=some false)
 (eW:kitOne K (.ref b) (.ref c8)=some false)
 (fX:kitOne K (.ref b) (.ref O)=some false)
 (fY:kitOne K (.ref b) (.ref N)=some false)
 (gR:kitOne K (.ref b) (.ref b)=some true)
 (fZ:kitOne K (.ref b) (.ref M)=some false)
 (gb:kitOne K (.ref b) (.ref L)=some false)
 (cX:kitOne K (.ref b) (.ref c)=some true)
 (cY:kitOne K (.ref b) (.type "ValueError")=some true)
 (bD:mroIn K b (.ref c)=some true)
 :∃fd:FuncData,(∀(s:Shared)(v:Value),BindsTo s fd ⟨[v],[]⟩ [("_law_script",v)])/\∀base:Heap,K.In base->base.Ns mainGlobals mg->aR l.prog w K mg base IB 7 f fd ["_law_script"] (BP K):=by
 have Ll:zP K a ["ahead","last","factor_ahead","factor_last","lead","height","sign","scale","known"]:=⟨⟨rN,rO,rP,rQ⟩,by decide,by decide+kernel,λx hx=>by
  simp only[Fk,T2,ib]at hx;rcases hx with rfl|rfl|rfl|rfl|rfl|rfl|rfl|rfl|rfl
  ·exact gG
  ·exact i0
  ·exact cA
  ·exact cE
  ·exact i6
  ·exact fW
  ·exact i7
  ·exact gH
  ·exact gI⟩
 obtain⟨f0,d0,D0⟩:=bC (ps:=["one","other"]) X G a0 (jR λ_ _ _ _ _ _ _ _=>rfl);obtain⟨f1,d1,D1⟩:=bC (ps:=["one","other"]) X G a1 (jR λ_ _ _ _ _ _ _ _=>rfl);obtain⟨f2,d2,D2⟩:=bC (ps:=["by","one","other"]) X G a2 (UU λ_ _ _ _ _ _ _ _ _=>rfl);obtain⟨f3,d3,D3⟩:=bC (ps:=["number","exponent"]) X G a3 (jR λ_ _ _ _ _ _ _ _=>rfl);obtain⟨f4,d4,D4⟩:=bC (ps:=["top","bottom"]) X G a4 (jR λ_ _ _ _ _ _ _ _=>rfl);obtain⟨f5,d5,D5⟩:=bC (ps:=["one"]) X G a5 (oh λ_ _ _ _ _ _ _=>rfl);obtain⟨f6,d6,D6⟩:=bC (ps:=["one","other"]) X G a6 (jR λ_ _ _ _ _ _ _ _=>rfl);obtain⟨f7,d7,D7⟩:=bC (ps:=["row"]) X G a7 (oh λ_ _ _ _ _ _ _=>rfl);obtain⟨f8,d8,D8⟩:=bC (ps:=["numbers"]) X G a8 (oh λ_ _ _ _ _ _ _=>rfl);obtain⟨f9,d9,D9⟩:=bC (ps:=["numbers","by"]) X G a9 (jR λ_ _ _ _ _ _ _ _=>rfl);obtain⟨J,d10,D10⟩:=bC (ps:=["one","other"]) X G Xb (jR λ_ _ _ _ _ _ _ _=>rfl);obtain⟨I,d11,D11⟩:=bC (ps:=["one","other"]) X G Xc (jR λ_ _ _ _ _ _ _ _=>rfl);obtain⟨H,d12,D12⟩:=bC (ps:=["one","other"]) X G Xd (jR λ_ _ _ _ _ _ _ _=>rfl);obtain⟨F,d13,D13⟩:=bC (ps:=["numbers"]) X G Xe (oh λ_ _ _ _ _ _ _=>rfl);obtain⟨E,d14,D14⟩:=bC (ps:=["one","other"]) X G Xf (jR λ_ _ _ _ _ _ _ _=>rfl);obtain⟨D,d15,D15⟩:=bC (ps:=["numbers"]) X G Xg (oh λ_ _ _ _ _ _ _=>rfl);obtain⟨C,d16,D16⟩:=MC (ps:=["self","one","other","factor"]) Xh (UW λ_ _ _ _ _ _ _ _ _ _=>rfl);obtain⟨B,d17,D17⟩:=MC (ps:=["self"]) Xi (oh λ_ _ _ _ _ _ _=>rfl);obtain⟨A,d18,D18⟩:=bC (ps:=["height","lead","drop"]) X G Xj (UU λ_ _ _ _ _ _ _ _ _=>rfl);obtain⟨z,d19,D19⟩:=bC (ps:=["row"]) X G Xk (oh λ_ _ _ _ _ _ _=>rfl);obtain⟨y,d20,D20⟩:=bC (ps:=["row"]) X G Xl (oh λ_ _ _ _ _ _ _=>rfl);obtain⟨u,d21,D21⟩:=bC (ps:=["row"]) X G Xm (oh λ_ _ _ _ _ _ _=>rfl);obtain⟨t,d22,D22⟩:=bC (ps:=["_law_script","_law_place"]) X G Xn (jR λ_ _ _ _ _ _ _ _=>rfl);obtain⟨r,d23,D23⟩:=bC (ps:=["_law_well_here","_law_many"]) X G Xo (jR λ_ _ _ _ _ _ _ _=>rfl);obtain⟨q,d24,D24⟩:=bC (ps:=["_law_one","_law_other"]) X G Xp (jR λ_ _ _ _ _ _ _ _=>rfl);obtain⟨p,Z,D25⟩:=bC (ps:=["_law_top","_law_bottom"]) X G Xq (jR λ_ _ _ _ _ _ _ _=>rfl);obtain⟨o,Y,D26⟩:=bC (ps:=["_law_e","_law_at"]) X G Xr (jR λ_ _ _ _ _ _ _ _=>rfl);obtain⟨n,U,D27⟩:=bC (ps:=["_law_one","_law_share_here","_law_other","_law_place"]) X G Xs (UW λ_ _ _ _ _ _ _ _ _ _=>rfl);obtain⟨k,S,D28⟩:=bC (ps:=["_law_one","_law_other"]) X G Xu (jR λ_ _ _ _ _ _ _ _=>rfl);obtain⟨j,R,D29⟩:=bC (ps:=["_law_row"]) X G Xv (oh λ_ _ _ _ _ _ _=>rfl);obtain⟨i,Q,D30⟩:=bC (ps:=["_law_well_here"]) X G Xw (oh λ_ _ _ _ _ _ _=>rfl);obtain⟨g,P,D31⟩:=bC (ps:=["_law_row"]) X G Xx (oh λ_ _ _ _ _ _ _=>rfl);obtain⟨f32,YH,Xy⟩:=bC (ps:=["_law_script"]) X G a32 (oh λ_ _ _ _ _ _ _=>rfl);have e:=d.symm.trans Xy.m;cases e
 let T:Tx K mg:=⟨a,⟨TC X G rM,Ll,rR,rS⟩,f0,d0,D0,f1,d1,D1,f2,d2,D2,f3,d3,D3,f4,d4,D4,f5,d5,D5,f6,d6,D6,f7,d7,D7,f8,d8,D8,f9,d9,D9,J,d10,D10,I,d11,D11,H,d12,D12,F,d13,D13,E,d14,D14,D,d15,D15,C,d16,D16,B,d17,D17,A,d18,D18,z,d19,D19,y,d20,D20,u,d21,D21,t,d22,D22,r,d23,D23,q,d24,D24,p,Z,D25,o,Y,D26,n,U,D27,k,S,D28,j,R,D29,i,Q,D30,g,P,D31,f,YH,Xy,P3 X G dN,P3 X G rD,P3 X G jE,P3 X G bO,P3 X G yK,P3 X G aJ,P3 X G gq,P3 X G fV,P3 X G rE,P3 X G yL,P3 X G cT,⟨_,TC X G Av,_,rfl⟩,c,TC X G i8,⟨gJ,gK,gM,gO,gP,gQ⟩,cz,TC X G kW,c8,TC X G oi,O,TC X G rT,N,TC X G rV,b,TC X G wg,⟨rW,rX,rY,rZ,r6,r8⟩,M,TC X G r9,L,TC X G sd,dY,eW,fX,fY,gR,fZ,gb,cX,cY,bD⟩
 exact⟨YH,λs v=>Xy.bt s [v] rfl,λbase _ _=>Qz (UT T)⟩
end UX
namespace PySem.W.Fast
def tw10006472212351733674:=0
def tw10030431332156194232:=0
def tw10059506512660803281:=0
def tw10111918127051709509:=0
def tw10272838867060023557:=0
def tw10299797955080128355:=0
def tw10330812796010103628:=0
def tw1034883706914037566:=0
def tw10364452958209514136:=0
def tw10428682718171550626:=0
def tw10550023248420647044:=0
def tw10685201916087949050:=0
def tw10716602297729717570:=0
def tw10719600562857606835:=0
def tw10748399841443267999:=0
def tw10771393700747102323:=0
def tw10777853586206700692:=0
def tw10886738301907395746:=0
def tw10911591592260809759:=0
def tw11143741744501213054:=0
def tw11319696527411063061:=0
def tw11363395350416114708:=0
def tw11365690559998247334:=0
def tw11391452110896091350:=0
def tw11498646102191536538:=0
def tw11526743857060696257:=0
def tw11564210244841297017:=0
def tw11648490963364769445:=0
def tw11698818496046412664:=0
def tw11805738473865282373:=0
def tw11846492776457368907:=0
def tw11875523176672084148:=0
def tw11961156008556184164:=0
def tw1196435463225152309:=0
def tw11977333454633128154:=0
def tw12035160522480323138:=0
def tw12099907347624984601:=0
def tw12175271606653552583:=0
def tw12218713715938940960:=0
def tw12240058554523108115:=0
def tw12351952953339330399:=0
def tw12414518717446532643:=0
def tw12442086347771497050:=0
def tw12619180351963660467:=0
def tw12632282519112754602:=0
def tw12689948395934999516:=0
def tw12758299431614722852:=0
def tw12836676981644798559:=0
def tw128689922979828983:=0
def tw12951898043992203457:=0
def tw12969500855065924559:=0
def tw13241224539203846716:=0
def tw13355610816205643763:=0
def tw1347445704415653054:=0
def tw13522988572089166965:=0
def tw13535098024652819913:=0
def tw13613573083634770270:=0
def tw13700167479884629347:=0
def tw13702681553737358507:=0
def tw13788485834914808312:=0
def tw13900488832748826784:=0
def tw13918076695176645827:=0
def tw13926384702232822250:=0
def tw1396472590097902003:=0
def tw14135727304931640787:=0
def tw14288690334012742582:=0
def tw14289218997631923315:=0
def tw14466640168067513930:=0
def tw14495558589879210226:=0
def tw14511753653522750315:=0
def tw14615021581453351816:=0
def tw14663334255317365926:=0
def tw14709540323809847652:=0
def tw1474893122812690812:=0
def tw148036851302942854:=0
def tw1488003079850697990:=0
def tw14904153005748918323:=0
def tw14946368203028150098:=0
def tw14967783487054727813:=0
def tw1502885533169684836:=0
def tw1510135359867496984:=0
def tw15126940402922593486:=0
def tw15137278789124783680:=0
def tw15146850695179399943:=0
def tw15148855814245467822:=0
def tw15214213458734293538:=0
def tw15558331843740844248:=0
def tw155975104302977439:=0
def tw15892661297764003226:=0
def tw15919630308727849887:=0
def tw15958458829350218808:=0
def tw16104475507635759733:=0
def tw16179193274098252996:=0
def tw16387612772824299133:=0
def tw16470141154487745499:=0
def tw16509651449526499450:=0
def tw16564325057526406668:=0
def tw166904866841482449:=0
def tw16692443486068992116:=0
def tw16699166964953729847:=0
def tw16727660308262245322:=0
def tw1682594933760006786:=0
def tw16915646324073330326:=0
def tw1694968693093692574:=0
def tw16989379553965642925:=0
def tw16992050998660686857:=0
def tw17041355454448491967:=0
def tw17107242562103297502:=0
def tw17132579433186500778:=0
def tw17141261009730038322:=0
def tw17331005031231282278:=0
def tw17398746119841912147:=0
def tw17457895781712519817:=0
def tw17458124646116412143:=0
def tw17469035797101104166:=0
def tw17479321043871963991:=0
def tw18096359028285264107:=0
def tw18128773267807371711:=0
def tw18159942948899336917:=0
def tw18161467542103289934:=0
def tw18235585885532252769:=0
def tw18291103016072775591:=0
def tw18421609913385660293:=0
def tw1854025818757490105:=0
def tw1876637162907015124:=0
def tw1978669210852648017:=0
def tw2015616261901045099:=0
def tw2173870141479273647:=0
def tw2184946312787833406:=0
def tw2400108480349231315:=0
def tw242034534393096188:=0
def tw2424188824314332243:=0
def tw2462947164797326796:=0
def tw2474451898377513028:=0
def tw2528339239336204872:=0
def tw2639681484712166845:=0
def tw2685168709887615848:=0
def tw2897264865873267592:=0
def tw2941227392722425237:=0
def tw2993243635061159944:=0
def tw3041514507222306711:=0
def tw3093331793438097763:=0
def tw3193431185109000966:=0
def tw3266143971654772110:=0
def tw3297028016593032641:=0
def tw3306755970371452686:=0
def tw3330242736561786031:=0
def tw3370717645680315330:=0
def tw3386359120541473670:=0
def tw3491675245571449263:=0
def tw3510223087881028008:=0
def tw3530832346577205920:=0
def tw3533414150310670214:=0
def tw3558887568462433886:=0
def tw3684461478612640384:=0
def tw374869738618563706:=0
def tw379422669787163915:=0
def tw3807313075934054343:=0
def tw3837381594893816914:=0
def tw3908611644449569413:=0
def tw3963172126446072298:=0
def tw4001728669080063834:=0
def tw4190205922486407301:=0
def tw4264790274977203870:=0
def tw427081277107181970:=0
def tw429111421003779:=0
def tw4520560399869489819:=0
def tw4634605506355711130:=0
def tw4866352734241333139:=0
def tw4866542668128887474:=0
def tw4963302631422839630:=0
def tw5275002006394416656:=0
def tw531357597857326445:=0
def tw538242723151427987:=0
def tw5392574912171101612:=0
def tw5487724868386905318:=0
def tw5576186197182320549:=0
def tw5666775517842466401:=0
def tw5727522885941127103:=0
def tw5935821455726015173:=0
def tw6143783068152075806:=0
def tw6277776256570047345:=0
def tw6433005493300499333:=0
def tw6751075912780593421:=0
def tw6907571129219606081:=0
def tw6962269945976397646:=0
def tw7000682067472187964:=0
def tw7007829932833403242:=0
def tw706617868993299182:=0
def tw7398903385686646789:=0
def tw7401846488892753033:=0
def tw7574208041057612630:=0
def tw7773346525975416313:=0
def tw7784584273237306076:=0
def tw7838152763870975147:=0
def tw7856587594777271634:=0
def tw7858612677466161465:=0
def tw8012984676378466576:=0
def tw8074226215904887520:=0
def tw80753870421815735:=0
def tw8080692311830460651:=0
def tw8109656481979242955:=0
def tw8114375665541793266:=0
def tw8119605180984149508:=0
def tw8155586986531336671:=0
def tw8178220599632863839:=0
def tw8228863964313067158:=0
def tw837085291637352813:=0
def tw8480616212310848844:=0
def tw8526385058143217843:=0
def tw8547413809078263827:=0
def tw8581849441239478303:=0
def tw8592638227483771085:=0
def tw8626344395784379698:=0
def tw8633607837023387920:=0
def tw8750374133551844027:=0
def tw8855562829583612750:=0
def tw8860462130539067072:=0
def tw8966640468764629324:=0
def tw9020387976329340589:=0
def tw9028149874305218086:=0
def tw9134674207140935857:=0
def tw9140973542515134714:=0
def tw9170379472130698947:=0
def tw9179127413078484160:=0
def tw9187098590570958278:=0
def tw9265963237084053725:=0
def tw9351415547502521175:=0
def tw9359989578387123676:=0
def tw9425068921963737215:=0
def tw9562860604311300443:=0
def tw9699430772636696534:=0
def tw9709547116012883237:=0
def tw9772457706196374643:=0
def tw97838073731217022:=0
def tw9939021412714906483:=0
def tw9956760055379748609:=0
end PySem.W.Fast
open PySem PySem.W PyProof.Rows
set_option maxRecDepth 100000 in
set_option maxHeartbeats 0 in
theorem PySem.Challenge.cw_paperwright_k41_sturms_row_holds : PySem.Challenge.rw_paperwright_k41_sturms_row.Holds := by
 w_on;o_law;k_head;(case hw=>w_witness2)
 k_fill
 refine VL.walk (l:=PySem.Challenge.rw_paperwright_k41_sturms_row) (k:=7) rfl rfl ⟨rfl,by decide,by decide⟩ (by decide+kernel) rfl (fun w h Y=>PySem.W.kIn_of Y) ?F
 case F=>
  intro w mg fa h KX G hmg
  refine' UX.all_mk KX G hmg ?rM ?rN ?rO ?rP ?rQ ?rR ?rS ?gG ?i0 ?cA ?cE ?i6 ?fW ?i7 ?gH ?gI ?a0 ?a1 ?a2 ?a3 ?a4 ?a5 ?a6 ?a7 ?a8 ?a9 ?Xb ?Xc ?Xd ?Xe ?Xf ?Xg ?Xh ?Xi ?Xj ?Xk ?Xl ?Xm ?Xn ?Xo ?Xp ?Xq ?Xr ?Xs ?Xu ?Xv ?Xw ?Xx ?a32 ?dN ?rD ?jE ?bO ?yK ?aJ ?gq ?fV ?rE ?yL ?cT ?Av ?i8 ?gJ ?gK ?gM ?gO ?gP ?gQ ?kW ?oi ?rT ?rV ?wg ?rW ?rX ?rY ?rZ ?r6 ?r8 ?r9 ?sd ?dY ?eW ?fX ?fY ?gR ?fZ ?gb ?cX ?cY ?bD
  (case rM=>k_is)
  (case rN=>k_is)
  (case rO=>k_is)
  (case rP=>k_is)
  (case rQ=>k_is)
  (case rR=>k_is)
  (case rS=>k_is)
  (case gG=>k_is)
  (case i0=>k_is)
  (case cA=>k_is)
  (case cE=>k_is)
  (case i6=>k_is)
  (case fW=>k_is)
  (case i7=>k_is)
  (case gH=>k_is)
  (case gI=>k_is)
  (case a0=>walk_at "hd")
  (case a1=>walk_at "hd")
  (case a2=>walk_at "hd")
  (case a3=>walk_at "hd")
  (case a4=>walk_at "hd")
  (case a5=>walk_at "hd")
  (case a6=>walk_at "hd")
  (case a7=>walk_at "hd")
  (case a8=>walk_at "hd")
  (case a9=>walk_at "hd")
  (case Xb=>walk_at "hd")
  (case Xc=>walk_at "hd")
  (case Xd=>walk_at "hd")
  (case Xe=>walk_at "hd")
  (case Xf=>walk_at "hd")
  (case Xg=>walk_at "hd")
  (case Xh=>walk_at "hm")
  (case Xi=>walk_at "hm")
  (case Xj=>walk_at "hd")
  (case Xk=>walk_at "hd")
  (case Xl=>walk_at "hd")
  (case Xm=>walk_at "hd")
  (case Xn=>walk_at "hd")
  (case Xo=>walk_at "hd")
  (case Xp=>walk_at "hd")
  (case Xq=>walk_at "hd")
  (case Xr=>walk_at "hd")
  (case Xs=>walk_at "hd")
  (case Xu=>walk_at "hd")
  (case Xv=>walk_at "hd")
  (case Xw=>walk_at "hd")
  (case Xx=>walk_at "hd")
  (case a32=>walk_at "hd")
  (case dN=>k_is)
  (case rD=>k_is)
  (case jE=>k_is)
  (case bO=>k_is)
  (case yK=>k_is)
  (case aJ=>k_is)
  (case gq=>k_is)
  (case fV=>k_is)
  (case rE=>k_is)
  (case yL=>k_is)
  (case cT=>k_is)
  (case Av=>k_is)
  (case i8=>k_is)
  (case gJ=>k_exc)
  (case gK=>k_is)
  (case gM=>k_is)
  (case gO=>k_is)
  (case gP=>k_is)
  (case gQ=>k_is)
  (case kW=>k_is)
  (case oi=>k_is)
  (case rT=>k_is)
  (case rV=>k_is)
  (case wg=>k_is)
  (case rW=>k_exc)
  (case rX=>k_is)
  (case rY=>k_is)
  (case rZ=>k_is)
  (case r6=>k_is)
  (case r8=>k_is)
  (case r9=>k_is)
  (case sd=>k_is)
  (case dY=>kit_is)
  (case eW=>kit_is)
  (case fX=>kit_is)
  (case fY=>kit_is)
  (case gR=>kit_is)
  (case fZ=>kit_is)
  (case gb=>kit_is)
  (case cX=>kit_is)
  (case cY=>kit_is)
  (case bD=>k_is)
