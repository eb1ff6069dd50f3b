import PyProof.Rows.All
import Wide.All
import OpenK.AllK
import Wide.FinOn
import Lean
import PyProof.EqAt
import PyProof.EqKinds
import PyProof.TupleCall
import PySem.Challenge.RW_paperwright_k12_resultants
set_option Elab.async false
set_option linter.all false
set_option maxRecDepth 100000
set_option maxHeartbeats 4000000
set_option hygiene false in
local macro_rules | `(tactic| walk_at "len_of") => `(tactic| first | (intro _ _ _ h; exact False.elim h) | (rintro _ _ _ ⟨rfl, _⟩; rfl) | (rintro _ _ _ ⟨_, rfl, _⟩; rfl) | (rintro _ _ _ ⟨_, _, rfl, _⟩; rfl) | (rintro _ _ _ ⟨_, _, _, rfl, _⟩; rfl) | (rintro _ _ _ ⟨_, _, _, _, rfl, _⟩; rfl) | (rintro _ _ _ ⟨_, _, _, _, _, rfl, _⟩; rfl) | (rintro _ _ _ ⟨_, _, _, _, _, _, rfl, _⟩; rfl) | (rintro _ _ _ ⟨_, _, _, _, _, _, _, rfl, _⟩; rfl) | (rintro _ _ _ ⟨_, _, _, _, _, _, _, _, rfl, _⟩; rfl) | (rintro _ _ _ ⟨_, _, _, _, _, _, _, _, _, rfl, _⟩; rfl) | (rintro _ _ _ ⟨_, _, _, _, _, _, _, _, _, _, rfl, _⟩; rfl) | (rintro _ _ _ ⟨_, _, _, _, _, _, _, _, _, _, _, rfl, _⟩; rfl))
set_option hygiene false in
local macro_rules | `(tactic| walk_at "vs") => `(tactic| first | dsimp only [wSs, wS, wE, wA, zG, NJ, wP, NK, A9, cJ, setAt, List.getElem?_cons_zero, List.getElem?_cons_succ, look, List.set, cu, lI, bO, aA, List.map_cons, List.map_nil, List.nil_append, List.cons_append, x_len, Fb, Fc, Mc, Me, Mf, Fd, Bc, Be, xo, Mg, Mh, Mi, Mj, Ml, Mm, Fe, Mn, Mp, Mq, SX, SY, x_lt, S5, S6, S7, Bf, S8, Mr, Mt, Mu, S9, Mv, Mw, Mx, My, Bg, xq, Tc, Mz, MA, Td, Ff, Bh, fall, List.replicate, if_true, Bool.not_true, Bool.not_false] | simp only [wSs, wS, wE, wA, zG, NJ, wP, NK, A9, cJ, setAt, List.getElem?_cons_zero, List.getElem?_cons_succ, look, List.set, cu, lI, bO, aA, List.map_cons, List.map_nil, List.nil_append, List.cons_append, x_len, Fb, Fc, Mc, Me, Mf, Fd, Bc, Be, xo, Mg, Mh, Mi, Mj, Ml, Mm, Fe, Mn, Mp, Mq, SX, SY, x_lt, S5, S6, S7, Bf, S8, Mr, Mt, Mu, S9, Mv, Mw, Mx, My, Bg, xq, Tc, Mz, MA, Td, Ff, Bh, fall, List.replicate, if_true, Bool.not_true, Bool.not_false] | skip)
set_option hygiene false in
local macro_rules | `(tactic| walk_at "hd") => `(tactic| (refine' Wa.Te ?ka ?kl ?kc ?kk; (case ka => k_is); (case kl => k_is); (case kc => k_is); (case kk => k_is)))
set_option hygiene false in
local macro_rules | `(tactic| walk_at "hm") => `(tactic| (refine' Wa.Tf ?ka ?ki ?kl ?kc ?kk; (case ka => k_is); (case ki => k_is); (case kl => k_is); (case kc => k_is); (case kk => k_is)))
noncomputable def AC:=@List.getD_eq_getElem?_getD
noncomputable def AN:=@Bool.and_eq_true
noncomputable def Ap:=@List.length_map
noncomputable def B1:=@if_neg
noncomputable def BM:=@List.getElem?_eq_getElem
noncomputable def Bi:=@if_pos
noncomputable def Bn:=@List.mem_cons_of_mem
noncomputable def Bz:=@of_decide_eq_true
noncomputable def DD:=@List.mem_cons_self
noncomputable def DL:=@PySem.Heap.get?_push_of_some
noncomputable def Do:=@Nat.le_refl
noncomputable def Dx:=@Nat.mul_le_mul_left
noncomputable def Ee:=@List.length_append
noncomputable def FC:=@Nat.le_trans
noncomputable def FK:=@List.getElem?_eq_none
noncomputable def FM:=@PySem.wpAny_bind
noncomputable def FR:=@PySem.Heap.lt_size
noncomputable def FS:=@List.getElem?_map
noncomputable def FV:=@List.append_assoc
noncomputable def Fh:=@List.mem_singleton
noncomputable def Fk:=@List.size_toArray
noncomputable def Fm:=@List.map_append
noncomputable def Fn:=@List.map_cons
noncomputable def Fs:=@List.getElem?_eq_some_iff
noncomputable def Fu:=@List.mem_cons
noncomputable def GE:=@Nat.lt_of_lt_of_le
noncomputable def GM:=@List.mem_append
noncomputable def GT:=@List.mem_append_right
noncomputable def Gc:=@Rat.intCast_mul
noncomputable def HI:=@Int.natAbs_mul
noncomputable def Ha:=@Nat.pow_le_pow_right
noncomputable def Hb:=@List.length_pos_iff
noncomputable def He:=@List.length_range
noncomputable def Hk:=@List.isEmpty_iff
noncomputable def Hn:=@decide_eq_true
noncomputable def IH:=@PySem.Heap.get?_push_size
noncomputable def Iy:=@List.mem_map
noncomputable def Jn:=@Nat.ne_of_lt
noncomputable def KB:=@List.all_eq_true
noncomputable def KE:=@Nat.lt_of_le_of_lt
noncomputable def KM:=@decide_eq_true_eq
noncomputable def Kb:=@Option.some.inj
noncomputable def Ki:=@List.mem_range
noncomputable def Kj:=@Int.pow_succ
noncomputable def Kk:=@Bool.false_ne_true
noncomputable def Kt:=@PySem.wpAny_pure
noncomputable def Kx:=@List.getElem?_set_ne
noncomputable def L9:=@List.append_nil
noncomputable def Mo:=@Int.mul_ne_zero
noncomputable def N0:=@beq_iff_eq
noncomputable def NA:=@List.length_set
noncomputable def NM:=@Nat.zero_le
noncomputable def Nw:=@List.getElem?_append_right
noncomputable def OF:=@List.getElem?_append_left
noncomputable def OK:=@Option.map_eq_some_iff
noncomputable def On:=@List.getElem_mem
noncomputable def Os:=@PySem.W.mg_none_of
noncomputable def Oy:=@Nat.mul_le_mul
noncomputable def P2:=@List.map_nil
noncomputable def P3:=@decide_eq_false
noncomputable def PH:=@List.mem_append_left
noncomputable def PP:=@PyProof.Rows.callWith_type1
noncomputable def PQ:=@Nat.pow_pos
noncomputable def Pi:=@PySem.mem_of_lookup
noncomputable def Pl:=@List.map_map
noncomputable def Pm:=@List.mem_of_getElem?
noncomputable def Pt:=@List.getElem?_set_self
noncomputable def Q1:=@Int.pow_zero
noncomputable def QP:=@PySem.W.kia_one
noncomputable def QQ:=@List.not_mem_nil
noncomputable def QR:=@Classical.choose_spec
noncomputable def Qb:=@Ne.symm
noncomputable def Qr:=@Rat.num_divInt_den
noncomputable def RF:=@Nat.lt_succ_self
noncomputable def Re:=@Int.mul_zero
noncomputable def SB:=@Nat.pow_le_pow_left
noncomputable def SC:=@List.getElem?_range
noncomputable def SF:=@Nat.lt_irrefl
noncomputable def SL:=@Nat.le_of_lt
noncomputable def SU:=@List.nodup_cons
noncomputable def SZ:=@List.length_eq_zero_iff
noncomputable def Sr:=@Int.gcd_dvd_right
noncomputable def T1:=@List.length_reverse
noncomputable def T2:=@Int.eq_of_mul_eq_mul_left
noncomputable def TB:=@congrArg
noncomputable def TC:=@List.length_replicate
noncomputable def TK:=@PySem.W.mg_of
noncomputable def Ta:=@Option.isSome_iff_exists
noncomputable def Tb:=@Bool.or_false
noncomputable def Ts:=@Nat.pow_add
noncomputable def U2:=@Nat.mul_le_mul_right
noncomputable def UF:=@Int.one_mul
noncomputable def UV:=@PySem.wpAny_Call_Name_kw
noncomputable def W1:=@Nat.le_mul_of_pos_right
noncomputable def Wp:=@List.getElem?_replicate
noncomputable def X1:=@PySem.wpAny_mono
noncomputable def X2:=@Int.fdiv_eq_ediv_of_nonneg
noncomputable def X9:=@Bool.and_false
noncomputable def XB:=@List.getLast?_eq_getElem?
noncomputable def Xt:=@List.drop_eq_getElem_cons
noncomputable def Y1:=@Rat.mul_eq_zero
noncomputable def Y2:=@Nat.mul_comm
noncomputable def Ya:=@List.getElem?_set
noncomputable def Yf:=@Int.le_of_lt
noncomputable def ag:=@Rat.divInt_eq_divInt_iff
noncomputable def ar:=@Int.mul_ediv_cancel_left
noncomputable def aw:=@List.map_congr_left
noncomputable def bj:=@List.length_take
noncomputable def bo:=@Int.fdiv_eq_ediv_of_dvd
noncomputable def cc:=@Bool.not_eq_true
noncomputable def cm:=@PySem.wpAny_holding
noncomputable def cn:=@Nat.pow_mul
noncomputable def cq:=@PySem.W.callWith_K
noncomputable def cw:=@List.take_of_length_le
noncomputable def cx:=@List.map_set
noncomputable def dA:=@Int.fmod_nonneg_of_pos
noncomputable def dC:=@List.mem_filter
noncomputable def dE:=@List.reverse_cons
noncomputable def de:=@List.ext_getElem?
noncomputable def dn:=@PySem.wpAny_passesOwn
noncomputable def dq:=@Nat.pow_lt_pow_right
noncomputable def dt:=@Int.pow_add
noncomputable def du:=@Int.mul_one
noncomputable def eD:=@Int.fmod_eq_emod_of_nonneg
noncomputable section
set_option bootstrap.genMatcherCode false
namespace L2
open PySem PySem.Spec PyProof.Rows
abbrev Key:=Sum Int Str
noncomputable def MB:Key->Value->Bool
 |.inl k,v=>Value.isInt k v
 |.inr x,v=>Value.isStrOf x v
noncomputable def Wz(w:World):Key->Int
 |.inl k=>hashInt k
 |.inr x=>hashStr w x
theorem bD:∀{k:Key} {v:Value},MB k v=true->(∃i t,k=Sum.inl i/\v=Value.int i t)\/(∃x t,k=Sum.inr x/\v=Value.str x t)
 |.inl i,v,h=>by
  obtain⟨t,e⟩:=Value.isInt_shape (k:=i) (v:=v) h
  exact .inl ⟨i,t,rfl,e⟩
 |.inr x,v,h=>by
  obtain⟨t,e⟩:=Value.isStrOf_shape (x:=x) (v:=v) h
  exact .inr ⟨x,t,rfl,e⟩
theorem NL(a b:Int):decide ((Sum.inl a:Key)=Sum.inl b)=(a==b):=by
 by_cases e:a=b
 ·subst e;simp
 ·have h:¬(Sum.inl a:Key)=Sum.inl b:=fun q=>e (Sum.inl.inj q)
  rw[P3 h]
  exact(beq_eq_false_iff_ne.mpr e).symm
theorem NN(a b:Str):decide ((Sum.inr a:Key)=Sum.inr b)=decide (a=b):=by
 by_cases e:a=b
 ·subst e;simp
 ·have h:¬(Sum.inr a:Key)=Sum.inr b:=fun q=>e (Sum.inr.inj q)
  rw[P3 h,P3 e]
theorem NO(a:Int)(b:Str):decide ((Sum.inl a:Key)=Sum.inr b)=false:=P3 (fun q=>nomatch q)
theorem NP(a:Str)(b:Int):decide ((Sum.inr a:Key)=Sum.inl b)=false:=P3 (fun q=>nomatch q)
noncomputable def Bj(prog:Program)(w:World):PySem.KeyKind prog w Key where
 is:=MB
 hash:=Wz w
 inj:=fun v a b ha hb=>by
  rcases bD ha with⟨i,t,rfl,rfl⟩|⟨x,t,rfl,rfl⟩
  ·rcases bD hb with⟨j,u,rfl,e⟩|⟨y,u,rfl,e⟩
   ·injection e with e1 _;rw[e1]
   ·exact nomatch e
  ·rcases bD hb with⟨j,u,rfl,e⟩|⟨y,u,rfl,e⟩
   ·exact nomatch e
   ·injection e with e1 _;rw[e1]
 byValue:=fun k v h=>by
  rcases bD h with⟨i,t,rfl,rfl⟩|⟨x,t,rfl,rfl⟩<;>rfl
 pyHash:=fun hv h=>by
  rcases bD hv with⟨i,t,rfl,rfl⟩|⟨x,t,rfl,rfl⟩
  ·exact wpAny_pyHash_int h
  ·exact wpAny_pyHash_str h
 eqBool:=fun hu hv h=>by
  rcases bD hu with⟨i,t,rfl,rfl⟩|⟨x,t,rfl,rfl⟩
  ·rcases bD hv with⟨j,u,rfl,rfl⟩|⟨y,u,rfl,rfl⟩
   ·rw[NL]at h;exact wpAny_eqBool_int h
   ·rw[NO]at h;exact SeqAt.EqAt.int_str i t y u _ _ _ _ h
  ·rcases bD hv with⟨j,u,rfl,rfl⟩|⟨y,u,rfl,rfl⟩
   ·rw[NP]at h;exact SeqAt.EqAt.str_int x t j u _ _ _ _ h
   ·rw[NN]at h;exact wpAny_eqBool_str h
 «strs»:=fun k x t v h=>by
  rcases bD h with⟨i,u,rfl,e⟩|⟨y,u,rfl,e⟩
  ·exact nomatch e
  ·injection e with e1 _
   subst e1
   cases v<;>rfl
inductive V where
 |aU|bl (b:Bool)|int (i:Int)|str (x:Str)|E3 (b:Array UInt8)|NQ (b:UInt64)|ref (a:Addr)|ty (n:String)
 deriving DecidableEq
noncomputable def RelV:V->Value->Prop
 |.aU,u=>u=Value.none
 |.bl b,u=>u=Value.bool b
 |.int i,u=>∃t,u=Value.int i t
 |.str x,u=>∃t,u=Value.str x t
 |.E3 b,u=>∃t,u=Value.bytes b t
 |.NQ b,u=>∃t,u=Value.float b t
 |.ref a,u=>u=Value.ref a
 |.ty n,u=>u=Value.type n
abbrev Vals:List V->List Value->Prop:=Paired RelV
theorem Vals.length{xs:List V}{us:List Value}(r:Vals xs us):xs.length=us.length:=Paired.length r
theorem Vals.get:∀{xs:List V} {us:List Value} {i:Nat} {x:V},Vals xs us->xs[i]?=some x->∃u,us[i]?=some u/\RelV x u
 |_,_,_,_,.nil,e=>by simp at e
 |_,_,0,_,.cons r _,e=>by simp at e;subst e;exact⟨_,rfl,r⟩
 |_,_,i+1,x,.cons _ t,e=>by
  obtain⟨u,h1,h2⟩:=Vals.get (i:=i) (x:=x) t (by simpa using e)
  exact⟨u,by simpa using h1,h2⟩
theorem Vals.set{x:V}{u:Value}(r:RelV x u):∀{xs:List V} {us:List Value} (i:Nat),Vals xs us->Vals (xs.set i x) (us.set i u)
 |_,_,_,.nil=>.nil
 |_,_,0,.cons _ t=>.cons r t
 |_,_,i+1,.cons q t=>.cons q (Vals.set r i t)
theorem Vals.append:∀{xs ys:List V} {us ws:List Value},Vals xs us->Vals ys ws->Vals (xs++ys) (us++ws)
 |_,_,_,_,.nil,s=>s
 |_,_,_,_,.cons r t,s=>.cons r (Vals.append t s)
theorem Vals.take:∀{xs:List V} {us:List Value} (n:Nat),Vals xs us->Vals (xs.take n) (us.take n)
 |_,_,0,_=>.nil
 |_,_,_+1,.nil=>.nil
 |_,_,n+1,.cons r t=>.cons r (Vals.take n t)
theorem Vals.drop:∀{xs:List V} {us:List Value} (n:Nat),Vals xs us->Vals (xs.drop n) (us.drop n)
 |_,_,0,r=>r
 |_,_,_+1,.nil=>.nil
 |_,_,n+1,.cons _ t=>Vals.drop n t
noncomputable def sH:Option V->Option Value->Prop
 |some v,some u=>RelV v u
 |none,none=>True
 |_,_=>False
noncomputable def KV{κ:Type}:List (κ×V)->List (κ×Value)->Prop:=Paired fun(p:κ×V) (q:κ×Value)=>p.1=q.1/\RelV p.2 q.2
noncomputable def kV:Key->V
 |.inl i=>.int i
 |.inr x=>.str x
inductive HO where
 |lst (xs:List V)
 |tup (xs:List V)
 |dK (kvs:List (Key×V))|dT (kvs:List (List Key×V))
 |set (S:Int->Bool) (n:Nat)
 |ins (C dx:Addr) (fs:List (Str×V))
 |own (x:Addr)
 |xd (fs:List (Str×V))
 |met (f x:Addr)
 |jn (lo hi:Int)
 |xr (o:Obj) (u:HO)
 |MC (ps:Array Value)
 |ext (φ:Heap->Prop)
abbrev Hp:=Addr->Option HO
noncomputable def upd(H:Hp)(a:Addr)(o:HO):Hp:=fun b=>if b=a then some o else H b
theorem aD{H:Hp}{a:Addr}{o:HO}:upd H a o a=some o:=by unfold upd;rw[Bi rfl]
theorem ai{H:Hp}{a b:Addr}{o:HO}(h:b≠a):upd H a o b=H b:=by unfold upd;rw[B1 h]
theorem aO{H:Hp}{a b:Addr}{o:HO}(h:H a=some o)(h':H b=none):a≠b:=by
 intro e;subst e;rw[h]at h';cases h'
section
variable(P:Program)(w:World)
noncomputable def bW(H:Hp)(h:Heap)(a:Addr):HO->Prop
 |.lst xs=>xs.length<=sizeLine/\∃(its:List Value) (n:Nat),Vals xs its/\h.get? a=some {cls:=.type "list",data:=.seq its.toArray n}
 |.tup xs=>xs.length<=sizeLine/\∃its:List Value,Vals xs its/\IsTup h a its.toArray
 |.dK kvs=>kvs.length<=sizeLine/\(a==sysModules)=false/\∃vs,KV kvs vs/\h.DictOf (Bj P w) a vs
 |.dT kvs=>kvs.length<=sizeLine/\(a==sysModules)=false/\∃xs:List (List Key×Addr×Value),
   Paired (fun(p:List Key×V) (q:List Key×Addr×Value)=>p.1=q.1/\H q.2.1=some (.tup (p.1.map kV))/\RelV p.2 q.2.2) kvs xs/\
   ∃o es ep,h.get? a=some o/\o.ExactDict/\o.data=.dict es ep/\es.toList=xs.map (entryOfKey (tupleKind (Bj P w)))/\(xs.map (·.1)).Nodup
 |.set S n=>h.SetOf (intKind P w) a S n
 |.ins C dx fs=>H dx=some (.own a)/\fs.length<=1000/\dx≠a/\h.get? a=some (PySem.W.instObj C dx)/\
   ∃mA,h.Ns1 dx mA/\(∀f,sH (fs.lookup f) (mA f))/\PySem.Within mA (fs.map (·.1))
 |.own _=>∃o,h.get? a=some o
 |.xd fs=>∃mA,h.Ns1 a mA/\∀f,sH (fs.lookup f) (mA f)
 |.jn lo hi=>∃t u v,h.get? a=some {cls:=.type "range",data:=.fields #[.int lo t,.int hi u,.int 1 v]}
 |.xr o u=>h.get? a=some o/\bW H h a u
 |.MC ps=>h.get? a=some {cls:=.none,data:=.fields ps}
 |.met f x=>h.get? a=some (PySem.W.methodObj (.ref f) (.ref x))
 |.ext φ=>φ h/\(∃o,h.get? a=some o)/\∀h1 h2:Heap,φ h1->(∀o,h1.get? a=some o->h2.get? a=some o)->φ h2
noncomputable def lE(H:Hp)(h:Heap):Prop:=∀a o,H a=some o->bW P w H h a o
end
section
variable{P:Program}{w:World}{H H':Hp}{h h':Heap}{a:Addr}{o:HO}
theorem bW.lt(x:bW P w H h a o):a<h.objs.size:=by
 cases o with
 |lst xs=>obtain⟨_,_,_,_,e⟩:=x;exact FR e
 |tup xs=>obtain⟨_,_,_,p⟩:=x;exact p.lt
 |dK kvs=>obtain⟨_,_,_,_,o,_,_,e,_⟩:=x;exact FR e
 |dT kvs=>obtain⟨_,_,_,_,o,_,_,e,_⟩:=x;exact FR e
 |set S n=>obtain⟨o,_,_,_,e,_⟩:=x;exact FR e
 |ins C dx fs=>obtain⟨_,_,_,e,_⟩:=x;exact FR e
 |own y=>obtain⟨_,e⟩:=x;exact FR e
 |xd fs=>obtain⟨_,⟨_,_,_,e,_⟩,_⟩:=x;exact FR e
 |jn lo hi=>obtain⟨_,_,_,e⟩:=x;exact FR e
 |xr ob u=>obtain⟨e,_⟩:=x;exact FR e
 |MC ps=>exact FR (show h.get? a=some _ from x)
 |met f y=>exact FR (show h.get? a=some _ from x)
 |ext φ=>obtain⟨_,⟨_,e⟩,_⟩:=x;exact FR e
theorem Paired.Tg{α β:Type}{F G:α->β->Prop}:∀{l₁:List α} {l₂:List β},Paired F l₁ l₂->(∀a b,F a b->G a b)->Paired G l₁ l₂
 |_,_,.nil,_=>.nil
 |_,_,.cons r t,f=>.cons (f _ _ r) (Paired.Tg t f)
theorem bW.stay(x:bW P w H h a o)(k:∀b u,(b=a\/H b=some (.own a))->h.get? b=some u->h'.get? b=some u)
 (ho:∀b,H b=some (.own a)->H' b=some (.own a)) (ht:∀b xs,H b=some (.tup xs)->H' b=some (.tup xs)):bW P w H' h' a o:=by
 induction o with
 |lst xs=>obtain⟨z,its,n,r,e⟩:=x;exact⟨z,its,n,r,k _ _ (.inl rfl) e⟩
 |tup xs=>obtain⟨z,its,r,ob,e,c⟩:=x;exact⟨z,its,r,ob,k _ _ (.inl rfl) e,c⟩
 |dK kvs=>obtain⟨z,y,vs,r,ob,es,ep,e,c⟩:=x;exact⟨z,y,vs,r,ob,es,ep,k _ _ (.inl rfl) e,c⟩
 |dT kvs=>
  obtain⟨z,y,xs,r,ob,es,ep,e,c⟩:=x
  exact⟨z,y,xs,Paired.Tg r fun p q z=>⟨z.1,ht _ _ z.2.1,z.2.2⟩,ob,es,ep,k _ _ (.inl rfl) e,c⟩
 |set S n=>obtain⟨ob,es,ep,t,e,c⟩:=x;exact⟨ob,es,ep,t,k _ _ (.inl rfl) e,c⟩
 |ins C dx fs=>
  obtain⟨d,z,ne,e,mA,⟨od,es,ep,e2,c⟩,r⟩:=x
  exact⟨ho _ d,z,ne,k _ _ (.inl rfl) e,mA,⟨od,es,ep,k _ _ (.inr d) e2,c⟩,r⟩
 |own y=>obtain⟨ob,e⟩:=x;exact⟨ob,k _ _ (.inl rfl) e⟩
 |xd fs=>obtain⟨mA,⟨od,es,ep,e,c⟩,r⟩:=x;exact⟨mA,⟨od,es,ep,k _ _ (.inl rfl) e,c⟩,r⟩
 |jn lo hi=>obtain⟨t,u,v,e⟩:=x;exact⟨t,u,v,k _ _ (.inl rfl) e⟩
 |xr ob u ih=>obtain⟨e,q⟩:=x;exact⟨k _ _ (.inl rfl) e,ih q⟩
 |MC ps=>
  have e:h.get? a=some {cls:=.none,data:=.fields ps}:=x
  show h'.get? a=some {cls:=.none,data:=.fields ps}
  exact k a _ (.inl rfl) e
 |met f y=>
  have e:h.get? a=some (PySem.W.methodObj (.ref f) (.ref y)):=x
  show h'.get? a=some (PySem.W.methodObj (.ref f) (.ref y))
  exact k a _ (.inl rfl) e
 |ext φ=>obtain⟨p,⟨o,e⟩,st⟩:=x;exact⟨st _ _ p fun o q=>k _ _ (.inl rfl) q,⟨o,k _ _ (.inl rfl) e⟩,st⟩
theorem lE.lt(x:lE P w H h)(e:H a=some o):a<h.objs.size:=(x a o e).lt
theorem lE.fresh(x:lE P w H h)(e:h.objs.size<=a):H a=none:=by
 cases q:H a with
 |none=>rfl
 |some u=>exact absurd (GE (x.lt q) e) (SF _)
theorem lE.kept(x:lE P w H h)(k:∀b u,h.get? b=some u->h'.get? b=some u):lE P w H h':=fun a o e=>
 (x a o e).stay (fun b u _ q=>k b u q) (fun _ q=>q) fun _ _ q=>q
theorem lE.laid(x:lE P w H h)(k:∀b u,h.get? b=some u->h'.get? b=some u)(hp:h.objs.size<=a)(new:bW P w (upd H a o) h' a o):lE P w (upd H a o) h':=fun b u e=>by
 have hn:=x.fresh hp
 by_cases hb:b=a
 ·subst hb;rw[aD]at e;cases e;exact new
 ·rw[ai hb]at e
  exact(x b u e).stay (fun c v _ q=>k c v q) (fun c q=>by rw[ai (aO q hn)];exact q) fun c xs q=>by rw[ai (aO q hn)];exact q
end
noncomputable def Rd(H:Hp)(a:Addr)(u:HO):Prop:=H a=some u\/∃o,H a=some (.xr o u)
theorem Rd.ok{P:Program}{w:World}{H:Hp}{h:Heap}{a:Addr}{u:HO}(r:Rd H a u)(x:lE P w H h):bW P w H h a u:=by
 rcases r with r|⟨o,r⟩
 ·exact x a u r
 ·obtain⟨_,q⟩:=x a _ r
  exact q
noncomputable def Wb:Option HO->Prop
 |some (.lst _)=>True
 |some (.dK _)=>True
 |some (.dT _)=>True
 |some (.set _ _)=>True
 |some (.ins _ _ _)=>True
 |some (.ext _)=>True
 |_=>False
section
variable{P:Program}{w:World}{H:Hp}{h h':Heap}{x e:Addr}{o':HO}
theorem lE.write(ok:lE P w H h)(mu:Wb (H x))(he:e=x\/H e=some (.own x))(k:∀b u,b≠e->h.get? b=some u->h'.get? b=some u)(Sn:∃u,h'.get? e=some u)
 (new:bW P w (upd H x o') h' x o'):lE P w (upd H x o') h':=fun b u q=>by
 have Th:∀c y,H c=some (.own y)->c≠x:=fun c y r z=>by subst z;rw[r]at mu;exact mu
 have WA:∀c xs,H c=some (.tup xs)->c≠x:=fun c xs r z=>by subst z;rw[r]at mu;exact mu
 by_cases hb:b=x
 ·subst hb;rw[aD]at q;cases q;exact new
 ·rw[ai hb]at q
  by_cases NR:b=e
  ·have q':H b=some (.own x):=by
    rcases he with z|z
    ·exact absurd (NR.trans z) hb
    ·rw[NR];exact z
   rw[q]at q';cases q'
   obtain⟨v,hv⟩:=Sn
   exact⟨v,by rw[NR];exact hv⟩
  ·refine(ok b u q).stay (fun c v hc r=>k c v ?_ r) (fun c r=>by rw[ai (Th c b r)];exact r) fun c xs r=>by rw[ai (WA c xs r)];exact r
   rcases hc with rfl|hc
   ·exact NR
   ·rintro rfl
    rcases he with z|z
    ·exact Th c b hc z
    ·rw[hc]at z;cases z;exact hb rfl
end
structure Un(fs ex:List Addr)(H H':Hp)(h h':Heap):Prop where
 keep:∀b o,h.get? b=some o->H b=none->b∉fs->b∉ex->h'.get? b=some o
 slot:∀b o,h.get? b=some o->H b=none->b∈fs->b∉ex->∃sl,h'.get? b=some {o with slots:=sl}
 free:∀b o,h.get? b=some o->H b=none->b∉ex->H' b=none
 there:∀b o,h.get? b=some o->b∉ex->∃o',h'.get? b=some o'
 tups:∀b xs,H b=some (.tup xs)->H' b=some (.tup xs)
 j3:∀b o u,H b=some (.xr o u)->H' b=some (.xr o u)
 kL:∀b ps,H b=some (.MC ps)->∃more,H' b=some (.MC (ps++more))
section
variable{fs fs' ex ex':List Addr}{H H1 H2:Hp}{h h1 h2 h':Heap}{a x e:Addr}{o:HO}
theorem Un.any(u:Un fs ex H H1 h h1){b:Addr}{ob:Obj}(q:h.get? b=some ob)(n:H b=none)(hx:b∉ex):∃sl,h1.get? b=some {ob with slots:=sl}:=by
 by_cases hb:b∈fs
 ·exact u.slot b ob q n hb hx
 ·exact⟨ob.slots,u.keep b ob q n hb hx⟩
theorem Un.kept(k:∀b u,h.get? b=some u->h'.get? b=some u):Un fs ex H H h h':=
 ⟨fun b ob q _ _ _=>k b ob q,fun b ob q _ _ _=>⟨ob.slots,k b ob q⟩,fun _ _ _ n _=>n,fun b ob q _=>⟨ob,k b ob q⟩,fun _ _ q=>q,fun _ _ _ q=>q,fun _ ps q=>⟨#[],by rw[q];simp⟩⟩
theorem Un.refl:Un fs ex H H h h:=Un.kept fun _ _ q=>q
theorem Un.laid(k:∀b u,h.get? b=some u->h'.get? b=some u)(hp:h.objs.size<=a)(hn:H a=none):Un fs ex H (upd H a o) h h' where
 keep:=fun b u q _ _ _=>k b u q
 slot:=fun b u q _ _ _=>⟨u.slots,k b u q⟩
 free:=fun b u q n _=>by rw[ai (Jn (GE (FR q) hp))];exact n
 there:=fun b u q _=>⟨u,k b u q⟩
 tups:=fun b xs q=>by rw[ai (aO q hn)];exact q
 j3:=fun b u xs q=>by rw[ai (aO q hn)];exact q
 kL:=fun b ps q=>⟨#[],by rw[ai (aO q hn),q];simp⟩
theorem Un.write(mu:Wb (H x))(he:e=x\/H e=some (.own x))(k:∀b u,b≠e->h.get? b=some u->h'.get? b=some u)(Sn:∃u,h'.get? e=some u):Un fs ex H (upd H x o) h h':=by
 have hx:∀b,H b=none->b≠x:=fun b n z=>by subst z;rw[n]at mu;exact mu
 have hb:∀b,H b=none->b≠e:=fun b n z=>by
  subst z
  rcases he with r|r
  ·exact hx b n r
  ·rw[n]at r;cases r
 have hm:∀b u,H b=some u->¬Wb (some u)->b≠x:=fun b u q nm z=>by subst z;rw[q]at mu;exact nm mu
 refine⟨fun b u q n _ _=>k b u (hb b n) q,fun b u q n _ _=>⟨u.slots,k b u (hb b n) q⟩,fun b u q n _=>by rw[ai (hx b n)];exact n,fun b u q _=>?_,
  fun b xs q=>by rw[ai (hm b _ q fun z=>z)];exact q,fun b u xs q=>by rw[ai (hm b _ q fun z=>z)];exact q,fun b ps q=>⟨#[],by rw[ai (hm b _ q fun z=>z),q];simp⟩⟩
 by_cases NR:b=e
 ·subst NR;exact Sn
 ·exact⟨u,k b u NR q⟩
end
noncomputable def Wc(h:Heap)(H:Hp):List Addr:=(List.range h.objs.size).filter fun a=>(H a).isSome
noncomputable def uK(h:Heap)(H:Hp):Heap:=PySem.W.hideAll h (Wc h H)
theorem Dh(h:Heap)(H:Hp):(uK h H).objs.size=h.objs.size:=PySem.W.hideAll_size _ _
theorem Fg{h:Heap}{H:Hp}{b:Addr}{o:Obj}(e:h.get? b=some o)(n:H b=none):(uK h H).get? b=some o:=
 PySem.W.hideAll_get _ e fun hm=>by
  have q:(H b).isSome=true:=(dC.mp hm).2
  rw[n]at q;simp at q
theorem Jl{h:Heap}{H:Hp}{b:Addr}{o:Obj}(e:(uK h H).get? b=some o):h.get? b=some o/\H b=none:=by
 have e':h.get? b=some o:=PySem.W.of_hideAll (Wc h H) e
 refine⟨e',?_⟩
 cases q:H b with
 |none=>rfl
 |some x=>
  have hm:b∈Wc h H:=dC.mpr ⟨Ki.mpr (FR e'),by simp[q]⟩
  have z:(uK h H).get? b=none:=PySem.W.hideAll_none (Wc h H) hm
  rw[z]at e;cases e
noncomputable def Jm(g h:Heap)(L:Addr):List (Addr×Obj):=(List.range h.objs.size).filterMap fun a=>if a=L\/(g.get? a).isSome=true then none else(h.get? a).map fun o=>(a,o)
noncomputable def rest(g h:Heap)(L d:Addr):List (Addr×Obj):=(Jm g h L).filter fun p=>decide (p.1≠d)
structure Mod(K:PySem.W.Frag)(mg:Str->Option Value)(base:Heap):Prop where
 Jo:K.In base
 glob:base.Ns mainGlobals mg
 blt:∃mb,base.Ns builtinsNs mb/\∀x:Str,x≠"__name__"->mb x=bootBuiltins x
 nolimit:base.NoLimit
set_option genInjectivity false in
set_option genSizeOf false in
structure Cx where
 prog:Program
 w:World
 K:PySem.W.Frag
 mg:Str->Option Value
 base:Heap
 A:Around
 N:List Str
 s₀:Shared
 H₀:Hp
 env:Env
 outer:List Env
 stack:List Env
 ex:List Addr
 fn:Str->Bool
 calm:Bool
 pn:List (Addr×Obj)
 xe:Value->Shared->Prop
noncomputable def frs(l:List Env):List Addr:=l.filterMap (·.frame)
abbrev Cx.fs(X:Cx):List Addr:=frs X.outer
noncomputable def So(sc:Scope)(x:Str):Prop:=sc.names.lookup x=some .local\/sc.names.lookup x=some .cell\/sc.names.lookup x=some .free
noncomputable def Loc(sc:Scope)(x:Str):Prop:=sc.names.lookup x=some .local\/sc.names.lookup x=some .cell
noncomputable def Look(env:Env)(h:Heap)(m:Str->Option Value)(x:Str)(u:Value):Prop:=
 (env.kindOf x=some .local/\m x=some u)\/((env.kindOf x=some .cell\/env.kindOf x=some .free)/\∃c,env.cells.lookup x=some c/\h.IsCell c (some u))
structure Cx.Ok(X:Cx):Prop where
 mod:Mod X.K X.mg X.base
 kind:X.env.scope.kind=.function
 glob:X.env.globals=mainGlobals
 blt:X.env.builtins=builtinsNs
 above:X.s₀.heap.objs.size<=X.env.locals
 inj:∀x y c,X.env.cells.lookup x=some c->X.env.cells.lookup y=some c->x=y
 has:∀x,(X.env.kindOf x=some .cell\/X.env.kindOf x=some .free)->∃c,X.env.cells.lookup x=some c
 Sq:∀x c,X.fn x=true->X.env.cells.lookup x=some c->X.s₀.heap.objs.size<=c
 hd:X.calm=true->X.A.handled=none
 frames:X.A.frames=some X.stack
 stk:X.stack=X.outer\/(X.stack=X.env::X.outer/\X.env.frame=some X.env.locals)
 Ti:∀b∈X.ex,b≠X.env.locals/\∀x c,X.env.cells.lookup x=some c->c≠b
 bs:∀b o,X.base.get? b=some o->X.s₀.heap.get? b=some o/\X.H₀ b=none
 IZ:X.base.objs.size<=X.s₀.heap.objs.size
 Di:∀b o,X.base.get? b=some o->b∉X.ex
 zH:∀b∈X.ex,b∉X.fs
 ny:X.s₀.heap.FunFrames X.base X.outer
 MD:∀b∈X.fs,X.H₀ b=none
structure Inv(X:Cx)(pins:List (Addr×Obj))(σ:List (Option V))(H:Hp)(s:Shared):Prop where
 ok:X.Ok
 os:s.os=X.s₀.os
 bare:AllBare s.gens
 base:Un X.fs X.ex X.H₀ H X.s₀.heap s.heap
 loc:∃m,s.heap.Ns X.env.locals m/\∀(i:Nat) (x:Str) (v:V),X.N[i]?=some x->σ[i]?=some (some v)->So X.env.scope x->∃u,RelV v u/\Look X.env s.heap m x u
 cell:∀x c,X.env.cells.lookup x=some c->∃v,s.heap.IsCell c v
 free:H X.env.locals=none
 gv:∀x c,X.env.cells.lookup x=some c->H c=none
 pin:∀p∈X.pn++pins,s.heap.get? p.1=some p.2/\H p.1=none/\p.1≠X.env.locals/\p.1∉X.fs/\∀v,p.2.data≠.cell v
 hok:lE X.prog X.w H s.heap
 len:σ.length=X.N.length
section
variable{X:Cx}{pins:List (Addr×Obj)}{σ:List (Option V)}{H H':Hp}{s:Shared}{h':Heap}
theorem Cx.Ok.Dj(ok:X.Ok){b:Addr}{o:Obj}(e:X.base.get? b=some o):b∉X.fs:=fun hb=>by
 have:=(ok.ny.mem hb).1
 rw[e]at this;cases this
theorem Inv.bs(I:Inv X pins σ H s):∀b o,X.base.get? b=some o->s.heap.get? b=some o/\H b=none:=fun b o e=>
 ⟨I.base.keep b o (I.ok.bs b o e).1 (I.ok.bs b o e).2 (I.ok.Dj e) (I.ok.Di b o e),I.base.free b o (I.ok.bs b o e).1 (I.ok.bs b o e).2 (I.ok.Di b o e)⟩
theorem Inv.bk(I:Inv X pins σ H s):∀b o,X.base.get? b=some o->s.heap.get? b=some o:=fun b o e=>(I.bs b o e).1
theorem Inv.mod(I:Inv X pins σ H s):Mod X.K X.mg X.base:=I.ok.mod
theorem Inv.j6(I:Inv X pins σ H s):X.K.In s.heap:=I.ok.mod.Jo.keeps I.bk
theorem Inv.lt(I:Inv X pins σ H s):X.env.locals<s.heap.objs.size:=let⟨_,hn,_⟩:=I.loc;hn.lt
theorem Inv.sz(I:Inv X pins σ H s):X.s₀.heap.objs.size<=s.heap.objs.size:=FC I.ok.above (SL I.lt)
theorem Inv.WB(I:Inv X pins σ H s){a:Addr}(h:s.heap.objs.size<=a):a∉X.fs:=fun hb=>by
 obtain⟨_,o,ho,_⟩:=I.ok.ny.mem hb
 exact absurd (GE (FR ho) (FC I.sz h)) (SF _)
theorem Inv.Fi(I:Inv X pins σ H s):∀x c,X.env.cells.lookup x=some c->c≠X.env.locals:=fun x c e z=>by
 obtain⟨v,o,ho,hd⟩:=I.cell x c e
 obtain⟨m,⟨o',es,ep,ho',hd',_⟩,_⟩:=I.loc
 rw[z,ho']at ho;cases ho;rw[hd']at hd;cases hd
theorem Inv.ny(I:Inv X pins σ H s):s.heap.FunFrames X.base X.outer:=by
 have all:∀(l:List Env),(∀b∈frs l,b∈X.fs)->X.s₀.heap.FunFrames X.base l->s.heap.FunFrames X.base l:=by
  intro l
  induction l with
  |nil=>intro _ _;trivial
  |cons env r ih=>
   intro hs hl
   obtain⟨hk,⟨L,o,hf,hn,ho,hd⟩,hr⟩:=hl
   have hL:L∈X.fs:=hs L (by unfold frs;rw[List.filterMap_cons,hf];exact DD)
   obtain⟨sl,e⟩:=I.base.slot L o ho (I.ok.MD L hL) hL fun z=>I.ok.zH L z hL
   exact⟨hk,⟨L,_,hf,hn,e,hd⟩,ih (fun b hb=>hs b (by unfold frs;rw[List.filterMap_cons,hf];exact Bn _ hb)) hr⟩
 exact all X.outer (fun _ hb=>hb) I.ok.ny
theorem Inv.stack(I:Inv X pins σ H s):s.heap.FunFrames X.base X.stack:=by
 rcases I.ok.stk with e|⟨e,hf⟩
 ·rw[e];exact I.ny
 ·rw[e]
  obtain⟨m,hn,_⟩:=I.loc
  refine .cons (by rw[I.ok.kind];decide) hf hn ?_ I.ny
  exact Heap.get?_none_of_le (FC I.ok.IZ I.ok.above)
theorem Inv.zI(I:Inv X pins σ H s):∀b∈frs X.stack,b∈X.env.locals::X.fs:=fun b hb=>by
 rcases I.ok.stk with e|⟨e,hf⟩
 ·rw[e]at hb;exact Bn _ hb
 ·rw[e]at hb
  unfold frs at hb
  rw[List.filterMap_cons,hf]at hb
  exact hb
theorem Inv.jP(I:Inv X pins σ H s):∀b∈frs X.stack,H b=none:=fun b hb=>by
 rcases Fu.mp (I.zI b hb)with e|hb
 ·rw[e];exact I.free
 ·obtain⟨_,o,ho,_⟩:=I.ok.ny.mem hb
  exact I.base.free b o ho (I.ok.MD b hb) fun z=>I.ok.zH b z hb
theorem Inv.step{g':Array GenState}{t':Nat}{d':Drawn}{ch:List Addr}(I:Inv X pins σ H s)
 (hch:∀b∈ch,(b∈X.ex\/X.s₀.heap.objs.size<=b)/\b≠X.env.locals/\(∀x c,X.env.cells.lookup x=some c->c≠b)/\∀p∈X.pn++pins,p.1≠b)
 (keep:∀b o,b≠X.env.locals->b∉X.fs->b∉ch->s.heap.get? b=some o->H b=none->h'.get? b=some o)
 (slot:∀b o,b≠X.env.locals->b∈X.fs->b∉ch->s.heap.get? b=some o->H b=none->∃sl,h'.get? b=some {o with slots:=sl}) (free:∀b o,b∉ch->s.heap.get? b=some o->H b=none->H' b=none)
 (there:∀b o,b∉ch->s.heap.get? b=some o->∃o',h'.get? b=some o')
 (tups:∀b xs,H b=some (.tup xs)->H' b=some (.tup xs)) (j3:∀b o u,H b=some (.xr o u)->H' b=some (.xr o u)) (kL:∀b ps,H b=some (.MC ps)->∃more,H' b=some (.MC (ps++more)))
 (ns:∀m,s.heap.Ns X.env.locals m->h'.Ns X.env.locals m) (hok:lE X.prog X.w H' h') (hg:AllBare g'):
 Inv X pins σ H' {s with heap:=h',gens:=g',drawn:=d',toks:=t'}:=by
 have YX:∀b o,X.s₀.heap.get? b=some o->b≠X.env.locals:=fun b o e=>Jn (GE (FR e) I.ok.above)
 have Wd:∀b o,X.s₀.heap.get? b=some o->b∉X.ex->b∉ch:=fun b o e hx hb=>by
  rcases(hch b hb).1 with z|z
  ·exact hx z
  ·exact absurd (GE (FR e) z) (SF _)
 have cellK:∀x c,X.env.cells.lookup x=some c->∀v,s.heap.IsCell c v->h'.IsCell c v:=by
  rintro x c e v ⟨o,ho,hd⟩
  have ME:c∉ch:=fun z=>(hch c z).2.2.1 x c e rfl
  by_cases hc:c∈X.fs
  ·obtain⟨sl,q⟩:=slot c o (I.Fi x c e) hc ME ho (I.gv x c e)
   exact⟨_,q,hd⟩
  ·exact⟨o,keep c o (I.Fi x c e) hc ME ho (I.gv x c e),hd⟩
 refine⟨I.ok,I.os,hg,⟨fun b o e n hb hx=>?_,fun b o e n hb hx=>?_,fun b o e n hx=>?_,fun b o e hx=>?_,fun b xs e=>tups b xs (I.base.tups b xs e),fun b o xs e=>j3 b o xs (I.base.j3 b o xs e),fun b ps e=>?_⟩,?_,fun x c e=>?_,?_,fun x c e=>?_,fun p hp=>?_,hok,I.len⟩
 ·exact keep b o (YX b o e) hb (Wd b o e hx) (I.base.keep b o e n hb hx) (I.base.free b o e n hx)
 ·obtain⟨sl,e1⟩:=I.base.slot b o e n hb hx
  obtain⟨sl',e2⟩:=slot b _ (YX b o e) hb (Wd b o e hx) e1 (I.base.free b o e n hx)
  exact⟨sl',e2⟩
 ·obtain⟨o',e1⟩:=I.base.there b o e hx
  exact free b o' (Wd b o e hx) e1 (I.base.free b o e n hx)
 ·obtain⟨o',e1⟩:=I.base.there b o e hx
  exact there b o' (Wd b o e hx) e1
 ·obtain⟨m1,e1⟩:=I.base.kL b ps e
  obtain⟨m2,e2⟩:=kL b _ e1
  exact⟨m1++m2,by rw[e2,Array.append_assoc]⟩
 ·obtain⟨m,hn,hl⟩:=I.loc
  refine⟨m,ns m hn,fun i x v e1 e2 e3=>?_⟩
  obtain⟨u,r,l⟩:=hl i x v e1 e2 e3
  refine⟨u,r,?_⟩
  rcases l with l|⟨k,c,e,z⟩
  ·exact .inl l
  ·exact .inr ⟨k,c,e,cellK x c e _ z⟩
 ·obtain⟨v,z⟩:=I.cell x c e
  exact⟨v,cellK x c e v z⟩
 ·obtain⟨m,⟨o,_,_,ho,_⟩,_⟩:=I.loc
  exact free _ o (fun z=>(hch _ z).2.1 rfl) ho I.free
 ·obtain⟨v,o,ho,hd⟩:=I.cell x c e
  exact free c o (fun z=>(hch c z).2.2.1 x c e rfl) ho (I.gv x c e)
 ·obtain⟨e,n,ne,nf,d⟩:=I.pin p hp
  have ME:p.1∉ch:=fun z=>(hch p.1 z).2.2.2 p hp rfl
  exact⟨keep p.1 p.2 ne nf ME e n,free p.1 p.2 ME e n,ne,nf,d⟩
theorem Inv.un{t':Nat}(I:Inv X pins σ H s)(u:Un X.fs [] H H' s.heap h')(hok:lE X.prog X.w H' h'):Inv X pins σ H' {s with heap:=h',toks:=t'}:=by
 obtain⟨m,⟨o,es,ep,ho,r⟩,_⟩:=id I.loc
 obtain⟨sl,hL⟩:=u.any ho I.free (by simp)
 exact I.step (g':=s.gens) (d':=s.drawn) (ch:=[]) (fun _ z=>nomatch z) (fun b o _ hb _ e n=>u.keep b o e n hb (by simp)) (fun b o _ hb _ e n=>u.slot b o e n hb (by simp)) (fun b o _ e n=>u.free b o e n (by simp)) (fun b o _ e=>u.there b o e (by simp)) u.tups u.j3 u.kL (fun m' hm=>by
  obtain⟨o',es',WC,ho',r'⟩:=hm
  rw[ho]at ho';cases ho'
  exact⟨_,es',WC,hL,r'⟩) hok I.bare
theorem Inv.call{g':Array GenState}{t':Nat}{d':Drawn}{ch:List Addr}(I:Inv X pins σ H s)(u:Un (frs X.stack) ch H H' s.heap h')(hok:lE X.prog X.w H' h')(hg:AllBare g')
 (hch:∀b∈ch,(b∈X.ex\/X.s₀.heap.objs.size<=b)/\b≠X.env.locals/\(∀x c,X.env.cells.lookup x=some c->c≠b)/\∀p∈X.pn++pins,p.1≠b):
 Inv X pins σ H' {s with heap:=h',gens:=g',drawn:=d',toks:=t'}:=by
 obtain⟨m,⟨o,es,ep,ho,r⟩,_⟩:=id I.loc
 obtain⟨sl,hL⟩:=u.any ho I.free fun z=>(hch _ z).2.1 rfl
 exact I.step (ch:=ch) hch (fun b o hL hb hc e n=>u.keep b o e n (fun z=>(Fu.mp (I.zI b z)).elim hL hb) hc) (fun b o _ _ hc e n=>u.any e n hc) (fun b o hc e n=>u.free b o e n hc) (fun b o hc e=>u.there b o e hc) u.tups u.j3 u.kL (fun m' hm=>by
  obtain⟨o',es',WC,ho',r'⟩:=hm
  rw[ho]at ho';cases ho'
  exact⟨_,es',WC,hL,r'⟩) hok hg
theorem Inv.turned{t':Nat}{it:Addr}(I:Inv X pins σ H s)(k:∀b o,b≠it->s.heap.get? b=some o->h'.get? b=some o)(hn:H it=none)(hL:it≠X.env.locals)
 (h1:it∈X.ex\/X.s₀.heap.objs.size<=it) (h2:∀x c,X.env.cells.lookup x=some c->c≠it) (h3:∀p∈X.pn++pins,p.1≠it):Inv X pins σ H {s with heap:=h',toks:=t'}:=by
 have YY:∀b u,H b=some u->b≠it:=fun b u e z=>by rw[z,hn]at e;cases e
 refine I.step (g':=s.gens) (d':=s.drawn) (ch:=[it]) (fun b hb=>?_) (fun b o _ _ hc e _=>k b o (fun z=>hc (by simp[z])) e) (fun b o _ _ hc e _=>⟨o.slots,k b o (fun z=>hc (by simp[z])) e⟩) (fun _ _ _ _ n=>n)
  (fun b o hc e=>⟨o,k b o (fun z=>hc (by simp[z])) e⟩) (fun _ _ e=>e) (fun _ _ _ e=>e) (fun b ps e=>⟨#[],by rw[e];simp⟩) (fun m hm=>?_) (fun b u e=>?_) I.bare
 ·have e:b=it:=by simpa using hb
  subst e
  exact⟨h1,hL,h2,h3⟩
 ·obtain⟨o,es,ep,ho,r⟩:=hm
  exact⟨o,es,ep,k _ o (Qb hL) ho,r⟩
 ·refine(I.hok b u e).stay (fun c v hc q=>k c v ?_ q) (fun _ q=>q) fun _ _ q=>q
  rcases hc with z|z
  ·rw[z];exact YY b u e
  ·exact YY c _ z
theorem Inv.tok(I:Inv X pins σ H s)(t:Nat):Inv X pins σ H {s with toks:=t}:=I.un (h':=s.heap) (t':=t) Un.refl I.hok
theorem Inv.kept{t':Nat}(I:Inv X pins σ H s)(k:∀b u,s.heap.get? b=some u->h'.get? b=some u):Inv X pins σ H {s with heap:=h',toks:=t'}:=I.un (Un.kept k) (I.hok.kept k)
theorem Inv.laid{a:Addr}{o:HO}{t':Nat}(I:Inv X pins σ H s)(k:∀b u,s.heap.get? b=some u->h'.get? b=some u)(hp:s.heap.objs.size<=a)(new:bW X.prog X.w (upd H a o) h' a o):
 Inv X pins σ (upd H a o) {s with heap:=h',toks:=t'}:=I.un (Un.laid k hp (I.hok.fresh hp)) (I.hok.laid k hp new)
theorem Inv.write{x e:Addr}{o:HO}{t':Nat}(I:Inv X pins σ H s)(mu:Wb (H x))(he:e=x\/H e=some (.own x))(k:∀b u,b≠e->s.heap.get? b=some u->h'.get? b=some u)(Sn:∃u,h'.get? e=some u)
 (new:bW X.prog X.w (upd H x o) h' x o):Inv X pins σ (upd H x o) {s with heap:=h',toks:=t'}:=I.un (Un.write mu he k Sn) (I.hok.write mu he k Sn new)
theorem Inv.Bk{MF:List (Addr×Obj)}(I:Inv X pins σ H s)(h:∀p∈MF,s.heap.get? p.1=some p.2/\H p.1=none/\p.1≠X.env.locals/\p.1∉X.fs/\∀v,p.2.data≠.cell v):Inv X MF σ H s:=
 ⟨I.ok,I.os,I.bare,I.base,I.loc,I.cell,I.free,I.gv,fun p hp=>(GM.mp hp).elim (fun z=>I.pin p (PH _ z)) (h p),I.hok,I.len⟩
theorem pW{N:List Str}(hN:N.Nodup){i j:Nat}{x:Str}(a:N[i]?=some x)(b:N[j]?=some x):i=j:=by
 obtain⟨h1,e1⟩:=Fs.mp a
 obtain⟨h2,e2⟩:=Fs.mp b
 exact(List.getElem_inj hN).mp (e1.trans e2.symm)
theorem tL{M:Model}{A:Around}{E:Value->Shared->Prop}{i:Nat}{x:Str}{v:V}{u:Value}{Q:Unit->Shared->Prop}(I:Inv X pins σ H s)(hN:X.N.Nodup)(hi:X.N[i]?=some x)(hx:Loc X.env.scope x)(r:RelV v u)
 (h:∀s',Inv X pins (σ.set i (some v)) H s'->(∃a,Heap.SameBut a s.heap s'.heap/\(a=X.env.locals\/X.env.cells.lookup x=some a))->Q () s') (hf:X.fn x=true\/X.env.scope.names.lookup x=some .local:=by first|exact .inl rfl|exact .inr rfl|assumption):wpAny M A (storeName X.env x u) Q E s:=by
 obtain⟨m,hn,hl⟩:=id I.loc
 have hcls:(X.env.scope.kind==.class||(X.env.scope.kind==.module&&X.env.locals !=X.env.globals))=false:=by rw[I.ok.kind];rfl
 have Jp:i<σ.length:=by rw[I.len];exact(Fs.mp hi).1
 have Fi:=I.Fi
 have tracked:∀{a:Addr} {h':Heap},(∃o,s.heap.get? a=some o/\H a=none)->Heap.SameBut a s.heap h'->lE X.prog X.w H h':=fun{a h'} ha hs b ob e=>by
  obtain⟨_,_,hfree⟩:=ha
  refine(I.hok b ob e).stay (fun c w' hc q=>(hs.2 c ?_).trans q) (fun _ q=>q) fun _ _ q=>q
  rintro rfl
  rcases hc with rfl|hc
  ·rw[hfree]at e;cases e
  ·rw[hfree]at hc;cases hc
 rcases hx with hk|hk
 ·refine wpAny_storeName_local hk hn (fun h' hn' hs=>?_) hcls
  obtain⟨oL,_,_,YZ,_⟩:=id hn
  refine h _ ⟨I.ok,I.os,I.bare,⟨fun b o e n hb hx=>?_,fun b o e n hb hx=>?_,I.base.free,fun b o e hx=>?_,I.base.tups,I.base.j3,I.base.kL⟩,⟨_,hn',fun j y v' e1 e2 e3=>?_⟩,fun y c e=>?_,I.free,I.gv,fun p hp=>?_,tracked ⟨oL,YZ,I.free⟩ hs,by simpa using I.len⟩ ⟨_,hs,.inl rfl⟩
  ·exact(hs.2 b (Jn (GE (FR e) I.ok.above))).trans (I.base.keep b o e n hb hx)
  ·obtain⟨sl,e1⟩:=I.base.slot b o e n hb hx
   exact⟨sl,(hs.2 b (Jn (GE (FR e) I.ok.above))).trans e1⟩
  ·obtain⟨o',e1⟩:=I.base.there b o e hx
   exact⟨o',(hs.2 b (Jn (GE (FR e) I.ok.above))).trans e1⟩
  ·by_cases hj:j=i
   ·subst hj
    rw[hi]at e1;cases e1
    rw[Pt Jp]at e2
    cases e2
    exact⟨u,r,.inl ⟨hk,by simp⟩⟩
   ·rw[Kx (Qb hj)]at e2
    obtain⟨u',r',q⟩:=hl j y v' e1 e2 e3
    refine⟨u',r',?_⟩
    rcases q with⟨k,e⟩|⟨k,c,e,z⟩
    ·refine .inl ⟨k,?_⟩
     have:y≠x:=fun e=>hj (pW hN e1 (e▸hi))
     simp[this,e]
    ·exact .inr ⟨k,c,e,z.sameBut hs (Fi y c e)⟩
  ·obtain⟨w',z⟩:=I.cell y c e
   exact⟨w',z.sameBut hs (Fi y c e)⟩
  ·obtain⟨e,n,ne,nf,d⟩:=I.pin p hp
   exact⟨(hs.2 p.1 ne).trans e,n,ne,nf,d⟩
 ·have hfn:X.fn x=true:=by
   rcases hf with z|z
   ·exact z
   ·rw[z]at hk;cases hk
  obtain⟨c,hc⟩:=I.ok.has x (.inl hk)
  obtain⟨w',z⟩:=I.cell x c hc
  refine wpAny_storeName_cell I.ok.kind hk hc z (fun h' hc' hs=>?_)
  obtain⟨oc,hoc,WD⟩:=id z
  refine h {s with heap:=h'} ⟨I.ok,I.os,I.bare,⟨fun b o e n hb hx=>?_,fun b o e n hb hx=>?_,I.base.free,fun b o e hx=>?_,I.base.tups,I.base.j3,I.base.kL⟩,⟨m,hn.sameBut hs (Qb (Fi x c hc)),fun j y v' e1 e2 e3=>?_⟩,fun y c' e=>?_,I.free,I.gv,fun p hp=>?_,tracked ⟨oc,hoc,I.gv x c hc⟩ hs,by simpa using I.len⟩ ⟨c,hs,.inr hc⟩
  ·exact(hs.2 b (Jn (GE (FR e) (I.ok.Sq x c hfn hc)))).trans (I.base.keep b o e n hb hx)
  ·obtain⟨sl,e1⟩:=I.base.slot b o e n hb hx
   exact⟨sl,(hs.2 b (Jn (GE (FR e) (I.ok.Sq x c hfn hc)))).trans e1⟩
  ·obtain⟨o',e1⟩:=I.base.there b o e hx
   exact⟨o',(hs.2 b (Jn (GE (FR e) (I.ok.Sq x c hfn hc)))).trans e1⟩
  ·by_cases hj:j=i
   ·subst hj
    rw[hi]at e1;cases e1
    rw[Pt Jp]at e2
    cases e2
    exact⟨u,r,.inr ⟨.inl hk,c,hc,hc'⟩⟩
   ·rw[Kx (Qb hj)]at e2
    obtain⟨u',r',q⟩:=hl j y v' e1 e2 e3
    refine⟨u',r',?_⟩
    rcases q with q|⟨k,c',e,z'⟩
    ·exact .inl q
    ·refine .inr ⟨k,c',e,z'.sameBut hs ?_⟩
     rintro rfl
     exact hj (pW hN e1 (I.ok.inj _ _ _ e hc▸hi))
  ·by_cases hcc:c'=c
   ·subst hcc;exact⟨_,hc'⟩
   ·obtain⟨w2,z2⟩:=I.cell y c' e
    exact⟨w2,z2.sameBut hs hcc⟩
  ·obtain⟨e,n,ne,nf,d⟩:=I.pin p hp
   refine⟨(hs.2 p.1 ?_).trans e,n,ne,nf,d⟩
   intro q
   rw[q,hoc]at e
   have q':oc=p.2:=Kb e
   exact d w' (by rw[←q'];exact WD)
theorem eN{M:Model}{A:Around}{E:Value->Shared->Prop}{i:Nat}{x:Str}{v:V}{u:Value}{Q:Unit->Shared->Prop}(I:Inv X pins σ H s)(hN:X.N.Nodup)(hi:X.N[i]?=some x)(hx:Loc X.env.scope x)(r:RelV v u)
 (h:∀s',Inv X pins (σ.set i (some v)) H s'->Q () s') (hf:X.fn x=true\/X.env.scope.names.lookup x=some .local:=by first|exact .inl rfl|exact .inr rfl|assumption):wpAny M A (storeName X.env x u) Q E s:=
 tL I hN hi hx r (fun s' I' _=>h s' I') hf
theorem Inv.Bl{s':Shared}{ch:List Addr}(I:Inv X pins σ H s)(ho:s'.os=s.os)(u:Un (frs X.stack) ch H H' s.heap s'.heap)(hok:lE X.prog X.w H' s'.heap)(hg:AllBare s'.gens)
 (hch:∀b∈ch,(b∈X.ex\/X.s₀.heap.objs.size<=b)/\b≠X.env.locals/\(∀x c,X.env.cells.lookup x=some c->c≠b)/\∀p∈X.pn++pins,p.1≠b):Inv X pins σ H' s':=by
 obtain⟨h',g',d',t',o'⟩:=s'
 have e:o'=s.os:=ho
 subst e
 exact I.call (g':=g') (t':=t') (d':=d') u hok hg hch
end
abbrev XK:=Value->Option Addr->Hp->Prop
abbrev St:=List (Option V)
abbrev VK:=V->Hp->Prop
abbrev TE:=St->Hp->VK->Prop
abbrev TT:=St->Hp->(Bool->Hp->Prop)->Prop
abbrev TA:=St->Hp->(List V->Hp->Prop)->Prop
set_option genInjectivity false in
set_option genSizeOf false in
structure Ends where
 nx:St->Hp->Prop
 rt:VK
 bk:St->Hp->Prop:=fun _ _=>False
 ct:St->Hp->Prop:=fun _ _=>False
abbrev TS:=Ends->St->Hp->Prop
noncomputable def EP(X:Cx)(pins:List (Addr×Obj))(σ:St)(Q:VK)(u:Value)(s':Shared):Prop:=∃v H',Inv X pins σ H' s'/\RelV v u/\Q v H'
noncomputable def TP(X:Cx)(pins:List (Addr×Obj))(σ:St)(Q:Bool->Hp->Prop)(b:Bool)(s':Shared):Prop:=∃H',Inv X pins σ H' s'/\Q b H'
noncomputable def AP(X:Cx)(pins:List (Addr×Obj))(σ:St)(Q:List V->Hp->Prop)(us:List Value)(s':Shared):Prop:=∃vs H',Inv X pins σ H' s'/\Vals vs us/\Q vs H'
noncomputable def SP(X:Cx)(pins:List (Addr×Obj))(D:Ends)(f:Flow)(s':Shared):Prop:=
 match f with
 |.next=>∃σ' H',Inv X pins σ' H' s'/\D.nx σ' H'
 |.brk=>∃σ' H',Inv X pins σ' H' s'/\D.bk σ' H'
 |.cont=>∃σ' H',Inv X pins σ' H' s'/\D.ct σ' H'
 |.ret u=>∃v σ' H',Inv X pins σ' H' s'/\RelV v u/\D.rt v H'
noncomputable def PE(X:Cx)(e:Expr)(t:TE):Prop:=
 ∀(pins:List (Addr×Obj)) (s:Shared) (σ:St) (H:Hp) (Q:VK),Inv X pins σ H s->t σ H Q->wpAny (model X.prog X.w) X.A (eval e X.env) (EP X pins σ Q) X.xe s
noncomputable def PT(X:Cx)(e:Expr)(t:TT):Prop:=
 ∀(pins:List (Addr×Obj)) (s:Shared) (σ:St) (H:Hp) (Q:Bool->Hp->Prop),Inv X pins σ H s->t σ H Q->wpAny (model X.prog X.w) X.A (isTrue e X.env (eval e X.env)) (TP X pins σ Q) X.xe s
noncomputable def PW(X:Cx)(e:Expr)(t:TT):Prop:=
 ∀(whole:Sem Value) (pins:List (Addr×Obj)) (s:Shared) (σ:St) (H:Hp) (Q:Bool->Hp->Prop),Inv X pins σ H s->t σ H Q->wpAny (model X.prog X.w) X.A (isTrue e X.env whole) (TP X pins σ Q) X.xe s
theorem PW.pt{X:Cx}{e:Expr}{t:TT}(h:PW X e t):PT X e t:=h _
noncomputable def PA(X:Cx)(es:List Expr)(t:TA):Prop:=
 ∀(pos:Pos) (pins:List (Addr×Obj)) (s:Shared) (σ:St) (H:Hp) (Q:List V->Hp->Prop),Inv X pins σ H s->t σ H Q->wpAny (model X.prog X.w) X.A (spliced (backTo pos (starEach es X.env))) (AP X pins σ Q) X.xe s
noncomputable def PS(X:Cx)(st:Stmt)(t:TS):Prop:=
 ∀(pins:List (Addr×Obj)) (s:Shared) (σ:St) (H:Hp) (D:Ends),Inv X pins σ H s->t D σ H->wpAny (model X.prog X.w) X.A (exec st X.env) (SP X pins D) X.xe s
noncomputable def sI(X:Cx)(st:List Stmt)(t:TS):Prop:=
 ∀(pins:List (Addr×Obj)) (s:Shared) (σ:St) (H:Hp) (D:Ends),Inv X pins σ H s->t D σ H->wpAny (model X.prog X.w) X.A (execs st X.env) (SP X pins D) X.xe s
theorem bE{α:Type}{t:Sem α}{Q Q':α->Shared->Prop}{M:Model}{A:Around}{E:Value->Shared->Prop}{s:Shared}(h:wpAny M A t Q E s)(hQ:∀a s,Q a s->Q' a s):wpAny M A t Q' E s:=X1 h hQ fun _ _ x=>x
section
variable{X:Cx}
theorem bin{a b:Expr}{ta tb:TE}(ha:PE X a ta)(hb:PE X b tb){pins:List (Addr×Obj)}{s:Shared}{σ:St}{H:Hp}{R:V->V->Hp->Prop}(I:Inv X pins σ H s)(h:ta σ H fun x H1=>tb σ H1 fun y H2=>R x y H2)
 {α:Type} {Q:α->Shared->Prop} {f:Value->Value->Sem α}
 (hf:∀v u s2 x y H2,Inv X pins σ H2 s2->RelV x v->RelV y u->R x y H2->wpAny (model X.prog X.w) X.A (f v u) Q X.xe s2):
 wpAny (model X.prog X.w) X.A (eval a X.env) (fun v s₁=>wpAny (model X.prog X.w) X.A (eval b X.env) (fun u s₂=>wpAny (model X.prog X.w) X.A (f v u) Q X.xe s₂) X.xe s₁) X.xe s:=by
 refine bE (ha pins s σ H _ I h) ?_
 rintro v s1 ⟨x,H1,I1,r1,q1⟩
 refine bE (hb pins s1 σ H1 _ I1 q1) ?_
 rintro u s2 ⟨y,H2,I2,r2,q2⟩
 exact hf v u s2 x y H2 I2 r1 r2 q2
noncomputable def nA(i:Nat):TE:=fun σ H Q=>∃v,σ[i]?=some (some v)/\Q v H
noncomputable def tC(v:V):TE:=fun _ H Q=>Q v H
theorem Fj{i:Nat}{x:Str}{pos:Pos}(hN:X.N[i]?=some x)(hv:So X.env.scope x)(hd:(x==("__debug__":Str))=false:=by decide)(hcd:(x==("__classdict__":Str))=false:=by decide):PE X (.Name x pos) (nA i):=by
 intro pins s σ H Q I h
 obtain⟨v,e,h⟩:=h
 obtain⟨m,hn,hl⟩:=I.loc
 obtain⟨u,r,l⟩:=hl i x v hN e hv
 have fin:EP X pins σ Q u s:=⟨v,H,I,r,h⟩
 rcases l with⟨hk,hm⟩|⟨hk,c,hc,hcell⟩
 ·exact wpAny_Name (wpAny_loadName_local I.ok.kind hk hn hm fin) hd
 ·rcases hk with hk|hk
  ·exact wpAny_Name (wpAny_loadName_cell I.ok.kind hk hc hcell fin) hd
  ·exact wpAny_Name (wpAny_loadName_free I.ok.kind hk hc hcell fin hcd) hd
theorem iP{i j pos}:PE X (.Constant (.int i) j pos) (tC (.int i)):=fun _ _ _ H _ I h=>wpAny_Constant_int ⟨.int i,H,I.tok _,⟨_,rfl⟩,h⟩
theorem Tj{b j pos}:PE X (.Constant (.bool b) j pos) (tC (.bl b)):=fun _ _ _ H _ I h=>Constant_bool ⟨.bl b,H,I,rfl,h⟩
theorem zJ{j pos}:PE X (.Constant .none j pos) (tC .aU):=fun _ _ _ H _ I h=>Constant_none ⟨.aU,H,I,rfl,h⟩
theorem NS{x j pos}:PE X (.Constant (.str x) j pos) (tC (.str x)):=fun _ _ _ H _ I h=>Calls.Constant_str ⟨.str x,H,I.tok _,⟨_,rfl⟩,h⟩
noncomputable def Gl(X:Cx)(x:Str):Prop:=X.env.kindOf x=some .globalImplicit
theorem gw{E:Value->Shared->Prop}{pins:List (Addr×Obj)}{s:Shared}{σ:St}{H:Hp}{x:Str}{u:Value}{pos:Pos}{Q:Value->Shared->Prop}(I:Inv X pins σ H s)(hg:Gl X x)(hm:X.mg x=some u)(h:Q u s)
 (hd:(x==("__debug__":Str))=false:=by decide):wpAny (model X.prog X.w) X.A (eval (.Name x pos) X.env) Q E s:=
 Calls.Name_function_global I.ok.kind hg (Calls.loadGlobal_global (by rw[I.ok.glob];exact I.mod.glob.keeps I.bk) hm h) hd
theorem gE{E:Value->Shared->Prop}{pins:List (Addr×Obj)}{s:Shared}{σ:St}{H:Hp}{x:Str}{u:Value}{pos:Pos}{Q:Value->Shared->Prop}(I:Inv X pins σ H s)(hg:Gl X x)(hm:X.mg x=none)(hv:bootBuiltins x=some u)(h:Q u s)
 (hn:x≠"__name__":=by decide) (hd:(x==("__debug__":Str))=false:=by decide):wpAny (model X.prog X.w) X.A (eval (.Name x pos) X.env) Q E s:=by
 obtain⟨mb,h1,h2⟩:=I.mod.blt
 exact Calls.Name_function_global I.ok.kind hg (Calls.loadGlobal_builtin (by rw[I.ok.glob];exact I.mod.glob.keeps I.bk) hm (by rw[I.ok.blt];exact h1.keeps I.bk) ((h2 x hn).trans hv) h) hd
theorem gx{x:Str}{v:V}{u:Value}{pos:Pos}(hg:Gl X x)(hm:X.mg x=some u)(r:RelV v u)(hd:(x==("__debug__":Str))=false:=by decide):PE X (.Name x pos) (tC v):=
 fun _ _ _ H _ I h=>gw I hg hm ⟨v,H,I,r,h⟩ hd
theorem Bm{x:Str}{v:V}{u:Value}{pos:Pos}(hg:Gl X x)(hm:X.mg x=none)(hv:bootBuiltins x=some u)(r:RelV v u)(hn:x≠"__name__":=by decide)(hd:(x==("__debug__":Str))=false:=by decide):PE X (.Name x pos) (tC v):=
 fun _ _ _ H _ I h=>gE I hg hm hv ⟨v,H,I,r,h⟩ hn hd
variable{a b:Expr}{ta tb:TE}{pos:Pos}
noncomputable def tB(t:TE):TT:=fun σ H Q=>t σ H fun x H1=>∃c,x=.bl c/\Q c H1
theorem NT{e:Expr}{t:TE}(h:PE X e t)(he:∀whole,isTrue e X.env whole=(do let v←whole;standAt e.pos;holding [v] (truthy v)):=by intro _;rfl):PT X e (tB t):=by
 intro pins s σ H Q I hw
 refine isTrue_plain (bE (h pins s σ H _ I hw) fun v s1 ⟨x,H1,I1,r1,q1⟩=>?_) (he _)
 obtain⟨d,rfl,q⟩:=q1
 cases r1
 exact wpAny_truthy_bool ⟨H1,I1,q⟩
variable{tA We:TT}{rest:List Expr}
noncomputable def WE(t u:TT):TT:=fun σ H Q=>t σ H fun c H1=>if c=true then u σ H1 Q else Q false H1
noncomputable def tOr(t u:TT):TT:=fun σ H Q=>t σ H fun c H1=>if c=true then Q true H1 else u σ H1 Q
noncomputable def WG(t:TT):TT:=fun σ H Q=>t σ H fun c H1=>Q (!c) H1
theorem Jq(ha:PT X a tA):PW X (.BoolOp .And [a] pos) tA:=by
 intro wh pins s σ H Q I h
 refine isTrue_and (bE (ha pins s σ H Q I h) fun c s1 e=>?_)
 cases c with
 |true=>exact isTrue_and_nil e
 |false=>exact e
theorem NU(ha:PT X a tA):PW X (.BoolOp .Or [a] pos) tA:=by
 intro wh pins s σ H Q I h
 refine isTrue_or (bE (ha pins s σ H Q I h) fun c s1 e=>?_)
 cases c with
 |false=>exact isTrue_or_nil e
 |true=>exact e
theorem NV(ha:PT X a tA)(hb:PW X (.BoolOp .And (b::rest) pos) We):PW X (.BoolOp .And (a::b::rest) pos) (WE tA We):=by
 intro wh pins s σ H Q I h
 refine isTrue_and (bE (ha pins s σ H _ I h) fun c s1 ⟨H1,I1,q1⟩=>?_)
 cases c with
 |true=>exact hb wh pins s1 σ H1 Q I1 q1
 |false=>exact⟨H1,I1,q1⟩
theorem To(ha:PT X a tA)(hb:PW X (.BoolOp .Or (b::rest) pos) We):PW X (.BoolOp .Or (a::b::rest) pos) (tOr tA We):=by
 intro wh pins s σ H Q I h
 refine isTrue_or (bE (ha pins s σ H _ I h) fun c s1 ⟨H1,I1,q1⟩=>?_)
 cases c with
 |true=>exact⟨H1,I1,q1⟩
 |false=>exact hb wh pins s1 σ H1 Q I1 q1
theorem NW(ha:PT X a tA):PT X (.UnaryOp .Not a pos) (WG tA):=by
 intro pins s σ H Q I h
 exact isTrue_not (ha pins s σ H (fun c H1=>Q (!c) H1) I h)
noncomputable def Tp(ta tb:TE):TE:=fun σ H Q=>ta σ H fun x H1=>∃c,x=.bl c/\if c=true then tb σ H1 Q else Q (.bl false) H1
noncomputable def WH(ta tb:TE):TE:=fun σ H Q=>ta σ H fun x H1=>∃c,x=.bl c/\if c=true then Q (.bl true) H1 else tb σ H1 Q
noncomputable def Tq(ta:TE):TE:=fun σ H Q=>ta σ H fun x H1=>∃c,x=.bl c/\Q (.bl (!c)) H1
theorem uL{op}{t:TE}(h:PE X a t):PE X (.BoolOp op [a] pos) t:=fun pins s σ H Q I hw=>BoolOp_one (h pins s σ H Q I hw)
theorem zK(ha:PE X a ta)(hb:PE X (.BoolOp .And (b::rest) pos) tb):PE X (.BoolOp .And (a::b::rest) pos) (Tp ta tb):=by
 intro pins s σ H Q I h
 refine BoolOp_and (bE (ha pins s σ H _ I h) fun v s1 ⟨x,H1,I1,r1,q1⟩=>?_)
 obtain⟨c,rfl,q1⟩:=q1
 cases r1
 refine wpAny_truthy_bool ?_
 cases c with
 |true=>exact hb pins s1 σ H1 Q I1 q1
 |false=>exact⟨.bl false,H1,I1,rfl,q1⟩
theorem Tr(ha:PE X a ta)(hb:PE X (.BoolOp .Or (b::rest) pos) tb):PE X (.BoolOp .Or (a::b::rest) pos) (WH ta tb):=by
 intro pins s σ H Q I h
 refine BoolOp_or (bE (ha pins s σ H _ I h) fun v s1 ⟨x,H1,I1,r1,q1⟩=>?_)
 obtain⟨c,rfl,q1⟩:=q1
 cases r1
 refine wpAny_truthy_bool ?_
 cases c with
 |false=>exact hb pins s1 σ H1 Q I1 q1
 |true=>exact⟨.bl true,H1,I1,rfl,q1⟩
theorem NX(ha:PE X a ta):PE X (.UnaryOp .Not a pos) (Tq ta):=by
 intro pins s σ H Q I h
 refine UnaryOp_ (bE (ha pins s σ H _ I h) fun v s1 ⟨x,H1,I1,r1,q1⟩=>?_)
 obtain⟨c,rfl,q1⟩:=q1
 cases r1
 exact not_of (wpAny_truthy_bool ⟨.bl (!c),H1,I1,rfl,q1⟩)
noncomputable def tIf(t:TT)(ta tb:TE):TE:=fun σ H Q=>t σ H fun c H1=>if c=true then ta σ H1 Q else tb σ H1 Q
theorem Fl{c:Expr}(hc:PT X c tA)(ha:PE X a ta)(hb:PE X b tb):PE X (.IfExp c a b pos) (tIf tA ta tb):=by
 intro pins s σ H Q I h
 refine wpAny_IfExp (bE (hc pins s σ H _ I h) fun d s1 ⟨H1,I1,q1⟩=>?_)
 cases d with
 |true=>exact ha pins s1 σ H1 Q I1 q1
 |false=>exact hb pins s1 σ H1 Q I1 q1
end
noncomputable def ir(K:PySem.W.Frag)(H:Hp)(a:Addr)(xs:List V):Prop:=
 Rd H a (.lst xs)\/
  ∃(o:Obj) (its:Array Value) (n:Nat),K.lookup a=some o/\o.cls=.type "list"/\o.dict=none/\o.data=.seq its n/\its.size<=sizeLine/\Vals xs its.toList
noncomputable def lG(K:PySem.W.Frag)(H:Hp)(a:Addr)(xs:List V):Prop:=
 Rd H a (.tup xs)\/
  ∃(o:Obj) (its:Array Value) (n:Nat),K.lookup a=some o/\o.cls=.type "tuple"/\o.data=.seq its n/\its.size<=sizeLine/\Vals xs its.toList
noncomputable def WI:Value->Option V
 |.none=>some .aU
 |.bool b=>some (.bl b)
 |.int i _=>some (.int i)
 |.str x _=>some (.str x)
 |.bytes b _=>some (.E3 b)
 |.float b _=>some (.NQ b)
 |.ref a=>some (.ref a)
 |.type n=>some (.ty n)
 |_=>none
theorem RelV.abs{x:V}{u:Value}(r:RelV x u):WI u=some x:=by
 cases x with
 |aU=>cases r;rfl
 |bl _=>cases r;rfl
 |int _=>obtain⟨t,rfl⟩:=r;rfl
 |str _=>obtain⟨t,rfl⟩:=r;rfl
 |E3 _=>obtain⟨t,rfl⟩:=r;rfl
 |NQ _=>obtain⟨t,rfl⟩:=r;rfl
 |ref _=>cases r;rfl
 |ty _=>cases r;rfl
theorem RelV.inj{x y:V}{u:Value}(r:RelV x u)(q:RelV y u):x=y:=Kb (r.abs.symm.trans q.abs)
theorem Vals.inj:∀{xs ys:List V} {us:List Value},Vals xs us->Vals ys us->xs=ys
 |_,_,_,.nil,.nil=>rfl
 |_,_,_,.cons r t,.cons r' t'=>by rw[r.inj r',Vals.inj t t']
section
variable{X:Cx}{pins:List (Addr×Obj)}{σ:St}{H:Hp}{s:Shared}{a:Addr}{xs ys:List V}
theorem ir.of{K:PySem.W.Frag}(h:H a=some (.lst xs)):ir K H a xs:=.inl (.inl h)
theorem lG.of{K:PySem.W.Frag}(h:H a=some (.tup xs)):lG K H a xs:=.inl (.inl h)
theorem Inv.list(I:Inv X pins σ H s)(h:ir X.K H a xs):∃its:List Value,Vals xs its/\PlainL s.heap a its.toArray/\xs.length<=sizeLine:=by
 rcases h with h|⟨o,its,n,hk,hc,hd,hs,hz,r⟩
 ·obtain⟨z,its,n,r,e⟩:=h.ok I.hok
  exact⟨its,r,⟨_,n,e,rfl,rfl,rfl⟩,z⟩
 ·refine⟨its.toList,r,⟨o,n,I.j6 a o hk,hc,hd,by simpa using hs⟩,?_⟩
  have e:=r.length
  simp only[Array.length_toList]at e
  lia
theorem Inv.tuple(I:Inv X pins σ H s)(h:lG X.K H a xs):∃its:List Value,Vals xs its/\IsTup s.heap a its.toArray/\xs.length<=sizeLine:=by
 rcases h with h|⟨o,its,n,hk,hc,hs,hz,r⟩
 ·obtain⟨z,its,r,p⟩:=h.ok I.hok
  exact⟨its,r,p,z⟩
 ·refine⟨its.toList,r,⟨o,I.j6 a o hk,hc,n,by simpa using hs⟩,?_⟩
  have e:=r.length
  simp only[Array.length_toList]at e
  lia
theorem Inv.pX(I:Inv X pins σ H s)(h:ir X.K H a xs)(h':ir X.K H a ys):xs=ys:=by
 obtain⟨its,r,⟨o,n,e,_,_,d⟩,_⟩:=I.list h
 obtain⟨its',r',⟨o',n',e',_,_,d'⟩,_⟩:=I.list h'
 rw[e]at e';cases e'
 rw[d]at d'
 injection d' with d1 _
 have:its=its':=by simpa using TB Array.toList d1
 subst this
 exact r.inj r'
theorem Inv.Dk(I:Inv X pins σ H s)(h:lG X.K H a xs)(h':lG X.K H a ys):xs=ys:=by
 obtain⟨its,r,⟨o,e,_,n,d⟩,_⟩:=I.tuple h
 obtain⟨its',r',⟨o',e',_,n',d'⟩,_⟩:=I.tuple h'
 rw[e]at e';cases e'
 rw[d]at d'
 injection d' with d1 _
 have:its=its':=by simpa using TB Array.toList d1
 subst this
 exact r.inj r'
end
abbrev Cx.oQ(X:Cx)(E:Value->Shared->Prop):Cx:={X with xe:=E}
abbrev Cx.nB(X:Cx):Cx:=X.oQ fun _ _=>False
theorem Cx.Ok.oQ{X:Cx}(ok:X.Ok)(E:Value->Shared->Prop):(X.oQ E).Ok:=
 ⟨ok.mod,ok.kind,ok.glob,ok.blt,ok.above,ok.inj,ok.has,ok.Sq,ok.hd,ok.frames,ok.stk,ok.Ti,ok.bs,ok.IZ,ok.Di,ok.zH,ok.ny,ok.MD⟩
theorem Cx.Ok.gF{X:Cx}{E:Value->Shared->Prop}(ok:(X.oQ E).Ok):X.Ok:=
 ⟨ok.mod,ok.kind,ok.glob,ok.blt,ok.above,ok.inj,ok.has,ok.Sq,ok.hd,ok.frames,ok.stk,ok.Ti,ok.bs,ok.IZ,ok.Di,ok.zH,ok.ny,ok.MD⟩
section
variable{X:Cx}{pins:List (Addr×Obj)}{σ:St}{H:Hp}{s:Shared}{E:Value->Shared->Prop}
theorem Inv.oQ(I:Inv X pins σ H s)(E:Value->Shared->Prop):Inv (X.oQ E) pins σ H s:=⟨I.ok.oQ E,I.os,I.bare,I.base,I.loc,I.cell,I.free,I.gv,I.pin,I.hok,I.len⟩
theorem Inv.gF(I:Inv (X.oQ E) pins σ H s):Inv X pins σ H s:=⟨I.ok.gF,I.os,I.bare,I.base,I.loc,I.cell,I.free,I.gv,I.pin,I.hok,I.len⟩
theorem SP.gF{D:Ends}{f:Flow}{s':Shared}(h:SP (X.oQ E) pins D f s'):SP X pins D f s':=by
 cases f with
 |next=>obtain⟨σ',H',I,q⟩:=h;exact⟨σ',H',I.gF,q⟩
 |brk=>obtain⟨σ',H',I,q⟩:=h;exact⟨σ',H',I.gF,q⟩
 |cont=>obtain⟨σ',H',I,q⟩:=h;exact⟨σ',H',I.gF,q⟩
 |ret u=>obtain⟨v,σ',H',I,r,q⟩:=h;exact⟨v,σ',H',I.gF,r,q⟩
theorem sI.nB{st:List Stmt}{t:TS}(h:sI X.nB st t):sI X st t:=fun pins s σ H D I hw=>
 X1 (h pins s σ H D (I.oQ _) hw) (fun _ _ q=>q.gF) fun _ _ z=>False.elim z
end
section
variable{X:Cx}{st:Stmt}{rest:List Stmt}{t u:TS}{e:Expr}{te:TE}{pos:Pos}
noncomputable def Tt:TS:=fun D σ H=>D.nx σ H
noncomputable def WJ(t u:TS):TS:=fun D σ H=>t {D with nx:=u D} σ H
theorem Jr:sI X [] Tt:=fun _ _ σ H _ I h=>wpAny_execs_nil ⟨σ,H,I,h⟩
theorem bU(h1:PS X st t)(h2:sI X rest u):sI X (st::rest) (WJ t u):=by
 intro pins s σ H D I h
 refine wpAny_execs_cons (bE (h1 pins s σ H {D with nx:=u D} I h) fun f s1 q=>?_)
 cases f with
 |next=>
  obtain⟨σ',H',I',q⟩:=q
  exact h2 pins s1 σ' H' D I' q
 |ret v=>exact q
 |brk=>exact q
 |cont=>exact q
theorem lJ(h1:PS X st t):sI X [st] t:=by
 intro pins s σ H D I h
 refine wpAny_execs_cons (bE (h1 pins s σ H D I h) fun f s1 q=>?_)
 cases f with
 |next=>exact wpAny_execs_nil q
 |ret v=>exact q
 |brk=>exact q
 |cont=>exact q
noncomputable def NY:TS:=fun D σ H=>D.bk σ H
theorem Fo:PS X (.Break pos) NY:=fun _ _ σ H _ I h=>wpAny_Break ⟨σ,H,I,h⟩
theorem Inv.quiet{pins:List (Addr×Obj)}{σ:St}{H:Hp}{s:Shared}(I:Inv X pins σ H s):interactive X.env=false:=by simp[interactive,I.ok.kind]
noncomputable def Fq(te:TE):TS:=fun D σ H=>te σ H fun _ H1=>D.nx σ H1
theorem uM(he:PE X e te)(hs:swapsWith e none pos.line X.env=pure false:=by rfl):PS X (.Expr e pos) (Fq te):=by
 intro pins s σ H D I h
 exact wpAny_Expr_any (bE (he pins s σ H _ I h)<|by rintro v s1 ⟨x,H1,I1,r1,q1⟩;exact⟨σ,H1,I1,q1⟩) I.quiet hs
noncomputable def WK(te:TE):TS:=fun D σ H=>te σ H D.rt
theorem pY(he:PE X e te):PS X (.Return (some e) pos) (WK te):=by
 intro pins s σ H D I h
 exact wpAny_Return_some (bE (he pins s σ H _ I h)<|by rintro v s1 ⟨x,H1,I1,r1,q1⟩;exact⟨x,σ,H1,I1,r1,q1⟩)
noncomputable def Tu:TS:=fun D _ H=>D.rt .aU H
theorem Bo:PS X (.Return none pos) Tu:=fun _ _ σ H _ I h=>wpAny_Return_none ⟨.aU,σ,H,I,rfl,h⟩
noncomputable def WL(c:TT)(t u:TS):TS:=fun D σ H=>c σ H fun b H1=>if b=true then t D σ H1 else u D σ H1
theorem Tv{c:Expr}{a b:List Stmt}{tc:TT}(hc:PT X c tc)(ha:sI X a t)(hb:sI X b u):PS X (.If c a b pos) (WL tc t u):=by
 intro pins s σ H D I h
 refine wpAny_If (bE (hc pins s σ H _ I h) fun d s1 ⟨H1,I1,q1⟩=>?_)
 cases d with
 |true=>exact ha pins s1 σ H1 D I1 q1
 |false=>exact hb pins s1 σ H1 D I1 q1
end
abbrev TG:=V->St->Hp->(St->Hp->Prop)->Prop
abbrev Ja:=List V->St->Hp->(St->Hp->Prop)->Prop
noncomputable def PG(X:Cx)(target:Expr)(t:TG):Prop:=
 ∀(pins:List (Addr×Obj)) (s:Shared) (σ:St) (H:Hp) (v:V) (u:Value) (Q:St->Hp->Prop),Inv X pins σ H s->RelV v u->t v σ H Q->
  wpAny (model X.prog X.w) X.A (assign target X.env u) (fun _ s'=>∃σ' H',Inv X pins σ' H' s'/\Q σ' H') X.xe s
noncomputable def Su(X:Cx)(ts:List Expr)(t:Ja):Prop:=
 ∀(pins:List (Addr×Obj)) (s:Shared) (σ:St) (H:Hp) (vs:List V) (us:List Value) (Q:St->Hp->Prop),Inv X pins σ H s->Vals vs us->t vs σ H Q->
  wpAny (model X.prog X.w) X.A (assignInOrder ((assignEach ts X.env).map (·.2)) us) (fun _ s'=>∃σ' H',Inv X pins σ' H' s'/\Q σ' H') X.xe s
abbrev NZ:=V->V->V->Hp->(Hp->Prop)->Prop
noncomputable def Tw(X:Cx)(t:NZ):Prop:=
 ∀(pins:List (Addr×Obj)) (s:Shared) (σ:St) (H:Hp) (o i v:V) (ov iv u:Value) (Q:Hp->Prop),Inv X pins σ H s->RelV o ov->RelV i iv->RelV v u->t o i v H Q->
  wpAny (model X.prog X.w) X.A (setItem ov iv u) (fun _ s'=>∃H',Inv X pins σ H' s'/\Q H') X.xe s
section
variable{X:Cx}{pos:Pos}
noncomputable def iu(i:Nat):TG:=fun v σ H Q=>Q (σ.set i (some v)) H
theorem Bp{i:Nat}{x:Str}(hN:X.N.Nodup)(hi:X.N[i]?=some x)(hx:Loc X.env.scope x)(hf:X.fn x=true\/X.env.scope.names.lookup x=some .local:=by first|exact .inl rfl|exact .inr rfl|assumption):PG X (.Name x pos) (iu i):=by
 intro pins s σ H v u Q I r h
 exact wpAny_assign_Name (eN I hN hi hx r (fun s' I'=>⟨_,H,I',h⟩) hf)
noncomputable def Tz:Ja:=fun vs σ H Q=>vs=[]/\Q σ H
noncomputable def MG(t:TG)(u:Ja):Ja:=fun vs σ H Q=>∃v r,vs=v::r/\t v σ H fun σ' H'=>u r σ' H' Q
theorem Js:Su X [] Tz:=by
 intro pins s σ H vs us Q I r h
 obtain⟨e,h⟩:=h
 subst e
 cases r
 exact assignInOrder_nil ⟨σ,H,I,h⟩
theorem Ft{e:Expr}{es:List Expr}{t:TG}{u:Ja}(h1:PG X e t)(h2:Su X es u)
 (hs:(assignEach (e::es) X.env).map (·.2)=assign e X.env::(assignEach es X.env).map (·.2):=by rfl):Su X (e::es) (MG t u):=by
 intro pins s σ H vs us Q I r h
 obtain⟨v,vr,e1,h⟩:=h
 subst e1
 cases r with
 |cons r rr=>
  rw[hs]
  refine assignInOrder_cons (bE (h1 pins s σ H _ _ _ I r h) fun _ s1 ⟨σ1,H1,I1,q1⟩=>?_)
  exact h2 pins s1 σ1 H1 _ _ Q I1 rr q1
noncomputable def N4(K:PySem.W.Frag)(n:Nat)(t:Ja):TG:=fun v σ H Q=>∃a xs,v=.ref a/\lG K H a xs/\xs.length=n/\t xs σ H Q
theorem N5{es:List Expr}{k:Nat}{t:Ja}{n:Nat}(hc:X.calm=true)(h:Su X es t)
 (hn:(assignEach es X.env).length=n:=by rfl) (hst:(assignEach es X.env).findIdx? (·.1)=none:=by rfl):PG X (.Tuple es k pos) (N4 X.K n t):=by
 intro pins s σ H v u Q I r hw
 obtain⟨a,xs,e1,hq,hl,hw⟩:=hw
 subst e1
 cases r
 obtain⟨its,rv,ht,hz⟩:=I.tuple hq
 refine assign_Tuple_tuple (I.ok.hd hc) ht (by simp[hn,←hl,rv.length]) hst fun h' hx=>?_
 have I1:Inv X pins σ H {s with heap:=h'}:=I.kept (t':=s.toks) fun b o e=>hx b o (Jn (FR e)) e
 exact h pins _ σ H xs _ Q I1 (by simpa using rv) hw
noncomputable def TF(to ti:TE)(t:NZ):TG:=fun v σ H Q=>to σ H fun o H1=>ti σ H1 fun i H2=>t o i v H2 fun H3=>Q σ H3
theorem N6{o i:Expr}{to ti:TE}{t:NZ}(ho:PE X o to)(hi:PE X i ti)(hs:Tw X t)
 (ha:∀v,assign (.Subscript o i pos) X.env v=(do
   let ov←holding [v] (eval o X.env)
   let iv←holding [v,ov] (eval i X.env)
   standAt pos
   holding [v,ov,iv] (setItem ov iv v)
   release [v,ov,iv] []):=by intro _;rfl):PG X (.Subscript o i pos) (TF to ti t):=by
 intro pins s σ H v u Q I r h
 rw[ha]
 refine FM (cm (bE (ho pins s σ H _ I h) fun ov s1 ⟨x,H1,I1,r1,q1⟩=>?_))
 refine FM (cm (bE (hi pins s1 σ H1 _ I1 q1) fun iv s2 ⟨y,H2,I2,r2,q2⟩=>?_))
 refine FM (wpAny_standAt (FM (cm (bE (hs pins s2 σ H2 x y v ov iv u _ I2 r1 r2 r q2) fun _ s3 ⟨H3,I3,q3⟩=>?_))))
 exact wpAny_release ⟨σ,H3,I3,q3⟩
noncomputable def pZ(te:TE)(g:TG):TS:=fun D σ H=>te σ H fun x H1=>g x σ H1 D.nx
theorem zL{tg e:Expr}{te:TE}{g:TG}(he:PE X e te)(hg:PG X tg g)(hs:swapsWithSole [tg] e pos.line X.env=pure false:=by rfl)(hw:swappedStores [tg] e X.env=pure none:=by rfl)
 (h1:(assignEach [tg] X.env).map (·.2)=[assign tg X.env]:=by rfl):PS X (.Assign [tg] e pos) (pZ te g):=by
 intro pins s σ H D I h
 refine wpAny_Assign_stores (bE (he pins s σ H _ I h) fun v s1 ⟨x,H1,I1,r1,q1⟩=>?_) hs hw
 rw[h1]
 exact bE (hg pins s1 σ H1 x v _ I1 r1 q1) fun _ s2 q=>q
theorem kM{i:Nat}{x:Str}{e:Expr}{te:TE}{pos':Pos}(hN:X.N.Nodup)(hi:X.N[i]?=some x)(hx:Loc X.env.scope x)(he:PE X e te)(hs:swapsWith e (some (.Name x pos')) pos.line X.env=pure false:=by rfl)(hf:X.fn x=true\/X.env.scope.names.lookup x=some .local:=by first|exact .inl rfl|exact .inr rfl|assumption):
 PS X (.Assign [.Name x pos'] e pos) (pZ te (iu i)):=by
 intro pins s σ H D I h
 refine wpAny_Assign_Name (bE (he pins s σ H _ I h) fun v s1 ⟨y,H1,I1,r1,q1⟩=>?_) hs
 exact eN I1 hN hi hx r1 (fun s2 I2=>⟨_,H1,I2,q1⟩) hf
noncomputable def WM(i j:Nat)(ta:TA):TS:=fun D σ H=>ta σ H fun vs H1=>∃v w,vs=[v,w]/\D.nx ((σ.set i (some v)).set j (some w)) H1
theorem N7{i j:Nat}{x y:Str}{a b:Expr}{ta:TA}{px py pt:Pos}{kt k2 Sv}(hc:X.calm=true)(hN:X.N.Nodup)(hi:X.N[i]?=some x)(hj:X.N[j]?=some y)(hij:i≠j)
 (hx:X.env.scope.names.lookup x=some .local) (hy:X.env.scope.names.lookup y=some .local) (ha:PA X [a,b] ta)
 (hw:swappedStores [.Tuple [.Name x px,.Name y py] kt pt] (.Tuple [a,b] k2 Sv) X.env=pure (some [x,y]))
 (hs:swapsWithSole [.Tuple [.Name x px,.Name y py] kt pt] (.Tuple [a,b] k2 Sv) pos.line X.env=pure false:=by rfl):
 PS X (.Assign [.Tuple [.Name x px,.Name y py] kt pt] (.Tuple [a,b] k2 Sv) pos) (WM i j ta):=by
 intro pins s σ H D I h
 rw[exec_Assign_arm]
 refine FM (wpAny_standAt ?_)
 rw[hs]
 refine FM (Kt ?_)
 rw[B1 (by decide)]
 refine FM (Tuple_ (bE (ha _ pins s σ H _ I h) fun us s1 ⟨vs,H1,I1,r1,q1⟩=>?_))
 obtain⟨v,w,e1,q1⟩:=q1
 subst e1
 obtain⟨u1,u2,rfl,rv,rw'⟩:∃u1 u2,us=[u1,u2]/\RelV v u1/\RelV w u2:=by
  cases r1 with
  |cons p q=>
   cases q with
   |cons p' q'=>
    cases q'
    exact⟨_,_,rfl,p,p'⟩
 refine wpAny_newObj_type ?_ (by show 2<=sizeLine;decide)
 have I2:Inv X pins σ H1 {s1 with heap:=s1.heap.push {cls:=.type "tuple",data:=.seq [u1,u2].toArray}}:=I1.kept (t':=s1.toks) fun b o e=>DL _ e
 rw[hw]
 refine FM (Kt ?_)
 show wpAny (model X.prog X.w) X.A (do rule "assign.swapped-stores";let items←unpackItems (.ref s1.heap.objs.size) 2 none;assignInOrder [fun v=>bindName X.env y v,fun v=>bindName X.env x v] items.reverse;pure Flow.next) _ _ _
 refine FM (wpAny_rule (FM (unpackItems_tuple (items:= #[u1,u2]) (I.ok.hd hc) (IsTup.new s1.heap _) fun h' hx'=>?_)))
 have I3:=I2.kept (h':=h') (t':=s1.toks) fun b o e=>hx' b o (Jn (FR e)) e
 show wpAny _ _ (assignInOrder [fun v=>bindName X.env y v,fun v=>bindName X.env x v] [u2,u1]>>=fun _=>pure Flow.next) _ _ _
 refine FM (assignInOrder_cons (wpAny_bindName (eN I3 hN hj (.inl hy) rw' (fun s2 I4=>?_) (.inr hy))))
 refine assignInOrder_cons (wpAny_bindName (eN I4 hN hi (.inl hx) rv (fun s3 I5=>assignInOrder_nil (Kt ?_)) (.inr hx)))
 rw[List.set_comm _ _ (Qb hij)]at I5
 exact⟨_,H1,I5,q1⟩
noncomputable def N8(c:TT)(tb:TS):TS:=fun D σ H=>∃W:Nat->St->Hp->Prop,(∃m,W m σ H)/\∀m σ H,W m σ H->
 c σ H fun b H1=>if b=true then∃N:St->Hp->Prop,(∀σ' H',N σ' H'->∃m',m'<m/\W m' σ' H')/\tb {D with nx:=N,ct:=N,bk:=D.nx} σ H1 else D.nx σ H1
theorem Fv{c:Expr}{body:List Stmt}{tc:TT}{tb:TS}(hp:PassesOwn (model X.prog X.w) X.A X.env X.xe)(hc:PT X c tc)(hb:sI X body tb):PS X (.While c body [] pos) (N8 tc tb):=by
 intro pins s σ H D I h
 obtain⟨W,⟨m0,w0⟩,turn⟩:=h
 refine wpAny_While (codeAny_whileLoop (fun n s'=>∃σ' H',Inv X pins σ' H' s'/\W n σ' H') ?_ m0 ⟨σ,H,I,w0⟩)
 rintro n s1 ⟨σ1,H1,I1,w1⟩
 refine dn hp (bE (hc pins s1 σ1 H1 _ I1 (turn n σ1 H1 w1)) fun b s2 ⟨H2,I2,q2⟩=>?_)
 cases b with
 |true=>
  obtain⟨N,hN,q2⟩:=q2
  rw[Bi rfl]
  refine dn hp (bE (hb pins s2 σ1 H2 _ I2 q2) fun f s3 q3=>?_)
  cases f with
  |next=>
   obtain⟨σ3,H3,I3,n3⟩:=q3
   obtain⟨m',hm,w3⟩:=hN σ3 H3 n3
   exact⟨m',hm,σ3,H3,I3,w3⟩
  |cont=>
   obtain⟨σ3,H3,I3,n3⟩:=q3
   obtain⟨m',hm,w3⟩:=hN σ3 H3 n3
   exact⟨m',hm,σ3,H3,I3,w3⟩
  |brk=>exact q3
  |ret v=>exact q3
 |false=>
  rw[B1 Kk]
  exact wpAny_execs_nil ⟨σ1,H2,I2,q2⟩
end
set_option genInjectivity false in
set_option genSizeOf false in
structure It where
 go:Nat->Hp->Prop
 N9:Nat->Hp->V->Hp->Prop
 stop:Nat->Hp->Prop
noncomputable def lK(X:Cx)(pins:List (Addr×Obj))(H:Hp)(b:Addr):Prop:=
 H b=none/\b≠X.env.locals/\b∉X.fs/\(b∈X.ex\/X.s₀.heap.objs.size<=b)/\(∀x c,X.env.cells.lookup x=some c->c≠b)/\∀p∈X.pn++pins,p.1≠b
theorem Inv.xu{X:Cx}{pins:List (Addr×Obj)}{σ:St}{H H':Hp}{s:Shared}{b:Addr}(I:Inv X pins σ H s)(hb:s.heap.objs.size<=b)(hn:H' b=none):lK X pins H' b:=by
 refine⟨hn,Nat.ne_of_gt (GE I.lt hb),I.WB hb,.inr (FC I.sz hb),fun x c e z=>?_,fun p hp z=>?_⟩
 ·obtain⟨v,q⟩:=I.cell x c e
  exact absurd (GE q.lt (by rw[z];exact hb)) (SF _)
 ·exact absurd (GE (FR (I.pin p hp).1) (by rw[z];exact hb)) (SF _)
structure Turn(P:Program)(w:World)(K:PySem.W.Frag)(tg:Expr)(J:It)(fp:List Addr)(it:Addr)(tn:Nat->Heap->Prop):Prop where
 mem:it∈fp
 obj:∀i h,tn i h->∀b∈fp,∃o,h.get? b=some o/\∀v,o.data≠.cell v
 keep:∀i h h',tn i h->(∀b∈fp,∀o,h.get? b=some o->h'.get? b=some o)->tn i h'
 item:∀(X:Cx),X.prog=P->X.w=w->X.K=K->X.calm=true->∀(i:Nat) (pins:List (Addr×Obj)) (s:Shared) (σ:St) (H:Hp) (E:Value->Shared->Prop),Inv X pins σ H s->(∀b∈fp,lK X pins H b)->tn i s.heap->J.go i H->
  wpAny (model P w) X.A (pyNext (.ref it)) (fun r s1=>∃u,r=some u/\
   wpAny (model P w) X.A (letOwnedTupleGo tg (.ref it) u) (fun _ s2=>∃x H',Inv X pins σ H' s2/\RelV x u/\J.N9 i H x H'/\tn (i+1) s2.heap/\∀b∈fp,H' b=none) E s1) E s
 done:∀(X:Cx),X.prog=P->X.w=w->X.K=K->X.calm=true->∀(i:Nat) (pins:List (Addr×Obj)) (s:Shared) (σ:St) (H:Hp) (E:Value->Shared->Prop),Inv X pins σ H s->(∀b∈fp,lK X pins H b)->tn i s.heap->J.stop i H->
  wpAny (model P w) X.A (pyNext (.ref it)) (fun r s1=>r=none/\Inv X pins σ H s1) E s
 self:∀(A:Around) (i:Nat) (s:Shared) (Q:Value->Shared->Prop) (E:Value->Shared->Prop),tn i s.heap->Q (.ref it) s->wpAny (model P w) A (pyIter (.ref it)) Q E s
abbrev TI:=St->Hp->(It->Hp->Prop)->Prop
noncomputable def WO(X:Cx)(pins:List (Addr×Obj))(σ:St)(tg:Expr)(R:It->Hp->Prop)(itv:Value)(s2:Shared):Prop:=
 ∃(it:Addr) (fp:List Addr) (tn:Nat->Heap->Prop) (J:It) (H':Hp),itv=.ref it/\Inv X pins σ H' s2/\Turn X.prog X.w X.K tg J fp it tn/\tn 0 s2.heap/\(∀b∈fp,lK X pins H' b)/\R J H'
noncomputable def PI(X:Cx)(tg iter:Expr)(wi:TI):Prop:=
 ∀(pins:List (Addr×Obj)) (s:Shared) (σ:St) (H:Hp) (R:It->Hp->Prop),Inv X pins σ H s->wi σ H R->
  wpAny (model X.prog X.w) X.A (eval iter X.env) (fun v s1=>wpAny (model X.prog X.w) X.A (pyIter v) (WO X pins σ tg R) X.xe s1) X.xe s
theorem xw{M:Model}{A:Around}{E:Value->Shared->Prop}{s:Shared}{tg:Expr}{it:Addr}{u:Value}{o:Obj}{n:String}{vs:Array Value}{Q:Unit->Shared->Prop}(ho:s.heap.get? it=some o)(hc:o.cls=.type n)(hd:o.data=.fields vs)
 (hn:["enumerate","zip","dict_itemiterator","dict_reverseitemiterator","odict_iterator","itertools.zip_longest","itertools.pairwise"].contains n=false) (hQ:Q () s):wpAny M A (letOwnedTupleGo tg (.ref it) u) Q E s:=by
 unfold letOwnedTupleGo
 cases tg<;>first
  |exact Kt hQ
  |(cases u<;>first
     |exact Kt hQ
     |(refine FM (wpAny_load ho ?_)
       rw[hc,hd]
       show wpAny M A (if(["enumerate","zip","dict_itemiterator","dict_reverseitemiterator","odict_iterator","itertools.zip_longest","itertools.pairwise"].contains n&&vs[0]?==some (rawInt _))=true then _ else _) Q E s
       rw[B1 (by intro h;rw[hn,Bool.false_and]at h;cases h)]
       exact Kt hQ))
noncomputable def WQ(K:PySem.W.Frag)(a:Addr):It:=
 ⟨fun i H=>∃xs x,ir K H a xs/\xs[i]?=some x,fun i H x H'=>H'=H/\∀xs,ir K H a xs->xs[i]?=some x,fun i H=>∃xs,ir K H a xs/\xs.length<=i⟩
noncomputable def WR(K:PySem.W.Frag)(a:Addr):It:=
 ⟨fun i H=>∃xs x,lG K H a xs/\xs[i]?=some x,fun i H x H'=>H'=H/\∀xs,lG K H a xs->xs[i]?=some x,fun i H=>∃xs,lG K H a xs/\xs.length<=i⟩
noncomputable def MH(lo:Int)(n:Nat):It:=⟨fun i _=>i<n,fun i H x H'=>H'=H/\x=.int (lo+i),fun i _=>n<=i⟩
theorem Dl{P:Program}{w:World}{K:PySem.W.Frag}{tg:Expr}(a it:Addr):Turn P w K tg (WQ K a) [it] it (fun i h=>h.IsListIter it a i)where
 mem:=by simp
 obj:=fun i h st b hb=>by
  have e:b=it:=by simpa using hb
  subst e
  obtain⟨o,e,c,d⟩:=st
  exact⟨o,e,fun v z=>by rw[d]at z;cases z⟩
 keep:=fun i h h' st k=>st.at fun o e=>k it (by simp) o e
 item:=by
  intro X hP hw hK hc i pins s σ H E I hf st hg
  subst hP hw hK
  obtain⟨xs,x,hq,hx⟩:=hg
  obtain⟨its,rv,p,hz⟩:=I.list hq
  obtain⟨u,hu,ru⟩:=rv.get hx
  obtain⟨f0,f1,f2,f3,f4,f5⟩:=hf it (by simp)
  refine wpAny_pyNext_list_item st p.isList (x:=u) (by simpa using hu) fun h' st' sb=>?_
  have I1:Inv X pins σ H {s with heap:=h'}:=I.turned (t':=s.toks) (fun b o hb e=>(sb.2 b hb).trans e) f0 f1 f3 f4 f5
  obtain⟨o,e,c,d⟩:=id st'
  exact⟨u,rfl,xw (s:={s with heap:=h'}) e c d (by decide) ⟨x,H,I1,ru,⟨rfl,fun ys hy=>by rw[I.pX hy hq];exact hx⟩,st',fun b hb=>(hf b hb).1⟩⟩
 done:=by
  intro X hP hw hK hc i pins s σ H E I hf st hg
  subst hP hw hK
  obtain⟨xs,hq,hx⟩:=hg
  obtain⟨its,rv,p,hz⟩:=I.list hq
  obtain⟨f0,f1,f2,f3,f4,f5⟩:=hf it (by simp)
  have hl:=rv.length
  exact wpAny_pyNext_list_end (I.ok.hd hc) st p.isList (by simp;lia) fun h' eb=>⟨rfl,I.turned (t':=s.toks) (fun b o hb e=>eb b o hb e) f0 f1 f3 f4 f5⟩
 self:=fun _ _ _ _ _ st h=>wpAny_pyIter_listiter st h
theorem zM{P:Program}{w:World}{K:PySem.W.Frag}{tg:Expr}(a it:Addr):Turn P w K tg (WR K a) [it] it (fun i h=>h.IsTupleIter it a i)where
 mem:=by simp
 obj:=fun i h st b hb=>by
  have e:b=it:=by simpa using hb
  subst e
  obtain⟨o,e,c,d⟩:=st
  exact⟨o,e,fun v z=>by rw[d]at z;cases z⟩
 keep:=fun i h h' st k=>st.at fun o e=>k it (by simp) o e
 item:=by
  intro X hP hw hK hc i pins s σ H E I hf st hg
  subst hP hw hK
  obtain⟨xs,x,hq,hx⟩:=hg
  obtain⟨its,rv,p,hz⟩:=I.tuple hq
  obtain⟨u,hu,ru⟩:=rv.get hx
  obtain⟨f0,f1,f2,f3,f4,f5⟩:=hf it (by simp)
  refine wpAny_pyNext_tuple_item st (show s.heap.IsTuple a its.toArray from p) (x:=u) (by simpa using hu) fun h' st' sb=>?_
  have I1:Inv X pins σ H {s with heap:=h'}:=I.turned (t':=s.toks) (fun b o hb e=>(sb.2 b hb).trans e) f0 f1 f3 f4 f5
  obtain⟨o,e,c,d⟩:=id st'
  exact⟨u,rfl,xw (s:={s with heap:=h'}) e c d (by decide) ⟨x,H,I1,ru,⟨rfl,fun ys hy=>by rw[I.Dk hy hq];exact hx⟩,st',fun b hb=>(hf b hb).1⟩⟩
 done:=by
  intro X hP hw hK hc i pins s σ H E I hf st hg
  subst hP hw hK
  obtain⟨xs,hq,hx⟩:=hg
  obtain⟨its,rv,p,hz⟩:=I.tuple hq
  obtain⟨f0,f1,f2,f3,f4,f5⟩:=hf it (by simp)
  have hl:=rv.length
  exact wpAny_pyNext_tuple_end (I.ok.hd hc) st (show s.heap.IsTuple a its.toArray from p) (by simp;lia) fun h' eb=>⟨rfl,I.turned (t':=s.toks) (fun b o hb e=>eb b o hb e) f0 f1 f3 f4 f5⟩
 self:=fun _ _ _ _ _ st h=>wpAny_pyIter_tupleiter st h
theorem zN{P:Program}{w:World}{K:PySem.W.Frag}{tg:Expr}(it:Addr)(lo:Int)(n:Nat):Turn P w K tg (MH lo n) [it] it (fun i h=>IsRangeIter h it (lo+(i:Nat)*1) ((n:Int) -(i:Nat)) 1)where
 mem:=by simp
 obj:=fun i h st b hb=>by
  have e:b=it:=by simpa using hb
  subst e
  exact⟨_,st,fun v z=>by
   have z':Data.fields _=Data.cell v:=z
   cases z'⟩
 keep:=fun i h h' st k=>k it (by simp) _ st
 item:=by
  intro X hP hw hK hc i pins s σ H E I hf st hg
  subst hP hw hK
  obtain⟨f0,f1,f2,f3,f4,f5⟩:=hf it (by simp)
  have W:=Walks.range (prog:=X.prog) (w:=X.w) (I.ok.hd hc) it lo 1 n
  refine W.item i s _ _ hg st fun v h' tk hv st' kk=>?_
  obtain⟨t,rfl⟩:=hv
  have I1:Inv X pins σ H {s with heap:=h',toks:=tk}:=I.turned (fun b o hb e=>kk b o (by simpa using hb) e) f0 f1 f3 f4 f5
  refine⟨_,rfl,xw (s:={s with heap:=h',toks:=tk}) (n:="range_iterator") st' rfl rfl (by decide) ⟨.int (lo+i),H,I1,⟨t,?_⟩,⟨rfl,rfl⟩,st',fun b hb=>(hf b hb).1⟩⟩
  rw[du]
 done:=by
  intro X hP hw hK hc i pins s σ H E I hf st hg
  subst hP hw hK
  obtain⟨f0,f1,f2,f3,f4,f5⟩:=hf it (by simp)
  exact wpAny_pyNext_range_end (I.ok.hd hc) st (by have:n<=i:=hg;lia) fun h' eb=>⟨rfl,I.turned (t':=s.toks) (fun b o hb e=>eb b o hb e) f0 f1 f3 f4 f5⟩
 self:=fun _ _ _ _ _ st h=>wpAny_pyIter_rangeiter st h
section
variable{X:Cx}{tg:Expr}
theorem xx{pins:List (Addr×Obj)}{σ:St}{H:Hp}{s:Shared}{R:It->Hp->Prop}{E:Value->Shared->Prop}{lo hi:Int}{t u v:Tok}{tk:Nat}(I:Inv X pins σ H s)(h1: -(2^62)<=lo)(h2:lo<2^62)(h3: -(2^62)<=hi)(h4:hi<2^62)
 (q:R (MH lo (hi -lo).toNat) H):wpAny (model X.prog X.w) X.A (pyIter (.ref s.heap.objs.size)) (WO X pins σ tg R) E {s with heap:=s.heap.push {cls:=.type "range",data:=.fields #[.int lo t,.int hi u,.int 1 v]},toks:=tk}:=by
 refine wpAny_pyIter_range (IsRange.new ..) (small_one h1 h2 h3 h4) ?_
 have I1:Inv X pins σ H {s with heap:=s.heap.push {cls:=.type "range",data:=.fields #[.int lo t,.int hi u,.int 1 v]},toks:=tk}:=I.kept fun b o e=>DL _ e
 refine⟨(s.heap.push {cls:=.type "range",data:=.fields #[.int lo t,.int hi u,.int 1 v]}).objs.size,[(s.heap.push {cls:=.type "range",data:=.fields #[.int lo t,.int hi u,.int 1 v]}).objs.size],_,_,H,rfl,
  I1.kept (t':=tk) fun b o e=>DL _ e,zN _ lo (hi -lo).toNat,?_,fun b hb=>?_,q⟩
 ·have e1:lo+((0:Nat):Int)*1=lo:=by simp
  have e2:(((hi -lo).toNat:Nat):Int) -((0:Nat):Int)=Builtin.Range.rangeSize lo hi 1:=by rw[rangeSize_one];split<;>lia
  show IsRangeIter _ _ (lo+((0:Nat):Int)*1) ((((hi -lo).toNat:Nat):Int) -((0:Nat):Int)) 1
  rw[e1,e2]
  exact IH _ rfl
 ·have e:b=(s.heap.push {cls:=.type "range",data:=.fields #[.int lo t,.int hi u,.int 1 v]}).objs.size:=by simpa using hb
  subst e
  exact I1.xu (Do _) (I1.hok.fresh (Do _))
noncomputable def TH(ta:TA):TI:=fun σ H R=>ta σ H fun vs H1=>∃j:Int,vs=[.int j]/\-(2^62)<=j/\j<2^62/\R (MH 0 j.toNat) H1
noncomputable def TJ(ta:TA):TI:=fun σ H R=>ta σ H fun vs H1=>∃i j:Int,vs=[.int i,.int j]/\(-(2^62)<=i/\i<2^62/\-(2^62)<=j/\j<2^62)/\R (MH i (j -i).toNat) H1
theorem tM{a:Expr}{ta:TA}{p pos:Pos}(hg:Gl X "range")(hm:X.mg "range"=none)(ha:PA X [a] ta)(hs:starEach [a] X.env=[(false,eval a X.env)]:=by rfl):PI X tg (.Call (.Name "range" p) [a] [] pos) (TH ta):=by
 intro pins s σ H R I h
 refine Call_ (gE I hg hm boot_range (PP (bE (ha pos pins s σ H _ I h) fun us s1 ⟨vs,H1,I1,r1,q1⟩=>?_) hs rfl))
 obtain⟨j,e,q1,q2,q⟩:=q1
 subst e
 cases r1 with
 |cons r rr=>
  cases rr
  obtain⟨t,rfl⟩:=r
  exact call_range_1 (xx I1 (by lia) (by lia) q1 q2 (by simpa using q))
theorem Dp{a b:Expr}{ta:TA}{p pos:Pos}(hg:Gl X "range")(hm:X.mg "range"=none)(ha:PA X [a,b] ta)(hs:starEach [a,b] X.env=[(false,eval a X.env),(false,eval b X.env)]:=by rfl)(hs2:starEach [b] X.env=[(false,eval b X.env)]:=by rfl):
 PI X tg (.Call (.Name "range" p) [a,b] [] pos) (TJ ta):=by
 intro pins s σ H R I h
 refine Call_ (gE I hg hm boot_range (PP (bE (ha pos pins s σ H _ I h) fun us s1 ⟨vs,H1,I1,r1,q1⟩=>?_) (by rw[hs,hs2]) (by rw[hs2];rfl)))
 obtain⟨i,j,e,⟨q1,q2,q3,q4⟩,q⟩:=q1
 subst e
 cases r1 with
 |cons r rr=>
  cases rr with
  |cons r' rr=>
   cases rr
   obtain⟨t,rfl⟩:=r
   obtain⟨t',rfl⟩:=r'
   exact call_range_2 (xx I1 q1 q2 q3 q4 q)
noncomputable def WU(wi:TI)(g:TG)(tb:TS):TS:=fun D σ H=>wi σ H fun J H1=>∃W:Nat->Nat->St->Hp->Prop,(∃m,W 0 m σ H1)/\∀i m σ H,W i m σ H->
 (J.stop i H/\D.nx σ H)\/(J.go i H/\∃N:St->Hp->Prop,(∀σ' H',N σ' H'->∃m',m'<m/\W (i+1) m' σ' H')/\∀x H',J.N9 i H x H'->g x σ H' fun σ2 H2=>tb {D with nx:=N,ct:=N,bk:=D.nx} σ2 H2)
noncomputable def nD(fp:List Addr)(h:Heap):List (Addr×Obj):=fp.filterMap fun b=>(h.get? b).map fun o=>(b,o)
theorem dW{fp:List Addr}{h:Heap}{b:Addr}{o:Obj}(hb:b∈fp)(e:h.get? b=some o):(b,o)∈nD fp h:=List.mem_filterMap.mpr ⟨b,hb,by rw[e];rfl⟩
theorem Dq{fp:List Addr}{h:Heap}{p:Addr×Obj}(hp:p∈nD fp h):p.1∈fp/\h.get? p.1=some p.2:=by
 obtain⟨b,hb,e⟩:=List.mem_filterMap.mp hp
 cases q:h.get? b with
 |none=>rw[q]at e;cases e
 |some o=>
  rw[q]at e
  have e':(b,o)=p:=Kb e
  subst e'
  exact⟨hb,q⟩
theorem Inv.pinned{pins:List (Addr×Obj)}{σ:St}{H:Hp}{s:Shared}{fp:List Addr}(I:Inv X pins σ H s)(hf:∀b∈fp,lK X pins H b)(ho:∀b∈fp,∃o,s.heap.get? b=some o/\∀v,o.data≠.cell v):Inv X (pins++nD fp s.heap) σ H s:=
 I.Bk fun p hp=>(GM.mp hp).elim (fun z=>I.pin p (GT _ z)) fun z=>by
  obtain⟨hb,e⟩:=Dq z
  obtain⟨f0,f1,f2,_⟩:=hf p.1 hb
  obtain⟨o,e',d⟩:=ho p.1 hb
  rw[e]at e';cases e'
  exact⟨e,f0,f1,f2,d⟩
theorem Inv.jq{pins pl:List (Addr×Obj)}{σ:St}{H:Hp}{s:Shared}(I:Inv X (pins++pl) σ H s):Inv X pins σ H s:=I.Bk fun p hp=>I.pin p (GT _ (PH _ hp))
theorem Oa{iter:Expr}{body:List Stmt}{wi:TI}{g:TG}{tb:TS}{pos:Pos}(hp:PassesOwn (model X.prog X.w) X.A X.env X.xe)(hc:X.calm=true)(hi:PI X tg iter wi)(hg:PG X tg g)(hb:sI X body tb)
 (hs:∀x,foldedSetIterable iter X.env x=pure x:=by intro _;rfl):PS X (.For tg iter body [] pos) (WU wi g tb):=by
 intro pins s σ H D I h
 refine wpAny_For (bE (hi pins s σ H _ I h) fun v s1 h1=>bE h1 fun itv s2 h2=>?_) hs
 obtain⟨it,fp,tn,J,H2,e,I2,T,st2,f2,W,⟨m0,w0⟩,turn⟩:=h2
 subst e
 have Ob:∀{H':Hp},(∀b∈fp,H' b=none)->∀b∈fp,lK X pins H' b:=fun hn b hb=>⟨hn b hb,(f2 b hb).2⟩
 refine codeAny_forLoop_any (fun n s'=>∃i σ' H',Inv X pins σ' H' s'/\tn i s'.heap/\(∀b∈fp,H' b=none)/\W i n σ' H') ?_ m0 ⟨0,σ,H2,I2,st2,fun b hb=>(f2 b hb).1,w0⟩
 rintro n s3 ⟨i,σ3,H3,I3,st3,Y0,w3⟩
 rcases turn i n σ3 H3 w3 with⟨stop,qn⟩|⟨go,N,hN,step⟩
 ·refine dn hp (bE (T.done X rfl rfl rfl hc i pins s3 σ3 H3 X.xe I3 (Ob Y0) st3 stop) fun r s4 ⟨hr,I4⟩=>?_)
  subst hr
  exact wpAny_execs_nil ⟨σ3,H3,I4,qn⟩
 ·refine dn hp (bE (T.item X rfl rfl rfl hc i pins s3 σ3 H3 X.xe I3 (Ob Y0) st3 go) fun r s4 ⟨u,hr,h4⟩=>?_)
  subst hr
  refine dn hp (bE h4 fun _ s5 ⟨x,H5,I5,r5,y5,Jt,Oc⟩=>?_)
  have I5':=I5.pinned (Ob Oc) (T.obj _ _ Jt)
  refine dn hp (bE (hg _ s5 σ3 H5 x u _ I5' r5 (step x H5 y5)) fun _ s6 ⟨σ6,H6,I6,q6⟩=>?_)
  refine dn hp (bE (hb _ s6 σ6 H6 _ I6 q6) fun f s7 q7=>?_)
  have again:∀{Fw:St} {H7:Hp},Inv X (pins++nD fp s5.heap) Fw H7 s7->N Fw H7->∃m,m<n/\∃i σ' H',Inv X pins σ' H' s7/\tn i s7.heap/\(∀b∈fp,H' b=none)/\W i m σ' H':=fun{Fw H7} I7 n7=>by
   obtain⟨m',hm,w7⟩:=hN Fw H7 n7
   refine⟨m',hm,i+1,Fw,H7,I7.jq,T.keep _ _ _ Jt fun b hb o e=>(I7.pin (b,o) (GT _ (GT _ (dW hb e)))).1,fun b hb=>?_,w7⟩
   obtain⟨o,e,d⟩:=T.obj _ _ Jt b hb
   exact(I7.pin (b,o) (GT _ (GT _ (dW hb e)))).2.1
  cases f with
  |next=>obtain⟨Fw,H7,I7,n7⟩:=q7;exact again I7 n7
  |cont=>obtain⟨Fw,H7,I7,n7⟩:=q7;exact again I7 n7
  |brk=>obtain⟨Fw,H7,I7,q7⟩:=q7;exact⟨Fw,H7,I7.jq,q7⟩
  |ret v=>obtain⟨x7,Fw,H7,I7,r7,q7⟩:=q7;exact⟨x7,Fw,H7,I7.jq,r7,q7⟩
end
abbrev R2:=V->V->Hp->VK->Prop
noncomputable def kN(X:Cx)(f:Value->Value->Sem Value)(r:R2):Prop:=
 ∀(pins:List (Addr×Obj)) (s:Shared) (σ:St) (H:Hp) (x y:V) (v u:Value) (Q:VK),Inv X pins σ H s->RelV x v->RelV y u->r x y H Q->
  wpAny (model X.prog X.w) X.A (f v u) (EP X pins σ Q) X.xe s
noncomputable def WV(X:Cx)(f:Value->Sem Value)(r:V->Hp->VK->Prop):Prop:=
 ∀(pins:List (Addr×Obj)) (s:Shared) (σ:St) (H:Hp) (x:V) (v:Value) (Q:VK),Inv X pins σ H s->RelV x v->r x H Q->
  wpAny (model X.prog X.w) X.A (f v) (EP X pins σ Q) X.xe s
noncomputable def dg(X:Cx)(f:Value)(r:List V->Hp->VK->Prop):Prop:=
 ∀(pins:List (Addr×Obj)) (s:Shared) (σ:St) (H:Hp) (xs:List V) (us:List Value) (Q:VK),Inv X pins σ H s->Vals xs us->r xs H Q->
  wpAny (model X.prog X.w) X.A (call f us) (EP X pins σ Q) X.xe s
noncomputable def WW(r:R2)(ta tb:TE):TE:=fun σ H Q=>ta σ H fun x H1=>tb σ H1 fun y H2=>r x y H2 Q
noncomputable def tUn(r:V->Hp->VK->Prop)(ta:TE):TE:=fun σ H Q=>ta σ H fun x H1=>r x H1 Q
noncomputable def rI(C:Int->Int->Prop)(g:Int->Int->V):R2:=fun x y H Q=>∃i j,x=.int i/\y=.int j/\C i j/\Q (g i j) H
noncomputable def Ju(g:Int->Int->V):R2:=fun x y H Q=>∃i j,x=.int i/\y=.int j/\Q (g i j) H
noncomputable def rU(g:Int->V):V->Hp->VK->Prop:=fun x H Q=>∃i,x=.int i/\Q (g i) H
section
variable{X:Cx}{a b c:Expr}{ta tb tc:TE}{pos:Pos}
theorem Od(ha:PE X a ta)(hb:PE X b tb){pins:List (Addr×Obj)}{s:Shared}{σ:St}{H:Hp}{R:V->V->Hp->Prop}(I:Inv X pins σ H s)
 (h:ta σ H fun x H1=>tb σ H1 fun y H2=>R x y H2) {Q:Value->Shared->Prop} {f:Value->Value->Sem Value}
 (hf:∀v u s2 x y H2,Inv X pins σ H2 s2->RelV x v->RelV y u->R x y H2->wpAny (model X.prog X.w) X.A (f v u) Q X.xe s2):
 wpAny (model X.prog X.w) X.A (eval a X.env) (fun v s₁=>wpAny (model X.prog X.w) X.A (eval b X.env) (fun u s₂=>wpAny (model X.prog X.w) X.A (f v u) Q X.xe s₂) X.xe s₁) X.xe s:=by
 refine bE (ha pins s σ H _ I h) ?_
 rintro v s1 ⟨x,H1,I1,r1,q1⟩
 refine bE (hb pins s1 σ H1 _ I1 q1) ?_
 rintro u s2 ⟨y,H2,I2,r2,q2⟩
 exact hf v u s2 x y H2 I2 r1 r2 q2
theorem TL{op:Operator}{r:R2}(ho:kN X (binaryOp op) r)(ha:PE X a ta)(hb:PE X b tb):PE X (.BinOp a op b pos) (WW r ta tb):=by
 intro pins s σ H Q I h
 exact wpAny_BinOp (Od ha hb I h fun v u s2 x y H2 I2 rx ry q=>ho pins s2 σ H2 x y v u Q I2 rx ry q)
theorem TM{op:UnaryOp}{r:V->Hp->VK->Prop}(ho:WV X (unaryOp op) r)(ha:PE X a ta):PE X (.UnaryOp op a pos) (tUn r ta):=by
 intro pins s σ H Q I h
 exact UnaryOp_ (bE (ha pins s σ H _ I h)<|by rintro v s1 ⟨x,H1,I1,r1,q1⟩;exact ho pins s1 σ H1 x v Q I1 r1 q1)
theorem Sw{f:Value->Value->Sem Value}{C:Int->Int->Prop}{g:Int->Int->Int}
 (rule:∀(i j:Int) (t u:Tok) (s:Shared) (Q:Value->Shared->Prop) (E:Value->Shared->Prop),C i j->Q (.int (g i j) s.toks) {s with toks:=s.toks+1}->wpAny (model X.prog X.w) X.A (f (.int i t) (.int j u)) Q E s):
 kN X f (rI C fun i j=>.int (g i j)):=by
 intro pins s σ H x y v u Q I rx ry h
 obtain⟨i,j,rfl,rfl,hc,q⟩:=h
 obtain⟨t,rfl⟩:=rx
 obtain⟨t',rfl⟩:=ry
 exact rule i j t t' s _ _ hc ⟨.int (g i j),H,I.tok _,⟨_,rfl⟩,q⟩
theorem TN{f:Value->Value->Sem Value}{g:Int->Int->Int}
 (rule:∀(i j:Int) (t u:Tok) (s:Shared) (Q:Value->Shared->Prop) (E:Value->Shared->Prop),Q (.int (g i j) s.toks) {s with toks:=s.toks+1}->wpAny (model X.prog X.w) X.A (f (.int i t) (.int j u)) Q E s):
 kN X f (Ju fun i j=>.int (g i j)):=by
 intro pins s σ H x y v u Q I rx ry h
 obtain⟨i,j,rfl,rfl,q⟩:=h
 obtain⟨t,rfl⟩:=rx
 obtain⟨t',rfl⟩:=ry
 exact rule i j t t' s _ _ ⟨.int (g i j),H,I.tok _,⟨_,rfl⟩,q⟩
theorem Jv{f:Value->Value->Sem Value}{g:Int->Int->Bool}
 (rule:∀(i j:Int) (t u:Tok) (s:Shared) (Q:Value->Shared->Prop) (E:Value->Shared->Prop),Q (.bool (g i j)) s->wpAny (model X.prog X.w) X.A (f (.int i t) (.int j u)) Q E s):
 kN X f (Ju fun i j=>.bl (g i j)):=by
 intro pins s σ H x y v u Q I rx ry h
 obtain⟨i,j,rfl,rfl,q⟩:=h
 obtain⟨t,rfl⟩:=rx
 obtain⟨t',rfl⟩:=ry
 exact rule i j t t' s _ _ ⟨.bl (g i j),H,I,rfl,q⟩
noncomputable def sJ(i j:Int):Prop:=0<=j/\j<=1000000/\i.natAbs<2^64
theorem zO(k:Nat):(0:Int)<=2^k:=by
 rw[two_pow_cast]
 exact Int.natCast_nonneg _
theorem Oe:kN X (binaryOp .Add) (Ju fun i j=>.int (i+j)):=TN fun _ _ _ _ _ _ _ q=>add_int q
theorem Of:kN X (binaryOp .Sub) (Ju fun i j=>.int (i -j)):=TN fun _ _ _ _ _ _ _ q=>sub_int q
theorem Jw:kN X (binaryOp .Mod) (rI (fun _ j=>j≠0) fun i j=>.int (i.fmod j)):=Sw fun _ _ _ _ _ _ _ hc q=>mod_int' hc q
theorem Og:kN X (binaryOp .Pow) (rI sJ fun i j=>.int (i^j.toNat)):=Sw fun _ _ _ _ _ _ _ hc q=>pow_int_small hc.1 hc.2.1 hc.2.2 q
theorem Oh:kN X (binaryOp .LShift) (rI sJ fun i j=>.int (i*2^j.toNat)):=Sw fun _ _ _ _ _ _ _ hc q=>lshift_int_small hc.1 hc.2.1 hc.2.2 q
theorem Oi:kN X (binaryOp .RShift) (rI (fun _ j=>0<=j) fun i j=>.int (i/2^j.toNat)):=Sw fun i j _ _ _ _ _ hc q=>
 rshift_int hc (by rw[X2 i (zO _)];exact q)
theorem unI{f:Value->Sem Value}{g:Int->Int}
 (rule:∀(i:Int) (t:Tok) (s:Shared) (Q:Value->Shared->Prop) (E:Value->Shared->Prop),Q (.int (g i) s.toks) {s with toks:=s.toks+1}->wpAny (model X.prog X.w) X.A (f (.int i t)) Q E s):
 WV X f (rU fun i=>.int (g i)):=by
 intro pins s σ H x v Q I rx h
 obtain⟨i,rfl,q⟩:=h
 obtain⟨t,rfl⟩:=rx
 exact rule i t s _ _ ⟨.int (g i),H,I.tok _,⟨_,rfl⟩,q⟩
theorem Oj:WV X (unaryOp .USub) (rU fun i=>.int (-i)):=unI fun _ _ _ _ _ q=>neg_int q
end
noncomputable def Ol:V->V->Bool
 |.aU,.aU=>true|.aU,.int _=>true|.int _,.aU=>true|.aU,.bl _=>true|.bl _,.aU=>true|.aU,.str _=>true|.str _,.aU=>true
 |.int _,.int _=>true|.bl _,.bl _=>true|.str _,.str _=>true|.E3 _,.E3 _=>true
 |.int _,.str _=>true|.str _,.int _=>true|.bl _,.str _=>true|.str _,.bl _=>true
 |_,_=>false
noncomputable def rEq:R2:=fun x y H Q=>Ol x y=true/\Q (.bl (decide (x=y))) H
noncomputable def rNe:R2:=fun x y H Q=>Ol x y=true/\Q (.bl (!decide (x=y))) H
theorem Bq{i j:Int}:decide (V.int i=V.int j)=(i==j):=by
 rw[Bool.eq_iff_iff]
 simp
theorem Fx{i j:Bool}:decide (V.bl i=V.bl j)=(i==j):=by
 rw[Bool.eq_iff_iff]
 simp
theorem Br{i j:Str}:decide (V.str i=V.str j)=(i==j):=by
 rw[Bool.eq_iff_iff]
 simp
theorem Bs{i j:Array UInt8}:decide (V.E3 i=V.E3 j)=(i.toList==j.toList):=by
 rw[Bool.eq_iff_iff]
 cases i
 cases j
 simp
section
variable{X:Cx}{a b c:Expr}{ta tb tc:TE}{pos:Pos}
theorem aR{pins:List (Addr×Obj)}{σ:St}{H:Hp}{s:Shared}{Q:VK}{k k':Bool}(I:Inv X pins σ H s)(q:Q (.bl k) H)(e:k=k'):EP X pins σ Q (.bool k') s:=by
 subst e
 exact⟨.bl k,H,I,rfl,q⟩
theorem MI:kN X (compareOp .Eq) rEq:=by
 intro pins s σ H x y v u Q I rx ry h
 obtain⟨hs,q⟩:=h
 cases x with
 |aU=>
  cases rx
  cases y with
  |aU=>cases ry;exact PySem.EqNone.eq_none_none (aR I q (by simp))
  |bl j=>cases ry;exact PySem.EqNone.eq_none_bool (aR I q (by simp))
  |int j=>obtain⟨t',rfl⟩:=ry;exact PySem.EqNone.eq_none_int (aR I q (by simp))
  |str j=>obtain⟨t',rfl⟩:=ry;exact PySem.EqNone.eq_none_str (aR I q (by simp))
  |_=>exact absurd (show false=true from hs) Kk
 |bl i=>
  cases rx
  cases y with
  |aU=>cases ry;exact PySem.EqNone.eq_bool_none (aR I q (by simp))
  |bl j=>cases ry;exact eq_bool (aR I q Fx)
  |str j=>obtain⟨t',rfl⟩:=ry;exact PySem.EqMixed.eq_bool_str (aR I q (by simp))
  |_=>exact absurd (show false=true from hs) Kk
 |int i=>
  obtain⟨t,rfl⟩:=rx
  cases y with
  |aU=>cases ry;exact PySem.EqNone.eq_int_none (aR I q (by simp))
  |int j=>obtain⟨t',rfl⟩:=ry;exact eq_int (aR I q Bq)
  |str j=>obtain⟨t',rfl⟩:=ry;exact PySem.EqMixed.eq_int_str (aR I q (by simp))
  |_=>exact absurd (show false=true from hs) Kk
 |str i=>
  obtain⟨t,rfl⟩:=rx
  cases y with
  |aU=>cases ry;exact PySem.EqNone.eq_str_none (aR I q (by simp))
  |bl j=>cases ry;exact PySem.EqMixed.eq_str_bool (aR I q (by simp))
  |int j=>obtain⟨t',rfl⟩:=ry;exact PySem.EqMixed.eq_str_int (aR I q (by simp))
  |str j=>obtain⟨t',rfl⟩:=ry;exact eq_str (aR I q Br)
  |_=>exact absurd (show false=true from hs) Kk
 |E3 i=>
  obtain⟨t,rfl⟩:=rx
  cases y with
  |E3 j=>obtain⟨t',rfl⟩:=ry;exact PySem.W.eq_bytes (aR I q Bs)
  |_=>exact absurd (show false=true from hs) Kk
 |_=>cases y<;>exact absurd (show false=true from hs) Kk
theorem TQ:kN X (compareOp .NotEq) rNe:=by
 intro pins s σ H x y v u Q I rx ry h
 obtain⟨hs,q⟩:=h
 cases x with
 |aU=>
  cases rx
  cases y with
  |aU=>cases ry;exact PySem.EqNone.ne_none_none (aR I q (by simp))
  |bl j=>cases ry;exact PySem.EqNone.ne_none_bool (aR I q (by simp))
  |int j=>obtain⟨t',rfl⟩:=ry;exact PySem.EqNone.ne_none_int (aR I q (by simp))
  |str j=>obtain⟨t',rfl⟩:=ry;exact PySem.EqNone.ne_none_str (aR I q (by simp))
  |_=>exact absurd (show false=true from hs) Kk
 |bl i=>
  cases rx
  cases y with
  |aU=>cases ry;exact PySem.EqNone.ne_bool_none (aR I q (by simp))
  |bl j=>cases ry;exact ne_bool (aR I q (TB not Fx))
  |str j=>obtain⟨t',rfl⟩:=ry;exact PySem.EqMixed.ne_bool_str (aR I q (by simp))
  |_=>exact absurd (show false=true from hs) Kk
 |int i=>
  obtain⟨t,rfl⟩:=rx
  cases y with
  |aU=>cases ry;exact PySem.EqNone.ne_int_none (aR I q (by simp))
  |int j=>obtain⟨t',rfl⟩:=ry;exact ne_int (aR I q (TB not Bq))
  |str j=>obtain⟨t',rfl⟩:=ry;exact PySem.EqMixed.ne_int_str (aR I q (by simp))
  |_=>exact absurd (show false=true from hs) Kk
 |str i=>
  obtain⟨t,rfl⟩:=rx
  cases y with
  |aU=>cases ry;exact PySem.EqNone.ne_str_none (aR I q (by simp))
  |bl j=>cases ry;exact PySem.EqMixed.ne_str_bool (aR I q (by simp))
  |int j=>obtain⟨t',rfl⟩:=ry;exact PySem.EqMixed.ne_str_int (aR I q (by simp))
  |str j=>obtain⟨t',rfl⟩:=ry;exact ne_str (aR I q (TB not Br))
  |_=>exact absurd (show false=true from hs) Kk
 |E3 i=>
  obtain⟨t,rfl⟩:=rx
  cases y with
  |E3 j=>obtain⟨t',rfl⟩:=ry;exact PySem.W.ne_bytes (aR I q (TB not Bs))
  |_=>exact absurd (show false=true from hs) Kk
 |_=>cases y<;>exact absurd (show false=true from hs) Kk
theorem TR:kN X (compareOp .Lt) (Ju fun i j=>.bl (decide (i<j))):=Jv fun _ _ _ _ _ _ _ q=>lt_int q
theorem TU:kN X (compareOp .LtE) (Ju fun i j=>.bl (decide (i<=j))):=Jv fun _ _ _ _ _ _ _ q=>le_int q
theorem TV:kN X (compareOp .Gt) (Ju fun i j=>.bl (decide (j<i))):=Jv fun _ _ _ _ _ _ _ q=>gt_int q
theorem TY:kN X (compareOp .GtE) (Ju fun i j=>.bl (decide (j<=i))):=Jv fun _ _ _ _ _ _ _ q=>ge_int q
theorem Om:kN X (compareOp .Is) (fun x y H Q=>y=.aU/\Q (.bl (decide (x=.aU))) H):=by
 intro pins s σ H x y v u Q I rx ry h
 obtain⟨rfl,q⟩:=h
 cases ry
 refine is_none_gen (aR I q ?_)
 cases x<;>first
  |(cases rx;rfl)
  |(obtain⟨t,rfl⟩:=rx;rfl)
theorem Bt:kN X (compareOp .IsNot) (fun x y H Q=>y=.aU/\Q (.bl (!decide (x=.aU))) H):=by
 intro pins s σ H x y v u Q I rx ry h
 obtain⟨rfl,q⟩:=h
 cases ry
 refine isnot_none_gen (aR I q ?_)
 cases x<;>first
  |(cases rx;rfl)
  |(obtain⟨t,rfl⟩:=rx;rfl)
theorem p8(b:Expr){op:CmpOp}(h:op≠.In:=by decide)(h2:op≠.NotIn:=by decide):behindInMarks op b=false:=by
 have e1:(op==CmpOp.In)=false:=by cases op<;>first|rfl|exact absurd rfl h
 have e2:(op==CmpOp.NotIn)=false:=by cases op<;>first|rfl|exact absurd rfl h2
 cases b<;>simp[behindInMarks,e1,e2]
theorem uN{op:CmpOp}{r:R2}(ho:kN X (compareOp op) r)(ha:PE X a ta)(hb:PE X b tb)(hm:behindInMarks op b=false):PE X (.Compare a [op] [b] pos) (WW r ta tb):=by
 intro pins s σ H Q I h
 exact wpAny_Compare1 (Od ha hb I h fun v u s2 x y H2 I2 rx ry q=>ho pins s2 σ H2 x y v u Q I2 rx ry q) hm
theorem p9:(sizeLine:Nat)<2^63:=by rw[sizeLine_eq];decide
theorem zP:kN X (binaryOp .Add) (fun x y H Q=>∃i j,x=.str i/\y=.str j/\i.length+j.length<=sizeLine/\Q (.str (i++j)) H):=by
 intro pins s σ H x y v u Q I rx ry h
 obtain⟨i,j,rfl,rfl,hz,q⟩:=h
 obtain⟨t,rfl⟩:=rx
 obtain⟨t',rfl⟩:=ry
 exact add_str (fun t' tk=>⟨.str (i++j),H,I.tok _,⟨_,rfl⟩,q⟩) hz
theorem vals1{x:V}{us:List Value}(r:Vals [x] us):∃u,us=[u]/\RelV x u:=by
 cases r with
 |cons r1 r2=>cases r2;exact⟨_,rfl,r1⟩
theorem vals2{x y:V}{us:List Value}(r:Vals [x,y] us):∃u w',us=[u,w']/\RelV x u/\RelV y w':=by
 cases r with
 |cons r1 r2=>
  cases r2 with
  |cons r3 r4=>cases r4;exact⟨_,_,rfl,r1,r3⟩
theorem Fy:dg X (.builtin "abs") (fun xs H Q=>∃i,xs=[.int i]/\Q (.int (if i<0 then-i else i)) H):=by
 intro pins s σ H xs us Q I r h
 obtain⟨i,rfl,q⟩:=h
 obtain⟨u,rfl,t,rfl⟩:=vals1 r
 exact call_abs_int fun u tk=>⟨.int (if i<0 then-i else i),H,I.tok _,⟨_,rfl⟩,q⟩
theorem Dr(hc:X.calm=true):dg X (.builtin "max") (fun xs H Q=>∃i j,xs=[.int i,.int j]/\Q (.int (if j>i then j else i)) H):=by
 intro pins s σ H xs us Q I r h
 obtain⟨i,j,rfl,q⟩:=h
 obtain⟨u,w',rfl,⟨t,rfl⟩,⟨t',rfl⟩⟩:=vals2 r
 refine max_two_ints (I.ok.hd hc) fun h' tk k=>⟨_,H,I.kept k,?_,q⟩
 by_cases hj:j>i
 ·rw[Bi hj,Bi hj];exact⟨_,rfl⟩
 ·rw[B1 hj,B1 hj];exact⟨_,rfl⟩
theorem Ds(hc:X.calm=true):dg X (.builtin "min") (fun xs H Q=>∃i j,xs=[.int i,.int j]/\Q (.int (if j<i then j else i)) H):=by
 intro pins s σ H xs us Q I r h
 obtain⟨i,j,rfl,q⟩:=h
 obtain⟨u,w',rfl,⟨t,rfl⟩,⟨t',rfl⟩⟩:=vals2 r
 refine min_two_ints (I.ok.hd hc) fun h' tk k=>⟨_,H,I.kept k,?_,q⟩
 by_cases hj:j<i
 ·rw[Bi hj,Bi hj];exact⟨_,rfl⟩
 ·rw[B1 hj,B1 hj];exact⟨_,rfl⟩
theorem Du:dg X (.type "int") (fun xs H Q=>(∃i,xs=[.int i]/\Q (.int i) H)\/∃k,xs=[.bl k]/\Q (.int (if k then 1 else 0)) H):=by
 intro pins s σ H xs us Q I r h
 rcases h with⟨i,rfl,q⟩|⟨k,rfl,q⟩
 ·obtain⟨u,rfl,t,rfl⟩:=vals1 r
  exact call_int_int ⟨.int i,H,I,⟨_,rfl⟩,q⟩
 ·obtain⟨u,rfl,r1⟩:=vals1 r
  cases r1
  exact call_int_bool ⟨.int (if k then 1 else 0),H,I.tok _,⟨_,rfl⟩,q⟩
end
structure zQ(h:Heap)(x dx C:Addr)(mA:Str->Option Value):Prop where
 obj:h.get? x=some (PySem.W.instObj C dx)
 ns:h.Ns1 dx mA
 ne:dx≠x
theorem Dv{h:Heap}{dx:Addr}{mA:Str->Option Value}(n:h.Ns1 dx mA):∃od,h.get? dx=some od/\∀name,PySem.W.lookIn name od=some (mA name):=by
 obtain⟨o,es,ep,ho,hd,hk,_,hm⟩:=n
 refine⟨o,ho,fun name=>?_⟩
 have e:=hm name
 unfold nsFind findBy at e
 rw[←Array.find?_toList]at e
 unfold PySem.W.lookIn
 rw[hd]
 dsimp only
 split
 ·rename_i y q
  rw[q]at e
  exact TB some e
 ·rename_i q
  rw[q]at e
  have a:es.toList.any (·.refKey)=false:=by
   rw[List.any_eq_false]
   intro y hy
   obtain⟨z,t,hkey⟩:=hk y (Array.mem_toList_iff.mp hy)
   simp[DictEntry.refKey,hkey]
  have a':¬es.toList.any (·.refKey)=true:=by rw[a];exact Kk
  rw[B1 a']
  exact TB some e
theorem zQ.look{h:Heap}{x dx C:Addr}{mA:Str->Option Value}(I:zQ h x dx C mA):∃od,PySem.W.InstAt h x (PySem.W.instObj C dx) C (some od)/\∀name,PySem.W.lookIn name od=some (mA name):=
 let⟨od,ho,hl⟩:=Dv I.ns
 ⟨od,⟨I.obj,rfl,rfl,ho⟩,hl⟩
section
variable{prog:Program}{w:World}{A:Around}{E:Value->Shared->Prop}{s:Shared}{K:PySem.W.Frag}{x dx C f:Addr}{mA:Str->Option Value}{name:Str}{v:Value}
theorem get_map{expr:Bool}{Q:Value->Shared->Prop}(X:K.In s.heap)(I:zQ s.heap x dx C mA)(hg:PySem.W.plainGet K C name=true)(hh:PySem.W.hasDictIn K C=true)
 (ha:PySem.W.findIn K (.ref C) name=some none) (hv:mA name=some v) (hv':PySem.W.handedIn v=true) (h:Q v {s with toks:=s.toks+1}):
 wpAny (model prog w) A (getAttr (.ref x) name expr) Q E s:=by
 obtain⟨od,J,hl⟩:=I.look
 exact PySem.W.get_value X J (PySem.W.plainGet_of hg).1 (PySem.W.findObj_own hh ha rfl (by rw[hl,hv])) hv' h
theorem FA{pl:Sem Bool}{Q:Value×List Value->Shared->Prop}(X:K.In s.heap)(I:zQ s.heap x dx C mA)(hg:PySem.W.plainGet K C name=true)
 (hf:PySem.W.findIn K (.ref C) name=some (some (.ref f))) (ht:PySem.W.isFn K (.ref f)=true) (hv:mA name=none) (h:Q (.ref f,[.ref x]) s):
 wpAny (model prog w) A (getMethod (.ref x) name pl) Q E s:=by
 obtain⟨od,J,hl⟩:=I.look
 exact PySem.W.method_fn X J (PySem.W.plainGet_of hg).1 (PySem.W.plainGet_of hg).2 hf (N0.mp ht) (by show(PySem.W.lookIn name od).map (·.isSome)=some false;rw[hl,hv];rfl) h
theorem Jx{ns:List Str}{Q:Unit->Shared->Prop}(X:K.In s.heap)(I:zQ s.heap x dx C mA)
 (hs:PySem.W.findIn K (.ref C) "__setattr__"=some (some (.builtin "object.__setattr__"))) (hp:PySem.W.plainOver K C=true) (ht:PySem.W.takerIn K C name=some none) (hh:PySem.W.hasDictIn K C=true)
 (hw:PySem.Within mA ns) (hsz:ns.length<=sizeLine)
 (h:∀h',zQ h' x dx C (fun y=>if y=name then some v else mA y)->Heap.SameBut dx s.heap h'->Q () {s with heap:=h',toks:=s.toks+2}):
 wpAny (model prog w) A (setAttr (.ref x) name v) Q E s:=by
 obtain⟨od,J,hl⟩:=I.look
 refine PySem.W.set_plain X J hs (PySem.W.osa_open (s:={s with toks:=s.toks+1}) (r:=none) X J hp ht fun b=>?_)
 obtain⟨cd,hc,hd'⟩:=PySem.W.any_some hh
 have hx:s.heap.get? x=some ⟨.ref C,some dx,.plain,#[]⟩:=I.obj
 refine FM (Kt (FM (FM (wpAny_loadPart hx (FM (PySem.W.Looks.here (s:={s with toks:=s.toks+1}) (PySem.W.looks_clsIn X hc) ?_))))))
 rw[hd']
 refine Kt (a:=some dx) (FM (Kt (FM ?_)))
 refine wpAny_nsSet1 (s:={s with toks:=s.toks+1}) I.ns fun h' hn2 hs2=>?_
 obtain⟨oD,esD,epD,hoD,hdD,hcD⟩:=hn2.count (PySem.Within.cons name v hw)
 refine FM (wpAny_lookBehind hoD (by rw[hdD];exact pastItsLine_dict (FC hcD (by rw[List.length_cons];lia))) ?_)
 exact Kt (h _ ⟨(hs2.2 _ (Qb I.ne)).trans I.obj,hn2,I.ne⟩ hs2)
theorem FD{R:Result->Shared->Prop}{vs:List Value}{kw:List (Str×Value)}(X:K.In s.heap)(hm:PySem.W.makesIn K C=true)
 (hi:PySem.W.findIn K (.ref C) "__init__"=some (some (.ref f))) (hf:PySem.W.typeIn K (.ref f)=some (.type "function"))
 (h:codeAny (model prog w) (A.under (.builtin "type.__call__" ⟨.ref C::vs,kw⟩)) (.call (.ref f) ⟨.ref (s.heap.objs.size+1)::vs,kw⟩) (PySem.W.InitBack (s.heap.objs.size+1) R)
   {s with heap:=(s.heap.push PySem.W.emptyDict).push (PySem.W.instObj C s.heap.objs.size)}):
 codeAny (model prog w) A (.call (.ref C) ⟨vs,kw⟩) R s:=by
 obtain⟨hh,g,d,t,os⟩:=s
 exact PySem.W.make_core (PySem.W.makes_of X hm) (PySem.W.looks_findIn X hi) (fun self=>PySem.W.bind_fn X self hf) (.inl rfl) h
end
noncomputable def iQ(f:Str)(v:V):List (Str×V)->List (Str×V)
 |[]=>[(f,v)]
 |(g,x)::r=>if g=f then(g,v)::r else(g,x)::iQ f v r
theorem oq(f g:Str)(v:V):∀fs:List (Str×V),(iQ f v fs).lookup g=if g=f then some v else fs.lookup g
 |[]=>by
  show List.lookup g [(f,v)]=_
  by_cases h:g=f
  ·have hb:(g==f)=true:=N0.mpr h
   simp only[List.lookup,hb,Bi h]
  ·have hb:(g==f)=false:=beq_eq_false_iff_ne.mpr h
   simp only[List.lookup,hb,B1 h]
 |(k,x)::r=>by
  have ih:=oq f g v r
  rw[show iQ f v ((k,x)::r)=(if k=f then(k,v)::r else(k,x)::iQ f v r)from rfl]
  by_cases hk:k=f
  ·rw[Bi hk]
   by_cases h:g=k
   ·have hb:(g==k)=true:=N0.mpr h
    simp only[List.lookup,hb,Bi (h.trans hk)]
   ·have hb:(g==k)=false:=beq_eq_false_iff_ne.mpr h
    simp only[List.lookup,hb,B1 (fun e:g=f=>h (e.trans hk.symm))]
  ·rw[B1 hk]
   by_cases h:g=k
   ·have hb:(g==k)=true:=N0.mpr h
    simp only[List.lookup,hb,B1 (fun e:g=f=>hk (h.symm.trans e))]
   ·have hb:(g==k)=false:=beq_eq_false_iff_ne.mpr h
    simp only[List.lookup,hb]
    exact ih
theorem nE(f:Str)(v:V):∀fs:List (Str×V),f∈(iQ f v fs).map (·.1)/\∀g,g∈fs.map (·.1)->g∈(iQ f v fs).map (·.1)
 |[]=>⟨by simp[iQ],fun g h=>by simp at h⟩
 |(k,x)::r=>by
  obtain⟨i1,i2⟩:=nE f v r
  rw[show iQ f v ((k,x)::r)=(if k=f then(k,v)::r else(k,x)::iQ f v r)from rfl]
  by_cases hk:k=f
  ·rw[Bi hk]
   subst hk
   exact⟨by simp,fun g h=>by simpa using h⟩
  ·rw[B1 hk]
   refine⟨?_,fun g h=>?_⟩
   ·rw[Fn]
    exact Bn _ i1
   ·rw[Fn]at h⊢
    rcases Fu.mp h with e|e
    ·exact Fu.mpr (.inl e)
    ·exact Bn _ (i2 g e)
theorem ou(f:Str)(v:V):∀fs:List (Str×V),(iQ f v fs).length<=fs.length+1
 |[]=>by simp[iQ]
 |(k,x)::r=>by
  have ih:=ou f v r
  rw[show iQ f v ((k,x)::r)=(if k=f then(k,v)::r else(k,x)::iQ f v r)from rfl]
  by_cases hk:k=f
  ·rw[Bi hk,List.length_cons,List.length_cons];lia
  ·rw[B1 hk,List.length_cons,List.length_cons];lia
theorem sH.some_of{v:V}{o:Option Value}(r:sH (some v) o):∃u,o=some u/\RelV v u:=by
 cases o with
 |none=>exact(show False from r).elim
 |some u=>exact⟨u,rfl,r⟩
theorem sH.none_of{o:Option Value}(r:sH none o):o=none:=by
 cases o with
 |none=>rfl
 |some u=>exact(show False from r).elim
theorem Dw{v:V}{u:Value}(r:RelV v u):PySem.W.handedIn u=true:=by
 cases v with
 |aU=>cases(show u=Value.none from r);rfl
 |bl b=>cases(show u=Value.bool b from r);rfl
 |int i=>obtain⟨t,e⟩:=(show∃t,u=Value.int i t from r);cases e;rfl
 |str x=>obtain⟨t,e⟩:=(show∃t,u=Value.str x t from r);cases e;rfl
 |E3 b=>obtain⟨t,e⟩:=(show∃t,u=Value.bytes b t from r);cases e;rfl
 |NQ b=>obtain⟨t,e⟩:=(show∃t,u=Value.float b t from r);cases e;rfl
 |ref a=>cases(show u=Value.ref a from r);rfl
 |ty n=>cases(show u=Value.type n from r);rfl
section
variable{P:Program}{w:World}{H H':Hp}{h h':Heap}{a C dx:Addr}{fs fs':List (Str×V)}
theorem pB(hok:lE P w H h)(e:H a=some (.ins C dx fs)):∃mA,zQ h a dx C mA/\(∀f,sH (fs.lookup f) (mA f))/\PySem.Within mA (fs.map (·.1))/\fs.length<=1000/\H dx=some (.own a):=by
 obtain⟨d,z,ne,ob,mA,n,r,q⟩:=(show bW P w H h a (.ins C dx fs)from hok a _ e)
 exact⟨mA,⟨ob,n,ne⟩,r,q,z,d⟩
end
structure Jy(K:PySem.W.Frag)(C:Addr):Prop where
 pg:PySem.W.plainGet K C Str.empty=true
 hd:PySem.W.hasDictIn K C=true
 po:PySem.W.plainOver K C=true
 sa:PySem.W.findIn K (.ref C) "__setattr__"=some (some (.builtin "object.__setattr__"))
theorem Jy.get{K:PySem.W.Frag}{C:Addr}(c:Jy K C)(f:Str):PySem.W.plainGet K C f=true:=c.pg
noncomputable def kO(K:PySem.W.Frag)(C:Addr)(f:Str):Prop:=PySem.W.findIn K (.ref C) f=some none
theorem kO.TZ{K:PySem.W.Frag}{C:Addr}{f:Str}(n:kO K C f):PySem.W.takerIn K C f=some none:=by
 unfold PySem.W.takerIn
 rw[show PySem.W.findIn K (.ref C) f=some none from n]
 rfl
structure Meth(K:PySem.W.Frag)(C:Addr)(m:Str)(f:Addr):Prop where
 at_:PySem.W.findIn K (.ref C) m=some (some (.ref f))
 fn:PySem.W.isFn K (.ref f)=true
 kp:PySem.W.keepIn K (.ref f)=true
section
variable{X:Cx}{pins:List (Addr×Obj)}{σ:St}{H:Hp}{s:Shared}{a C dx:Addr}{fs:List (Str×V)}{f:Str}{v:V}{A:Around}{E:Value->Shared->Prop}
theorem zS{b:Bool}{Q:Value->Shared->Prop}(I:Inv X pins σ H s)(e:H a=some (.ins C dx fs))(c:Jy X.K C)(n:kO X.K C f)(l:fs.lookup f=some v)
 (h:∀u s',Inv X pins σ H s'->RelV v u->Q u s'):wpAny (model X.prog X.w) A (getAttr (.ref a) f b) Q E s:=by
 obtain⟨mA,O,r,_,_,_⟩:=pB I.hok e
 obtain⟨u,hu,ru⟩:=sH.some_of (v:=v) (o:=mA f) (by rw[←l];exact r f)
 exact get_map I.j6 O (c.get f) c.hd n hu (Dw ru) (h u _ (I.tok _) ru)
theorem qa{m:Str}{g:Addr}{pl:Sem Bool}{Q:Value×List Value->Shared->Prop}(I:Inv X pins σ H s)(e:H a=some (.ins C dx fs))(c:Jy X.K C)(k:Meth X.K C m g)(l:fs.lookup m=none)
 (h:Q (.ref g,[.ref a]) s):wpAny (model X.prog X.w) A (getMethod (.ref a) m pl) Q E s:=by
 obtain⟨mA,O,r,_,_,_⟩:=pB I.hok e
 have hn:mA m=none:=sH.none_of (by rw[←l];exact r m)
 exact FA I.j6 O (c.get m) k.at_ k.fn hn h
theorem zT{y:V}{u:Value}{Q:Unit->Shared->Prop}(I:Inv X pins σ H s)(e:H a=some (.ins C dx fs))(c:Jy X.K C)(n:kO X.K C f)(hl:fs.length<1000)(ry:RelV y u)
 (h:∀s',Inv X pins σ (upd H a (.ins C dx (iQ f y fs))) s'->Q () s'):wpAny (model X.prog X.w) A (setAttr (.ref a) f u) Q E s:=by
 obtain⟨mA,O,r,wi,_,ho⟩:=pB I.hok e
 have hz:(fs.map (·.1)).length<=sizeLine:=by rw[Ap,sizeLine_eq];lia
 refine Jx I.j6 O c.sa c.po n.TZ c.hd wi hz fun h' O' sb=>h _ ?_
 have hd:∃o,h'.get? dx=some o:=let⟨o,_,_,e',_⟩:=O'.ns;⟨o,e'⟩
 refine I.write (x:=a) (e:=dx) (by rw[e];exact True.intro) (.inr ho) (fun b q hb z=>(sb.2 b hb).trans z) hd ?_
 refine⟨by rw[ai O.ne];exact ho,?_,O.ne,O'.obj,_,O'.ns,fun g=>?_,fun g hg=>?_⟩
 ·have:=ou f y fs;lia
 ·show sH ((iQ f y fs).lookup g) (if g=f then some u else mA g)
  rw[oq]
  by_cases q:g=f
  ·rw[Bi q,Bi q];exact ry
  ·rw[B1 q,B1 q];exact r g
 ·by_cases q:g=f
  ·rw[q];exact(nE f y fs).1
  ·refine(nE f y fs).2 g (wi g fun z=>hg ?_)
   show(if g=f then some u else mA g)=none
   rw[B1 q];exact z
theorem Inv.made(I:Inv X pins σ H s):Inv X pins σ (upd (upd H s.heap.objs.size (.own (s.heap.objs.size+1))) (s.heap.objs.size+1) (.ins C s.heap.objs.size []))
 {s with heap:=(s.heap.push PySem.W.emptyDict).push (PySem.W.instObj C s.heap.objs.size)}:=by
 have e1:(s.heap.push PySem.W.emptyDict).get? s.heap.objs.size=some PySem.W.emptyDict:=IH s.heap rfl
 have e2:((s.heap.push PySem.W.emptyDict).push (PySem.W.instObj C s.heap.objs.size)).get? (s.heap.objs.size+1)=some (PySem.W.instObj C s.heap.objs.size):=by
  have:=IH (s.heap.push PySem.W.emptyDict) (o:=PySem.W.instObj C s.heap.objs.size) rfl
  rwa [Heap.size_push]at this
 have e3:(s.heap.push PySem.W.emptyDict).Ns s.heap.objs.size (fun _=>none):=⟨PySem.W.emptyDict,#[],_,e1,rfl,(fun e he=>absurd he (by simp)),fun _=>rfl⟩
 have I1:=I.laid (a:=s.heap.objs.size) (o:=.own (s.heap.objs.size+1)) (h':=s.heap.push PySem.W.emptyDict) (t':=s.toks) (fun b u q=>DL _ q) (Do _) ⟨_,e1⟩
 refine I1.laid (a:=s.heap.objs.size+1) (o:=.ins C s.heap.objs.size []) (t':=s.toks) (fun b u q=>DL _ q) (Nat.le_of_eq (Heap.size_push _ _)) ?_
 have ne:s.heap.objs.size≠s.heap.objs.size+1:=Jn (RF _)
 refine⟨by rw[ai ne,aD],NM _,ne,e2,fun _=>none,(Heap.Ns1.of_empty e3).at fun o q=>DL _ q,fun _=>True.intro,fun y hy=>absurd rfl hy⟩
theorem Jz{prog:Program}{w:World}{env:Env}{e:Expr}{f:Str}{pos:Pos}{s:Shared}{Q:Value->Shared->Prop}(hb:attributeBase e f env (eval e env)=eval e env)
 (h:wpAny (model prog w) A (eval e env) (fun o s₁=>wpAny (model prog w) A (getAttr o f true) Q E s₁) E s):wpAny (model prog w) A (eval (.Attribute e f pos) env) Q E s:=
 Attribute_any_ h (by rw[arm_eval_Attribute,hb])
end
noncomputable def WX(K:PySem.W.Frag)(ta:TE)(f:Str):TE:=fun σ H Q=>ta σ H fun x H1=>∃a C dx fs v,x=.ref a/\H1 a=some (.ins C dx fs)/\Jy K C/\kO K C f/\fs.lookup f=some v/\Q v H1
noncomputable def T3(K:PySem.W.Frag)(ta tv:TE)(f:Str):TS:=fun D σ H=>tv σ H fun y H1=>ta σ H1 fun x H2=>∃a C dx fs,x=.ref a/\H2 a=some (.ins C dx fs)/\Jy K C/\kO K C f/\fs.length<1000/\
 D.nx σ (upd H2 a (.ins C dx (iQ f y fs)))
section
variable{X:Cx}{o e value:Expr}{f:Str}{pos pos' tpos:Pos}{ta tv:TE}
theorem Oo(he:PE X e ta)(hb:attributeBase e f X.env (eval e X.env)=eval e X.env):PE X (.Attribute e f pos) (WX X.K ta f):=by
 intro pins s σ H Q I h
 refine Jz hb (bE (he pins s σ H _ I h) fun u s1 ⟨x,H1,I1,rx,a,C,dx,fs,v,ex,ea,c,n,l,q⟩=>?_)
 subst ex
 obtain rfl:u=Value.ref a:=rx
 exact zS I1 ea c n l fun u' s2 I2 ru=>⟨v,H1,I2,ru,q⟩
theorem gG(ha:PE X o ta)(hv:PE X value tv)(hs:swapsWith value (some (.Attribute o f pos')) pos.line X.env=pure false):PS X (.Assign [.Attribute o f pos'] value pos) (T3 X.K ta tv f):=by
 intro pins s σ H D I h
 refine plainObj_wpAny_Assign_Attribute (bE (hv pins s σ H _ I h) fun u s1 ⟨y,H1,I1,ry,q⟩=>bE (ha pins s1 σ H1 _ I1 q) fun ov s2 ⟨x,H2,I2,rx,a,C,dx,fs,ex,ea,c,n,l,q2⟩=>?_) hs
 subst ex
 obtain rfl:ov=Value.ref a:=rx
 exact zT I2 ea c n l ry fun s3 I3=>⟨σ,_,I3,q2⟩
end
section
variable{X:Cx}{pins:List (Addr×Obj)}{σ:St}{H:Hp}{s:Shared}{A:Around}{E:Value->Shared->Prop}{Q:Value->Shared->Prop}{c:Value}{b:Bool}
inductive oR(K:PySem.W.Frag)(H:Hp):V->Value->Prop where
 |aU:oR K H .aU (.type "NoneType")
 |bl (x:Bool):oR K H (.bl x) (.type "bool")
 |int (i:Int):oR K H (.int i) (.type "int")
 |str (x:Str):oR K H (.str x) (.type "str")
 |NQ (x:UInt64):oR K H (.NQ x) (.type "float")
 |lst {a:Addr} {xs:List V} (e:H a=some (.lst xs)):oR K H (.ref a) (.type "list")
 |xr {a:Addr} {o:Obj} {xs:List V} (e:H a=some (.xr o (.lst xs))):oR K H (.ref a) (.type "list")
 |tup {a:Addr} {xs:List V} (e:H a=some (.tup xs)):oR K H (.ref a) (.type "tuple")
 |dK {a:Addr} {kvs:List (Key×V)} (e:H a=some (.dK kvs)):oR K H (.ref a) (.type "dict")
 |dT {a:Addr} {kvs:List (List Key×V)} (e:H a=some (.dT kvs)):oR K H (.ref a) (.type "dict")
 |ins {a C dx:Addr} {fs:List (Str×V)} (e:H a=some (.ins C dx fs)) (cl:Jy K C) (ha:PySem.W.findIn K (.ref C) "__class__"=some (some (.builtin "object.__class__")))
   (hn:PySem.W.specialIn K (.builtin "object.__class__") "__get__"=some (some (.builtin "getset_descriptor.__get__"))) (htk:PySem.W.takesIn K (.builtin "object.__class__")=some true)
   (hm:PySem.W.mroIn K C (.type "object")=some true):oR K H (.ref a) (.ref C)
theorem fM{x:V}{u t:Value}(I:Inv X pins σ H s)(rx:RelV x u)(ty:oR X.K H x t)(e:PySem.W.kitOne X.K t c=some b)(h:∀tk,Q (.bool b) {s with toks:=tk}):
 wpAny (model X.prog X.w) A (call (.builtin "isinstance") [u,c]) Q E s:=by
 cases ty with
 |aU=>cases(show u=Value.none from rx);exact QP PySem.W.kitx_none I.j6 True.intro e (fun z=>nomatch z) h
 |bl y=>cases(show u=Value.bool y from rx);exact QP PySem.W.kitx_bool I.j6 True.intro e (fun z=>nomatch z) h
 |int i=>obtain⟨t,q⟩:=(show∃t,u=Value.int i t from rx);cases q;exact QP PySem.W.kitx_int I.j6 True.intro e (fun z=>nomatch z) h
 |str y=>obtain⟨t,q⟩:=(show∃t,u=Value.str y t from rx);cases q;exact QP PySem.W.kitx_str I.j6 True.intro e (fun z=>nomatch z) h
 |NQ y=>obtain⟨t,q⟩:=(show∃t,u=Value.float y t from rx);cases q;exact QP PySem.W.kitx_float I.j6 True.intro e (fun z=>nomatch z) h
 |@lst a xs ea=>
  cases(show u=Value.ref a from rx)
  obtain⟨_,_,n,_,h1⟩:=(show bW X.prog X.w H s.heap a (.lst xs)from I.hok a _ ea)
  exact QP PySem.W.kitx_list I.j6 ⟨_,h1,rfl⟩ e (fun z=>nomatch z) h
 |@xr a ob xs ea=>
  cases(show u=Value.ref a from rx)
  obtain⟨_,_,_,n,_,h1⟩:=(show bW X.prog X.w H s.heap a (.xr ob (.lst xs))from I.hok a _ ea)
  exact QP PySem.W.kitx_list I.j6 ⟨_,h1,rfl⟩ e (fun z=>nomatch z) h
 |@tup a xs ea=>
  cases(show u=Value.ref a from rx)
  obtain⟨_,_,_,p⟩:=(show bW X.prog X.w H s.heap a (.tup xs)from I.hok a _ ea)
  obtain⟨o,h1,h2,_⟩:=p
  exact QP PySem.W.kitx_tuple I.j6 ⟨o,h1,h2⟩ e (fun z=>nomatch z) h
 |@dK a kvs ea=>
  cases(show u=Value.ref a from rx)
  obtain⟨_,_,vs,_,p⟩:=(show bW X.prog X.w H s.heap a (.dK kvs)from I.hok a _ ea)
  obtain⟨o,es,ep,h1,h2,_⟩:=p
  exact QP PySem.W.kitx_dict I.j6 ⟨o,h1,h2.1⟩ e (fun z=>nomatch z) h
 |@dT a kvs ea=>
  cases(show u=Value.ref a from rx)
  obtain⟨_,_,xs,_,o,es,ep,h1,h2,_⟩:=(show bW X.prog X.w H s.heap a (.dT kvs)from I.hok a _ ea)
  exact QP PySem.W.kitx_dict I.j6 ⟨o,h1,h2.1⟩ e (fun z=>nomatch z) h
 |@ins a C dx fs ea cl ha hn htk hm=>
  cases(show u=Value.ref a from rx)
  obtain⟨mA,O,_⟩:=pB I.hok ea
  obtain⟨od,J,_⟩:=O.look
  exact QP (PySem.W.kitx_own (cl.get _) cl.hd ha hn htk hm) I.j6 J e (fun z=>nomatch z) h
end
structure cH(k:Nat)(A:Around):Prop where
 hd:A.handled=none
 dp:A.depth+3*k+5<recursionLimit
 un:A.units+16*k+200<cLine
theorem cH.mono{j k:Nat}{A:Around}(r:cH k A)(h:j<=k):cH j A:=⟨r.hd,by have:=r.dp;lia,by have:=r.un;lia⟩
theorem cH.deeper{k:Nat}{A:Around}(r:cH (k+1) A)(env:Env):cH k (A.deeper env):=
 ⟨r.hd,by have:=r.dp;show A.depth+1+3*k+5<_;lia,by have:=r.un;show A.units+3+16*k+200<_;lia⟩
theorem zU{A:Around}{C:Addr}{us:List Value}{kw:List (Str×Value)}:(A.under (.builtin "type.__call__" ⟨.ref C::us,kw⟩)).depth=A.depth+1:=by
 first|rfl|simp[Around.under,Code.weight,Code.isCreation,Code.isGuard,Code.isCaller,Code.frames,Code.isFrame,guardIds]
theorem zV{A:Around}{C:Addr}{us:List Value}{kw:List (Str×Value)}:(A.under (.builtin "type.__call__" ⟨.ref C::us,kw⟩)).units=A.units+1:=by
 first|rfl|simp[Around.under,Code.cUnits,Code.frames,Code.isFrame]
theorem cH.make{k:Nat}{A:Around}(r:cH (k+1) A)(C:Addr)(us:List Value)(kw:List (Str×Value)):cH k (A.under (.builtin "type.__call__" ⟨.ref C::us,kw⟩)):=
 ⟨r.hd,by have:=r.dp;rw[zU];omega,by have:=r.un;rw[zV];omega⟩
theorem cH.depth{k:Nat}{A:Around}(r:cH k A):A.depth<recursionLimit:=by have:=r.dp;lia
theorem cH.units{k:Nat}{A:Around}(r:cH k A):A.units+64<cLine:=by have:=r.un;lia
noncomputable def T4:TA:=fun _ H Q=>Q [] H
noncomputable def MJ(ta:TE)(tr:TA):TA:=fun σ H Q=>ta σ H fun x H1=>tr σ H1 fun xs H2=>Q (x::xs) H2
section
variable{X:Cx}{e:Expr}{es:List Expr}{te:TE}{t:TA}{pos:Pos}
theorem aZ:PA X [] T4:=fun _ _ _ _ H Q I h=>Calls.spliced_nil ⟨[],H,I,.nil,h⟩
theorem au(ha:PE X e te)(hr:PA X es t)(hs:starEach (e::es) X.env=(false,eval e X.env)::starEach es X.env:=by rfl):PA X (e::es) (MJ te t):=by
 intro pos pins s σ H Q I h
 rw[hs]
 show wpAny _ _ (spliced ((false,eval e X.env)::backTo pos (starEach es X.env))) _ _ s
 refine Calls.spliced_cons (bE (ha pins s σ H _ I h) fun u s1 ⟨x,H1,I1,r1,q1⟩=>?_)
 exact bE (hr pos pins s1 σ H1 _ I1 q1)<|by rintro us s2 ⟨xs,H2,I2,r2,q2⟩;exact⟨x::xs,H2,I2,.cons r1 r2,q2⟩
noncomputable def WY(t:TA):TE:=fun σ H Q=>t σ H fun xs H1=>xs.length<=sizeLine/\∀p,H1 p=none->Q (.ref p) (upd H1 p (.tup xs))
noncomputable def WZ(t:TA):TE:=fun σ H Q=>t σ H fun xs H1=>xs.length<=sizeLine/\∀p,H1 p=none->Q (.ref p) (upd H1 p (.lst xs))
theorem FE{x1}(h:PA X es t):PE X (.Tuple es x1 pos) (WY t):=by
 intro pins s σ H Q I hq
 refine wpAny_Tuple_spliced (bE (h pos pins s σ H _ I hq) fun us s1 ⟨xs,H1,I1,r,z,q⟩=>⟨by rw[←r.length];exact z,?_⟩)
 have hf:H1 s1.heap.objs.size=none:=I1.hok.fresh (Do _)
 refine⟨.ref s1.heap.objs.size,upd H1 s1.heap.objs.size (.tup xs),I1.laid (t':=s1.toks) (fun b u e=>DL _ e) (Do _) ?_,rfl,q _ hf⟩
 exact⟨z,us,r,⟨_,IH _ rfl,rfl,_,rfl⟩⟩
theorem uO(h:PA X es t):PE X (.List es pos) (WZ t):=by
 intro pins s σ H Q I hq
 refine wpAny_List_spliced (bE (h pos pins s σ H _ I hq) fun us s1 ⟨xs,H1,I1,r,z,q⟩=>⟨by rw[←r.length];exact z,?_⟩)
 have hf:H1 s1.heap.objs.size=none:=I1.hok.fresh (Do _)
 refine⟨.ref s1.heap.objs.size,upd H1 s1.heap.objs.size (.lst xs),I1.laid (t':=s1.toks) (fun b u e=>DL _ e) (Do _) ?_,rfl,q _ hf⟩
 exact⟨z,us,0,r,IH _ rfl⟩
end
abbrev Sp:=List V->Hp->VK->XK->Prop
abbrev Dy:=List Env->Hp->Shared->XK->Value->Shared->Prop
structure zW(P:Program)(w:World)(K:PySem.W.Frag)(mg:Str->Option Value)(base:Heap)(A:Around)(outer:List Env)(s:Shared)(H:Hp):Prop where
 frames:A.frames=some outer
 mod:Mod K mg base
 bs:∀b o,base.get? b=some o->s.heap.get? b=some o/\H b=none
 IZ:base.objs.size<=s.heap.objs.size
 ny:s.heap.FunFrames base outer
 MD:∀b∈frs outer,H b=none
 hok:lE P w H s.heap
 bare:AllBare s.gens
noncomputable def CE(outer:List Env)(P:Program)(w:World)(H:Hp)(s:Shared)(Q:VK)(u:Value)(s':Shared):Prop:=
 ∃v H',s'.os=s.os/\AllBare s'.gens/\Un (frs outer) [] H H' s.heap s'.heap/\lE P w H' s'.heap/\RelV v u/\Q v H'
noncomputable def CR(CX:Dy)(outer:List Env)(P:Program)(w:World)(H:Hp)(s:Shared)(Q:VK)(E:XK)(r:Result)(s':Shared):Prop:=
 match r with
 |.ok (.ret u)=>CE outer P w H s Q u s'
 |.ok _=>False
 |.error e=>CX outer H s E e s'
structure aH(P:Program)(w:World)(K:PySem.W.Frag)(mg:Str->Option Value)(base:Heap)(CX:Dy)(k:Nat)(f:Addr)(fd:FuncData)(ps:List Str)(sp:Sp):Prop where
 len:∀vs H Q E,sp vs H Q E->vs.length=ps.length
 run:∀(A:Around) (outer:List Env) (s:Shared) (H:Hp) (args:Args) (us:List Value) (vs:List V) (Q:VK) (E:XK),cH k A->zW P w K mg base A outer s H->BindsTo s fd args (ps.zip us)->Vals vs us->sp vs H Q E->
  codeAny (model P w) A (.call (.ref f) args) (CR CX outer P w H s Q E) s
theorem aH.imp{P:Program}{w:World}{K:PySem.W.Frag}{mg:Str->Option Value}{base:Heap}{CX:Dy}{k:Nat}{f:Addr}{fd:FuncData}{ps:List Str}{sp Y3:Sp}(F:aH P w K mg base CX k f fd ps sp)
 (h:∀vs H Q E,Y3 vs H Q E->sp vs H Q E):aH P w K mg base CX k f fd ps Y3:=
 ⟨fun vs H Q E q=>F.len vs H Q E (h _ _ _ _ q),fun A outer s H args us vs Q E hr he hb hv hs=>F.run A outer s H args us vs Q E hr he hb hv (h _ _ _ _ hs)⟩
theorem zW.make{P:Program}{w:World}{K:PySem.W.Frag}{mg:Str->Option Value}{base:Heap}{A:Around}{outer:List Env}{s:Shared}{H:Hp}(e:zW P w K mg base A outer s H)(C:Addr)(us:List Value)(kw:List (Str×Value)):
 zW P w K mg base (A.under (.builtin "type.__call__" ⟨.ref C::us,kw⟩)) outer s H:=⟨by first|exact e.frames|(simpa[Around.under,Code.envs,Code.isFrame,pushEnvs]using e.frames),e.mod,e.bs,e.IZ,e.ny,e.MD,e.hok,e.bare⟩
section
variable{X:Cx}{pins:List (Addr×Obj)}{σ:St}{H:Hp}{s s':Shared}
theorem Inv.Oq(I:Inv X pins σ H s):zW X.prog X.w X.K X.mg X.base X.A X.stack s H:=
 ⟨I.ok.frames,I.ok.mod,I.bs,FC I.ok.IZ I.sz,I.stack,I.jP,I.hok,I.bare⟩
theorem Inv.after{Q:VK}{u:Value}(I:Inv X pins σ H s)(h:CE X.stack X.prog X.w H s Q u s'):EP X pins σ Q u s':=by
 obtain⟨v,H',os,bare,un,hok,r,q⟩:=h
 obtain⟨hh,g,d,t,os'⟩:=s'
 obtain rfl:os'=s.os:=os
 exact⟨v,H',I.call (h':=hh) (g':=g) (d':=d) (t':=t) (ch:=[]) un hok bare (fun b z=>absurd z (by simp)),r,q⟩
end
noncomputable def T5(sp:Sp)(zX:List V)(E:XK)(t:TA):TE:=fun σ H Q=>t σ H fun vs H1=>sp (vs++zX) H1 Q E
noncomputable def Binds(K:PySem.W.Frag)(fd:FuncData)(ps:List Str)(ds:List Value):Prop:=
 ∀(s:Shared) (us:List Value),K.In s.heap->(us++ds).length=ps.length->BindsTo s fd ⟨us,[]⟩ (ps.zip (us++ds))
theorem Binds.all{K:PySem.W.Frag}{fd:FuncData}{ps:List Str}(h:∀us:List Value,us.length=ps.length->bindArgs fd ⟨us,[]⟩=pure (ps.zip us)):Binds K fd ps []:=fun s us _ hl=>by
 rw[L9]at hl⊢
 exact .of_eq (h us hl)
noncomputable def Passes(CX:Dy)(X:Cx)(E:XK):Prop:=∀(pins:List (Addr×Obj)) (σ:St) (H:Hp) (s:Shared) (e:Value) (s':Shared),Inv X pins σ H s->CX X.stack H s E e s'->X.xe e s'
section
variable{X:Cx}{CX:Dy}{k:Nat}{f C:Addr}{fd:FuncData}{ps:List Str}{sp:Sp}{zX:List V}{ds:List Value}{E:XK}{x m:Str}{p pos apos:Pos}{e o:Expr}{es:List Expr}{ta:TE}{t:TA}
theorem uP{pins:List (Addr×Obj)}{σ:St}{H:Hp}{s:Shared}{Q:VK}{us:List Value}{vs:List V}(F:aH X.prog X.w X.K X.mg X.base CX k f fd ps sp)(hr:cH k X.A)(hb:Binds X.K fd ps ds)(hd:Vals zX ds)(hx:Passes CX X E)
 (I:Inv X pins σ H s) (r:Vals vs us) (h:sp (vs++zX) H Q E):wpAny (model X.prog X.w) X.A (call (.ref f) us) (EP X pins σ Q) X.xe s:=by
 have r2:Vals (vs++zX) (us++ds):=r.append hd
 have hl:(us++ds).length=ps.length:=by rw[←r2.length];exact F.len _ _ _ _ h
 refine wpAny_call (codeAny_mono (F.run X.A X.stack s H ⟨us,[]⟩ (us++ds) (vs++zX) Q E hr I.Oq (hb s us I.j6 hl) r2 h) fun r s' hq=>?_)
 cases r with
 |error e=>exact hx pins σ H s e s' I hq
 |ok fl=>
  cases fl with
  |ret u=>exact I.after hq
  |next=>exact False.elim hq
  |brk=>exact False.elim hq
  |cont=>exact False.elim hq
theorem JA(F:aH X.prog X.w X.K X.mg X.base CX k f fd ps sp)(hr:cH k X.A)(hg:Gl X x)(hm:X.mg x=some (.ref f))(hk:PySem.W.keepIn X.K (.ref f)=true)(hb:Binds X.K fd ps ds)(hd:Vals zX ds)(hx:Passes CX X E)
 (ha:PA X (e::es) t) (hdb:(x==("__debug__":Str))=false:=by decide) (he:starEach (e::es) X.env=(false,eval e X.env)::starEach es X.env:=by rfl) (hpl:(backTo pos (starEach es X.env)).any (·.1)=false:=by rfl):
 PE X (.Call (.Name x p) (e::es) [] pos) (T5 sp zX E t):=by
 intro pins s σ H Q I h
 refine UV (gw I hg hm ?_ hdb)
 refine cq (h₀:=X.base) I.ok.mod.Jo hk (bE (ha pos pins s σ H _ I h) fun us s1 ⟨vs,H1,I1,r,q⟩=>⟨I1.j6,?_⟩) he hpl
 exact uP F hr hb hd hx I1 r q
structure Mk(K:PySem.W.Frag)(C f:Addr):Prop where
 makes:PySem.W.makesIn K C=true
 init:PySem.W.findIn K (.ref C) "__init__"=some (some (.ref f))
 fn:PySem.W.isFn K (.ref f)=true
 kp:PySem.W.keepIn K (.ref C)=true
theorem FF{pins:List (Addr×Obj)}{σ:St}{H:Hp}{s:Shared}{Q:VK}{us:List Value}{vs:List V}(M:Mk X.K C f)(F:aH X.prog X.w X.K X.mg X.base CX k f fd ps sp)(hr:cH (k+1) X.A)(hb:Binds X.K fd ps ds)(hd:Vals zX ds)
 (hx:Passes CX X E) (I:Inv X pins σ H s) (r:Vals vs us)
 (h:∀x dx,H x=none->H dx=none->dx≠x->sp (.ref x::(vs++zX)) (upd (upd H dx (.own x)) x (.ins C dx [])) (fun v H2=>v=.aU/\Q (.ref x) H2) E):
 wpAny (model X.prog X.w) X.A (call (.ref C) us) (EP X pins σ Q) X.xe s:=by
 have hq:=h (s.heap.objs.size+1) s.heap.objs.size (I.hok.fresh (Nat.le_succ _)) (I.hok.fresh (Do _)) (Jn (RF _))
 have I2:=Inv.made (C:=C) I
 have r2:Vals (V.ref (s.heap.objs.size+1)::(vs++zX)) (Value.ref (s.heap.objs.size+1)::(us++ds)):=.cons rfl (r.append hd)
 have hl:(Value.ref (s.heap.objs.size+1)::us++ds).length=ps.length:=by
  have e:=r2.length
  rw[F.len _ _ _ _ hq]at e
  exact e.symm
 refine wpAny_call (FD (f:=f) I.j6 M.makes M.init (N0.mp M.fn) (codeAny_mono (F.run _ X.stack _ _ ⟨Value.ref (s.heap.objs.size+1)::us,[]⟩ (Value.ref (s.heap.objs.size+1)::(us++ds)) _ _ E (hr.make C us [])
  (I2.Oq.make C us []) (hb _ (Value.ref (s.heap.objs.size+1)::us) I2.j6 hl) r2 hq) fun r s' hq'=>?_))
 cases r with
 |error e=>exact hx pins σ _ _ e s' I2 hq'
 |ok fl=>
  cases fl with
  |ret u=>
   obtain⟨v,H',I3,rv,ev,q3⟩:=I2.after hq'
   subst ev
   exact⟨rv,⟨V.ref (s.heap.objs.size+1),H',I3,rfl,q3⟩⟩
  |next=>exact False.elim hq'
  |brk=>exact False.elim hq'
  |cont=>exact False.elim hq'
end
section
variable{X:Cx}{CX:Dy}{k:Nat}{f C:Addr}{fd:FuncData}{ps ks:List Str}{sp:Sp}{E:XK}{x m:Str}{p pos apos kpos:Pos}{e o:Expr}{es:List Expr}{kws:List Keyword}{te ta:TE}{t tk:TA}{nm:Option Str}
variable{g:List Value->List Value->List Value}{gV:List V->List V->List V}
end
structure az(N P:List Str)(sc:Scope):Prop where
 kind:sc.kind=.function
 co:sc.isCoroutine=false
 gen:sc.isGenerator=false
 nd:N.Nodup
 pre:N.take P.length=P
 par:∀x∈P,sc.names.lookup x=some .local\/sc.names.lookup x=some .cell
 Ot:∀y∈sc.names,y.2≠.free
theorem tN{kindOf:Str->Option NameKind}{x:Str}:∀{binds:List (Str×Value)} {m:Str->Option Value},(∀v,(x,v)∉binds)->bindL kindOf binds m x=m x
 |[],_,_=>rfl
 |(n,v)::r,m,h=>by
  unfold bindL
  rw[tN fun w hw=>h w (Bn _ hw)]
  split
  ·have:x≠n:=by rintro rfl;exact h v DD
   simp[this]
  ·rfl
theorem tO{kindOf:Str->Option NameKind}{x:Str}:∀{binds:List (Str×Value)} {m:Str->Option Value},(∀v,(x,v)∉binds)->bindC kindOf binds m x=m x
 |[],_,_=>rfl
 |(n,v)::r,m,h=>by
  unfold bindC
  rw[tO fun w hw=>h w (Bn _ hw)]
  split
  ·rfl
  ·have:x≠n:=by rintro rfl;exact h v DD
   simp[this]
theorem tQ{kindOf:Str->Option NameKind}{x:Str}{v:Value}:∀{P:List Str} {vs:List Value} {i:Nat} {m:Str->Option Value},P.Nodup->P[i]?=some x->vs[i]?=some v->kindOf x=some .local->
 bindL kindOf (P.zip vs) m x=some v
 |[],_,_,_,_,h,_,_=>by simp at h
 |_::_,[],_,_,_,_,h,_=>by simp at h
 |p::P,w::vs,0,m,nd,h1,h2,hk=>by
  simp at h1 h2;subst h1;subst h2
  show bindL kindOf ((p,w)::P.zip vs) m p=_
  unfold bindL
  rw[tN fun v hv=>(SU.mp nd).1 (List.of_mem_zip hv).1,Bi hk]
  simp
 |p::P,w::vs,i+1,m,nd,h1,h2,hk=>by
  show bindL kindOf ((p,w)::P.zip vs) m x=_
  unfold bindL
  exact tQ (i:=i) (SU.mp nd).2 (by simpa using h1) (by simpa using h2) hk
theorem tR{kindOf:Str->Option NameKind}{x:Str}{v:Value}:∀{P:List Str} {vs:List Value} {i:Nat} {m:Str->Option Value},P.Nodup->P[i]?=some x->vs[i]?=some v->kindOf x≠some .local->
 bindC kindOf (P.zip vs) m x=some v
 |[],_,_,_,_,h,_,_=>by simp at h
 |_::_,[],_,_,_,_,h,_=>by simp at h
 |p::P,w::vs,0,m,nd,h1,h2,hk=>by
  simp at h1 h2;subst h1;subst h2
  show bindC kindOf ((p,w)::P.zip vs) m p=_
  unfold bindC
  rw[tO fun v hv=>(SU.mp nd).1 (List.of_mem_zip hv).1,B1 hk]
  simp
 |p::P,w::vs,i+1,m,nd,h1,h2,hk=>by
  show bindC kindOf ((p,w)::P.zip vs) m x=_
  unfold bindC
  exact tR (i:=i) (SU.mp nd).2 (by simpa using h1) (by simpa using h2) hk
noncomputable def start(N:List Str)(vs:List V):St:=vs.map some++List.replicate (N.length -vs.length) none
noncomputable def zY(CX:Dy)(P:Program)(w:World)(K:PySem.W.Frag)(mg:Str->Option Value)(base:Heap)(N:List Str)(qual:Str)(scope:Scope)(f:Addr)(cd:Value)(A:Around)(outer:List Env)(s:Shared)(H:Hp)(E:XK):Cx where
 prog:=P
 w:=w
 K:=K
 mg:=mg
 base:=base
 A:=A.deeper (envOfC qual scope s.heap.objs.size f cd)
 N:=N
 s₀:=s
 H₀:=H
 env:=envOfC qual scope s.heap.objs.size f cd
 outer:=outer
 stack:=envOfC qual scope s.heap.objs.size f cd::outer
 ex:=[]
 calm:=true
 fn:=fun _=>true
 pn:=[]
 xe:=fun e s'=>wpAny (model P w) (A.deeper (envOfC qual scope s.heap.objs.size f cd)) (leaving (envOfC qual scope s.heap.objs.size f cd) e) (fun _ s''=>CX outer H s E e s'') (fun e' s''=>CX outer H s E e' s'') s'
theorem xy{sc:Scope}{n:Nat}{x:Str}(h:sc.names.lookup x=some .cell):∃c,(cellsFrom n sc.names []).lookup x=some c:=by
 have q:=PySem.W.cellsFrom_some sc.names n [] (.inl h)
 exact Ta.mp q
theorem Dz{CX:Dy}{P:Program}{w:World}{K:PySem.W.Frag}{mg:Str->Option Value}{base:Heap}{N ps:List Str}{qual:Str}{scope:Scope}{f:Addr}{cd:Value}{A:Around}{outer:List Env}{s s1:Shared}{H:Hp}{E:XK}{us:List Value}{vs:List V}
 (S:az N ps scope) (hd:A.handled=none) (e0:zW P w K mg base A outer s H) (hl:vs.length=ps.length) (r:Vals vs us)
 (x:InCallC s s.heap.objs.size (bindL (envOfC qual scope s.heap.objs.size f cd).kindOf (ps.zip us) fun _=>none) (cellsFrom (s.heap.objs.size+1) scope.names []) (bindC (envOfC qual scope s.heap.objs.size f cd).kindOf (ps.zip us) fun _=>none) s1):
 Inv (zY CX P w K mg base N qual scope f cd A outer s H E) [] (start N vs) H s1:=by
 have hpl:ps.length<=N.length:=by have:=TB List.length S.pre;rw[bj]at this;lia
 obtain⟨h1,tk,rfl,hk⟩:=x.done
 have T6:∀b:Addr,b∉(zY CX P w K mg base N qual scope f cd A outer s H E).ex:=fun b z=>absurd (show b∈([]:List Addr)from z) (by simp)
 refine⟨⟨e0.mod,S.kind,rfl,rfl,Do _,fun y z c h1 h2=>?_,fun y hy=>?_,fun y c _ h=>?_,fun _=>hd,Around.frames_deeper e0.frames,.inr ⟨rfl,rfl⟩,fun b z=>absurd z (T6 b),e0.bs,e0.IZ,fun b _ _=>T6 b,fun b z=>absurd z (T6 b),e0.ny,e0.MD⟩,
  rfl,e0.bare,Un.kept hk,⟨_,x.toInCall.ns,fun i y v h1 h2 h3=>?_⟩,fun y c h=>⟨_,x.cell y c h⟩,e0.hok.fresh (Do _),fun y c h=>?_,fun p hp=>absurd (show p∈([]:List (Addr×Obj))from hp) (by simp),e0.hok.kept hk,?_⟩
 ·exact name_of_addr x.apart (Pi h1) (Pi h2)
 ·have hy:scope.names.lookup y=some .cell\/scope.names.lookup y=some .free:=hy
  rcases hy with hy|hy
  ·exact xy hy
  ·exact absurd rfl (S.Ot _ (Pi hy))
 ·exact SL (x.above y c (Pi h))
 ·have hi:i<vs.length:=by
   unfold start at h2
   by_cases hi:i<vs.length
   ·exact hi
   ·rw[Nw (by simpa using hi)]at h2
    rw[Wp]at h2
    split at h2<;>cases h2
  have ha:vs[i]?=some v:=by
   unfold start at h2
   rw[OF (by simpa using hi),FS]at h2
   cases e:vs[i]? with
   |none=>rw[e]at h2;cases h2
   |some a=>rw[e]at h2;cases h2;rfl
  obtain⟨u,hu,rv⟩:=r.get ha
  have hp:ps[i]?=some y:=by
   rw[←S.pre,List.getElem?_take_of_lt (by lia)];exact h1
  have Y4:ps.Nodup:=by rw[←S.pre];exact S.nd.sublist (List.take_sublist _ _)
  refine⟨u,rv,?_⟩
  rcases S.par y (Pm hp)with k|k
  ·exact .inl ⟨k,tQ Y4 hp hu k⟩
  ·obtain⟨c,e⟩:=xy (n:=s.heap.objs.size+1) k
   refine .inr ⟨.inl k,c,e,?_⟩
   have q:=x.cell y c e
   rw[tR Y4 hp hu (by show scope.names.lookup y≠_;rw[k];decide)]at q
   exact q
 ·exact e0.hok.fresh (SL (x.above y c (Pi h)))
 ·unfold start
  show _=N.length
  rw[Ee,Ap,TC]
  lia
theorem MK{CX:Dy}{P:Program}{w:World}{K:PySem.W.Frag}{mg:Str->Option Value}{base:Heap}{k:Nat}{f:Addr}{name qual:Str}{params:Arguments}{body:List Stmt}{scope:Scope}{dV kV doc pm cdv ct oc:Value}{an od:Option Addr}
 {osl:Array (Option Value)} {N ps:List Str} {sp:Sp} (lk:K.lookup f=some ⟨oc,od,.func (PySem.W.fnOf name qual params body scope dV kV doc pm an cdv ct),osl⟩) (hcd:PySem.W.codeIn K cdv qual=true) (S:az N ps scope)
 (len:∀vs H Q E,sp vs H Q E->vs.length=ps.length)
 (hbody:∀(A:Around) (outer:List Env) (s:Shared) (H:Hp) (vs:List V) (Q:VK) (E:XK),cH k (A.deeper (envOfC qual scope s.heap.objs.size f cdv))->sp vs H Q E->
   ∃t,sI (zY CX P w K mg base N qual scope f cdv A outer s H E) body t/\t {nx:=fun _ H'=>Q .aU H',rt:=Q} (start N vs) H):
 aH P w K mg base CX (k+1) f (PySem.W.fnOf name qual params body scope dV kV doc pm an cdv ct) ps sp:=by
 refine⟨len,fun A outer s H args us vs Q E hr e0 hb r tS=>?_⟩
 have hl:=len _ _ _ _ tS
 have KX:K.In s.heap:=e0.mod.Jo.keeps fun b o e=>(e0.bs b o e).1
 have lim:s.heap.NoLimit:=e0.mod.nolimit.keeps fun b o e=>(e0.bs b o e).1
 have hkind:∀y∈ps.zip us,scope.names.lookup y.1=some .local\/(scope.names.lookup y.1=some .cell/\((cellsFrom (s.heap.objs.size+1) scope.names []).lookup y.1).isSome=true):=by
  rintro⟨n,v⟩ hy
  rcases S.par n (List.of_mem_zip hy).1 with q|q
  ·exact .inl q
  ·exact .inr ⟨q,PySem.W.cellsFrom_some _ _ _ (.inl q)⟩
 refine codeAny_call_function hr.depth (KX _ _ lk) rfl S.co S.gen rfl (PySem.W.codeRec_of KX hcd) (hb _ _ _ _ ?_)
 refine wpAny_newFunctionEnv_cells S.kind hkind fun env he s1 x=>?_
 subst he
 refine⟨lim.keeps x.toInCall.keep,codeAny_func ?_⟩
 obtain⟨t,ht,hq⟩:=hbody A outer s H vs Q E (hr.deeper _) tS
 have I:Inv (zY CX P w K mg base N qual scope f cdv A outer s H E) [] (start N vs) H s1:=Dz S hr.hd e0 hl r x
 refine X1 (ht [] s1 (start N vs) H _ I hq) (fun fl s' hs=>?_) fun e s' hs=>hs
 have fin:∀{σ':St} {H':Hp} {v:V} {u:Value},Inv (zY CX P w K mg base N qual scope f cdv A outer s H E) [] σ' H' s'->RelV v u->Q v H'->CE outer P w H s Q u s':=
  fun{σ' H' v u} J rv q=>⟨v,H',J.os,J.bare,J.base,J.hok,rv,q⟩
 cases fl with
 |ret u=>
  obtain⟨v,σ',H',J,rv,q⟩:=hs
  exact fin J rv q
 |next=>
  obtain⟨σ',H',J,q⟩:=hs
  exact fin (v:=V.aU) (u:=Value.none) J rfl q
 |brk=>
  obtain⟨_,_,_,q⟩:=hs
  exact False.elim q
 |cont=>
  obtain⟨_,_,_,q⟩:=hs
  exact False.elim q
section
variable{X:Cx}{x:Str}{p pos:Pos}{e:Expr}{es:List Expr}{t:TA}{id T:String}{r:List V->Hp->VK->Prop}
noncomputable def Y5(r:List V->Hp->VK->Prop)(t:TA):TE:=fun σ H Q=>t σ H fun vs H1=>r vs H1 Q
theorem cy(hc:dg X (.builtin id) r)(hg:Gl X x)(hm:X.mg x=none)(hv:bootBuiltins x=some (.builtin id))(ha:PA X (e::es) t)(hn:x≠"__name__":=by decide)(hdb:(x==("__debug__":Str))=false:=by decide)
 (he:starEach (e::es) X.env=(false,eval e X.env)::starEach es X.env:=by rfl) (hpl:(backTo pos (starEach es X.env)).any (·.1)=false:=by rfl):PE X (.Call (.Name x p) (e::es) [] pos) (Y5 r t):=by
 intro pins s σ H Q I h
 refine UV (gE I hg hm hv ?_ hn hdb)
 exact PyProof.Rows.callWith_builtin1 (bE (ha pos pins s σ H _ I h)<|by rintro us s1 ⟨vs,H1,I1,r1,q1⟩;exact hc pins s1 σ H1 vs us Q I1 r1 q1) he hpl
theorem DC(hc:dg X (.type T) r)(hg:Gl X x)(hm:X.mg x=none)(hv:bootBuiltins x=some (.type T))(ha:PA X (e::es) t)(hn:x≠"__name__":=by decide)(hdb:(x==("__debug__":Str))=false:=by decide)
 (he:starEach (e::es) X.env=(false,eval e X.env)::starEach es X.env:=by rfl) (hpl:(backTo pos (starEach es X.env)).any (·.1)=false:=by rfl):PE X (.Call (.Name x p) (e::es) [] pos) (Y5 r t):=by
 intro pins s σ H Q I h
 refine UV (gE I hg hm hv ?_ hn hdb)
 exact PP (bE (ha pos pins s σ H _ I h)<|by rintro us s1 ⟨vs,H1,I1,r1,q1⟩;exact hc pins s1 σ H1 vs us Q I1 r1 q1) he hpl
end
end L2
namespace HT
open PySem PyProof.Rows
section
open PySem.SeqAt
open PySem.AutoSeq1 (wpAny_loadPart')
open PySem.MeetsSeq PySem.MeetsSeq2 PySem.MeetsSeq3
end
section
variable{prog:Program}{w:World}{A:Around}{E:Value->Shared->Prop}{s:Shared}
theorem JB{t b:Addr}{vs ws:List Value}{Q:Value->Shared->Prop}(ht:IsTup s.heap t vs.toArray)(hb:IsTup s.heap b ws.toArray)(hv:vs≠[])
 (h1:ws=[]->Q (.ref t) s) (h2:ws≠[]->Q (.ref s.heap.objs.size) {s with heap:=s.heap.push {cls:=.type "tuple",data:=.seq (vs++ws).toArray}})
 (hsz:vs.length+ws.length<=sizeLine):wpAny (model prog w) A (binaryOp .Add (.ref t) (.ref b)) Q E s:=by
 obtain⟨⟨cls,dd,data,sl⟩,ho,hc,n,hd⟩:=id ht
 obtain⟨⟨aam,dd2,data2,sl2⟩,ho2,hc2,n2,hd2⟩:=id hb
 simp only at hc hd hc2 hd2
 subst hc hd hc2 hd2
 have e:vs.toArray++ws.toArray=(vs++ws).toArray:=by simp
 by_cases hw:ws=[]
 ·exact concat_meets ⟨_,ho,rfl⟩ ⟨_,ho2,rfl⟩ noFill_tuple_add seq_tuple_add PySem.F.slot_tuple_add PySem.F.entry_tuple_add (PySem.F.args_tuple_add_2 _ _)
   (tuple_addW1 t b vs.toArray ws.toArray n n2 dd dd2 sl sl2 (by simpa using hv) (by simp[hw])) ⟨ho,ho2,h1 hw⟩
 ·refine concat_meets ⟨_,ho,rfl⟩ ⟨_,ho2,rfl⟩ noFill_tuple_add seq_tuple_add PySem.F.slot_tuple_add PySem.F.entry_tuple_add (PySem.F.args_tuple_add_2 _ _)
   (tuple_addW2 t b vs.toArray ws.toArray n n2 dd dd2 sl sl2 (by simpa using hv) (by simpa using hw) (by rw[Fk,Fk];exact hsz)) ⟨ho,ho2,?_⟩
  rw[e]
  exact h2 hw
noncomputable def sL(n d:Nat):Option Int->Nat
 |none=>d
 |some v=>if v<0 then(v+(n:Int)).toNat else min v.toNat n
theorem xA(n d:Nat):sL n d none=d:=rfl
theorem JC(n d k:Nat):sL n d (some (k:Int))=min k n:=by
 show(if(k:Int)<0 then((k:Int)+(n:Int)).toNat else min (k:Int).toNat n)=min k n
 rw[B1 (by lia),Int.toNat_natCast]
end
end HT
namespace L2
open PySem PySem.Spec PyProof.Rows
abbrev TO:=St->Hp->(Option Int->Hp->Prop)->Prop
noncomputable def PO(X:Cx)(e:Option Expr)(t:TO):Prop:=
 ∀(pins:List (Addr×Obj)) (s:Shared) (σ:St) (H:Hp) (Q:Option Int->Hp->Prop),Inv X pins σ H s->t σ H Q->
  wpAny (model X.prog X.w) X.A (evalPart e X.env) (fun u s'=>∃o H',Inv X pins σ H' s'/\IsPart u o/\Q o H') X.xe s
noncomputable def JD:TO:=fun _ H Q=>Q none H
noncomputable def T7(t:TE):TO:=fun σ H Q=>t σ H fun x H1=>∃i,x=.int i/\Q (some i) H1
theorem intsAre_of{ns:List Int}:∀{us:List Value},Vals (ns.map V.int) us->IntsAre us ns:=by
 induction ns with
 |nil=>intro us r;rw[P2]at r;cases r;exact .nil
 |cons n ns ih=>
  intro us r
  rw[Fn]at r
  cases r with
  |cons r1 r2=>
   obtain⟨t,e⟩:=r1
   subst e
   exact .cons n t (ih r2)
section
variable{X:Cx}{e:Expr}{te:TE}{lo hi:Option Expr}{tl th:TO}{pos p2:Pos}
theorem JE:PO X none JD:=by
 intro pins s σ H Q I h
 rw[evalPart_none]
 exact Kt ⟨none,H,I,.none,h⟩
theorem JF(h:PE X e te):PO X (some e) (T7 te):=by
 intro pins s σ H Q I hw
 rw[evalPart_some]
 refine bE (h pins s σ H _ I hw) ?_
 rintro u s1 ⟨x,H1,I1,r1,q1⟩
 obtain⟨i,rfl,q⟩:=q1
 obtain⟨t,rfl⟩:=r1
 exact⟨some i,H1,I1,.int i t,q⟩
noncomputable def Y6(X:Cx)(r:V->Option Int->Option Int->Hp->VK->Prop):Prop:=
 ∀(pins:List (Addr×Obj)) (s:Shared) (σ:St) (H:Hp) (x:V) (v vl vu:Value) (lo hi:Option Int) (sl:Addr) (Q:VK),Inv X pins σ H s->RelV x v->s.heap.IsSliceOf sl vl vu .none->IsPart vl lo->IsPart vu hi->r x lo hi H Q->
  ∃T id,typeLookup (.type T) "__getitem__"=pure (some (.builtin id))/\s.TypeIs v T/\wpAny (model X.prog X.w) X.A (getItem v (.ref sl)) (EP X pins σ Q) X.xe s
noncomputable def tSl(r:V->Option Int->Option Int->Hp->VK->Prop)(te:TE)(tl th:TO):TE:=fun σ H Q=>te σ H fun x H1=>tl σ H1 fun l H2=>th σ H2 fun u H3=>r x l u H3 Q
theorem FG{r:V->Option Int->Option Int->Hp->VK->Prop}(hr:Y6 X r)(he:PE X e te)(hl:PO X lo tl)(hu:PO X hi th):PE X (.Subscript e (.Slice lo hi none p2) pos) (tSl r te tl th):=by
 intro pins s σ H Q I h
 refine Subscript_ (bE (he pins s σ H _ I h) fun v s1 ⟨x,H1,I1,r1,q1⟩=>?_)
 refine wpAny_Slice (bE (hl pins s1 σ H1 _ I1 q1) fun vl s2 ⟨l,H2,I2,pl,q2⟩=>bE (hu pins s2 σ H2 _ I2 q2) fun vu s3 ⟨u,H3,I3,pu,q3⟩=>?_)
 rw[evalPart_none]
 refine Kt ?_
 have I4:Inv X pins σ H3 {s3 with heap:=s3.heap.push {cls:=.type "slice",data:=.fields #[vl,vu,.none]}}:=I3.kept (t':=s3.toks) fun b ob q=>DL _ q
 obtain⟨T,id,hT,ht,hg⟩:=hr pins {s3 with heap:=s3.heap.push {cls:=.type "slice",data:=.fields #[vl,vu,.none]}} σ H3 x v vl vu l u s3.heap.objs.size Q I4 r1 (Heap.IsSliceOf.new ..) pl pu q3
 show wpAny (model X.prog X.w) X.A (subscriptTail e (.Slice lo hi none p2) v (.ref s3.heap.objs.size)) (EP X pins σ Q) X.xe {s3 with heap:=s3.heap.push {cls:=.type "slice",data:=.fields #[vl,vu,.none]}}
 exact tail_any (ops:=[.ref s3.heap.objs.size,v]) ht hT hg (by with_unfolding_all rfl)
noncomputable def DE(xs:List V)(lo hi:Option Int):List V:=(xs.drop (HT.sL xs.length 0 lo)).take (HT.sL xs.length xs.length hi -HT.sL xs.length 0 lo)
theorem xB(xs:List V)(lo hi:Option Int):(DE xs lo hi).length<=xs.length:=by
 unfold DE
 rw[bj,List.length_drop]
 omega
noncomputable def T8(K:PySem.W.Frag):R2:=fun x y H Q=>∃a b xs ys,x=.ref a/\y=.ref b/\lG K H a xs/\lG K H b ys/\xs≠[]/\xs.length+ys.length<=sizeLine/\
 (ys=[]->Q (.ref a) H)/\(ys≠[]->∀p,H p=none->Q (.ref p) (upd H p (.tup (xs++ys))))
theorem Vals.uQ{xs:List V}{us:List Value}(r:Vals xs us):us=[]↔xs=[]:=by
 cases r with
 |nil=>simp
 |cons _ _=>simp
theorem JG:kN X (binaryOp .Add) (T8 X.K):=by
 intro pins s σ H x y v u Q I rx ry h
 obtain⟨a,b,xs,ys,rfl,rfl,ha,hb,hx,hz,q1,q2⟩:=h
 cases rx
 cases ry
 obtain⟨its,r1,p1,_⟩:=I.tuple ha
 obtain⟨its2,r2,p2,_⟩:=I.tuple hb
 refine HT.JB p1 p2 (fun z=>hx (r1.uQ.mp z)) (fun z=>⟨.ref a,H,I,rfl,q1 (r2.uQ.mp z)⟩) (fun z=>?_) (by rw[←r1.length,←r2.length];exact hz)
 refine⟨.ref s.heap.objs.size,_,I.laid (t':=s.toks) (o:=.tup (xs++ys)) (fun b ob q=>DL _ q) (Do _) ?_,rfl,q2 (fun w=>z (r2.uQ.mpr w)) _ (I.hok.fresh (Do _))⟩
 exact⟨by rw[Ee];exact hz,_,r1.append r2,IsTup.new _ _⟩
end
noncomputable def zD(n:Nat)(i:Int):Option Nat:=if 0<=i then(if i<n then some i.toNat else none)else if-(n:Int)<=i then some (i+n).toNat else none
noncomputable def kP{α:Type}(xs:List α)(i:Int):Option α:=(zD xs.length i).bind fun j=>xs[j]?
theorem Bu{n:Nat}{i:Int}{j:Nat}(h:zD n i=some j):seqIndex? i n=some j/\j<n/\-(n:Int)<=i/\i<n:=by
 unfold zD at h
 by_cases h0:0<=i
 ·rw[Bi h0]at h
  by_cases h1:i<n
  ·rw[Bi h1]at h
   have e:i.toNat=j:=Kb h
   exact⟨by rw[seqIndex_of h0 h1,e],by lia,by lia,h1⟩
  ·rw[B1 h1]at h;cases h
 ·rw[B1 h0]at h
  by_cases h1: -(n:Int)<=i
  ·rw[Bi h1]at h
   have e:(i+n).toNat=j:=Kb h
   exact⟨by rw[seqIndex_neg (by lia) h1,e],by lia,h1,by lia⟩
  ·rw[B1 h1]at h;cases h
theorem uR{α:Type}{xs:List α}{i:Int}{v:α}(h:kP xs i=some v):∃j,seqIndex? i xs.length=some j/\xs[j]?=some v/\j<xs.length/\-(xs.length:Int)<=i/\i<xs.length:=by
 unfold kP at h
 cases e:zD xs.length i with
 |none=>rw[e]at h;cases h
 |some j=>
  rw[e]at h
  obtain⟨h1,h2,h3,h4⟩:=Bu e
  exact⟨j,h1,h,h2,h3,h4⟩
theorem bF{α:Type}{xs:List α}{j:Nat}{v:α}(h:xs[j]?=some v):kP xs (j:Int)=some v:=by
 have hj:j<xs.length:=(Fs.mp h).1
 have e:zD xs.length (j:Int)=some j:=by
  unfold zD
  rw[Bi (by lia),Bi (by lia)];simp
 unfold kP;rw[e];exact h
noncomputable def lM(b:Expr):Prop:=∀o i,subscripted b false o i=operate [o,i] (getItem o i)
noncomputable def JH(X:Cx)(r:R2):Prop:=
 ∀(value slice:Expr) (pins:List (Addr×Obj)) (s:Shared) (σ:St) (H:Hp) (x y:V) (v u:Value) (Q:VK),Inv X pins σ H s->RelV x v->RelV y u->r x y H Q->
  subscripted slice false v u=operate [v,u] (getItem v u)->wpAny (model X.prog X.w) X.A (subscriptTail value slice v u) (EP X pins σ Q) X.xe s
noncomputable def W0(X:Cx)(id:String)(r:V->List V->Hp->VK->Prop):Prop:=
 ∀(pins:List (Addr×Obj)) (s:Shared) (σ:St) (H:Hp) (x:V) (xs:List V) (v:Value) (us:List Value) (Q:VK),Inv X pins σ H s->RelV x v->Vals xs us->r x xs H Q->
  wpAny (model X.prog X.w) X.A (call (.builtin id) (v::us)) (EP X pins σ Q) X.xe s
section
variable{X:Cx}{a b:Expr}{ta tb:TE}{pos:Pos}
theorem JH.or{r r':R2}(h:JH X r)(h':JH X r'):JH X (fun x y H Q=>r x y H Q\/r' x y H Q):=by
 intro value slice pins s σ H x y v u Q I rx ry q hs
 rcases q with q|q
 ·exact h value slice pins s σ H x y v u Q I rx ry q hs
 ·exact h' value slice pins s σ H x y v u Q I rx ry q hs
theorem FH{r:R2}(hr:JH X r)(ha:PE X a ta)(hb:PE X b tb)(hs:lM b):PE X (.Subscript a b pos) (WW r ta tb):=by
 intro pins s σ H Q I h
 exact Subscript_ (Od ha hb I h fun v u s2 x y H2 I2 rx ry q=>hr a b pins s2 σ H2 x y v u Q I2 rx ry q (hs _ _))
noncomputable def T9(K:PySem.W.Frag):R2:=fun x y H Q=>∃p xs i v,x=.ref p/\y=.int i/\ir K H p xs/\kP xs i=some v/\Q v H
noncomputable def Ua(K:PySem.W.Frag):R2:=fun x y H Q=>∃p xs i v,x=.ref p/\y=.int i/\lG K H p xs/\kP xs i=some v/\Q v H
noncomputable def Ub:R2:=fun x y H Q=>∃z i c,x=.str z/\y=.int i/\z.length<=sizeLine/\kP z.cps.toList i=some c/\Q (.str ⟨#[c]⟩) H
theorem JI:JH X (T9 X.K):=by
 intro value slice pins s σ H x y v u Q I rx ry h hs
 obtain⟨p,xs,i,z,rfl,rfl,hq,he,q⟩:=h
 cases rx
 obtain⟨t,rfl⟩:=ry
 obtain⟨its,r,pl,hz⟩:=I.list hq
 obtain⟨j,h1,h2,h3,h4,h5⟩:=uR he
 obtain⟨w,ew,rw'⟩:=r.get h2
 have hl:=r.length
 have hn:=p9
 have fin:EP X pins σ Q w s:=⟨z,H,I,rw',q⟩
 by_cases h0:0<=i
 ·have hj:i.toNat=j:=by
   rw[seqIndex_of h0 h5]at h1
   exact Kb h1
  exact item_listR pl.isList h0 (by lia) (by rw[hj];simpa using ew) fin hs
 ·have hj:(i+(its.toArray.size:Int)).toNat=j:=by
   rw[seqIndex_neg (by lia) h4]at h1
   rw[Fk,←hl]
   exact Kb h1
  exact subscriptTail_builtinR (x:=w) pl.isList.typeIs slot_list_getitem.lookup
   (wpAny_getItem_list_neg (Q:=fun r s'=>r=w/\EP X pins σ Q r s') pl.isList (by lia) (by rw[Fk]<;>lia) (by lia) (by rw[hj];simpa using ew) ⟨rfl,fin⟩) hs
theorem Ou:JH X (Ua X.K):=by
 intro value slice pins s σ H x y v u Q I rx ry h hs
 obtain⟨p,xs,i,z,rfl,rfl,hq,he,q⟩:=h
 cases rx
 obtain⟨t,rfl⟩:=ry
 obtain⟨its,r,pl,hz⟩:=I.tuple hq
 obtain⟨j,h1,h2,h3,h4,h5⟩:=uR he
 obtain⟨w,ew,rw'⟩:=r.get h2
 have hl:=r.length
 have hn:=p9
 have fin:EP X pins σ Q w s:=⟨z,H,I,rw',q⟩
 exact subscriptTail_builtinR (x:=w) pl.typeIs slot_tuple_getitem.lookup
  (getItem_tuple (j:=j) (Q:=fun r s'=>r=w/\EP X pins σ Q r s') pl (by lia) (by lia) (by rw[Fk,←hl];exact h1) (by simpa using ew) ⟨rfl,fin⟩) hs
theorem Ov:JH X Ub:=by
 intro value slice pins s σ H x y v u Q I rx ry h hs
 obtain⟨z,i,c,rfl,rfl,hz,he,q⟩:=h
 obtain⟨t,rfl⟩:=rx
 obtain⟨t',rfl⟩:=ry
 obtain⟨j,h1,h2,h3,h4,h5⟩:=uR he
 have hl:z.cps.toList.length=z.length:=by simp[Str.length]
 rw[hl]at h1 h4 h5
 have hn:=p9
 exact tail_any (typeIs_str s z t) slot_str_getitem.lookup (getItem_str (c:=c) (by
  have e1:decide (i< -(2^63:Int))=false:=P3 (by lia)
  have e2:decide (i>=2^63)=false:=P3 (by lia)
  rw[e1,e2,Tb]) (by rw[h1];simpa using h2) ⟨.str ⟨#[c]⟩,H,I.tok _,⟨_,rfl⟩,q⟩) hs
noncomputable def rIx(K:PySem.W.Frag):R2:=fun x y H Q=>T9 K x y H Q\/Ua K x y H Q\/Ub x y H Q
theorem zZ:JH X (rIx X.K):=JI.or (Ou.or Ov)
theorem z4(its:List Value)(n j:Nat)(u:Value):Obj.mapSeq (·.setIfInBounds j u) {cls:=.type "list",data:=.seq its.toArray n}={cls:=.type "list",data:=.seq (its.set j u).toArray n}:=by
 simp[Obj.mapSeq]
theorem Inv.lst{pins:List (Addr×Obj)}{σ:St}{H:Hp}{s:Shared}{p:Addr}{xs:List V}(I:Inv X pins σ H s)(h:H p=some (.lst xs)):
 ∃(its:List Value) (n:Nat),Vals xs its/\s.heap.get? p=some {cls:=.type "list",data:=.seq its.toArray n}/\xs.length<=sizeLine:=by
 obtain⟨z,its,n,r,e⟩:=I.hok p _ h
 exact⟨its,n,r,e,z⟩
theorem Inv.Ow{pins:List (Addr×Obj)}{σ:St}{H:Hp}{s:Shared}{p:Addr}{xs ys:List V}{its its':List Value}{n n':Nat}{f:Obj->Obj}(I:Inv X pins σ H s)(h:H p=some (.lst xs))
 (ho:s.heap.get? p=some {cls:=.type "list",data:=.seq its.toArray n}) (hf:f {cls:=.type "list",data:=.seq its.toArray n}={cls:=.type "list",data:=.seq its'.toArray n'}) (r:Vals ys its') (hz:ys.length<=sizeLine) (t:Nat):
 Inv X pins σ (upd H p (.lst ys)) {s with heap:=s.heap.update p f,toks:=t}:=by
 have e:(s.heap.update p f).get? p=some {cls:=.type "list",data:=.seq its'.toArray n'}:=by
  rw[Heap.get?_update_self f ho (by rw[hf]<;>rfl),hf]
 refine I.write (x:=p) (e:=p) (by rw[h];trivial) (.inl rfl) (fun b u hb q=>(Heap.get?_update_other _ _ (Qb hb)).trans q) ⟨_,e⟩ ?_
 exact⟨hz,its',n',r,e⟩
noncomputable def ML:V->V->V->Hp->(Hp->Prop)->Prop:=fun o i v H Q=>∃p xs k j,o=.ref p/\i=.int k/\H p=some (.lst xs)/\zD xs.length k=some j/\Q (upd H p (.lst (xs.set j v)))
theorem set_list:Tw X ML:=by
 intro pins s σ H o i v ov iv u Q I ro ri rv h
 obtain⟨p,xs,k,j,rfl,rfl,hp,hj,q⟩:=h
 cases ro
 obtain⟨t,rfl⟩:=ri
 obtain⟨its,n,r,ho,hz⟩:=I.lst hp
 obtain⟨h1,h2,h3,h4⟩:=Bu hj
 have hl:=r.length
 have hn:=p9
 have I':Inv X pins σ (upd H p (.lst (xs.set j v))) {s with heap:=s.heap.update p (Obj.mapSeq (·.setIfInBounds j u))}:=
  I.Ow hp ho (z4 its n j u) (r.set rv j) (by rw[NA];exact hz) s.toks
 by_cases h0:0<=k
 ·have hk:k.toNat=j:=by
   rw[seqIndex_of h0 h4]at h1
   exact Kb h1
  exact PySem.W.ki_setAt ho h0 (by lia) (by rw[Fk,←hl];exact h4) (by rw[hk];exact⟨_,I',q⟩)
 ·have hk:(k+(its.toArray.size:Int)).toNat=j:=by
   rw[seqIndex_neg (by lia) h3]at h1
   rw[Fk,←hl]
   exact Kb h1
  exact PySem.W.ki_setBack ho (by lia) (by rw[Fk,←hl];exact h3) (by lia) (by rw[hk];exact⟨_,I',q⟩)
theorem uS(lo hi:Option Int)(n:Nat):(sliceBounds lo hi none n).1=((HT.sL n 0 lo:Nat):Int)/\(sliceBounds lo hi none n).2.1=((HT.sL n n hi:Nat):Int)/\(sliceBounds lo hi none n).2.2=1:=by
 refine⟨?_,?_,rfl⟩
 ·cases lo with
  |none=>simp[sliceBounds,HT.sL]
  |some i=>
   simp only[sliceBounds,HT.sL,Option.getD_none,show(1:Int)>0 by decide,if_true]
   by_cases h:i<0
   ·simp only[h,if_true]<;>lia
   ·simp only[h,if_false]<;>lia
 ·cases hi with
  |none=>simp[sliceBounds,HT.sL]
  |some i=>
   simp only[sliceBounds,HT.sL,Option.getD_none,show(1:Int)>0 by decide,if_true]
   by_cases h:i<0
   ·simp only[h,if_true]<;>lia
   ·simp only[h,if_false]<;>lia
theorem sM(its:List Value)(lo hi:Option Int):slicePick its.toArray lo hi none=((its.drop (HT.sL its.length 0 lo)).take (HT.sL its.length its.length hi -HT.sL its.length 0 lo)).toArray:=by
 obtain⟨h1,h2,h3⟩:=uS lo hi its.toArray.size
 unfold slicePick
 rw[h1,h2,h3]
 simp only[sliceRange_one,pick_run,Fk]<;>rfl
noncomputable def W2(K:PySem.W.Frag):V->Option Int->Option Int->Hp->VK->Prop:=fun x lo hi H Q=>∃a xs,x=.ref a/\ir K H a xs/\∀p,H p=none->Q (.ref p) (upd H p (.lst (DE xs lo hi)))
theorem JJ:Y6 X (W2 X.K):=by
 intro pins s σ H x v vl vu lo hi sl Q I rx hs pl pu h
 obtain⟨a,xs,rfl,hx,q⟩:=h
 cases rx
 obtain⟨its,r,ht,hz⟩:=I.list hx
 have hlen:=r.length
 refine⟨"list",_,slot_list_getitem.lookup,ht.isList.typeIs,?_⟩
 refine wpAny_getItem_list_slice ht.isList hs pl pu .none (by simp) ?_ (by rw[Fk]<;>lia)
 rw[sM,←hlen]
 refine⟨.ref s.heap.objs.size,_,I.laid (t':=s.toks) (o:=.lst (DE xs lo hi)) (fun b ob q=>DL _ q) (Do _) ?_,rfl,q _ (I.hok.fresh (Do _))⟩
 exact⟨FC (xB xs lo hi) hz,_,0,(r.drop (HT.sL xs.length 0 lo)).take (HT.sL xs.length xs.length hi -HT.sL xs.length 0 lo),IH _ rfl⟩
theorem iR:dg X (.builtin "len") (fun xs H Q=>∃p ys,xs=[.ref p]/\(ir X.K H p ys\/lG X.K H p ys)/\Q (.int ys.length) H):=by
 intro pins s σ H xs us Q I r h
 obtain⟨p,ys,rfl,hq,q⟩:=h
 obtain⟨u,rfl,rx⟩:=vals1 r
 cases rx
 have hn:=p9
 rcases hq with hq|hq
 ·obtain⟨its,r',pl,hz⟩:=I.list hq
  have hlen:=r'.length
  exact Calls.call_len_list pl.isList (by simp only[Fk]<;>lia) ⟨.int ys.length,H,I.tok _,⟨s.toks+1,by rw[Fk,hlen]⟩,q⟩
 ·obtain⟨its,r',pl,hz⟩:=I.tuple hq
  have hlen:=r'.length
  exact len_tuple pl (by simp only[Fk]<;>lia) ⟨.int ys.length,H,I.tok _,⟨s.toks+1,by rw[Fk,hlen]⟩,q⟩
theorem lN:dg X (.type "list") (fun xs H Q=>∃p ys,xs=[.ref p]/\(ir X.K H p ys\/lG X.K H p ys)/\∀l,H l=none->Q (.ref l) (upd H l (.lst ys))):=by
 intro pins s σ H xs us Q I r h
 obtain⟨p,ys,rfl,hq,q⟩:=h
 obtain⟨u,rfl,rx⟩:=vals1 r
 cases rx
 have fin:∀(its:List Value),Vals ys its->ys.length<=sizeLine->∀(h':Heap) (c':Nat),(∀b o',s.heap.get? b=some o'->h'.get? b=some o')->
  h'.get? s.heap.objs.size=some {cls:=.type "list",dict:=none,data:=.seq its.toArray c',slots:= #[]}->EP X pins σ Q (.ref s.heap.objs.size) {s with heap:=h'}:=fun its r' hz h' c' kp e=>
  ⟨.ref s.heap.objs.size,_,I.laid (t':=s.toks) kp (Do _) (show bW X.prog X.w _ h' _ (.lst ys)from⟨hz,its,c',r',e⟩),rfl,q _ (I.hok.fresh (Do _))⟩
 rcases hq with hq|hq
 ·obtain⟨its,r',pl,hz⟩:=I.list hq
  have hlen:=r'.length
  obtain⟨o,ho,hc,n,hd⟩:=pl.isList
  exact call_list_seq p (.inl rfl) ho hc hd (fun h' c' kp e=>fin its r' hz h' c' kp e) (by simp only[Fk]<;>lia)
 ·obtain⟨its,r',pl,hz⟩:=I.tuple hq
  have hlen:=r'.length
  obtain⟨o,ho,hc,n,hd⟩:=pl
  exact call_list_seq p (.inr rfl) ho hc hd (fun h' c' kp e=>fin its r' hz h' c' kp e) (by simp only[Fk]<;>lia)
theorem j7:dg X (.type "tuple") (fun xs H Q=>∃p ys,xs=[.ref p]/\((ir X.K H p ys/\∀l,H l=none->Q (.ref l) (upd H l (.tup ys)))\/(lG X.K H p ys/\Q (.ref p) H))):=by
 intro pins s σ H xs us Q I r h
 obtain⟨p,ys,rfl,h⟩:=h
 obtain⟨u,rfl,rx⟩:=vals1 r
 cases rx
 rcases h with⟨hq,q⟩|⟨hq,q⟩
 ·obtain⟨its,r',pl,hz⟩:=I.list hq
  have hlen:=r'.length
  refine call_tuple_list pl.isList (fun h' kp=>?_) (by simp only[Fk]<;>lia)
  have I1:Inv X pins σ H {s with heap:=h'}:=I.kept (t':=s.toks) kp
  have I2:Inv X pins σ (upd H h'.objs.size (.tup ys)) {s with heap:=h'.push {cls:=.type "tuple",data:=.seq its.toArray}}:=
   I1.laid (t':=s.toks) (fun b o e=>DL _ e) (Do _) (show bW X.prog X.w _ _ _ (.tup ys)from⟨hz,its,r',IsTup.new _ _⟩)
  exact⟨.ref h'.objs.size,_,I2,rfl,q _ (I1.hok.fresh (Do _))⟩
 ·obtain⟨its,r',pl,hz⟩:=I.tuple hq
  exact call_tuple_same pl ⟨.ref p,H,I,rfl,q⟩
noncomputable def W3(K:PySem.W.Frag)(T:String)(x:V)(H:Hp):Prop:=match x with
 |.str _=>T="str"
 |.int _=>T="int"
 |.ref p=>(T="list"/\∃xs,ir K H p xs)\/(T="tuple"/\∃o,K.lookup p=some o/\o.cls=.type "tuple"/\o.dict=none)\/
   (T="dict"/\((∃kvs,H p=some (.dK kvs))\/∃kvs,H p=some (.dT kvs)))\/(T="set"/\∃S n,H p=some (.set S n))
 |_=>False
theorem FI{pins:List (Addr×Obj)}{σ:St}{H:Hp}{s:Shared}{T:String}{x:V}{v:Value}(I:Inv X pins σ H s)(r:RelV x v)(ty:W3 X.K T x H):
 s.TypeIs v T/\∀a,v=.ref a->∃ob,s.heap.get? a=some ob/\ob.dict=none:=by
 cases x with
 |str z=>
  obtain⟨t,rfl⟩:=r
  cases(show T="str"from ty)
  exact⟨typeIs_str s z t,fun _ e=>nomatch e⟩
 |int i=>
  obtain⟨t,rfl⟩:=r
  cases(show T="int"from ty)
  exact⟨typeIs_int s i t,fun _ e=>nomatch e⟩
 |ref p=>
  cases r
  rcases ty with⟨rfl,xs,hq⟩|⟨rfl,o,hk,hc,hd⟩|⟨rfl,hk⟩|⟨rfl,S,n,hk⟩
  ·obtain⟨its,_,pl,_⟩:=I.list hq
   refine⟨pl.isList.typeIs,fun a e=>?_⟩
   cases e
   obtain⟨o,n,e,c,hd,_⟩:=pl
   exact⟨o,e,hd⟩
  ·refine⟨⟨o,I.j6 p o hk,hc⟩,fun a e=>?_⟩
   cases e
   exact⟨o,I.j6 _ o hk,hd⟩
  ·have z:∃o,s.heap.get? p=some o/\o.ExactDict:=by
    rcases hk with⟨kvs,hk⟩|⟨kvs,hk⟩
    ·obtain⟨_,_,_,_,o,_,_,e,ex,_⟩:=I.hok p _ hk
     exact⟨o,e,ex⟩
    ·obtain⟨_,_,_,_,o,_,_,e,ex,_⟩:=I.hok p _ hk
     exact⟨o,e,ex⟩
   obtain⟨o,e,ex⟩:=z
   refine⟨⟨o,e,ex.1⟩,fun a e2=>?_⟩
   cases e2
   exact⟨o,e,ex.2.1⟩
  ·obtain⟨o,_,_,_,e,ex,_⟩:=I.hok p _ hk
   refine⟨⟨o,e,ex.1⟩,fun a e2=>?_⟩
   cases e2
   exact⟨o,e,ex.2.1⟩
 |_=>exact False.elim ty
noncomputable def W4(K:PySem.W.Frag)(T:String)(r:V->List V->Hp->VK->Prop)(to:TE):TE:=fun σ H Q=>to σ H fun x H1=>W3 K T x H1/\r x [] H1 Q
noncomputable def Y7(K:PySem.W.Frag)(T:String)(r:V->List V->Hp->VK->Prop)(to:TE)(t:TA):TE:=fun σ H Q=>to σ H fun x H1=>W3 K T x H1/\t σ H1 fun xs H2=>r x xs H2 Q
variable{o e:Expr}{es:List Expr}{to:TE}{t:TA}{name:Str}{apos cpos:Pos}{T id:String}{r:V->List V->Hp->VK->Prop}
theorem FJ(pa:PlainAttrs T)(slot:Slot T name id)(hty:typeOf (.builtin id)=pure (.type "method_descriptor"))(hm:W0 X id r)(ho:PE X o to)
 (hbase:attributeBase o name X.env (eval o X.env)=eval o X.env:=by rfl) (hline:(apos.endLine==cpos.line)=true:=by rfl):PE X (.Call (.Attribute o name apos) [] [] cpos) (W4 X.K T r to):=by
 intro pins s σ H Q I h
 refine wpAny_Call_method0_late hbase hline (bE (ho pins s σ H _ I h) fun v s1 ⟨x,H1,I1,r1,ty,q1⟩=>?_)
 obtain⟨h1,h2⟩:=FI I1 r1 ty
 exact⟨T,id,pa,slot,hty,h1,h2,Calls.callWith_builtin rfl (PySem.evalArgs_none (hm pins s1 σ H1 x [] v [] Q I1 r1 .nil q1))⟩
theorem Uc(pa:PlainAttrs T)(slot:Slot T name id)(hty:typeOf (.builtin id)=pure (.type "method_descriptor"))(hm:W0 X id r)(ho:PE X o to)(ha:PA X (e::es) t)
 (hbase:attributeBase o name X.env (eval o X.env)=eval o X.env:=by rfl)
 (hfew:((backTo cpos (starEach (e::es) X.env)).all (fun x=>!x.1)&&(backToKw cpos (keywordEach [] X.env)).all (fun x=>x.1.isSome)
   &&decide ((e::es).length+([]:List Keyword).length+(if([]:List Keyword).isEmpty then 0 else 1)<30))=true:=by rfl)
 (hline:(apos.endLine==cpos.line)=true:=by rfl) (hs:starEach (e::es) X.env=(false,eval e X.env)::starEach es X.env:=by rfl) (hplain:(backTo cpos (starEach es X.env)).any (·.1)=false:=by rfl):
 PE X (.Call (.Attribute o name apos) (e::es) [] cpos) (Y7 X.K T r to t):=by
 intro pins s σ H Q I h
 refine wpAny_Call_method_late hbase hfew hline rfl (bE (ho pins s σ H _ I h) fun v s1 ⟨x,H1,I1,r1,ty,q1⟩=>?_)
 obtain⟨h1,h2⟩:=FI I1 r1 ty
 refine⟨T,id,pa,slot,hty,h1,h2,?_⟩
 have hA:=ha cpos pins s1 σ H1 _ I1 q1
 rw[hs]at hA⊢
 refine Calls.callWith_builtin (by show(false||(backTo cpos (starEach es X.env)).any (·.1))=false;rw[hplain]<;>rfl) (Calls.evalArgs_plain ?_)
 exact bE hA<|by rintro us s2 ⟨vs,H2,I2,r2,q2⟩;exact hm pins s2 σ H2 x vs v us Q I2 r1 r2 q2
end
noncomputable def Y8(X:Cx)(id:String)(r:V->List V->Hp->VK->Prop):Prop:=
 ∀(pins:List (Addr×Obj)) (s:Shared) (σ:St) (H:Hp) (x:V) (xs:List V) (v:Value) (us:List Value) (Q:VK),Inv X pins σ H s->RelV x v->Vals xs us->r x xs H Q->
  wpAny (model X.prog X.w) X.A (call (.builtin id) (v::us)) (EP X pins σ Q) X.xe s
theorem Vals.one:∀{x:V} {us:List Value},Vals [x] us->∃u,us=[u]/\RelV x u
 |_,_,.cons r .nil=>⟨_,rfl,r⟩
theorem Vals.zero:∀{us:List Value},Vals [] us->us=[]
 |_,.nil=>rfl
theorem Vals.dropLast{xs:List V}{us:List Value}(h:Vals xs us):Vals xs.dropLast us.dropLast:=by
 induction h with
 |nil=>exact .nil
 |cons r t ih=>
  cases t with
  |nil=>exact .nil
  |cons q t'=>exact .cons r ih
theorem Vals.reverse{xs:List V}{us:List Value}(h:Vals xs us):Vals xs.reverse us.reverse:=by
 induction h with
 |nil=>exact .nil
 |cons r t ih=>rw[dE,dE];exact Vals.append ih (.cons r .nil)
theorem Vals.rep{xs:List V}{us:List Value}(h:Vals xs us):∀k:Nat,Vals (List.replicate k xs).flatten (List.replicate k us).flatten
 |0=>.nil
 |k+1=>by
  rw[List.replicate_succ,List.replicate_succ,List.flatten_cons,List.flatten_cons]
  exact Vals.append h (Vals.rep h k)
theorem z5{α:Type}(l:List α):l.eraseIdx (l.length -1)=l.dropLast:=by
 induction l with
 |nil=>rfl
 |cons a r ih=>
  cases r with
  |nil=>rfl
  |cons b r=>
   have e:(a::b::r).length -1=((b::r).length -1)+1:=by
    have h1:(a::b::r).length=r.length+2:=rfl
    have h2:(b::r).length=r.length+1:=rfl
    lia
   rw[e,List.eraseIdx_cons_succ,ih]
   all_goals rfl
theorem foldl_rep(its:List Value):∀(k:Nat) (acc:List Value),
 List.foldl (fun x1 x2=>x1++x2) acc.toArray (List.replicate k its.toArray)=(acc++(List.replicate k its).flatten).toArray
 |0,acc=>by simp
 |k+1,acc=>by
  have e:acc.toArray++its.toArray=(acc++its).toArray:=by simp
  have e2:(acc++its)++(List.replicate k its).flatten=acc++(List.replicate (k+1) its).flatten:=by
   rw[List.replicate_succ,List.flatten_cons,FV]
  rw[←e2,←foldl_rep its k (acc++its),←e,List.replicate_succ,List.foldl_cons]
section
variable{X:Cx}{pins:List (Addr×Obj)}{σ:St}{H:Hp}{s:Shared}{l b:Addr}{xs ys zs:List V}
theorem Inv.Ud{its its':List Value}{n:Nat}{f:Array Value->Array Value}{t':Nat}(I:Inv X pins σ H s)(hH:H l=some (.lst xs))
 (e:s.heap.get? l=some {cls:=.type "list",data:=.seq its.toArray n}) (hf:f its.toArray=its'.toArray) (hv:Vals ys its') (hz:ys.length<=sizeLine):
 Inv X pins σ (upd H l (.lst ys)) {s with heap:=s.heap.update l (Obj.mapSeq f),toks:=t'}:=by
 have q:=PySem.IsL.update e f
 rw[hf]at q
 refine I.write (x:=l) (e:=l) (by rw[hH];exact trivial) (.inl rfl) (fun b' u hb hu=>(Heap.get?_update_other s.heap (Obj.mapSeq f) (Qb hb)).trans hu) ⟨_,q⟩ ?_
 exact⟨hz,its',_,hv,q⟩
theorem Inv.Ox{its:List Value}{t':Nat}(I:Inv X pins σ H s)(hv:Vals ys its)(hz:ys.length<=sizeLine):
 Inv X pins σ (upd H s.heap.objs.size (.lst ys)) {s with heap:=s.heap.push {cls:=.type "list",data:=.seq its.toArray},toks:=t'}:=
 I.laid (fun _ _ q=>DL _ q) (Do _) ⟨hz,its,0,hv,IH _ rfl⟩
theorem Inv.fresh(I:Inv X pins σ H s):H s.heap.objs.size=none:=I.hok.fresh (Do _)
theorem Inv.JK(I:Inv X pins σ H s)(hH:H l=some (.lst xs)):xs.length<=sizeLine/\∃(its:List Value) (n:Nat),Vals xs its/\xs.length=its.length/\s.heap.get? l=some {cls:=.type "list",data:=.seq its.toArray n}:=by
 obtain⟨z,its,n,r,e⟩:=I.hok l _ hH
 exact⟨z,its,n,r,r.length,e⟩
theorem FL{n:Nat}(h:n<=sizeLine):Builtin.List.listTooLong n=false:=by
 unfold Builtin.List.listTooLong
 exact P3 (by lia)
end
section
variable{X:Cx}
noncomputable def Bv:V->List V->Hp->VK->Prop:=fun x vs H Q=>∃l xs y,x=.ref l/\vs=[y]/\H l=some (.lst xs)/\xs.length<sizeLine/\Q .aU (upd H l (.lst (xs++[y])))
theorem nF:Y8 X "list.append" Bv:=by
 intro pins s σ H x vs v us Q I rx rv h
 obtain⟨l,xs,y,rfl,rfl,hH,hz,q⟩:=h
 cases rx
 obtain⟨u,rfl,ru⟩:=rv.one
 obtain⟨z,its,n,r,hl,e⟩:=I.JK hH
 refine call_meets F.slot_list_append ⟨_,e,rfl⟩ F.entry_list_append (F.args_list_append_2 _ _) (PySem.list_append l its.toArray n u (by rw[Fk];lia)) ⟨e,?_⟩
 refine⟨.aU,_,I.Ud (its':=its++[u]) hH e (by simp) (r.append (.cons ru .nil)) ?_,rfl,q⟩
 rw[Ee,List.length_singleton]
 lia
noncomputable def W5:V->List V->Hp->VK->Prop:=fun x vs H Q=>∃l xs y,x=.ref l/\vs=[]/\H l=some (.lst xs)/\xs[xs.length -1]?=some y/\Q y (upd H l (.lst xs.dropLast))
theorem Oz:Y8 X "list.pop" W5:=by
 intro pins s σ H x vs v us Q I rx rv h
 obtain⟨l,xs,y,rfl,rfl,hH,hy,q⟩:=h
 cases rx
 have hus:=rv.zero
 subst hus
 obtain⟨z,its,n,r,hl,e⟩:=I.JK hH
 obtain⟨u,hu,ru⟩:=r.get hy
 have hy':its.toArray[its.toArray.size -1]?=some u:=by
  show its.toArray[its.length -1]?=some u
  rw[←Array.getElem?_toList,←hl]
  exact hu
 refine call_meets F.slot_list_pop ⟨_,e,rfl⟩ F.entry_list_pop (F.args_list_pop_1 _) (MeetsSeq.list_pop_last l its.toArray n u hy' (by rw[Fk];omega)) ⟨e,?_⟩
 refine⟨y,_,I.Ud (its':=its.dropLast) hH e ?_ r.dropLast ?_,ru,q⟩
 ·show its.toArray.eraseIdxIfInBounds (its.toArray.size -1)=its.dropLast.toArray
  rw[Fk,List.eraseIdxIfInBounds_toArray,z5]
 ·rw[List.length_dropLast]
  omega
noncomputable def W6:R2:=fun x y H Q=>∃l b xs zs,x=.ref l/\y=.ref b/\H l=some (.lst xs)/\H b=some (.lst zs)/\xs.length+zs.length<=sizeLine/\∀p,H p=none->Q (.ref p) (upd H p (.lst (xs++zs)))
theorem OA:kN X (binaryOp .Add) W6:=by
 intro pins s σ H x y v u Q I rx ry h
 obtain⟨l,b,xs,zs,rfl,rfl,hH,hB,hz,q⟩:=h
 cases rx
 cases ry
 obtain⟨z,its,n,r,hl,e⟩:=I.JK hH
 obtain⟨z2,its2,n2,r2,hl2,e2⟩:=I.JK hB
 refine PySem.P.add_list e e2 ?_ (by rw[Fk,Fk];omega)
 have ea:its.toArray++its2.toArray=(its++its2).toArray:=by simp
 rw[ea]
 exact⟨.ref _,_,I.Ox (t':=s.toks) (r.append r2) (by rw[Ee];omega),rfl,q _ I.fresh⟩
theorem len_rep{α:Type}(xs:List α)(k:Nat):(List.replicate k xs).flatten.length=k*xs.length:=by
 induction k with
 |zero=>simp
 |succ k ih=>rw[List.replicate_succ,List.flatten_cons,Ee,ih,Nat.succ_mul,Nat.add_comm]
end
section
variable{prog:Program}{w:World}{A:Around}{E:Value->Shared->Prop}{s:Shared}
end
section
variable{X:Cx}
end
end L2
namespace Y9
open PySem PySem.W PySem.Calls PyProof.Rows
theorem oS{P:Params}{h:Heap}:∀(ns:List Int) (vs:List Value),WellAll P h vs (ns.map WData.int)->IntsAre vs ns:=by
 intro ns
 induction ns with
 |nil=>
  intro vs w
  rw[P2]at w
  cases w
  exact .nil
 |cons n ns ih=>
  intro vs w
  rw[Fn]at w
  cases w with
  |cons a b=>
   cases a
   exact .cons _ _ (ih _ b)
theorem DF{l:OpenLaw}{n:Nat}(hn:l.most=some n){P:Params}{h:Heap}{args:List WData}{vals:List Value}
 (hpre:l.row.toRowW.claim.pre args=true) (hwl:WellAll P h vals args):
 ∃a vs ns,vals=[Value.ref a]/\args=[WData.list (ns.map WData.int)]/\h.get? a=some {cls:=.type "list",data:=.seq vs.toArray}/\IntsAre vs ns/\ns.length<=n:=by
 have hsh:WShape.hasAll [] args [.list .int]=true:=(pre_splitW hpre).1
 have hc:l.pre.holds [] {args:=args}=true:=(pre_splitW hpre).2
 obtain⟨d,r,rfl,h1,h2⟩:=hasAllW_cons hsh
 obtain rfl:=hasAllW_nil h2
 obtain⟨xs,rfl,h3⟩:=hasW_list h1
 obtain⟨ns,rfl⟩:=items_int h3
 have hlen:ns.length<=n:=by
  unfold OpenLaw.pre at hc
  have h4:(WTm.not (.lt (.lit (.int (n:Int))) (.len (.arg 0)))).holds [] {args:=[.list (ns.map .int)]}=true:=by
   have h4:=(holds_andW hc).1
   rw[hn]at h4
   exact h4
  have h5:=condW_of h4 (w_not (w_lt w_lit (w_len_list (w_arg rfl))))
  rw[Ap]at h5
  refine Nat.le_of_not_lt fun q=>?_
  have q':(n:Int)<((ns.length:Nat):Int):=by omega
  first
   |(rw[Hn q']at h5;exact absurd h5 (by decide))
   |(simp at h5;omega)
 cases hwl with
 |cons w1 w2=>
  cases w2
  cases w1 with
  |list ho hall=>exact⟨_,_,ns,rfl,rfl,ho,oS ns _ hall,hlen⟩
theorem DG(l:OpenLaw)(args:List WData):l.row.toRowW.claim.post args (.bool true) args=true:=
 postW_of (r:=l.row.toRowW) (X:=(true==true))
  (show WShape.has [] (.bool true) .bool=true by first|rfl|decide|simp[WShape.has,WShape.arms,WShape.armsAll])
  (show(WTm.eq .res (.lit (.bool true))).value [] {args:=args,res:=some (.bool true),after:=args}=some (.bool (true==true))from w_eq_bool (w_res rfl) w_lit) rfl
theorem xC{l:OpenLaw}{n:Nat}{q:Program}{loose:List Str}{XP:(Str->Option Value)->Heap->Prop}{YP:World->Heap->Prop}{d:DefRec}
 (hn:l.most=some n) (hdf:d.params.defaults=[])
 (call:∀(w:World) (s₀ s₁:Shared) (mg mb:Str->Option Value) (fa:Addr) (o:Obj) (pm cd doc:Value) (a:Addr) (vs:List Value) (ns:List Int),
   Ground q loose [] XP w s₀ mg mb s₁.heap->YP w s₁.heap->
   s₁.heap.get? fa=some o->o.data=.func (docDef d.name d.params d.body d.scope pm cd doc)->s₁.heap.CodeRec cd d.name->mg d.name=some (.ref fa)->
   s₁.heap.get? a=some {cls:=.type "list",data:=.seq vs.toArray}->IntsAre vs ns->ns.length<=n->s₁.gens= #[]->
   codeAny (model l.prog w) callerA (.call (.ref fa) ⟨[.ref a],[]⟩) (fun r s'=>r=.ok (.ret (.bool true))/\OldK s₁.heap s'.heap/\s'.os=s₁.os/\AllBare s'.gens) s₁):
 WalkO q loose XP YP l.row.toRowW d [] (fun f vs=>PySem.call f vs):=by
 intro w s₀ s₁ mg mb G Y fa o pm cd doc dV kV ho hd hcd hD hmg hg args vals as hpre hlay hrd hwl hlo
 obtain rfl:dV=.none:=Dflts.none hD hdf
 obtain rfl:kV=.none:=Dflts.noKw hD
 obtain⟨a,vs,ns,rfl,rfl,hobj,hints,hlen⟩:=DF hn hpre hwl
 refine enter_call (codeAny_mono (call w s₀ s₁ mg mb fa o pm cd doc a vs ns G Y ho (fd_plain hd) hcd hmg hobj hints hlen hg) fun r s' hq=>?_)
 obtain⟨rfl,h2,h3,h4⟩:=hq
 exact⟨.inl ⟨.bool true,.bool true,[],rfl,fun _=>rfl,.bool true,DG l _,fun _=>⟨List.Pairwise.nil,fun _ hm=>(nomatch hm)⟩⟩,h2,h3,h4⟩
section
variable{prog:Program}{w:World}{A:Around}{E:Value->Shared->Prop}{s:Shared}{K:Frag}
end
end Y9
namespace L2
open PySem PySem.Spec PyProof.Rows
theorem tT:∀{vs:List Value} {ns:List Int},IntsAre vs ns->Vals (ns.map V.int) vs
 |_,_,.nil=>.nil
 |_,_,.cons n t h=>.cons ⟨t,rfl⟩ (tT h)
noncomputable def FN(H:Hp):Prop:=∀b,H b=none\/∃o xs,H b=some (.xr o (.lst xs))
theorem FO{P:Program}{w:World}{K:PySem.W.Frag}{mg mb:Str->Option Value}{CX:Dy}{k:Nat}{fa a:Addr}{fd:FuncData}{x:Str}{sp:Sp}{s₁:Shared}{vs:List Value}{ns:List Int}
 (KX:K.In s₁.heap) (hns:s₁.heap.Ns mainGlobals mg) (hb:s₁.heap.Ns builtinsNs mb) (hbb:∀x:Str,x≠"__name__"->mb x=bootBuiltins x) (hlim:s₁.heap.NoLimit) (hg:s₁.gens= #[])
 (ha:s₁.heap.get? a=some {cls:=.type "list",data:=.seq vs.toArray}) (hi:IntsAre vs ns) (hl:ns.length<=sizeLine) (hr:cH k callerA)
 (F:∀base:Heap,K.In base->base.Ns mainGlobals mg->aH P w K mg base CX k fa fd [x] sp) (hbind:∀(s:Shared) (u:Value),BindsTo s fd ⟨[u],[]⟩ [(x,u)])
 (tS:∀H:Hp,FN H->ir K H a (ns.map V.int)->sp [.ref a] H (fun v _=>v=.bl true) fun _ _ _=>False)
 (W7:∀H e s',CX [] H s₁ (fun _ _ _=>False) e s'->False):
 codeAny (model P w) callerA (.call (.ref fa) ⟨[.ref a],[]⟩) (fun r s'=>r=.ok (.ret (.bool true))/\OldK s₁.heap s'.heap/\s'.os=s₁.os/\AllBare s'.gens) s₁:=by
 have rv:=tT hi
 have W8:=hi.length
 have core:∀H:Hp,FN H->ir K H a (ns.map V.int)->lE P w H s₁.heap->(∀b,H b≠none->b=a)->(H a≠none->K.lookup a=none)->
  codeAny (model P w) callerA (.call (.ref fa) ⟨[.ref a],[]⟩) (fun r s'=>r=.ok (.ret (.bool true))/\OldK s₁.heap s'.heap/\s'.os=s₁.os/\AllBare s'.gens) s₁:=by
  intro H hO hS hok hA hK
  have Bw:∀{b:Addr} {o:Obj},s₁.heap.get? b=some o->H b=none->(uK s₁.heap H).get? b=some o:=fun e n=>Fg e n
  have T6:∀{b:Addr} {o:Obj} {es:Array DictEntry} {ep:Nat},s₁.heap.get? b=some o->o.data=.dict es ep->H b=none:=fun{b o es ep} e d=>by
   cases q:H b with
   |none=>rfl
   |some u=>
    have e':b=a:=hA b (by rw[q];simp)
    subst e'
    rw[ha]at e;cases e
    have d':Data.seq vs.toArray _=Data.dict es ep:=d
    cases d'
  have Wf:∀{b:Addr} {m:Str->Option Value},s₁.heap.Ns b m->(uK s₁.heap H).Ns b m:=fun{b m} ⟨o,es,ep,e,d,r⟩=>⟨o,es,ep,Bw e (T6 e d),d,r⟩
  have Za:K.In (uK s₁.heap H):=fun b o e=>Bw (KX b o e) (by
   cases q:H b with
   |none=>rfl
   |some u=>
    have e':b=a:=hA b (by rw[q];simp)
    subst e'
    rw[hK (by rw[q];simp)]at e;cases e)
  have hM:Mod K mg (uK s₁.heap H):=⟨Za,Wf hns,⟨mb,Wf hb,hbb⟩,let⟨mc,h1,h2⟩:=hlim;⟨mc,Wf h1,h2⟩⟩
  have e0:zW P w K mg (uK s₁.heap H) callerA [] s₁ H:=⟨rfl,hM,fun b o e=>Jl e,Nat.le_of_eq (Dh _ _),trivial,fun b hb=>absurd (show b∈([]:List Addr)from hb) (by simp),hok,.of_eq hg⟩
  refine codeAny_mono ((F _ Za (Wf hns)).run callerA [] s₁ H ⟨[.ref a],[]⟩ [.ref a] [.ref a] _ _ hr e0 (hbind s₁ (.ref a)) (.cons rfl .nil) (tS H hO hS)) fun r s' h=>?_
  cases r with
  |error e=>exact(W7 H e s' h).elim
  |ok fl=>
   cases fl with
   |next=>exact False.elim h
   |brk=>exact False.elim h
   |cont=>exact False.elim h
   |ret u=>
    obtain⟨v,H',os,bare,un,W9,r',q⟩:=h
    have q':v=.bl true:=q
    subst q'
    obtain rfl:u=Value.bool true:=r'
    refine⟨rfl,OldK.of_keep fun b o e=>?_,os,bare⟩
    cases q:H b with
    |none=>exact un.keep b o e q (by intro z;exact absurd (show b∈([]:List Addr)from z) (by simp)) (by simp)
    |some u=>
     rcases hO b with z|⟨ob,xs,z⟩
     ·rw[q]at z;cases z
     ·have z2:=un.j3 b ob _ z
      obtain⟨e1,_⟩:=hok b _ z
      obtain⟨e2,_⟩:=W9 b _ z2
      rw[e]at e1;cases e1
      exact e2
 cases hk:K.lookup a with
 |some o=>
  have e:=KX a o hk
  rw[ha]at e
  cases e
  refine core (fun _=>none) (fun _=>.inl rfl) (.inr ⟨_,vs.toArray,_,hk,rfl,rfl,rfl,by rw[Fk,W8];exact hl,by simpa using rv⟩) (fun b u z=>by have z':(none:Option HO)=some u:=z;cases z') (fun b z=>absurd rfl z) fun z=>absurd rfl z
 |none=>
  refine core (fun b=>if b=a then some (.xr {cls:=.type "list",data:=.seq vs.toArray} (.lst (ns.map V.int)))else none) (fun b=>?_) (.inl (.inr ⟨{cls:=.type "list",data:=.seq vs.toArray},Bi rfl⟩)) (fun b u z=>?_) (fun b z=>?_) fun _=>hk
  ·by_cases hb:b=a
   ·exact .inr ⟨_,_,Bi hb⟩
   ·exact .inl (B1 hb)
  ·by_cases hb:b=a
   ·have z':=(Bi hb).symm.trans z
    cases z'
    subst hb
    exact⟨ha,by rw[Ap];exact hl,vs,_,rv,ha⟩
   ·have z':=(B1 hb).symm.trans z
    cases z'
  ·by_cases hb:b=a
   ·exact hb
   ·exact absurd (B1 hb) z
theorem JL{l:PySem.W.OpenLaw}{n k:Nat}{q:Program}{loose:List Str}{XP:(Str->Option Value)->Heap->Prop}{YP:World->Heap->Prop}{d:DefRec}{K:Params->PySem.W.Frag}{CX:World->Dy}{sp:World->Sp}{x:Str}
 (hn:l.most=some n) (hn2:n<=sizeLine) (hdf:d.params.defaults=[]) (hr:cH k callerA)
 (hY:∀(w:World) (h:Heap),YP w h->(K w.params).In h)
 (F:∀(w:World) (mg:Str->Option Value) (fa:Addr) (h:Heap),(K w.params).In h->h.Ns mainGlobals mg->mg d.name=some (.ref fa)->
   ∃fd:FuncData,(∀(s:Shared) (u:Value),BindsTo s fd ⟨[u],[]⟩ [(x,u)])/\
    ∀base:Heap,(K w.params).In base->base.Ns mainGlobals mg->aH l.prog w (K w.params) mg base (CX w) k fa fd [x] (sp w))
 (tS:∀(w:World) (H:Hp) (a:Addr) (ns:List Int),ns.length<=n->FN H->ir (K w.params) H a (ns.map V.int)->sp w [.ref a] H (fun v _=>v=.bl true) fun _ _ _=>False)
 (W7:∀(w:World) (H:Hp) (s:Shared) (e:Value) (s':Shared),CX w [] H s (fun _ _ _=>False) e s'->False):
 PySem.W.WalkO q loose XP YP l.row.toRowW d [] (fun f vs=>PySem.call f vs):=by
 refine Y9.xC hn hdf fun w s₀ s₁ mg mb fa o pm cd doc a vs ns G Y ho hd hcd hmg hobj hints hlen hg=>?_
 have KX:=hY w _ Y
 obtain⟨fd,hb,hF⟩:=F w mg fa _ KX G.T.g hmg
 exact FO KX G.T.g G.T.b G.T.builtins G.T.nolimit hg hobj hints (FC hlen hn2) hr hF hb (fun H hO hS=>tS w H a ns hlen hO hS) fun H e s'=>W7 w H s₁ e s'
noncomputable def inClass(s:Stmt)(j:Nat):Stmt:=match s with
 |.ClassDef _ _ _ body _ _ _ _ _ _ _=>body.getD j (.Pass ⟨0,0,0,0⟩)
 |_=>.Pass ⟨0,0,0,0⟩
noncomputable def cE(s:Stmt):Arguments:=match s with
 |.FunctionDef _ a _ _ _ _ _ _ _ _=>a
 |_=>{posonlyargs:=[],args:=[],vararg:=none,kwonlyargs:=[],kw_defaults:=[],kwarg:=none,defaults:=[]}
noncomputable def ah(s:Stmt):List Stmt:=match s with
 |.FunctionDef _ _ b _ _ _ _ _ _ _=>b
 |_=>[]
noncomputable def aa(s:Stmt):Scope:=match s with
 |.FunctionDef _ _ _ _ _ _ sc _ _ _=>sc
 |_=>{kind:=.function,names:=[],isGenerator:=false,isCoroutine:=false}
abbrev JM:Dy:=fun _ _ _ _ _ _=>False
abbrev E0:XK:=fun _ _ _=>False
theorem Ue{X:Cx}:Passes JM X E0:=fun _ _ _ _ _ _ _ h=>h.elim
structure DH(K:PySem.W.Frag)(x qual:Str)(st:Stmt)(f:Addr)(fd:FuncData):Prop where
 ex:∃(oc:Value) (od:Option Addr) (kV doc pm:Value) (an:Option Addr) (cdv ct:Value) (osl:Array (Option Value)),
  fd=PySem.W.fnOf x qual (cE st) (ah st) (aa st) .none kV doc pm an cdv ct/\K.lookup f=some ⟨oc,od,.func fd,osl⟩/\PySem.W.codeIn K cdv qual=true
 kp:PySem.W.keepIn K (.ref f)=true
section
variable{P:Program}{w:World}{K:PySem.W.Frag}{mg:Str->Option Value}{base:Heap}
theorem DH.ok{x qual:Str}{st:Stmt}{f:Addr}{fd:FuncData}{N ps:List Str}{k:Nat}{sp:Sp}(F:DH K x qual st f fd)(S:az N ps (aa st))(len:∀vs H Q E,sp vs H Q E->vs.length=ps.length)
 (hbody:∀(cdv:Value) (A:Around) (outer:List Env) (s:Shared) (H:Hp) (vs:List V) (Q:VK) (E:XK),cH k (A.deeper (envOfC qual (aa st) s.heap.objs.size f cdv))->sp vs H Q E->
   ∃t,sI (zY JM P w K mg base N qual (aa st) f cdv A outer s H E).nB (ah st) t/\t {nx:=fun _ H'=>Q .aU H',rt:=Q} (start N vs) H):aH P w K mg base JM (k+1) f fd ps sp:=by
 obtain⟨oc,od,kV,doc,pm,an,cdv,ct,osl,rfl,lk,hcd⟩:=F.ex
 refine MK lk hcd S len fun A outer s H vs Q E hr tS=>?_
 obtain⟨t,h,q⟩:=hbody cdv A outer s H vs Q E hr tS
 exact⟨t,h.nB,q⟩
theorem DH.binds{x qual:Str}{st:Stmt}{f:Addr}{fd:FuncData}{ps:List Str}(F:DH K x qual st f fd)
 (h:∀(kV doc pm:Value) (an:Option Addr) (cdv ct:Value) (us:List Value),us.length=ps.length->bindArgs (PySem.W.fnOf x qual (cE st) (ah st) (aa st) .none kV doc pm an cdv ct) ⟨us,[]⟩=pure (ps.zip us)):Binds K fd ps []:=by
 obtain⟨oc,od,kV,doc,pm,an,cdv,ct,osl,rfl,lk,hcd⟩:=F.ex
 exact .all (h kV doc pm an cdv ct)
theorem FP{x qual:Str}{st:Stmt}{f:Addr}{oc:Value}{od an:Option Addr}{osl:Array (Option Value)}{kV doc pm cdv ct:Value}(l:K.lookup f=some ⟨oc,od,.func (PySem.W.fnOf x qual (cE st) (ah st) (aa st) .none kV doc pm an cdv ct),osl⟩)
 (c:PySem.W.codeIn K cdv qual=true) (k:PySem.W.keepIn K (.ref f)=true):DH K x qual st f (PySem.W.fnOf x qual (cE st) (ah st) (aa st) .none kV doc pm an cdv ct):=⟨⟨oc,od,kV,doc,pm,an,cdv,ct,osl,rfl,l,c⟩,k⟩
end
theorem DI{n:Nat}(h:n<=1000):n<sizeLine:=KE h (by decide)
section
variable{X:Cx}
theorem pv(i:Nat){x:Str}{pos:Pos}(hN:X.N[i]?=some x:=by rfl)(hv:So X.env.scope x:=by first|exact Or.inl rfl|exact Or.inr (Or.inl rfl)|exact Or.inr (Or.inr rfl))(hd:(x==("__debug__":Str))=false:=by decide)
 (hcd:(x==("__classdict__":Str))=false:=by decide):PE X (.Name x pos) (nA i):=Fj hN hv hd hcd
end
noncomputable def ay(H H':Hp):Prop:=∀b o,H b=some o->H' b=some o
theorem ay.refl(H:Hp):ay H H:=fun _ _ h=>h
theorem ay.trans{H H1 H2:Hp}(a:ay H H1)(b:ay H1 H2):ay H H2:=fun c o h=>b c o (a c o h)
theorem ay.free{H H':Hp}(e:ay H H'){l:Addr}(h:H' l=Option.none):H l=Option.none:=by
 cases q:H l with
 |none=>rfl
 |some o=>
  rw[e l o q]at h
  cases h
theorem bits_le{x:Int}{n:Nat}(h:x.natAbs<2^n):Builtin.Int.intBits x<=n:=by
 unfold Builtin.Int.intBits
 split
 ·exact NM _
 ·rename_i hx
  have hx':x.natAbs≠0:=fun e=>hx (by simp[Int.natAbs_eq_zero.mp e])
  have:=(Nat.log2_lt hx').mpr h
  omega
theorem z6{i j:Int}(h:Builtin.Int.intBits i+Builtin.Int.intBits j<=134217728):IntMulOk i j:=by
 unfold IntMulOk Builtin.Int.intTooBig
 have h':¬((Builtin.Int.intBits i:Int)+(Builtin.Int.intBits j:Int)>((bitsLine:Nat):Int)):=by
  rw[bitsLine_eq]
  omega
 intro z
 rw[AN]at z
 exact h' (Bz z.2)
theorem oz{i j:Int}(h1: -(2^64)<i)(h2:i<2^64):IntMulOk i j:=.of_left (intBits_le_64 h1 h2)
section
variable{X:Cx}
theorem JN:kN X (binaryOp .Mult) (rI IntMulOk fun i j=>.int (i*j)):=Sw fun _ _ _ _ _ _ _ hc q=>mul_int q hc
noncomputable def Bx(_ j:Int):Prop:=j≠0/\j.natAbs.log2<9000
theorem FQ:kN X (binaryOp .FloorDiv) (rI Bx fun i j=>.int (i.fdiv j)):=Sw fun _ _ _ _ _ _ _ hc q=>floordiv_int hc.1 q (.inl (PyProof.noPylong_of_log2 hc.2))
end
theorem aL{H:Hp}{p:Addr}(h:H p=none)(o:HO):ay H (upd H p o):=fun b u q=>by rw[ai (aO q h)];exact q
theorem FT{H H':Hp}{p:Addr}(s:ay H H')(h:H p=none)(o:HO):ay H (upd H' p o):=fun b u q=>by rw[ai (aO q h)];exact s b u q
theorem ay.tup{K:PySem.W.Frag}{H H':Hp}{a:Addr}{xs:List V}(e:ay H H')(h:lG K H a xs):lG K H' a xs:=by
 rcases h with(h|⟨o,h⟩)|h
 ·exact .inl (.inl (e _ _ h))
 ·exact .inl (.inr ⟨o,e _ _ h⟩)
 ·exact .inr h
theorem iy{n:Nat}(h:n<=100000):n<=sizeLine:=FC h (by decide)
end L2
namespace L2
theorem fT{i j:Int}(h1:0<=j)(h2:j<=1000000)(h3:i.natAbs<2^64):sJ i j:=⟨h1,h2,h3⟩
end L2
namespace L2
open PySem PySem.Spec PyProof.Rows
theorem xD{H:Hp}{p q:Addr}{o u:HO}(hq:H q=some u)(hp:H p=none):upd H p o q=some u:=by
 rw[ai (aO hq hp)]
 exact hq
theorem bW.thing{P:Program}{w:World}{H:Hp}{h:Heap}{a:Addr}{o:HO}(x:bW P w H h a o):∃ob,h.get? a=some ob:=by
 cases o with
 |lst xs=>obtain⟨_,_,_,_,e⟩:=x;exact⟨_,e⟩
 |tup xs=>obtain⟨_,_,_,ob,e,_⟩:=x;exact⟨_,e⟩
 |dK kvs=>obtain⟨_,_,_,_,ob,_,_,e,_⟩:=x;exact⟨_,e⟩
 |dT kvs=>obtain⟨_,_,_,_,ob,_,_,e,_⟩:=x;exact⟨_,e⟩
 |set S n=>obtain⟨ob,_,_,_,e,_⟩:=x;exact⟨_,e⟩
 |ins C dx fs=>obtain⟨_,_,_,e,_⟩:=x;exact⟨_,e⟩
 |own y=>exact x
 |xd fs=>obtain⟨_,⟨_,_,_,e,_⟩,_⟩:=x;exact⟨_,e⟩
 |jn lo hi=>obtain⟨_,_,_,e⟩:=x;exact⟨_,e⟩
 |xr ob u=>obtain⟨e,_⟩:=x;exact⟨_,e⟩
 |MC ps=>exact⟨_,x⟩
 |met f y=>exact⟨_,x⟩
 |ext φ=>obtain⟨_,e,_⟩:=x;exact e
theorem lE.gone{P:Program}{w:World}{H:Hp}{h:Heap}{a:Addr}(x:lE P w H h)(e:h.get? a=none):H a=none:=by
 cases q:H a with
 |none=>rfl
 |some u=>
  obtain⟨ob,z⟩:=(x a u q).thing
  rw[e]at z
  cases z
theorem lE.tracked{P:Program}{w:World}{H:Hp}{h h':Heap}(x:lE P w H h)(k:∀b u ob,H b=some u->h.get? b=some ob->h'.get? b=some ob):lE P w H h':=fun a o e=>
 (x a o e).stay (fun b u z q=>by
   rcases z with rfl|z
   ·exact k b o u e q
   ·exact k b _ u z q) (fun _ q=>q) fun _ _ q=>q
structure Zb(P:Program)(w:World)(outer:List Env)(H:Hp)(s:Shared)(H':Hp)(a C:Addr)(s':Shared):Prop where
 os:s'.os=s.os
 bare:AllBare s'.gens
 un:Un (frs outer) [] H H' s.heap s'.heap
 hok:lE P w H' s'.heap
 new:H' a=none
 old:s.heap.get? a=none
 Ug:∃(B:Heap) (a0:Value),Heap.FlyingW B outer a (.ref C) a0 s'.heap/\∀b o,s'.heap.get? b=some o->b∉frs outer->((∃o',s.heap.get? b=some o')\/∃u,H' b=some u)->B.get? b=some o
noncomputable def cK(P:Program)(w:World):Dy:=fun outer H s E e s'=>∃a C H',e=.ref a/\Zb P w outer H s H' a C s'/\E (.ref C) none H'
section
variable{P:Program}{w:World}{K:PySem.W.Frag}{mg:Str->Option Value}{base:Heap}{N:List Str}{qual:Str}{scope:Scope}{f:Addr}{cd:Value}{A:Around}{outer:List Env}{s:Shared}{H:Hp}{E:XK}
abbrev lH(P:Program)(w:World)(K:PySem.W.Frag)(mg:Str->Option Value)(base:Heap)(N:List Str)(qual:Str)(scope:Scope)(f:Addr)(cd:Value)(A:Around)(outer:List Env)(s:Shared)(H:Hp)(E:XK):Cx:=
 zY (cK P w) P w K mg base N qual scope f cd A outer s H E
theorem qb{e:Env}{l:List Env}{L b:Addr}(hf:e.frame=some L):b∈frs (e::l)↔b=L\/b∈frs l:=by
 unfold frs
 rw[List.filterMap_cons,hf]
 exact Fu
theorem xE{pins:List (Addr×Obj)}{σ:St}{H1 H2:Hp}{s1:Shared}{h2:Heap}(I:Inv (lH P w K mg base N qual scope f cd A outer s H E) pins σ H1 s1)
 (u:Un (frs (lH P w K mg base N qual scope f cd A outer s H E).stack) [] H1 H2 s1.heap h2):Un (frs outer) [] H H2 s.heap h2:=by
 have lf:(lH P w K mg base N qual scope f cd A outer s H E).env.frame=some s.heap.objs.size:=rfl
 have st:∀b,b∈frs (lH P w K mg base N qual scope f cd A outer s H E).stack↔b=s.heap.objs.size\/b∈frs outer:=fun b=>qb lf
 have E4:Un (frs outer) [] H H1 s.heap s1.heap:=I.base
 have noL:∀b o,s.heap.get? b=some o->b∉frs outer->b∉frs (lH P w K mg base N qual scope f cd A outer s H E).stack:=fun b o q hb z=>by
  rcases(st b).mp z with z|z
  ·exact absurd (FR q) (by rw[z];exact SF _)
  ·exact hb z
 refine⟨fun b o q n hb hx=>?_,fun b o q n hb hx=>?_,fun b o q n hx=>?_,fun b o q hx=>?_,fun b xs q=>u.tups b xs (E4.tups b xs q),fun b o v q=>u.j3 b o v (E4.j3 b o v q),fun b ps q=>?_⟩
 ·exact u.keep b o (E4.keep b o q n hb hx) (E4.free b o q n hx) (noL b o q hb) hx
 ·obtain⟨sl,e1⟩:=E4.slot b o q n hb hx
  obtain⟨sl2,e2⟩:=u.slot b _ e1 (E4.free b o q n hx) ((st b).mpr (.inr hb)) hx
  exact⟨sl2,e2⟩
 ·obtain⟨o',e1⟩:=E4.there b o q hx
  exact u.free b o' e1 (E4.free b o q n hx) hx
 ·obtain⟨o',e1⟩:=E4.there b o q hx
  exact u.there b o' e1 hx
 ·obtain⟨m1,e1⟩:=E4.kL b ps q
  obtain⟨m2,e2⟩:=u.kL b _ e1
  exact⟨m1++m2,by rw[e2,Array.append_assoc]⟩
theorem z7{l:List Env}{H1 H2:Hp}{h1 h2 h3:Heap}(u:Un (frs l) [] H1 H2 h1 h2)(k:∀b o,h2.get? b=some o->b∉frs l->((∃o',h1.get? b=some o')\/∃u,H2 b=some u)->h3.get? b=some o)
 (ff:∀b,b∈frs l->∃o,h2.get? b=some o/\∀vs,o.data≠.fields vs) (up:h2.UpToSlots h3):Un (frs l) [] H1 H2 h1 h3:=by
 have fr:∀b o,b∈frs l->h2.get? b=some o->∃sl,h3.get? b=some {o with slots:=sl}:=fun b o hb q=>by
  obtain⟨o',e,nf⟩:=ff b hb
  rw[q]at e
  cases e
  exact up b o q nf
 refine⟨fun b o q n hb hx=>k b o (u.keep b o q n hb hx) hb (.inl ⟨o,q⟩),fun b o q n hb hx=>?_,u.free,fun b o q hx=>?_,u.tups,u.j3,u.kL⟩
 ·obtain⟨sl,e1⟩:=u.slot b o q n hb hx
  obtain⟨sl2,e2⟩:=fr b _ hb e1
  exact⟨sl2,e2⟩
 ·obtain⟨o',e1⟩:=u.there b o q hx
  by_cases hb:b∈frs l
  ·obtain⟨sl,e2⟩:=fr b o' hb e1
   exact⟨_,e2⟩
  ·exact⟨o',k b o' e1 hb (.inl ⟨o,q⟩)⟩
theorem FU{pins:List (Addr×Obj)}{σ:St}{H1:Hp}{s1:Shared}{a:Addr}(I:Inv (lH P w K mg base N qual scope f cd A outer s H E) pins σ H1 s1)(e:s1.heap.get? a=none):s.heap.get? a=none:=by
 have E4:Un (frs outer) [] H H1 s.heap s1.heap:=I.base
 cases q:s.heap.get? a with
 |none=>rfl
 |some o=>
  obtain⟨o',z⟩:=E4.there a o q (by simp)
  rw[e]at z
  cases z
theorem z8{pins:List (Addr×Obj)}{σ:St}{H1:Hp}{s1:Shared}{h':Heap}{a C:Addr}{args:List Value}(I:Inv (lH P w K mg base N qual scope f cd A outer s H E) pins σ H1 s1)
 (hx:Heap.MadeExcOf s1.heap h' a (.ref C) args) (q:E (.ref C) none H1):(lH P w K mg base N qual scope f cd A outer s H E).xe (.ref a) {s1 with heap:=h'}:=by
 have lf:(lH P w K mg base N qual scope f cd A outer s H E).env.frame=some s.heap.objs.size:=rfl
 have st:∀b,b∈frs (lH P w K mg base N qual scope f cd A outer s H E).stack↔b=s.heap.objs.size\/b∈frs outer:=fun b=>qb lf
 have ff:=I.stack
 have hin:∀env∈(lH P w K mg base N qual scope f cd A outer s H E).stack,∀b,env.frame=some b->b∈frs (lH P w K mg base N qual scope f cd A outer s H E).stack:=fun env he b hb=>List.mem_filterMap.mpr ⟨env,he,hb⟩
 have Zc:=PySem.W.funFrames_hide ff hin
 refine wpAny_leaves_madeW (base:=PySem.W.hideAll s1.heap (frs (lH P w K mg base N qual scope f cd A outer s H E).stack)) (h:=s1.heap) I.ok.frames lf (fun b o z=>PySem.W.of_hideAll _ z) Zc hx fun h2 t x1 x2 x3 x4=>?_
 have OB:∀b o,s1.heap.get? b=some o->b∉frs (lH P w K mg base N qual scope f cd A outer s H E).stack->h2.get? b=some o:=fun b o z nb=>x1.1 b o (PySem.W.hideAll_get _ z nb)
 have fm:∀b,b∈frs (lH P w K mg base N qual scope f cd A outer s H E).stack->∃o,s1.heap.get? b=some o/\∀vs,o.data≠.fields vs:=fun b hb=>(Zc.mem hb).2
 have up:s1.heap.UpToSlots h2:=(Heap.UpToSlots.of_keeps hx.keeps).trans x4
 have u1:Un (frs (lH P w K mg base N qual scope f cd A outer s H E).stack) [] H1 H1 s1.heap h2:=z7 Un.refl (fun b o z nb _=>OB b o z nb) fm up
 refine⟨a,C,H1,rfl,⟨I.os,I.bare,xE I u1,I.hok.tracked fun b u ob z zz=>OB b ob zz fun m=>?_,I.hok.gone hx.new,FU I hx.new,_,_,x1,fun b o z nb hor=>?_⟩,q⟩
 ·have:=I.jP b m
  rw[z]at this
  cases this
 ·have Wg:b∉frs (lH P w K mg base N qual scope f cd A outer s H E).stack:=fun m=>by
   rcases hor with⟨o',e⟩|⟨u,e⟩
   ·rcases(st b).mp m with m|m
    ·exact absurd (FR e) (by rw[m];exact SF _)
    ·exact nb m
   ·have:=I.jP b m
    rw[e]at this
    cases this
  have:∃o1,s1.heap.get? b=some o1:=by
   rcases hor with⟨o',e⟩|⟨u,e⟩
   ·exact Un.there (show Un (frs outer) [] H H1 s.heap s1.heap from I.base) b o' e (by simp)
   ·exact(I.hok b u e).thing
  obtain⟨o1,e1⟩:=this
  have e2:=OB b o1 e1 Wg
  have z':h2.get? b=some o:=z
  rw[e2]at z'
  cases z'
  exact PySem.W.hideAll_get _ e1 Wg
theorem FW{pins:List (Addr×Obj)}{σ:St}{H1:Hp}{s1 s':Shared}{e:Value}(I:Inv (lH P w K mg base N qual scope f cd A outer s H E) pins σ H1 s1)
 (hc:cK P w (lH P w K mg base N qual scope f cd A outer s H E).stack H1 s1 E e s'):(lH P w K mg base N qual scope f cd A outer s H E).xe e s':=by
 obtain⟨a,C,H2,rfl,F,q⟩:=hc
 obtain⟨B,a0,x,kB⟩:=F.Ug
 have lf:(lH P w K mg base N qual scope f cd A outer s H E).env.frame=some s.heap.objs.size:=rfl
 have st:∀b,b∈frs (lH P w K mg base N qual scope f cd A outer s H E).stack↔b=s.heap.objs.size\/b∈frs outer:=fun b=>qb lf
 refine wpAny_leaves_onW I.ok.frames lf x fun h2 x1 x4=>?_
 have fm:∀b,b∈frs (lH P w K mg base N qual scope f cd A outer s H E).stack->∃o,s'.heap.get? b=some o/\∀vs,o.data≠.fields vs:=fun b hb=>(x.2.2.1.mem hb).2
 have Dj:∀b u,H2 b=some u->b∉frs (lH P w K mg base N qual scope f cd A outer s H E).stack:=fun b u z m=>by
  have e1:=I.jP b m
  obtain⟨o,ho,_⟩:=I.stack.mem m|>.2
  rw[F.un.free b o ho e1 (by simp)]at z
  cases z
 have u1:=z7 F.un (fun b o z nb hor=>x1.1 b o (kB b o z nb hor)) fm x4
 refine⟨a,C,H2,rfl,⟨F.os.trans I.os,F.bare,xE I u1,F.hok.tracked fun b u ob z zz=>x1.1 b ob (kB b ob zz (Dj b u z) (.inr ⟨u,z⟩)),F.new,FU I F.old,B,a0,x1,fun b o z nb hor=>?_⟩,q⟩
 have Wg:b∉frs (lH P w K mg base N qual scope f cd A outer s H E).stack:=fun m=>by
  rcases hor with⟨o',e⟩|⟨u,e⟩
  ·rcases(st b).mp m with m|m
   ·exact absurd (FR e) (by rw[m];exact SF _)
   ·exact nb m
  ·exact Dj b u e m
 have Uh:(∃o',s1.heap.get? b=some o')\/∃u,H2 b=some u:=by
  rcases hor with⟨o',e⟩|z
  ·exact .inl (Un.there (show Un (frs outer) [] H H1 s.heap s1.heap from I.base) b o' e (by simp))
  ·exact .inr z
 have:∃o1,s'.heap.get? b=some o1:=by
  rcases Uh with⟨o',e⟩|⟨u,e⟩
  ·exact F.un.there b o' e (by simp)
  ·exact(F.hok b u e).thing
 obtain⟨o1,e1⟩:=this
 have e3:=kB b o1 e1 Wg Uh
 have e2:=x1.1 b o1 e3
 have z':h2.get? b=some o:=z
 rw[e2]at z'
 cases z'
 exact e3
theorem MM:Passes (cK P w) (lH P w K mg base N qual scope f cd A outer s H E) E:=fun _ _ _ _ _ _ I h=>FW I h
end
abbrev Xa:List Value:=[.type "ValueError",.type "Exception",.type "BaseException",.type "object"]
structure uT(K:PySem.W.Frag)(C:Addr):Prop where
 exc:PySem.W.excIn K C Xa "ValueError.__new__"=true
 ga:PySem.W.findIn K (.ref C) "__getattribute__"=some (some (.builtin "BaseException.__getattribute__"))
 gt:PySem.W.findIn K (.ref C) "__getattr__"=some none
 cl:PySem.W.findIn K (.ref C) "__class__"=some (some (.builtin "object.__class__"))
 ob:PySem.W.mroIn K C (.type "object")=some true
 bs:PySem.W.mroIn K C (.type "BaseException")=some true
theorem JO{p:Prop}(h:false=true):p:=nomatch h
theorem exA{o:Option Obj}{F:Option Addr->ClassData->Array (Option Value)->Bool}(q:PySem.W.excIn.match_6 (fun _=>Bool) o F (fun _=>false)=true):∃d c l,o=some ⟨.type "type",d,.cls c,l⟩/\F d c l=true:=by
 rcases o with _|⟨oc,dd,od,sl⟩
 ·exact JO q
 cases oc with
 |type s=>
  by_cases e:s="type"
  ·subst e
   cases od with
   |cls cd=>exact⟨_,_,_,rfl,q⟩
   |_=>exact JO q
  ·delta PySem.W.excIn.match_6 at q
   exact JO ((dif_neg e).symm.trans q)
 |_=>exact JO q
theorem exB{m:List Value}{l:List (Option Value)}{F:Addr->List Value->Option Value->Option Value->Option Value->Option Value->String->Option Value->Bool}(q:PySem.W.excIn.match_1 (fun _ _=>Bool) m l F (fun _ _=>false)=true):∃a b k0 k1 k2 k3 n k5,m=.ref a::b/\l=[k0,k1,k2,k3,some (.builtin n),k5]/\F a b k0 k1 k2 k3 n k5=true:=by
 rcases m with _|⟨v,bm⟩
 ·exact JO q
 cases v with
 |ref C'=>
  rcases l with _|⟨k0,_|⟨k1,_|⟨k2,_|⟨k3,_|⟨_|v,r⟩⟩⟩⟩⟩<;>try exact JO q
  cases v with
  |builtin n=>
   rcases r with _|⟨k5,_|⟨k6,r⟩⟩<;>try exact JO q
   exact⟨_,_,_,_,_,_,_,_,rfl,rfl,q⟩
  |_=>exact JO q
 |_=>exact JO q
theorem pC{K:PySem.W.Frag}{h:Heap}{C:Addr}{bmB:List Value}{newId:String}(X:K.In h)(q:PySem.W.excIn K C bmB newId=true):
 ∃bm N nm qn bs hdct sn sub ab col dd k0 k1 k2 k3 k5 mN,h.get? C=some (excClassObj nm qn C N bs bm hdct sn sub ab col dd k0 k1 k2 k3 k5 newId)/\h.Ns N mN/\mN "__init__"=none/\OwnTail h bmB bm:=by
 obtain⟨dd,cd,sl,hl,q⟩:=exA q
 have ho:=X _ _ hl
 clear hl
 obtain⟨C',bm,k0,k1,k2,k3,n,k5,hm,hs,q⟩:=exB q
 obtain⟨nm,bs,mro,ns,qn,hd,sn,sub,ab,col,del⟩:=cd
 obtain⟨sl⟩:=sl
 dsimp only at hm hs q
 subst hm hs
 simp only[AN,N0,Bool.not_eq_true']at q
 obtain⟨⟨⟨⟨⟨q1,q2⟩,q3⟩,q4⟩,q5⟩,q6⟩:=q
 subst q1 q2 q3
 exact⟨bm,ns,nm,qn,bs,hd,sn,sub,ab,col,dd,k0,k1,k2,k3,k5,_,ho,Heap.Ns.of_isNs (PySem.W.isNs_of_in X q5),PySem.W.nsMap_none_of_in X q5 q6,PySem.W.tail_of_in X q4⟩
noncomputable def z9(X:Cx)(R:Addr->Hp->Prop):Prop:=∀(pins:List (Addr×Obj)) (σ:St) (H:Hp) (s:Shared) (h':Heap) (a C:Addr) (args:List Value),Inv X pins σ H s->Heap.MadeExcOf s.heap h' a (.ref C) args->R C H->X.xe (.ref a) {s with heap:=h'}
theorem By{P:Program}{w:World}{K:PySem.W.Frag}{mg:Str->Option Value}{base:Heap}{N:List Str}{qual:Str}{scope:Scope}{f:Addr}{cd:Value}{A:Around}{outer:List Env}{s:Shared}{H:Hp}{E:XK}:
 z9 (lH P w K mg base N qual scope f cd A outer s H E) (fun C H'=>E (.ref C) none H'):=fun _ _ _ _ _ _ _ _ I hx q=>z8 I hx q
noncomputable def OC(R:Addr->Hp->Prop)(C:Addr)(t:TA):TS:=fun _ σ H=>t σ H fun vs H1=>vs.length<=sizeLine/\R C H1
section
variable{X:Cx}{x:Str}{C:Addr}{e:Expr}{t:TA}{np cpos pos:Pos}{R:Addr->Hp->Prop}
theorem FY(hR:z9 X R)(hc:X.calm=true)(hg:Gl X x)(hm:X.mg x=some (.ref C))(q:uT X.K C)(ha:PA X [e] t)(hs:starEach [e] X.env=[(false,eval e X.env)]:=by rfl)
 (hd:(x==("__debug__":Str))=false:=by decide):PS X (.Raise (some (.Call (.Name x np) [e] [] cpos)) none pos) (OC R C t):=by
 intro pins s σ H D I h
 obtain⟨bm,N,nm,qn,bs,hdct,sn,sub,ab,col,dd,k0,k1,k2,k3,k5,mN,hC,hN,hni,T⟩:=pC I.ok.mod.Jo q.exc
 refine wpAny_Raise_call_subT (C:=C) (bm:=bm) (mN:=mN) (nm:=nm) (q:=qn) (N:=N) (bs:=bs) (hdct:=hdct) (sn:=sn) (sub:=sub) (ab:=ab) (col:=col) (dd:=dd) (k0:=k0) (k1:=k1) (k2:=k2) (k3:=k3) (k5:=k5) (F:=PySem.F.excBase_ValueError) (T.hasType PySem.F.excBase_ValueError.hasBase) (I.ok.hd hc) (by rw[hs];rfl) hni (gw I hg hm ⟨rfl,?_⟩ hd)
 have h2:=ha cpos pins s σ H _ I h
 rw[hs]at h2⊢
 refine Calls.evalArgs_plain (bE h2 fun us s2 z=>?_)
 obtain⟨vs,H1,I1,r,hl,q1⟩:=z
 refine⟨rfl,by rw[←r.length];exact hl,I1.bk _ _ hC,hN.keeps I1.bk,T.keeps I1.bk,fun h' a hx=>hR pins σ H1 s2 h' a C _ I1 hx q1⟩
end
theorem PS.nB{X:Cx}{st:Stmt}{t:TS}(h:PS X.nB st t):PS X st t:=fun pins s σ H D I hw=>
 X1 (h pins s σ H D (I.oQ _) hw) (fun _ _ q=>q.gF) fun _ _ z=>False.elim z
theorem DH.Wh{P:Program}{w:World}{K:PySem.W.Frag}{mg:Str->Option Value}{base:Heap}{x qual:Str}{st:Stmt}{f:Addr}{fd:FuncData}{N ps:List Str}{k:Nat}{sp:Sp}(F:DH K x qual st f fd)(S:az N ps (aa st))
 (len:∀vs H Q E,sp vs H Q E->vs.length=ps.length)
 (hb:∀(cdv:Value) (A:Around) (outer:List Env) (s:Shared) (H:Hp) (vs:List V) (Q:VK) (E:XK),cH k (A.deeper (envOfC qual (aa st) s.heap.objs.size f cdv))->sp vs H Q E->
   ∃t,sI (lH P w K mg base N qual (aa st) f cdv A outer s H E) (ah st) t/\t {nx:=fun _ H'=>Q .aU H',rt:=Q} (start N vs) H):aH P w K mg base (cK P w) (k+1) f fd ps sp:=by
 obtain⟨oc,od,kV,doc,pm,an,cdv,ct,osl,e,lk,hcd⟩:=F.ex
 subst e
 exact MK lk hcd S len fun A outer s H vs Q E hr h=>hb cdv A outer s H vs Q E hr h
theorem aH.Ui{P:Program}{w:World}{K:PySem.W.Frag}{mg:Str->Option Value}{base:Heap}{k:Nat}{f:Addr}{fd:FuncData}{ps:List Str}{sp:Sp}(F:aH P w K mg base (cK P w) k f fd ps sp):
 aH P w K mg base JM k f fd ps (fun vs H Q _=>sp vs H Q E0):=
 ⟨fun vs H Q E h=>F.len vs H Q E0 h,fun A outer s H args us vs Q E hr e0 hb r h=>codeAny_mono (F.run A outer s H args us vs Q E0 hr e0 hb r h) fun r s' z=>by
   cases r with
   |error e=>
    obtain⟨_,_,_,_,_,q⟩:=z
    exact q.elim
   |ok fl=>cases fl<;>exact z⟩
noncomputable def FX(X:Cx)(pins:List (Addr×Obj))(σ:St)(E:XK)(e:Value)(s':Shared):Prop:=∃H1 s1,Inv X pins σ H1 s1/\cK X.prog X.w X.stack H1 s1 E e s'
abbrev TX:=St->Hp->VK->XK->Prop
noncomputable def PX(X:Cx)(e:Expr)(t:TX):Prop:=
 ∀(pins:List (Addr×Obj)) (s:Shared) (σ:St) (H:Hp) (Q:VK) (E:XK),Inv X pins σ H s->t σ H Q E->wpAny (model X.prog X.w) X.A (eval e X.env) (EP X pins σ Q) (FX X pins σ E) s
noncomputable def OD(sp:Sp)(t:TA):TX:=fun σ H Q E=>t σ H fun vs H1=>sp vs H1 Q E
section
variable{X:Cx}{k:Nat}{f:Addr}{fd:FuncData}{ps:List Str}{sp:Sp}{x:Str}{p pos:Pos}{e:Expr}{es:List Expr}{t:TA}
theorem JP(F:aH X.prog X.w X.K X.mg X.base (cK X.prog X.w) k f fd ps sp)(hr:cH k X.A)(hg:Gl X x)(hm:X.mg x=some (.ref f))(hk:PySem.W.keepIn X.K (.ref f)=true)(hb:Binds X.K fd ps [])
 (ha:PA X.nB (e::es) t) (hdb:(x==("__debug__":Str))=false:=by decide) (he:starEach (e::es) X.env=(false,eval e X.env)::starEach es X.env:=by rfl) (hpl:(backTo pos (starEach es X.env)).any (·.1)=false:=by rfl):
 PX X (.Call (.Name x p) (e::es) [] pos) (OD sp t):=by
 intro pins s σ H Q E I h
 refine UV (gw I hg hm ?_ hdb)
 have h2:=ha pos pins s σ H _ (I.oQ _) h
 refine cq (h₀:=X.base) I.ok.mod.Jo hk (X1 h2 (fun us s1 z=>?_) fun _ _ z=>False.elim z) he hpl
 obtain⟨vs,H1,I1',r,q⟩:=z
 have I1:Inv X pins σ H1 s1:=I1'.gF
 refine⟨I1.j6,?_⟩
 have hl:us.length=ps.length:=by rw[←r.length];exact F.len _ _ _ _ q
 have hb2:BindsTo s1 fd ⟨us,[]⟩ (ps.zip us):=by
  have:=hb s1 us I1.j6 (by rw[L9];exact hl)
  rwa [L9]at this
 refine wpAny_call (codeAny_mono (F.run X.A X.stack s1 H1 ⟨us,[]⟩ us vs Q E hr I1.Oq hb2 r q) fun r s' hq=>?_)
 cases r with
 |error e=>exact⟨H1,s1,I1,hq⟩
 |ok fl=>
  cases fl with
  |ret u=>exact I1.after hq
  |next=>exact False.elim hq
  |brk=>exact False.elim hq
  |cont=>exact False.elim hq
end
noncomputable def j8(a C:Addr)(h:Heap):Prop:=∃ob vs,h.get? a=some ob/\ob.cls=.ref C/\ob.data=.fields vs
noncomputable def DJ(a C:Addr):HO:=.ext (j8 a C)
section
variable{X:Cx}{pins:List (Addr×Obj)}{σ:St}{H:Hp}{s:Shared}
abbrev lS(X:Cx)(a:Addr):Cx:={X with A:=X.A.mark (some (.ref a)),calm:=false,xe:=fun _ _=>False}
theorem Inv.suite(I:Inv X pins σ H s)(a:Addr):Inv (lS X a) pins σ H s:=
 ⟨⟨I.ok.mod,I.ok.kind,I.ok.glob,I.ok.blt,I.ok.above,I.ok.inj,I.ok.has,I.ok.Sq,(fun z=>by cases z),I.ok.frames,I.ok.stk,I.ok.Ti,I.ok.bs,I.ok.IZ,I.ok.Di,I.ok.zH,I.ok.ny,I.ok.MD⟩,I.os,I.bare,I.base,I.loc,I.cell,I.free,I.gv,I.pin,I.hok,I.len⟩
theorem Inv.pF{a:Addr}(ok:X.Ok)(I:Inv (lS X a) pins σ H s):Inv X pins σ H s:=
 ⟨ok,I.os,I.bare,I.base,I.loc,I.cell,I.free,I.gv,I.pin,I.hok,I.len⟩
theorem Inv.adopt{H1:Hp}{s1:Shared}{a:Addr}{φ:Heap->Prop}(I0:Inv X pins σ H1 s1)(e0:s1.heap.get? a=none)(I:Inv X pins σ H s)(n:H a=none)(p:φ s.heap)(ho:∃o,s.heap.get? a=some o)
 (st:∀h1 h2:Heap,φ h1->(∀o,h1.get? a=some o->h2.get? a=some o)->φ h2):Inv X pins σ (upd H a (.ext φ)) s:=by
 have ne:∀b o,s1.heap.get? b=some o->b≠a:=fun b o z e=>by rw[e,e0]at z;cases z
 have xF:∀b u,H b=some u->upd H a (.ext φ) b=some u:=fun b u z=>by rw[ai (aO z n)];exact z
 refine⟨I.ok,I.os,I.bare,⟨I.base.keep,I.base.slot,fun b o q m hx=>?_,I.base.there,fun b xs q=>xF b _ (I.base.tups b xs q),fun b o v q=>xF b _ (I.base.j3 b o v q),fun b ps q=>?_⟩,I.loc,I.cell,?_,fun x c e=>?_,fun p hp=>?_,fun b u z=>?_,I.len⟩
 ·obtain⟨o',e1⟩:=I0.base.there b o q hx
  rw[ai (ne b o' e1)]
  exact I.base.free b o q m hx
 ·obtain⟨m1,e1⟩:=I.base.kL b ps q
  exact⟨m1,xF b _ e1⟩
 ·obtain⟨m,hn,_⟩:=I0.loc
  obtain⟨o,_,_,e1,_⟩:=hn
  rw[ai (ne _ o e1)]
  exact I.free
 ·obtain⟨v,o,e1,_⟩:=I0.cell x c e
  rw[ai (ne _ o e1)]
  exact I.gv x c e
 ·obtain⟨q1,q2,q3⟩:=I.pin p hp
  refine⟨q1,?_,q3⟩
  obtain⟨z1,_⟩:=I0.pin p hp
  rw[ai (ne _ _ z1)]
  exact q2
 ·by_cases hb:b=a
  ·subst hb
   rw[aD]at z
   cases z
   exact⟨p,ho,st⟩
  ·rw[ai hb]at z
   exact(I.hok b u z).stay (fun _ _ _ q=>q) (fun c q=>xF c _ q) fun c xs q=>xF c _ q
theorem name_goes{M:Model}{A:Around}{E:Value->Shared->Prop}{i:Nat}{n:Str}{pos:Pos}{Q:Unit->Shared->Prop}(I:Inv X pins σ H s)(hN:X.N.Nodup)(hi:X.N[i]?=some n)(hl:X.env.scope.names.lookup n=some .local)
 (h:∀s',Inv X pins (σ.set i none) H s'->Q () s'):wpAny M A (do bindName X.env n .none;unbindBehindTheSuite X.env n pos) Q E s:=by
 obtain⟨m,hn,hlk⟩:=id I.loc
 have hcls:(X.env.scope.kind==.class||(X.env.scope.kind==.module&&X.env.locals !=X.env.globals))=false:=by rw[I.ok.kind];rfl
 have Jp:i<σ.length:=by rw[I.len];exact(Fs.mp hi).1
 have Fi:=I.Fi
 refine wpAny_nameGoes_keeps hl hn hcls fun h' v hn' hs=>?_
 obtain⟨oL,_,_,YZ,_⟩:=id hn
 have ap:∀b o,X.s₀.heap.get? b=some o->b≠X.env.locals:=fun b o e=>Jn (GE (FR e) I.ok.above)
 refine h _ ⟨I.ok,I.os,I.bare,⟨fun b o e n hb hx=>?_,fun b o e n hb hx=>?_,I.base.free,fun b o e hx=>?_,I.base.tups,I.base.j3,I.base.kL⟩,⟨_,hn',fun j y v' e1 e2 e3=>?_⟩,fun y c e=>?_,I.free,I.gv,fun p hp=>?_,?_,by simpa using I.len⟩
 ·exact(hs.2 b (ap b o e)).trans (I.base.keep b o e n hb hx)
 ·obtain⟨sl,e1⟩:=I.base.slot b o e n hb hx
  exact⟨sl,(hs.2 b (ap b o e)).trans e1⟩
 ·obtain⟨o',e1⟩:=I.base.there b o e hx
  exact⟨o',(hs.2 b (ap b o e)).trans e1⟩
 ·by_cases hj:j=i
  ·subst hj
   rw[Pt Jp]at e2
   cases e2
  ·rw[Kx (Qb hj)]at e2
   obtain⟨u',r',q⟩:=hlk j y v' e1 e2 e3
   refine⟨u',r',?_⟩
   rcases q with⟨k,e⟩|⟨k,c,e,z⟩
   ·refine .inl ⟨k,?_⟩
    have:y≠n:=fun e=>hj (pW hN e1 (e▸hi))
    show(if y=n then v else m y)=some u'
    rw[B1 this]
    exact e
   ·exact .inr ⟨k,c,e,z.sameBut hs (Fi y c e)⟩
 ·obtain⟨w',z⟩:=I.cell y c e
  exact⟨w',z.sameBut hs (Fi y c e)⟩
 ·obtain⟨e,n1,ne,nf,d⟩:=I.pin p hp
  exact⟨(hs.2 p.1 ne).trans e,n1,ne,nf,d⟩
 ·exact I.hok.tracked fun b u ob z zz=>(hs.2 b fun e=>by rw[e,I.free]at z;cases z).trans zz
end
theorem Aa{M:Model}{A:Around}{E:Value->Shared->Prop}{K:PySem.W.Frag}{s:Shared}{a C D:Addr}{ob:Obj}{Q:Bool->Shared->Prop}(X:K.In s.heap)(qC:uT K C)(qD:uT K D)(he:s.heap.get? a=some ob)(hcls:ob.cls=.ref C)
 (hsub:PySem.W.mroIn K C (.ref D)=some true) (hq:Q true s):wpAny M A (excMatches (.ref a) (.ref D)) Q E s:=by
 obtain⟨h,g,d,t,os⟩:=s
 obtain⟨bm,N,nm,qn,bs,hdct,sn,sub,ab,col,dd,k0,k1,k2,k3,k5,mN,hD,hN,hni,T⟩:=pC X qD.exc
 have L1:=PySem.W.looks_mroIn (M:=M) X hsub
 have L2:=PySem.W.looks_mroIn (M:=M) X qD.bs
 have f:=tc_notTuple
 unfold excMatches
 repeat (first|(with_reducible refine wpAny_loadPart_at he ?_;rw[hcls])|with_reducible refine wpAny_loadPart_at hD ?_|exact hq|with_reducible refine L1.at ?_|with_reducible refine L2.at ?_|wp_step)
abbrev Ends.past(D:Ends)(i:Nat):Ends:={nx:=fun σ' H'=>D.nx (σ'.set i none) H',rt:=D.rt,bk:=fun σ' H'=>D.bk (σ'.set i none) H',ct:=fun σ' H'=>D.ct (σ'.set i none) H'}
noncomputable def Xb(K:PySem.W.Frag)(i:Nat)(D:Addr)(te:TX)(th:TS):TS:=fun W σ H=>te σ H (fun _ H1=>W.nx σ H1) (fun c _ H1=>∃C,c=.ref C/\uT K C/\PySem.W.mroIn K C (.ref D)=some true/\
 ∀a,H1 a=none->th (W.past i) (σ.set i (some (.ref a))) (upd H1 a (DJ a C)))
theorem Inv.Ug{X:Cx}{pins:List (Addr×Obj)}{σ:St}{H1 H2:Hp}{s1 s2 s3:Shared}{a C:Addr}{B:Heap}{a0:Value}(I:Inv X pins σ H1 s1)(F:Zb X.prog X.w X.stack H1 s1 H2 a C s2)
 (kB:∀b o,s2.heap.get? b=some o->b∉frs X.stack->((∃o',s1.heap.get? b=some o')\/∃u,H2 b=some u)->B.get? b=some o) (x:Heap.FlyingW B X.stack a (.ref C) a0 s2.heap) (x1:B.StaysIn s3.heap) (up:s2.heap.UpToSlots s3.heap)
 (e1:s3.os=s2.os) (e2:s3.gens=s2.gens):Inv X pins σ H2 s3:=by
 have fm:∀b,b∈frs X.stack->∃o,s2.heap.get? b=some o/\∀vs,o.data≠.fields vs:=fun b hb=>(x.2.2.1.mem hb).2
 have Dj:∀b u,H2 b=some u->b∉frs X.stack:=fun b u z m=>by
  have e1:=I.jP b m
  obtain⟨o,ho,_⟩:=I.stack.mem m|>.2
  rw[F.un.free b o ho e1 (by simp)]at z
  cases z
 refine I.Bl (ch:=[]) (e1.trans F.os) (z7 F.un (fun b o z nb hor=>x1 b o (kB b o z nb hor)) fm up) (F.hok.tracked fun b u ob z zz=>x1 b ob (kB b ob zz (Dj b u z) (.inr ⟨u,z⟩))) (by rw[e2];exact F.bare) fun b hb=>absurd hb (by simp)
theorem OE{X:Cx}{e:Expr}{n x:Str}{i:Nat}{D:Addr}{b₀:Stmt}{suite:List Stmt}{te:TX}{th:TS}{p1 p2 np pos:Pos}(hst:X.stack=X.env::X.outer/\X.env.frame=some X.env.locals)(hN:X.N.Nodup)(hi:X.N[i]?=some n)
 (hl:X.env.scope.names.lookup n=some .local) (hg:Gl X x) (hm:X.mg x=some (.ref D)) (qD:uT X.K D) (he:PX X e te) (hs:∀a,sI (lS X a) (b₀::suite) th) (hsw:swapsWith e none p1.line X.env=pure false:=by rfl)
 (hd:(x==("__debug__":Str))=false:=by decide):PS X (.Try [.Expr e p1] [.ExceptHandler (some (.Name x np)) (some n) (b₀::suite) p2] [] [] pos) (Xb X.K i D te th):=by
 intro pins s σ H W I h
 refine wpAny_Try_except (wpAny_execs_cons (wpAny_Expr_any (X1 (he pins s σ H _ _ I h) (fun v s1 z=>?_) fun ev s1 z=>?_) I.quiet hsw))
 ·obtain⟨y,H1,I1,r1,q1⟩:=z
  exact wpAny_execs_nil (wpAny_execs_nil ⟨σ,H1,I1,q1⟩)
 obtain⟨H1,s0,I0,a,C,H2,rfl,F,C',hC',qC,hsub,q⟩:=z
 cases hC'
 obtain⟨B,a0,fx,kB⟩:=F.Ug
 have fr:X.A.frames=some (X.env::X.outer):=by rw[I.ok.frames,hst.1]
 have fx':Heap.FlyingW B (X.env::X.outer) a (.ref C) a0 s1.heap:=by rw[←hst.1];exact fx
 refine wpAny_looks_onW fr hst.2 fx' fun h4 y4 u4=>wpAny_landsW y4 fun h5 y5 u5=>?_
 have I5:Inv X pins σ H2 {s1 with heap:=h5}:=I0.Ug F kB fx y5.1 (u4.trans u5) rfl rfl
 obtain⟨ob,hob,Xc⟩:=y5.there
 refine wpAny_handleBy_cons (codeAny_handlers_test (gw (X:=lS X a) (I5.suite a) hg hm ?_ hd)) (by intro z;cases z)
 refine Aa (K:=X.K) I5.j6 qC qD hob Xc hsub (codeAny_handlers_suite_as ?_)
 refine lands_againW y5 fun h6 y6 u6=>?_
 have I6:Inv X pins σ H2 {s1 with heap:=h6}:=I0.Ug F kB fx y6.1 ((u4.trans u5).trans u6) rfl rfl
 obtain⟨oe,vs,g1,g2,g3,_⟩:=y6.first
 have I7:Inv X pins σ (upd H2 a (DJ a C)) {s1 with heap:=h6}:=Inv.adopt I0 F.old I6 F.new ⟨oe,vs,g1,g2,g3⟩ ⟨oe,g1⟩ fun h1 h2 z k=>by
  obtain⟨o1,v1,z1,z2,z3⟩:=z
  exact⟨o1,v1,k _ z1,z2,z3⟩
 refine eN (X:=lS X a) (v:=.ref a) (I7.suite a) hN hi (.inl hl) rfl (fun s7 I8=>?_) (.inr hl)
 refine X1 (hs a pins s7 _ _ _ I8 (q a F.new)) (fun f s8 z=>?_) fun _ _ z=>False.elim z
 cases f with
 |next=>
  obtain⟨σ',H',J,z⟩:=z
  exact name_goes (J.pF I.ok) hN hi hl fun s9 J9=>⟨_,_,J9,z⟩
 |brk=>
  obtain⟨σ',H',J,z⟩:=z
  exact name_goes (J.pF I.ok) hN hi hl fun s9 J9=>⟨_,_,J9,z⟩
 |cont=>
  obtain⟨σ',H',J,z⟩:=z
  exact name_goes (J.pF I.ok) hN hi hl fun s9 J9=>⟨_,_,J9,z⟩
 |ret u=>
  obtain⟨v,σ',H',J,r,z⟩:=z
  exact name_goes (J.pF I.ok) hN hi hl fun s9 J9=>⟨_,_,_,J9,r,z⟩
section
variable{prog:Program}{w:World}{A:Around}{E:Value->Shared->Prop}{s:Shared}{K:PySem.W.Frag}{a C:Addr}
theorem jr{M:Model}{h:Heap}(p:j8 a C h):PySem.W.Looks M h (typeOf (.ref a)) (.ref C):=by
 obtain⟨o,vs,h1,h2,h3⟩:=p
 exact h2▸(PySem.W.Looks.ld h1).andThen .now
theorem JQ{tp:Value}{R:Result->Shared->Prop}(X:K.In s.heap)(p:j8 a C s.heap)(q:uT K C)(h:R (.ok (.ret (.ref C))) s):
 codeAny (model prog w) A (.call (.builtin "getset_descriptor.__get__") ⟨[.builtin "object.__class__",.ref a,tp],[]⟩) R s:=by
 obtain⟨hh,g,dr,t,os⟩:=s
 have L0:=jr (M:=model prog w) p
 have L1:=PySem.W.looks_mroIn (M:=model prog w) X q.ob
 have ck:=PySem.W.KF.slot_gs
 refine codeAny_call_builtin ck.plain PySem.W.KF.entry_gs (ck.check _ _ _ _ _ _ _ _ PySem.W.KF.type_class (PySem.W.KF.args_gs _ _ _) ?_)
 unfold Builtin.«getset_descriptor.__get__»
 unfold Builtin.Getset_descriptor.descrGet
 rw[PySem.W.dga_obj]
 apply FM
 apply Kt
 unfold Builtin.Getset_descriptor.descrGetter
 unfold Builtin.Getset_descriptor.descrCheckInstance
 unfold Builtin.Getset_descriptor.descrNameAndClass
 unfold isInstance
 simp only[PySem.W.KF.owner_class]
 repeat lk
 refine⟨Code.quiet_builtin _ (by decide+kernel),codeAny_builtin PySem.W.KF.entry_class ?_⟩
 unfold Builtin.«object.__class__»
 unfold shownTypeOf
 repeat lk
 exact h
theorem DK{tk:Tok}{Q:Fin->Shared->Prop}(X:K.In s.heap)(p:j8 a C s.heap)(q:uT K C)(h:Q (.done (.ret (.ref C))) s):
 wpAny (model prog w) A (Builtin.«object.__getattribute__» ⟨[.ref a,.str "__class__" tk],[]⟩) Q E s:=by
 obtain⟨hh,g,dr,t,os⟩:=s
 have L0:=jr (M:=model prog w) p
 have L1:=PySem.W.looks_findIn (M:=model prog w) X q.cl
 have hT5:(⟨hh,g,dr,t,os⟩:Shared).TypeIs (.builtin "object.__class__") "getset_descriptor":=F.typeOf_object_class
 have f5:=F.typeOf_object_class
 have f6:=F.slot_gs_get.lookup
 have f7:=F.slot_gs_set.lookup
 repeat (any_goals (first|assumption|with_reducible refine L0.at ?_|with_reducible refine L1.at ?_|wp_step))
 refine JQ X p q ?_
 repeat (any_goals (first|assumption|wp_step))
theorem DM{M:Model}{nameV:Value}{Q:Unit->Shared->Prop}(X:K.In s.heap)(p:j8 a C s.heap)(q:uT K C)(h:Q () s):wpAny M A (checkBuiltinCall "BaseException.__getattribute__" ⟨[.ref a,nameV],[]⟩) Q E s:=by
 obtain⟨hh,g,dr,t,os⟩:=s
 have L0:=jr (M:=M) p
 have L1:=PySem.W.looks_mroIn (M:=M) X q.bs
 have k1:builtinKind "BaseException.__getattribute__"=some .slot:=by
  decide+kernel
 have k2:splitId "BaseException.__getattribute__"=some ("BaseException","__getattribute__"):=by
  decide+kernel
 have k3:=F.args_bexc_ga (.ref a) nameV
 simp only[checkBuiltinCall,k1,k2]
 apply FM
 unfold isInstance
 repeat (first|with_reducible refine L0.at ?_|with_reducible refine L1.at ?_|wp_step)
 exact h
theorem FZ{tk:Tok}{R:Result->Shared->Prop}(X:K.In s.heap)(p:j8 a C s.heap)(q:uT K C)(h:R (.ok (.ret (.ref C))) s):
 codeAny (model prog w) A (.call (.builtin "BaseException.__getattribute__") ⟨[.ref a,.str "__class__" tk],[]⟩) R s:=
 codeAny_call_builtin PySem.F.excAttr_ValueError.ga.plain F.entry_bexc_ga (DM X p q (DK X p q h))
theorem OG{tk:Tok}{fill expr:Bool}{Q:Value->Shared->Prop}(X:K.In s.heap)(p:j8 a C s.heap)(q:uT K C)(h:Q (.ref C) s):wpAny (model prog w) A (getAttrBy (.ref a) (.str "__class__" tk) fill expr) Q E s:=by
 obtain⟨hh,g,dr,t,os⟩:=s
 have L0:=jr (M:=model prog w) p
 have L1:=PySem.W.looks_findIn (M:=model prog w) X q.ga
 have L2:=PySem.W.looks_findIn (M:=model prog w) X q.gt
 have f3:=PySem.F.excAttr_ValueError.ga.bind (.ref a)
 have z0:(expr&&onTheHeap (Value.builtin "BaseException.__getattribute__"))=false:=by
  cases expr<;>rfl
 have z2:(Value.builtin "BaseException.__getattribute__"==Value.builtin "object.__getattribute__")=false:=by
  decide+kernel
 have z1:(onTheHeap (Value.ref C)&&Value.builtin "BaseException.__getattribute__"==Value.builtin "object.__getattribute__")=false:=by
  rw[z2]
  rfl
 repeat (any_goals (first|assumption|with_reducible refine L0.at ?_|with_reducible refine L1.at ?_|with_reducible refine L2.at ?_|wp_step))
 refine FZ X p q ?_
 repeat (any_goals (first|assumption|wp_step))
theorem DN{Q:Option Value->Shared->Prop}(X:K.In s.heap)(p:j8 a C s.heap)(q:uT K C)(h:Q (some (.ref C)) {s with toks:=s.toks+1}):wpAny (model prog w) A (getAttr? (.ref a) "__class__") Q E s:=by
 obtain⟨hh,g,dr,t,os⟩:=s
 unfold getAttr?
 unfold getAttrBy?
 refine FM (wpAny_mkText (FM (wpAny_attempt (OG (s:=⟨hh,g,dr,t+1,os⟩) X p q ?_))))
 exact Kt h
theorem F3(q:uT K C):PySem.W.KitX K (.ref a) (.ref C) (j8 a C)where
 ty:=fun M h X p=>jr p
 it:=fun M h X p=>by
  obtain⟨bm,N,nm,qn,bs,hdct,sn,sub,ab,col,dd,k0,k1,k2,k3,k5,mN,hC,_⟩:=pC X q.exc
  intro A' Q' E' s' k z
  unfold isType
  unfold loadHead
  exact FM (wpAny_loadPart (k _ _ hC) (Kt z))
 ne:=fun h tp dd its n sl X htp=>by
  obtain⟨bm,N,nm,qn,bs,hdct,sn,sub,ab,col,dd',k0,k1,k2,k3,k5,mN,hC,_⟩:=pC X q.exc
  refine Bool.eq_false_iff.mpr fun z=>?_
  have e:C=tp:=Value.ref.inj (N0.mp z)
  subst e
  rw[hC]at htp
  have z2:=TB Obj.data (Kb htp)
  exact nomatch z2
 ca:=fun X p h=>DN X p q h
end
inductive OH:V->Value->Prop where
 |own (D:Addr):OH (.ref D) (.ref D)
 |ty (n:String):OH (.ty n) (.type n)
theorem cz{X:Cx}:dg X (.builtin "isinstance") (fun xs H Q=>∃a C c cv b,xs=[.ref a,c]/\H a=some (DJ a C)/\uT X.K C/\OH c cv/\PySem.W.kitOne X.K (.ref C) cv=some b/\Q (.bl b) H):=by
 intro pins s σ H xs us Q I r h
 obtain⟨a,C,c,cv,b,rfl,ha,q,hc,e,z⟩:=h
 obtain⟨u1,u2,rfl,r1,r2⟩:=vals2 r
 cases(show u1=Value.ref a from r1)
 have ec:u2=cv:=by
  cases hc with
  |own D=>exact r2
  |ty n=>exact r2
 subst ec
 obtain⟨p,_,_⟩:=(show bW X.prog X.w H s.heap a (.ext (j8 a C))from I.hok a _ ha)
 exact QP (F3 q) I.j6 p e (fun z=>nomatch z) fun tk=>⟨.bl b,H,I.tok _,rfl,z⟩
noncomputable def kQ(cells:List (Str×Addr)):List (Str×NameKind)->List (Str×Addr)->List (Str×Addr)
 |[],acc=>acc
 |(n,k)::r,acc=>kQ cells r (if k=.free then(n,(cells.lookup n).getD 0)::acc else acc)
theorem qc{env:Env}:∀(l:List (Str×NameKind)) (acc:List (Str×Addr)),(∀p∈l,p.2=.free->∃c,env.cells.lookup p.1=some c)->
 (forIn l acc fun(x:Str×NameKind) (cs:List (Str×Addr))=>if(x.2==NameKind.free)=true then(do let c←cellOf env x.1;pure (ForInStep.yield ((x.1,c)::cs)))else(pure (ForInStep.yield cs):Sem _))=pure (kQ env.cells l acc)
 |[],acc,_=>rfl
 |(n,k)::r,acc,h=>by
  have ih:=fun acc=>qc (env:=env) r acc fun p hp=>h p (Bn _ hp)
  rw[List.forIn_cons]
  by_cases hk:k=.free
  ·obtain⟨c,hc⟩:=h (n,k) DD hk
   have hc':env.cells.lookup n=some c:=hc
   have e:cellOf env n=pure c:=by unfold cellOf;rw[hc']
   have e2:(k==NameKind.free)=true:=by simp[hk]
   simp only[e2,if_true,e,pure_bind,ih]
   simp only[kQ,hk,if_true,hc',Option.getD_some]
  ·have e2:(k==NameKind.free)=false:=by simpa using hk
   simp only[e2,Bool.false_eq_true,if_false,pure_bind,ih]
   simp only[kQ,hk,if_false]
theorem qd{scope:Scope}{env:Env}(h:∀p∈scope.names,p.2=.free->∃c,env.cells.lookup p.1=some c):closureFor scope env=pure (kQ env.cells scope.names []):=by
 have:=qc (env:=env) scope.names [] h
 unfold closureFor
 simp only[bind_pure]
 exact this
theorem xG{cells:List (Str×Addr)}:∀(l:List (Str×NameKind)) (acc:List (Str×Addr)),(∀p∈l,p.2=.free->∃c,cells.lookup p.1=some c)->(∀y c,acc.lookup y=some c->cells.lookup y=some c)->
 ∀y c,(kQ cells l acc).lookup y=some c->cells.lookup y=some c
 |[],_,_,ha,y,c,h=>ha y c h
 |(n,k)::r,acc,hl,ha,y,c,h=>by
  refine xG r _ (fun p hp=>hl p (Bn _ hp)) (fun z d hz=>?_) y c h
  by_cases hk:k=.free
  ·rw[Bi hk,List.lookup_cons]at hz
   obtain⟨c',hc'⟩:=hl (n,k) DD hk
   have hc2:cells.lookup n=some c':=hc'
   split at hz
   ·rename_i e
    have e':z=n:=by simpa using e
    subst e'
    rw[hc2]at hz⊢
    exact hz
   ·exact ha z d hz
  ·rw[B1 hk]at hz
   exact ha z d hz
theorem qe{cells:List (Str×Addr)}:∀(l:List (Str×NameKind)) (acc:List (Str×Addr)) (y:Str),((acc.lookup y).isSome=true\/(y,NameKind.free)∈l)->((kQ cells l acc).lookup y).isSome=true
 |[],_,_,h=>h.elim id fun z=>nomatch z
 |(n,k)::r,acc,y,h=>by
  refine qe r _ y ?_
  by_cases hk:k=.free
  ·rw[Bi hk,List.lookup_cons]
   by_cases e:(y==n)=true
   ·left;rw[e];rfl
   ·rw[cc]at e
    rw[e]
    rcases h with h|h
    ·exact .inl h
    ·rcases Fu.mp h with h|h
     ·have:y=n:=TB Prod.fst h
      subst this
      simp at e
     ·exact .inr h
  ·rw[B1 hk]
   rcases h with h|h
   ·exact .inl h
   ·rcases Fu.mp h with h|h
    ·have:NameKind.free=k:=TB Prod.snd h
     exact absurd this.symm hk
    ·exact .inr h
theorem tU{cells:List (Str×Addr)}:∀(l:List (Str×NameKind)) (acc:List (Str×Addr)) (y:Str) (c:Addr),(kQ cells l acc).lookup y=some c->(∃c',acc.lookup y=some c')\/(y,NameKind.free)∈l
 |[],_,y,c,h=>.inl ⟨c,h⟩
 |(n,k)::r,acc,y,c,h=>by
  rcases tU r _ y c h with⟨c',h'⟩|h'
  ·by_cases hk:k=.free
   ·rw[Bi hk,List.lookup_cons]at h'
    split at h'
    ·rename_i e
     have e':y=n:=by simpa using e
     subst e'
     subst hk
     exact .inr DD
    ·exact .inl ⟨c',h'⟩
   ·rw[B1 hk]at h'
    exact .inl ⟨c',h'⟩
  ·exact .inr (Bn _ h')
theorem jt{env:Env}(hk:env.scope.kind=.function):∀(l:List (Str×NameKind)) (y:Str),
 (l.map fun(n,k)=>if(k==NameKind.free&&env.scope.kind==.function&&env.kindOf n==some .cell)then(n,NameKind.cell)else(n,k)).lookup y=(l.lookup y).map fun k=>if(k==NameKind.free&&env.kindOf y==some .cell)=true then NameKind.cell else k
 |[],_=>rfl
 |(n,k)::r,y=>by
  have ih:=jt hk r y
  have hk':(env.scope.kind==ScopeKind.function)=true:=by rw[hk];rfl
  rw[Fn,List.lookup_cons]
  by_cases e:(y==n)=true
  ·have e':y=n:=by simpa using e
   subst e'
   by_cases hc:(k==NameKind.free&&env.kindOf y==some .cell)=true
   ·have hc2:(k==NameKind.free&&env.scope.kind==.function&&env.kindOf y==some .cell)=true:=by
     rw[hk',Bool.and_true];exact hc
    simp only[hc2,if_true,List.lookup_cons,beq_self_eq_true,Option.map_some,hc]
   ·have hc2:¬(k==NameKind.free&&env.scope.kind==.function&&env.kindOf y==some .cell)=true:=by
     rw[hk',Bool.and_true];exact hc
    rw[B1 hc2]
    simp only[List.lookup_cons,beq_self_eq_true,Option.map_some]
    rw[B1 hc]
  ·rw[cc]at e
   by_cases hc2:(k==NameKind.free&&env.scope.kind==.function&&env.kindOf n==some .cell)=true
   ·simp only[hc2,if_true,e,List.lookup_cons]
    exact ih
   ·rw[cc]at hc2
    simp only[hc2,Bool.false_eq_true,if_false,e,List.lookup_cons]
    exact ih
noncomputable def dX(sc Sx:Scope)(N N' xs:List Str):Bool:=
 sc.kind==.function&&xs.all (fun x=>sc.names.lookup x==some .local&&!N'.contains x)&&
 sc.names.all (fun p=>p.2 !=.cell&&(p.2 !=.local||sc.names.lookup p.1==some .local)&&(p.2 !=.free||(Sx.names.lookup p.1==some .cell&&sc.names.lookup p.1==some .free)))&&
 N'.all (fun y=>sc.names.lookup y !=some .local)&&(N.length==N'.length&&(N.zip N').all (fun p=>p.1==p.2||sc.names.lookup p.2==none))
structure fU(sc Sx:Scope)(N N' xs:List Str):Prop where
 kind:sc.kind=.function
 own:∀x∈xs,sc.names.lookup x=some .local/\x∉N'
 uU:∀p∈sc.names,p.2≠.cell
 loc:∀p∈sc.names,p.2=.local->sc.names.lookup p.1=some .local
 free:∀p∈sc.names,p.2=.free->Sx.names.lookup p.1=some .cell/\sc.names.lookup p.1=some .free
 out:∀y∈N',sc.names.lookup y≠some .local
 len:N.length=N'.length
 pair:∀(i:Nat) (y:Str),N'[i]?=some y->sc.names.lookup y≠none->N[i]?=some y
theorem fU.of{sc Sx:Scope}{N N' xs:List Str}(h:dX sc Sx N N' xs=true):fU sc Sx N N' xs:=by
 unfold dX at h
 simp only[AN,KB,Bool.or_eq_true,bne_iff_ne,N0,Bool.not_eq_true',ne_eq]at h
 obtain⟨⟨⟨⟨h1,h2⟩,h3⟩,h4⟩,h5,h6⟩:=h
 refine⟨h1,fun x hx=>⟨(h2 x hx).1,fun z=>?_⟩,fun p hp=>(h3 p hp).1.1,fun p hp e=>?_,fun p hp e=>?_,h4,h5,fun i y hy hn=>?_⟩
 ·have:=(h2 x hx).2
  rw[List.contains_eq_mem]at this
  simp[z]at this
 ·rcases(h3 p hp).1.2 with z|z
  ·exact absurd e z
  ·exact z
 ·rcases(h3 p hp).2 with z|z
  ·exact absurd e z
  ·exact z
 ·have hi:i<N'.length:=(Fs.mp hy).1
  have hN:N[i]?=some (N[i]'(by lia)):=BM (by lia)
  have hm:(N[i]'(by lia),y)∈N.zip N':=by
   refine Pm (i:=i) ?_
   rw[List.getElem?_zip_eq_some]
   exact⟨hN,hy⟩
  rcases h6 _ hm with z|z
  ·rw[hN]
   exact TB some z
  ·exact absurd z hn
noncomputable def aG(X:Cx)(scope:Scope)(C:Addr)(xs N':List Str)(s:Shared)(H:Hp)(fp:List Addr):Cx:=
 {X with N:=xs++N',s₀:=s,H₀:=H,env:=compEnvC scope (kQ X.env.cells scope.names []) C X.env,outer:=X.stack,stack:=X.stack,ex:=fp,fn:=fun y=>xs.contains y,pn:=[],xe:=fun _ _=>False}
section
variable{X:Cx}{pins:List (Addr×Obj)}{σ:St}{H:Hp}{s:Shared}{scope:Scope}{xs N':List Str}{fp:List Addr}
theorem kR(I:Inv X pins σ H s)(O:fU scope X.env.scope X.N N' xs):∀p∈scope.names,p.2=.free->∃c,X.env.cells.lookup p.1=some c:=fun p hp e=>
 I.ok.has p.1 (.inl (O.free p hp e).1)
theorem iz(I:Inv X pins σ H s)(O:fU scope X.env.scope X.N N' xs)(y:Str):(relabel scope X.env).names.lookup y=(scope.names.lookup y).map fun k=>if k=.free then NameKind.cell else k:=by
 unfold relabel
 show(List.map _ scope.names).lookup y=_
 rw[jt I.ok.kind]
 cases e:scope.names.lookup y with
 |none=>rfl
 |some k=>
  rw[Option.map_some,Option.map_some]
  by_cases hk:k=.free
  ·subst hk
   have:=(O.free (y,.free) (Pi e) rfl).1
   have h2:X.env.kindOf y=some .cell:=this
   rw[h2]
   rfl
  ·rw[B1 hk,B1 (by simp[hk])]
theorem xH{h1:Heap}{tk:Nat}(I:Inv X pins σ H s)(O:fU scope X.env.scope X.N N' xs)(hf:∀b∈fp,lK X pins H b)(hlt:∀b∈fp,b<s.heap.objs.size){m0:Str->Option Value}
 (hn:h1.Ns s.heap.objs.size m0) (hk:∀b o,s.heap.get? b=some o->h1.get? b=some o):
 Inv (aG X scope s.heap.objs.size xs N' s H fp) [] (xs.map (fun _=>none)++σ) H {s with heap:=h1,toks:=tk}:=by
 have hcl:=xG (cells:=X.env.cells) scope.names [] (kR I O) (fun y c z=>nomatch z)
 refine⟨⟨I.ok.mod,?_,I.ok.glob,I.ok.blt,Do _,fun x y c h1 h2=>I.ok.inj x y c (hcl x c h1) (hcl y c h2),fun y hy=>?_,fun y c h1 h2=>?_,I.ok.hd,I.ok.frames,.inl rfl,fun b hb=>⟨Jn (hlt b hb),fun x c e=>(hf b hb).2.2.2.2.1 x c (hcl x c e)⟩,
  I.bs,FC I.ok.IZ I.sz,fun b o e hb=>?_,fun b hb z=>?_,I.stack,I.jP⟩,rfl,I.bare,Un.kept hk,⟨m0,hn,fun i y v e1 e2 e3=>?_⟩,fun y c e=>?_,I.hok.fresh (Do _),fun y c e=>I.gv y c (hcl y c e),fun p hp=>absurd (show p∈([]:List (Addr×Obj))from hp) (by simp),I.hok.kept hk,?_⟩
 ·show scope.kind=_
  exact O.kind
 ·have hy':(relabel scope X.env).names.lookup y=some .cell\/(relabel scope X.env).names.lookup y=some .free:=hy
  rw[iz I O]at hy'
  have hfree:scope.names.lookup y=some .free:=by
   cases e:scope.names.lookup y with
   |none=>rw[e]at hy';rcases hy' with z|z<;>cases z
   |some k=>
    rw[e]at hy'
    by_cases hk:k=.free
    ·rw[hk]
    ·rw[Option.map_some,B1 hk]at hy'
     rcases hy' with z|z
     ·have:k=.cell:=Kb z
      exact absurd this (O.uU (y,k) (Pi e))
     ·exact absurd (Kb z) hk
  exact Ta.mp (qe scope.names [] y (.inr (Pi hfree)))
 ·have h2':(kQ X.env.cells scope.names []).lookup y=some c:=h2
  have hy:y∈xs:=by
   have h1':xs.contains y=true:=h1
   simpa using h1'
  rcases tU scope.names [] y c h2' with⟨_,z⟩|z
  ·cases z
  ·have q1:=(O.free (y,.free) z rfl).2
   rw[(O.own y hy).1]at q1
   cases q1
 ·have e':X.base.get? b=some o:=e
  rcases(hf b hb).2.2.2.1 with z|z
  ·exact I.ok.Di b o e' z
  ·exact absurd (GE (FR e') (FC I.ok.IZ z)) (SF _)
 ·rcases Fu.mp (I.zI b z)with q|q
  ·exact(hf b hb).2.1 q
  ·exact(hf b hb).2.2.1 q
 ·have JR:(xs++N')[i]?=some y:=e1
  by_cases hi:i<xs.length
  ·rw[OF (by simpa using hi),FS]at e2
   cases q:xs[i]? with
   |none=>rw[q]at e2;cases e2
   |some z=>rw[q]at e2;cases e2
  ·rw[Nw (by simpa using hi)]at e2
   rw[Nw (by lia)]at JR
   rw[Ap]at e2
   have hyN:y∈N':=Pm JR
   have OI:So (relabel scope X.env) y:=e3
   unfold So at OI
   rw[iz I O]at OI
   have hfree:scope.names.lookup y=some .free:=by
    cases e:scope.names.lookup y with
    |none=>rw[e]at OI;rcases OI with z|z|z<;>cases z
    |some k=>
     rw[e]at OI
     by_cases hk:k=.free
     ·rw[hk]
     ·rw[Option.map_some,B1 hk]at OI
      rcases OI with z|z|z
      ·have:k=.local:=Kb z
       subst this
       exact absurd e (O.out y hyN)
      ·have:k=.cell:=Kb z
       exact absurd this (O.uU (y,k) (Pi e))
      ·exact absurd (Kb z) hk
   have Zd:=(O.free (y,.free) (Pi hfree) rfl).1
   obtain⟨m,hn0,hl⟩:=I.loc
   have e1N:=O.pair _ y JR (by rw[hfree];simp)
   obtain⟨u,r,l⟩:=hl _ y v e1N e2 (.inr (.inl Zd))
   refine⟨u,r,?_⟩
   rcases l with⟨l1,_⟩|⟨_,c,hc,o,ho,hd⟩
   ·have:X.env.scope.names.lookup y=some .local:=l1
    rw[Zd]at this
    cases this
   ·refine .inr ⟨.inl ?_,c,?_,o,hk c o ho,hd⟩
    ·show(relabel scope X.env).names.lookup y=_
     rw[iz I O,hfree]
     rfl
    ·obtain⟨c',hc'⟩:=Ta.mp (qe (cells:=X.env.cells) scope.names [] y (.inr (Pi hfree)))
     have q:=hcl y c' hc'
     rw[hc]at q
     show(kQ X.env.cells scope.names []).lookup y=some c
     rw[hc',←Kb q]
 ·obtain⟨v,o,ho,hd⟩:=I.cell y c (hcl y c e)
  exact⟨v,o,hk c o ho,hd⟩
 ·show(xs.map (fun _=>none)++σ).length=(xs++N').length
  rw[Ee,Ee,Ap,I.len,O.len]
end
noncomputable def PF(X:Cx)(ifs:List Expr)(t:TT):Prop:=
 ∀(pins:List (Addr×Obj)) (s:Shared) (σ:St) (H:Hp) (Q:Bool->Hp->Prop),Inv X pins σ H s->t σ H Q->
  wpAny (model X.prog X.w) X.A (forIn ifs true fun c r=>if r=true then do let ok←isTrue c X.env (eval c X.env);pure (ForInStep.yield ok)else pure (ForInStep.yield r)) (TP X pins σ Q) X.xe s
noncomputable def Uj:TT:=fun _ H Q=>Q true H
theorem F4{X:Cx}:PF X [] Uj:=fun _ _ _ H _ I h=>wpAny_tests_nil ⟨H,I,h⟩
theorem OJ{X:Cx}{c:Expr}{t:TT}(h:PT X c t):PF X [c] t:=fun pins s σ H Q I q=>wpAny_tests_one (h pins s σ H Q I q)
noncomputable def F5(k:Nat)(wi:TI)(g:TG)(tc:TT)(te:TE):TE:=fun σ H Q=>wi σ H fun J H1=>∀D,H1 D=none->∃W:Nat->Nat->Hp->Prop,(∃m,W 0 m (upd H1 D (.lst [])))/\∀i m H2,W i m H2->
 (J.stop i H2/\Q (.ref D) H2)\/(J.go i H2/\∀x H3,J.N9 i H2 x H3->∀v0:List (Option V),v0.length=k->g x (v0++σ) H3 fun σ2 H4=>∃v1:List (Option V),v1.length=k/\σ2=v1++σ/\
   tc σ2 H4 fun b H5=>if b=true then te σ2 H5 fun y H6=>∃ys,H6 D=some (.lst ys)/\ys.length<sizeLine/\∃m',m'<m/\W (i+1) m' (upd H6 D (.lst (ys++[y])))else∃m',m'<m/\W (i+1) m' H5)
theorem lT{prog:Program}{w:World}{A:Around}{R:Result->Shared->Prop}{s:Shared}{elt target iter:Expr}{ifs:List Expr}{scope:Scope}{pos:Pos}{it acc:Value}{env:Env}(I:Nat->Shared->Prop)
 (turn:∀n s,I n s->wpAny (model prog w) A (pyNext it) (fun r s₁=>match r with
   |none=>R (.ok .next) s₁
   |some v=>wpAny (model prog w) A (letOwnedTupleGo target it v) (fun _ s₁'=>wpAny (model prog w) A (assign target env v) (fun _ s₂=>
     wpAny (model prog w) A (forIn ifs true fun c r=>if r=true then do let ok←isTrue c env (eval c env);pure (ForInStep.yield ok)else pure (ForInStep.yield r)) (fun ok s₃=>
      if ok=true then wpAny (model prog w) A (eval elt env) (fun x s₄=>
       wpAny (model prog w) A (call (.builtin "list.append") [acc,x]) (fun _ s₅=>∃m,m<n/\I m s₅) (fun _ _=>False) s₄) (fun _ _=>False) s₃
      else∃m,m<n/\I m s₃) (fun _ _=>False) s₂) (fun _ _=>False) s₁') (fun _ _=>False) s₁) (fun _ _=>False) s)
 (n:Nat) (h:I n s):
 codeAny (model prog w) A (.compLoop (.ListComp elt [⟨target,iter,ifs,0⟩] scope pos) 0 it acc env) R s:=by
 refine codeAny_loop rfl I (fun n s hI=>?_) n h
 show wpAny _ A ((compTurn (.ListComp elt [⟨target,iter,ifs,0⟩] scope pos) 0 it acc env).onRaise (fun x=>do noteFrame x env;theTreesLotGoes x)) _ _ s
 refine wpAny_noted ?_
 rw[compTurn_list]
 refine FM (wpAny_standAt (FM (X1 (turn n s hI) (fun r s₁ h₁=>?_) fun _ _ h'=>h'.elim)))
 cases r with
 |none=>exact Kt h₁
 |some v=>
  refine FM (X1 h₁ (fun _ s₁' h₁'=>?_) fun _ _ h'=>h'.elim)
  refine FM (X1 h₁' (fun _ s₂ h₂=>FM (X1 h₂ (fun ok s₃ h₃=>?_) fun _ _ h'=>h'.elim)) fun _ _ h'=>h'.elim)
  cases ok with
  |false=>exact Kt ⟨rfl,h₃⟩
  |true=>
   exact FM (FM (X1 h₃ (fun x s₄ h₄=>FM (X1 h₄ (fun _ s₅ h₅=>Kt (Kt ⟨rfl,h₅⟩)) fun _ _ h'=>h'.elim)) fun _ _ h'=>h'.elim))
section
variable{X:Cx}
theorem Ab{tg iter elt:Expr}{ifs:List Expr}{scope:Scope}{xs N':List Str}{pos:Pos}{g:TG}{tc:TT}{te:TE}(hc:X.calm=true)(O:fU scope X.env.scope X.N N' xs)
 (hg:∀C s0 H0 fp,PG (aG X scope C xs N' s0 H0 fp) tg g) (hf:∀C s0 H0 fp,PF (aG X scope C xs N' s0 H0 fp) ifs tc) (he:∀C s0 H0 fp,PE (aG X scope C xs N' s0 H0 fp) elt te)
 {pins:List (Addr×Obj)} {σ:St} {H1:Hp} {s2:Shared} {it:Addr} {fp:List Addr} {tn:Nat->Heap->Prop} {J:It} {Q:VK} {E:Value->Shared->Prop} {RR:Value->Addr->Result->Shared->Prop}
 (I2:Inv X pins σ H1 s2) (T:Turn X.prog X.w X.K tg J fp it tn) (st2:tn 0 s2.heap) (f2:∀b∈fp,lK X pins H1 b)
 (h:∀D,H1 D=none->∃W:Nat->Nat->Hp->Prop,(∃m,W 0 m (upd H1 D (.lst [])))/\∀i m H2,W i m H2->
   (J.stop i H2/\Q (.ref D) H2)\/(J.go i H2/\∀x H3,J.N9 i H2 x H3->∀v0:List (Option V),v0.length=xs.length->g x (v0++σ) H3 fun σ2 H4=>∃v1:List (Option V),v1.length=xs.length/\σ2=v1++σ/\
     tc σ2 H4 fun b H5=>if b=true then te σ2 H5 fun y H6=>∃ys,H6 D=some (.lst ys)/\ys.length<sizeLine/\∃m',m'<m/\W (i+1) m' (upd H6 D (.lst (ys++[y])))else∃m',m'<m/\W (i+1) m' H5))
 (hRR:∀D C s' H',(∃m,s'.heap.Ns C m)->(∀h',Heap.SameBut C s'.heap h'->Inv X pins σ H' {s' with heap:=h'})->s2.heap.objs.size<=D->s2.heap.objs.size<=C->Q (.ref D) H'->RR (.ref D) C (.ok .next) s'):
 wpAny (model X.prog X.w) X.A (newList []) (fun acc s₃=>wpAny (model X.prog X.w) X.A (newFunctionEnv scope X.env.globals (kQ X.env.cells scope.names []) [] X.env.qual none .none (some X.env)) (fun cenv s₄=>
  codeAny (model X.prog X.w) X.A (.compStart (.ListComp elt [⟨tg,iter,ifs,0⟩] scope pos) 0 (.ref it) acc {cenv with scope:=relabel scope X.env}) (RR acc cenv.locals) s₄) E s₃) E s2:=by
 refine wpAny_newObj_type (wpAny_newFunctionEnv O.uU (by intro y hy;simp at hy) (fun h₁ qf qg=>?_) O.kind)
 dsimp only at qf qg⊢
 have hD:H1 s2.heap.objs.size=none:=I2.hok.fresh (Do _)
 obtain⟨W,⟨m0,w0⟩,turn⟩:=h s2.heap.objs.size hD
 have I3:Inv X pins σ (upd H1 s2.heap.objs.size (.lst [])) {s2 with heap:=s2.heap.push {cls:=.type "list",dict:=none,data:=.seq ([]:List Value).toArray}}:=
  I2.laid (t':=s2.toks) (fun b u e=>DL _ e) (Do _) ⟨NM _,[],0,.nil,IH _ rfl⟩
 have OL:∀b∈fp,b<s2.heap.objs.size:=fun b hb=>by
  obtain⟨o,e,_⟩:=T.obj _ _ st2 b hb
  exact FR e
 have f3:∀b∈fp,lK X pins (upd H1 s2.heap.objs.size (.lst [])) b:=fun b hb=>by
  obtain⟨q0,q⟩:=f2 b hb
  exact⟨by rw[ai (Jn (OL b hb))];exact q0,q⟩
 generalize JS:({s2 with heap:=s2.heap.push {cls:=.type "list",dict:=none,data:=.seq ([]:List Value).toArray}}:Shared)=s3 at I3
 have iA:s3.heap=s2.heap.push {cls:=.type "list",dict:=none,data:=.seq ([]:List Value).toArray}:=by rw[←JS]
 have hsz:s3.heap.objs.size=s2.heap.objs.size+1:=by rw[iA,Heap.size_push]
 have old:∀b o,s3.heap.get? b=some o->h₁.get? b=some o:=fun b o e=>
  qg.extBut b o (by rw[←iA];exact Jn (FR e)) (DL _ (by rw[←iA];exact e))
 have J4:Inv (aG X scope s3.heap.objs.size xs N' s3 (upd H1 s2.heap.objs.size (.lst [])) fp) [] (xs.map (fun _=>none)++σ) (upd H1 s2.heap.objs.size (.lst [])) {s3 with heap:=h₁,toks:=s2.toks+([]:List (Str×Value)).length}:=
  xH I3 O f3 (fun b hb=>by rw[hsz];exact Nat.lt_succ_of_lt (OL b hb)) (by rw[iA];exact qf) old
 have Xd:({s3 with heap:=h₁,toks:=s2.toks+([]:List (Str×Value)).length}:Shared)={s2 with heap:=h₁,toks:=s2.toks+([]:List (Str×Value)).length}:=by rw[←JS]
 rw[Xd]at J4
 have Uk:tn 0 h₁:=T.keep _ _ _ st2 fun b hb o e=>old b o (by rw[iA];exact DL _ e)
 have hC:(s2.heap.push {cls:=.type "list",dict:=none,data:=.seq ([]:List Value).toArray}).objs.size=s3.heap.objs.size:=by rw[iA]
 have OM:∀{H':Hp},(∀b∈fp,H' b=none)->∀b∈fp,lK (aG X scope s3.heap.objs.size xs N' s3 (upd H1 s2.heap.objs.size (.lst [])) fp) [] H' b:=fun hn b hb=>
  ⟨hn b hb,Jn (by rw[hsz];exact Nat.lt_succ_of_lt (OL b hb)),J4.ok.zH b hb,.inl hb,fun x c e=>((J4.ok.Ti b hb).2 x c e),fun p hp=>absurd (show p∈([]:List (Addr×Obj))from hp) (by simp)⟩
 have loop:codeAny (model X.prog X.w) X.A (.compLoop (.ListComp elt [⟨tg,iter,ifs,0⟩] scope pos) 0 (.ref it) (.ref s2.heap.objs.size) (compEnvC scope (kQ X.env.cells scope.names []) s3.heap.objs.size X.env))
  (RR (.ref s2.heap.objs.size) s3.heap.objs.size) {s2 with heap:=h₁,toks:=s2.toks+([]:List (Str×Value)).length}:=by
  refine lT (fun n s'=>∃(i:Nat) (v0:List (Option V)) (H':Hp),v0.length=xs.length/\Inv (aG X scope s3.heap.objs.size xs N' s3 (upd H1 s2.heap.objs.size (.lst [])) fp) [] (v0++σ) H' s'/\tn i s'.heap/\(∀b∈fp,H' b=none)/\W i n H') ?_ m0
   ⟨0,xs.map (fun _=>none),_,Ap _,J4,Uk,fun b hb=>(f3 b hb).1,w0⟩
  rintro n s5 ⟨i,v0,H5,hv0,I5,Jt,Oc,w5⟩
  rcases turn i n H5 w5 with⟨stop,qn⟩|⟨go,step⟩
  ·refine bE (T.done (aG X scope s3.heap.objs.size xs N' s3 (upd H1 s2.heap.objs.size (.lst [])) fp) rfl rfl rfl hc i [] s5 (v0++σ) H5 _ I5 (OM Oc) Jt stop) ?_
   rintro r s6 ⟨hr,I6⟩
   subst hr
   obtain⟨m,hnm,_⟩:=I6.loc
   refine hRR _ _ s6 H5 ⟨m,hnm⟩ (fun h' DO=>?_) (Do _) (by rw[hsz];exact Nat.le_succ _) qn
   have ON:∀b o,s3.heap.get? b=some o->b≠s3.heap.objs.size:=fun b o e=>Jn (FR e)
   have u:=I6.base
   have Xe:=I3.Bl (s':={s6 with heap:=h'}) (H':=H5) (ch:=fp) I6.os ⟨fun b o e n hb hx=>DO.extBut b _ (ON b o e) (u.keep b o e n hb hx),fun b o e n hb hx=>by
    obtain⟨sl,q⟩:=u.slot b o e n hb hx
    exact⟨sl,DO.extBut b _ (ON b o e) q⟩,u.free,fun b o e hx=>by
    obtain⟨o',q⟩:=u.there b o e hx
    exact⟨o',DO.extBut b _ (ON b o e) q⟩,u.tups,u.j3,u.kL⟩ (fun a o e=>?_) I6.bare (fun b hb=>?_)
   ·exact Xe
   ·have Ul:∀b u,H5 b=some u->b≠s3.heap.objs.size:=fun b u e z=>by
     subst z
     have:=I6.free
     have e2:H5 s3.heap.objs.size=none:=this
     rw[e2]at e
     cases e
    refine(I6.hok a o e).stay (fun b u hb q=>DO.extBut b u ?_ q) (fun _ q=>q) fun _ _ q=>q
    rcases hb with rfl|hb
    ·exact Ul _ _ e
    ·exact Ul _ _ hb
   ·obtain⟨q0,q1,q2,q3,q4,q5⟩:=f3 b hb
    exact⟨q3,q1,q4,q5⟩
  ·refine bE (T.item (aG X scope s3.heap.objs.size xs N' s3 (upd H1 s2.heap.objs.size (.lst [])) fp) rfl rfl rfl hc i [] s5 (v0++σ) H5 _ I5 (OM Oc) Jt go) ?_
   rintro r s6 ⟨u,hr,h6⟩
   subst hr
   refine bE h6 ?_
   rintro _ s7 ⟨x,H7,I7,r7,y7,OO,Xf⟩
   have Xg:=I7.pinned (OM Xf) (T.obj _ _ OO)
   refine bE (hg _ _ _ _ _ s7 (v0++σ) H7 x u _ Xg r7 (step x H7 y7 v0 hv0)) ?_
   rintro _ s8 ⟨σ8,H8,I8,v1,hv1,e8,q8⟩
   subst e8
   have fin:∀{s9:Shared} {H9:Hp},Inv (aG X scope s3.heap.objs.size xs N' s3 (upd H1 s2.heap.objs.size (.lst [])) fp) ([]++nD fp s7.heap) (v1++σ) H9 s9->(∃m',m'<n/\W (i+1) m' H9)->
    ∃m,m<n/\∃(i:Nat) (v0:List (Option V)) (H':Hp),v0.length=xs.length/\Inv (aG X scope s3.heap.objs.size xs N' s3 (upd H1 s2.heap.objs.size (.lst [])) fp) [] (v0++σ) H' s9/\tn i s9.heap/\(∀b∈fp,H' b=none)/\W i m H':=fun{s9 H9} I9 ⟨m',hm,w9⟩=>by
    refine⟨m',hm,i+1,v1,H9,hv1,I9.jq,T.keep _ _ _ OO fun b hb o e=>(I9.pin (b,o) (GT _ (GT _ (dW hb e)))).1,fun b hb=>?_,w9⟩
    obtain⟨o,e,d⟩:=T.obj _ _ OO b hb
    exact(I9.pin (b,o) (GT _ (GT _ (dW hb e)))).2.1
   refine bE (hf _ _ _ _ _ s8 (v1++σ) H8 _ I8 q8) ?_
   rintro ok s9 ⟨H9,I9,q9⟩
   cases ok with
   |false=>exact fin I9 q9
   |true=>
    show wpAny _ _ _ _ _ _
    refine bE (he _ _ _ _ _ s9 (v1++σ) H9 _ I9 q9) ?_
    rintro y Xh ⟨vy,Xi,Xj,Xk,ys,hys,hl,Xl⟩
    refine bE (nF (X:=aG X scope s3.heap.objs.size xs N' s3 (upd H1 s2.heap.objs.size (.lst [])) fp) _ Xh (v1++σ) Xi (.ref s2.heap.objs.size) [vy] _ [y] (fun _ H'=>∃m',m'<n/\W (i+1) m' H') Xj rfl (.cons Xk .nil) ⟨_,ys,vy,rfl,rfl,hys,hl,Xl⟩) ?_
    rintro _ s11 ⟨_,H11,Xm,_,Xn⟩
    exact fin Xm Xn
 rw[hC]
 exact codeAny_compStart_list loop (T.self X.A 0 _ _ _ Uk loop)
theorem BA{tg iter elt:Expr}{ifs:List Expr}{scope:Scope}(xs N':List Str){pos:Pos}{wi:TI}{g:TG}{tc:TT}{te:TE}(hc:X.calm=true)(ho:dX scope X.env.scope X.N N' xs=true)(hi:PI X tg iter wi)
 (hg:∀C s0 H0 fp,PG (aG X scope C xs N' s0 H0 fp) tg g) (hf:∀C s0 H0 fp,PF (aG X scope C xs N' s0 H0 fp) ifs tc) (he:∀C s0 H0 fp,PE (aG X scope C xs N' s0 H0 fp) elt te)
 (hs:∀z,foldedSetIterable iter X.env z=pure z:=by intro _;rfl):PE X (.ListComp elt [⟨tg,iter,ifs,0⟩] scope pos) (F5 xs.length wi g tc te):=by
 intro pins s σ H Q I h
 have O:=fU.of ho
 rw[eval_ListComp]
 refine wpAny_comprehension_free (use:=none) rfl hs (qd (kR I O)) O.kind O.loc (bE (hi pins s σ H _ I h) fun v s1 h1=>bE h1 fun itv s2 h2=>?_)
 obtain⟨it,fp,tn,J,H2,e,I2,T,st2,f2,hq⟩:=h2
 subst e
 refine Ab (RR:=fun acc C=>compPost (model X.prog X.w) X.A X.xe none (EP X pins σ Q) acc C) hc O hg hf he I2 T st2 f2 hq ?_
 rintro D C s' H' ⟨m,hm⟩ hI _ _ q
 exact⟨m,hm,fun h' DO=>⟨.ref D,H',hI h' DO,rfl,q⟩⟩
end
noncomputable def MN(D:Addr)(n i:Nat)(Pv:Nat->List V->Hp->Prop)(y:V)(H6:Hp):Prop:=
 ∃ys,H6 D=some (.lst ys)/\ys.length<sizeLine/\∃m',m'<n -i/\(m'=n -(i+1)/\i+1<=n/\∃zs,Pv (i+1) zs (upd H6 D (.lst (ys++[y]))))
theorem Um{D:Addr}{n i:Nat}{Pv:Nat->List V->Hp->Prop}{y:V}{H6:Hp}{ys zs:List V}(hi:i<n)(h1:H6 D=some (.lst ys))(h2:ys.length<sizeLine)(h3:Pv (i+1) zs (upd H6 D (.lst (ys++[y])))):MN D n i Pv y H6:=
 ⟨ys,h1,h2,n -(i+1),by omega,rfl,hi,zs,h3⟩
theorem Ac{lo:Int}{n:Nat}{D:Addr}{te:TE}{σ:St}{H1:Hp}{R:Hp->Prop}(Pv:Nat->List V->Hp->Prop)(h0:Pv 0 [] (upd H1 D (.lst [])))
 (hs:∀i ys H,i<n->Pv i ys H->te (some (.int (lo+i))::σ) H (MN D n i Pv)) (hd:∀ys H,Pv n ys H->R H):
 ∃W:Nat->Nat->Hp->Prop,(∃m,W 0 m (upd H1 D (.lst [])))/\∀i m H2,W i m H2->
  ((MH lo n).stop i H2/\R H2)\/((MH lo n).go i H2/\∀x H3,(MH lo n).N9 i H2 x H3->∀v0:List (Option V),v0.length=1->iu 0 x (v0++σ) H3 fun σ2 H4=>∃v1:List (Option V),v1.length=1/\σ2=v1++σ/\
    Uj σ2 H4 fun b H5=>if b=true then te σ2 H5 fun y H6=>∃ys,H6 D=some (.lst ys)/\ys.length<sizeLine/\∃m',m'<m/\W (i+1) m' (upd H6 D (.lst (ys++[y])))else∃m',m'<m/\W (i+1) m' H5):=by
 refine⟨fun i m H=>m=n -i/\i<=n/\∃ys,Pv i ys H,⟨n,by simp,NM _,[],h0⟩,?_⟩
 rintro i m H ⟨rfl,hi,ys,p⟩
 by_cases hlt:i<n
 ·refine .inr ⟨hlt,fun x H' y v0 hv0=>?_⟩
  obtain⟨e,y⟩:=y
  subst e y
  match v0,hv0 with
  |[_],_=>exact⟨[some (.int (lo+i))],rfl,rfl,hs i ys _ hlt p⟩
 ·have e:i=n:=by lia
  subst e
  exact .inl ⟨Do _,hd ys H p⟩
theorem DP{bs:List Bool}:∀{us:List Value},Vals (bs.map V.bl) us->us=bs.map Value.bool:=by
 induction bs with
 |nil=>intro us r;rw[P2]at r;cases r;rfl
 |cons b bs ih=>
  intro us r
  rw[Fn]at r
  cases r with
  |cons r1 r2=>
   have e:_=Value.bool b:=r1
   rw[e,ih r2]
   rfl
theorem Ad(bs:List Bool):((List.range bs.length).all fun i=>(bs[i]?).getD true)=bs.all id:=by
 rw[Bool.eq_iff_iff,KB,KB]
 constructor
 ·intro h b hb
  obtain⟨i,hi,rfl⟩:=List.getElem_of_mem hb
  have:=h i (Ki.mpr hi)
  simp only[BM hi,Option.getD_some]at this
  exact this
 ·intro h i hi
  have hi':=Ki.mp hi
  simp only[BM hi',Option.getD_some]
  exact h _ (On hi')
section
variable{X:Cx}
theorem DQ(hc:X.calm=true):dg X (.builtin "sum") (fun xs H Q=>∃(p:Addr) (ns:List Int),xs=[.ref p]/\ir X.K H p (ns.map V.int)/\Q (.int ns.sum) H):=by
 intro pins s σ H xs us Q I r h
 obtain⟨p,ns,rfl,hS,q⟩:=h
 obtain⟨u,rfl,ru⟩:=Vals.one r
 cases(show u=Value.ref p from ru)
 obtain⟨its,rv,pl,_⟩:=I.list hS
 have hi:=intsAre_of rv
 obtain⟨xs,hx⟩:=hi.allInts.items
 have hl':s.heap.IsList p (intItems xs):=hx▸pl.isList
 refine sum_intListG (I.ok.hd hc) hl' fun h' tk t' hk=>?_
 have e1:ns=xs.toList.map (·.1):=by
  rw[←nums_intItems,←hx]
  exact(show numsOf its.toArray.toList=ns from hi.numsOf).symm
 have e2:preSum (numAt xs) xs.size=ns.sum:=by
  rw[preSum_eq,cw (by simp),e1]
 rw[e2]
 exact⟨.int ns.sum,H,I.kept hk,⟨_,rfl⟩,q⟩
theorem DR(hc:X.calm=true):dg X (.builtin "all") (fun xs H Q=>∃(p:Addr) (bs:List Bool),xs=[.ref p]/\ir X.K H p (bs.map V.bl)/\Q (.bl (bs.all id)) H):=by
 intro pins s σ H xs us Q I r h
 obtain⟨p,bs,rfl,hS,q⟩:=h
 obtain⟨u,rfl,ru⟩:=Vals.one r
 cases(show u=Value.ref p from ru)
 obtain⟨its,rv,pl,_⟩:=I.list hS
 have hb:=DP rv
 have hl:=pl.isList
 have hlt:p<s.heap.objs.size:=by obtain⟨_,e,_⟩:=hl;exact FR e
 refine call_all_walk (wpAny_pyIter_list hl ?_)
 refine⟨s.heap.objs.size,[s.heap.objs.size,p],[s.heap.objs.size],its.toArray.size,_,_,fun i=>(bs[i]?).getD true,rfl,Walks.list (A:=X.A.in1) (I.ok.hd hc) _ p (Jn hlt) its.toArray,
  ⟨⟨_,IH _ rfl,rfl,rfl⟩,hl.push _⟩,fun i v s' Q' E' hP hQ=>?_,fun h' tk hk=>?_⟩
 ·have hv:its[i]?=some v:=by simpa using hP
  rw[hb,FS]at hv
  cases e:bs[i]? with
  |none=>rw[e]at hv;cases hv
  |some b=>
   rw[e]at hv
   simp only[e,Option.getD_some]at hQ
   have:v=Value.bool b:=(Kb hv).symm
   subst this
   exact wpAny_truthy_bool hQ
 ·have e:((List.range its.toArray.size).all fun i=>(bs[i]?).getD true)=bs.all id:=by
   have el:its.toArray.size=bs.length:=by rw[Fk,hb,Ap]
   rw[el]
   exact Ad bs
  rw[e]
  exact⟨.bl _,H,I.kept fun b o z=>hk b o (fun hm=>by rw[Fh.mp hm]at z;exact SF _ (FR z)) (DL _ z),rfl,q⟩
theorem xJ{tg iter elt:Expr}{ifs:List Expr}{scope:Scope}{xs N':List Str}{pos:Pos}{g:TG}{tc:TT}{te:TE}(hc:X.calm=true)(O:fU scope X.env.scope X.N N' xs)
 (hg:∀C s0 H0 fp,PG (aG X scope C xs N' s0 H0 fp) tg g) (hf:∀C s0 H0 fp,PF (aG X scope C xs N' s0 H0 fp) ifs tc) (he:∀C s0 H0 fp,PE (aG X scope C xs N' s0 H0 fp) elt te)
 {pins:List (Addr×Obj)} {σ:St} {H1:Hp} {s2:Shared} {it:Addr} {fp:List Addr} {tn:Nat->Heap->Prop} {J:It} {Q:VK} {E:Value->Shared->Prop} {RR:Value->Addr->Result->Shared->Prop}
 (I2:Inv X pins σ H1 s2) (T:Turn X.prog X.w X.K tg J fp it tn) (st2:tn 0 s2.heap) (f2:∀b∈fp,lK X pins H1 b)
 (h:∀D,H1 D=none->∃W:Nat->Nat->Hp->Prop,(∃m,W 0 m (upd H1 D (.lst [])))/\∀i m H2,W i m H2->
   (J.stop i H2/\Q (.ref D) H2)\/(J.go i H2/\∀x H3,J.N9 i H2 x H3->∀v0:List (Option V),v0.length=xs.length->g x (v0++σ) H3 fun σ2 H4=>∃v1:List (Option V),v1.length=xs.length/\σ2=v1++σ/\
     tc σ2 H4 fun b H5=>if b=true then te σ2 H5 fun y H6=>∃ys,H6 D=some (.lst ys)/\ys.length<sizeLine/\∃m',m'<m/\W (i+1) m' (upd H6 D (.lst (ys++[y])))else∃m',m'<m/\W (i+1) m' H5))
 (hRR:∀D C s' H',(∃m,s'.heap.Ns C m)->(∀h',Heap.SameBut C s'.heap h'->Inv X pins σ H' {s' with heap:=h'})->s2.heap.objs.size<=D->s2.heap.objs.size<=C->H' C=none->Q (.ref D) H'->RR (.ref D) C (.ok .next) s'):
 wpAny (model X.prog X.w) X.A (newList []) (fun acc s₃=>wpAny (model X.prog X.w) X.A (newFunctionEnv scope X.env.globals (kQ X.env.cells scope.names []) [] X.env.qual none .none (some X.env)) (fun cenv s₄=>
  codeAny (model X.prog X.w) X.A (.compStart (.ListComp elt [⟨tg,iter,ifs,0⟩] scope pos) 0 (.ref it) acc {cenv with scope:=relabel scope X.env}) (RR acc cenv.locals) s₄) E s₃) E s2:=by
 refine wpAny_newObj_type (wpAny_newFunctionEnv O.uU (by intro y hy;simp at hy) (fun h₁ qf qg=>?_) O.kind)
 dsimp only at qf qg⊢
 have hD:H1 s2.heap.objs.size=none:=I2.hok.fresh (Do _)
 obtain⟨W,⟨m0,w0⟩,turn⟩:=h s2.heap.objs.size hD
 have I3:Inv X pins σ (upd H1 s2.heap.objs.size (.lst [])) {s2 with heap:=s2.heap.push {cls:=.type "list",dict:=none,data:=.seq ([]:List Value).toArray}}:=
  I2.laid (t':=s2.toks) (fun b u e=>DL _ e) (Do _) ⟨NM _,[],0,.nil,IH _ rfl⟩
 have OL:∀b∈fp,b<s2.heap.objs.size:=fun b hb=>by
  obtain⟨o,e,_⟩:=T.obj _ _ st2 b hb
  exact FR e
 have f3:∀b∈fp,lK X pins (upd H1 s2.heap.objs.size (.lst [])) b:=fun b hb=>by
  obtain⟨q0,q⟩:=f2 b hb
  exact⟨by rw[ai (Jn (OL b hb))];exact q0,q⟩
 generalize JS:({s2 with heap:=s2.heap.push {cls:=.type "list",dict:=none,data:=.seq ([]:List Value).toArray}}:Shared)=s3 at I3
 have iA:s3.heap=s2.heap.push {cls:=.type "list",dict:=none,data:=.seq ([]:List Value).toArray}:=by rw[←JS]
 have hsz:s3.heap.objs.size=s2.heap.objs.size+1:=by rw[iA,Heap.size_push]
 have old:∀b o,s3.heap.get? b=some o->h₁.get? b=some o:=fun b o e=>
  qg.extBut b o (by rw[←iA];exact Jn (FR e)) (DL _ (by rw[←iA];exact e))
 have J4:Inv (aG X scope s3.heap.objs.size xs N' s3 (upd H1 s2.heap.objs.size (.lst [])) fp) [] (xs.map (fun _=>none)++σ) (upd H1 s2.heap.objs.size (.lst [])) {s3 with heap:=h₁,toks:=s2.toks+([]:List (Str×Value)).length}:=
  xH I3 O f3 (fun b hb=>by rw[hsz];exact Nat.lt_succ_of_lt (OL b hb)) (by rw[iA];exact qf) old
 have Xd:({s3 with heap:=h₁,toks:=s2.toks+([]:List (Str×Value)).length}:Shared)={s2 with heap:=h₁,toks:=s2.toks+([]:List (Str×Value)).length}:=by rw[←JS]
 rw[Xd]at J4
 have Uk:tn 0 h₁:=T.keep _ _ _ st2 fun b hb o e=>old b o (by rw[iA];exact DL _ e)
 have hC:(s2.heap.push {cls:=.type "list",dict:=none,data:=.seq ([]:List Value).toArray}).objs.size=s3.heap.objs.size:=by rw[iA]
 have OM:∀{H':Hp},(∀b∈fp,H' b=none)->∀b∈fp,lK (aG X scope s3.heap.objs.size xs N' s3 (upd H1 s2.heap.objs.size (.lst [])) fp) [] H' b:=fun hn b hb=>
  ⟨hn b hb,Jn (by rw[hsz];exact Nat.lt_succ_of_lt (OL b hb)),J4.ok.zH b hb,.inl hb,fun x c e=>((J4.ok.Ti b hb).2 x c e),fun p hp=>absurd (show p∈([]:List (Addr×Obj))from hp) (by simp)⟩
 have loop:codeAny (model X.prog X.w) X.A (.compLoop (.ListComp elt [⟨tg,iter,ifs,0⟩] scope pos) 0 (.ref it) (.ref s2.heap.objs.size) (compEnvC scope (kQ X.env.cells scope.names []) s3.heap.objs.size X.env))
  (RR (.ref s2.heap.objs.size) s3.heap.objs.size) {s2 with heap:=h₁,toks:=s2.toks+([]:List (Str×Value)).length}:=by
  refine lT (fun n s'=>∃(i:Nat) (v0:List (Option V)) (H':Hp),v0.length=xs.length/\Inv (aG X scope s3.heap.objs.size xs N' s3 (upd H1 s2.heap.objs.size (.lst [])) fp) [] (v0++σ) H' s'/\tn i s'.heap/\(∀b∈fp,H' b=none)/\W i n H') ?_ m0
   ⟨0,xs.map (fun _=>none),_,Ap _,J4,Uk,fun b hb=>(f3 b hb).1,w0⟩
  rintro n s5 ⟨i,v0,H5,hv0,I5,Jt,Oc,w5⟩
  rcases turn i n H5 w5 with⟨stop,qn⟩|⟨go,step⟩
  ·refine bE (T.done (aG X scope s3.heap.objs.size xs N' s3 (upd H1 s2.heap.objs.size (.lst [])) fp) rfl rfl rfl hc i [] s5 (v0++σ) H5 _ I5 (OM Oc) Jt stop) ?_
   rintro r s6 ⟨hr,I6⟩
   subst hr
   obtain⟨m,hnm,_⟩:=I6.loc
   refine hRR _ _ s6 H5 ⟨m,hnm⟩ (fun h' DO=>?_) (Do _) (by rw[hsz];exact Nat.le_succ _) I6.free qn
   have ON:∀b o,s3.heap.get? b=some o->b≠s3.heap.objs.size:=fun b o e=>Jn (FR e)
   have u:=I6.base
   have Xe:=I3.Bl (s':={s6 with heap:=h'}) (H':=H5) (ch:=fp) I6.os ⟨fun b o e n hb hx=>DO.extBut b _ (ON b o e) (u.keep b o e n hb hx),fun b o e n hb hx=>by
    obtain⟨sl,q⟩:=u.slot b o e n hb hx
    exact⟨sl,DO.extBut b _ (ON b o e) q⟩,u.free,fun b o e hx=>by
    obtain⟨o',q⟩:=u.there b o e hx
    exact⟨o',DO.extBut b _ (ON b o e) q⟩,u.tups,u.j3,u.kL⟩ (fun a o e=>?_) I6.bare (fun b hb=>?_)
   ·exact Xe
   ·have Ul:∀b u,H5 b=some u->b≠s3.heap.objs.size:=fun b u e z=>by
     subst z
     have:=I6.free
     have e2:H5 s3.heap.objs.size=none:=this
     rw[e2]at e
     cases e
    refine(I6.hok a o e).stay (fun b u hb q=>DO.extBut b u ?_ q) (fun _ q=>q) fun _ _ q=>q
    rcases hb with rfl|hb
    ·exact Ul _ _ e
    ·exact Ul _ _ hb
   ·obtain⟨q0,q1,q2,q3,q4,q5⟩:=f3 b hb
    exact⟨q3,q1,q4,q5⟩
  ·refine bE (T.item (aG X scope s3.heap.objs.size xs N' s3 (upd H1 s2.heap.objs.size (.lst [])) fp) rfl rfl rfl hc i [] s5 (v0++σ) H5 _ I5 (OM Oc) Jt go) ?_
   rintro r s6 ⟨u,hr,h6⟩
   subst hr
   refine bE h6 ?_
   rintro _ s7 ⟨x,H7,I7,r7,y7,OO,Xf⟩
   have Xg:=I7.pinned (OM Xf) (T.obj _ _ OO)
   refine bE (hg _ _ _ _ _ s7 (v0++σ) H7 x u _ Xg r7 (step x H7 y7 v0 hv0)) ?_
   rintro _ s8 ⟨σ8,H8,I8,v1,hv1,e8,q8⟩
   subst e8
   have fin:∀{s9:Shared} {H9:Hp},Inv (aG X scope s3.heap.objs.size xs N' s3 (upd H1 s2.heap.objs.size (.lst [])) fp) ([]++nD fp s7.heap) (v1++σ) H9 s9->(∃m',m'<n/\W (i+1) m' H9)->
    ∃m,m<n/\∃(i:Nat) (v0:List (Option V)) (H':Hp),v0.length=xs.length/\Inv (aG X scope s3.heap.objs.size xs N' s3 (upd H1 s2.heap.objs.size (.lst [])) fp) [] (v0++σ) H' s9/\tn i s9.heap/\(∀b∈fp,H' b=none)/\W i m H':=fun{s9 H9} I9 ⟨m',hm,w9⟩=>by
    refine⟨m',hm,i+1,v1,H9,hv1,I9.jq,T.keep _ _ _ OO fun b hb o e=>(I9.pin (b,o) (GT _ (GT _ (dW hb e)))).1,fun b hb=>?_,w9⟩
    obtain⟨o,e,d⟩:=T.obj _ _ OO b hb
    exact(I9.pin (b,o) (GT _ (GT _ (dW hb e)))).2.1
   refine bE (hf _ _ _ _ _ s8 (v1++σ) H8 _ I8 q8) ?_
   rintro ok s9 ⟨H9,I9,q9⟩
   cases ok with
   |false=>exact fin I9 q9
   |true=>
    show wpAny _ _ _ _ _ _
    refine bE (he _ _ _ _ _ s9 (v1++σ) H9 _ I9 q9) ?_
    rintro y Xh ⟨vy,Xi,Xj,Xk,ys,hys,hl,Xl⟩
    refine bE (nF (X:=aG X scope s3.heap.objs.size xs N' s3 (upd H1 s2.heap.objs.size (.lst [])) fp) _ Xh (v1++σ) Xi (.ref s2.heap.objs.size) [vy] _ [y] (fun _ H'=>∃m',m'<n/\W (i+1) m' H') Xj rfl (.cons Xk .nil) ⟨_,ys,vy,rfl,rfl,hys,hl,Xl⟩) ?_
    rintro _ s11 ⟨_,H11,Xm,_,Xn⟩
    exact fin Xm Xn
 rw[hC]
 exact codeAny_compStart_list loop (T.self X.A 0 _ _ _ Uk loop)
theorem JT{i:Nat}{x:Str}{tg iter elt:Expr}{ifs:List Expr}{scope:Scope}{pos' pos spos:Pos}(xs N':List Str){wi:TI}{g:TG}{tc:TT}{te:TE}(hN:X.N.Nodup)(hi:X.N[i]?=some x)(hx:Loc X.env.scope x)(hc:X.calm=true)(ho:dX scope X.env.scope X.N N' xs=true)(Uo:PI X tg iter wi)
 (hg:∀C s0 H0 fp,PG (aG X scope C xs N' s0 H0 fp) tg g) (hf:∀C s0 H0 fp,PF (aG X scope C xs N' s0 H0 fp) ifs tc) (he:∀C s0 H0 fp,PE (aG X scope C xs N' s0 H0 fp) elt te)
 (hsw:swapsWith (.ListComp elt [⟨tg,iter,ifs,0⟩] scope pos) (some (.Name x pos')) spos.line X.env=pure true:=by rfl)
 (hs:∀z,foldedSetIterable iter X.env z=pure z:=by intro _;rfl) (hfn:X.fn x=true\/X.env.scope.names.lookup x=some .local:=by first|exact .inl rfl|exact .inr rfl|assumption):
 PS X (.Assign [.Name x pos'] (.ListComp elt [⟨tg,iter,ifs,0⟩] scope pos) spos) (pZ (F5 xs.length wi g tc te) (iu i)):=by
 intro pins s σ H W I h
 have O:=fU.of ho
 rw[exec_Assign_Name_used _ _ _ _ hsw]
 refine FM (wpAny_standAt (FM ?_))
 show wpAny _ X.A (do let _←comprehension (.ListComp elt [⟨tg,iter,ifs,0⟩] scope pos) scope X.env _ (newList []) false (eval iter X.env) (some (assign (.Name x pos') X.env))) _ _ s
 refine FM (X1 (wpAny_comprehension_free (use:=some (assign (.Name x pos') X.env)) (Q:=fun _ s'=>SP X pins W .next s') rfl hs (qd (kR I O)) O.kind O.loc (bE (Uo pins s σ H _ I h) fun v s1 h1=>bE h1 fun itv s2 h2=>?_)) (fun _ s' hq=>Kt (Kt hq)) fun _ _ e=>e)
 obtain⟨it,fp,tn,J,H2,e,I2,T,st2,f2,hq⟩:=h2
 subst e
 refine xJ (Q:=fun x H1=>iu i x σ H1 W.nx) (RR:=fun acc C=>compPost (model X.prog X.w) X.A X.xe (some (assign (.Name x pos') X.env)) (fun _ s'=>SP X pins W .next s') acc C) hc O hg hf he I2 T st2 f2 hq ?_
 rintro D C s' H' ⟨m,hm⟩ hI _ hC fC q
 have I':Inv X pins σ H' s':=hI s'.heap ⟨rfl,fun _ _=>rfl⟩
 have lt:∀b o,s2.heap.get? b=some o->b≠C:=fun b o e=>Jn (GE (FR e) hC)
 have nL:C≠X.env.locals:=fun e=>by
  obtain⟨m2,hn2,_⟩:=I2.loc
  obtain⟨o,_,_,ho2,_⟩:=hn2
  exact lt _ o ho2 e.symm
 have nC:∀y c,X.env.cells.lookup y=some c->c≠C:=fun y c e z=>by
  obtain⟨v,o,e1,_⟩:=I2.cell y c e
  exact lt _ o e1 z
 have nP:∀p∈X.pn++pins,p.1≠C:=fun p hp z=>lt _ _ (I2.pin p hp).1 z
 show wpAny _ X.A (assign (.Name x pos') X.env (.ref D)) _ _ _
 refine wpAny_assign_Name (tL I' hN hi hx (v:=.ref D) rfl (fun s'' Xo hsm=>?_) hfn)
 obtain⟨a,DO,ha⟩:=hsm
 have aC:a≠C:=by
  rcases ha with rfl|ha
  ·exact Qb nL
  ·exact nC x a ha
 refine⟨m,hm.sameBut DO (Qb aC),fun h' hs'=>⟨_,H',?_,q⟩⟩
 refine Xo.Bl (s':={s'' with heap:=h'}) (H':=H') (ch:=[C]) rfl ⟨fun b o e n hb hx=>hs'.extBut b o (fun z=>hx (by rw[z];exact Fh.mpr rfl)) e,fun b o e n hb hx=>⟨o.slots,hs'.extBut b o (fun z=>hx (by rw[z];exact Fh.mpr rfl)) e⟩,fun b o e n hx=>n,fun b o e hx=>⟨o,hs'.extBut b o (fun z=>hx (by rw[z];exact Fh.mpr rfl)) e⟩,fun b xs q=>q,fun b o u q=>q,fun b ps q=>⟨#[],by rw[Array.append_empty];exact q⟩⟩ (fun a o e=>?_) Xo.bare (fun b hb=>?_)
 ·refine(Xo.hok a o e).stay (fun b u hb q=>hs'.extBut b u ?_ q) (fun _ q=>q) fun _ _ q=>q
  rintro rfl
  rcases hb with rfl|hb
  ·rw[fC]at e;cases e
  ·rw[fC]at hb;cases hb
 ·rw[Fh.mp hb]
  exact⟨.inr (FC I2.sz hC),nL,fun y c e z=>nC y c e z,nP⟩
theorem JU:W0 X "int.bit_length" (fun x xs H Q=>∃i:Int,x=.int i/\xs=[]/\Q (.int (Builtin.Int.intBits i:Nat)) H):=by
 intro pins s σ H x xs v us Q I rx rv h
 obtain⟨i,rfl,rfl,q⟩:=h
 obtain⟨t,rfl⟩:=rx
 cases rv
 exact call_gives F.slot_int_bit_length (typeIs_int s i t) F.entry_int_bit_length (F.args_int_bit_length_1 _) (PySem.AutoIntG2.int_bit_length_int_0 i t) (show EP X pins σ Q (.int _ _) _ from⟨.int _,H,I.tok _,⟨_,rfl⟩,q⟩)
noncomputable def Wi(lo st:Int)(n:Nat):It:=⟨fun i _=>i<n,fun i H x H'=>H'=H/\x=.int (lo+i*st),fun i _=>n<=i⟩
theorem xK{P:Program}{w:World}{K:PySem.W.Frag}{tg:Expr}(it:Addr)(lo st:Int)(n:Nat):Turn P w K tg (Wi lo st n) [it] it (fun i h=>IsRangeIter h it (lo+(i:Nat)*st) ((n:Int) -(i:Nat)) st)where
 mem:=by simp
 obj:=fun i h st b hb=>by
  have e:b=it:=by simpa using hb
  subst e
  exact⟨_,st,fun v z=>by
   have z':Data.fields _=Data.cell v:=z
   cases z'⟩
 keep:=fun i h h' st k=>k it (by simp) _ st
 item:=by
  intro X hP hw hK hc i pins s σ H E I hf Xp hg
  subst hP hw hK
  obtain⟨f0,f1,f2,f3,f4,f5⟩:=hf it (by simp)
  have W:=Walks.range (prog:=X.prog) (w:=X.w) (I.ok.hd hc) it lo st n
  refine W.item i s _ _ hg Xp fun v h' tk hv st' kk=>?_
  obtain⟨t,rfl⟩:=hv
  have I1:Inv X pins σ H {s with heap:=h',toks:=tk}:=I.turned (fun b o hb e=>kk b o (by simpa using hb) e) f0 f1 f3 f4 f5
  exact⟨_,rfl,xw (s:={s with heap:=h',toks:=tk}) (n:="range_iterator") st' rfl rfl (by decide) ⟨.int (lo+i*st),H,I1,⟨t,rfl⟩,⟨rfl,rfl⟩,st',fun b hb=>(hf b hb).1⟩⟩
 done:=by
  intro X hP hw hK hc i pins s σ H E I hf Xp hg
  subst hP hw hK
  obtain⟨f0,f1,f2,f3,f4,f5⟩:=hf it (by simp)
  exact wpAny_pyNext_range_end (I.ok.hd hc) Xp (by have:n<=i:=hg;omega) fun h' eb=>⟨rfl,I.turned (t':=s.toks) (fun b o hb e=>eb b o hb e) f0 f1 f3 f4 f5⟩
 self:=fun _ _ _ _ _ st h=>wpAny_pyIter_rangeiter st h
theorem DS{tg:Expr}{pins:List (Addr×Obj)}{σ:St}{H:Hp}{s:Shared}{R:It->Hp->Prop}{E:Value->Shared->Prop}{lo hi st:Int}{n:Nat}{t u v:Tok}{tk:Nat}(I:Inv X pins σ H s)(hs:Builtin.Range.small lo hi st=true)(hn:Builtin.Range.rangeSize lo hi st=(n:Int))
 (q:R (Wi lo st n) H):wpAny (model X.prog X.w) X.A (pyIter (.ref s.heap.objs.size)) (WO X pins σ tg R) E {s with heap:=s.heap.push {cls:=.type "range",data:=.fields #[.int lo t,.int hi u,.int st v]},toks:=tk}:=by
 refine wpAny_pyIter_range (IsRange.new ..) hs ?_
 have I1:Inv X pins σ H {s with heap:=s.heap.push {cls:=.type "range",data:=.fields #[.int lo t,.int hi u,.int st v]},toks:=tk}:=I.kept fun b o e=>DL _ e
 refine⟨(s.heap.push {cls:=.type "range",data:=.fields #[.int lo t,.int hi u,.int st v]}).objs.size,[(s.heap.push {cls:=.type "range",data:=.fields #[.int lo t,.int hi u,.int st v]}).objs.size],_,_,H,rfl,
  I1.kept (t':=tk) fun b o e=>DL _ e,xK _ lo st n,?_,fun b hb=>?_,q⟩
 ·have e1:lo+((0:Nat):Int)*st=lo:=by simp
  have e2:(n:Int) -((0:Nat):Int)=Builtin.Range.rangeSize lo hi st:=by rw[hn];simp
  show IsRangeIter _ _ (lo+((0:Nat):Int)*st) ((n:Int) -((0:Nat):Int)) st
  rw[e1,e2]
  exact IH _ rfl
 ·have e:b=(s.heap.push {cls:=.type "range",data:=.fields #[.int lo t,.int hi u,.int st v]}).objs.size:=by simpa using hb
  subst e
  exact I1.xu (Do _) (I1.hok.fresh (Do _))
noncomputable def Up(ta:TA):TI:=fun σ H R=>ta σ H fun vs H1=>∃(i j k:Int) (n:Nat),vs=[.int i,.int j,.int k]/\(k≠0/\k.natAbs<1073741824/\Builtin.Range.small i j k=true/\Builtin.Range.rangeSize i j k=(n:Int))/\R (Wi i k n) H1
theorem DT{tg a b c:Expr}{ta:TA}{p pos:Pos}(hg:Gl X "range")(hm:X.mg "range"=none)(ha:PA X [a,b,c] ta)(hs:starEach [a,b,c] X.env=[(false,eval a X.env),(false,eval b X.env),(false,eval c X.env)]:=by rfl)(hs2:starEach [b,c] X.env=[(false,eval b X.env),(false,eval c X.env)]:=by rfl):
 PI X tg (.Call (.Name "range" p) [a,b,c] [] pos) (Up ta):=by
 intro pins s σ H R I h
 refine Call_ (gE I hg hm boot_range (PP (bE (ha pos pins s σ H _ I h) fun us s1 ⟨vs,H1,I1,r1,q1⟩=>?_) (by rw[hs,hs2]) (by rw[hs2];rfl)))
 obtain⟨i,j,k,n,e,⟨q1,q2,q3,q4⟩,q⟩:=q1
 subst e
 cases r1 with
 |cons r rr=>
  cases rr with
  |cons r' rr=>
   cases rr with
   |cons r'' rr=>
    cases rr
    obtain⟨t,rfl⟩:=r
    obtain⟨t',rfl⟩:=r'
    obtain⟨t'',rfl⟩:=r''
    exact call_range_3 q1 (DS I1 q3 q4 q) (.inl (PyProof.noPylong_small q2))
end
end L2
namespace L2
open PySem
end L2
namespace L2
open PySem PySem.Spec PyProof.Rows
noncomputable def Dt(X:Cx)(H:Hp)(x:V)(d:PyData):Prop:=
 ∀(pins:List (Addr×Obj)) (σ:St) (s:Shared) (u:Value),Inv X pins σ H s->RelV x u->∃as,Reads s.heap u d as
section
variable{X:Cx}{H:Hp}
theorem OP(i:Int):Dt X H (.int i) (.int i):=fun _ _ s u _ r=>by
 obtain⟨t,rfl⟩:=r
 exact⟨_,.int i t⟩
theorem MO(b:Bool):Dt X H (.bl b) (.bool b):=fun _ _ s u _ r=>by
 cases(show u=Value.bool b from r)
 exact⟨_,.bool b⟩
theorem OQ(x:Str):Dt X H (.str x) (.str x):=fun _ _ s u _ r=>by
 obtain⟨t,rfl⟩:=r
 exact⟨_,.str x t⟩
theorem OR:Dt X H .aU .none:=fun _ _ s u _ r=>by
 cases(show u=Value.none from r)
 exact⟨_,.none⟩
theorem Ae{pins:List (Addr×Obj)}{σ:St}{s:Shared}(I:Inv X pins σ H s):∀{xs:List V} {ds:List PyData} {us:List Value},Paired (Dt X H) xs ds->Vals xs us->∃as,ReadsAll s.heap us ds as
 |_,_,_,.nil,.nil=>⟨_,.nil⟩
 |_,_,_,.cons h t,.cons r rr=>by
  obtain⟨as,q⟩:=h _ _ _ _ I r
  obtain⟨bs,q2⟩:=Ae I t rr
  exact⟨_,.cons q q2⟩
theorem uV{a:Addr}{xs:List V}{ds:List PyData}(h:ir X.K H a xs)(hall:Paired (Dt X H) xs ds):Dt X H (.ref a) (.list ds):=fun _ _ s u I r=>by
 cases(show u=Value.ref a from r)
 obtain⟨its,rv,pl,_⟩:=I.list h
 obtain⟨as,q⟩:=Ae I hall rv
 obtain⟨o,ho,hc,n,hd⟩:=pl.isList
 exact⟨_,.list ho hc hd (by simpa using q)⟩
theorem OS{a:Addr}{xs:List V}{ds:List PyData}(h:lG X.K H a xs)(hall:Paired (Dt X H) xs ds):Dt X H (.ref a) (.tuple ds):=fun _ _ s u I r=>by
 cases(show u=Value.ref a from r)
 obtain⟨its,rv,ht,_⟩:=I.tuple h
 obtain⟨as,q⟩:=Ae I hall rv
 obtain⟨o,ho,hc,n,hd⟩:=ht
 exact⟨_,.tuple ho hc hd (by simpa using q)⟩
noncomputable def Xq(X:Cx):R2:=fun x y H Q=>∃dx dy,Dt X H x dx/\Dt X H y dy/\(SeqAt.shaped dx=true/\SeqAt.shaped dy=true/\SeqAt.noMix dx dy=true)/\Q (.bl (PySem.Spec.same dx dy)) H
noncomputable def Xr(X:Cx):R2:=fun x y H Q=>∃dx dy,Dt X H x dx/\Dt X H y dy/\(SeqAt.shaped dx=true/\SeqAt.shaped dy=true/\SeqAt.noMix dx dy=true)/\Q (.bl (!PySem.Spec.same dx dy)) H
theorem F6(hu:X.A.units+64<cLine):kN X (compareOp .Eq) (Xq X):=by
 intro pins s σ H x y v u Q I rx ry h
 obtain⟨dx,dy,h1,h2,⟨q1,q2,q3⟩,q⟩:=h
 obtain⟨as,r1⟩:=h1 _ _ _ _ I rx
 obtain⟨bs,r2⟩:=h2 _ _ _ _ I ry
 exact eq_dataH_same r1 r2 q1 q2 hu q3 ⟨.bl _,H,I,rfl,q⟩
theorem OT(hu:X.A.units+64<cLine):kN X (compareOp .NotEq) (Xr X):=by
 intro pins s σ H x y v u Q I rx ry h
 obtain⟨dx,dy,h1,h2,⟨q1,q2,q3⟩,q⟩:=h
 obtain⟨as,r1⟩:=h1 _ _ _ _ I rx
 obtain⟨bs,r2⟩:=h2 _ _ _ _ I ry
 exact ne_dataH_same r1 r2 q1 q2 hu q3 ⟨.bl _,H,I,rfl,q⟩
end
noncomputable def Xs(K:PySem.W.Frag)(a:Addr):It:=⟨fun i H=>∃xs x,ir K H a xs/\xs[i]?=some x,fun i H x H'=>∃p y,H p=none/\x=.ref p/\H'=upd H p (.tup [.int i,y])/\∀xs,ir K H a xs->xs[i]?=some y,fun i H=>∃xs,ir K H a xs/\xs.length=i⟩
theorem Inv.Uq{X:Cx}{pins:List (Addr×Obj)}{σ:St}{H:Hp}{s:Shared}{h':Heap}{t':Nat}{ch:List Addr}{p:Addr}{xs:List V}(I:Inv X pins σ H s)(hf:∀b∈ch,lK X pins H b)
 (k:∀b o,b∉ch->s.heap.get? b=some o->h'.get? b=some o) (hp:s.heap.objs.size<=p) (new:bW X.prog X.w (upd H p (.tup xs)) h' p (.tup xs)) (ht:∀b∈ch,∃o,h'.get? b=some o):Inv X pins σ (upd H p (.tup xs)) {s with heap:=h',toks:=t'}:=by
 have hn:H p=none:=I.hok.fresh hp
 have ME:∀b u,H b=some u->b∉ch:=fun b u e z=>by rw[(hf b z).1]at e;cases e
 have nep:∀b o,s.heap.get? b=some o->b≠p:=fun b o e z=>absurd (GE (FR e) hp) (by rw[z];exact SF _)
 refine I.step (g':=s.gens) (d':=s.drawn) (ch:=ch) (fun b hb=>?_) (fun b o _ _ hc e _=>k b o hc e) (fun b o _ _ hc e _=>⟨o.slots,k b o hc e⟩) (fun b o _ e n=>by rw[ai (nep b o e)];exact n)
  (fun b o hc e=>⟨o,k b o hc e⟩) (fun b ys e=>by rw[ai (aO e hn)];exact e) (fun b o u e=>by rw[ai (aO e hn)];exact e) (fun b ps e=>⟨#[],by rw[ai (aO e hn),e];simp⟩) (fun m hm=>?_) (fun b u e=>?_) I.bare
 ·obtain⟨f0,f1,f2,f3,f4,f5⟩:=hf b hb
  exact⟨f3,f1,f4,f5⟩
 ·obtain⟨o,es,ep,ho,r⟩:=hm
  exact⟨o,es,ep,k _ o (fun z=>(hf _ z).2.1 rfl) ho,r⟩
 ·by_cases hb:b=p
  ·subst hb
   rw[aD]at e
   cases e
   exact new
  ·rw[ai hb]at e
   refine(I.hok b u e).stay (fun c v hc q=>k c v ?_ q) (fun c q=>by rw[ai (aO q hn)];exact q) fun c ys q=>by rw[ai (aO q hn)];exact q
   rcases hc with z|z
   ·rw[z];exact ME b u e
   ·exact ME c _ z
theorem DU{P:Program}{w:World}{K:PySem.W.Frag}{elts:List Expr}{kk:Nat}{pos:Pos}(a e it:Addr)(hei:e≠it):
 Turn P w K (.Tuple elts kk pos) (Xs K a) [e,it] e (fun i h=>(∃old,IsEnum h e it i old)/\h.IsListIter it a i)where
 mem:=by simp
 obj:=fun i h st b hb=>by
  obtain⟨⟨old,he⟩,o,ho,c,d⟩:=st
  rcases Fu.mp hb with z|z
  ·subst z
   exact⟨_,he,fun v z=>by cases z⟩
  ·rw[Fh.mp z]
   exact⟨o,ho,fun v z=>by rw[d]at z;cases z⟩
 keep:=fun i h h' st k=>by
  obtain⟨⟨old,he⟩,hl⟩:=st
  exact⟨⟨old,k e (by simp) _ he⟩,hl.at fun o x=>k it (by simp) o x⟩
 item:=by
  intro X hP hw hK hc i pins s σ H E I hf st hg
  subst hP hw hK
  obtain⟨xs,x,hq,hx⟩:=hg
  obtain⟨its,rv,p,hz⟩:=I.list hq
  obtain⟨u,hu,ru⟩:=rv.get hx
  obtain⟨⟨old,he⟩,hl⟩:=st
  have hit:=hf it (by simp)
  have hee:=hf e (by simp)
  have hai:a≠it:=fun z=>by
   obtain⟨o,ho,c,d⟩:=hl
   obtain⟨o',ho',c',_⟩:=p.isList
   rw[z,ho]at ho'
   cases ho'
   rw[c]at c'
   exact absurd c' (by decide)
  have hae:a≠e:=fun z=>by
   obtain⟨o',ho',c',_⟩:=p.isList
   have he':s.heap.get? e=some _:=he
   rw[z,he']at ho'
   cases ho'
   exact absurd (show Value.type "enumerate"=Value.type "list"from c') (by decide)
  have D:=Draws.list (prog:=X.prog) (w:=X.w) (A:=X.A.in1) (I.ok.hd hc) it a hai its.toArray
  have W:=WalksT.enumerateD D e hei (by simp[hei,hae.symm]) (by simp)
  have hlt:i<its.toArray.size:=by
   have:=(Fs.mp hu).1
   simpa using this
  refine W.item i s _ _ hlt ⟨⟨old,he⟩,hl,p.isList⟩ fun T vals h' tk hPt hT Xu Ur hk=>?_
  obtain⟨t,y,hy,rfl⟩:=hPt
  have hyu:y=u:=by
   have:its[i]?=some y:=by simpa using hy
   rw[hu]at this
   exact(Kb this).symm
  subst hyu
  refine⟨.ref T,rfl,W.go elts kk pos i T _ _ _ Ur fun h'' hst hk2=>?_⟩
  have Ze:T∉[e,it]:=W.apart i T h' Ur
  obtain⟨⟨old',he'⟩,hl',_⟩:=hst
  have Us:IsTup h'' T #[.int i t,y]:=by
   obtain⟨o,ho,c⟩:=Xu
   exact⟨o,hk2 T o Ze ho,c⟩
  have obj:bW X.prog X.w (upd H T (.tup [.int i,x])) h'' T (.tup [.int i,x]):=⟨iy (by show 2<=100000;decide),[.int i t,y],.cons ⟨t,rfl⟩ (.cons ru .nil),Us⟩
  have I2:=I.Uq (t':=tk) (ch:=[e,it]) hf (fun b o hb eo=>hk2 b o hb (hk b o hb eo)) hT obj (fun b hb=>by
   rcases Fu.mp hb with z|z
   ·rw[z];exact⟨_,he'⟩
   ·rw[Fh.mp z]
    obtain⟨o,ho,_⟩:=hl'
    exact⟨o,ho⟩)
  refine⟨.ref T,upd H T (.tup [.int i,x]),I2,rfl,⟨T,x,I.hok.fresh hT,rfl,rfl,fun ys hy=>by rw[I.pX hy hq];exact hx⟩,⟨⟨old',he'⟩,hl'⟩,fun b hb=>?_⟩
  rw[ai (show b≠T from fun z=>Ze (by rw[←z];exact hb))]
  exact(hf b hb).1
 done:=by
  intro X hP hw hK hc i pins s σ H E I hf st hg
  subst hP hw hK
  obtain⟨xs,hq,hx⟩:=hg
  obtain⟨its,rv,p,hz⟩:=I.list hq
  obtain⟨⟨old,he⟩,hl⟩:=st
  obtain⟨f0,f1,f2,f3,f4,f5⟩:=hf it (by simp)
  have hai:a≠it:=fun z=>by
   obtain⟨o,ho,c,d⟩:=hl
   obtain⟨o',ho',c',_⟩:=p.isList
   rw[z,ho]at ho'
   cases ho'
   rw[c]at c'
   exact absurd c' (by decide)
  have D:=Draws.list (prog:=X.prog) (w:=X.w) (A:=X.A.in1) (I.ok.hd hc) it a hai its.toArray
  have hn:its.toArray.size=i:=by
   rw[Fk,←rv.length]
   exact hx
  exact wpAny_pyNext_enum_endD D he ⟨by rw[hn];exact hl,p.isList⟩ fun h' eb=>⟨rfl,I.turned (t':=s.toks) (fun b o hb x=>eb b o hb x) f0 f1 f3 f4 f5⟩
 self:=fun _ _ _ _ _ st h=>by
  obtain⟨⟨old,he⟩,_⟩:=st
  exact wpAny_pyIter_enum he h
section
variable{X:Cx}
noncomputable def Ut(K:PySem.W.Frag)(ta:TA):TI:=fun σ H R=>ta σ H fun vs H1=>∃a,vs=[.ref a]/\(∃xs,ir K H1 a xs)/\R (Xs K a) H1
theorem JV{a:Expr}{ta:TA}{elts:List Expr}{kk:Nat}{tp p pos:Pos}(hg:Gl X "enumerate")(hm:X.mg "enumerate"=none)(ha:PA X [a] ta)(hv:bootBuiltins "enumerate"=some (.type "enumerate"):=by rfl)(hs:starEach [a] X.env=[(false,eval a X.env)]:=by rfl):
 PI X (.Tuple elts kk tp) (.Call (.Name "enumerate" p) [a] [] pos) (Ut X.K ta):=by
 intro pins s σ H R I h
 refine Call_ (gE I hg hm hv (PP (bE (ha pos pins s σ H _ I h) fun us s1 ⟨vs,H1,I1,r1,q1⟩=>?_) hs rfl))
 obtain⟨l,e,⟨xs,hq⟩,q⟩:=q1
 subst e
 obtain⟨u,rfl,ru⟩:=Vals.one r1
 cases(show u=Value.ref l from ru)
 obtain⟨its,rv,pl,_⟩:=I1.list hq
 refine call_enumerate_list pl.isList fun h' he hl hsz hk=>?_
 refine wpAny_pyIter_enum he ?_
 have I2:Inv X pins σ H1 {s1 with heap:=h'}:=I1.kept (t':=s1.toks) hk
 refine⟨s1.heap.objs.size+1,[s1.heap.objs.size+1,s1.heap.objs.size],_,_,H1,rfl,I2,DU l (s1.heap.objs.size+1) s1.heap.objs.size (Nat.succ_ne_self _),⟨⟨_,he⟩,hl⟩,fun b hb=>?_,q⟩
 rcases Fu.mp hb with z|z
 ·rw[z];exact I1.xu (by lia) (I1.hok.fresh (by lia))
 ·rw[Fh.mp z];exact I1.xu (Do _) (I1.hok.fresh (Do _))
end
noncomputable def Xv(K:PySem.W.Frag)(a:Addr)(n:Nat):It:=
 ⟨fun i H=>∃xs,ir K H a xs/\xs.length=n/\i<n,fun i H x H'=>H'=H/\∀xs,ir K H a xs->xs.length=n->xs[n -1 -i]?=some x,fun i _=>i=n⟩
theorem F7{P:Program}{w:World}{K:PySem.W.Frag}{tg:Expr}(a it:Addr)(n:Nat):Turn P w K tg (Xv K a n) [it] it (fun i h=>h.IsRevIter it a ((n:Int) -1 -(i:Int)))where
 mem:=by simp
 obj:=fun i h st b hb=>by
  have e:b=it:=by simpa using hb
  subst e
  obtain⟨o,e,c,d⟩:=st
  refine⟨o,e,fun v z=>?_⟩
  rw[d]at z
  cases z
 keep:=fun i h h' st k=>st.at fun o e=>k it (Fh.mpr rfl) o e
 item:=by
  intro X hP hw hK hc i pins s σ H E I hf st hg
  subst hP hw hK
  obtain⟨xs,hq,hn,hi⟩:=hg
  obtain⟨its,rv,p,hz⟩:=I.list hq
  have hx:xs[n -1 -i]?=some (xs[n -1 -i]'(by omega)):=BM (by omega)
  obtain⟨u,hu,ru⟩:=rv.get hx
  obtain⟨f0,f1,f2,f3,f4,f5⟩:=hf it (Fh.mpr rfl)
  have e:(n:Int) -1 -(i:Int)=((n -1 -i:Nat):Int):=by omega
  rw[e]at st
  refine wpAny_pyNext_rev_item st p.isList (x:=u) (by simpa using hu) fun h' st' sb=>?_
  have e2:((n -1 -i:Nat):Int) -1=(n:Int) -1 -((i+1:Nat):Int):=by omega
  rw[e2]at st'
  have I1:Inv X pins σ H {s with heap:=h'}:=I.turned (t':=s.toks) (fun b o hb z=>(sb.2 b hb).trans z) f0 f1 f3 f4 f5
  obtain⟨o,e3,c,d⟩:=id st'
  exact⟨u,rfl,xw (s:={s with heap:=h'}) e3 c d (by decide) ⟨_,H,I1,ru,⟨rfl,fun ys hy _=>by rw[I.pX hy hq];exact hx⟩,st',fun b hb=>(hf b hb).1⟩⟩
 done:=by
  intro X hP hw hK hc i pins s σ H E I hf st hg
  subst hP hw hK
  have hg':i=n:=hg
  subst hg'
  obtain⟨f0,f1,f2,f3,f4,f5⟩:=hf it (Fh.mpr rfl)
  have e:(i:Int) -1 -(i:Int)= -1:=by omega
  rw[e]at st
  exact wpAny_pyNext_rev_end (I.ok.hd hc) st fun h' eb=>⟨rfl,I.turned (t':=s.toks) (fun b o hb z=>eb b o hb z) f0 f1 f3 f4 f5⟩
 self:=fun _ _ _ _ _ st h=>wpAny_pyIter_revIter st h
section
variable{X:Cx}{tg:Expr}
noncomputable def Xw(K:PySem.W.Frag)(ta:TA):TI:=fun σ H R=>ta σ H fun vs H1=>∃a xs,vs=[.ref a]/\ir K H1 a xs/\R (Xv K a xs.length) H1
theorem OU{a:Expr}{ta:TA}{p pos:Pos}(hg:Gl X "reversed")(hm:X.mg "reversed"=none)(ha:PA X [a] ta)(hv:bootBuiltins "reversed"=some (.type "reversed"):=by rfl)(hs:starEach [a] X.env=[(false,eval a X.env)]:=by rfl):
 PI X tg (.Call (.Name "reversed" p) [a] [] pos) (Xw X.K ta):=by
 intro pins s σ H R I h
 refine Call_ (gE I hg hm hv (PP (bE (ha pos pins s σ H _ I h) fun us s1 ⟨vs,H1,I1,r1,q1⟩=>?_) hs rfl))
 obtain⟨l,xs,e,hq,q⟩:=q1
 subst e
 obtain⟨u,rfl,ru⟩:=Vals.one r1
 cases(show u=Value.ref l from ru)
 obtain⟨its,rv,pl,_⟩:=I1.list hq
 refine call_reversed_list pl.isList ?_
 have e0:((its.toArray.size:Nat):Int) -1=(xs.length:Int) -1 -((0:Nat):Int):=by
  have:=rv.length
  simp
  omega
 rw[e0]
 have st:Heap.IsRevIter (s1.heap.push (revObj l ((xs.length:Int) -1 -((0:Nat):Int)))) s1.heap.objs.size l ((xs.length:Int) -1 -((0:Nat):Int)):=⟨_,IH _ rfl,rfl,rfl⟩
 refine wpAny_pyIter_revIter st ?_
 refine⟨s1.heap.objs.size,[s1.heap.objs.size],_,_,H1,rfl,I1.kept (t':=s1.toks) fun b o z=>DL _ z,F7 l _ xs.length,st,fun b hb=>?_,q⟩
 have e:b=s1.heap.objs.size:=by simpa using hb
 subst e
 exact I1.xu (Do _) (I1.hok.fresh (Do _))
end
theorem DV:typeLookup (.type "list_reverseiterator") "__len__"=pure none:=by
 rw[typeLookup_type,builtinLookup_eq_fast]
 kernel_rfl
theorem F8:typeLookup (.type "list_reverseiterator") "__length_hint__"=pure (some (.builtin "list_reverseiterator.__length_hint__")):=by
 rw[typeLookup_type,builtinLookup_eq_fast]
 kernel_rfl
section
variable{prog:Program}{w:World}{A:Around}{E:Value->Shared->Prop}
abbrev JW(xs:Array Value)(c:Nat):Obj:={cls:=.type "list",dict:=none,data:=.seq xs c,slots:= #[]}
theorem JX{s:Shared}{R:Result->Shared->Prop}{J l S:Addr}{vs:Array Value}{res:Value}{c0:Nat}(hh:A.handled=none)(hl:s.heap.IsList l vs)(hJ:s.heap.IsRevIter J l ((vs.size:Int) -1))(nJ:l≠J)(nS:S≠J)(nl:S≠l)(hS:s.heap.get? S=some (JW #[] c0))(hz:vs.size<=sizeLine)
 (hR:∀(s':Shared) (acc:Array Value) (c:Nat),Moved [S,J] (fun a b=>b=a) s s'->s'.heap.get? S=some (JW acc c)->ItemsOf (fun i v=>vs[vs.size -1 -i]?=some v) acc vs.size->R (.ok (.ret res)) s'):
 wpAny (model prog w) A.in1 (Builtin.List.listExtendWith (.ref S) (.ref J) res) (fun fin s'=>match fin with
  |.done f=>R (.ok f) s'
  |.again c'=>c'.quiet=true/\codeAny (model prog w) A c' R s') (fun e s'=>R (.error e) s') s:=by
 have V:=(Walks.listRev (prog:=prog) (w:=w) (A:=A.in1) hh J l nJ vs).toS
 have nf:S∉[J,l]:=fun m=>by
  simp only[Fu,QQ,or_false]at m
  exact m.elim nS nl
 have h0:0<=vs.size/\s.heap.IsRevIter J l ((vs.size:Int) -1 -((0:Nat):Int))/\s.heap.IsList l vs:=⟨NM _,by rw[show(vs.size:Int) -1 -((0:Nat):Int)=(vs.size:Int) -1 by lia];exact hJ,hl⟩
 have e1:Builtin.List.listSameRef (.ref S) (.ref J)=false:=by
  simp[Builtin.List.listSameRef,nS]
 unfold Builtin.List.listExtendWith
 refine FM (wpAny_typeOf hJ.typeIs ?_)
 rw[B1 (by rw[e1];decide)]
 refine FM (wpAny_pyIter_revIter hJ ?_)
 refine FM (cm ?_)
 unfold Builtin.List.listLengthHint
 refine FM (wpAny_specialOf hJ.typeIs DV ?_)
 show wpAny _ A.in1 (specialOf (Value.ref J) (Str.ofString "__length_hint__")>>=_) _ _ _
 refine FM (wpAny_specialOf hJ.typeIs F8 ?_)
 generalize hid:("list_reverseiterator.__length_hint__":String)=id1
 wp_delta
 rw[show splitId id1=some ("list_reverseiterator","__length_hint__")from by subst hid;decide+kernel]
 subst hid
 refine FM (wpAny_isInstance (b:=true) hJ.typeIs (by rw[isSubtype_type];kernel_rfl) ?_)
 refine Kt ?_
 rw[B1 (by decide)]
 refine Kt ⟨plainId_quiet F.plain_extend_loop _,codeAny_extend_loopS V hz _ nf _ vs.size 0 _ _ _ rfl (NM _) h0 hS (ItemsOf.nil _) ?_⟩
 exact hR
theorem sN{s:Shared}{Q:Value->Shared->Prop}{J l:Addr}{vs:Array Value}(hh:A.handled=none)(hl:s.heap.IsList l vs)(hJ:s.heap.IsRevIter J l ((vs.size:Int) -1))(nJ:l≠J)(hz:vs.size<=sizeLine)
 (hQ:∀(h':Heap) (tk:Nat) (acc:Array Value) (c:Nat),(∀b o,b≠J->s.heap.get? b=some o->h'.get? b=some o)->h'.get? s.heap.objs.size=some (JW acc c)->ItemsOf (fun i v=>vs[vs.size -1 -i]?=some v) acc vs.size->Q (.ref s.heap.objs.size) {s with heap:=h',toks:=tk}):
 wpAny (model prog w) A (call (.type "list") [.ref J]) Q E s:=by
 have J1:J<s.heap.objs.size:=let⟨o,h,_⟩:=hJ;FR h
 have l1:l<s.heap.objs.size:=let⟨o,h,_⟩:=hl;FR h
 refine callType_codes (Q₁:=fun u s1=>u=.ref s.heap.objs.size/\s1={s with heap:=s.heap.push (JW #[] 0)}) F.called_list (F.typeCall_list_1 _) F.entry_list_init (code_list_new _ ⟨rfl,rfl⟩) ?_
 rintro u s1 ⟨rfl,rfl⟩
 have g0:(s.heap.push (JW #[] 0)).get? s.heap.objs.size=some (JW #[] 0):=IH _ rfl
 refine⟨⟨_,g0,rfl⟩,F.args_list_init_2 _ _,?_⟩
 show wpAny _ _ (Builtin.List.listItems (.ref s.heap.objs.size)>>=fun old=>Builtin.List.listUpdate (.ref s.heap.objs.size) (fun _=> #[])>>=fun _=>letGo old.toList.reverse>>=fun _=>Builtin.List.listExtendWith (.ref s.heap.objs.size) (.ref J) .none) _ _ _
 refine FM ?_
 unfold Builtin.List.listItems
 refine FM (wpAny_seqItems g0 rfl (Kt ?_))
 show wpAny _ _ (updateSeq s.heap.objs.size (fun _=> #[])>>=fun _=>letGo (#[]:Array Value).toList.reverse>>=fun _=>Builtin.List.listExtendWith (.ref s.heap.objs.size) (.ref J) .none) _ _ _
 refine FM (wpAny_updateSeq g0 rfl ?_)
 have g1:=Heap.get?_update_self (Obj.mapSeq fun _=>(#[]:Array Value)) g0 rfl
 have ot:∀b o,s.heap.get? b=some o->((s.heap.push (JW #[] 0)).update s.heap.objs.size (Obj.mapSeq fun _=>(#[]:Array Value))).get? b=some o:=fun b o z=>
  (Heap.get?_update_other _ _ (Nat.ne_of_gt (FR z))).trans (DL _ z)
 refine FM (wpAny_letGo ?_)
 refine JX (A:=A.in1) (s:={s with heap:=_}) hh (hl.at fun o z=>ot _ o z) (hJ.at fun o z=>ot _ o z) nJ (Nat.ne_of_gt J1) (Nat.ne_of_gt l1) g1 hz fun s' acc c m g it=>⟨rfl,?_⟩
 rw[Moved.eq_with m]
 refine hQ s'.heap s'.toks acc c (fun b o nb z=>m.heap b o (fun hm=>?_) (ot b o z)) g it
 simp only[Fu,QQ,or_false]at hm
 rcases hm with e|e
 ·exact SF _ (e▸FR z)
 ·exact nb e
end
theorem xM{h:Heap}{a:Addr}{o o':Obj}(n:a≠h.objs.size)(e:(h.push o).get? a=some o'):h.get? a=some o':=by
 obtain⟨e1,e2⟩:=Heap.get?_some_iff.mp e
 refine Heap.get?_some_iff.mpr ⟨?_,e2⟩
 cases h
 simpa[Heap.push,Array.getElem?_push,n]using e1
noncomputable def Uu(K:PySem.W.Frag)(ta:TA):TE:=fun σ H Q=>ta σ H fun vs H1=>∃a xs,vs=[.ref a]/\ir K H1 a xs/\∀l,H1 l=none->Q (.ref l) (upd H1 l (.lst xs.reverse))
theorem JY{X:Cx}{a:Expr}{ta:TA}{p p2 pos pos2:Pos}(hc:X.calm=true)(hg:Gl X "list")(hm:X.mg "list"=none)(Xx:Gl X "reversed")(hm2:X.mg "reversed"=none)(ha:PA X [a] ta)(hs:starEach [a] X.env=[(false,eval a X.env)]:=by rfl):
 PE X (.Call (.Name "list" p) [.Call (.Name "reversed" p2) [a] [] pos2] [] pos) (Uu X.K ta):=by
 intro pins s σ H Q I h
 refine UV (gE I hg hm (by rfl) ?_ (by decide) (by decide))
 refine PP ?_ rfl rfl
 show wpAny _ _ (spliced ((false,eval (.Call (.Name "reversed" p2) [a] [] pos2) X.env)::backTo pos (starEach [] X.env))) _ _ s
 refine Calls.spliced_cons ?_
 refine Call_ (gE I Xx hm2 (by rfl) (PP (bE (ha pos2 pins s σ H _ I h) fun us s1 ⟨vs,H1,I1,r1,q1⟩=>?_) hs rfl))
 obtain⟨l,xs,e,hq,q⟩:=q1
 subst e
 obtain⟨u,rfl,ru⟩:=Vals.one r1
 cases(show u=Value.ref l from ru)
 obtain⟨its,rv,pl,hz⟩:=I1.list hq
 have hlen:=rv.length
 obtain⟨ol,hol,_⟩:=id pl.isList
 refine call_reversed_list pl.isList (Calls.spliced_nil ?_)
 have lt:=FR hol
 have I2:Inv X pins σ H1 {s1 with heap:=s1.heap.push (revObj l ((its.toArray.size:Int) -1))}:=I1.kept (t':=s1.toks) fun b o z=>DL _ z
 have f:=I1.xu (H':=H1) (Do _) (I1.hok.fresh (Do _))
 obtain⟨f0,f1,f2,f3,f4,f5⟩:=f
 refine sN (vs:=its.toArray) (I1.ok.hd hc) (pl.isList.at fun o z=>DL _ z) ⟨_,IH _ rfl,rfl,rfl⟩ (Jn lt) (by simp only[Fk]<;>lia) fun h' tk acc c kp g it=>?_
 have ac:acc.toList.toArray=acc:=rfl
 have rl:Vals xs.reverse acc.toList:=by
  have e:acc.toList=its.reverse:=by
   refine de fun i=>?_
   by_cases hi:i<its.length
   ·have h1:=it.2 i
    have l1:i<acc.toList.length:=by
     have:=it.1
     simp at this⊢
     lia
    rw[BM l1]
    have h2:=h1 _ (by rw[←Array.getElem?_toList];exact BM l1)
    rw[List.getElem?_reverse hi]
    simpa using h2.symm
   ·rw[FK (by have:=it.1;simp at this⊢;lia),FK (by rw[T1];lia)]
  rw[e]
  exact Vals.reverse rv
 have J1:=I2.laid (a:=(s1.heap.push (revObj l ((its.toArray.size:Int) -1))).objs.size) (o:=.lst xs.reverse) (h':=(s1.heap.push (revObj l ((its.toArray.size:Int) -1))).push (JW acc c)) (t':=tk) (fun b o z=>DL _ z) (Do _) ⟨by rw[T1];exact hz,acc.toList,c,rl,IH _ rfl⟩
 have f0':upd H1 (s1.heap.push (revObj l ((its.toArray.size:Int) -1))).objs.size (.lst xs.reverse) s1.heap.objs.size=none:=by
  rw[ai (Jn (by simp[Heap.push]))]
  exact f0
 have J2:=J1.turned (t':=tk) (h':=h') (fun b o nb z=>?_) f0' f1 f3 f4 f5
 ·exact⟨.ref _,_,J2,rfl,q _ (I2.hok.fresh (Do _))⟩
 ·by_cases hb:b=(s1.heap.push (revObj l ((its.toArray.size:Int) -1))).objs.size
  ·subst hb
   have e:=IH (s1.heap.push (revObj l ((its.toArray.size:Int) -1))) (o:=JW acc c) rfl
   have e2:=e.symm.trans z
   cases e2
   exact g
  ·refine kp b o nb ?_
   exact xM hb z
end L2
namespace L2
open PySem
variable{r:List Expr}{env:Env}{pos:Pos}
inductive OV:List Expr->List (Int×Int)->Prop where
 |nil:OV [] []
 |cons {a b:Int} {j1 j2 k:Nat} {p1 p2 pos:Pos} {es:List Expr} {qs:List (Int×Int)} (h:OV es qs):OV (.Tuple [.Constant (.int a) j1 p1,.Constant (.int b) j2 p2] k pos::es) ((a,b)::qs)
end L2
namespace L2
open PySem PySem.Spec PyProof.Rows
theorem tW:∀bs:List Bool,PyData.canLayAll0 (bs.map PyData.bool)=true
 |[]=>rfl
 |b::r=>by
  rw[Fn]
  simp[PyData.canLayAll0,PyData.canLay0,tW r]
theorem qh:∀bs:List Bool,PyData.depthAll (bs.map PyData.bool)=0
 |[]=>rfl
 |b::r=>by
  rw[Fn]
  simp[PyData.depthAll,PyData.depth,qh r]
theorem qi:∀bs cs:List Bool,PySem.Spec.sameAll (bs.map PyData.bool) (cs.map PyData.bool)=decide (bs=cs)
 |[],[]=>by simp[sameAll]
 |[],_::_=>by simp[sameAll]
 |_::_,[]=>by simp[sameAll]
 |b::r,c::t=>by
  have ih:=qi r t
  simp only[Fn,sameAll,ih,PySem.Spec.same]
  by_cases h:b=c
  ·subst h;simp
  ·simp[h]
theorem lU(bs:List Bool):SeqAt.shaped (.list (bs.map PyData.bool))=true:=by
 unfold SeqAt.shaped
 simp[PyData.canLay0,PyData.depth,tW,qh]
section
variable{X:Cx}{H:Hp}
theorem qj:∀bs:List Bool,Paired (Dt X H) (bs.map V.bl) (bs.map PyData.bool)
 |[]=>.nil
 |n::r=>.cons (MO n) (qj r)
noncomputable def Uv(K:PySem.W.Frag):R2:=fun x y H Q=>∃(p p':Addr) (ns ms:List Bool),x=.ref p/\y=.ref p'/\ir K H p (ns.map V.bl)/\ir K H p' (ms.map V.bl)/\Q (.bl (decide (ns=ms))) H
theorem JZ(hu:X.A.units+64<cLine):kN X (compareOp .Eq) (Uv X.K):=by
 intro pins s σ H x y v u Q I rx ry h
 obtain⟨p,p',ns,ms,rfl,rfl,h1,h2,q⟩:=h
 have nm:SeqAt.noMix (.list (ns.map PyData.bool)) (.list (ms.map PyData.bool))=true:=SeqAt.noMix_of_shape (.list .bool) rfl _ _ (list_map_has fun _=>rfl) (list_map_has fun _=>rfl)
 refine F6 hu pins s σ H _ _ v u Q I rx ry ⟨_,_,uV h1 (qj ns),uV h2 (qj ms),⟨lU _,lU _,nm⟩,?_⟩
 have e:PySem.Spec.same (.list (ns.map PyData.bool)) (.list (ms.map PyData.bool))=decide (ns=ms):=by
  simp only[PySem.Spec.same]
  exact qi ns ms
 rw[e]
 exact q
end
mutual
noncomputable def aK:PyData->Bool
 |.int _=>true
 |.list xs=>fV xs
 |.tuple xs=>fV xs
 |.none=>false
 |.bool _=>false
 |.str _=>false
 |.dict _=>false
noncomputable def fV:List PyData->Bool
 |[]=>true
 |x::xs=>aK x&&fV xs
end
mutual
theorem F9:∀d:PyData,aK d=true->d.canLay0=true
 |.int _,_=>by simp[PyData.canLay0]
 |.list xs,h=>by rw[aK]at h;rw[PyData.canLay0];exact nG xs h
 |.tuple xs,h=>by rw[aK]at h;rw[PyData.canLay0];exact nG xs h
 |.none,h=>by simp[aK]at h
 |.bool _,h=>by simp[aK]at h
 |.str _,h=>by simp[aK]at h
 |.dict _,h=>by simp[aK]at h
theorem nG:∀xs:List PyData,fV xs=true->PyData.canLayAll0 xs=true
 |[],_=>by simp[PyData.canLayAll0]
 |x::xs,h=>by
  rw[fV,AN]at h
  rw[PyData.canLayAll0,F9 x h.1,nG xs h.2]
  rfl
end
mutual
theorem Ga:∀d e:PyData,aK d=true->aK e=true->SeqAt.noMix d e=true
 |.int _,.int _,_,_=>by simp[SeqAt.noMix]
 |.int _,.list _,_,_=>by simp[SeqAt.noMix]
 |.int _,.tuple _,_,_=>by simp[SeqAt.noMix]
 |.list _,.int _,_,_=>by simp[SeqAt.noMix]
 |.list _,.tuple _,_,_=>by simp[SeqAt.noMix]
 |.tuple _,.int _,_,_=>by simp[SeqAt.noMix]
 |.tuple _,.list _,_,_=>by simp[SeqAt.noMix]
 |.list xs,.list ys,h,h2=>by rw[aK]at h h2;rw[SeqAt.noMix];exact nH xs ys h h2
 |.tuple xs,.tuple ys,h,h2=>by rw[aK]at h h2;rw[SeqAt.noMix];exact nH xs ys h h2
 |.none,_,h,_=>by simp[aK]at h
 |.bool _,_,h,_=>by simp[aK]at h
 |.str _,_,h,_=>by simp[aK]at h
 |.dict _,_,h,_=>by simp[aK]at h
 |.int _,.none,_,h=>by simp[aK]at h
 |.int _,.bool _,_,h=>by simp[aK]at h
 |.int _,.str _,_,h=>by simp[aK]at h
 |.int _,.dict _,_,h=>by simp[aK]at h
 |.list _,.none,_,h=>by simp[aK]at h
 |.list _,.bool _,_,h=>by simp[aK]at h
 |.list _,.str _,_,h=>by simp[aK]at h
 |.list _,.dict _,_,h=>by simp[aK]at h
 |.tuple _,.none,_,h=>by simp[aK]at h
 |.tuple _,.bool _,_,h=>by simp[aK]at h
 |.tuple _,.str _,_,h=>by simp[aK]at h
 |.tuple _,.dict _,_,h=>by simp[aK]at h
theorem nH:∀xs ys:List PyData,fV xs=true->fV ys=true->SeqAt.noMixAll xs ys=true
 |[],[],_,_=>by simp[SeqAt.noMixAll]
 |[],_::_,_,_=>by simp[SeqAt.noMixAll]
 |_::_,[],_,_=>by simp[SeqAt.noMixAll]
 |x::xs,y::ys,h,h2=>by
  rw[fV,AN]at h h2
  rw[SeqAt.noMixAll,Ga x y h.1 h2.1,nH xs ys h.2 h2.2]
  rfl
end
mutual
theorem DW:∀d e:PyData,aK d=true->aK e=true->(same d e=true↔d=e)
 |.int a,.int b,_,_=>by simp[same]
 |.int _,.list _,_,_=>by simp[same]
 |.int _,.tuple _,_,_=>by simp[same]
 |.list _,.int _,_,_=>by simp[same]
 |.list _,.tuple _,_,_=>by simp[same]
 |.tuple _,.int _,_,_=>by simp[same]
 |.tuple _,.list _,_,_=>by simp[same]
 |.list xs,.list ys,h,h2=>by rw[aK]at h h2;rw[same,kT xs ys h h2,PyData.list.injEq]
 |.tuple xs,.tuple ys,h,h2=>by rw[aK]at h h2;rw[same,kT xs ys h h2,PyData.tuple.injEq]
 |.none,_,h,_=>by simp[aK]at h
 |.bool _,_,h,_=>by simp[aK]at h
 |.str _,_,h,_=>by simp[aK]at h
 |.dict _,_,h,_=>by simp[aK]at h
 |.int _,.none,_,h=>by simp[aK]at h
 |.int _,.bool _,_,h=>by simp[aK]at h
 |.int _,.str _,_,h=>by simp[aK]at h
 |.int _,.dict _,_,h=>by simp[aK]at h
 |.list _,.none,_,h=>by simp[aK]at h
 |.list _,.bool _,_,h=>by simp[aK]at h
 |.list _,.str _,_,h=>by simp[aK]at h
 |.list _,.dict _,_,h=>by simp[aK]at h
 |.tuple _,.none,_,h=>by simp[aK]at h
 |.tuple _,.bool _,_,h=>by simp[aK]at h
 |.tuple _,.str _,_,h=>by simp[aK]at h
 |.tuple _,.dict _,_,h=>by simp[aK]at h
theorem kT:∀xs ys:List PyData,fV xs=true->fV ys=true->(sameAll xs ys=true↔xs=ys)
 |[],[],_,_=>by simp[sameAll]
 |[],_::_,_,_=>by simp[sameAll]
 |_::_,[],_,_=>by simp[sameAll]
 |x::xs,y::ys,h,h2=>by
  rw[fV,AN]at h h2
  rw[sameAll,AN,DW x y h.1 h2.1,kT xs ys h.2 h2.2,List.cons.injEq]
end
section
variable{X:Cx}
end
theorem xN{xs:List PyData}{n:Nat}(h:∀x∈xs,x.depth<=n):PyData.depthAll xs<=n:=by
 induction xs with
 |nil=>simp[PyData.depthAll]
 |cons x xs ih=>
  rw[PyData.depthAll]
  have:=h x (DD ..)
  have:=ih fun y hy=>h y (Bn _ hy)
  lia
end L2
namespace VL
open PySem PySem.Spec PyProof.Rows L2
theorem ff{C:Prop}(h:false=true):C:=Bool.noConfusion h
theorem nn{α:Type}{a:α}{C:Prop}(h:none=some a):C:=Option.noConfusion rfl (heq_of_eq h)
inductive W where
 |aU|bl (b:Bool)|int (i:Int)|str (x:Str)|ty (n:String)|cls (C:Addr)|err (C:Addr)
 |tup (l:List W)|lst (l:List W)|dct (ks vs:List W)|obj (C:Addr) (fs:List Str) (vs:List W)|gy (ns:List Int)
noncomputable def E5:HO->Bool
 |.lst _|.ins _ _ _|.dK _|.dT _|.set _ _=>true
 |_=>false
noncomputable def Xy:Key->W
 |.inl i=>.int i
 |.inr x=>.str x
noncomputable def Af(K:PySem.W.Frag)(C:Addr)(fs:List Str):Prop:=Jy K C/\fs.length<1000/\fs.Nodup/\∀x∈fs,kO K C x
mutual
noncomputable def Rep(K:PySem.W.Frag)(A:Addr->Prop)(H:Hp):W->V->Prop
 |.aU,v=>v=.aU
 |.bl b,v=>v=.bl b
 |.int i,v=>v=.int i
 |.str x,v=>v=.str x
 |.ty n,v=>v=.ty n
 |.cls C,v=>v=.ref C
 |.err C,v=>∃a,v=.ref a/\H a=some (DJ a C)/\¬A a
 |.tup l,v=>∃p vs,v=.ref p/\H p=some (.tup vs)/\aj K A H l vs
 |.lst l,v=>∃p vs,v=.ref p/\¬A p/\Rd H p (.lst vs)/\aj K A H l vs
 |.dct ks ws,v=>∃p kvs,v=.ref p/\¬A p/\H p=some (.dK kvs)/\ks=kvs.map (fun x=>Xy x.1)/\aj K A H ws (kvs.map (·.2))
 |.obj C fs ws,v=>∃p dx vs,v=.ref p/\¬A p/\H p=some (.ins C dx (fs.zip vs))/\vs.length=fs.length/\Af K C fs/\aj K A H ws vs
 |.gy ns,v=>∃p,v=.ref p/\((∃o,H p=some (.xr o (.lst (ns.map V.int))))\/ir K (fun _=>none) p (ns.map V.int))
noncomputable def aj(K:PySem.W.Frag)(A:Addr->Prop)(H:Hp):List W->List V->Prop
 |[],vs=>vs=[]
 |w::ws,vs=>∃v r,vs=v::r/\Rep K A H w v/\aj K A H ws r
end
section
variable{K:PySem.W.Frag}{A B:Addr->Prop}{H H':Hp}
theorem ay.rd{p:Addr}{u:HO}(s:ay H H')(h:Rd H p u):Rd H' p u:=by
 rcases h with h|⟨o,h⟩
 ·exact .inl (s _ _ h)
 ·exact .inr ⟨o,s _ _ h⟩
noncomputable def xj(B:Addr->Prop)(H H':Hp):Prop:=∀p o,H p=some o->(E5 o=true/\B p)\/H' p=some o
theorem xj.un{p:Addr}{o:HO}(h:xj A H H')(e:H p=some o)(n:E5 o=true->¬A p):H' p=some o:=by
 rcases h p o e with⟨z,y⟩|z
 ·exact(n z y).elim
 ·exact z
mutual
theorem Rep.chg(h:xj A H H')(ha:∀p o,H p=some o->B p->A p):∀(w:W) {v:V},Rep K A H w v->Rep K B H' w v
 |.aU,_,r=>by rw[Rep]at r⊢;exact r
 |.bl _,_,r=>by rw[Rep]at r⊢;exact r
 |.int _,_,r=>by rw[Rep]at r⊢;exact r
 |.str _,_,r=>by rw[Rep]at r⊢;exact r
 |.ty _,_,r=>by rw[Rep]at r⊢;exact r
 |.cls _,_,r=>by rw[Rep]at r⊢;exact r
 |.err C,v,r=>by
  rw[Rep]at r⊢
  obtain⟨a,e,h1,h2⟩:=r
  exact⟨a,e,h.un h1 (fun z=>by cases z),fun z=>h2 (ha a _ h1 z)⟩
 |.tup l,v,r=>by
  rw[Rep]at r⊢
  obtain⟨p,vs,e,h1,h2⟩:=r
  exact⟨p,vs,e,h.un h1 (fun z=>by cases z),aj.chg h ha l h2⟩
 |.lst l,v,r=>by
  rw[Rep]at r⊢
  obtain⟨p,vs,e,n,h1,h2⟩:=r
  refine⟨p,vs,e,fun z=>?_,?_,aj.chg h ha l h2⟩
  ·rcases h1 with h1|⟨o,h1⟩<;>exact n (ha p _ h1 z)
  ·rcases h1 with h1|⟨o,h1⟩
   ·exact .inl (h.un h1 fun _=>n)
   ·exact .inr ⟨o,h.un h1 fun z=>by cases z⟩
 |.dct ks ws,v,r=>by
  rw[Rep]at r⊢
  obtain⟨p,kvs,e,n,h1,h2,h3⟩:=r
  exact⟨p,kvs,e,fun z=>n (ha p _ h1 z),h.un h1 fun _=>n,h2,aj.chg h ha ws h3⟩
 |.obj C fs ws,v,r=>by
  rw[Rep]at r⊢
  obtain⟨p,dx,vs,e,n,h1,h2,hc,h3⟩:=r
  exact⟨p,dx,vs,e,fun z=>n (ha p _ h1 z),h.un h1 fun _=>n,h2,hc,aj.chg h ha ws h3⟩
 |.gy ns,v,r=>by
  rw[Rep]at r⊢
  obtain⟨p,e,h1⟩:=r
  exact⟨p,e,h1.imp (by rintro⟨o,z⟩;exact⟨o,h.un z fun z=>by cases z⟩) id⟩
theorem aj.chg(h:xj A H H')(ha:∀p o,H p=some o->B p->A p):∀(l:List W) {vs:List V},aj K A H l vs->aj K B H' l vs
 |[],_,r=>by rw[aj]at r⊢;exact r
 |w::l,vs,r=>by
  rw[aj]at r⊢
  obtain⟨v,r',e,h1,h2⟩:=r
  exact⟨v,r',e,Rep.chg h ha w h1,aj.chg h ha l h2⟩
end
theorem xj.same(s:ay H H'):xj A H H':=fun _ _ e=>.inr (s _ _ e)
theorem xj.put{p:Addr}{o0 o:HO}(hp:H p=some o0)(hm:E5 o0=true)(hA:A p):xj A H (upd H p o):=fun q u e=>by
 by_cases n:q=p
 ·subst n
  rw[hp]at e
  cases e
  exact .inl ⟨hm,hA⟩
 ·exact .inr (by rw[ai n];exact e)
theorem Rep.mv(s:ay H H')(ha:∀p o,H p=some o->B p->A p)(w:W){v:V}(h:Rep K A H w v):Rep K B H' w v:=Rep.chg (.same s) ha w h
theorem aj.mv(s:ay H H')(ha:∀p o,H p=some o->B p->A p)(l:List W){vs:List V}(h:aj K A H l vs):aj K B H' l vs:=aj.chg (.same s) ha l h
theorem Rep.same{w:W}{v:V}(s:ay H H')(h:Rep K A H w v):Rep K A H' w v:=Rep.mv s (fun _ _ _ z=>z) w h
theorem aj.same{l:List W}{vs:List V}(s:ay H H')(h:aj K A H l vs):aj K A H' l vs:=aj.mv s (fun _ _ _ z=>z) l h
theorem Rep.less{w:W}{v:V}(ha:∀p,B p->A p)(h:Rep K A H w v):Rep K B H w v:=Rep.mv (ay.refl H) (fun p _ _ z=>ha p z) w h
theorem aj.less{l:List W}{vs:List V}(ha:∀p,B p->A p)(h:aj K A H l vs):aj K B H l vs:=aj.mv (ay.refl H) (fun p _ _ z=>ha p z) l h
theorem aj.put{p:Addr}{xs:List V}{o:HO}(hp:H p=some (.lst xs))(hA:A p)(l:List W){vs:List V}(h:aj K A H l vs):aj K A (upd H p o) l vs:=aj.chg (.put hp rfl hA) (fun _ _ _ z=>z) l h
theorem aj.nil:aj K A H [] []:=by rw[aj]
theorem aj.cons{w:W}{v:V}{l:List W}{vs:List V}(h1:Rep K A H w v)(h2:aj K A H l vs):aj K A H (w::l) (v::vs):=by rw[aj];exact⟨v,vs,rfl,h1,h2⟩
theorem aj.nil_inv{vs:List V}(h:aj K A H [] vs):vs=[]:=by rw[aj]at h;exact h
theorem aj.cons_inv{w:W}{l:List W}{vs:List V}(h:aj K A H (w::l) vs):∃v r,vs=v::r/\Rep K A H w v/\aj K A H l r:=by rw[aj]at h;exact h
theorem aj.len:∀{l:List W} {vs:List V},aj K A H l vs->vs.length=l.length
 |[],vs,h=>by rw[h.nil_inv];rfl
 |w::l,vs,h=>by
  obtain⟨v,r,rfl,_,h2⟩:=h.cons_inv
  rw[List.length_cons,List.length_cons,h2.len]
theorem aj.app:∀{l m:List W} {vs us:List V},aj K A H l vs->aj K A H m us->aj K A H (l++m) (vs++us)
 |[],m,vs,us,h,k=>by rw[h.nil_inv];exact k
 |w::l,m,vs,us,h,k=>by
  obtain⟨v,r,rfl,h1,h2⟩:=h.cons_inv
  exact .cons h1 (h2.app k)
theorem aj.get:∀{l:List W} {vs:List V} {i:Nat} {w:W},aj K A H l vs->l[i]?=some w->∃v,vs[i]?=some v/\Rep K A H w v
 |[],_,_,_,_,e=>by simp at e
 |x::l,vs,0,w,h,e=>by
  obtain⟨v,r,rfl,h1,h2⟩:=h.cons_inv
  simp at e
  subst e
  exact⟨v,rfl,h1⟩
 |x::l,vs,i+1,w,h,e=>by
  obtain⟨v,r,rfl,h1,h2⟩:=h.cons_inv
  obtain⟨u,e2,h3⟩:=h2.get (i:=i) (by simpa using e)
  exact⟨u,by simpa using e2,h3⟩
theorem aj.set:∀{l:List W} {vs:List V} {i:Nat} {w:W} {v:V},aj K A H l vs->Rep K A H w v->aj K A H (l.set i w) (vs.set i v)
 |[],_,_,_,_,h,_=>by rw[h.nil_inv];exact .nil
 |x::l,vs,0,w,v,h,e=>by
  obtain⟨v',r,rfl,h1,h2⟩:=h.cons_inv
  exact .cons e h2
 |x::l,vs,i+1,w,v,h,e=>by
  obtain⟨v',r,rfl,h1,h2⟩:=h.cons_inv
  exact .cons h1 (h2.set e)
theorem aj.take:∀{l:List W} {vs:List V} (n:Nat),aj K A H l vs->aj K A H (l.take n) (vs.take n)
 |_,_,0,_=>.nil
 |[],vs,n+1,h=>by rw[h.nil_inv];exact .nil
 |x::l,vs,n+1,h=>by
  obtain⟨v',r,rfl,h1,h2⟩:=h.cons_inv
  exact .cons h1 (h2.take n)
theorem aj.drop:∀{l:List W} {vs:List V} (n:Nat),aj K A H l vs->aj K A H (l.drop n) (vs.drop n)
 |_,_,0,h=>h
 |[],vs,n+1,h=>by rw[h.nil_inv];exact .nil
 |x::l,vs,n+1,h=>by
  obtain⟨v',r,rfl,h1,h2⟩:=h.cons_inv
  exact h2.drop n
theorem aj.dropLast{l:List W}{vs:List V}(h:aj K A H l vs):aj K A H l.dropLast vs.dropLast:=by
 rw[List.dropLast_eq_take,List.dropLast_eq_take,h.len]
 exact h.take _
theorem aj.rev:∀{l:List W} {vs:List V},aj K A H l vs->aj K A H l.reverse vs.reverse
 |[],vs,h=>by rw[h.nil_inv];exact .nil
 |x::l,vs,h=>by
  obtain⟨v',r,rfl,h1,h2⟩:=h.cons_inv
  rw[dE,dE]
  exact h2.rev.app (.cons h1 .nil)
theorem aj.rep{l:List W}{vs:List V}(h:aj K A H l vs):∀n:Nat,aj K A H (List.replicate n l).flatten (List.replicate n vs).flatten
 |0=>.nil
 |n+1=>by
  rw[List.replicate_succ,List.replicate_succ,List.flatten_cons,List.flatten_cons]
  exact h.app (h.rep n)
theorem aj.ints{ns:List Int}:∀{vs:List V},aj K A H (ns.map W.int) vs->vs=ns.map V.int:=by
 induction ns with
 |nil=>intro vs h;exact h.nil_inv
 |cons n ns ih=>
  intro vs h
  obtain⟨v,r,rfl,h1,h2⟩:=h.cons_inv
  rw[Rep]at h1
  rw[h1,ih h2]
  rfl
theorem aj.J0(ns:List Int):aj K A H (ns.map W.int) (ns.map V.int):=by
 induction ns with
 |nil=>exact .nil
 |cons n ns ih=>exact .cons (by rw[Rep]) ih
theorem aj.bls{bs:List Bool}:∀{vs:List V},aj K A H (bs.map W.bl) vs->vs=bs.map V.bl:=by
 induction bs with
 |nil=>intro vs h;exact h.nil_inv
 |cons n ns ih=>
  intro vs h
  obtain⟨v,r,rfl,h1,h2⟩:=h.cons_inv
  rw[Rep]at h1
  rw[h1,ih h2]
  rfl
end
end VL
namespace VL
open PySem PySem.Spec
open PyProof.Rows hiding St
open L2
inductive Md where
 |s|f|t (ms:List Md)|o (fs:List Str) (ms:List Md)
 |io (m:Md)
mutual
noncomputable def Fp(K:PySem.W.Frag)(B:Addr->Prop)(H:Hp):Md->W->V->List Addr->Prop
 |.s,w,v,F=>F=[]/\Rep K B H w v
 |.f,w,v,F=>∃ws p vs,w=.lst ws/\v=.ref p/\F=[p]/\H p=some (.lst vs)/\aj K B H ws vs
 |.t ms,w,v,F=>∃ws p vs,w=.tup ws/\v=.ref p/\H p=some (.tup vs)/\dY K B H ms ws vs F
 |.o fs ms,w,v,F=>∃C dx ws p vs F',w=.obj C fs ws/\v=.ref p/\F=p::F'/\H p=some (.ins C dx (fs.zip vs))/\vs.length=fs.length/\Af K C fs/\dY K B H ms ws vs F'
 |.io _,_,_,_=>False
noncomputable def dY(K:PySem.W.Frag)(B:Addr->Prop)(H:Hp):List Md->List W->List V->List Addr->Prop
 |[],ws,vs,F=>ws=[]/\vs=[]/\F=[]
 |m::ms,ws,vs,F=>∃w oA v vs' F1 F2,ws=w::oA/\vs=v::vs'/\F=F1++F2/\Fp K B H m w v F1/\dY K B H ms oA vs' F2
end
noncomputable def sO(B G:Addr->Prop)(H H':Hp):Prop:=∀p o,H p=some o->(E5 o=true/\B p/\¬G p)\/H' p=some o
section
variable{K:PySem.W.Frag}{A B G:Addr->Prop}{H H':Hp}
theorem sO.c(h:sO A G H H'):xj A H H':=fun p o e=>(h p o e).imp (fun z=>⟨z.1,z.2.1⟩) id
theorem sO.un{p:Addr}{o:HO}(h:sO A G H H')(e:H p=some o)(g:E5 o=true->G p):H' p=some o:=by
 rcases h p o e with⟨z,_,y⟩|z
 ·exact(y (g z)).elim
 ·exact z
mutual
theorem Fp.chg(h:sO A G H H')(ha:∀p o,H p=some o->B p->A p):∀(m:Md) {w:W} {v:V} {F:List Addr},(∀p∈F,G p)->Fp K A H m w v F->Fp K B H' m w v F
 |.s,w,v,F,hF,r=>by
  rw[Fp]at r⊢
  exact⟨r.1,Rep.chg h.c ha w r.2⟩
 |.f,w,v,F,hF,r=>by
  rw[Fp]at r⊢
  obtain⟨ws,p,vs,e1,e2,e3,h1,h2⟩:=r
  exact⟨ws,p,vs,e1,e2,e3,h.un h1 (fun _=>hF p (by rw[e3];exact DD)),aj.chg h.c ha ws h2⟩
 |.t ms,w,v,F,hF,r=>by
  rw[Fp]at r⊢
  obtain⟨ws,p,vs,e1,e2,h1,h2⟩:=r
  exact⟨ws,p,vs,e1,e2,h.un h1 (fun z=>by cases z),dY.chg h ha ms hF h2⟩
 |.o fs ms,w,v,F,hF,r=>by
  rw[Fp]at r⊢
  obtain⟨C,dx,ws,p,vs,F',e1,e2,e3,h1,h2,hc,h3⟩:=r
  exact⟨C,dx,ws,p,vs,F',e1,e2,e3,h.un h1 (fun _=>hF p (by rw[e3];exact DD)),h2,hc,dY.chg h ha ms (fun q hq=>hF q (by rw[e3];exact Bn _ hq)) h3⟩
 |.io _,w,v,F,hF,r=>by rw[Fp]at r;exact r.elim
theorem dY.chg(h:sO A G H H')(ha:∀p o,H p=some o->B p->A p):∀(ms:List Md) {ws:List W} {vs:List V} {F:List Addr},(∀p∈F,G p)->dY K A H ms ws vs F->dY K B H' ms ws vs F
 |[],_,_,_,_,r=>by rw[dY]at r⊢;exact r
 |m::ms,ws,vs,F,hF,r=>by
  rw[dY]at r⊢
  obtain⟨w,oA,v,vs',F1,F2,e1,e2,e3,h1,h2⟩:=r
  exact⟨w,oA,v,vs',F1,F2,e1,e2,e3,Fp.chg h ha m (fun p hp=>hF p (by rw[e3];exact PH _ hp)) h1,dY.chg h ha ms (fun p hp=>hF p (by rw[e3];exact GT _ hp)) h2⟩
end
theorem sO.same(s:ay H H'):sO A (fun _=>True) H H':=fun _ _ e=>.inr (s _ _ e)
theorem Fp.mv(s:ay H H')(ha:∀p o,H p=some o->B p->A p)(m:Md){w:W}{v:V}{F:List Addr}(h:Fp K A H m w v F):Fp K B H' m w v F:=Fp.chg (.same s) ha m (fun _ _=>trivial) h
theorem dY.mv(s:ay H H')(ha:∀p o,H p=some o->B p->A p)(ms:List Md){w:List W}{v:List V}{F:List Addr}(h:dY K A H ms w v F):dY K B H' ms w v F:=dY.chg (.same s) ha ms (fun _ _=>trivial) h
mutual
theorem Fp.rep(hb:∀p,B p->A p):∀(m:Md) {w:W} {v:V} {F:List Addr},(∀p∈F,¬B p)->Fp K A H m w v F->Rep K B H w v
 |.s,w,v,F,hf,h=>by
  rw[Fp]at h
  exact h.2.less hb
 |.f,w,v,F,hf,h=>by
  rw[Fp]at h
  obtain⟨ws,p,vs,rfl,rfl,rfl,h1,h2⟩:=h
  rw[Rep]
  exact⟨p,vs,rfl,hf p (Fh.mpr rfl),.inl h1,h2.less hb⟩
 |.t ms,w,v,F,hf,h=>by
  rw[Fp]at h
  obtain⟨ws,p,vs,rfl,rfl,h1,h2⟩:=h
  rw[Rep]
  exact⟨p,vs,rfl,h1,dY.rep hb ms hf h2⟩
 |.o fs ms,w,v,F,hf,h=>by
  rw[Fp]at h
  obtain⟨C,dx,ws,p,vs,F',rfl,rfl,rfl,h1,h2,hc,h3⟩:=h
  rw[Rep]
  exact⟨p,dx,vs,rfl,hf p DD,h1,h2,hc,dY.rep hb ms (fun q hq=>hf q (Bn _ hq)) h3⟩
 |.io _,w,v,F,hf,h=>by rw[Fp]at h;exact h.elim
theorem dY.rep(hb:∀p,B p->A p):∀(ms:List Md) {ws:List W} {vs:List V} {F:List Addr},(∀p∈F,¬B p)->dY K A H ms ws vs F->aj K B H ws vs
 |[],_,_,_,_,h=>by
  rw[dY]at h
  obtain⟨rfl,rfl,_⟩:=h
  exact .nil
 |m::ms,ws,vs,F,hf,h=>by
  rw[dY]at h
  obtain⟨w,oA,v,vs',F1,F2,rfl,rfl,rfl,h1,h2⟩:=h
  exact .cons (Fp.rep hb m (fun p hp=>hf p (PH _ hp)) h1) (dY.rep hb ms (fun p hp=>hf p (GT _ hp)) h2)
end
mutual
theorem Fp.mu:∀(m:Md) {w:W} {v:V} {F:List Addr},Fp K A H m w v F->∀p∈F,∃o,H p=some o/\E5 o=true
 |.s,w,v,F,h,p,hp=>by
  rw[Fp]at h
  rw[h.1]at hp
  cases hp
 |.f,w,v,F,h,p,hp=>by
  rw[Fp]at h
  obtain⟨ws,q,vs,_,_,rfl,h1,_⟩:=h
  rw[Fh.mp hp]
  exact⟨_,h1,rfl⟩
 |.t ms,w,v,F,h,p,hp=>by
  rw[Fp]at h
  obtain⟨ws,q,vs,_,_,h1,h2⟩:=h
  exact dY.mu ms h2 p hp
 |.o fs ms,w,v,F,h,p,hp=>by
  rw[Fp]at h
  obtain⟨C,dx,ws,q,vs,F',_,_,rfl,h1,_,_,h3⟩:=h
  rcases Fu.mp hp with rfl|hp
  ·exact⟨_,h1,rfl⟩
  ·exact dY.mu ms h3 p hp
 |.io _,w,v,F,h,p,hp=>by rw[Fp]at h;exact h.elim
theorem dY.mu:∀(ms:List Md) {ws:List W} {vs:List V} {F:List Addr},dY K A H ms ws vs F->∀p∈F,∃o,H p=some o/\E5 o=true
 |[],_,_,_,h,p,hp=>by
  rw[dY]at h
  rw[h.2.2]at hp
  cases hp
 |m::ms,ws,vs,F,h,p,hp=>by
  rw[dY]at h
  obtain⟨w,oA,v,vs',F1,F2,_,_,rfl,h1,h2⟩:=h
  rcases GM.mp hp with hp|hp
  ·exact Fp.mu m h1 p hp
  ·exact dY.mu ms h2 p hp
end
inductive nI where
 |ix (n:Nat)|fl (n:Nat) (x:Str)
noncomputable def cJ:W->List nI->Option W
 |w,[]=>some w
 |.tup l,.ix n::π=>match l[n]? with
  |some u=>cJ u π
  |none=>none
 |.obj _ _ l,.fl n _::π=>match l[n]? with
  |some u=>cJ u π
  |none=>none
 |_,_=>none
noncomputable def setAt:W->List nI->W->W
 |_,[],u=>u
 |.tup l,.ix n::π,u=>match l[n]? with
  |some x=>.tup (l.set n (setAt x π u))
  |none=>.tup l
 |.obj C fs l,.fl n _::π,u=>match l[n]? with
  |some x=>.obj C fs (l.set n (setAt x π u))
  |none=>.obj C fs l
 |w,_,_=>w
noncomputable def kU:Md->List nI->Option Md
 |m,[]=>some m
 |.t ms,.ix n::π=>match ms[n]? with
  |some m=>kU m π
  |none=>none
 |.o fs ms,.fl n x::π=>if fs[n]?=some x then(match ms[n]? with
  |some m=>kU m π
  |none=>none)else none
 |_,_=>none
noncomputable def xm(K:PySem.W.Frag)(H:Hp):V->List nI->V->Prop
 |v,[],u=>u=v
 |v,.ix n::π,u=>∃p vs x,v=.ref p/\H p=some (.tup vs)/\vs[n]?=some x/\xm K H x π u
 |v,.fl n f::π,u=>∃p vs x,v=.ref p/\(∃(C dx:Addr) (fs:List Str),H p=some (.ins C dx (fs.zip vs))/\vs.length=fs.length/\Af K C fs/\fs[n]?=some f)/\vs[n]?=some x/\xm K H x π u
theorem qk{α:Type}:∀{l:List α} {n:Nat} {x:α},l[n]?=some x->l.set n x=l
 |[],_,_,e=>by cases e
 |y::l,0,x,e=>by cases e;rfl
 |y::l,n+1,x,e=>by rw[List.set_cons_succ,qk (by simpa using e)]
theorem dY.at:∀(ms:List Md) {ws:List W} {vs:List V} {F:List Addr} {n:Nat} {m:Md} {w:W},dY K A H ms ws vs F->ms[n]?=some m->ws[n]?=some w->
 ∃v F1 F' F2,vs[n]?=some v/\F=F1++F'++F2/\Fp K A H m w v F'/\∀(H':Hp) (B:Addr->Prop) w' v' zE,Fp K B H' m w' v' zE->sO A (·∈F1++F2) H H'->(∀p o,H p=some o->B p->A p)->dY K B H' ms (ws.set n w') (vs.set n v') (F1++zE++F2)
 |[],_,_,_,n,m,w,_,e,_=>by cases e
 |m0::ms,ws,vs,F,0,m,w,h,e1,e2=>by
  rw[dY]at h
  obtain⟨w0,oA,v,vs',F1,F2,rfl,rfl,rfl,h1,h2⟩:=h
  cases e1
  cases e2
  refine⟨v,[],F1,F2,rfl,by simp,h1,fun H' B w' v' zE h' hc ha=>?_⟩
  rw[dY]
  exact⟨w',oA,v',vs',zE,F2,rfl,rfl,by simp,h',dY.chg hc ha ms (fun p hp=>by simpa using hp) h2⟩
 |m0::ms,ws,vs,F,n+1,m,w,h,e1,e2=>by
  rw[dY]at h
  obtain⟨w0,oA,v,vs',F1,F2,rfl,rfl,rfl,h1,h2⟩:=h
  obtain⟨u,G1,G',G2,q1,rfl,q3,q4⟩:=dY.at ms h2 (n:=n) (by simpa using e1) (by simpa using e2)
  refine⟨u,F1++G1,G',G2,by simpa using q1,by simp,q3,fun H' B w' v' zE h' hc ha=>?_⟩
  rw[dY]
  refine⟨w0,oA.set n w',v,vs'.set n v',F1,G1++zE++G2,rfl,rfl,by simp,Fp.chg hc ha m0 (fun p hp=>by simp[hp]) h1,q4 H' B w' v' zE h' (fun p o e=>(hc p o e).imp (fun⟨a,b,c⟩=>⟨a,b,fun z=>c ?_⟩) id) ha⟩
  rcases GM.mp z with z|z<;>simp[z]
noncomputable def Pth(K:PySem.W.Frag)(A:Addr->Prop)(H:Hp)(m:Md)(w:W)(v:V)(F:List Addr)(π:List nI)(m':Md)(w':W):Prop:=
 ∃v' F1 F' F2,F=F1++F'++F2/\xm K H v π v'/\Fp K A H m' w' v' F'/\∀(H':Hp) (B:Addr->Prop) w'' zE,Fp K B H' m' w'' v' zE->sO A (·∈F1++F2) H H'->(∀p o,H p=some o->B p->A p)->Fp K B H' m (setAt w π w'') v (F1++zE++F2)
theorem Fp.path:∀(π:List nI) (m:Md) {w:W} {v:V} {F:List Addr} {m':Md} {w':W},Fp K A H m w v F->kU m π=some m'->cJ w π=some w'->Pth K A H m w v F π m' w'
 |[],m,w,v,F,m',w',h,e1,e2=>by
  rw[kU]at e1
  rw[cJ]at e2
  cases e1
  cases e2
  refine⟨v,[],F,[],by simp,rfl,h,fun H' B w'' zE h' _ _=>?_⟩
  rw[setAt]
  simpa using h'
 |n::π,.s,w,v,F,m',w',h,e1,e2=>by cases n<;>exact nn e1
 |n::π,.f,w,v,F,m',w',h,e1,e2=>by cases n<;>exact nn e1
 |n::π,.io _,w,v,F,m',w',h,e1,e2=>by cases n<;>exact nn e1
 |.fl n _::π,.t ms,w,v,F,m',w',h,e1,e2=>by cases e1
 |.ix n::π,.o fs ms,w,v,F,m',w',h,e1,e2=>by cases e1
 |.ix n::π,.t ms,w,v,F,m',w',h,e1,e2=>by
  rw[Fp]at h
  obtain⟨ws,p,vs,rfl,rfl,h1,h2⟩:=h
  rw[kU]at e1
  rw[cJ]at e2
  cases em:ms[n]? with
  |none=>rw[em]at e1;exact nn e1
  |some m1=>
   cases ew:ws[n]? with
   |none=>rw[ew]at e2;exact nn e2
   |some w1=>
    rw[em]at e1
    rw[ew]at e2
    obtain⟨v1,F1,F',F2,q1,rfl,q3,q4⟩:=dY.at ms h2 em ew
    obtain⟨v',G1,G',G2,rfl,r2,r3,r4⟩:=Fp.path π m1 q3 e1 e2
    refine⟨v',F1++G1,G',G2++F2,by simp,⟨p,vs,v1,rfl,h1,q1,r2⟩,r3,fun H' B w'' zE h' hc ha=>?_⟩
    rw[setAt,ew,Fp]
    have a:=q4 H' B _ v1 _ (r4 H' B w'' zE h' (fun p o e=>(hc p o e).imp (by rintro⟨a,b,c⟩;exact⟨a,b,fun z=>c (by rcases GM.mp z with z|z<;>simp[z])⟩) id) ha) (fun p o e=>(hc p o e).imp (by rintro⟨a,b,c⟩;exact⟨a,b,fun z=>c (by rcases GM.mp z with z|z<;>simp[z])⟩) id) ha
    rw[qk q1]at a
    refine⟨_,p,vs,rfl,rfl,hc.un h1 (fun z=>by cases z),?_⟩
    simpa using a
 |.fl n f::π,.o fs ms,w,v,F,m',w',h,e1,e2=>by
  rw[Fp]at h
  obtain⟨C,dx,ws,p,vs,F0,rfl,rfl,rfl,h1,hl,hcl,h2⟩:=h
  rw[kU]at e1
  rw[cJ]at e2
  by_cases hf:fs[n]?=some f
  rotate_left
  ·rw[B1 hf]at e1
   cases e1
  rw[Bi hf]at e1
  cases em:ms[n]? with
  |none=>rw[em]at e1;exact nn e1
  |some m1=>
   cases ew:ws[n]? with
   |none=>rw[ew]at e2;exact nn e2
   |some w1=>
    rw[em]at e1
    rw[ew]at e2
    obtain⟨v1,F1,F',F2,q1,rfl,q3,q4⟩:=dY.at ms h2 em ew
    obtain⟨v',G1,G',G2,rfl,r2,r3,r4⟩:=Fp.path π m1 q3 e1 e2
    refine⟨v',p::F1++G1,G',G2++F2,by simp,⟨p,vs,v1,rfl,⟨C,dx,fs,h1,hl,hcl,hf⟩,q1,r2⟩,r3,fun H' B w'' zE h' hc ha=>?_⟩
    rw[setAt,ew,Fp]
    have a:=q4 H' B _ v1 _ (r4 H' B w'' zE h' (fun p o e=>(hc p o e).imp (by rintro⟨a,b,c⟩;exact⟨a,b,fun z=>c (by rcases GM.mp z with z|z<;>simp[z])⟩) id) ha) (fun p o e=>(hc p o e).imp (by rintro⟨a,b,c⟩;exact⟨a,b,fun z=>c (by rcases GM.mp z with z|z<;>simp[z])⟩) id) ha
    rw[qk q1]at a
    refine⟨C,dx,_,p,vs,F1++(G1++zE++G2)++F2,rfl,rfl,by simp,hc.un h1 (fun _=>by simp),hl,hcl,a⟩
end
noncomputable def eO(K:PySem.W.Frag)(A:Addr->Prop)(H H':Hp)(m:Md)(w:W)(v:V):Prop:=
 ∃F:List Addr,F.Nodup/\(∀p∈F,H p=none)/\Fp K (fun q=>A q\/q∈F) H' m w v F
noncomputable def Dom(A:Addr->Prop)(H:Hp):Prop:=∀p,A p->∃o,H p=some o
theorem Dom.no{A:Addr->Prop}{H:Hp}(d:Dom A H){p:Addr}(h:H p=none):¬A p:=fun z=>by
 obtain⟨o,e⟩:=d p z
 rw[h]at e
 cases e
theorem Dom.same{A:Addr->Prop}{H H':Hp}(d:Dom A H)(s:ay H H'):Dom A H':=fun p z=>by
 obtain⟨o,e⟩:=d p z
 exact⟨o,s _ _ e⟩
section
variable{K:PySem.W.Frag}{A B:Addr->Prop}{H H':Hp}{m:Md}{w:W}{v:V}
theorem eO.rep(d:Dom A H)(h:eO K A H H' m w v):Rep K A H' w v:=by
 obtain⟨F,nd,nw,h⟩:=h
 exact Fp.rep (fun p z=>.inl z) m (fun p hp=>d.no (nw p hp)) h
theorem eO.of(h:Rep K A H' w v):eO K A H H' .s w v:=⟨[],List.nodup_nil,by simp,by rw[Fp];exact⟨rfl,h.less fun p z=>by simpa using z⟩⟩
theorem eO.s(d:Dom A H)(h:eO K A H H' m w v):eO K A H H' .s w v:=.of (h.rep d)
theorem eO.new{ws:List W}{p:Addr}{vs:List V}(hp:H p=none)(h1:H' p=some (.lst vs))(h2:aj K A H' ws vs)(hn:aj K (fun q=>A q\/q=p) H' ws vs):eO K A H H' .f (.lst ws) (.ref p):=
 ⟨[p],(by simp),(by simpa using hp),by rw[Fp];exact⟨ws,p,vs,rfl,rfl,rfl,h1,hn.less fun q z=>by simpa using z⟩⟩
theorem eO.fresh{ws:List W}{p:Addr}{vs:List V}{H1:Hp}(s:ay H H1)(hp:H1 p=none)(h:aj K A H1 ws vs):eO K A H (upd H1 p (.lst vs)) .f (.lst ws) (.ref p):=by
 have sm:=aL hp (.lst vs)
 refine .new (s.free hp) aD (h.same sm) (aj.mv sm (fun q o z y=>?_) ws h)
 rcases y with y|y
 ·exact y
 ·rw[y,hp]at z
  cases z
theorem eO.Uw(h:eO K A H H' .f w v):∃ws p vs,w=.lst ws/\v=.ref p/\H p=none/\H' p=some (.lst vs)/\aj K (fun q=>A q\/q=p) H' ws vs:=by
 obtain⟨F,nd,nw,h⟩:=h
 rw[Fp]at h
 obtain⟨ws,p,vs,rfl,rfl,rfl,h1,h2⟩:=h
 exact⟨ws,p,vs,rfl,rfl,nw p (Fh.mpr rfl),h1,h2.less fun q z=>by simpa using z⟩
theorem eO.back{H0:Hp}(s:ay H0 H)(hb:∀p,B p->A p)(h:eO K A H H' m w v):eO K B H0 H' m w v:=by
 obtain⟨F,nd,nw,h⟩:=h
 exact⟨F,nd,fun p hp=>s.free (nw p hp),Fp.mv (ay.refl _) (fun p o _ z=>z.imp (hb p) id) m h⟩
end
abbrev Ev:=List (Option W)
noncomputable def look:Ev->Nat->Option W
 |[],_=>none
 |x::_,0=>x
 |_::l,n+1=>look l n
theorem bz:∀{ε:Ev} {i:Nat} {w:W},look ε i=some w↔ε[i]?=some (some w)
 |[],i,w=>by simp[look]
 |x::l,0,w=>by simp[look]
 |x::l,i+1,w=>by rw[look,bz];simp
abbrev Ms:=List (Nat×Md)
noncomputable def aX(M:Ms)(i:Nat):Prop:=∃m,(i,m)∈M
structure Fz where
 ab:Addr->Prop
 B:Addr->Prop
 s0:Option V
abbrev FB(A:Fz)(M:Ms)(σ:St):Addr->Prop:=A.B
structure Sy(K:PySem.W.Frag)(M:Ms)(A:Fz)(H0:Hp)(σ:St)(H:Hp)(ε:Ev)(F:Nat->List Addr):Prop where
 un:∀i m m',(i,m)∈M->(i,m')∈M->m=m'
 val:∀i m w,(i,m)∈M->look ε i=some w->∃v,σ[i]?=some (some v)/\Fp K A.B H m w v (F i)
 emp:∀i,aX M i->look ε i=none->F i=[]
 nd:∀i,aX M i->(F i).Nodup
 ds:∀i j p,aX M i->aX M j->p∈F i->p∈F j->i=j
 nw:∀i p,aX M i->p∈F i->H0 p=none
 na:∀i p,aX M i->p∈F i->¬A.ab p
 all:∀p,A.B p↔A.ab p\/∃i,aX M i/\p∈F i
structure SR(K:PySem.W.Frag)(M:Ms)(A:Fz)(H0:Hp)(σ:St)(H:Hp)(ε:Ev):Prop where
 len:σ.length=ε.length
 sh:∀i w,¬aX M i->look ε i=some w->∃v,σ[i]?=some (some v)/\Rep K A.B H w v
 sm:ay H0 H
 dm:Dom A.ab H
 sl:∀v,A.s0=some v->σ[0]?=some (some v)/\aX M 0
 ow:∃F,Sy K M A H0 σ H ε F
theorem aV{ε:Ev}{i j:Nat}{x:Option W}(h:i≠j):look (ε.set i x) j=look ε j:=by
 cases e:look ε j with
 |none=>
  cases e2:look (ε.set i x) j with
  |none=>rfl
  |some w=>
   rw[bz,Kx h,←bz,e]at e2
   cases e2
 |some w=>
  rw[bz,Kx h,←bz]
  exact e
theorem lV{ε:Ev}{i:Nat}{w w':W}(h:look (ε.set i (some w)) i=some w'):w'=w:=by
 rw[bz,Ya]at h
 rw[Bi rfl]at h
 split at h
 ·cases h
  rfl
 ·cases h
theorem uW{ε:Ev}{i:Nat}{w:W}(h:look ε i=some w):i<ε.length:=by
 rw[bz]at h
 exact(Fs.mp h).1
section
variable{K:PySem.W.Frag}{M M':Ms}{A:Fz}{H0 H H1:Hp}{σ:St}{ε:Ev}{F:Nat->List Addr}
theorem Sy.has(O:Sy K M A H0 σ H ε F){i:Nat}{p:Addr}(hi:aX M i)(hp:p∈F i):∃o,H p=some o/\E5 o=true:=by
 cases hl:look ε i with
 |none=>
  rw[O.emp i hi hl]at hp
  cases hp
 |some w=>
  obtain⟨m,hm⟩:=hi
  obtain⟨v,_,h⟩:=O.val i m w hm hl
  exact Fp.mu m h p hp
theorem SR.dom(S:SR K M A H0 σ H ε):Dom A.B H:=fun p z=>by
 obtain⟨F,O⟩:=S.ow
 rcases(O.all p).mp z with z|⟨i,hi,hp⟩
 ·exact S.dm p z
 ·obtain⟨o,e,_⟩:=O.has hi hp
  exact⟨o,e⟩
theorem SR.sub'(S:SR K M A H0 σ H ε):∀p,A.ab p->A.B p:=fun p z=>by
 obtain⟨F,O⟩:=S.ow
 exact(O.all p).mpr (.inl z)
theorem SR.same(S:SR K M A H0 σ H ε)(s:ay H H1):SR K M A H0 σ H1 ε:=by
 obtain⟨F,O⟩:=S.ow
 exact⟨S.len,fun i w hi e=>let⟨v,h1,h2⟩:=S.sh i w hi e;⟨v,h1,h2.same s⟩,S.sm.trans s,S.dm.same s,S.sl,F,
  ⟨O.un,fun i m w hm e=>let⟨v,h1,h2⟩:=O.val i m w hm e;⟨v,h1,Fp.mv s (fun _ _ _ z=>z) m h2⟩,O.emp,O.nd,O.ds,O.nw,O.na,O.all⟩⟩
theorem SR.sub(S:SR K M A H0 σ H ε)(h:∀x∈M',x∈M)(z0:Option V)(hz:∀v,z0=some v->A.s0=some v/\aX M' 0):∃A',A'.ab=A.ab/\A'.s0=z0/\(∀p,A'.B p->A.B p)/\SR K M' A' H0 σ H ε:=by
 obtain⟨F,O⟩:=S.ow
 have hh:∀i,aX M' i->aX M i:=by rintro i ⟨m,hm⟩;exact⟨m,h _ hm⟩
 have hb:∀p,(A.ab p\/∃i,aX M' i/\p∈F i)->A.B p:=fun p z=>(O.all p).mpr (z.imp id<|by rintro⟨i,hi,hp⟩;exact⟨i,hh i hi,hp⟩)
 refine⟨⟨A.ab,fun p=>A.ab p\/∃i,aX M' i/\p∈F i,z0⟩,rfl,rfl,hb,S.len,fun i w hi' e=>?_,S.sm,S.dm,fun v e=>⟨(S.sl v (hz v e).1).1,(hz v e).2⟩,F,⟨fun i m m' a b=>O.un i m m' (h _ a) (h _ b),fun i m w hm e=>?_,fun i hi=>O.emp i (hh i hi),fun i hi=>O.nd i (hh i hi),fun i j p hi hj=>O.ds i j p (hh i hi) (hh j hj),fun i p hi=>O.nw i p (hh i hi),fun i p hi=>O.na i p (hh i hi),fun p=>Iff.rfl⟩⟩
 ·by_cases hi:aX M i
  ·have hi0:=hi
   obtain⟨m,hm⟩:=hi
   obtain⟨v,h1,h2⟩:=O.val i m w hm e
   refine⟨v,h1,Fp.rep hb m (fun p hp z=>?_) h2⟩
   rcases z with z|⟨j,hj,J3⟩
   ·exact O.na i p hi0 hp z
   ·have:=O.ds i j p hi0 (hh j hj) hp J3
    subst this
    exact hi' hj
  ·obtain⟨v,h1,h2⟩:=S.sh i w hi e
   exact⟨v,h1,h2.less hb⟩
 ·obtain⟨v,h1,h2⟩:=O.val i m w (h _ hm) e
  exact⟨v,h1,Fp.mv (ay.refl _) (fun p _ _ z=>hb p z) m h2⟩
theorem SR.go(S:SR K M A H0 σ H ε):SR K [] ⟨A.ab,A.ab,none⟩ H0 σ H ε:=by
 obtain⟨A',e1,e0,e2,S'⟩:=S.sub (M':=[]) (fun x hx=>by cases hx) none (fun v e=>by cases e)
 obtain⟨F,O⟩:=S'.ow
 have e:∀p,A'.B p↔A.ab p:=fun p=>by
  rw[O.all p,e1]
  exact⟨fun z=>z.elim id (by rintro⟨i,⟨m,hm⟩,_⟩;cases hm),.inl⟩
 have:A'.B=A.ab:=funext fun p=>propext (e p)
 have:A'=⟨A.ab,A.ab,none⟩:=by
  cases A'
  simp only at e1 e0 this
  rw[e1,this,e0]
 rw[←this]
 exact S'
theorem SR.set(S:SR K M A H0 σ H ε){i:Nat}{w:W}{v:V}(hi:¬aX M i)(h:Rep K A.B H w v):SR K M A H0 (σ.set i (some v)) H (ε.set i (some w)):=by
 obtain⟨F,O⟩:=S.ow
 refine⟨by rw[NA,NA];exact S.len,fun j w' hj e=>?_,S.sm,S.dm,fun u e=>?_,F,⟨O.un,fun j m w' hm e=>?_,fun j hj e=>?_,O.nd,O.ds,O.nw,O.na,O.all⟩⟩
 ·by_cases ne:i=j
  ·subst ne
   have hl:i<σ.length:=by
    rw[S.len]
    have:=uW e
    rwa [NA]at this
   have:=lV e
   subst this
   exact⟨v,Pt hl,h⟩
  ·rw[aV ne]at e
   obtain⟨u,h1,h2⟩:=S.sh j w' hj e
   exact⟨u,by rw[Kx ne];exact h1,h2⟩
 ·obtain⟨h1,h2⟩:=S.sl u e
  exact⟨by rw[Kx (by rintro rfl;exact hi h2)];exact h1,h2⟩
 ·have ne:i≠j:=by rintro rfl;exact hi ⟨m,hm⟩
  rw[aV ne]at e
  obtain⟨u,h1,h2⟩:=O.val j m w' hm e
  exact⟨u,by rw[Kx ne];exact h1,h2⟩
 ·have ne:i≠j:=by rintro rfl;exact hi hj
  rw[aV ne]at e
  exact O.emp j hj e
theorem SR.own(S:SR K M' A H0 σ H ε){i:Nat}{m:Md}{w:W}{v:V}(hM:∀x,x∈M↔x=(i,m)\/x∈M')(hi:¬aX M' i)(s:ay H H1)(h:eO K A.B H H1 m w v):
 ∃A',A'.ab=A.ab/\A'.s0=A.s0/\(∀p o,H p=some o->A'.B p->A.B p)/\SR K M A' H0 (σ.set i (some v)) H1 (ε.set i (some w)):=by
 obtain⟨F,O⟩:=S.ow
 obtain⟨G,nd,nw,fp⟩:∃G:List Addr,G.Nodup/\(∀p∈G,H p=none)/\(i<ε.length->Fp K (fun q=>A.B q\/q∈G) H1 m w v G)/\(ε.length<=i->G=[]):=by
  by_cases hil:i<ε.length
  ·obtain⟨G,nd,nw,fp⟩:=h
   exact⟨G,nd,nw,fun _=>fp,fun z=>by lia⟩
  ·exact⟨[],List.nodup_nil,by simp,fun z=>(hil z).elim,fun _=>rfl⟩
 have hm:∀j,aX M j↔j=i\/aX M' j:=fun j=>by
  constructor
  ·rintro⟨m',h'⟩
   rcases(hM _).mp h' with e|e
   ·cases e
    exact .inl rfl
   ·exact .inr ⟨m',e⟩
  ·rintro(rfl|⟨m',h'⟩)
   ·exact⟨m,(hM _).mpr (.inl rfl)⟩
   ·exact⟨m',(hM _).mpr (.inr h')⟩
 have ne:∀j,aX M' j->j≠i:=fun j hj e=>by subst e;exact hi hj
 have old:∀j p,aX M' j->p∈F j->p∉G:=fun j p hj hp z=>by
  obtain⟨o,e,_⟩:=O.has hj hp
  rw[nw p z]at e
  cases e
 have ba:∀p o,H p=some o->(A.B p\/p∈G)->A.B p:=fun p o e z=>by
  rcases z with z|z
  ·exact z
  ·rw[nw p z]at e
   cases e
 refine⟨⟨A.ab,fun p=>A.B p\/p∈G,A.s0⟩,rfl,rfl,ba,by rw[NA,NA];exact S.len,fun j w' hj e=>?_,S.sm.trans s,S.dm.same s,fun u e=>?_,fun j=>if j=i then G else F j,⟨fun j m1 m2 a b=>?_,fun j m' w' hj e=>?_,fun j hj e=>?_,fun j hj=>?_,fun j k p hj hk a b=>?_,fun j p hj hp=>?_,fun j p hj hp=>?_,fun p=>?_⟩⟩
 ·have hj2:j≠i/\¬aX M' j:=⟨fun z=>hj ((hm j).mpr (.inl z)),fun z=>hj ((hm j).mpr (.inr z))⟩
  rw[aV (Qb hj2.1)]at e
  obtain⟨u,h1,h2⟩:=S.sh j w' hj2.2 e
  exact⟨u,by rw[Kx (Qb hj2.1)];exact h1,Rep.mv s ba w' h2⟩
 ·obtain⟨h1,h2⟩:=S.sl u e
  exact⟨by rw[Kx (Qb (ne 0 h2))];exact h1,(hm 0).mpr (.inr h2)⟩
 ·rcases(hM _).mp a with a|a
  ·rcases(hM _).mp b with b|b
   ·cases a
    cases b
    rfl
   ·cases a
    exact(hi ⟨_,b⟩).elim
  ·rcases(hM _).mp b with b|b
   ·cases b
    exact(hi ⟨_,a⟩).elim
   ·exact O.un j m1 m2 a b
 ·rcases(hM _).mp hj with a|a
  ·cases a
   have hil:i<ε.length:=by have:=uW e;rwa [NA]at this
   have:=lV e
   subst this
   exact⟨v,Pt (by rw[S.len];exact hil),by rw[Bi rfl];exact fp.1 hil⟩
  ·have n:=ne j ⟨m',a⟩
   rw[aV (Qb n)]at e
   obtain⟨u,h1,h2⟩:=O.val j m' w' a e
   exact⟨u,by rw[Kx (Qb n)];exact h1,by rw[B1 n];exact Fp.mv s ba m' h2⟩
 ·by_cases n:j=i
  ·subst n
   rw[Bi rfl]
   refine fp.2 (Nat.le_of_not_lt fun hil=>?_)
   have:look (ε.set j (some w)) j=some w:=by rw[bz];exact Pt hil
   rw[this]at e
   cases e
  ·rw[aV (Qb n)]at e
   rw[B1 n]
   exact O.emp j (((hm j).mp hj).resolve_left n) e
 ·by_cases n:j=i
  ·rw[Bi n]
   exact nd
  ·rw[B1 n]
   exact O.nd j (((hm j).mp hj).resolve_left n)
 ·by_cases n1:j=i
  ·by_cases n2:k=i
   ·rw[n1,n2]
   ·rw[Bi n1]at a
    rw[B1 n2]at b
    exact(old k p (((hm k).mp hk).resolve_left n2) b a).elim
  ·by_cases n2:k=i
   ·rw[B1 n1]at a
    rw[Bi n2]at b
    exact(old j p (((hm j).mp hj).resolve_left n1) a b).elim
   ·rw[B1 n1]at a
    rw[B1 n2]at b
    exact O.ds j k p (((hm j).mp hj).resolve_left n1) (((hm k).mp hk).resolve_left n2) a b
 ·by_cases n:j=i
  ·rw[Bi n]at hp
   exact S.sm.free (nw p hp)
  ·rw[B1 n]at hp
   exact O.nw j p (((hm j).mp hj).resolve_left n) hp
 ·by_cases n:j=i
  ·rw[Bi n]at hp
   exact S.dm.no (nw p hp)
  ·rw[B1 n]at hp
   exact O.na j p (((hm j).mp hj).resolve_left n) hp
 ·constructor
  ·rintro(z|z)
   ·rcases(O.all p).mp z with z|⟨j,hj,hp⟩
    ·exact .inl z
    ·exact .inr ⟨j,(hm j).mpr (.inr hj),by rw[B1 (ne j hj)];exact hp⟩
   ·exact .inr ⟨i,(hm i).mpr (.inl rfl),by rw[Bi rfl];exact z⟩
  ·rintro(z|⟨j,hj,hp⟩)
   ·exact .inl ((O.all p).mpr (.inl z))
   ·by_cases n:j=i
    ·rw[Bi n]at hp
     exact .inr hp
    ·rw[B1 n]at hp
     exact .inl ((O.all p).mpr (.inr ⟨j,((hm j).mp hj).resolve_left n,hp⟩))
theorem Sy.chg(S:SR K M A H0 σ H ε)(O:Sy K M A H0 σ H ε F){i:Nat}{m:Md}{w w':W}{v:V}{F':List Addr}(hi:(i,m)∈M)(hl:look ε i=some w)(hv:σ[i]?=some (some v))
 (hc:∀p o,H p=some o->(E5 o=true/\p∈F i)\/H1 p=some o) (nd:F'.Nodup) (nw:∀p∈F',p∈F i\/H p=none) (h:Fp K (fun p=>(A.B p/\p∉F i)\/p∈F') H1 m w' v F'):
 ∃A',A'.ab=A.ab/\A'.s0=A.s0/\(∀p,A'.B p↔(A.B p/\p∉F i)\/p∈F')/\(∀p o,H p=some o->A'.B p->A.B p)/\xj A.B H H1/\SR K M A' H0 σ H1 (ε.set i (some w')):=by
 have hhi:aX M i:=⟨m,hi⟩
 have OB:∀p,p∈F i->A.B p:=fun p hp=>(O.all p).mpr (.inr ⟨i,hhi,hp⟩)
 have cB:xj A.B H H1:=fun p o e=>(hc p o e).imp (fun z=>⟨z.1,OB p z.2⟩) id
 have ba:∀p o,H p=some o->((A.B p/\p∉F i)\/p∈F')->A.B p:=fun p o e z=>by
  rcases z with z|z
  ·exact z.1
  ·rcases nw p z with z|z
   ·exact OB p z
   ·rw[z]at e
    cases e
 have Wj:∀j p,aX M j->j≠i->p∈F j->p∉F i/\p∉F':=fun j p hj n hp=>by
  have a:p∉F i:=fun z=>n (O.ds j i p hj hhi hp z)
  refine⟨a,fun z=>?_⟩
  rcases nw p z with z|z
  ·exact a z
  ·obtain⟨o,e,_⟩:=O.has hj hp
   rw[z]at e
   cases e
 refine⟨⟨A.ab,fun p=>(A.B p/\p∉F i)\/p∈F',A.s0⟩,rfl,rfl,fun _=>Iff.rfl,ba,cB,by rw[NA];exact S.len,fun j w'' hj e=>?_,fun p o e=>?_,fun p z=>?_,S.sl,fun j=>if j=i then F' else F j,⟨O.un,fun j m' w'' hj e=>?_,fun j hj e=>?_,fun j hj=>?_,fun j k p hj hk a b=>?_,fun j p hj hp=>?_,fun j p hj hp=>?_,fun p=>?_⟩⟩
 ·have n:i≠j:=by rintro rfl;exact hj hhi
  rw[aV n]at e
  obtain⟨u,h1,h2⟩:=S.sh j w'' hj e
  exact⟨u,h1,Rep.chg cB ba w'' h2⟩
 ·rcases hc p o (S.sm p o e)with⟨_,z⟩|z
  ·rw[O.nw i p hhi z]at e
   cases e
  ·exact z
 ·obtain⟨o,e⟩:=S.dm p z
  rcases hc p o e with⟨_,y⟩|y
  ·exact(O.na i p hhi y z).elim
  ·exact⟨o,y⟩
 ·by_cases n:j=i
  ·subst n
   have em:=O.un j m m' hi hj
   subst em
   have:=lV e
   subst this
   exact⟨v,hv,by rw[Bi rfl];exact h⟩
  ·rw[aV (Qb n)]at e
   obtain⟨u,h1,h2⟩:=O.val j m' w'' hj e
   refine⟨u,h1,?_⟩
   rw[B1 n]
   refine Fp.chg (G:=fun p=>p∈F j) (fun p o e=>?_) ba m' (fun p hp=>hp) h2
   rcases hc p o e with⟨z,y⟩|z
   ·exact .inl ⟨z,OB p y,fun q=>(Wj j p ⟨m',hj⟩ n q).1 y⟩
   ·exact .inr z
 ·by_cases n:j=i
  ·subst n
   have:look (ε.set j (some w')) j=some w':=by rw[bz];exact Pt (uW hl)
   rw[this]at e
   cases e
  ·rw[aV (Qb n)]at e
   rw[B1 n]
   exact O.emp j hj e
 ·by_cases n:j=i
  ·rw[Bi n]
   exact nd
  ·rw[B1 n]
   exact O.nd j hj
 ·by_cases n1:j=i
  ·by_cases n2:k=i
   ·rw[n1,n2]
   ·rw[Bi n1]at a
    rw[B1 n2]at b
    exact((Wj k p hk n2 b).2 a).elim
  ·by_cases n2:k=i
   ·rw[B1 n1]at a
    rw[Bi n2]at b
    exact((Wj j p hj n1 a).2 b).elim
   ·rw[B1 n1]at a
    rw[B1 n2]at b
    exact O.ds j k p hj hk a b
 ·by_cases n:j=i
  ·rw[Bi n]at hp
   rcases nw p hp with z|z
   ·exact O.nw i p hhi z
   ·exact S.sm.free z
  ·rw[B1 n]at hp
   exact O.nw j p hj hp
 ·by_cases n:j=i
  ·rw[Bi n]at hp
   rcases nw p hp with z|z
   ·exact O.na i p hhi z
   ·exact S.dm.no z
  ·rw[B1 n]at hp
   exact O.na j p hj hp
 ·constructor
  ·rintro(⟨z,y⟩|z)
   ·rcases(O.all p).mp z with z|⟨j,hj,hp⟩
    ·exact .inl z
    ·have n:j≠i:=by rintro rfl;exact y hp
     exact .inr ⟨j,hj,by rw[B1 n];exact hp⟩
   ·exact .inr ⟨i,hhi,by rw[Bi rfl];exact z⟩
  ·rintro(z|⟨j,hj,hp⟩)
   ·exact .inl ⟨(O.all p).mpr (.inl z),fun y=>O.na i p hhi y z⟩
   ·by_cases n:j=i
    ·rw[Bi n]at hp
     exact .inr hp
    ·rw[B1 n]at hp
     exact .inl ⟨(O.all p).mpr (.inr ⟨j,hj,hp⟩),(Wj j p hj n hp).1⟩
end
inductive BI where
 |len|abs|max2|min2|sum|all|any|list|tuple|BB|int
 deriving DecidableEq
inductive CE where
 |var (i:Nat)|int (i:Int)|bl (b:Bool)|str (x:Str)|aU|E6 (n:String)|glob (g:Nat)
 |bin (op:Operator) (a b:CE)|neg (a:CE)|not (a:CE)
 |cmp (op:CmpOp) (a b:CE)
 |and (as:List CE)|or (as:List CE)|ite (c a b:CE)
 |tup (as:List CE)|lst (as:List CE)
 |ix (a i:CE)|sl (a lo hi:CE)
 |call (f:Nat) (as:List CE)|blt (b:BI) (as:List CE)|bits (a:CE)
 |comp (ts:List Nat) (one:Bool) (n:Nat) (it:CE) (c:CE) (e:CE)
 |jn (as:List CE)|uX (a:CE)|rev (a:CE)
 |pop (i:Nat)
 |own (i:Nat) (π:List nI)|Jb (i g f:Nat) (as:List CE)
 |OW (f:Nat) (a:CE) (as:List CE)
inductive CS where
 |set (i:Nat) (e:CE)|Gb (ts:List Nat) (e:CE)|par (ts:List Nat) (es:List CE)
 |app (i:Nat) (e:CE)|put (i:Nat) (k e:CE)|drop (i:Nat)|Ag (j:Nat) (e:CE)
 |ret (e:CE)|iff (c:CE) (a b:List CS)|E7 (c:CE) (b:List CS)
 |fr (ts:List Nat) (one:Bool) (it:CE) (b:List CS)
 |brk|raise (c:Nat) (e:CE)
 |DX (i n:Nat) (e:CE)
 |Jc (e:CE)|Ux (e:CE)
 |qm|Uy (ts:List Nat) (e:CE)
noncomputable def Uz:W->W->(W->Prop)->Prop
 |.int i,.int j,Q=>Q (.int (i+j))
 |.lst a,.lst b,Q=>a.length+b.length<=sizeLine/\Q (.lst (a++b))
 |.tup a,.tup b,Q=>a≠[]/\a.length+b.length<=sizeLine/\Q (.tup (a++b))
 |.str a,.str b,Q=>a.length+b.length<=sizeLine/\Q (.str (a++b))
 |_,_,_=>False
noncomputable def UA:W->W->(W->Prop)->Prop
 |.int i,.int j,Q=>IntMulOk i j/\Q (.int (i*j))
 |.lst a,.int k,Q=> -(2^63)<=k/\k<2^63/\a.length*k.toNat<=sizeLine/\Q (.lst (List.replicate k.toNat a).flatten)
 |_,_,_=>False
noncomputable def Sz(C:Int->Int->Prop)(g:Int->Int->Int):W->W->(W->Prop)->Prop
 |.int i,.int j,Q=>C i j/\Q (.int (g i j))
 |_,_,_=>False
noncomputable def UB:W->W->(W->Prop)->Prop
 |.int i,.int j,Q=>Q (.int (i -j))
 |_,_,_=>False
noncomputable def fW:Operator->W->W->(W->Prop)->Prop
 |.Add=>Uz
 |.Sub=>UB
 |.Mult=>UA
 |.FloorDiv=>Sz Bx fun i j=>i.fdiv j
 |.Mod=>Sz (fun _ j=>j≠0) fun i j=>i.fmod j
 |.Pow=>Sz sJ fun i j=>i^j.toNat
 |.LShift=>Sz sJ fun i j=>i*2^j.toNat
 |.RShift=>Sz (fun _ j=>0<=j) fun i j=>i/2^j.toNat
 |_=>fun _ _ _=>False
noncomputable def dS:Nat->W->Bool
 |_,.int _=>true
 |_,.str x=>PyData.strOk x
 |_,.aU=>true
 |n+1,.lst l=>l.all (dS n)
 |n+1,.tup l=>l.all (dS n)
 |_,_=>false
noncomputable def gA:Nat->W->Bool
 |_,.bl _=>true
 |_,.str x=>PyData.strOk x
 |_,.aU=>true
 |n+1,.lst l=>l.all (gA n)
 |n+1,.tup l=>l.all (gA n)
 |_,_=>false
noncomputable def Xz(ne:Bool):W->W->(W->Prop)->Prop
 |.int i,.int j,Q=>Q (.bl (if ne then !decide (i=j)else decide (i=j)))
 |.str i,.str j,Q=>Q (.bl (if ne then !decide (i=j)else decide (i=j)))
 |.bl i,.bl j,Q=>Q (.bl (if ne then !decide (i=j)else decide (i=j)))
 |x,y,Q=>((dS 9 x=true/\dS 9 y=true)\/(gA 9 x=true/\gA 9 y=true))/\∀b:Bool,(b=true↔x=y)->Q (.bl (if ne then !b else b))
noncomputable def Gd(p:Int->Int->Bool):W->W->(W->Prop)->Prop
 |.int i,.int j,Q=>Q (.bl (p i j))
 |_,_,_=>False
noncomputable def XA(ne:Bool):W->W->(W->Prop)->Prop
 |.aU,.aU,Q=>Q (.bl (!ne))
 |.bl _,.aU,Q=>Q (.bl ne)
 |.int _,.aU,Q=>Q (.bl ne)
 |.str _,.aU,Q=>Q (.bl ne)
 |.lst _,.aU,Q=>Q (.bl ne)
 |.tup _,.aU,Q=>Q (.bl ne)
 |.err _,.aU,Q=>Q (.bl ne)
 |_,_,_=>False
noncomputable def eT:CmpOp->W->W->(W->Prop)->Prop
 |.Eq=>Xz false
 |.NotEq=>Xz true
 |.Lt=>Gd fun i j=>decide (i<j)
 |.LtE=>Gd fun i j=>decide (i<=j)
 |.Gt=>Gd fun i j=>decide (j<i)
 |.GtE=>Gd fun i j=>decide (j<=i)
 |.Is=>XA false
 |.IsNot=>XA true
 |_=>fun _ _ _=>False
noncomputable def Ge:W->W->(W->Prop)->Prop
 |.lst l,.int i,Q=>∃w,kP l i=some w/\Q w
 |.tup l,.int i,Q=>∃w,kP l i=some w/\Q w
 |.gy ns,.int i,Q=>∃n,kP ns i=some n/\Q (.int n)
 |_,_,_=>False
noncomputable def nK(l:List W)(lo hi:Option Int):List W:=(l.drop (HT.sL l.length 0 lo)).take (HT.sL l.length l.length hi -HT.sL l.length 0 lo)
noncomputable def j9:CE->Bool
 |.aU=>true
 |_=>false
noncomputable def prI:W->(Option Int->Prop)->Prop
 |.int i,Q=>Q (some i)
 |_,_=>False
noncomputable def J5(c:CE)(y:W)(Q:Option Int->Prop):Prop:=cond (j9 c) (Q none) (prI y Q)
noncomputable def Wk:W->Option Int->Option Int->(W->Prop)->Prop
 |.lst l,lo,hi,Q=>Q (.lst (nK l lo hi))
 |.gy ns,lo,hi,Q=>Q (.lst (nK (ns.map W.int) lo hi))
 |_,_,_,_=>False
noncomputable def Zf:W->Option String
 |.aU=>some "NoneType"
 |.bl _=>some "bool"
 |.int _=>some "int"
 |.str _=>some "str"
 |.lst _=>some "list"
 |.tup _=>some "tuple"
 |_=>none
noncomputable def DY(a b:String):Bool:=a==b||(a=="bool"&&b=="int")
noncomputable def qo:BI->List W->(W->Prop)->Prop
 |.len,[.lst l],Q=>Q (.int l.length)
 |.len,[.tup l],Q=>Q (.int l.length)
 |.len,[.gy ns],Q=>Q (.int ns.length)
 |.abs,[.int i],Q=>Q (.int (if i<0 then-i else i))
 |.max2,[.int i,.int j],Q=>Q (.int (if j>i then j else i))
 |.min2,[.int i,.int j],Q=>Q (.int (if j<i then j else i))
 |.sum,[.lst l],Q=>∃ns:List Int,l=ns.map W.int/\Q (.int ns.sum)
 |.all,[.lst l],Q=>∃bs:List Bool,l=bs.map W.bl/\Q (.bl (bs.all id))
 |.list,[.lst l],Q=>Q (.lst l)
 |.list,[.tup l],Q=>Q (.lst l)
 |.tuple,[.lst l],Q=>Q (.tup l)
 |.tuple,[.tup l],Q=>Q (.tup l)
 |.BB,[w,.ty n],Q=>∃a,Zf w=some a/\Q (.bl (DY a n))
 |.int,[.bl b],Q=>Q (.int (if b then 1 else 0))
 |_,_,_=>False
noncomputable def bO(ε:Ev):List Nat->List W->Ev
 |i::is,w::ws=>bO (ε.set i (some w)) is ws
 |_,_=>ε
noncomputable def wT(one:Bool)(ts:List Nat)(w:W)(ε:Ev)(Q:Ev->Prop):Prop:=
 match one,ts,w with
 |true,[i],w=>Q (ε.set i (some w))
 |false,ts,.tup l=>l.length=ts.length/\Q (bO ε ts l)
 |_,_,_=>False
noncomputable def kW(f:W->(Option W->Prop)->Prop):List W->List W->(List W->Prop)->Prop
 |[],acc,Q=>Q acc
 |w::ws,acc,Q=>f w fun r=>match r with
  |some y=>acc.length<sizeLine/\kW f ws (acc++[y]) Q
  |none=>kW f ws acc Q
noncomputable def truth:W->(Bool->Prop)->Prop
 |.bl b,Q=>Q b
 |_,_=>False
noncomputable def items:W->(List W->Prop)->Prop
 |.lst l,Q=>Q l
 |.tup l,Q=>Q l
 |_,_=>False
noncomputable def eU(lo st:Int)(n:Nat):List W:=(List.range n).map fun(i:Nat)=>W.int (lo+(i:Int)*st)
noncomputable def Gf:List W->(List W->Prop)->Prop
 |[.int j],Q=> -(2^62)<=j/\j<2^62/\Q (eU 0 1 j.toNat)
 |[.int i,.int j],Q=>(-(2^62)<=i/\i<2^62/\-(2^62)<=j/\j<2^62)/\Q (eU i 1 (j -i).toNat)
 |[.int i,.int j,.int k],Q=>∃n:Nat,(k≠0/\k.natAbs<1073741824/\Builtin.Range.small i j k=true/\Builtin.Range.rangeSize i j k=(n:Int))/\Q (eU i k n)
 |_,_=>False
noncomputable def jc(l:List W):List W:=List.zipWith (fun(i:Nat) w=>W.tup [.int i,w]) (List.range l.length) l
abbrev bT:=List W->(W->Prop)->(Addr->Prop)->Prop
section
variable(Φ:Nat->bT)(G:Nat->W)
mutual
noncomputable def wE(R:Addr->Prop):CE->Ev->(W->Prop)->Prop
 |.var i,ε,Q=>match look ε i with
  |some w=>Q w
  |none=>False
 |.int i,_,Q=>Q (.int i)
 |.bl b,_,Q=>Q (.bl b)
 |.str x,_,Q=>Q (.str x)
 |.aU,_,Q=>Q .aU
 |.E6 n,_,Q=>Q (.ty n)
 |.glob g,_,Q=>Q (G g)
 |.bin op a b,ε,Q=>wE R a ε fun x=>wE R b ε fun y=>fW op x y Q
 |.neg a,ε,Q=>wE R a ε fun x=>match x with
  |.int i=>Q (.int (-i))
  |_=>False
 |.not a,ε,Q=>wE R a ε fun x=>truth x fun b=>Q (.bl (!b))
 |.cmp op a b,ε,Q=>wE R a ε fun x=>wE R b ε fun y=>eT op x y Q
 |.and as,ε,Q=>zG R as ε Q
 |.or as,ε,Q=>NJ R as ε Q
 |.ite c a b,ε,Q=>wE R c ε fun x=>truth x fun k=>if k=true then wE R a ε Q else wE R b ε Q
 |.tup as,ε,Q=>wA R as ε fun ws=>ws.length<=sizeLine/\Q (.tup ws)
 |.lst as,ε,Q=>wA R as ε fun ws=>ws.length<=sizeLine/\Q (.lst ws)
 |.ix a i,ε,Q=>wE R a ε fun x=>wE R i ε fun y=>Ge x y Q
 |.sl a lo hi,ε,Q=>wE R a ε fun x=>wE R lo ε fun y=>J5 lo y fun l=>wE R hi ε fun z=>J5 hi z fun h=>Wk x l h Q
 |.call f as,ε,Q=>wA R as ε fun ws=>Φ f ws Q R
 |.blt b as,ε,Q=>wA R as ε fun ws=>qo b ws Q
 |.bits a,ε,Q=>wE R a ε fun x=>match x with
  |.int i=>Q (.int (Builtin.Int.intBits i:Nat))
  |_=>False
 |.comp ts one n it c e,ε,Q=>wE R it ε fun z=>items z fun ws=>kW (fun w K=>wT one ts w (List.replicate n none++ε) fun ε'=>wE (fun _=>False) c ε' fun x=>truth x fun k=>if k=true then wE (fun _=>False) e ε' fun y=>K (some y)else K none) ws [] fun l=>Q (.lst l)
 |.jn as,ε,Q=>wA R as ε fun ws=>Gf ws fun l=>Q (.lst l)
 |.uX a,ε,Q=>wE R a ε fun x=>match x with
  |.lst l=>Q (.lst (jc l))
  |_=>False
 |.rev a,ε,Q=>wE R a ε fun x=>match x with
  |.lst l=>Q (.lst l.reverse)
  |_=>False
 |.pop _,_,_=>False
 |.own i π,ε,Q=>match look ε i with
  |some w=>match cJ w π with
   |some u=>Q u
   |none=>False
  |none=>False
 |.Jb _ _ _ _,_,_=>False
 |.OW f a as,ε,Q=>wE R a ε fun x=>wA R as ε fun ws=>Φ f (x::ws) (fun r=>∃w y,r=.tup [w,y]/\Q w) R
noncomputable def wA(R:Addr->Prop):List CE->Ev->(List W->Prop)->Prop
 |[],_,Q=>Q []
 |a::as,ε,Q=>wE R a ε fun x=>wA R as ε fun xs=>Q (x::xs)
noncomputable def zG(R:Addr->Prop):List CE->Ev->(W->Prop)->Prop
 |[],_,_=>False
 |a::as,ε,Q=>match as with
  |[]=>wE R a ε Q
  |b::bs=>wE R a ε fun x=>truth x fun k=>if k=true then zG R (b::bs) ε Q else Q (.bl false)
noncomputable def NJ(R:Addr->Prop):List CE->Ev->(W->Prop)->Prop
 |[],_,_=>False
 |a::as,ε,Q=>match as with
  |[]=>wE R a ε Q
  |b::bs=>wE R a ε fun x=>truth x fun k=>if k=true then Q (.bl true)else NJ R (b::bs) ε Q
end
structure Dn where
 nx:Ev->Prop
 rt:W->Prop
 bk:Ev->Prop
 ct:Ev->Prop
 ex:Addr->Prop
mutual
noncomputable def wP(R:Addr->Prop):CE->Ev->(W->Ev->Prop)->Prop
 |.pop i,ε,Q=>match look ε i with
  |some (.lst l)=>∃w,l[l.length -1]?=some w/\Q w (ε.set i (some (.lst l.dropLast)))
  |_=>False
 |.Jb i g f as,ε,Q=>match look ε i with
  |some (.obj C _ _)=>G g=.cls C/\NK R as ε fun ws ε'=>match look ε' i with
   |some w0=>Φ f (w0::ws) (fun r=>∃w y,r=.tup [w,y]/\Q w (ε'.set i (some y))) R
   |none=>False
  |_=>False
 |.bin op a b,ε,Q=>wP R a ε fun x gu=>wP R b gu fun y jo=>fW op x y fun z=>Q z jo
 |.cmp op a b,ε,Q=>wP R a ε fun x gu=>wP R b gu fun y jo=>eT op x y fun z=>Q z jo
 |.call f as,ε,Q=>NK R as ε fun ws ε'=>Φ f ws (fun w=>Q w ε') R
 |.blt b as,ε,Q=>NK R as ε fun ws ε'=>qo b ws fun w=>Q w ε'
 |.ix a b,ε,Q=>wP R a ε fun x gu=>wP R b gu fun y jo=>Ge x y fun z=>Q z jo
 |.and as,ε,Q=>A9 R as ε Q
 |e,ε,Q=>wE Φ G R e ε fun w=>Q w ε
noncomputable def NK(R:Addr->Prop):List CE->Ev->(List W->Ev->Prop)->Prop
 |[],ε,Q=>Q [] ε
 |a::as,ε,Q=>wP R a ε fun x gu=>NK R as gu fun xs jo=>Q (x::xs) jo
noncomputable def A9(R:Addr->Prop):List CE->Ev->(W->Ev->Prop)->Prop
 |[],_,_=>False
 |a::as,ε,Q=>match as with
  |[]=>wP R a ε Q
  |b::bs=>wP R a ε fun x ε'=>truth x fun k=>if k=true then A9 R (b::bs) ε' Q else Q (.bl false) ε'
end
noncomputable def j4(b:W->Dn->Ev->Prop)(D:Dn):List W->Ev->Prop
 |[],ε=>D.nx ε
 |w::ws,ε=>b w {nx:=j4 b D ws,rt:=D.rt,bk:=D.nx,ct:=j4 b D ws,ex:=fun _=>False} ε
noncomputable def OX(c:Ev->(Bool->Prop)->Prop)(b:Dn->Ev->Prop)(D:Dn)(ε:Ev):Prop:=
 ∃J:Nat->Ev->Prop,(∃m,J m ε)/\∀m ε,J m ε->c ε fun k=>if k=true then∃N:Ev->Prop,(∀ε',N ε'->∃m',m'<m/\J m' ε')/\b {nx:=N,rt:=D.rt,bk:=D.nx,ct:=N,ex:=fun _=>False} ε else D.nx ε
mutual
noncomputable def wS:CS->Dn->Ev->Prop
 |.set i e,D,ε=>wE Φ G D.ex e ε fun w=>D.nx (ε.set i (some w))
 |.Gb ts e,D,ε=>wE Φ G D.ex e ε fun w=>match w with
  |.tup l=>l.length=ts.length/\D.nx (bO ε ts l)
  |_=>False
 |.par ts es,D,ε=>wA Φ G D.ex es ε fun ws=>ws.length=ts.length/\D.nx (bO ε ts ws)
 |.app i e,D,ε=>match look ε i with
  |some (.lst l)=>wE Φ G D.ex e ε fun w=>l.length<sizeLine/\D.nx (ε.set i (some (.lst (l++[w]))))
  |_=>False
 |.put i k e,D,ε=>wE Φ G D.ex e ε fun w=>match look ε i with
  |some (.lst l)=>wE Φ G D.ex k ε fun x=>match x with
   |.int j=>∃n,zD l.length j=some n/\D.nx (ε.set i (some (.lst (l.set n w))))
   |_=>False
  |_=>False
 |.drop i,D,ε=>wP Φ G D.ex (.pop i) ε fun _ ε'=>D.nx ε'
 |.Ag j e,D,ε=>wP Φ G D.ex e ε fun w ε'=>D.nx (ε'.set j (some w))
 |.ret e,D,ε=>wE Φ G D.ex e ε D.rt
 |.iff c a b,D,ε=>wE Φ G D.ex c ε fun x=>truth x fun k=>if k=true then wSs a D ε else wSs b D ε
 |.E7 c b,D,ε=>OX (fun ε Q=>wE Φ G (fun _=>False) c ε fun x=>truth x Q) (wSs b) D ε
 |.fr ts one it b,D,ε=>wE Φ G (fun _=>False) it ε fun z=>items z fun ws=>j4 (fun w D' ε'=>wT one ts w ε' fun oU=>wSs b D' oU) D ws ε
 |.brk,D,ε=>D.bk ε
 |.raise g e,D,ε=>match G g with
  |.cls C=>wE Φ G D.ex e ε fun _=>D.ex C
  |_=>False
 |.DX i n e,D,ε=>wE Φ G D.ex e ε fun w=>match look ε i with
  |some (.obj C fs ws)=>n<ws.length/\D.nx (ε.set i (some (.obj C fs (ws.set n w))))
  |_=>False
 |.Jc e,D,ε=>wE Φ G D.ex e ε fun w=>match look ε 0 with
  |some w0=>D.rt (.tup [w,w0])
  |none=>False
 |.Ux e,D,ε=>wP Φ G D.ex e ε fun _ ε'=>D.nx ε'
 |.qm,_,_=>False
 |.Uy ts e,D,ε=>wE Φ G D.ex e ε fun w=>match w with
  |.lst l=>l.length=ts.length/\D.nx (bO ε ts l)
  |_=>False
noncomputable def wSs:List CS->Dn->Ev->Prop
 |[],D,ε=>D.nx ε
 |s::ss,D,ε=>match ss with
  |[]=>wS s D ε
  |t::ts=>wS s {D with nx:=wSs (t::ts) D} ε
end
end
noncomputable def bf(K:PySem.W.Frag)(B:Addr->Prop)(H:Hp)(w:W)(v:V):Prop:=
 match w with
 |.lst l=>∃p vs,v=.ref p/\Rd H p (.lst vs)/\aj K B H l vs
 |w=>Rep K B H w v
section
variable{K:PySem.W.Frag}{A B:Addr->Prop}{H H':Hp}{w:W}{v:V}
theorem Rep.b(h:Rep K B H w v):bf K B H w v:=by
 cases w with
 |lst l=>
  rw[Rep]at h
  obtain⟨p,vs,e,_,h1,h2⟩:=h
  exact⟨p,vs,e,h1,h2⟩
 |_=>exact h
theorem bf.same(s:ay H H')(h:bf K B H w v):bf K B H' w v:=by
 cases w with
 |lst l=>
  obtain⟨p,vs,e,h1,h2⟩:=h
  exact⟨p,vs,e,VL.ay.rd s h1,h2.same s⟩
 |_=>exact Rep.same s h
theorem bf.lst{l:List W}(h:bf K B H (.lst l) v):∃p vs,v=.ref p/\Rd H p (.lst vs)/\aj K B H l vs:=h
theorem bf.UC{l:List W}(h:bf K B H (.tup l) v):∃p vs,v=.ref p/\H p=some (.tup vs)/\aj K B H l vs:=by
 have h:Rep K B H (.tup l) v:=h
 rw[Rep]at h
 exact h
theorem bf.tup{l:List W}(h:bf K B H (.tup l) v):∃p vs,v=.ref p/\lG K H p vs/\aj K B H l vs:=by
 have h:Rep K B H (.tup l) v:=h
 rw[Rep]at h
 obtain⟨p,vs,e,h1,h2⟩:=h
 exact⟨p,vs,e,lG.of h1,h2⟩
theorem bf.int{i:Int}(h:bf K B H (.int i) v):v=.int i:=by
 have h:Rep K B H (.int i) v:=h
 rw[Rep]at h
 exact h
theorem bf.bl{i:Bool}(h:bf K B H (.bl i) v):v=.bl i:=by
 have h:Rep K B H (.bl i) v:=h
 rw[Rep]at h
 exact h
theorem bf.str{i:Str}(h:bf K B H (.str i) v):v=.str i:=by
 have h:Rep K B H (.str i) v:=h
 rw[Rep]at h
 exact h
theorem bf.aU(h:bf K B H .aU v):v=.aU:=by
 have h:Rep K B H .aU v:=h
 rw[Rep]at h
 exact h
theorem bf.ty{n:String}(h:bf K B H (.ty n) v):v=.ty n:=by
 have h:Rep K B H (.ty n) v:=h
 rw[Rep]at h
 exact h
theorem iB(i:Int):Rep K B H (.int i) (.int i):=by rw[Rep]
theorem BC(i:Bool):Rep K B H (.bl i) (.bl i):=by rw[Rep]
theorem UD(i:Str):Rep K B H (.str i) (.str i):=by rw[Rep]
theorem UE:Rep K B H .aU .aU:=by rw[Rep]
theorem rTy(n:String):Rep K B H (.ty n) (.ty n):=by rw[Rep]
theorem DZ{l:List W}{p:Addr}{vs:List V}(h1:H p=some (.tup vs))(h2:aj K B H l vs):Rep K B H (.tup l) (.ref p):=by rw[Rep];exact⟨p,vs,rfl,h1,h2⟩
end
abbrev KP:=W->Prop
noncomputable def Cont(K:PySem.W.Frag)(B:Addr->Prop)(H:Hp)(m:Md)(P:KP)(Q:VK):Prop:=∀w v H',P w->ay H H'->eO K B H H' m w v->Q v H'
theorem Cont.now{K:PySem.W.Frag}{B:Addr->Prop}{H:Hp}{P:KP}{Q:VK}(c:Cont K B H .s P Q){w:W}{v:V}(p:P w)(h:Rep K B H w v):Q v H:=c w v H p (ay.refl H) (.of h)
theorem Cont.s{K:PySem.W.Frag}{B:Addr->Prop}{H:Hp}{m:Md}{P:KP}{Q:VK}(d:Dom B H)(c:Cont K B H .s P Q):Cont K B H m P Q:=fun w v H' p s' h=>c w v H' p s' (h.s d)
noncomputable def J6(X:Cx)(f:Value->Value->Sem Value)(r:W->W->KP->Prop)(m:W->W->Md):Prop:=
 ∀(pins:List (Addr×Obj)) (s:Shared) (σ:St) (H:Hp) (B:Addr->Prop) (x y:W) (vx vy:V) (v u:Value) (P:KP) (Q:VK),Inv X pins σ H s->Dom B H->RelV vx v->RelV vy u->bf X.K B H x vx->bf X.K B H y vy->r x y P->Cont X.K B H (m x y) P Q->
  wpAny (model X.prog X.w) X.A (f v u) (EP X pins σ Q) X.xe s
section
variable{X:Cx}
theorem J7:kN X (binaryOp .Add) (fun x y H Q=>∃l b xs zs,x=.ref l/\y=.ref b/\Rd H l (.lst xs)/\Rd H b (.lst zs)/\xs.length+zs.length<=sizeLine/\∀p,H p=none->Q (.ref p) (upd H p (.lst (xs++zs)))):=by
 intro pins s σ H x y v u Q I rx ry h
 obtain⟨l,b,xs,zs,rfl,rfl,hH,hB,hz,q⟩:=h
 cases rx
 cases ry
 obtain⟨z,its,n,r,e⟩:=hH.ok I.hok
 obtain⟨z2,its2,n2,r2,e2⟩:=hB.ok I.hok
 have hl:=r.length
 have hl2:=r2.length
 refine PySem.P.add_list e e2 ?_ (by rw[Fk,Fk];lia)
 have ea:its.toArray++its2.toArray=(its++its2).toArray:=by simp
 rw[ea]
 exact⟨.ref _,_,I.Ox (t':=s.toks) (r.append r2) (by rw[Ee];lia),rfl,q _ I.fresh⟩
theorem J8:kN X (binaryOp .Mult) (fun x y H Q=>∃l k xs,x=.ref l/\y=.int k/\Rd H l (.lst xs)/\-(2^63)<=k/\k<2^63/\xs.length*k.toNat<=sizeLine/\∀p,H p=none->Q (.ref p) (upd H p (.lst (List.replicate k.toNat xs).flatten))):=by
 intro pins s σ H x y v u Q I rx ry h
 obtain⟨l,k,xs,rfl,rfl,hH,h1,h2,hz,q⟩:=h
 cases rx
 obtain⟨t,rfl⟩:=ry
 obtain⟨z,its,n,r,e⟩:=hH.ok I.hok
 have hl:=r.length
 have hlen:its.toArray.size*k.toNat<=sizeLine:=by rw[Fk,←hl];exact hz
 have hcap:¬its.toArray.size*k.toNat>(2^63 -1)/8:=by
  have:(sizeLine:Nat)<=(2^63 -1)/8:=by decide
  lia
 have hfit:¬(!Builtin.List.listFitsIndex k)=true:=by
  rw[fitsIndex_both h1 h2]
  exact Kk
 have UG:¬Builtin.List.listTooLong (its.toArray.size*k.toNat)=true:=by
  rw[FL hlen]
  exact Kk
 have hnew:List.foldl (fun x1 x2=>x1++x2) #[] (List.replicate (if its.toArray.isEmpty=true then 0 else k.toNat) its.toArray)=(List.replicate k.toNat its).flatten.toArray:=by
  have f0:∀m:Nat,List.foldl (fun x1 x2=>x1++x2) #[] (List.replicate m its.toArray)=(List.replicate m its).flatten.toArray:=fun m=>by
   have:=foldl_rep its m []
   rw[List.nil_append]at this
   exact this
  rw[f0]
  cases its with
  |nil=>simp
  |cons a r'=>rw[B1 (by simp)]
 refine wpAny_binaryOp_repeat_ref (T:="list") (U:="int") (by decide) ⟨_,e,rfl⟩ (fun s'=>typeIs_int s' k t) noFill_list_mul F.fills_int_mul F.slot_int_rmul repeat_list F.slot_int_index.lookup
  (call_meets F.slot_int_rmul (typeIs_int s k t) F.entry_int_rmul (F.args_int_rmul_2 _ _) (int___rmul___int_list k t l its.toArray n)
    ⟨e,rfl,⟨_,e,rfl⟩,call_meets F.slot_list_mul ⟨_,e,rfl⟩ F.entry_list_mul (F.args_list_mul_2 _ _) (AutoListH.list___mul___list_int_3 l its.toArray n k t hfit hcap UG) ⟨e,?_⟩⟩)
 rw[hnew]
 exact⟨.ref _,_,I.Ox (t':=s.toks) (r.rep k.toNat) (by rw[len_rep,Y2];exact hz),rfl,q _ I.fresh⟩
noncomputable def Ka:W->W->Md
 |.lst _,_=>.f
 |_,_=>.s
theorem OY:J6 X (binaryOp .Add) Uz Ka:=by
 intro pins s σ H B x y vx vy v u P Q I d rx ry hx hy h c
 cases x with
 |int i=>
  cases y with
  |int j=>
   cases hx.int
   cases hy.int
   exact Oe pins s σ H _ _ v u Q I rx ry ⟨i,j,rfl,rfl,c.now h (iB _)⟩
  |_=>exact h.elim
 |str i=>
  cases y with
  |str j=>
   cases hx.str
   cases hy.str
   exact zP pins s σ H _ _ v u Q I rx ry ⟨i,j,rfl,rfl,h.1,c.now h.2 (UD _)⟩
  |_=>exact h.elim
 |lst a=>
  cases y with
  |lst b=>
   obtain⟨p,vs,rfl,h1,h2⟩:=hx.lst
   obtain⟨q,us,rfl,k1,k2⟩:=hy.lst
   obtain⟨hl,h⟩:=h
   refine J7 pins s σ H _ _ v u Q I rx ry ⟨p,q,vs,us,rfl,rfl,h1,k1,by rw[h2.len,k2.len];exact hl,fun r hr=>?_⟩
   exact c _ _ _ h (aL hr _) (.fresh (ay.refl H) hr (h2.app k2))
  |_=>exact h.elim
 |tup a=>
  cases y with
  |tup b=>
   obtain⟨p,vs,rfl,UH,h2⟩:=hx.UC
   have h1:lG X.K H p vs:=lG.of UH
   obtain⟨q,us,rfl,k1,k2⟩:=hy.tup
   obtain⟨hne,hl,h⟩:=h
   refine JG pins s σ H _ _ v u Q I rx ry ⟨p,q,vs,us,rfl,rfl,h1,k1,fun z=>hne ?_,by rw[h2.len,k2.len];exact hl,fun z=>?_,fun _ r hr=>?_⟩
   ·have:=h2.len
    rw[z]at this
    exact SZ.mp this.symm
   ·have:=k2.len
    rw[z]at this
    have e:b=[]:=SZ.mp this.symm
    subst e
    rw[L9]at h
    exact c.now h (DZ UH h2)
   ·exact c _ _ _ h (aL hr _) (.of (DZ aD ((h2.app k2).same (aL hr _))))
  |_=>exact h.elim
 |_=>exact h.elim
theorem OZ:J6 X (binaryOp .Mult) UA Ka:=by
 intro pins s σ H B x y vx vy v u P Q I d rx ry hx hy h c
 cases x with
 |int i=>
  cases y with
  |int j=>
   cases hx.int
   cases hy.int
   exact JN pins s σ H _ _ v u Q I rx ry ⟨i,j,rfl,rfl,h.1,c.now h.2 (iB _)⟩
  |_=>exact h.elim
 |lst a=>
  cases y with
  |int k=>
   obtain⟨p,vs,rfl,h1,h2⟩:=hx.lst
   cases hy.int
   obtain⟨l1,l2,hl,h⟩:=h
   refine J8 pins s σ H _ _ v u Q I rx ry ⟨p,k,vs,rfl,rfl,h1,l1,l2,by rw[h2.len];exact hl,fun r hr=>?_⟩
   exact c _ _ _ h (aL hr _) (.fresh (ay.refl H) hr (h2.rep _))
  |_=>exact h.elim
 |_=>exact h.elim
noncomputable def mS:W->W->Md:=fun _ _=>.s
theorem O2:J6 X (binaryOp .Sub) UB mS:=by
 intro pins s σ H B x y vx vy v u P Q I d rx ry hx hy h c
 cases x with
 |int i=>
  cases y with
  |int j=>
   cases hx.int
   cases hy.int
   exact Of pins s σ H _ _ v u Q I rx ry ⟨i,j,rfl,rfl,c.now h (iB _)⟩
  |_=>exact h.elim
 |_=>exact h.elim
theorem xO{f:Value->Value->Sem Value}{C:Int->Int->Prop}{g:Int->Int->Int}(ho:kN X f (rI C fun i j=>.int (g i j))):J6 X f (Sz C g) mS:=by
 intro pins s σ H B x y vx vy v u P Q I d rx ry hx hy h c
 cases x with
 |int i=>
  cases y with
  |int j=>
   cases hx.int
   cases hy.int
   exact ho pins s σ H _ _ v u Q I rx ry ⟨i,j,rfl,rfl,h.1,c.now h.2 (iB _)⟩
  |_=>exact h.elim
 |_=>exact h.elim
noncomputable def Kc:Operator->W->W->Md
 |.Add=>Ka
 |.Mult=>Ka
 |_=>mS
theorem Ah(op:Operator):J6 X (binaryOp op) (fW op) (Kc op):=by
 cases op with
 |Add=>exact OY
 |Sub=>exact O2
 |Mult=>exact OZ
 |FloorDiv=>exact xO FQ
 |Mod=>exact xO Jw
 |Pow=>exact xO Og
 |LShift=>exact xO Oh
 |RShift=>exact xO Oi
 |_=>exact fun pins s σ H B x y vx vy v u P Q I d rx ry hx hy h c=>h.elim
theorem uY{f:Value->Value->Sem Value}{p:Int->Int->Bool}(ho:kN X f (Ju fun i j=>.bl (p i j))):J6 X f (Gd p) mS:=by
 intro pins s σ H B x y vx vy v u P Q I d rx ry hx hy h c
 cases x with
 |int i=>
  cases y with
  |int j=>
   cases hx.int
   cases hy.int
   exact ho pins s σ H _ _ v u Q I rx ry ⟨i,j,rfl,rfl,c.now h (BC _)⟩
  |_=>exact h.elim
 |_=>exact h.elim
end
mutual
noncomputable def toD:W->PyData
 |.aU=>.none
 |.bl b=>.bool b
 |.int i=>.int i
 |.str x=>.str x
 |.lst l=>.list (toDL l)
 |.tup l=>.tuple (toDL l)
 |_=>.none
noncomputable def toDL:List W->List PyData
 |[]=>[]
 |w::l=>toD w::toDL l
end
mutual
noncomputable def fN:W->Bool
 |.aU=>true
 |.bl _=>true
 |.int _=>true
 |.str x=>PyData.strOk x
 |.lst l=>nM l
 |.tup l=>nM l
 |_=>false
noncomputable def nM:List W->Bool
 |[]=>true
 |w::l=>fN w&&nM l
end
section
variable{X:Cx}{B:Addr->Prop}{H:Hp}
mutual
theorem UI:∀(w:W) {v:V},fN w=true->Rep X.K B H w v->Dt X H v (toD w)
 |.aU,v,_,h=>by rw[Rep]at h;subst h;rw[toD];exact OR
 |.bl b,v,_,h=>by rw[Rep]at h;subst h;rw[toD];exact MO b
 |.int i,v,_,h=>by rw[Rep]at h;subst h;rw[toD];exact OP i
 |.str x,v,_,h=>by rw[Rep]at h;subst h;rw[toD];exact OQ x
 |.lst l,v,d,h=>by
  rw[Rep]at h
  rw[fN]at d
  rw[toD]
  obtain⟨p,vs,rfl,_,h1,h2⟩:=h
  exact uV (.inl h1) (BD l d h2)
 |.tup l,v,d,h=>by
  rw[Rep]at h
  rw[fN]at d
  rw[toD]
  obtain⟨p,vs,rfl,h1,h2⟩:=h
  exact OS (lG.of h1) (BD l d h2)
 |.ty _,_,d,_=>by simp[fN]at d
 |.cls _,_,d,_=>by simp[fN]at d
 |.err _,_,d,_=>by simp[fN]at d
 |.dct _ _,_,d,_=>by simp[fN]at d
 |.obj _ _ _,_,d,_=>by simp[fN]at d
 |.gy _,_,d,_=>by simp[fN]at d
theorem BD:∀(l:List W) {vs:List V},nM l=true->aj X.K B H l vs->Paired (Dt X H) vs (toDL l)
 |[],vs,_,h=>by rw[h.nil_inv,toDL];exact .nil
 |w::l,vs,d,h=>by
  obtain⟨v,r,rfl,h1,h2⟩:=h.cons_inv
  rw[nM,AN]at d
  rw[toDL]
  exact .cons (UI w d.1 h1) (BD l d.2 h2)
end
theorem Kd{w:W}{v:V}(d:fN w=true)(h:bf X.K B H w v):Dt X H v (toD w):=by
 cases w with
 |lst l=>
  obtain⟨p,vs,rfl,h1,h2⟩:=h.lst
  rw[fN]at d
  rw[toD]
  exact uV (.inl h1) (BD l d h2)
 |_=>exact UI (B:=B) _ d h
end
mutual
theorem toD_lay:∀w:W,fN w=true->(toD w).canLay0=true
 |.aU,_=>by simp[toD,PyData.canLay0]
 |.bl _,_=>by simp[toD,PyData.canLay0]
 |.int _,_=>by simp[toD,PyData.canLay0]
 |.str x,d=>by rw[fN]at d;simp[toD,PyData.canLay0,d]
 |.lst l,d=>by rw[fN]at d;rw[toD,PyData.canLay0];exact toDL_lay l d
 |.tup l,d=>by rw[fN]at d;rw[toD,PyData.canLay0];exact toDL_lay l d
 |.ty _,d=>by simp[fN]at d
 |.cls _,d=>by simp[fN]at d
 |.err _,d=>by simp[fN]at d
 |.dct _ _,d=>by simp[fN]at d
 |.obj _ _ _,d=>by simp[fN]at d
 |.gy _,d=>by simp[fN]at d
theorem toDL_lay:∀l:List W,nM l=true->PyData.canLayAll0 (toDL l)=true
 |[],_=>by simp[toDL,PyData.canLayAll0]
 |w::l,d=>by
  rw[nM,AN]at d
  rw[toDL,PyData.canLayAll0,toD_lay w d.1,toDL_lay l d.2]
  rfl
end
mutual
theorem toD_same:∀x y:W,fN x=true->fN y=true->(same (toD x) (toD y)=true↔x=y)
 |.aU,.aU,_,_=>by simp[toD,same]
 |.aU,.bl _,_,_=>by simp[toD,same]
 |.aU,.int _,_,_=>by simp[toD,same]
 |.aU,.str _,_,_=>by simp[toD,same]
 |.aU,.lst _,_,_=>by simp[toD,same]
 |.aU,.tup _,_,_=>by simp[toD,same]
 |.bl _,.aU,_,_=>by simp[toD,same]
 |.bl a,.bl b,_,_=>by simp[toD,same]
 |.bl _,.int _,_,_=>by simp[toD,same]
 |.bl _,.str _,_,_=>by simp[toD,same]
 |.bl _,.lst _,_,_=>by simp[toD,same]
 |.bl _,.tup _,_,_=>by simp[toD,same]
 |.int _,.aU,_,_=>by simp[toD,same]
 |.int _,.bl _,_,_=>by simp[toD,same]
 |.int _,.int _,_,_=>by simp[toD,same]
 |.int _,.str _,_,_=>by simp[toD,same]
 |.int _,.lst _,_,_=>by simp[toD,same]
 |.int _,.tup _,_,_=>by simp[toD,same]
 |.str _,.aU,_,_=>by simp[toD,same]
 |.str _,.bl _,_,_=>by simp[toD,same]
 |.str _,.int _,_,_=>by simp[toD,same]
 |.str _,.str _,_,_=>by simp[toD,same]
 |.str _,.lst _,_,_=>by simp[toD,same]
 |.str _,.tup _,_,_=>by simp[toD,same]
 |.lst _,.aU,_,_=>by simp[toD,same]
 |.lst _,.bl _,_,_=>by simp[toD,same]
 |.lst _,.int _,_,_=>by simp[toD,same]
 |.lst _,.str _,_,_=>by simp[toD,same]
 |.lst a,.lst b,d,e=>by
  rw[fN]at d e
  rw[toD,toD,same,toDL_same a b d e,W.lst.injEq]
 |.lst _,.tup _,_,_=>by simp[toD,same]
 |.tup _,.aU,_,_=>by simp[toD,same]
 |.tup _,.bl _,_,_=>by simp[toD,same]
 |.tup _,.int _,_,_=>by simp[toD,same]
 |.tup _,.str _,_,_=>by simp[toD,same]
 |.tup _,.lst _,_,_=>by simp[toD,same]
 |.tup a,.tup b,d,e=>by
  rw[fN]at d e
  rw[toD,toD,same,toDL_same a b d e,W.tup.injEq]
 |.ty _,_,d,_=>by simp[fN]at d
 |.cls _,_,d,_=>by simp[fN]at d
 |.err _,_,d,_=>by simp[fN]at d
 |.dct _ _,_,d,_=>by simp[fN]at d
 |.obj _ _ _,_,d,_=>by simp[fN]at d
 |.gy _,_,d,_=>by simp[fN]at d
 |_,.ty _,_,d=>by simp[fN]at d
 |_,.cls _,_,d=>by simp[fN]at d
 |_,.err _,_,d=>by simp[fN]at d
 |_,.dct _ _,_,d=>by simp[fN]at d
 |_,.obj _ _ _,_,d=>by simp[fN]at d
 |_,.gy _,_,d=>by simp[fN]at d
theorem toDL_same:∀x y:List W,nM x=true->nM y=true->(sameAll (toDL x) (toDL y)=true↔x=y)
 |[],[],_,_=>by simp[toDL,sameAll]
 |[],_::_,_,_=>by simp[toDL,sameAll]
 |_::_,[],_,_=>by simp[toDL,sameAll]
 |x::xs,y::ys,d,e=>by
  rw[nM,AN]at d e
  rw[toDL,toDL,sameAll,AN,toD_same x y d.1 e.1,toDL_same xs ys d.2 e.2,List.cons.injEq]
end
theorem toDL_map:∀l:List W,toDL l=l.map toD
 |[]=>by rw[toDL];rfl
 |w::l=>by rw[toDL,toDL_map l];rfl
theorem qp:∀l:List W,nM l=l.all fN
 |[]=>by rw[nM];rfl
 |w::l=>by rw[nM,qp l];rfl
theorem Ke:∀(n:Nat) (w:W),(dS n w=true\/gA n w=true)->fN w=true/\(toD w).depth<=n+1
 |n,.aU,_=>by simp[fN,toD,PyData.depth]
 |n,.bl _,_=>by simp[fN,toD,PyData.depth]
 |n,.int _,_=>by simp[fN,toD,PyData.depth]
 |n,.str x,h=>by
  have:PyData.strOk x=true:=by
   rcases h with h|h
   ·unfold dS at h;exact h
   ·unfold gA at h;exact h
  simp[fN,toD,PyData.depth,this]
 |0,.lst l,h=>by rcases h with h|h<;>simp[dS,gA]at h
 |0,.tup l,h=>by rcases h with h|h<;>simp[dS,gA]at h
 |n+1,.lst l,h=>by
  have h1:∀w∈l,fN w=true/\(toD w).depth<=n+1:=fun w hw=>by
   refine Ke n w ?_
   rcases h with h|h
   ·rw[dS]at h;exact .inl (KB.mp h w hw)
   ·rw[gA]at h;exact .inr (KB.mp h w hw)
  refine⟨by rw[fN,qp];exact KB.mpr fun w hw=>(h1 w hw).1,?_⟩
  rw[toD,toDL_map]
  exact Nat.succ_le_succ (xN fun x hx=>by
   obtain⟨w,hw,rfl⟩:=Iy.mp hx
   exact(h1 w hw).2)
 |n+1,.tup l,h=>by
  have h1:∀w∈l,fN w=true/\(toD w).depth<=n+1:=fun w hw=>by
   refine Ke n w ?_
   rcases h with h|h
   ·rw[dS]at h;exact .inl (KB.mp h w hw)
   ·rw[gA]at h;exact .inr (KB.mp h w hw)
  refine⟨by rw[fN,qp];exact KB.mpr fun w hw=>(h1 w hw).1,?_⟩
  rw[toD,toDL_map]
  exact Nat.succ_le_succ (xN fun x hx=>by
   obtain⟨w,hw,rfl⟩:=Iy.mp hx
   exact(h1 w hw).2)
 |0,.ty _,h=>by rcases h with h|h<;>simp[dS,gA]at h
 |0,.cls _,h=>by rcases h with h|h<;>simp[dS,gA]at h
 |0,.err _,h=>by rcases h with h|h<;>simp[dS,gA]at h
 |0,.dct _ _,h=>by rcases h with h|h<;>simp[dS,gA]at h
 |0,.obj _ _ _,h=>by rcases h with h|h<;>simp[dS,gA]at h
 |0,.gy _,h=>by rcases h with h|h<;>simp[dS,gA]at h
 |n+1,.ty _,h=>by rcases h with h|h<;>simp[dS,gA]at h
 |n+1,.cls _,h=>by rcases h with h|h<;>simp[dS,gA]at h
 |n+1,.err _,h=>by rcases h with h|h<;>simp[dS,gA]at h
 |n+1,.dct _ _,h=>by rcases h with h|h<;>simp[dS,gA]at h
 |n+1,.obj _ _ _,h=>by rcases h with h|h<;>simp[dS,gA]at h
 |n+1,.gy _,h=>by rcases h with h|h<;>simp[dS,gA]at h
inductive BE(b:Bool):PyData->Prop where
 |none:BE b .none
 |str (x:Str):BE b (.str x)
 |bool (x:Bool) (h:b=true):BE b (.bool x)
 |int (x:Int) (h:b=false):BE b (.int x)
 |list {l:List PyData} (h:∀x∈l,BE b x):BE b (.list l)
 |tuple {l:List PyData} (h:∀x∈l,BE b x):BE b (.tuple l)
mutual
theorem uZ{b:Bool}:∀d e:PyData,BE b d->BE b e->SeqAt.noMix d e=true
 |.list xs,.list ys,h,k=>by
  cases h with
  |list h=>
   cases k with
   |list k=>rw[SeqAt.noMix];exact qt xs ys h k
 |.tuple xs,.tuple ys,h,k=>by
  cases h with
  |tuple h=>
   cases k with
   |tuple k=>rw[SeqAt.noMix];exact qt xs ys h k
 |.bool _,.int _,h,k=>by
  cases h with
  |bool _ h=>
   cases k with
   |int _ k=>rw[h]at k;cases k
 |.int _,.bool _,h,k=>by
  cases h with
  |int _ h=>
   cases k with
   |bool _ k=>rw[h]at k;exact ff k
 |.dict _,_,h,_=>by cases h
 |.none,.none,_,_=>by simp[SeqAt.noMix]
 |.none,.bool _,_,_=>by simp[SeqAt.noMix]
 |.none,.int _,_,_=>by simp[SeqAt.noMix]
 |.none,.str _,_,_=>by simp[SeqAt.noMix]
 |.none,.list _,_,_=>by simp[SeqAt.noMix]
 |.none,.tuple _,_,_=>by simp[SeqAt.noMix]
 |.none,.dict _,_,_=>by simp[SeqAt.noMix]
 |.bool _,.none,_,_=>by simp[SeqAt.noMix]
 |.bool _,.bool _,_,_=>by simp[SeqAt.noMix]
 |.bool _,.str _,_,_=>by simp[SeqAt.noMix]
 |.bool _,.list _,_,_=>by simp[SeqAt.noMix]
 |.bool _,.tuple _,_,_=>by simp[SeqAt.noMix]
 |.bool _,.dict _,_,_=>by simp[SeqAt.noMix]
 |.int _,.none,_,_=>by simp[SeqAt.noMix]
 |.int _,.int _,_,_=>by simp[SeqAt.noMix]
 |.int _,.str _,_,_=>by simp[SeqAt.noMix]
 |.int _,.list _,_,_=>by simp[SeqAt.noMix]
 |.int _,.tuple _,_,_=>by simp[SeqAt.noMix]
 |.int _,.dict _,_,_=>by simp[SeqAt.noMix]
 |.str _,.none,_,_=>by simp[SeqAt.noMix]
 |.str _,.bool _,_,_=>by simp[SeqAt.noMix]
 |.str _,.int _,_,_=>by simp[SeqAt.noMix]
 |.str _,.str _,_,_=>by simp[SeqAt.noMix]
 |.str _,.list _,_,_=>by simp[SeqAt.noMix]
 |.str _,.tuple _,_,_=>by simp[SeqAt.noMix]
 |.str _,.dict _,_,_=>by simp[SeqAt.noMix]
 |.list _,.none,_,_=>by simp[SeqAt.noMix]
 |.list _,.bool _,_,_=>by simp[SeqAt.noMix]
 |.list _,.int _,_,_=>by simp[SeqAt.noMix]
 |.list _,.str _,_,_=>by simp[SeqAt.noMix]
 |.list _,.tuple _,_,_=>by simp[SeqAt.noMix]
 |.list _,.dict _,_,_=>by simp[SeqAt.noMix]
 |.tuple _,.none,_,_=>by simp[SeqAt.noMix]
 |.tuple _,.bool _,_,_=>by simp[SeqAt.noMix]
 |.tuple _,.int _,_,_=>by simp[SeqAt.noMix]
 |.tuple _,.str _,_,_=>by simp[SeqAt.noMix]
 |.tuple _,.list _,_,_=>by simp[SeqAt.noMix]
 |.tuple _,.dict _,_,_=>by simp[SeqAt.noMix]
theorem qt{b:Bool}:∀xs ys:List PyData,(∀x∈xs,BE b x)->(∀y∈ys,BE b y)->SeqAt.noMixAll xs ys=true
 |[],[],_,_=>by simp[SeqAt.noMixAll]
 |[],_::_,_,_=>by simp[SeqAt.noMixAll]
 |_::_,[],_,_=>by simp[SeqAt.noMixAll]
 |x::xs,y::ys,h,k=>by
  rw[SeqAt.noMixAll,uZ x y (h x DD) (k y DD),qt xs ys (fun z hz=>h z (Bn _ hz)) fun z hz=>k z (Bn _ hz)]
  rfl
end
theorem u7:∀(n:Nat) (w:W),dS n w=true->BE false (toD w)
 |n,.aU,_=>by rw[toD];exact .none
 |n,.int i,_=>by rw[toD];exact .int i rfl
 |n,.str x,_=>by rw[toD];exact .str x
 |n,.bl _,h=>by cases n<;>simp[dS]at h
 |n+1,.lst l,h=>by
  rw[dS]at h
  rw[toD,toDL_map]
  exact .list fun x hx=>by
   obtain⟨w,hw,rfl⟩:=Iy.mp hx
   exact u7 n w (KB.mp h w hw)
 |n+1,.tup l,h=>by
  rw[dS]at h
  rw[toD,toDL_map]
  exact .tuple fun x hx=>by
   obtain⟨w,hw,rfl⟩:=Iy.mp hx
   exact u7 n w (KB.mp h w hw)
 |0,.lst l,h=>by simp[dS]at h
 |0,.tup l,h=>by simp[dS]at h
 |n,.ty _,h=>by cases n<;>simp[dS]at h
 |n,.cls _,h=>by cases n<;>simp[dS]at h
 |n,.err _,h=>by cases n<;>simp[dS]at h
 |n,.dct _ _,h=>by cases n<;>simp[dS]at h
 |n,.obj _ _ _,h=>by cases n<;>simp[dS]at h
 |n,.gy _,h=>by cases n<;>simp[dS]at h
theorem u9:∀(n:Nat) (w:W),gA n w=true->BE true (toD w)
 |n,.aU,_=>by rw[toD];exact .none
 |n,.bl i,_=>by rw[toD];exact .bool i rfl
 |n,.str x,_=>by rw[toD];exact .str x
 |n,.int _,h=>by cases n<;>simp[gA]at h
 |n+1,.lst l,h=>by
  rw[gA]at h
  rw[toD,toDL_map]
  exact .list fun x hx=>by
   obtain⟨w,hw,rfl⟩:=Iy.mp hx
   exact u9 n w (KB.mp h w hw)
 |n+1,.tup l,h=>by
  rw[gA]at h
  rw[toD,toDL_map]
  exact .tuple fun x hx=>by
   obtain⟨w,hw,rfl⟩:=Iy.mp hx
   exact u9 n w (KB.mp h w hw)
 |0,.lst l,h=>by simp[gA]at h
 |0,.tup l,h=>by simp[gA]at h
 |n,.ty _,h=>by cases n<;>simp[gA]at h
 |n,.cls _,h=>by cases n<;>simp[gA]at h
 |n,.err _,h=>by cases n<;>simp[gA]at h
 |n,.dct _ _,h=>by cases n<;>simp[gA]at h
 |n,.obj _ _ _,h=>by cases n<;>simp[gA]at h
 |n,.gy _,h=>by cases n<;>simp[gA]at h
section
variable{X:Cx}
theorem vd(hu:X.A.units+64<cLine)(ne:Bool){pins:List (Addr×Obj)}{s:Shared}{σ:St}{H:Hp}{B:Addr->Prop}{x y:W}{vx vy:V}{v u:Value}{P:KP}{Q:VK}(I:Inv X pins σ H s)(rx:RelV vx v)(ry:RelV vy u)(hx:bf X.K B H x vx)(hy:bf X.K B H y vy)
 (h:((dS 9 x=true/\dS 9 y=true)\/(gA 9 x=true/\gA 9 y=true))/\∀b:Bool,(b=true↔x=y)->P (.bl (if ne then !b else b))) (c:Cont X.K B H .s P Q):
 wpAny (model X.prog X.w) X.A (compareOp (if ne then .NotEq else .Eq) v u) (EP X pins σ Q) X.xe s:=by
 obtain⟨hp,h⟩:=h
 have d1:=Ke 9 x (hp.imp And.left And.left)
 have d2:=Ke 9 y (hp.imp And.right And.right)
 have sx:SeqAt.shaped (toD x)=true:=by
  unfold SeqAt.shaped
  rw[toD_lay x d1.1,Hn (FC d1.2 (by decide))]
  rfl
 have sy:SeqAt.shaped (toD y)=true:=by
  unfold SeqAt.shaped
  rw[toD_lay y d2.1,Hn (FC d2.2 (by decide))]
  rfl
 have mx:SeqAt.noMix (toD x) (toD y)=true:=by
  rcases hp with⟨h1,h2⟩|⟨h1,h2⟩
  ·exact uZ _ _ (u7 9 x h1) (u7 9 y h2)
  ·exact uZ _ _ (u9 9 x h1) (u9 9 y h2)
 have q:=h (same (toD x) (toD y)) (toD_same x y d1.1 d2.1)
 cases ne with
 |true=>exact OT hu pins s σ H _ _ v u Q I rx ry ⟨_,_,Kd d1.1 hx,Kd d2.1 hy,⟨sx,sy,mx⟩,c.now q (BC _)⟩
 |false=>exact F6 hu pins s σ H _ _ v u Q I rx ry ⟨_,_,Kd d1.1 hx,Kd d2.1 hy,⟨sx,sy,mx⟩,c.now q (BC _)⟩
theorem MP(hu:X.A.units+64<cLine)(ne:Bool):J6 X (compareOp (if ne then .NotEq else .Eq)) (Xz ne) mS:=by
 intro pins s σ H B x y vx vy v u P Q I d rx ry hx hy h c
 have sc:∀a b:V,Ol a b=true->(∀k:Bool,k=decide (a=b)->Q (.bl (if ne then !k else k)) H)->RelV a v->RelV b u->wpAny (model X.prog X.w) X.A (compareOp (if ne then .NotEq else .Eq) v u) (EP X pins σ Q) X.xe s:=fun a b hs q ra rb=>by
  cases ne with
  |true=>exact TQ pins s σ H _ _ v u Q I ra rb ⟨hs,q _ rfl⟩
  |false=>exact MI pins s σ H _ _ v u Q I ra rb ⟨hs,q _ rfl⟩
 cases x with
 |int i=>
  cases y with
  |int j=>
   cases hx.int
   cases hy.int
   refine sc _ _ rfl (fun k hk=>c.now (w:=.bl (if ne then !k else k)) ?_ (BC _)) rx ry
   rw[hk,show decide (V.int i=V.int j)=decide (i=j)from by simp]
   exact h
  |_=>exact vd hu ne I rx ry hx hy h c
 |str i=>
  cases y with
  |str j=>
   cases hx.str
   cases hy.str
   refine sc _ _ rfl (fun k hk=>c.now (w:=.bl (if ne then !k else k)) ?_ (BC _)) rx ry
   rw[hk,show decide (V.str i=V.str j)=decide (i=j)from by simp]
   exact h
  |_=>exact vd hu ne I rx ry hx hy h c
 |bl i=>
  cases y with
  |bl j=>
   cases hx.bl
   cases hy.bl
   refine sc _ _ rfl (fun k hk=>c.now (w:=.bl (if ne then !k else k)) ?_ (BC _)) rx ry
   rw[hk,show decide (V.bl i=V.bl j)=decide (i=j)from by simp]
   exact h
  |_=>exact vd hu ne I rx ry hx hy h c
 |_=>exact vd hu ne I rx ry hx hy h c
theorem MQ(ne:Bool):J6 X (compareOp (if ne then .IsNot else .Is)) (XA ne) mS:=by
 intro pins s σ H B x y vx vy v u P Q I d rx ry hx hy h c
 have fin:vy=.aU->(∀k:Bool,k=decide (vx=.aU)->P (.bl (if ne then !k else k)))->wpAny (model X.prog X.w) X.A (compareOp (if ne then .IsNot else .Is) v u) (EP X pins σ Q) X.xe s:=fun e q=>by
  cases ne with
  |true=>exact Bt pins s σ H _ _ v u Q I rx ry ⟨e,c.now (q _ rfl) (BC _)⟩
  |false=>exact Om pins s σ H _ _ v u Q I rx ry ⟨e,c.now (q _ rfl) (BC _)⟩
 cases y with
 |aU=>
  have e:=hy.aU
  cases x with
  |aU=>
   have e2:=hx.aU
   refine fin e fun k hk=>?_
   rw[hk,e2]
   cases ne<;>exact h
  |bl b=>
   have e2:=hx.bl
   refine fin e fun k hk=>?_
   rw[hk,e2]
   cases ne<;>exact h
  |int b=>
   have e2:=hx.int
   refine fin e fun k hk=>?_
   rw[hk,e2]
   cases ne<;>exact h
  |str b=>
   have e2:=hx.str
   refine fin e fun k hk=>?_
   rw[hk,e2]
   cases ne<;>exact h
  |lst b=>
   obtain⟨p,vs,e2,_⟩:=hx.lst
   refine fin e fun k hk=>?_
   rw[hk,e2]
   cases ne<;>exact h
  |tup b=>
   obtain⟨p,vs,e2,_⟩:=hx.tup
   refine fin e fun k hk=>?_
   rw[hk,e2]
   cases ne<;>exact h
  |err b=>
   have hx:Rep X.K B H (.err b) vx:=hx
   rw[Rep]at hx
   obtain⟨p,e2,_⟩:=hx
   refine fin e fun k hk=>?_
   rw[hk,e2]
   cases ne<;>exact h
  |_=>exact h.elim
 |_=>
  exfalso
  cases x<;>exact h
theorem Ai(hu:X.A.units+64<cLine)(op:CmpOp):J6 X (compareOp op) (eT op) mS:=by
 cases op with
 |Eq=>exact MP hu false
 |NotEq=>exact MP hu true
 |Lt=>exact uY TR
 |LtE=>exact uY TU
 |Gt=>exact uY TV
 |GtE=>exact uY TY
 |Is=>exact MQ false
 |IsNot=>exact MQ true
 |_=>exact fun pins s σ H B x y vx vy v u P Q I d rx ry hx hy h c=>h.elim
end
noncomputable def ER(X:Cx)(H0:Hp)(R:Addr->Prop):Prop:=∃E:XK,Passes (cK X.prog X.w) X E/\(∀C H',R C->ay H0 H'->E (.ref C) none H')/\z9 X (fun C H'=>R C/\ay H0 H')
theorem Ea{X:Cx}:Passes (cK X.prog X.w) X E0:=fun _ _ _ _ _ _ _ h=>by
 obtain⟨_,_,_,_,_,q⟩:=h
 exact q.elim
theorem ER.none{X:Cx}{H0:Hp}:ER X H0 fun _=>False:=⟨E0,Ea,fun _ _ z=>z.elim,fun _ _ _ _ _ _ _ _ _ _ z=>z.1.elim⟩
abbrev RL:=(Addr->Prop)->Hp->Hp->W->V->Prop
abbrev WT:=Ev->(W->Prop)->Prop
noncomputable def O3(K:PySem.W.Frag)(m:Md):RL:=fun B H H' w v=>eO K B H H' m w v
noncomputable def Zg(K:PySem.W.Frag):RL:=fun B _ H' w v=>bf K B H' w v
noncomputable def tV(X:Cx)(M:Ms)(R:Addr->Prop)(ρ:RL)(t:WT):TE:=fun σ H Q=>∃A H0 ε P,SR X.K M A H0 σ H ε/\ER X H0 R/\t ε P/\∀w v H',P w->ay H H'->ρ (FB A M σ) H H' w v->Q v H'
noncomputable def Zh(X:Cx)(M:Ms)(R:Addr->Prop)(t:WT):TT:=fun σ H Q=>∃A H0 ε P,SR X.K M A H0 σ H ε/\ER X H0 R/\t ε P/\∀x H',P x->ay H H'->∃b,x=.bl b/\Q b H'
abbrev XC:=(Addr->Prop)->Hp->List W->List V->Prop
noncomputable def Zi(X:Cx)(M:Ms)(R:Addr->Prop)(ρ:XC)(t:Ev->(List W->Prop)->Prop):TA:=fun σ H Q=>∃A H0 ε P,SR X.K M A H0 σ H ε/\ER X H0 R/\t ε P/\∀ws vs H',P ws->ay H H'->ρ (FB A M σ) H' ws vs->Q vs H'
abbrev VE(X:Cx)(M:Ms)(R:Addr->Prop)(m:Md)(e:Expr)(t:WT):Prop:=PE X e (tV X M R (O3 X.K m) t)
abbrev VB(X:Cx)(M:Ms)(R:Addr->Prop)(e:Expr)(t:WT):Prop:=PE X e (tV X M R (Zg X.K) t)
abbrev VT(X:Cx)(M:Ms)(R:Addr->Prop)(e:Expr)(t:WT):Prop:=PT X e (Zh X M R t)
noncomputable def oB(K:PySem.W.Frag)(B:Addr->Prop)(H:Hp):List W->List V->Prop
 |[],vs=>vs=[]
 |w::ws,vs=>∃v r,vs=v::r/\bf K B H w v/\oB K B H ws r
noncomputable def ρL(K:PySem.W.Frag):XC:=fun B H ws vs=>aj K B H ws vs
noncomputable def XD(K:PySem.W.Frag):XC:=fun B H ws vs=>oB K B H ws vs
abbrev VA(X:Cx)(M:Ms)(R:Addr->Prop)(es:List Expr)(t:Ev->(List W->Prop)->Prop):Prop:=PA X es (Zi X M R (ρL X.K) t)
abbrev SA(X:Cx)(M:Ms)(R:Addr->Prop)(es:List Expr)(t:Ev->(List W->Prop)->Prop):Prop:=PA X es (Zi X M R (XD X.K) t)
theorem PE.imp{X:Cx}{e:Expr}{t t':TE}(h:PE X e t)(k:∀σ H Q,t' σ H Q->t σ H Q):PE X e t':=fun pins s σ H Q I w=>h pins s σ H Q I (k σ H Q w)
theorem PT.imp{X:Cx}{e:Expr}{t t':TT}(h:PT X e t)(k:∀σ H Q,t' σ H Q->t σ H Q):PT X e t':=fun pins s σ H Q I w=>h pins s σ H Q I (k σ H Q w)
theorem PW.imp{X:Cx}{e:Expr}{t t':TT}(h:PW X e t)(k:∀σ H Q,t' σ H Q->t σ H Q):PW X e t':=fun wh pins s σ H Q I w=>h wh pins s σ H Q I (k σ H Q w)
theorem PA.imp{X:Cx}{e:List Expr}{t t':TA}(h:PA X e t)(k:∀σ H Q,t' σ H Q->t σ H Q):PA X e t':=fun pos pins s σ H Q I w=>h pos pins s σ H Q I (k σ H Q w)
section
variable{X:Cx}{M:Ms}{R:Addr->Prop}{e a b c:Expr}{t ta tb tc:WT}{m:Md}{pos:Pos}
theorem Eb(h:VE X M R m e t):VE X M R .s e t:=PE.imp h<|by rintro σ H Q ⟨A,H0,ε,P,S,er,p,k⟩;exact⟨A,H0,ε,P,S,er,p,fun w v H' pw s r=>k w v H' pw s (r.s S.dom)⟩
theorem UJ(h:VE X M R m e t):VB X M R e t:=PE.imp h<|by rintro σ H Q ⟨A,H0,ε,P,S,er,p,k⟩;exact⟨A,H0,ε,P,S,er,p,fun w v H' pw s r=>k w v H' pw s (r.rep S.dom).b⟩
theorem Gg{i:Nat}(h:PE X e (nA i))(hm:aX M i->(i,.f)∈M):VB X M R e (fun ε Q=>match look ε i with|some w=>Q w|none=>False):=PE.imp h<|by
 rintro σ H Q ⟨A,H0,ε,P,S,er,p,k⟩
 revert p
 cases hl:look ε i with
 |none=>exact fun p=>p.elim
 |some w=>
  intro p
  by_cases hi:aX M i
  ·obtain⟨F,O⟩:=S.ow
   obtain⟨v,h1,h2⟩:=O.val i .f w (hm hi) hl
   rw[Fp]at h2
   obtain⟨ws,q,vs,rfl,rfl,_,h3,h4⟩:=h2
   exact⟨_,h1,k _ _ H p (ay.refl H) ⟨q,vs,rfl,.inl h3,h4⟩⟩
  ·obtain⟨v,h1,h2⟩:=S.sh i w hi hl
   exact⟨v,h1,k _ _ H p (ay.refl H) h2.b⟩
theorem O4{i:Nat}(h:PE X e (nA i))(hi:¬aX M i):VE X M R .s e (fun ε Q=>match look ε i with|some w=>Q w|none=>False):=PE.imp h<|by
 rintro σ H Q ⟨A,H0,ε,P,S,er,p,k⟩
 revert p
 cases hl:look ε i with
 |none=>exact fun p=>p.elim
 |some w=>
  intro p
  obtain⟨v,h1,h2⟩:=S.sh i w hi hl
  exact⟨v,h1,k _ _ H p (ay.refl H) (.of h2)⟩
noncomputable def ve(K:PySem.W.Frag)(i:Nat)(π:List nI):TE:=fun σ H Q=>∃v u,σ[i]?=some (some v)/\xm K H v π u/\Q u H
theorem Gh{i:Nat}{π:List nI}{m m':Md}{K:PySem.W.Frag}{A:Fz}{H0 H:Hp}{σ:St}{ε:Ev}{w u:W}(S:SR K M A H0 σ H ε)(hm:(i,m)∈M)(hp:kU m π=some m')(hl:look ε i=some w)(hu:cJ w π=some u):
 ∃v v' F,σ[i]?=some (some v)/\xm K H v π v'/\Fp K A.B H m' u v' F:=by
 obtain⟨F,O⟩:=S.ow
 obtain⟨v,h1,h2⟩:=O.val i m w hm hl
 obtain⟨v',F1,F',F2,_,r,fp,_⟩:=Fp.path π m h2 hp hu
 exact⟨v,v',F',h1,r,fp⟩
theorem xP{ε:Ev}{i:Nat}{π:List nI}{Q:W->Prop}(h:match look ε i with|some w=>(match cJ w π with|some u=>Q u|none=>False)|none=>False):∃w u,look ε i=some w/\cJ w π=some u/\Q u:=by
 cases hl:look ε i with
 |none=>rw[hl]at h;exact h.elim
 |some w=>
  rw[hl]at h
  dsimp only at h
  cases hu:cJ w π with
  |none=>rw[hu]at h;exact h.elim
  |some u=>rw[hu]at h;exact⟨w,u,rfl,hu,h⟩
theorem O5{i:Nat}{π:List nI}{m0:Md}(h:PE X e (ve X.K i π))(hm:(i,m0)∈M)(hp:kU m0 π=some .f):VB X M R e (fun ε Q=>match look ε i with|some w=>(match cJ w π with|some u=>Q u|none=>False)|none=>False):=PE.imp h<|by
 rintro σ H Q ⟨A,H0,ε,P,S,er,p,k⟩
 obtain⟨w,u,e1,e2,q⟩:=xP p
 obtain⟨v,v',F,h1,h2,h3⟩:=Gh S hm hp e1 e2
 rw[Fp]at h3
 obtain⟨ws,q',vs,rfl,rfl,_,h3,h4⟩:=h3
 exact⟨v,_,h1,h2,k _ _ H q (ay.refl H) ⟨q',vs,rfl,.inl h3,h4⟩⟩
theorem O6{i:Nat}{π:List nI}{m0:Md}(h:PE X e (ve X.K i π))(hm:(i,m0)∈M)(hp:kU m0 π=some .s):VE X M R .s e (fun ε Q=>match look ε i with|some w=>(match cJ w π with|some u=>Q u|none=>False)|none=>False):=PE.imp h<|by
 rintro σ H Q ⟨A,H0,ε,P,S,er,p,k⟩
 obtain⟨w,u,e1,e2,q⟩:=xP p
 obtain⟨v,v',F,h1,h2,h3⟩:=Gh S hm hp e1 e2
 rw[Fp]at h3
 exact⟨v,v',h1,h2,k _ _ H q (ay.refl H) (.of h3.2)⟩
theorem Ec{v:V}{w:W}(h:PE X e (tC v))(hr:∀B H,Rep X.K B H w v):VE X M R .s e (fun _ Q=>Q w):=PE.imp h<|by rintro σ H Q ⟨A,H0,ε,P,S,er,p,k⟩;exact k _ _ H p (ay.refl H) (.of (hr _ _))
theorem Gi{op:Operator}(ha:VB X M R a ta)(hb:VB X M R b tb)(hm:∀x y,Kc op x y=m\/m=.s):VE X M R m (.BinOp a op b pos) (fun ε Q=>ta ε fun x=>tb ε fun y=>fW op x y Q):=by
 rintro pins s σ H Q I ⟨A,H0,ε,P,S,er,p,k⟩
 refine wpAny_BinOp (bin ha hb I (R:=fun vx vy H2=>∃x y,fW op x y P/\ay H H2/\bf X.K (FB A M σ) H2 x vx/\bf X.K (FB A M σ) H2 y vy) ⟨A,H0,ε,_,S,er,p,fun x vx H1 hx s1 rx=>⟨A,H0,ε,_,S.same s1,er,hx,fun y vy H2 hy s2 ry=>⟨x,y,hy,s1.trans s2,bf.same s2 rx,ry⟩⟩⟩ ?_)
 rintro v u s2 vx vy H2 I2 rv ru ⟨x,y,h,sm,hx,hy⟩
 have d:=(S.same sm).dom
 refine Ah op pins s2 σ H2 (FB A M σ) x y vx vy v u P Q I2 d rv ru hx hy h ?_
 have c:Cont X.K (FB A M σ) H2 m P Q:=fun w z H' pw s' r=>k w z H' pw (sm.trans s') (r.back sm fun _ z=>z)
 rcases hm x y with e|e
 ·rw[e];exact c
 ·subst e;exact Cont.s d c
end
theorem cg{x:W}{Q:Bool->Prop}(h:truth x Q):∃b,x=.bl b/\Q b:=by
 cases x with
 |bl b=>exact⟨b,rfl,h⟩
 |_=>exact h.elim
theorem Rep.qu{K:PySem.W.Frag}{B:Addr->Prop}{H:Hp}{b:Bool}{v:V}(h:Rep K B H (.bl b) v):v=.bl b:=by rw[Rep]at h;exact h
theorem Rep.int_inv{K:PySem.W.Frag}{B:Addr->Prop}{H:Hp}{b:Int}{v:V}(h:Rep K B H (.int b) v):v=.int b:=by rw[Rep]at h;exact h
theorem eO.bG{K:PySem.W.Frag}{B:Addr->Prop}{H H':Hp}{w:W}{v:V}(h:eO K B H H' .s w v):Rep K B H' w v:=by
 obtain⟨F,_,_,h⟩:=h
 rw[Fp]at h
 obtain⟨rfl,h⟩:=h
 exact h.less fun p z=>.inl z
section
variable{X:Cx}{M:Ms}{R:Addr->Prop}{e a b c:Expr}{t ta tb tc:WT}{m:Md}{pos:Pos}{rest es:List Expr}
noncomputable def O7:W->Bool
 |.lst _=>true
 |_=>false
theorem O8{op:Operator}{x y:W}{P:W->Prop}(h:fW op x y P)(ho:(op=.Add/\(O7 x=true\/O7 y=true))\/(op=.Mult/\O7 x=true)):Kc op x y=.f:=by
 rcases ho with⟨rfl,ho⟩|⟨rfl,ho⟩
 ·cases x with
  |lst l=>rfl
  |_=>
   rcases ho with ho|ho
   ·cases ho
   ·cases y<;>first|exact h.elim|exact ff ho
 ·cases x<;>first|rfl|exact ff ho
theorem Aj{op:Operator}{XE XF:RL}(ha:PE X a (tV X M R XE ta))(hb:PE X b (tV X M R XF tb))(h1:∀B H H' w v,Dom B H->XE B H H' w v->bf X.K B H' w v)(h2:∀B H H' w v,Dom B H->XF B H H' w v->bf X.K B H' w v)
 (ho:∀B H H' w v B2 H2 H2' w2 v2,XE B H H' w v->XF B2 H2 H2' w2 v2->(op=.Add/\(O7 w=true\/O7 w2=true))\/(op=.Mult/\O7 w=true)):VE X M R .f (.BinOp a op b pos) (fun ε Q=>ta ε fun x=>tb ε fun y=>fW op x y Q):=by
 rintro pins s σ H Q I ⟨A,H0,ε,P,S,er,p,k⟩
 refine wpAny_BinOp (bin ha hb I (R:=fun vx vy H2=>∃x y,fW op x y P/\ay H H2/\bf X.K (FB A M σ) H2 x vx/\bf X.K (FB A M σ) H2 y vy/\Kc op x y=.f) ⟨A,H0,ε,_,S,er,p,fun x vx H1 hx s1 rx=>⟨A,H0,ε,_,S.same s1,er,hx,fun y vy H2 hy s2 ry=>⟨x,y,hy,s1.trans s2,bf.same s2 (h1 _ _ _ _ _ S.dom rx),h2 _ _ _ _ _ (S.same s1).dom ry,O8 hy (ho _ _ _ _ _ _ _ _ _ _ rx ry)⟩⟩⟩ ?_)
 rintro v u s2 vx vy H2 I2 rv ru ⟨x,y,h,sm,hx,hy,em⟩
 have d:=(S.same sm).dom
 refine Ah op pins s2 σ H2 (FB A M σ) x y vx vy v u P Q I2 d rv ru hx hy h ?_
 rw[em]
 exact fun w z H' pw s' r=>k w z H' pw (sm.trans s') (r.back sm fun _ z=>z)
theorem O9(ha:VE X M R .s a ta):VE X M R .s (.UnaryOp .USub a pos) (fun ε Q=>ta ε fun x=>match x with|.int i=>Q (.int (-i))|_=>False):=PE.imp (TM Oj ha)<|by
 rintro σ H Q ⟨A,H0,ε,P,S,er,p,k⟩
 refine⟨A,H0,ε,_,S,er,p,fun x vx H1 hx s1 rx=>?_⟩
 cases x with
 |int i=>exact⟨i,rx.bG.int_inv,k _ _ H1 hx s1 (.of (iB _))⟩
 |_=>exact hx.elim
theorem Pa(ha:VE X M R .s a ta):VE X M R .s (.UnaryOp .Not a pos) (fun ε Q=>ta ε fun x=>truth x fun b=>Q (.bl (!b))):=PE.imp (NX ha)<|by
 rintro σ H Q ⟨A,H0,ε,P,S,er,p,k⟩
 refine⟨A,H0,ε,_,S,er,p,fun x vx H1 hx s1 rx=>?_⟩
 obtain⟨b,rfl,hx⟩:=cg hx
 exact⟨b,rx.bG.qu,k _ _ H1 hx s1 (.of (BC _))⟩
theorem Pb{op:CmpOp}(hu:X.A.units+64<cLine)(hm:behindInMarks op b=false)(ha:VB X M R a ta)(hb:VB X M R b tb):VE X M R .s (.Compare a [op] [b] pos) (fun ε Q=>ta ε fun x=>tb ε fun y=>eT op x y Q):=by
 rintro pins s σ H Q I ⟨A,H0,ε,P,S,er,p,k⟩
 refine wpAny_Compare1 (bin ha hb I (R:=fun vx vy H2=>∃x y,eT op x y P/\ay H H2/\bf X.K (FB A M σ) H2 x vx/\bf X.K (FB A M σ) H2 y vy) ⟨A,H0,ε,_,S,er,p,fun x vx H1 hx s1 rx=>⟨A,H0,ε,_,S.same s1,er,hx,fun y vy H2 hy s2 ry=>⟨x,y,hy,s1.trans s2,bf.same s2 rx,ry⟩⟩⟩ ?_) hm
 rintro v u s2 vx vy H2 I2 rv ru ⟨x,y,h,sm,hx,hy⟩
 exact Ai hu op pins s2 σ H2 (FB A M σ) x y vx vy v u P Q I2 (S.same sm).dom rv ru hx hy h fun w z H' pw s' r=>k w z H' pw (sm.trans s') (r.back sm fun _ z=>z)
theorem Pc{op:CmpOp}(hu:X.A.units+64<cLine)(hm:behindInMarks op b=false)(ha:VB X M R a ta)(hb:VB X M R b tb):VT X M R (.Compare a [op] [b] pos) (fun ε Q=>ta ε fun x=>tb ε fun y=>eT op x y Q):=by
 rintro pins s σ H Q I ⟨A,H0,ε,P,S,er,p,k⟩
 have q:=bin ha hb I (R:=fun vx vy H2=>∃x y,eT op x y P/\ay H H2/\bf X.K (FB A M σ) H2 x vx/\bf X.K (FB A M σ) H2 y vy) ⟨A,H0,ε,_,S,er,p,fun x vx H1 hx s1 rx=>⟨A,H0,ε,_,S.same s1,er,hx,fun y vy H2 hy s2 ry=>⟨x,y,hy,s1.trans s2,bf.same s2 rx,ry⟩⟩⟩
  (f:=compareOp op) (Q:=EP X pins σ fun z H'=>∃b,z=.bl b/\Q b H')<|by
    rintro v u s2 vx vy H2 I2 rv ru ⟨x,y,h,sm,hx,hy⟩
    refine Ai hu op pins s2 σ H2 (FB A M σ) x y vx vy v u _ _ I2 (S.same sm).dom rv ru hx hy h fun w z H' pw s' r=>?_
    obtain⟨b,rfl,q⟩:=k w H' pw (sm.trans s')
    exact⟨b,r.bG.qu,q⟩
 refine wpAny_isTrue_Compare1 (bE q fun v s1 q1=>bE q1 fun u s2 q2=>bE q2 fun c s3 ⟨z,H3,I3,r3,b,ez,q3⟩=>?_) hm
 subst ez
 cases r3
 exact wpAny_truthy_bool ⟨H3,I3,q3⟩
theorem Pd(ha:VE X M R .s a ta)(hb:VE X M R .s (.BoolOp .And (b::rest) pos) tb):VE X M R .s (.BoolOp .And (a::b::rest) pos) (fun ε Q=>ta ε fun x=>truth x fun k=>if k=true then tb ε Q else Q (.bl false)):=
 PE.imp (zK ha hb)<|by
  rintro σ H Q ⟨A,H0,ε,P,S,er,h,k⟩
  refine⟨A,H0,ε,_,S,er,h,fun x vx H1 hx s1 rx=>?_⟩
  obtain⟨q,rfl,hx⟩:=cg hx
  refine⟨q,rx.bG.qu,?_⟩
  cases q with
  |true=>exact⟨A,H0,ε,_,S.same s1,er,hx,fun y vy H2 hy s2 ry=>k _ _ H2 hy (s1.trans s2) (ry.back s1 fun _ z=>z)⟩
  |false=>exact k _ _ H1 hx s1 (.of (BC _))
theorem UK(ha:VE X M R .s a ta)(hb:VE X M R .s (.BoolOp .Or (b::rest) pos) tb):VE X M R .s (.BoolOp .Or (a::b::rest) pos) (fun ε Q=>ta ε fun x=>truth x fun k=>if k=true then Q (.bl true)else tb ε Q):=
 PE.imp (Tr ha hb)<|by
  rintro σ H Q ⟨A,H0,ε,P,S,er,h,k⟩
  refine⟨A,H0,ε,_,S,er,h,fun x vx H1 hx s1 rx=>?_⟩
  obtain⟨q,rfl,hx⟩:=cg hx
  refine⟨q,rx.bG.qu,?_⟩
  cases q with
  |false=>exact⟨A,H0,ε,_,S.same s1,er,hx,fun y vy H2 hy s2 ry=>k _ _ H2 hy (s1.trans s2) (ry.back s1 fun _ z=>z)⟩
  |true=>exact k _ _ H1 hx s1 (.of (BC _))
abbrev MR(X:Cx)(M:Ms)(R:Addr->Prop)(e:Expr)(t:WT):Prop:=PW X e (Zh X M R t)
theorem Kf(ha:VT X M R a ta):MR X M R (.BoolOp .And [a] pos) ta:=Jq ha
theorem Pe(ha:VT X M R a ta):MR X M R (.BoolOp .Or [a] pos) ta:=NU ha
theorem Pf(ha:VT X M R a ta)(hb:MR X M R (.BoolOp .And (b::rest) pos) tb):MR X M R (.BoolOp .And (a::b::rest) pos) (fun ε Q=>ta ε fun x=>truth x fun k=>if k=true then tb ε Q else Q (.bl false)):=
 PW.imp (NV ha hb)<|by
  rintro σ H Q ⟨A,H0,ε,P,S,er,h,k⟩
  refine⟨A,H0,ε,_,S,er,h,fun x H1 hx s1=>?_⟩
  obtain⟨q,rfl,hx⟩:=cg hx
  refine⟨q,rfl,?_⟩
  cases q with
  |true=>exact⟨A,H0,ε,P,S.same s1,er,hx,fun y H2 hy s2=>k _ H2 hy (s1.trans s2)⟩
  |false=>
   obtain⟨b,e,q⟩:=k _ H1 hx s1
   cases e
   exact q
theorem UL(ha:VT X M R a ta)(hb:MR X M R (.BoolOp .Or (b::rest) pos) tb):MR X M R (.BoolOp .Or (a::b::rest) pos) (fun ε Q=>ta ε fun x=>truth x fun k=>if k=true then Q (.bl true)else tb ε Q):=
 PW.imp (To ha hb)<|by
  rintro σ H Q ⟨A,H0,ε,P,S,er,h,k⟩
  refine⟨A,H0,ε,_,S,er,h,fun x H1 hx s1=>?_⟩
  obtain⟨q,rfl,hx⟩:=cg hx
  refine⟨q,rfl,?_⟩
  cases q with
  |false=>exact⟨A,H0,ε,P,S.same s1,er,hx,fun y H2 hy s2=>k _ H2 hy (s1.trans s2)⟩
  |true=>
   obtain⟨b,e,q⟩:=k _ H1 hx s1
   cases e
   exact q
theorem Pg(ha:VT X M R a ta):VT X M R (.UnaryOp .Not a pos) (fun ε Q=>ta ε fun x=>truth x fun b=>Q (.bl (!b))):=PT.imp (NW ha)<|by
 rintro σ H Q ⟨A,H0,ε,P,S,er,h,k⟩
 refine⟨A,H0,ε,_,S,er,h,fun x H1 hx s1=>?_⟩
 obtain⟨q,rfl,hx⟩:=cg hx
 obtain⟨b,e,z⟩:=k _ H1 hx s1
 cases e
 exact⟨q,rfl,z⟩
theorem vf(he:∀whole,isTrue e X.env whole=(do let v←whole;standAt e.pos;holding [v] (truthy v)))(h:VE X M R .s e t):VT X M R e t:=PT.imp (NT h he)<|by
 rintro σ H Q ⟨A,H0,ε,P,S,er,h,k⟩
 refine⟨A,H0,ε,P,S,er,h,fun x vx H1 hx s1 rx=>?_⟩
 obtain⟨b,rfl,z⟩:=k _ H1 hx s1
 exact⟨b,rx.bG.qu,z⟩
theorem Gj(hc:VT X M R c tc)(ha:VE X M R m a ta)(hb:VE X M R m b tb):VE X M R m (.IfExp c a b pos) (fun ε Q=>tc ε fun x=>truth x fun k=>if k=true then ta ε Q else tb ε Q):=PE.imp (Fl hc ha hb)<|by
 rintro σ H Q ⟨A,H0,ε,P,S,er,h,k⟩
 refine⟨A,H0,ε,_,S,er,h,fun x H1 hx s1=>?_⟩
 obtain⟨q,rfl,hx⟩:=cg hx
 refine⟨q,rfl,?_⟩
 cases q with
 |true=>exact⟨A,H0,ε,_,S.same s1,er,hx,fun y vy H2 hy s2 ry=>k _ _ H2 hy (s1.trans s2) (ry.back s1 fun _ z=>z)⟩
 |false=>exact⟨A,H0,ε,_,S.same s1,er,hx,fun y vy H2 hy s2 ry=>k _ _ H2 hy (s1.trans s2) (ry.back s1 fun _ z=>z)⟩
theorem Ph:VA X M R [] (fun _ Q=>Q []):=PA.imp aZ<|by rintro σ H Q ⟨A,H0,ε,P,S,er,h,k⟩;exact k [] [] H h (ay.refl H) .nil
theorem Kg{tr:Ev->(List W->Prop)->Prop}(hs:starEach (a::es) X.env=(false,eval a X.env)::starEach es X.env)(ha:VE X M R .s a ta)(hr:VA X M R es tr):VA X M R (a::es) (fun ε Q=>ta ε fun x=>tr ε fun xs=>Q (x::xs)):=
 PA.imp (au ha hr hs)<|by
  rintro σ H Q ⟨A,H0,ε,P,S,er,h,k⟩
  refine⟨A,H0,ε,_,S,er,h,fun x vx H1 hx s1 rx=>⟨A,H0,ε,_,S.same s1,er,hx,fun xs vs H2 hxs s2 rs=>?_⟩⟩
  exact k _ _ H2 hxs (s1.trans s2) (.cons (rx.bG.same s2) rs)
theorem Kh:SA X M R [] (fun _ Q=>Q []):=PA.imp aZ<|by rintro σ H Q ⟨A,H0,ε,P,S,er,h,k⟩;exact k [] [] H h (ay.refl H) rfl
theorem Gk{tr:Ev->(List W->Prop)->Prop}(hs:starEach (a::es) X.env=(false,eval a X.env)::starEach es X.env)(ha:VB X M R a ta)(hr:SA X M R es tr):SA X M R (a::es) (fun ε Q=>ta ε fun x=>tr ε fun xs=>Q (x::xs)):=
 PA.imp (au ha hr hs)<|by
  rintro σ H Q ⟨A,H0,ε,P,S,er,h,k⟩
  refine⟨A,H0,ε,_,S,er,h,fun x vx H1 hx s1 rx=>⟨A,H0,ε,_,S.same s1,er,hx,fun xs vs H2 hxs s2 rs=>?_⟩⟩
  exact k _ _ H2 hxs (s1.trans s2) ⟨vx,vs,rfl,bf.same s2 rx,rs⟩
theorem Pj{ts:Ev->(List W->Prop)->Prop}(h:VA X M R es ts):VE X M R .f (.List es pos) (fun ε Q=>ts ε fun ws=>ws.length<=sizeLine/\Q (.lst ws)):=PE.imp (uO h)<|by
 rintro σ H Q ⟨A,H0,ε,P,S,er,h,k⟩
 refine⟨A,H0,ε,_,S,er,h,fun ws vs H1 hx s1 rs=>?_⟩
 refine⟨by rw[aj.len rs];exact hx.1,fun p hp=>?_⟩
 exact k _ _ _ hx.2 (s1.trans (aL hp _)) (.fresh s1 hp rs)
theorem Pk{ts:Ev->(List W->Prop)->Prop}{x1:Nat}(h:VA X M R es ts):VE X M R .s (.Tuple es x1 pos) (fun ε Q=>ts ε fun ws=>ws.length<=sizeLine/\Q (.tup ws)):=PE.imp (FE h)<|by
 rintro σ H Q ⟨A,H0,ε,P,S,er,h,k⟩
 refine⟨A,H0,ε,_,S,er,h,fun ws vs H1 hx s1 rs=>?_⟩
 refine⟨by rw[aj.len rs];exact hx.1,fun p hp=>?_⟩
 exact k _ _ _ hx.2 (s1.trans (aL hp _)) (.of (DZ aD (aj.same (aL hp _) rs)))
theorem BF{K:PySem.W.Frag}{B:Addr->Prop}{H:Hp}{l:List W}{vs:List V}{i:Int}{w:W}(h:aj K B H l vs)(e:kP l i=some w):∃v,kP vs i=some v/\Rep K B H w v:=by
 unfold kP at e⊢
 rw[h.len]
 cases hj:zD l.length i with
 |none=>rw[hj]at e;exact nn e
 |some j=>
  rw[hj]at e
  exact h.get e
theorem bf.gy{K:PySem.W.Frag}{B:Addr->Prop}{H:Hp}{ns:List Int}{v:V}(h:bf K B H (.gy ns) v):∃p,v=.ref p/\ir K H p (ns.map V.int):=by
 have h:Rep K B H (.gy ns) v:=h
 rw[Rep]at h
 obtain⟨p,e,h⟩:=h
 refine⟨p,e,?_⟩
 rcases h with⟨o,h⟩|h
 ·exact .inl (.inr ⟨o,h⟩)
 ·rcases h with(h|⟨o,h⟩)|h
  ·cases h
  ·cases h
  ·exact .inr h
theorem BG{ns:List Int}{i n:Int}(e:kP ns i=some n):kP (ns.map V.int) i=some (.int n):=by
 unfold kP at e⊢
 rw[Ap]
 cases hj:zD ns.length i with
 |none=>rw[hj]at e;exact nn e
 |some j=>
  rw[hj]at e
  show(ns.map V.int)[j]?=_
  have e:ns[j]?=some n:=e
  rw[FS,e]
  rfl
theorem UM(hs:lM b)(ha:VB X M R a ta)(hb:VE X M R .s b tb):VE X M R .s (.Subscript a b pos) (fun ε Q=>ta ε fun x=>tb ε fun y=>Ge x y Q):=PE.imp (FH zZ ha hb hs)<|by
 rintro σ H Q ⟨A,H0,ε,P,S,er,h,k⟩
 refine⟨A,H0,ε,_,S,er,h,fun x vx H1 hx s1 rx=>⟨A,H0,ε,_,S.same s1,er,hx,fun y vy H2 hy s2 ry=>?_⟩⟩
 have rx:=bf.same s2 rx
 cases x with
 |lst l=>
  cases y with
  |int i=>
   obtain⟨p,vs,rfl,h1,h2⟩:=rx.lst
   obtain⟨w,e,hy⟩:=hy
   obtain⟨v,e2,h3⟩:=BF h2 e
   exact .inl ⟨p,vs,i,v,rfl,ry.bG.int_inv,.inl h1,e2,k _ _ H2 hy (s1.trans s2) (.of h3)⟩
  |_=>exact hy.elim
 |tup l=>
  cases y with
  |int i=>
   obtain⟨p,vs,rfl,h1,h2⟩:=rx.tup
   obtain⟨w,e,hy⟩:=hy
   obtain⟨v,e2,h3⟩:=BF h2 e
   exact .inr (.inl ⟨p,vs,i,v,rfl,ry.bG.int_inv,h1,e2,k _ _ H2 hy (s1.trans s2) (.of h3)⟩)
  |_=>exact hy.elim
 |gy ns=>
  cases y with
  |int i=>
   obtain⟨p,rfl,h1⟩:=rx.gy
   obtain⟨n,e,hy⟩:=hy
   exact .inl ⟨p,_,i,_,rfl,ry.bG.int_inv,h1,BG e,k _ _ H2 hy (s1.trans s2) (.of (iB _))⟩
  |_=>exact hy.elim
 |_=>exact hy.elim
theorem MS{K:PySem.W.Frag}{B:Addr->Prop}{H:Hp}{l:List W}{vs:List V}(h:aj K B H l vs)(lo hi:Option Int):aj K B H (nK l lo hi) (DE vs lo hi):=by
 unfold nK DE
 rw[h.len]
 exact(h.drop _).take _
noncomputable def UN(X:Cx)(M:Ms)(R:Addr->Prop)(t:Ev->(Option Int->Prop)->Prop):TO:=fun σ H Q=>∃A H0 ε P,SR X.K M A H0 σ H ε/\ER X H0 R/\t ε P/\∀o H',P o->ay H H'->Q o H'
theorem PO.imp{e:Option Expr}{t t':TO}(h:PO X e t)(k:∀σ H Q,t' σ H Q->t σ H Q):PO X e t':=fun pins s σ H Q I w=>h pins s σ H Q I (k σ H Q w)
theorem Kl:PO X none (UN X M R fun _ Q=>Q none):=PO.imp JE<|by rintro σ H Q ⟨A,H0,ε,P,S,er,h,k⟩;exact k none H h (ay.refl H)
theorem Km(ha:VE X M R .s a ta):PO X (some a) (UN X M R fun ε Q=>ta ε fun y=>match y with|.int i=>Q (some i)|_=>False):=PO.imp (JF ha)<|by
 rintro σ H Q ⟨A,H0,ε,P,S,er,h,k⟩
 refine⟨A,H0,ε,_,S,er,h,fun x vx H1 hx s1 rx=>?_⟩
 cases x with
 |int i=>exact⟨i,rx.bG.int_inv,k _ H1 hx s1⟩
 |_=>exact hx.elim
theorem UO{lo hi:Option Expr}{p2:Pos}{tl th:Ev->(Option Int->Prop)->Prop}(ha:VB X M R a ta)(hl:PO X lo (UN X M R tl))(hh:PO X hi (UN X M R th)):VE X M R .f (.Subscript a (.Slice lo hi none p2) pos) (fun ε Q=>ta ε fun x=>tl ε fun l=>th ε fun h=>Wk x l h Q):=
 PE.imp (FG JJ ha hl hh)<|by
  rintro σ H Q ⟨A,H0,ε,P,S,er,h,k⟩
  refine⟨A,H0,ε,_,S,er,h,fun x vx H1 hx s1 rx=>⟨A,H0,ε,_,S.same s1,er,hx,fun l H2 hl s2=>⟨A,H0,ε,_,S.same (s1.trans s2),er,hl,fun h H3 hh s3=>?_⟩⟩⟩
  have rx:=bf.same (s2.trans s3) rx
  cases x with
  |lst ws=>
   obtain⟨p,vs,rfl,h1,h2⟩:=rx.lst
   refine⟨p,vs,rfl,.inl h1,fun q hq=>?_⟩
   exact k _ _ _ hh (((s1.trans s2).trans s3).trans (aL hq _)) (.fresh ((s1.trans s2).trans s3) hq (MS h2 l h))
  |gy ns=>
   obtain⟨p,rfl,h1⟩:=rx.gy
   refine⟨p,_,rfl,h1,fun q hq=>?_⟩
   exact k _ _ _ hh (((s1.trans s2).trans s3).trans (aL hq _)) (.fresh ((s1.trans s2).trans s3) hq (MS (aj.J0 ns) l h))
  |_=>exact hh.elim
noncomputable def UP:BI->Md
 |.list=>.f
 |_=>.s
noncomputable def ju(X:Cx)(f:Value)(b:BI):Prop:=
 ∀(pins:List (Addr×Obj)) (s:Shared) (σ:St) (H:Hp) (B:Addr->Prop) (ws:List W) (vs:List V) (us:List Value) (P:KP) (Q:VK),Inv X pins σ H s->Dom B H->Vals vs us->oB X.K B H ws vs->qo b ws P->Cont X.K B H (UP b) P Q->
  wpAny (model X.prog X.w) X.A (call f us) (EP X pins σ Q) X.xe s
noncomputable def SD(K:PySem.W.Frag)(b:BI):List V->Hp->VK->Prop:=fun vs H Q=>∃(B:Addr->Prop) (ws:List W) (P:KP),Dom B H/\oB K B H ws vs/\qo b ws P/\Cont K B H (UP b) P Q
theorem ju.r{f:Value}{b:BI}(h:ju X f b):dg X f (SD X.K b):=by rintro pins s σ H vs us Q I r ⟨B,ws,P,d,h1,h2,k⟩;exact h pins s σ H B ws vs us P Q I d r h1 h2 k
theorem jd{K:PySem.W.Frag}{B:Addr->Prop}{H:Hp}{w:W}{vs:List V}(h:oB K B H [w] vs):∃v,vs=[v]/\bf K B H w v:=by
 obtain⟨v,r,rfl,h1,h2⟩:=h
 cases(show r=[]from h2)
 exact⟨v,rfl,h1⟩
theorem Gm{K:PySem.W.Frag}{B:Addr->Prop}{H:Hp}{w w':W}{vs:List V}(h:oB K B H [w,w'] vs):∃v v',vs=[v,v']/\bf K B H w v/\bf K B H w' v':=by
 obtain⟨v,r,rfl,h1,h2⟩:=h
 obtain⟨v',rfl,h3⟩:=jd h2
 exact⟨v,v',rfl,h1,h3⟩
theorem cw_len:ju X (.builtin "len") .len:=by
 intro pins s σ H B ws vs us P Q I d r hb h c
 match ws,h with
 |[.lst l],h=>
  obtain⟨v,rfl,h1⟩:=jd hb
  obtain⟨p,xs,rfl,h1,h2⟩:=h1.lst
  exact iR pins s σ H _ us Q I r ⟨p,xs,rfl,.inl (.inl h1),c.now (w:=.int xs.length) (by rw[h2.len];exact h) (iB _)⟩
 |[.tup l],h=>
  obtain⟨v,rfl,h1⟩:=jd hb
  obtain⟨p,xs,rfl,h1,h2⟩:=h1.tup
  exact iR pins s σ H _ us Q I r ⟨p,xs,rfl,.inr h1,c.now (w:=.int xs.length) (by rw[h2.len];exact h) (iB _)⟩
 |[.gy ns],h=>
  obtain⟨v,rfl,h1⟩:=jd hb
  obtain⟨p,rfl,h2⟩:=h1.gy
  exact iR pins s σ H _ us Q I r ⟨p,_,rfl,.inl h2,c.now (w:=.int ns.length) h (by rw[Ap];exact iB _)⟩
theorem cw_abs:ju X (.builtin "abs") .abs:=by
 intro pins s σ H B ws vs us P Q I d r hb h c
 match ws,h with
 |[.int i],h=>
  obtain⟨v,rfl,h1⟩:=jd hb
  cases h1.int
  exact Fy pins s σ H _ us Q I r ⟨i,rfl,c.now h (iB _)⟩
theorem cw_max(hc:X.calm=true):ju X (.builtin "max") .max2:=by
 intro pins s σ H B ws vs us P Q I d r hb h c
 match ws,h with
 |[.int i,.int j],h=>
  obtain⟨v,v',rfl,h1,h2⟩:=Gm hb
  cases h1.int
  cases h2.int
  exact Dr hc pins s σ H _ us Q I r ⟨i,j,rfl,c.now h (iB _)⟩
theorem cw_min(hc:X.calm=true):ju X (.builtin "min") .min2:=by
 intro pins s σ H B ws vs us P Q I d r hb h c
 match ws,h with
 |[.int i,.int j],h=>
  obtain⟨v,v',rfl,h1,h2⟩:=Gm hb
  cases h1.int
  cases h2.int
  exact Ds hc pins s σ H _ us Q I r ⟨i,j,rfl,c.now h (iB _)⟩
theorem cw_sum(hc:X.calm=true):ju X (.builtin "sum") .sum:=by
 intro pins s σ H B ws vs us P Q I d r hb h c
 match ws,h with
 |[.lst l],h=>
  obtain⟨ns,rfl,h⟩:=h
  obtain⟨v,rfl,h1⟩:=jd hb
  obtain⟨p,xs,rfl,h1,h2⟩:=h1.lst
  have e:=aj.ints h2
  subst e
  exact DQ hc pins s σ H _ us Q I r ⟨p,ns,rfl,.inl h1,c.now h (iB _)⟩
theorem cw_all(hc:X.calm=true):ju X (.builtin "all") .all:=by
 intro pins s σ H B ws vs us P Q I d r hb h c
 match ws,h with
 |[.lst l],h=>
  obtain⟨bs,rfl,h⟩:=h
  obtain⟨v,rfl,h1⟩:=jd hb
  obtain⟨p,xs,rfl,h1,h2⟩:=h1.lst
  have e:=aj.bls h2
  subst e
  exact DR hc pins s σ H _ us Q I r ⟨p,bs,rfl,.inl h1,c.now h (BC _)⟩
theorem cw_list:ju X (.type "list") .list:=by
 intro pins s σ H B ws vs us P Q I d r hb h c
 match ws,h with
 |[.lst l],h=>
  obtain⟨v,rfl,h1⟩:=jd hb
  obtain⟨p,xs,rfl,h1,h2⟩:=h1.lst
  exact lN pins s σ H _ us Q I r ⟨p,xs,rfl,.inl (.inl h1),fun q hq=>c _ _ _ h (aL hq _) (.fresh (ay.refl H) hq h2)⟩
 |[.tup l],h=>
  obtain⟨v,rfl,h1⟩:=jd hb
  obtain⟨p,xs,rfl,h1,h2⟩:=h1.tup
  exact lN pins s σ H _ us Q I r ⟨p,xs,rfl,.inr h1,fun q hq=>c _ _ _ h (aL hq _) (.fresh (ay.refl H) hq h2)⟩
theorem cw_int:ju X (.type "int") .int:=by
 intro pins s σ H B ws vs us P Q I d r hb h c
 match ws,h with
 |[.bl i],h=>
  obtain⟨v,rfl,h1⟩:=jd hb
  cases h1.bl
  exact Du pins s σ H _ us Q I r (.inr ⟨i,rfl,c.now h (iB _)⟩)
theorem cw_tuple:ju X (.type "tuple") .tuple:=by
 intro pins s σ H B ws vs us P Q I d r hb h c
 match ws,h with
 |[.lst l],h=>
  obtain⟨v,rfl,h1⟩:=jd hb
  obtain⟨p,xs,rfl,h1,h2⟩:=h1.lst
  exact j7 pins s σ H _ us Q I r ⟨p,xs,rfl,.inl ⟨.inl h1,fun q hq=>c _ _ _ h (aL hq _) (.of (DZ aD (aj.same (aL hq _) h2)))⟩⟩
 |[.tup l],h=>
  obtain⟨v,rfl,h1⟩:=jd hb
  obtain⟨p,xs,rfl,UH,h2⟩:=h1.UC
  have h1:lG X.K H p xs:=lG.of UH
  exact j7 pins s σ H _ us Q I r ⟨p,xs,rfl,.inr ⟨h1,c.now h (DZ UH h2)⟩⟩
noncomputable def xQ(K:PySem.W.Frag):Prop:=∀a∈["NoneType","bool","int","str","list","tuple"],∀b∈["int","bool","tuple","list","str","dict"],PySem.W.kitOne K (.type a) (.type b)=some (DY a b)
theorem cw_isi(hk:xQ X.K):dg X (.builtin "isinstance") (fun vs H Q=>∃(B:Addr->Prop) (w:W) (n:String) (P:KP),n∈["int","bool","tuple","list","str","dict"]/\oB X.K B H [w,.ty n] vs/\qo .BB [w,.ty n] P/\Cont X.K B H .s P Q):=by
 rintro pins s σ H vs us Q I r ⟨B,w,n,P,hn,hb,h,c⟩
 obtain⟨v,v',rfl,h1,h2⟩:=Gm hb
 cases h2.ty
 obtain⟨a,ha,h⟩:=h
 have fin:Q (.bl (DY a n)) H:=c.now h (BC _)
 obtain⟨u1,u2,rfl,r1,r2⟩:=vals2 r
 cases(show u2=Value.type n from r2)
 have kk:∀a',a'∈["NoneType","bool","int","str","list","tuple"]->a=a'->PySem.W.kitOne X.K (.type a') (.type n)=some (DY a n):=fun a' m e=>by rw[e];exact hk a' m n hn
 have go:∀tk:Tok,EP X pins σ Q (.bool (DY a n)) {s with toks:=tk}:=fun tk=>⟨.bl _,H,I.tok _,rfl,fin⟩
 cases w with
 |aU=>
  cases h1.aU
  cases ha
  exact fM I r1 .aU (kk _ (by simp) rfl) go
 |bl b=>
  cases h1.bl
  cases ha
  exact fM I r1 (.bl b) (kk _ (by simp) rfl) go
 |int b=>
  cases h1.int
  cases ha
  exact fM I r1 (.int b) (kk _ (by simp) rfl) go
 |str b=>
  cases h1.str
  cases ha
  exact fM I r1 (.str b) (kk _ (by simp) rfl) go
 |lst l=>
  obtain⟨p,xs,rfl,q1,q2⟩:=h1.lst
  cases ha
  rcases q1 with q1|⟨o,q1⟩
  ·exact fM I r1 (.lst q1) (kk _ (by simp) rfl) go
  ·exact fM I r1 (.xr q1) (kk _ (by simp) rfl) go
 |tup l=>
  obtain⟨p,xs,rfl,q1,q2⟩:=h1.tup
  cases ha
  cases(show u1=Value.ref p from r1)
  obtain⟨its,r',⟨o,e1,e2,_⟩,_⟩:=I.tuple q1
  exact QP PySem.W.kitx_tuple I.j6 ⟨o,e1,e2⟩ (kk _ (by simp) rfl) (fun z=>nomatch z) go
 |_=>exact nn ha
end
noncomputable def MT(K:PySem.W.Frag)(n:Nat)(m:Md)(sp:bT):Sp:=fun vs H Q E=>∃A ws P R,ws.length=n/\aj K A H ws vs/\Dom A H/\sp ws P R/\Cont K A H m P Q/\∀C H',R C->ay H H'->E (.ref C) none H'
noncomputable def Pn(K:PySem.W.Frag)(n:Nat)(m0:Md)(sp:bT):Sp:=fun vs H Q E=>∃(ab:Addr->Prop) (F:List Addr) (w0:W) (v0:V) (ws:List W) (vs':List V) (P:W->Prop) (R:Addr->Prop),vs=v0::vs'/\ws.length+1=n/\F.Nodup/\(∀p∈F,¬ab p)/\Dom ab H/\Fp K (fun p=>ab p\/p∈F) H m0 w0 v0 F/\aj K (fun p=>ab p\/p∈F) H ws vs'/\sp (w0::ws) P R/\
 (∀w y v F' H',P (.tup [w,y])->xj (·∈F) H H'->F'.Nodup->(∀p∈F',p∈F\/H p=none)->Fp K (fun p=>ab p\/p∈F') H' m0 y v0 F'->Rep K (fun p=>ab p\/p∈F') H' w v->Q v H')/\(∀C H',R C->xj (·∈F) H H'->E (.ref C) none H')
noncomputable def dU(K:PySem.W.Frag)(n:Nat)(m:Md)(sp:bT):Sp:=
 match m with
 |.io m0=>Pn K n m0 sp
 |m=>MT K n m sp
inductive c7(P:Program)(w:World)(K:PySem.W.Frag)(mg:Str->Option Value)(base:Heap):Nat->Value->Nat->Sp->Prop where
 |fn {k:Nat} {f:Addr} {fd:FuncData} {ps:List Str} {sp:Sp} (kp:PySem.W.keepIn K (.ref f)=true) (b:Binds K fd ps []) (F:aH P w K mg base (cK P w) k f fd ps sp):c7 P w K mg base k (.ref f) ps.length sp
 |mk {k n:Nat} {C f:Addr} {fd:FuncData} {ps:List Str} {sp Zj:Sp} (M:Mk K C f) (b:Binds K fd ps []) (F:aH P w K mg base (cK P w) k f fd ps Zj)
  (h:∀vs H Q E,sp vs H Q E->∀x dx,H x=none->H dx=none->dx≠x->Zj (.ref x::vs) (upd (upd H dx (.own x)) x (.ins C dx [])) (fun v H2=>v=.aU/\Q (.ref x) H2) E):c7 P w K mg base (k+1) (.ref C) n sp
theorem c7.keep{P:Program}{w:World}{K:PySem.W.Frag}{mg:Str->Option Value}{base:Heap}{k n:Nat}{fv:Value}{sp:Sp}(c:c7 P w K mg base k fv n sp):PySem.W.keepIn K fv=true:=by
 cases c with
 |fn kp _ _=>exact kp
 |mk M _ _ _=>exact M.kp
theorem c7.run{X:Cx}{k n:Nat}{fv:Value}{sp:Sp}{pins:List (Addr×Obj)}{σ:St}{H:Hp}{s:Shared}{Q:VK}{E:XK}{us:List Value}{vs:List V}(c:c7 X.prog X.w X.K X.mg X.base k fv n sp)(hr:cH k X.A)(hx:Passes (cK X.prog X.w) X E)(I:Inv X pins σ H s)(r:Vals vs us)(h:sp vs H Q E):
 wpAny (model X.prog X.w) X.A (call fv us) (EP X pins σ Q) X.xe s:=by
 cases c with
 |fn kp b F=>exact uP (ds:=[]) (zX:=[]) F hr b .nil hx I r (by rw[L9];exact h)
 |mk M b F l=>exact FF (ds:=[]) (zX:=[]) M F hr b .nil hx I r (fun x dx h1 h2 h3=>by rw[L9];exact l vs H Q E h x dx h1 h2 h3)
section
variable{X:Cx}{M:Ms}{R:Addr->Prop}{e a b c:Expr}{t ta tb tc:WT}{m:Md}{pos p:Pos}{es:List Expr}{x:Str}
theorem BH{ts:Ev->(List W->Prop)->Prop}{k n:Nat}{fv:Value}{sp:bT}(F:c7 X.prog X.w X.K X.mg X.base k fv n (MT X.K n m sp))(hr:cH k X.A)(hg:Gl X x)(hm:X.mg x=some fv)
 (hn:∀ws P R,sp ws P R->ws.length=n) (ha:VA X M R (e::es) ts) (hdb:(x==("__debug__":Str))=false) (he:starEach (e::es) X.env=(false,eval e X.env)::starEach es X.env) (hpl:(backTo pos (starEach es X.env)).any (·.1)=false):
 VE X M R m (.Call (.Name x p) (e::es) [] pos) (fun ε Q=>ts ε fun ws=>sp ws Q R):=by
 rintro pins s σ H Q I ⟨A,H0,ε,P,S,er,h,kk⟩
 obtain⟨E,pE,hE,hR⟩:=er
 refine UV (gw I hg hm ?_ hdb)
 refine cq (h₀:=X.base) I.ok.mod.Jo F.keep (bE (ha pos pins s σ H (fun vs H1=>∃ws,ay H H1/\aj X.K (FB A M σ) H1 ws vs/\sp ws P R) I ⟨A,H0,ε,_,S,⟨E,pE,hE,hR⟩,h,fun ws vs H1 hw s1 rs=>⟨ws,s1,rs,hw⟩⟩) fun us s1 ⟨vs,H1,I1,r,ws,sm,rs,tS⟩=>⟨I1.j6,?_⟩) he hpl
 exact F.run hr pE I1 r ⟨FB A M σ,ws,P,R,hn _ _ _ tS,rs,(S.same sm).dom,tS,fun w v H' pw s' r'=>kk w v H' pw (sm.trans s') (r'.back sm fun _ z=>z),fun C H' rc s'=>hE C H' rc (S.sm.trans (sm.trans s'))⟩
theorem Po{ts:Ev->(List W->Prop)->Prop}{bi:BI}{id:String}(hc:dg X (.builtin id) (SD X.K bi))(hg:Gl X x)(hm:X.mg x=none)(hv:bootBuiltins x=some (.builtin id))(ha:SA X M R (e::es) ts)(hn:x≠"__name__")(hdb:(x==("__debug__":Str))=false)
 (he:starEach (e::es) X.env=(false,eval e X.env)::starEach es X.env) (hpl:(backTo pos (starEach es X.env)).any (·.1)=false):VE X M R (UP bi) (.Call (.Name x p) (e::es) [] pos) (fun ε Q=>ts ε fun ws=>qo bi ws Q):=
 PE.imp (cy hc hg hm hv ha hn hdb he hpl)<|by rintro σ H Q ⟨A,H0,ε,P,S,er,h,k⟩;exact⟨A,H0,ε,_,S,er,h,fun ws vs H1 hw s1 rs=>⟨FB A M σ,ws,P,(S.same s1).dom,rs,hw,fun w v H' pw s' r=>k w v H' pw (s1.trans s') (r.back s1 fun _ z=>z)⟩⟩
theorem Pp{ts:Ev->(List W->Prop)->Prop}{bi:BI}{id:String}(hc:dg X (.type id) (SD X.K bi))(hg:Gl X x)(hm:X.mg x=none)(hv:bootBuiltins x=some (.type id))(ha:SA X M R (e::es) ts)(hn:x≠"__name__")(hdb:(x==("__debug__":Str))=false)
 (he:starEach (e::es) X.env=(false,eval e X.env)::starEach es X.env) (hpl:(backTo pos (starEach es X.env)).any (·.1)=false):VE X M R (UP bi) (.Call (.Name x p) (e::es) [] pos) (fun ε Q=>ts ε fun ws=>qo bi ws Q):=
 PE.imp (DC hc hg hm hv ha hn hdb he hpl)<|by rintro σ H Q ⟨A,H0,ε,P,S,er,h,k⟩;exact⟨A,H0,ε,_,S,er,h,fun ws vs H1 hw s1 rs=>⟨FB A M σ,ws,P,(S.same s1).dom,rs,hw,fun w v H' pw s' r=>k w v H' pw (s1.trans s') (r.back s1 fun _ z=>z)⟩⟩
theorem Pq{n:String}(hk:xQ X.K)(hn':n∈["int","bool","tuple","list","str","dict"])(hg:Gl X x)(hm:X.mg x=none)(hv:bootBuiltins x=some (.builtin "isinstance"))(ha:VB X M R a ta)(hb:VB X M R b (fun _ Q=>Q (.ty n)))(hn:x≠"__name__")(hdb:(x==("__debug__":Str))=false)
 (he:starEach [a,b] X.env=(false,eval a X.env)::starEach [b] X.env) (he2:starEach [b] X.env=(false,eval b X.env)::starEach [] X.env) (hpl:(backTo pos (starEach [b] X.env)).any (·.1)=false):
 VE X M R .s (.Call (.Name x p) [a,b] [] pos) (fun ε Q=>ta ε fun w=>qo .BB [w,.ty n] Q):=
 PE.imp (cy (cw_isi hk) hg hm hv (au ha (au hb aZ he2) he) hn hdb he hpl)<|by
  rintro σ H Q ⟨A,H0,ε,P,S,er,h,k⟩
  refine⟨A,H0,ε,_,S,er,h,fun w v H1 hw s1 r1=>⟨A,H0,ε,fun w2=>w2=.ty n,S.same s1,er,rfl,fun w2 v2 H2 Ak s2 r2=>?_⟩⟩
  subst Ak
  exact⟨FB A M σ,w,n,P,hn',⟨v,[v2],rfl,bf.same s2 r1,v2,[],rfl,r2,rfl⟩,hw,fun w' v' H' pw s' r=>k w' v' H' pw ((s1.trans s2).trans s') (r.back (s1.trans s2) fun _ z=>z)⟩
theorem Kn{cpos apos:Pos}(ha:VE X M R .s a ta)(hbase:attributeBase a "bit_length" X.env (eval a X.env)=eval a X.env)(hline:(apos.endLine==cpos.line)=true):
 VE X M R .s (.Call (.Attribute a "bit_length" apos) [] [] cpos) (fun ε Q=>ta ε fun x=>match x with|.int i=>Q (.int (Builtin.Int.intBits i:Nat))|_=>False):=
 PE.imp (FJ PySem.F.plainAttrs_int PySem.F.slot_int_bit_length PySem.F.type_int_bit_length JU ha hbase hline)<|by
  rintro σ H Q ⟨A,H0,ε,P,S,er,h,k⟩
  refine⟨A,H0,ε,_,S,er,h,fun w v H1 hw s1 r1=>?_⟩
  cases w with
  |int i=>
   have e:=r1.bG.int_inv
   subst e
   exact⟨rfl,i,rfl,rfl,k _ _ H1 hw s1 (.of (iB _))⟩
  |_=>exact hw.elim
end
inductive Ed(K:PySem.W.Frag)(br:Bool)(B:Addr->Prop)(H:Hp):It->List W->Prop where
 |lst {a:Addr} {vs:List V} {ws:List W} (h:Rd H a (.lst vs)) (n:br=false->¬B a) (r:aj K B H ws vs):Ed K br B H (WQ K a) ws
 |tup {a:Addr} {vs:List V} {ws:List W} (h:lG K H a vs) (r:aj K B H ws vs):Ed K br B H (WR K a) ws
 |jn (lo:Int) (n:Nat):Ed K br B H (MH lo n) (eU lo 1 n)
 |Ko (lo st:Int) (n:Nat):Ed K br B H (Wi lo st n) (eU lo st n)
 |uX {a:Addr} {vs:List V} {ws:List W} (h:Rd H a (.lst vs)) (n:br=false->¬B a) (r:aj K B H ws vs):Ed K br B H (Xs K a) (jc ws)
 |rev {a:Addr} {vs:List V} {ws:List W} (h:Rd H a (.lst vs)) (n:br=false->¬B a) (r:aj K B H ws vs):Ed K br B H (Xv K a vs.length) ws.reverse
structure IW(K:PySem.W.Frag)(B:Addr->Prop)(Hs:Hp)(J:It)(ws:List W):Prop where
 go:∀i H,ay Hs H->i<ws.length->J.go i H
 yl:∀i H x H' w,ay Hs H->ws[i]?=some w->J.N9 i H x H'->ay H H'/\∀B':Addr->Prop,(∀p o,Hs p=some o->B' p->B p)->Rep K B' H' w x
 st:∀i H,ay Hs H->i=ws.length->J.stop i H
theorem lW(lo st:Int)(n:Nat):(eU lo st n).length=n:=by unfold eU;simp
theorem xR{lo st:Int}{n i:Nat}{w:W}(h:(eU lo st n)[i]?=some w):w=.int (lo+i*st)/\i<n:=by
 unfold eU at h
 rw[FS]at h
 by_cases hi:i<n
 ·rw[SC hi]at h
  cases h
  exact⟨rfl,hi⟩
 ·rw[FK (by simpa using hi)]at h
  cases h
theorem tX(l:List W):(jc l).length=l.length:=by unfold jc;simp
theorem nN{l:List W}{i:Nat}{w:W}(h:(jc l)[i]?=some w):∃x,l[i]?=some x/\w=.tup [.int i,x]:=by
 unfold jc at h
 rw[List.getElem?_zipWith]at h
 by_cases hi:i<l.length
 ·rw[SC hi,BM hi]at h
  cases h
  exact⟨_,BM hi,rfl⟩
 ·rw[FK (by simpa using hi)]at h
  cases h
theorem Ed.iw{K:PySem.W.Frag}{br:Bool}{B:Addr->Prop}{Hs:Hp}{J:It}{ws:List W}(h:Ed K br B Hs J ws):IW K B Hs J ws:=by
 cases h with
 |@lst a vs _ h n r=>
  have q:∀H,ay Hs H->ir K H a vs:=fun H s=>.inl (VL.ay.rd s h)
  refine⟨fun i H s hi=>?_,fun i H x H' w s hw y=>?_,fun i H s hi=>⟨vs,q H s,by rw[r.len,hi];exact Do _⟩⟩
  ·have hi':i<vs.length:=by rw[r.len];exact hi
   exact⟨vs,vs[i],q H s,BM hi'⟩
  ·obtain⟨rfl,y⟩:=y
   obtain⟨v,e,hr⟩:=r.get hw
   have:=y vs (q _ s)
   rw[e]at this
   cases this
   exact⟨ay.refl _,fun B' hB=>Rep.mv s hB w hr⟩
 |@tup a vs _ h r=>
  have q:∀H,ay Hs H->lG K H a vs:=fun H s=>L2.ay.tup s h
  refine⟨fun i H s hi=>?_,fun i H x H' w s hw y=>?_,fun i H s hi=>⟨vs,q H s,by rw[r.len,hi];exact Do _⟩⟩
  ·have hi':i<vs.length:=by rw[r.len];exact hi
   exact⟨vs,vs[i],q H s,BM hi'⟩
  ·obtain⟨rfl,y⟩:=y
   obtain⟨v,e,hr⟩:=r.get hw
   have:=y vs (q _ s)
   rw[e]at this
   cases this
   exact⟨ay.refl _,fun B' hB=>Rep.mv s hB w hr⟩
 |jn lo n=>
  refine⟨fun i H s hi=>by rw[lW]at hi;exact hi,fun i H x H' w s hw y=>?_,fun i H s hi=>by rw[lW]at hi;exact Nat.le_of_eq hi.symm⟩
  obtain⟨rfl,rfl⟩:=y
  obtain⟨rfl,_⟩:=xR hw
  exact⟨ay.refl _,fun B' _=>by rw[du];exact iB _⟩
 |Ko lo st n=>
  refine⟨fun i H s hi=>by rw[lW]at hi;exact hi,fun i H x H' w s hw y=>?_,fun i H s hi=>by rw[lW]at hi;exact Nat.le_of_eq hi.symm⟩
  obtain⟨rfl,rfl⟩:=y
  obtain⟨rfl,_⟩:=xR hw
  exact⟨ay.refl _,fun B' _=>iB _⟩
 |@uX a vs ws h n r=>
  have q:∀H,ay Hs H->ir K H a vs:=fun H s=>.inl (VL.ay.rd s h)
  refine⟨fun i H s hi=>?_,fun i H x H' w s hw y=>?_,fun i H s hi=>⟨vs,q H s,by rw[r.len,hi,tX]⟩⟩
  ·rw[tX]at hi
   have hi':i<vs.length:=by rw[r.len];exact hi
   exact⟨vs,vs[i],q H s,BM hi'⟩
  ·obtain⟨p,y,hp,rfl,rfl,hy⟩:=y
   obtain⟨w',hw',rfl⟩:=nN hw
   obtain⟨v,e,hr⟩:=r.get hw'
   have e2:=hy vs (q _ s)
   rw[e]at e2
   obtain rfl:v=y:=Kb e2
   have s2:=aL (H:=H) hp (.tup [.int i,v])
   exact⟨s2,fun B' hB=>DZ aD (.cons (iB _) (.cons (Rep.mv (s.trans s2) hB w' hr) .nil))⟩
 |@rev a vs ws h n r=>
  have q:∀H,ay Hs H->ir K H a vs:=fun H s=>.inl (VL.ay.rd s h)
  have hl:=r.len
  refine⟨fun i H s hi=>?_,fun i H x H' w s hw y=>?_,fun i H s hi=>?_⟩
  ·rw[T1]at hi
   exact⟨vs,q H s,rfl,by rw[hl];exact hi⟩
  ·obtain⟨rfl,y⟩:=y
   have hi:i<ws.length:=by
    have:=(Fs.mp hw).1
    rwa [T1]at this
   rw[List.getElem?_reverse hi]at hw
   obtain⟨v,e,hr⟩:=r.get hw
   have:=y vs (q _ s) rfl
   rw[hl,e]at this
   cases this
   exact⟨ay.refl _,fun B' hB=>Rep.mv s hB w hr⟩
  ·rw[T1]at hi
   show i=vs.length
   rw[hl,hi]
noncomputable def itemsOf:W->Option (List W)
 |.lst l=>some l
 |.tup l=>some l
 |_=>none
theorem tY{z:W}{Q:List W->Prop}:items z Q↔∃ws,itemsOf z=some ws/\Q ws:=by
 cases z<;>simp[items,itemsOf]
noncomputable def Gn(X:Cx)(M:Ms)(R:Addr->Prop)(br:Bool)(t:WT):TI:=fun σ H Q=>∃A H0 ε P,SR X.K M A H0 σ H ε/\ER X H0 R/\t ε P/\∀z,P z->∃ws,itemsOf z=some ws/\∀J H1,ay H H1->Ed X.K br (FB A M σ) H1 J ws->Q J H1
theorem PI.imp{X:Cx}{tg e:Expr}{t t':TI}(h:PI X tg e t)(k:∀σ H Q,t' σ H Q->t σ H Q):PI X tg e t':=fun pins s σ H Q I w=>h pins s σ H Q I (k σ H Q w)
section
variable{X:Cx}{M:Ms}{R:Addr->Prop}{e a b c tg:Expr}{t ta tb tc:WT}{m:Md}{pos p:Pos}{es:List Expr}{x:Str}{br:Bool}
theorem Pr{l:Expr}{tl:TE}(hl:PE X l tl):PI X tg l (fun σ H Q=>tl σ H fun x H1=>∃a,x=.ref a/\(((∃xs,ir X.K H1 a xs)/\Q (WQ X.K a) H1)\/((∃xs,lG X.K H1 a xs)/\Q (WR X.K a) H1))):=by
 intro pins s σ H Q I h
 refine bE (hl pins s σ H _ I h) ?_
 rintro v s1 ⟨x,H1,I1,r1,q1⟩
 obtain⟨a,e,q⟩:=q1
 subst e
 cases r1
 rcases q with⟨⟨xs,hq⟩,q⟩|⟨⟨xs,hq⟩,q⟩
 ·obtain⟨its,rv,p,hz⟩:=I1.list hq
  refine wpAny_pyIter_list p.isList ?_
  refine⟨s1.heap.objs.size,[s1.heap.objs.size],_,_,H1,rfl,I1.kept (t':=s1.toks) fun b o e=>DL _ e,Dl a _,⟨_,IH _ rfl,rfl,rfl⟩,fun b hb=>?_,q⟩
  have e:b=s1.heap.objs.size:=by simpa using hb
  subst e
  exact I1.xu (Do _) (I1.hok.fresh (Do _))
 ·obtain⟨its,rv,p,hz⟩:=I1.tuple hq
  refine wpAny_pyIter_tuple (show s1.heap.IsTuple a its.toArray from p) ?_
  refine⟨s1.heap.objs.size,[s1.heap.objs.size],_,_,H1,rfl,I1.kept (t':=s1.toks) fun b o e=>DL _ e,zM a _,⟨_,IH _ rfl,rfl,rfl⟩,fun b hb=>?_,q⟩
  have e:b=s1.heap.objs.size:=by simpa using hb
  subst e
  exact I1.xu (Do _) (I1.hok.fresh (Do _))
noncomputable def Pu(K:PySem.W.Frag)(br:Bool):RL:=fun B _ H' w v=>bf K B H' w v/\(br=false->Rep K B H' w v)
theorem kg(h:VE X M R m e t):PE X e (tV X M R (Pu X.K br) t):=PE.imp h<|by rintro σ H Q ⟨A,H0,ε,P,S,er,p,k⟩;exact⟨A,H0,ε,P,S,er,p,fun w v H' pw s r=>k w v H' pw s ⟨(r.rep S.dom).b,fun _=>r.rep S.dom⟩⟩
theorem UQ(h:VB X M R e t):PE X e (tV X M R (Pu X.K true) t):=PE.imp h<|by rintro σ H Q ⟨A,H0,ε,P,S,er,p,k⟩;exact⟨A,H0,ε,P,S,er,p,fun w v H' pw s r=>k w v H' pw s ⟨r,fun z=>by cases z⟩⟩
theorem Pu.lst{K:PySem.W.Frag}{B:Addr->Prop}{H H':Hp}{l:List W}{v:V}(h:Pu K br B H H' (.lst l) v):∃p vs,v=.ref p/\Rd H' p (.lst vs)/\(br=false->¬B p)/\aj K B H' l vs:=by
 obtain⟨p,vs,rfl,h1,h2⟩:=h.1.lst
 refine⟨p,vs,rfl,h1,fun e=>?_,h2⟩
 have:=h.2 e
 rw[Rep]at this
 obtain⟨p',_,e',n,_⟩:=this
 cases e'
 exact n
theorem gH(hl:PE X a (tV X M R (Pu X.K br) ta)):PI X tg a (Gn X M R br ta):=PI.imp (Pr hl)<|by
 rintro σ H Q ⟨A,H0,ε,P,S,er,h,k⟩
 refine⟨A,H0,ε,P,S,er,h,fun z v H1 hz s1 r1=>?_⟩
 obtain⟨ws,hi,k⟩:=k z hz
 cases z with
 |lst l=>
  cases hi
  obtain⟨p,vs,rfl,h1,h2,h3⟩:=r1.lst
  exact⟨p,rfl,.inl ⟨⟨vs,.inl h1⟩,k _ H1 s1 (.lst h1 h2 h3)⟩⟩
 |tup l=>
  cases hi
  obtain⟨p,vs,rfl,h1,h2⟩:=r1.1.tup
  exact⟨p,rfl,.inr ⟨⟨vs,h1⟩,k _ H1 s1 (.tup h1 h2)⟩⟩
 |_=>exact nn hi
theorem Pw{elts:List Expr}{kk:Nat}{tp:Pos}(hg:Gl X "enumerate")(hm:X.mg "enumerate"=none)(ha:PE X a (tV X M R (Pu X.K br) ta))(hs:starEach [a] X.env=(false,eval a X.env)::starEach [] X.env):
 PI X (.Tuple elts kk tp) (.Call (.Name "enumerate" p) [a] [] pos) (Gn X M R br (fun ε Q=>ta ε fun x=>match x with|.lst l=>Q (.lst (jc l))|_=>False)):=
 PI.imp (JV hg hm (au ha aZ hs) rfl hs)<|by
  rintro σ H Q ⟨A,H0,ε,P,S,er,h,k⟩
  refine⟨A,H0,ε,_,S,er,h,fun z v H1 hz s1 r1=>?_⟩
  cases z with
  |lst l=>
   obtain⟨ws,hi,k⟩:=k _ hz
   cases hi
   obtain⟨p,vs,rfl,h1,h2,h3⟩:=r1.lst
   exact⟨p,rfl,⟨vs,.inl h1⟩,k _ H1 s1 (.uX h1 h2 h3)⟩
  |_=>exact hz.elim
theorem Px(hg:Gl X "reversed")(hm:X.mg "reversed"=none)(ha:PE X a (tV X M R (Pu X.K br) ta))(hs:starEach [a] X.env=(false,eval a X.env)::starEach [] X.env):
 PI X tg (.Call (.Name "reversed" p) [a] [] pos) (Gn X M R br (fun ε Q=>ta ε fun x=>match x with|.lst l=>Q (.lst l.reverse)|_=>False)):=
 PI.imp (OU hg hm (au ha aZ hs) rfl hs)<|by
  rintro σ H Q ⟨A,H0,ε,P,S,er,h,k⟩
  refine⟨A,H0,ε,_,S,er,h,fun z v H1 hz s1 r1=>?_⟩
  cases z with
  |lst l=>
   obtain⟨ws,hi,k⟩:=k _ hz
   cases hi
   obtain⟨p,vs,rfl,h1,h2,h3⟩:=r1.lst
   exact⟨p,vs,rfl,.inl h1,k _ H1 s1 (.rev h1 h2 h3)⟩
  |_=>exact hz.elim
theorem Kp{p2 pos2:Pos}(hc:X.calm=true)(hg:Gl X "list")(hm:X.mg "list"=none)(Xx:Gl X "reversed")(hm2:X.mg "reversed"=none)(ha:VB X M R a ta)(hs:starEach [a] X.env=(false,eval a X.env)::starEach [] X.env):
 VE X M R .f (.Call (.Name "list" p) [.Call (.Name "reversed" p2) [a] [] pos2] [] pos) (fun ε Q=>ta ε fun x=>match x with|.lst l=>Q (.lst l.reverse)|_=>False):=
 PE.imp (JY hc hg hm Xx hm2 (au ha aZ hs) hs)<|by
  rintro σ H Q ⟨A,H0,ε,P,S,er,h,k⟩
  refine⟨A,H0,ε,_,S,er,h,fun z v H1 hz s1 r1=>?_⟩
  cases z with
  |lst l=>
   obtain⟨p,xs,rfl,h1,h2⟩:=bf.lst r1
   exact⟨p,xs,rfl,.inl h1,fun q hq=>k _ _ _ hz (s1.trans (aL hq _)) (.fresh s1 hq h2.rev)⟩
  |_=>exact hz.elim
theorem Kq(hg:Gl X "range")(hm:X.mg "range"=none)(ha:VE X M R .s a ta)(hs:starEach [a] X.env=(false,eval a X.env)::starEach [] X.env):
 PI X tg (.Call (.Name "range" p) [a] [] pos) (Gn X M R br (fun ε Q=>ta ε fun x=>Gf [x] fun l=>Q (.lst l))):=
 PI.imp (tM hg hm (au ha aZ hs) hs)<|by
  rintro σ H Q ⟨A,H0,ε,P,S,er,h,k⟩
  refine⟨A,H0,ε,_,S,er,h,fun x vx H1 hz s1 r1=>?_⟩
  cases x with
  |int j=>
   obtain⟨l1,l2,hz⟩:=hz
   obtain⟨oA,hi,k⟩:=k _ hz
   cases hi
   cases r1.bG.int_inv
   exact⟨j,rfl,l1,l2,k _ H1 s1 (.jn 0 j.toNat)⟩
  |_=>exact hz.elim
theorem Kr(hg:Gl X "range")(hm:X.mg "range"=none)(ha:VE X M R .s a ta)(hb:VE X M R .s b tb)(hs:starEach [a,b] X.env=(false,eval a X.env)::starEach [b] X.env)(hs2:starEach [b] X.env=(false,eval b X.env)::starEach [] X.env):
 PI X tg (.Call (.Name "range" p) [a,b] [] pos) (Gn X M R br (fun ε Q=>ta ε fun x=>tb ε fun y=>Gf [x,y] fun l=>Q (.lst l))):=
 PI.imp (Dp hg hm (au ha (au hb aZ hs2) hs) (by rw[hs,hs2];rfl) hs2)<|by
  rintro σ H Q ⟨A,H0,ε,P,S,er,h,k⟩
  refine⟨A,H0,ε,_,S,er,h,fun x vx H1 hz s1 r1=>⟨A,H0,ε,_,S.same s1,er,hz,fun y vy H2 hz s2 r2=>?_⟩⟩
  cases x with
  |int i=>
   cases y with
   |int j=>
    obtain⟨l1,hz⟩:=hz
    obtain⟨oA,hi,k⟩:=k _ hz
    cases hi
    cases r1.bG.int_inv
    cases r2.bG.int_inv
    exact⟨i,j,rfl,l1,k _ H2 (s1.trans s2) (.jn i (j -i).toNat)⟩
   |_=>exact hz.elim
  |_=>exact hz.elim
theorem Ks(hg:Gl X "range")(hm:X.mg "range"=none)(ha:VE X M R .s a ta)(hb:VE X M R .s b tb)(hc:VE X M R .s c tc)(hs:starEach [a,b,c] X.env=(false,eval a X.env)::starEach [b,c] X.env)(hs2:starEach [b,c] X.env=(false,eval b X.env)::starEach [c] X.env)(JS:starEach [c] X.env=(false,eval c X.env)::starEach [] X.env):
 PI X tg (.Call (.Name "range" p) [a,b,c] [] pos) (Gn X M R br (fun ε Q=>ta ε fun x=>tb ε fun y=>tc ε fun z=>Gf [x,y,z] fun l=>Q (.lst l))):=
 PI.imp (DT hg hm (au ha (au hb (au hc aZ JS) hs2) hs) (by rw[hs,hs2,JS];rfl) (by rw[hs2,JS];rfl))<|by
  rintro σ H Q ⟨A,H0,ε,P,S,er,h,k⟩
  refine⟨A,H0,ε,_,S,er,h,fun x vx H1 hz s1 r1=>⟨A,H0,ε,_,S.same s1,er,hz,fun y vy H2 hz s2 r2=>⟨A,H0,ε,_,S.same (s1.trans s2),er,hz,fun z vz H3 hz s3 r3=>?_⟩⟩⟩
  cases x with
  |int i=>
   cases y with
   |int j=>
    cases z with
    |int l=>
     obtain⟨n,l1,hz⟩:=hz
     obtain⟨oA,hi,k⟩:=k _ hz
     cases hi
     cases r1.bG.int_inv
     cases r2.bG.int_inv
     cases r3.bG.int_inv
     exact⟨i,j,l,n,rfl,l1,k _ H3 ((s1.trans s2).trans s3) (.Ko i l n)⟩
    |_=>exact hz.elim
   |_=>exact hz.elim
  |_=>exact hz.elim
end
noncomputable def up(M:Ms)(n:Nat):Ms:=M.map fun x=>(x.1+n,x.2)
section
variable{K:PySem.W.Frag}{M:Ms}{A:Fz}{H0 H H1:Hp}{σ v0:St}{ε δ:Ev}
theorem nO{n i:Nat}{m:Md}:(i,m)∈up M n↔n<=i/\(i -n,m)∈M:=by
 unfold up
 rw[Iy]
 constructor
 ·rintro⟨⟨j,m'⟩,hj,e⟩
  cases e
  exact⟨Nat.le_add_left _ _,by rw[Nat.add_sub_cancel];exact hj⟩
 ·rintro⟨h,hj⟩
  exact⟨(i -n,m),hj,by simp;omega⟩
theorem dZ{n i:Nat}:aX (up M n) i↔n<=i/\aX M (i -n):=by
 constructor
 ·rintro⟨m,h⟩
  exact⟨(nO.mp h).1,m,(nO.mp h).2⟩
 ·rintro⟨h,m,h'⟩
  exact⟨m,nO.mpr ⟨h,h'⟩⟩
theorem qv{n i:Nat}(hn:δ.length=n)(h:n<=i):look (δ++ε) i=look ε (i -n):=by
 have e:∀w,look (δ++ε) i=some w↔look ε (i -n)=some w:=fun w=>by
  rw[bz,bz,Nw (by lia),hn]
 cases h1:look ε (i -n)with
 |none=>
  cases h2:look (δ++ε) i with
  |none=>rfl
  |some w=>
   rw[e]at h2
   rw[h1]at h2
   cases h2
 |some w=>exact(e w).mpr h1
theorem SR.block(S:SR K M A H0 σ H ε){n:Nat}(hv:v0.length=n)(s:ay H H1){D:Addr}{o:HO}(hD:H D=none)(h1D:H1 D=some o):SR K (up M n) ⟨fun q=>A.ab q\/q=D,fun q=>A.B q\/q=D,none⟩ H0 (v0++σ) H1 (List.replicate n none++ε):=by
 obtain⟨F,O⟩:=S.ow
 have hd:(List.replicate n (none:Option W)).length=n:=by simp
 have ax:∀{i:Nat},n<=i->(v0++σ)[i]?=σ[i -n]?:=fun{i} h=>by rw[Nw (by lia),hv]
 have hb:∀p o,H p=some o->(A.B p\/p=D)->A.B p:=fun p o e z=>by
  rcases z with z|rfl
  ·exact z
  ·rw[hD]at e
   cases e
 refine⟨by rw[Ee,Ee,hv,hd,S.len],fun i w hi e=>?_,S.sm.trans s,fun p z=>?_,(fun v e=>by cases e),fun i=>F (i -n),⟨fun i m m' a b=>O.un _ m m' (nO.mp a).2 (nO.mp b).2,fun i m w hm e=>?_,fun i hi e=>?_,fun i hi=>O.nd _ (dZ.mp hi).2,fun i j p hi hj a b=>?_,fun i p hi hp=>O.nw _ p (dZ.mp hi).2 hp,fun i p hi hp z=>?_,fun p=>?_⟩⟩
 ·by_cases h1:n<=i
  ·rw[qv hd h1]at e
   rw[ax h1]
   obtain⟨v,q1,q2⟩:=S.sh (i -n) w (fun z=>hi (dZ.mpr ⟨h1,z⟩)) e
   exact⟨v,q1,Rep.mv s hb w q2⟩
  ·rw[bz,OF (by rw[hd];lia),Wp,Bi (by lia)]at e
   cases e
 ·rcases z with z|rfl
  ·exact(S.dm.same s) p z
  ·exact⟨_,h1D⟩
 ·obtain⟨h1,h2⟩:=nO.mp hm
  rw[qv hd h1]at e
  rw[ax h1]
  obtain⟨v,q1,q2⟩:=O.val _ m w h2 e
  exact⟨v,q1,Fp.mv s hb m q2⟩
 ·obtain⟨h1,h2⟩:=dZ.mp hi
  rw[qv hd h1]at e
  exact O.emp _ h2 e
 ·have:=O.ds _ _ p (dZ.mp hi).2 (dZ.mp hj).2 a b
  have:=(dZ.mp hi).1
  have:=(dZ.mp hj).1
  lia
 ·rcases z with z|rfl
  ·exact O.na _ p (dZ.mp hi).2 hp z
  ·obtain⟨o,e,_⟩:=O.has (dZ.mp hi).2 hp
   rw[hD]at e
   cases e
 ·constructor
  ·rintro(z|rfl)
   ·rcases(O.all p).mp z with z|⟨i,hi,hp⟩
    ·exact .inl (.inl z)
    ·exact .inr ⟨i+n,dZ.mpr ⟨by lia,by rw[Nat.add_sub_cancel];exact hi⟩,by rw[Nat.add_sub_cancel];exact hp⟩
   ·exact .inl (.inr rfl)
  ·rintro((z|rfl)|⟨i,hi,hp⟩)
   ·exact .inl ((O.all p).mpr (.inl z))
   ·exact .inr rfl
   ·exact .inl ((O.all p).mpr (.inr ⟨i -n,(dZ.mp hi).2,hp⟩))
end
noncomputable def Py:List Nat->Ja
 |[]=>Tz
 |i::is=>MG (iu i) (Py is)
noncomputable def gT(K:PySem.W.Frag)(one:Bool)(ts:List Nat):TG:=
 match one,ts with
 |true,[i]=>iu i
 |true,_=>fun _ _ _ _=>False
 |false,ts=>N4 K ts.length (Py ts)
noncomputable def cZ(σ:St):List Nat->List V->St
 |i::is,v::vs=>cZ (σ.set i (some v)) is vs
 |_,_=>σ
theorem xS:∀(is:List Nat) (vs:List V) (σ:St),(cZ σ is vs).length=σ.length
 |[],vs,σ=>by rw[cZ];simp
 |i::is,[],σ=>by rw[cZ];simp
 |i::is,v::vs,σ=>by rw[cZ,xS is vs,NA]
theorem xT{n:Nat}:∀(is:List Nat) (vs:List V) (v0 σ:St),v0.length=n->(∀i∈is,i<n)->cZ (v0++σ) is vs=cZ v0 is vs++σ
 |[],vs,v0,σ,_,_=>by rw[cZ,cZ]<;>simp
 |i::is,[],v0,σ,_,_=>by rw[cZ,cZ]<;>simp
 |i::is,v::vs,v0,σ,hn,h=>by
  have hi:=h i DD
  rw[cZ,cZ,List.set_append_left _ _ (by lia),xT is vs _ σ (by rw[NA];exact hn) fun j hj=>h j (Bn _ hj)]
section
variable{K:PySem.W.Frag}{M:Ms}{A:Fz}{H0 H:Hp}
theorem Al:∀(is:List Nat) (vs:List V) (σ:St) (Q:St->Hp->Prop),vs.length=is.length->Q (cZ σ is vs) H->Py is vs σ H Q
 |[],[],σ,Q,_,q=>⟨rfl,q⟩
 |[],_::_,_,_,h,_=>by cases h
 |_::_,[],_,_,h,_=>by cases h
 |i::is,v::vs,σ,Q,h,q=>⟨v,vs,rfl,Al is vs _ Q (by simpa using h) (by rw[cZ]at q;exact q)⟩
theorem SR.bO:∀(is:List Nat) (ws:List W) (vs:List V) {σ:St} {ε:Ev},(∀i∈is,¬aX M i)->SR K M A H0 σ H ε->aj K (FB A M σ) H ws vs->ws.length=is.length->SR K M A H0 (cZ σ is vs) H (bO ε is ws)
 |[],ws,vs,σ,ε,_,S,_,_=>by
  rw[cZ,VL.bO]<;>first|exact S|simp
 |i::is,[],vs,σ,ε,_,S,_,h=>by cases h
 |i::is,w::ws,vs,σ,ε,hm,S,r,h=>by
  obtain⟨v,r',rfl,h1,h2⟩:=r.cons_inv
  rw[cZ,VL.bO]
  have hi:=hm i DD
  exact SR.bO is ws r' (fun j hj=>hm j (Bn _ hj)) (S.set hi h1) h2 (by simpa using h)
theorem tgt{σ:St}{ε:Ev}{one:Bool}{ts:List Nat}{w:W}{v:V}{P:Ev->Prop}{Q:St->Hp->Prop}(hM:∀i∈ts,¬aX M i)(S:SR K M A H0 σ H ε)(hr:Rep K (FB A M σ) H w v)(h:wT one ts w ε P)
 (k:∀vs ε',P ε'->SR K M A H0 (cZ σ ts vs) H ε'->Q (cZ σ ts vs) H):gT K one ts v σ H Q:=by
 cases one with
 |true=>
  match ts,h with
  |[i],h=>
   have:=k [v] (ε.set i (some w)) h (by rw[cZ,cZ]<;>first|exact S.set (hM i DD) hr|simp)
   rw[cZ,cZ]at this
   ·exact this
   ·simp
 |false=>
  cases w with
  |tup l=>
   obtain⟨hl,h⟩:=h
   rw[Rep]at hr
   obtain⟨p,vs,rfl,h1,h2⟩:=hr
   exact⟨p,vs,rfl,lG.of h1,by rw[h2.len,hl],Al ts vs σ Q (by rw[h2.len,hl]) (k vs _ h (SR.bO ts l vs hM S h2 hl))⟩
  |_=>exact h.elim
end
theorem PF.imp{X:Cx}{e:List Expr}{t t':TT}(h:PF X e t)(k:∀σ H Q,t' σ H Q->t σ H Q):PF X e t':=fun pins s σ H Q I w=>h pins s σ H Q I (k σ H Q w)
noncomputable def XG(K:PySem.W.Frag)(M:Ms)(t:WT):TE:=fun σ H Q=>∃A H0 ε P,SR K M A H0 σ H ε/\t ε P/\∀w v H',P w->ay H H'->Rep K (FB A M σ) H' w v->Q v H'
noncomputable def XH(K:PySem.W.Frag)(M:Ms)(t:WT):TT:=fun σ H Q=>∃A H0 ε P,SR K M A H0 σ H ε/\t ε P/\∀x H',P x->ay H H'->∃b,x=.bl b/\Q b H'
section
variable{X:Cx}{M:Ms}{R:Addr->Prop}{tg iter elt:Expr}{ifs:List Expr}{scope:Scope}{xs N':List Str}{pos:Pos}{ti tc te:WT}{one:Bool}{ts:List Nat}
theorem xU(hlt:∀i∈ts,i<xs.length)(σ:St)(H:Hp)(Q:VK)
 (hh:tV X M R (O3 X.K .f) (fun ε Q=>ti ε fun z=>items z fun ws=>kW (fun w K=>wT one ts w (List.replicate xs.length none++ε) fun ε'=>tc ε' fun x=>truth x fun k=>if k=true then te ε' fun y=>K (some y)else K none) ws [] fun l=>Q (.lst l)) σ H Q):
 F5 xs.length (Gn X M R true ti) (gT X.K one ts) (XH X.K (up M xs.length) tc) (XG X.K (up M xs.length) te) σ H Q:=by
 obtain⟨A,H0,ε,P,S,er,h,k⟩:=hh
 refine⟨A,H0,ε,_,S,er,h,fun z hz=>?_⟩
 obtain⟨ws,ez,hw⟩:=tY.mp hz
 refine⟨ws,ez,fun J H1 s1 it D hD=>?_⟩
 have iw:=it.iw
 generalize hf':(fun(w:W) (K:Option W->Prop)=>wT one ts w (List.replicate xs.length none++ε) fun ε'=>tc ε' fun x=>truth x fun k=>if k=true then te ε' fun y=>K (some y)else K none)=f at hw
 have Zk:H D=none:=s1.free hD
 refine⟨fun i m H2=>∃acc vs,m=ws.length -i/\i<=ws.length/\ay H1 H2/\H2 D=some (.lst vs)/\aj X.K (fun q=>FB A M σ q\/q=D) H2 acc vs/\kW f (ws.drop i) acc (fun l=>P (.lst l)),
  ⟨ws.length,[],[],rfl,NM _,aL hD _,aD,.nil,hw⟩,?_⟩
 rintro i m H2 ⟨acc,vs,rfl,hi,s2,Wl,ra,hm⟩
 by_cases Gp:i<ws.length
 ·refine .inr ⟨iw.go i H2 s2 Gp,fun x H3 y v0 hv0=>?_⟩
  have hwi:ws[i]?=some ws[i]:=BM Gp
  rw[Xt Gp]at hm
  generalize ws[i]=w at*
  obtain⟨s3,hrep⟩:=iw.yl i H2 x H3 w s2 hwi y
  have s13:ay H H3:=s1.trans (s2.trans s3)
  have h3D:H3 D=some (.lst vs):=s3 _ _ Wl
  have S3:SR X.K (up M xs.length) ⟨fun q=>A.ab q\/q=D,fun q=>A.B q\/q=D,none⟩ H0 (v0++σ) H3 (List.replicate xs.length none++ε):=S.block hv0 s13 Zk h3D
  have hr3:Rep X.K (fun q=>A.B q\/q=D) H3 w x:=by
   refine hrep _ fun p o e z=>?_
   rcases z with z|rfl
   ·exact z
   ·rw[hD]at e
    cases e
  have hM:∀j∈ts,¬aX (up M xs.length) j:=fun j hj z=>by
   have:=(dZ.mp z).1
   have:=hlt j hj
   lia
  rw[kW,←hf']at hm
  rw[hf']at hm
  refine tgt hM S3 hr3 hm fun us ε' hp S4=>?_
  have e4:cZ (v0++σ) ts us=cZ v0 ts us++σ:=xT ts us v0 σ hv0 hlt
  rw[e4]at S4⊢
  have hv1:(cZ v0 ts us).length=xs.length:=by rw[xS];exact hv0
  refine⟨cZ v0 ts us,hv1,rfl,⟨_,H0,ε',_,S4,hp,fun q H5 hq s5=>?_⟩⟩
  obtain⟨b,rfl,hq⟩:=cg hq
  refine⟨b,rfl,?_⟩
  have Wm:ay H2 H5:=s3.trans s5
  cases b with
  |false=>exact⟨ws.length -(i+1),by lia,acc,vs,rfl,Gp,s2.trans Wm,Wm _ _ Wl,ra.same Wm,hq⟩
  |true=>
   refine⟨_,H0,ε',_,S4.same s5,hq,fun y vy H6 hy s6 ry=>?_⟩
   obtain⟨hlen,hy⟩:=hy
   have XI:=Wm.trans s6
   have Zl:=XI _ _ Wl
   refine⟨vs,Zl,by rw[ra.len];exact hlen,ws.length -(i+1),by lia,acc++[y],vs++[vy],rfl,Gp,fun b o e=>?_,aD,?_,hy⟩
   ·rw[ai (aO e hD)]
    exact XI _ _ (s2 _ _ e)
   ·have ry2:Rep X.K (fun q=>A.B q\/q=D) H6 y vy:=ry
    exact aj.put Zl (.inr rfl) _ ((ra.same XI).app (.cons ry2 .nil))
 ·have e:i=ws.length:=by lia
  subst e
  refine .inl ⟨iw.st _ H2 s2 rfl,?_⟩
  rw[List.drop_length,kW]at hm
  exact k _ _ H2 hm (s1.trans s2) (.new Zk Wl (ra.less fun p z=>.inl z) ra)
theorem Ku(hc:X.calm=true)(ho:dX scope X.env.scope X.N N' xs=true)(hlt:∀i∈ts,i<xs.length)(hi:PI X tg iter (Gn X M R true ti))(hg:∀C s0 H0 fp,PG (aG X scope C xs N' s0 H0 fp) tg (gT X.K one ts))
 (hf:∀C s0 H0 fp,PF (aG X scope C xs N' s0 H0 fp) ifs (XH X.K (up M xs.length) tc)) (he:∀C s0 H0 fp,PE (aG X scope C xs N' s0 H0 fp) elt (XG X.K (up M xs.length) te)) (hs:∀z,foldedSetIterable iter X.env z=pure z):
 VE X M R .f (.ListComp elt [⟨tg,iter,ifs,0⟩] scope pos) (fun ε Q=>ti ε fun z=>items z fun ws=>kW (fun w K=>wT one ts w (List.replicate xs.length none++ε) fun ε'=>tc ε' fun x=>truth x fun k=>if k=true then te ε' fun y=>K (some y)else K none) ws [] fun l=>Q (.lst l)):=
 PE.imp (BA xs N' hc ho hi hg hf he hs) fun σ H Q h=>xU hlt σ H Q h
end
section
variable{K:PySem.W.Frag}{M M':Ms}{A:Fz}{H0 H H1:Hp}{σ:St}{ε:Ev}
theorem SR.rb(S:SR K M A H0 σ H ε):∃Hs,SR K M A Hs σ H ε/\ay H0 Hs/\ay Hs H/\(∀p o,H p=some o->(E5 o=true/\A.B p)\/Hs p=some o):=by
 classical
 obtain⟨F,O⟩:=S.ow
 have get:∀p o,(if(∃i,aX M i/\p∈F i)then none else H p)=some o->H p=some o:=fun p o z=>by
  split at z
  ·cases z
  ·exact z
 refine⟨fun p=>if(∃i,aX M i/\p∈F i)then none else H p,⟨S.len,S.sh,get,S.dm,S.sl,F,⟨O.un,O.val,O.emp,O.nd,O.ds,fun i p hi hp=>Bi ⟨i,hi,hp⟩,O.na,O.all⟩⟩,fun b o z=>?_,get,fun p o z=>?_⟩
 ·try dsimp only
  rw[B1]
  ·exact S.sm _ _ z
  ·rintro⟨i,hi,e⟩
   rw[O.nw i b hi e]at z
   cases z
 ·by_cases hp:∃i,aX M i/\p∈F i
  ·have hp0:=hp
   obtain⟨i,hi,hp⟩:=hp
   obtain⟨o',e,hm⟩:=O.has hi hp
   rw[z]at e
   cases e
   exact .inl ⟨hm,(O.all p).mpr (.inr hp0)⟩
  ·exact .inr ((B1 hp).trans z)
end
section
variable{K:PySem.W.Frag}{B A:Addr->Prop}{H Hs:Hp}
theorem Ed.low{J:It}{ws:List W}(h:∀p o,H p=some o->(E5 o=true/\B p)\/Hs p=some o)(ha:∀p,A p->B p)(i:Ed K false B H J ws):Ed K false A Hs J ws:=by
 have rd:∀{a:Addr} {vs:List V},Rd H a (.lst vs)->¬B a->Rd Hs a (.lst vs):=fun{a vs} r n=>by
  rcases r with r|⟨o,r⟩
  ·rcases h a _ r with⟨_,z⟩|z
   ·exact(n z).elim
   ·exact .inl z
  ·rcases h a _ r with⟨_,z⟩|z
   ·exact(n z).elim
   ·exact .inr ⟨o,z⟩
 cases i with
 |lst q n r=>exact .lst (rd q (n rfl)) (fun e z=>n e (ha _ z)) (aj.chg h (fun p _ _ z=>ha p z) _ r)
 |@tup a vs _ q r=>
  refine .tup ?_ (aj.chg h (fun p _ _ z=>ha p z) _ r)
  rcases q with(q|⟨o,q⟩)|q
  ·rcases h a _ q with⟨z,_⟩|z
   ·cases z
   ·exact .inl (.inl z)
  ·rcases h a _ q with⟨z,_⟩|z
   ·cases z
   ·exact .inl (.inr ⟨o,z⟩)
  ·exact .inr q
 |jn lo n=>exact .jn lo n
 |Ko lo st n=>exact .Ko lo st n
 |uX q n r=>exact .uX (rd q (n rfl)) (fun e z=>n e (ha _ z)) (aj.chg h (fun p _ _ z=>ha p z) _ r)
 |rev q n r=>exact .rev (rd q (n rfl)) (fun e z=>n e (ha _ z)) (aj.chg h (fun p _ _ z=>ha p z) _ r)
end
abbrev WS:=Dn->Ev->Prop
noncomputable def nQ:Md->Bool
 |.io _=>true
 |_=>false
noncomputable def Am(K:PySem.W.Frag)(ab:Addr->Prop)(s0:Option V)(H0 H':Hp)(m:Md)(w:W)(v:V):Prop:=
 match m with
 |.io m0=>∃wr w0 v0 F',w=.tup [wr,w0]/\s0=some v0/\F'.Nodup/\(∀p∈F',H0 p=none/\¬ab p)/\Fp K (fun p=>ab p\/p∈F') H' m0 w0 v0 F'/\Rep K (fun p=>ab p\/p∈F') H' wr v
 |m=>eO K ab H0 H' m w v
theorem Am.of{K:PySem.W.Frag}{ab:Addr->Prop}{s0:Option V}{H0 H':Hp}{m:Md}{w:W}{v:V}(hm:nQ m=false)(h:eO K ab H0 H' m w v):Am K ab s0 H0 H' m w v:=by
 cases m with
 |io _=>cases hm
 |_=>exact h
theorem Am.back{K:PySem.W.Frag}{ab:Addr->Prop}{s0:Option V}{H0 Hs H':Hp}{m:Md}{w:W}{v:V}(s:ay H0 Hs)(h:Am K ab s0 Hs H' m w v):Am K ab s0 H0 H' m w v:=by
 cases m with
 |io m0=>
  obtain⟨wr,w0,v0,F',h1,h2,h3,h4,h5⟩:=h
  exact⟨wr,w0,v0,F',h1,h2,h3,fun p hp=>⟨s.free (h4 p hp).1,(h4 p hp).2⟩,h5⟩
 |_=>exact eO.back s (fun _ z=>z) h
structure KS(X:Cx)(M:Ms)(m:Md)(ab:Addr->Prop)(s0:Option V)(H0:Hp)(d:Dn)(D:Ends):Prop where
 nx:∀A ε σ H,A.ab=ab->A.s0=s0->d.nx ε->SR X.K M A H0 σ H ε->D.nx σ H
 rt:∀w v H',d.rt w->ay H0 H'->Am X.K ab s0 H0 H' m w v->D.rt v H'
 bk:∀A ε σ H,A.ab=ab->A.s0=s0->d.bk ε->SR X.K M A H0 σ H ε->D.bk σ H
 ct:∀A ε σ H,A.ab=ab->A.s0=s0->d.ct ε->SR X.K M A H0 σ H ε->D.ct σ H
noncomputable def sV(X:Cx)(M:Ms)(m:Md)(t:WS):TS:=fun D σ H=>∃A H0 ε d,SR X.K M A H0 σ H ε/\ER X H0 d.ex/\A.s0.isSome=nQ m/\t d ε/\KS X M m A.ab A.s0 H0 d D
abbrev VS(X:Cx)(M:Ms)(m:Md)(st:Stmt)(t:WS):Prop:=PS X st (sV X M m t)
abbrev Kv(X:Cx)(M:Ms)(m:Md)(st:List Stmt)(t:WS):Prop:=sI X st (sV X M m t)
theorem PS.imp{X:Cx}{e:Stmt}{t t':TS}(h:PS X e t)(k:∀D σ H,t' D σ H->t D σ H):PS X e t':=fun pins s σ H D I w=>h pins s σ H D I (k D σ H w)
theorem sI.imp{X:Cx}{e:List Stmt}{t t':TS}(h:sI X e t)(k:∀D σ H,t' D σ H->t D σ H):sI X e t':=fun pins s σ H D I w=>h pins s σ H D I (k D σ H w)
section
variable{X:Cx}{M M':Ms}{R:Addr->Prop}{m mr m0:Md}{st:Stmt}{rest:List Stmt}{t u:WS}{e e1 e2 c:Expr}{te t1 t2 tc:(Addr->Prop)->WT}{pos pos':Pos}{x:Str}{i:Nat}{π:List nI}
theorem Kw:Kv X M m [] (fun d ε=>d.nx ε):=sI.imp Jr<|by rintro D σ H ⟨A,H0,ε,d,S,er,hz,h,k⟩;exact k.nx A ε σ H rfl rfl h S
theorem Ky(h:VS X M m st t):Kv X M m [st] t:=lJ h
theorem Gq(h:VS X M m st t)(k:Kv X M m rest u):Kv X M m (st::rest) (fun d ε=>t {d with nx:=u d} ε):=
 sI.imp (bU h k)<|by rintro D σ H ⟨A,H0,ε,d,S,er,hz,h,k⟩;exact⟨A,H0,ε,{d with nx:=u d},S,er,hz,h,fun A' ε' σ' H' ea eb hn S'=>⟨A',H0,ε',d,S',er,(by rw[eb];exact hz),hn,by rw[ea,eb];exact k⟩,k.rt,k.bk,k.ct⟩
theorem Pz:VS X M m (.Break pos) (fun d ε=>d.bk ε):=PS.imp Fo<|by rintro D σ H ⟨A,H0,ε,d,S,er,hz,h,k⟩;exact k.bk A ε σ H rfl rfl h S
theorem PB{ts:List Nat}(hps:∀{tv:TE},PE X e tv->PS X st (pZ tv (gT X.K false ts)))(hi:∀i∈ts,¬aX M i)(he:∀R,VE X M R .s e (te R)):
 VS X M m st (fun d ε=>te d.ex ε fun w=>match w with|.tup l=>l.length=ts.length/\d.nx (bO ε ts l)|_=>False):=by
 rintro pins s σ H D I ⟨A,H0,ε,d,S,er,hz,h,k⟩
 refine hps (he d.ex) pins s σ H D I ⟨A,H0,ε,_,S,er,h,fun w v H1 hw s1 r=>?_⟩
 cases w with
 |tup l=>exact tgt (P:=d.nx) hi (S.same s1) r.bG hw fun vs ε' hp S'=>k.nx A _ _ H1 rfl rfl hp S'
 |_=>exact hw.elim
theorem PC{ts:List Nat}{es:List Expr}{ta:(Addr->Prop)->Ev->(List W->Prop)->Prop}(hps:∀{tv:TA},PA X es tv->PS X st (fun D σ H=>tv σ H fun vs H1=>vs.length=ts.length/\D.nx (cZ σ ts vs) H1))(hi:∀i∈ts,¬aX M i)(he:∀R,VA X M R es (ta R)):
 VS X M m st (fun d ε=>ta d.ex ε fun ws=>ws.length=ts.length/\d.nx (bO ε ts ws)):=by
 rintro pins s σ H D I ⟨A,H0,ε,d,S,er,hz,h,k⟩
 refine hps (he d.ex) pins s σ H D I ⟨A,H0,ε,_,S,er,h,fun ws vs H1 hw s1 r=>?_⟩
 exact⟨by rw[aj.len r,hw.1],k.nx A _ _ H1 rfl rfl hw.2 (SR.bO ts ws vs hi (S.same s1) r hw.1)⟩
theorem vg{K:PySem.W.Frag}{A:Fz}{H0 H:Hp}{σ:St}{ε:Ev}{w:W}{l:List W}(S:SR K M A H0 σ H ε)(hm:(i,m0)∈M)(hp:kU m0 π=some .f)(hl:look ε i=some w)(hu:cJ w π=some (.lst l)):
 ∃v p vs,σ[i]?=some (some v)/\xm K H v π (.ref p)/\H p=some (.lst vs)/\aj K A.B H l vs/\A.B p/\∀H1,ay H H1->∀(oA:List W) (vs':List V),aj K A.B H1 oA vs'->
  ∃A',A'.ab=A.ab/\A'.s0=A.s0/\(∀q o,H1 q=some o->A'.B q->A.B q)/\xj A.B H1 (upd H1 p (.lst vs'))/\SR K M A' H0 σ (upd H1 p (.lst vs')) (ε.set i (some (setAt w π (.lst oA)))):=by
 obtain⟨F,O⟩:=S.ow
 obtain⟨v,h1,h2⟩:=O.val i m0 w hm hl
 obtain⟨v',F1,F',F2,eF,r,fp,back⟩:=Fp.path π m0 h2 hp hu
 rw[Fp]at fp
 obtain⟨ws,p,vs,e1,rfl,rfl,h3,h4⟩:=fp
 cases e1
 have SG:p∈F i:=by rw[eF];simp
 have XJ:A.B p:=(O.all p).mpr (.inr ⟨i,⟨m0,hm⟩,SG⟩)
 refine⟨v,p,vs,h1,r,h3,h4,XJ,fun H1 s oA vs' hr=>?_⟩
 have S1:=S.same s
 obtain⟨F0,O0⟩:=S1.ow
 have O1:Sy K M A H0 σ H1 ε F:=⟨O.un,fun i m w hm e=>let⟨v,h1,h2⟩:=O.val i m w hm e;⟨v,h1,Fp.mv s (fun _ _ _ z=>z) m h2⟩,O.emp,O.nd,O.ds,O.nw,O.na,O.all⟩
 have Zm:=s _ _ h3
 have cB:xj A.B H1 (upd H1 p (.lst vs')):=.put Zm rfl XJ
 have XM:p∉F1++F2:=by
  have:=O.nd i ⟨m0,hm⟩
  rw[eF]at this
  intro z
  have h1:=List.nodup_append.mp this
  rcases GM.mp z with z|z
  ·have h2:=List.nodup_append.mp h1.1
   exact h2.2.2 p z p (by simp) rfl
  ·exact h1.2.2 p (by simp) p z rfl
 have fp':Fp K A.B (upd H1 p (.lst vs')) m0 (setAt w π (.lst oA)) v (F1++[p]++F2):=by
  refine back (upd H1 p (.lst vs')) A.B (.lst oA) [p] ?_ (fun q o e=>?_) (fun q _ _ z=>z)
  ·rw[Fp]
   exact⟨oA,p,vs',rfl,rfl,rfl,aD,aj.chg cB (fun _ _ _ z=>z) oA hr⟩
  ·by_cases n:q=p
   ·subst n
    rw[h3]at e
    cases e
    exact .inl ⟨rfl,XJ,XM⟩
   ·exact .inr (by rw[ai n];exact s _ _ e)
 rw[←eF]at fp'
 have hc:∀q o,H1 q=some o->(E5 o=true/\q∈F i)\/upd H1 p (.lst vs') q=some o:=fun q o e=>by
  by_cases n:q=p
  ·subst n
   rw[Zm]at e
   cases e
   exact .inl ⟨rfl,SG⟩
  ·exact .inr (by rw[ai n];exact e)
 have XN:Fp K (fun q=>(A.B q/\q∉F i)\/q∈F i) (upd H1 p (.lst vs')) m0 (setAt w π (.lst oA)) v (F i):=Fp.mv (ay.refl _) (fun q _ _ z=>by
  rcases z with z|z
  ·exact z.1
  ·exact(O.all q).mpr (.inr ⟨i,⟨m0,hm⟩,z⟩)) m0 fp'
 obtain⟨A',a1,a2,_,a3,a4,a5⟩:=O1.chg (F':=F i) S1 hm hl h1 hc (O.nd i ⟨m0,hm⟩) (fun q hq=>.inl hq) XN
 exact⟨A',a1,a2,a3,cB,a5⟩
theorem An{ε:Ev}{P:List W->Prop}(h:match look ε i with|some (.lst l)=>P l|_=>False):∃l,look ε i=some (.lst l)/\P l:=by
 cases hl:look ε i with
 |none=>rw[hl]at h;exact h.elim
 |some w0=>
  rw[hl]at h
  cases w0 with
  |lst l=>exact⟨l,rfl,h⟩
  |_=>exact h.elim
theorem XO:kU m0 []=some m0:=by cases m0<;>rw[kU]
theorem PD{w:W}:cJ w []=some w:=by cases w<;>rw[cJ]
theorem PJ{w u:W}:setAt w [] u=u:=by cases w<;>rw[setAt]
theorem PK(hps:∀{tv:TE},PE X e tv->PS X st (Fq (Y7 X.K "list" Bv (nA i) (MJ tv T4))))(hi:(i,.f)∈M)(he:∀R,VE X M R .s e (te R)):
 VS X M m st (fun d ε=>match look ε i with|some (.lst l)=>te d.ex ε fun w=>l.length<sizeLine/\d.nx (ε.set i (some (.lst (l++[w]))))|_=>False):=by
 rintro pins s σ H D I ⟨A,H0,ε,d,S,er,hz,h,k⟩
 obtain⟨l,e1,h⟩:=An h
 obtain⟨v0,p,vs,h1,h2,h3,h4,hB,upd'⟩:=vg (π:=[]) S hi XO e1 PD
 cases h2
 refine hps (he d.ex) pins s σ H D I ⟨_,h1,.inl ⟨rfl,vs,.inl (.inl h3)⟩,A,H0,ε,_,S,er,h,fun w v H1 hw s1 r=>?_⟩
 obtain⟨A',a1,a2,_,_,S'⟩:=upd' H1 s1 (l++[w]) (vs++[v]) ((h4.same s1).app (.cons r.bG .nil))
 rw[PJ]at S'
 exact⟨p,vs,v,rfl,rfl,s1 _ _ h3,by rw[h4.len];exact hw.1,k.nx A' _ _ _ a1 a2 hw.2 S'⟩
theorem PL(hps:∀{tv tk:TE},PE X e tv->PE X e1 tk->PS X st (pZ tv (TF (nA i) tk ML)))(hi:(i,.f)∈M)(he:∀R,VE X M R .s e (te R))(hk:∀R,VE X M R .s e1 (t1 R)):
 VS X M m st (fun d ε=>te d.ex ε fun w=>match look ε i with|some (.lst l)=>(t1 d.ex ε fun x=>(match x with|.int j=>∃n,zD l.length j=some n/\d.nx (ε.set i (some (.lst (l.set n w))))|_=>False))|_=>False):=by
 rintro pins s σ H D I ⟨A,H0,ε,d,S,er,hz,h,k⟩
 refine hps (he d.ex) (hk d.ex) pins s σ H D I ⟨A,H0,ε,_,S,er,h,fun w v H1 hw s1 r=>?_⟩
 obtain⟨l,e1,hw⟩:=An hw
 obtain⟨v0,p,vs,h1,h2,h3,h4,hB,upd'⟩:=vg (π:=[]) S hi XO e1 PD
 cases h2
 refine⟨_,h1,A,H0,ε,_,S.same s1,er,hw,fun z vz H2 hz' s2 rz=>?_⟩
 cases z with
 |int j=>
  obtain⟨n,e,hz'⟩:=hz'
  have s12:=s1.trans s2
  obtain⟨A',a1,a2,_,_,S'⟩:=upd' H2 s12 (l.set n w) (vs.set n v) ((h4.same s12).set (r.bG.same s2))
  rw[PJ]at S'
  exact⟨p,vs,j,n,rfl,rz.bG.int_inv,s12 _ _ h3,by rw[h4.len];exact e,k.nx A' _ _ _ a1 a2 hz' S'⟩
 |_=>exact hz'.elim
theorem Gr(he:∀R,VE X [] R mr e (te R))(hm:mr=m\/m=.s)(ho:nQ m=false):VS X M m (.Return (some e) pos) (fun d ε=>te d.ex ε d.rt):=by
 rintro pins s σ H D I ⟨A,H0,ε,d,S,er,hz,h,k⟩
 refine pY (he d.ex) pins s σ H D I ⟨_,H0,ε,_,S.go,er,h,fun w v H1 hw s1 r=>?_⟩
 rcases hm with rfl|rfl
 ·exact k.rt w v H1 hw (S.sm.trans s1) (.of ho (r.back S.sm fun _ z=>z))
 ·exact k.rt w v H1 hw (S.sm.trans s1) (.of ho ((r.s S.dm).back S.sm fun _ z=>z))
theorem Kz(he:PE X e (nA i))(hi:(i,m)∈M)(ho:nQ m=false):VS X M m (.Return (some e) pos) (fun d ε=>match look ε i with|some w=>d.rt w|none=>False):=by
 rintro pins s σ H D I ⟨A,H0,ε,d,S,er,hz,h,k⟩
 try dsimp only at h
 cases hl:look ε i with
 |none=>rw[hl]at h;exact h.elim
 |some w=>
  rw[hl]at h
  obtain⟨F,O⟩:=S.ow
  obtain⟨v,h1,h2⟩:=O.val i m w hi hl
  refine pY he pins s σ H D I ⟨_,h1,k.rt _ _ H h S.sm (.of ho ⟨F i,O.nd i ⟨m,hi⟩,fun p hp=>O.nw i p ⟨m,hi⟩ hp,Fp.mv (ay.refl _) (fun q _ _ z=>?_) m h2⟩)⟩
  rcases z with z|z
  ·exact(O.all q).mpr (.inl z)
  ·exact(O.all q).mpr (.inr ⟨i,⟨m,hi⟩,z⟩)
theorem vh{K:PySem.W.Frag}{A:Fz}{H0 H:Hp}{σ:St}{ε:Ev}{wr w0:W}{v:V}(S:SR K M A H0 σ H ε)(h0:(0,m0)∈M)(hl:look ε 0=some w0)(hs:∃v0,A.s0=some v0)(r:Rep K A.B H wr v):Am K A.ab A.s0 H0 H (.io m0) (.tup [wr,w0]) v:=by
 obtain⟨v0,hs⟩:=hs
 obtain⟨F,O⟩:=S.ow
 obtain⟨u,h1,h2⟩:=O.val 0 m0 w0 h0 hl
 rw[(S.sl v0 hs).1]at h1
 cases h1
 have hb:∀p,(A.ab p\/p∈F 0)->A.B p:=fun p z=>(O.all p).mpr (z.imp id fun z=>⟨0,⟨m0,h0⟩,z⟩)
 exact⟨wr,w0,v0,F 0,rfl,hs,O.nd 0 ⟨m0,h0⟩,fun p hp=>⟨O.nw 0 p ⟨m0,h0⟩ hp,O.na 0 p ⟨m0,h0⟩ hp⟩,Fp.mv (ay.refl _) (fun p _ _ z=>hb p z) m0 h2,r.less hb⟩
theorem UR{a b:List Stmt}(hc:∀R,VT X M R c (tc R))(ha:Kv X M m a t)(hb:Kv X M m b u):VS X M m (.If c a b pos) (fun d ε=>tc d.ex ε fun x=>truth x fun k=>if k=true then t d ε else u d ε):=by
 rintro pins s σ H D I ⟨A,H0,ε,d,S,er,hz,h,k⟩
 refine Tv (hc d.ex) ha hb pins s σ H D I ⟨A,H0,ε,_,S,er,h,fun x H1 hx s1=>?_⟩
 obtain⟨q,rfl,hx⟩:=cg hx
 refine⟨q,rfl,?_⟩
 cases q with
 |true=>exact⟨A,H0,ε,d,S.same s1,er,hz,hx,k⟩
 |false=>exact⟨A,H0,ε,d,S.same s1,er,hz,hx,k⟩
end
theorem Gs{X:Cx}{st:Stmt}{t:TS}(h:PS X.nB st t):PS X st t:=PS.nB h
section
variable{X:Cx}{M:Ms}{m:Md}{body:List Stmt}{tb:WS}{c iter tg:Expr}{tc:WT}{ti:(Addr->Prop)->WT}{pos:Pos}{one:Bool}{ts:List Nat}
theorem PM(hc:VT X.nB M (fun _=>False) c tc)(hb:Kv X.nB M m body tb):VS X M m (.While c body [] pos) (fun d ε=>OX (fun ε Q=>tc ε fun x=>truth x Q) tb d ε):=by
 refine PS.imp (Gs (Fv PassesOwn.never hc hb)) ?_
 rintro D σ H ⟨A,H0,ε,d,S,er,hz,h,k⟩
 obtain⟨J,⟨m0,j0⟩,turn⟩:=h
 refine⟨fun n σ' H'=>∃A' ε',A'.ab=A.ab/\A'.s0=A.s0/\J n ε'/\SR X.K M A' H0 σ' H' ε',⟨m0,A,ε,rfl,rfl,j0,S⟩,?_⟩
 rintro n σ1 H1 ⟨A1,gu,ea,eb,j1,S1⟩
 refine⟨A1,H0,gu,_,S1,.none,turn n gu j1,fun x H2 hx s2=>?_⟩
 obtain⟨q,rfl,hx⟩:=cg hx
 refine⟨q,rfl,?_⟩
 cases q with
 |true=>
  obtain⟨N,hN,hx⟩:=hx
  refine⟨fun σ' H'=>∃A' ε',A'.ab=A.ab/\A'.s0=A.s0/\N ε'/\SR X.K M A' H0 σ' H' ε',fun σ' H' ⟨A',ε',a1,a2,q1,q2⟩=>?_,A1,H0,gu,_,S1.same s2,.none,(by rw[eb];exact hz),hx,⟨fun A' ε' σ' H' a1 a2 q1 q2=>⟨A',ε',a1.trans ea,a2.trans eb,q1,q2⟩,by rw[ea,eb];exact k.rt,fun A' ε' σ' H' a1 a2 q1 q2=>k.nx A' ε' σ' H' (a1.trans ea) (a2.trans eb) q1 q2,fun A' ε' σ' H' a1 a2 q1 q2=>⟨A',ε',a1.trans ea,a2.trans eb,q1,q2⟩⟩⟩
  obtain⟨m',l,j'⟩:=hN ε' q1
  exact⟨m',l,A',ε',a1,a2,j',q2⟩
 |false=>exact k.nx A1 _ _ H2 ea eb hx (S1.same s2)
theorem PN(hc:X.calm=true)(hM:∀i∈ts,¬aX M i)(hi:PI X.nB tg iter (Gn X.nB M (fun _=>False) false (ti fun _=>False)))(hg:PG X.nB tg (gT X.K one ts))(hb:Kv X.nB M m body tb)(hs:∀x,foldedSetIterable iter X.env x=pure x):
 VS X M m (.For tg iter body [] pos) (fun d ε=>ti (fun _=>False) ε fun z=>items z fun ws=>j4 (fun w D' ε'=>wT one ts w ε' fun oU=>tb D' oU) d ws ε):=by
 refine PS.imp (Gs (Oa PassesOwn.never hc hi hg hb hs)) ?_
 rintro D σ H ⟨A,H0,ε,d,S,er,hz,h,k⟩
 refine⟨A,H0,ε,_,S,.none,h,fun z hz'=>?_⟩
 obtain⟨ws,ez,hw⟩:=tY.mp hz'
 refine⟨ws,ez,fun J H1 s1 it=>?_⟩
 have S1:=S.same s1
 obtain⟨Hs,Ss,b0,b1,b2⟩:=S1.rb
 have low:Ed X.K false A.ab Hs J ws:=it.low (fun p o e=>b2 p o e) fun p z=>S.sub' p z
 have iw:=low.iw
 refine⟨fun i n σ' H'=>n=ws.length -i/\i<=ws.length/\∃A' ε',A'.ab=A.ab/\A'.s0=A.s0/\SR X.K M A' Hs σ' H' ε'/\j4 (fun w D' ε'=>wT one ts w ε' fun oU=>tb D' oU) d (ws.drop i) ε',⟨ws.length,rfl,NM _,A,ε,rfl,rfl,Ss,hw⟩,?_⟩
 have up:∀{A':Fz} {σ':St} {H':Hp} {ε':Ev},SR X.K M A' Hs σ' H' ε'->SR X.K M A' H0 σ' H' ε':=fun{A' σ' H' ε'} q=>by
  obtain⟨F,O⟩:=q.ow
  exact⟨q.len,q.sh,b0.trans q.sm,q.dm,q.sl,F,⟨O.un,O.val,O.emp,O.nd,O.ds,fun i p hi e=>b0.free (O.nw i p hi e),O.na,O.all⟩⟩
 rintro i n σ2 H2 ⟨rfl,hi2,A2,jo,ea,eb,S2,Ak⟩
 by_cases hlt:i<ws.length
 ·refine .inr ⟨iw.go i H2 S2.sm hlt,fun σ' H'=>∃A' ε',A'.ab=A.ab/\A'.s0=A.s0/\SR X.K M A' Hs σ' H' ε'/\j4 (fun w D' ε'=>wT one ts w ε' fun oU=>tb D' oU) d (ws.drop (i+1)) ε',by rintro σ' H' ⟨A',ε',a1,a2,q1,q2⟩;exact⟨ws.length -(i+1),by omega,rfl,hlt,A',ε',a1,a2,q1,q2⟩,fun x H3 y=>?_⟩
  have hwi:ws[i]?=some ws[i]:=BM hlt
  rw[Xt hlt,j4]at Ak
  generalize ws[i]=w at*
  obtain⟨s3,hrep⟩:=iw.yl i H2 x H3 w S2.sm hwi y
  have hr:Rep X.K (FB A2 M σ2) H3 w x:=hrep _ fun p o e z=>by
   obtain⟨F,O⟩:=S2.ow
   rcases(O.all p).mp z with z|⟨j,hj,e2⟩
   ·rw[ea]at z
    exact z
   ·rw[O.nw j p hj e2]at e
    cases e
  refine tgt hM (S2.same s3) hr Ak fun vs ε' hp S4=>?_
  exact⟨A2,Hs,ε',_,S4,.none,(by rw[eb];exact hz),hp,⟨fun A' oU US Zn a1 a2 q1 q2=>⟨A',oU,a1.trans ea,a2.trans eb,q2,q1⟩,fun w' v' H' q1 q2 q3=>k.rt w' v' H' q1 (b0.trans q2) (by rw[ea,eb]at q3;exact q3.back b0),fun A' oU US Zn a1 a2 q1 q2=>k.nx A' _ _ _ (a1.trans ea) (a2.trans eb) q1 (up q2),fun A' oU US Zn a1 a2 q1 q2=>⟨A',oU,a1.trans ea,a2.trans eb,q2,q1⟩⟩⟩
 ·have e:i=ws.length:=by omega
  subst e
  refine .inl ⟨iw.st _ H2 S2.sm rfl,?_⟩
  rw[List.drop_length,j4]at Ak
  exact k.nx A2 _ _ _ ea eb Ak (up S2)
end
structure Go(A:Fz)(H:Hp)(A':Fz)(H':Hp):Prop where
 ab:A'.ab=A.ab
 s0:A'.s0=A.s0
 B:∀p o,H p=some o->A'.B p->A.B p
 ch:xj A.B H H'
theorem Go.same{A:Fz}{H H':Hp}(s:ay H H'):Go A H A H':=⟨rfl,rfl,fun _ _ _ z=>z,.same s⟩
theorem Go.trans{A A1 A2:Fz}{H H1 H2:Hp}(g:Go A H A1 H1)(k:Go A1 H1 A2 H2):Go A H A2 H2:=by
 refine⟨k.ab.trans g.ab,k.s0.trans g.s0,fun p o e z=>?_,fun p o e=>?_⟩
 ·rcases g.ch p o e with⟨_,y⟩|y
  ·exact y
  ·exact g.B p o e (k.B p o y z)
 ·rcases g.ch p o e with y|y
  ·exact .inl y
  ·rcases k.ch p o y with⟨h1,h2⟩|h
   ·exact .inl ⟨h1,g.B p o e h2⟩
   ·exact .inr h
theorem Go.rep{K:PySem.W.Frag}{A A1:Fz}{H H1:Hp}{w:W}{v:V}(g:Go A H A1 H1)(h:Rep K A.B H w v):Rep K A1.B H1 w v:=Rep.chg g.ch g.B w h
abbrev PR:=Ev->(W->Ev->Prop)->Prop
abbrev UT:=Ev->(List W->Ev->Prop)->Prop
noncomputable def tP(X:Cx)(M:Ms)(R:Addr->Prop)(t:PR):TE:=fun σ H Q=>∃A H0 ε P,SR X.K M A H0 σ H ε/\ER X H0 R/\t ε P/\∀A' w v H' ε',P w ε'->Go A H A' H'->SR X.K M A' H0 σ H' ε'->Rep X.K A'.B H' w v->Q v H'
noncomputable def tPA(X:Cx)(M:Ms)(R:Addr->Prop)(t:UT):TA:=fun σ H Q=>∃A H0 ε P,SR X.K M A H0 σ H ε/\ER X H0 R/\t ε P/\∀A' ws vs H' ε',P ws ε'->Go A H A' H'->SR X.K M A' H0 σ H' ε'->aj X.K A'.B H' ws vs->Q vs H'
abbrev VP(X:Cx)(M:Ms)(R:Addr->Prop)(e:Expr)(t:PR):Prop:=PE X e (tP X M R t)
abbrev PU(X:Cx)(M:Ms)(R:Addr->Prop)(es:List Expr)(t:UT):Prop:=PA X es (tPA X M R t)
section
variable{X:Cx}{M:Ms}{R:Addr->Prop}{m m0:Md}{e a b c:Expr}{es rest:List Expr}{t ta tb:PR}{tl:UT}{pos apos cpos p:Pos}{i j:Nat}{st:Stmt}{x:Str}{π:List nI}
theorem UU{t:WT}(h:VE X M R .s e t):VP X M R e (fun ε Q=>t ε fun w=>Q w ε):=PE.imp h<|by rintro σ H Q ⟨A,H0,ε,P,S,er,h,k⟩;exact⟨A,H0,ε,_,S,er,h,fun w v H' hw s r=>k A w v H' ε hw (.same s) (S.same s) r.bG⟩
theorem PV(hi:(i,.f)∈M)(hv:PE X e (nA i))(hbase:attributeBase e "pop" X.env (eval e X.env)=eval e X.env)(hline:(apos.endLine==cpos.line)=true):
 VP X M R (.Call (.Attribute e "pop" apos) [] [] cpos) (fun ε Q=>match look ε i with|some (.lst l)=>∃w,l[l.length -1]?=some w/\Q w (ε.set i (some (.lst l.dropLast)))|_=>False):=
 PE.imp (FJ PySem.F.plainAttrs_list PySem.F.slot_list_pop PySem.F.type_list_pop Oz hv hbase hline)<|by
  rintro σ H Q ⟨A,H0,ε,P,S,er,h,k⟩
  obtain⟨l,e1,w,e2,h⟩:=An h
  obtain⟨v0,q,vs,h1,h2,h3,h4,hB,upd'⟩:=vg (π:=[]) S hi XO e1 PD
  cases h2
  obtain⟨v,e3,hr⟩:=h4.get e2
  obtain⟨A',a1,a2,a3,a4,S'⟩:=upd' H (ay.refl H) l.dropLast vs.dropLast h4.dropLast
  rw[PJ]at S'
  have g:Go A H A' (upd H q (.lst vs.dropLast)):=⟨a1,a2,a3,a4⟩
  exact⟨_,h1,.inl ⟨rfl,vs,.inl (.inl h3)⟩,q,vs,v,rfl,rfl,h3,by rw[h4.len];exact e3,k A' w v _ _ h g S' (g.rep hr)⟩
theorem PY{op:Operator}(ha:VP X M R a ta)(hb:VP X M R b tb):VP X M R (.BinOp a op b pos) (fun ε Q=>ta ε fun x gu=>tb gu fun y jo=>fW op x y fun z=>Q z jo):=by
 rintro pins s σ H Q I ⟨A,H0,ε,P,S,er,p,k⟩
 refine wpAny_BinOp (bin ha hb I (R:=fun vx vy H2=>∃x y A2 jo,fW op x y (fun z=>P z jo)/\Go A H A2 H2/\SR X.K M A2 H0 σ H2 jo/\Rep X.K A2.B H2 x vx/\Rep X.K A2.B H2 y vy) ⟨A,H0,ε,_,S,er,p,fun A1 x vx H1 gu hx g1 S1 rx=>⟨A1,H0,gu,_,S1,er,hx,fun A2 y vy H2 jo hy g2 S2 ry=>⟨x,y,A2,jo,hy,g1.trans g2,S2,g2.rep rx,ry⟩⟩⟩ ?_)
 rintro v u s2 vx vy H2 I2 rv ru ⟨x,y,A2,jo,h,g,S2,hx,hy⟩
 exact Ah op pins s2 σ H2 A2.B x y vx vy v u _ Q I2 S2.dom rv ru hx.b hy.b h fun w z H' pw s' r=>k A2 w z H' jo pw (g.trans (.same s')) (S2.same s') (r.rep S2.dom)
theorem PZ{op:CmpOp}(hu:X.A.units+64<cLine)(hm:behindInMarks op b=false)(ha:VP X M R a ta)(hb:VP X M R b tb):VP X M R (.Compare a [op] [b] pos) (fun ε Q=>ta ε fun x gu=>tb gu fun y jo=>eT op x y fun z=>Q z jo):=by
 rintro pins s σ H Q I ⟨A,H0,ε,P,S,er,p,k⟩
 refine wpAny_Compare1 (bin ha hb I (R:=fun vx vy H2=>∃x y A2 jo,eT op x y (fun z=>P z jo)/\Go A H A2 H2/\SR X.K M A2 H0 σ H2 jo/\Rep X.K A2.B H2 x vx/\Rep X.K A2.B H2 y vy) ⟨A,H0,ε,_,S,er,p,fun A1 x vx H1 gu hx g1 S1 rx=>⟨A1,H0,gu,_,S1,er,hx,fun A2 y vy H2 jo hy g2 S2 ry=>⟨x,y,A2,jo,hy,g1.trans g2,S2,g2.rep rx,ry⟩⟩⟩ ?_) hm
 rintro v u s2 vx vy H2 I2 rv ru ⟨x,y,A2,jo,h,g,S2,hx,hy⟩
 exact Ai hu op pins s2 σ H2 A2.B x y vx vy v u _ Q I2 S2.dom rv ru hx.b hy.b h fun w z H' pw s' r=>k A2 w z H' jo pw (g.trans (.same s')) (S2.same s') (r.rep S2.dom)
theorem KA:PU X M R [] (fun ε Q=>Q [] ε):=PA.imp aZ<|by rintro σ H Q ⟨A,H0,ε,P,S,er,h,k⟩;exact k A [] [] H ε h (.same (ay.refl H)) S .nil
theorem Gu(hs:starEach (a::es) X.env=(false,eval a X.env)::starEach es X.env)(ha:VP X M R a ta)(hr:PU X M R es tl):PU X M R (a::es) (fun ε Q=>ta ε fun x gu=>tl gu fun xs jo=>Q (x::xs) jo):=
 PA.imp (au ha hr hs)<|by
  rintro σ H Q ⟨A,H0,ε,P,S,er,h,k⟩
  refine⟨A,H0,ε,_,S,er,h,fun A1 x vx H1 gu hx g1 S1 rx=>⟨A1,H0,gu,_,S1,er,hx,fun A2 xs vs H2 jo hxs g2 S2 rs=>?_⟩⟩
  exact k A2 _ _ H2 jo hxs (g1.trans g2) S2 (.cons (g2.rep rx) rs)
theorem UW(hs:lM b)(ha:VP X M R a ta)(hb:VP X M R b tb):VP X M R (.Subscript a b pos) (fun ε Q=>ta ε fun x gu=>tb gu fun y jo=>Ge x y fun z=>Q z jo):=PE.imp (FH zZ ha hb hs)<|by
 rintro σ H Q ⟨A,H0,ε,P,S,er,h,k⟩
 refine⟨A,H0,ε,_,S,er,h,fun A1 x vx H1 gu hx g1 S1 rx=>⟨A1,H0,gu,_,S1,er,hx,fun A2 y vy H2 jo hy g2 S2 ry=>?_⟩⟩
 have rx:=(g2.rep rx).b
 cases x with
 |lst l=>
  cases y with
  |int i=>
   obtain⟨p,vs,rfl,h1,h2⟩:=rx.lst
   obtain⟨w,e,hy⟩:=hy
   obtain⟨v,e2,h3⟩:=BF h2 e
   exact .inl ⟨p,vs,i,v,rfl,ry.int_inv,.inl h1,e2,k A2 _ _ H2 jo hy (g1.trans g2) S2 h3⟩
  |_=>exact hy.elim
 |tup l=>
  cases y with
  |int i=>
   obtain⟨p,vs,rfl,h1,h2⟩:=rx.tup
   obtain⟨w,e,hy⟩:=hy
   obtain⟨v,e2,h3⟩:=BF h2 e
   exact .inr (.inl ⟨p,vs,i,v,rfl,ry.int_inv,h1,e2,k A2 _ _ H2 jo hy (g1.trans g2) S2 h3⟩)
  |_=>exact hy.elim
 |gy ns=>
  cases y with
  |int i=>
   obtain⟨p,rfl,h1⟩:=rx.gy
   obtain⟨n,e,hy⟩:=hy
   exact .inl ⟨p,_,i,_,rfl,ry.int_inv,h1,BG e,k A2 _ _ H2 jo hy (g1.trans g2) S2 (iB _)⟩
  |_=>exact hy.elim
 |_=>exact hy.elim
theorem aj.bl{K:PySem.W.Frag}{B:Addr->Prop}{H:Hp}:∀{ws:List W} {vs:List V},aj K B H ws vs->oB K B H ws vs
 |[],_,h=>h.nil_inv
 |w::ws,_,h=>by
  obtain⟨v,r,rfl,h1,h2⟩:=h.cons_inv
  exact⟨v,r,rfl,h1.b,h2.bl⟩
theorem P4{bi:BI}{id:String}(hc:dg X (.builtin id) (SD X.K bi))(hg:Gl X x)(hm:X.mg x=none)(hv:bootBuiltins x=some (.builtin id))(ha:PU X M R (e::es) tl)(hn:x≠"__name__")(hdb:(x==("__debug__":Str))=false)
 (he:starEach (e::es) X.env=(false,eval e X.env)::starEach es X.env) (hpl:(backTo pos (starEach es X.env)).any (·.1)=false):VP X M R (.Call (.Name x p) (e::es) [] pos) (fun ε Q=>tl ε fun ws ε'=>qo bi ws fun w=>Q w ε'):=
 PE.imp (cy hc hg hm hv ha hn hdb he hpl)<|by rintro σ H Q ⟨A,H0,ε,P,S,er,h,k⟩;exact⟨A,H0,ε,_,S,er,h,fun A1 ws vs H1 gu hw g1 S1 rs=>⟨A1.B,ws,fun w=>P w gu,S1.dom,rs.bl,hw,fun w v H' pw s' r=>k A1 w v H' gu pw (g1.trans (.same s')) (S1.same s') (r.rep S1.dom)⟩⟩
theorem KC(hps:∀{tv:TE},PE X e tv->PS X st (pZ tv (iu j)))(hj:¬aX M j){tt:(Addr->Prop)->PR}(he:∀R,VP X M R e (tt R)):VS X M m st (fun d ε=>tt d.ex ε fun w ε'=>d.nx (ε'.set j (some w))):=by
 rintro pins s σ H D I ⟨A,H0,ε,d,S,er,hz,h,k⟩
 exact hps (he d.ex) pins s σ H D I ⟨A,H0,ε,_,S,er,h,fun A1 w v H1 ε' hw g S1 r=>k.nx A1 _ _ H1 g.ab g.s0 hw (S1.set hj r)⟩
theorem BJ{tt:(Addr->Prop)->PR}(hps:∀R,PS X st (Fq (tP X M R (tt R)))):VS X M m st (fun d ε=>tt d.ex ε fun w ε'=>d.nx ε'):=by
 rintro pins s σ H D I ⟨A,H0,ε,d,S,er,hz,h,k⟩
 exact hps d.ex pins s σ H D I ⟨A,H0,ε,_,S,er,h,fun A1 w v H1 ε' hw g S1 r=>k.nx A1 _ _ H1 g.ab g.s0 hw S1⟩
theorem P5{te:(Addr->Prop)->WT}(he:∀R,VE X M R .s e (te R))(h0:(0,m0)∈M):VS X M (.io m0) (.Return (some e) pos) (fun d ε=>te d.ex ε fun w=>match look ε 0 with|some w0=>(d.rt (.tup [w,w0]))|none=>False):=by
 rintro pins s σ H D I ⟨A,H0,ε,d,S,er,hz,h,k⟩
 refine pY (he d.ex) pins s σ H D I ⟨A,H0,ε,_,S,er,h,fun w v H1 hw s1 r=>?_⟩
 cases hl:look ε 0 with
 |none=>rw[hl]at hw;exact hw.elim
 |some w0=>
  rw[hl]at hw
  exact k.rt _ v H1 hw (S.sm.trans s1) (vh (S.same s1) h0 hl (Ta.mp hz) r.bG)
theorem P6(h0:(0,m0)∈M):VS X M (.io m0) (.Return none pos) (fun d ε=>match look ε 0 with|some w0=>(d.rt (.tup [.aU,w0]))|none=>False):=by
 rintro pins s σ H D I ⟨A,H0,ε,d,S,er,hz,h,k⟩
 try dsimp only at h
 cases hl:look ε 0 with
 |none=>rw[hl]at h;exact h.elim
 |some w0=>
  rw[hl]at h
  exact Bo pins s σ H D I (k.rt _ _ H h S.sm (vh S h0 hl (Ta.mp hz) UE))
end
section
variable{X:Cx}{M:Ms}{R:Addr->Prop}{m m0:Md}{e o a b c:Expr}{es rest:List Expr}{t ta tb:PR}{tl:UT}{pos apos cpos p:Pos}{i j n:Nat}{st:Stmt}{x:Str}{π:List nI}
theorem KD{k n:Nat}{fv:Value}{sp:bT}(F:c7 X.prog X.w X.K X.mg X.base k fv n (MT X.K n m sp))(hr:cH k X.A)(hg:Gl X x)(hm:X.mg x=some fv)
 (hn:∀ws P R,sp ws P R->ws.length=n) (ha:PU X M R (e::es) tl) (hdb:(x==("__debug__":Str))=false) (he:starEach (e::es) X.env=(false,eval e X.env)::starEach es X.env) (hpl:(backTo pos (starEach es X.env)).any (·.1)=false):
 VP X M R (.Call (.Name x p) (e::es) [] pos) (fun ε Q=>tl ε fun ws ε'=>sp ws (fun w=>Q w ε') R):=by
 rintro pins s σ H Q I ⟨A,H0,ε,P,S,er,h,kk⟩
 obtain⟨E,pE,hE,hR⟩:=er
 refine UV (gw I hg hm ?_ hdb)
 refine cq (h₀:=X.base) I.ok.mod.Jo F.keep (bE (ha pos pins s σ H (fun vs H1=>∃ws A1 gu,Go A H A1 H1/\SR X.K M A1 H0 σ H1 gu/\aj X.K A1.B H1 ws vs/\sp ws (fun w=>P w gu) R) I ⟨A,H0,ε,_,S,⟨E,pE,hE,hR⟩,h,fun A1 ws vs H1 gu hw g1 S1 rs=>⟨ws,A1,gu,g1,S1,rs,hw⟩⟩) fun us s1 ⟨vs,H1,I1,r,ws,A1,gu,g1,S1,rs,tS⟩=>⟨I1.j6,?_⟩) he hpl
 exact F.run hr pE I1 r ⟨A1.B,ws,_,R,hn _ _ _ tS,rs,S1.dom,tS,fun w v H' pw s' r'=>kk A1 w v H' gu pw (g1.trans (.same s')) (S1.same s') (r'.rep S1.dom),fun C H' rc s'=>hE C H' rc (S1.sm.trans s')⟩
theorem MU{K:PySem.W.Frag}{A:Fz}{H0 H:Hp}{σ:St}{ε:Ev}{w0:W}{sp:bT}{ws:List W}{vs:List V}{P:W->Ev->Prop}{Q:VK}{E:XK}{v0:V}(S:SR K M A H0 σ H ε)(hi:(i,m0)∈M)(hl:look ε i=some w0)(hv:σ[i]?=some (some v0))(rs:aj K A.B H ws vs)(hn:ws.length+1=n)
 (h:sp (w0::ws) (fun r=>∃w y,r=.tup [w,y]/\P w (ε.set i (some y))) R) (hE:∀C H',R C->ay H0 H'->E (.ref C) none H') (kk:∀A' w v H' ε',P w ε'->Go A H A' H'->SR K M A' H0 σ H' ε'->Rep K A'.B H' w v->Q v H'):Pn K n m0 sp (v0::vs) H Q E:=by
 obtain⟨F,O⟩:=S.ow
 obtain⟨v,h1,h2⟩:=O.val i m0 w0 hi hl
 rw[hv]at h1
 cases h1
 have hh:aX M i:=⟨m0,hi⟩
 have eB:∀p,((A.B p/\p∉F i)\/p∈F i)->A.B p:=fun p z=>by
  rcases z with z|z
  ·exact z.1
  ·exact(O.all p).mpr (.inr ⟨i,hh,z⟩)
 refine⟨fun p=>A.B p/\p∉F i,F i,w0,v0,ws,vs,_,R,rfl,hn,O.nd i hh,fun p hp z=>z.2 hp,fun p z=>S.dom p z.1,Fp.mv (ay.refl _) (fun p _ _ z=>eB p z) m0 h2,rs.less eB,h,fun w y v F' H' hw hc nd nw fp rw'=>?_,fun C H' rc hc=>hE C H' rc fun p o e=>?_⟩
 ·obtain⟨w',y',e,hw⟩:=hw
  cases e
  obtain⟨A',a1,a2,aB,a3,a4,S'⟩:=O.chg (F':=F') S hi hl hv (fun p o e=>(hc p o e).imp (fun z=>⟨z.1,z.2⟩) id) nd nw fp
  exact kk A' w v H' _ hw ⟨a1,a2,a3,a4⟩ S' (rw'.less fun p z=>(aB p).mp z)
 ·rcases hc p o (S.sm p o e)with⟨_,z⟩|z
  ·rw[O.nw i p hh z]at e
   cases e
  ·exact z
theorem P7{pl:Sem Bool}{G:W}{k n:Nat}{f:Addr}{fd:FuncData}{ps fs:List Str}{ms:List Md}{sp:bT}(hG:∀C,G=.cls C->Meth X.K C x f)(F:aH X.prog X.w X.K X.mg X.base (cK X.prog X.w) k f fd ps (Pn X.K n (.o fs ms) sp))(hr:cH k X.A)(hb:Binds X.K fd ps [])(hi:(i,.o fs ms)∈M)(hx:fs.contains x=false)
 (hn:∀ws P R,sp ws P R->ws.length=n) (hv:PE X o (nA i)) (ha:PU X M R (e::es) tl) (hst:starEach (e::es) X.env=(false,eval e X.env)::starEach es X.env) (hpl:(backTo pos (starEach es X.env)).any (·.1)=false)
 (ht:eval (.Call (.Attribute o x apos) (e::es) [] pos) X.env=(do
   let ov←eval o X.env
   standAt apos.atName
   let(f,first)←holding [ov] (getMethod ov x pl)
   callWith pos f first (backTo pos (starEach (e::es) X.env)) (backToKw pos (keywordEach [] X.env)))):
 VP X M R (.Call (.Attribute o x apos) (e::es) [] pos) (fun ε Q=>match look ε i with|some (.obj C _ _)=>G=.cls C/\(tl ε fun ws ε'=>match look ε' i with|some w0=>sp (w0::ws) (fun r=>∃w y,r=.tup [w,y]/\Q w (ε'.set i (some y))) R|none=>False)|_=>False):=by
 rintro pins s σ H Q I ⟨A,H0,ε,P,S,er,h,kk⟩
 obtain⟨E,pE,hE,hR⟩:=er
 try dsimp only at h
 cases hl:look ε i with
 |none=>rw[hl]at h;exact h.elim
 |some w1=>
  rw[hl]at h
  cases w1 with
  |obj C fs' ws1=>
   obtain⟨hg,h⟩:=h
   obtain⟨F0,O0⟩:=S.ow
   obtain⟨v0,hv0,UX⟩:=O0.val i _ _ hi hl
   rw[Fp]at UX
   obtain⟨C',dx,oA,q,Wn,F',e1,rfl,e3,h1,h2,hc,_⟩:=UX
   cases e1
   have lk:(fs.zip Wn).lookup x=none:=by
    have:∀(l:List Str) (r:List V),l.contains x=false->(l.zip r).lookup x=none:=fun l=>by
     induction l with
     |nil=>intro r _;rfl
     |cons y l ih=>
      intro r hx
      cases r with
      |nil=>rfl
      |cons z r=>
       rw[List.contains_cons,Bool.or_eq_false_iff]at hx
       rw[List.zip_cons_cons,List.lookup_cons,hx.1]
       exact ih r hx.2
    exact this fs Wn hx
   have mt:=hG C hg
   refine PySem.W.methodCall_KW (pl:=pl) (bE (hv pins s σ H (fun v' H'=>v'=V.ref q/\H'=H) I ⟨_,hv0,rfl,rfl⟩) fun u s1 ⟨x1,H1,I1,rx,ex,eh⟩=>?_) ht
   subst ex
   subst eh
   obtain rfl:u=Value.ref q:=rx
   refine qa I1 h1 hc.1 mt lk ?_
   refine cq (first:=[.ref q]) (h₀:=X.base) I.ok.mod.Jo mt.kp (bE (ha pos pins s1 σ H1 (fun vs' XQ=>∃ws A1 gu w0,Go A H1 A1 XQ/\SR X.K M A1 H0 σ XQ gu/\aj X.K A1.B XQ ws vs'/\look gu i=some w0/\sp (w0::ws) (fun r=>∃w y,r=.tup [w,y]/\P w (gu.set i (some y))) R) I1 ⟨A,H0,ε,_,S,⟨E,pE,hE,hR⟩,h,fun A1 ws vs H1 gu hw g1 S1 rs=>?_⟩) fun us s2 ⟨vs,H2,I2,r,ws,A1,gu,w0,g1,S1,rs,hl1,tS⟩=>⟨I2.j6,?_⟩) hst hpl
   ·try dsimp only at hw
    cases hl1:look gu i with
    |none=>rw[hl1]at hw;exact hw.elim
    |some w0=>
     rw[hl1]at hw
     exact⟨ws,A1,gu,w0,g1,S1,rs,hl1,hw⟩
   ·refine uP (us:=.ref q::us) (vs:=.ref q::vs) (ds:=[]) (zX:=[]) F hr hb .nil pE I2 (.cons rfl r) ?_
    rw[L9]
    exact MU S1 hi hl1 hv0 rs (by have:=hn _ _ _ tS;simpa using this) tS hE fun A' w v H' ε' hw g S' rr=>kk A' w v H' ε' hw (g1.trans g) S' rr
  |_=>exact h.elim
end
theorem P8{x:Str}:∀(l:List Str) (r:List V),l.contains x=false->(l.zip r).lookup x=none:=fun l=>by
 induction l with
 |nil=>intro r _;rfl
 |cons y l ih=>
  intro r hx
  cases r with
  |nil=>rfl
  |cons z r=>
   rw[List.contains_cons,Bool.or_eq_false_iff]at hx
   rw[List.zip_cons_cons,List.lookup_cons,hx.1]
   exact ih r hx.2
theorem P9{x:Str}{n:Nat}{v:V}:∀(l:List Str) (r:List V) (n:Nat),l.Nodup->l[n]?=some x->r[n]?=some v->(l.zip r).lookup x=some v:=fun l=>by
 induction l with
 |nil=>intro r n _ e _;exact nn e
 |cons y l ih=>
  intro r n nd e1 e2
  cases r with
  |nil=>exact nn e2
  |cons z r=>
   rw[List.zip_cons_cons,List.lookup_cons]
   cases n with
   |zero=>
    cases e1
    cases e2
    rw[beq_self_eq_true]
   |succ n=>
    have JR:l[n]?=some x:=by simpa using e1
    have ne:(x==y)=false:=by
     rw[beq_eq_false_iff_ne]
     rintro rfl
     exact(SU.mp nd).1 (Pm JR)
    rw[ne]
    exact ih r n (SU.mp nd).2 JR (by simpa using e2)
theorem KG{x:Str}{v:V}:∀(l:List Str) (r:List V) (n:Nat),l.Nodup->l[n]?=some x->r.length=l.length->iQ x v (l.zip r)=l.zip (r.set n v):=fun l=>by
 induction l with
 |nil=>intro r n _ e _;exact nn e
 |cons y l ih=>
  intro r n nd e1 hl
  cases r with
  |nil=>cases hl
  |cons z r=>
   cases n with
   |zero=>
    cases e1
    rw[List.set_cons_zero,List.zip_cons_cons,List.zip_cons_cons,iQ]
    rw[Bi (by first|rfl|simp)]
   |succ n=>
    have JR:l[n]?=some x:=by simpa using e1
    have ne:y≠x:=by
     rintro rfl
     exact(SU.mp nd).1 (Pm JR)
    rw[List.set_cons_succ,List.zip_cons_cons,List.zip_cons_cons,iQ]
    rw[B1 (by first|exact ne|simpa using ne),ih r n (SU.mp nd).2 JR (by simpa using hl)]
section
variable{X:Cx}{M:Ms}{R:Addr->Prop}{m m0:Md}{e o a b c:Expr}{es rest:List Expr}{t ta tb:PR}{tl:UT}{pos apos cpos p:Pos}{i j n:Nat}{st:Stmt}{x:Str}{π:List nI}
theorem KH{pl:Sem Bool}{G:W}{k n:Nat}{f:Addr}{fd:FuncData}{ps fs:List Str}{ms:List Md}{sp:bT}(hG:∀C,G=.cls C->Meth X.K C x f)(F:aH X.prog X.w X.K X.mg X.base (cK X.prog X.w) k f fd ps (Pn X.K n (.o fs ms) sp))(hr:cH k X.A)(hb:Binds X.K fd ps [])(hi:(i,.o fs ms)∈M)(hx:fs.contains x=false)
 (hn:∀ws P R,sp ws P R->ws.length=n) (hv:PE X o (nA i))
 (ht:eval (.Call (.Attribute o x apos) [] [] pos) X.env=(do
   let ov←eval o X.env
   standAt apos.atName
   let(f,first)←holding [ov] (getMethod ov x pl)
   callWith pos f first (backTo pos (starEach [] X.env)) (backToKw pos (keywordEach [] X.env)))):
 VP X M R (.Call (.Attribute o x apos) [] [] pos) (fun ε Q=>match look ε i with|some (.obj C _ _)=>G=.cls C/\(match look ε i with|some w0=>sp [w0] (fun r=>∃w y,r=.tup [w,y]/\Q w (ε.set i (some y))) R|none=>False)|_=>False):=by
 rintro pins s σ H Q I ⟨A,H0,ε,P,S,er,h,kk⟩
 obtain⟨E,pE,hE,hR⟩:=er
 try dsimp only at h
 cases hl:look ε i with
 |none=>rw[hl]at h;exact h.elim
 |some w1=>
  rw[hl]at h
  cases w1 with
  |obj C fs' ws1=>
   obtain⟨hg,h⟩:=h
   obtain⟨F0,O0⟩:=S.ow
   obtain⟨v0,hv0,UX⟩:=O0.val i _ _ hi hl
   rw[Fp]at UX
   obtain⟨C',dx,oA,q,Wn,F',e1,rfl,e3,h1,h2,hc,_⟩:=UX
   cases e1
   have mt:=hG C hg
   refine PySem.W.methodCall_KW (pl:=pl) (bE (hv pins s σ H (fun v' H'=>v'=V.ref q/\H'=H) I ⟨_,hv0,rfl,rfl⟩) fun u s1 ⟨x1,H1,I1,rx,ex,eh⟩=>?_) ht
   subst ex
   subst eh
   obtain rfl:u=Value.ref q:=rx
   refine qa I1 h1 hc.1 mt (P8 fs Wn hx) ?_
   refine PySem.W.callWith_K0 (first:=[.ref q]) I1.j6 mt.kp (uP (us:=[.ref q]) (vs:=[.ref q]) (ds:=[]) (zX:=[]) F hr hb .nil pE I1 (.cons rfl .nil) ?_)
   exact MU S hi hl hv0 .nil (by have:=hn _ _ _ h;simpa using this) h hE fun A' w v H' ε' hw g S' rr=>kk A' w v H' ε' hw g S' rr
  |_=>exact h.elim
theorem SR.more{K:PySem.W.Frag}{A:Fz}{H0 H H1:Hp}{σ:St}{ε:Ev}{G:List Addr}(S:SR K M A H0 σ H ε)(s:ay H H1)(nw:∀q∈G,H q=none)(ex:∀q∈G,∃o,H1 q=some o):SR K M ⟨fun q=>A.ab q\/q∈G,fun q=>A.B q\/q∈G,A.s0⟩ H0 σ H1 ε:=by
 obtain⟨F,O⟩:=S.ow
 have hb:∀p o,H p=some o->(A.B p\/p∈G)->A.B p:=fun p o e z=>by
  rcases z with z|z
  ·exact z
  ·rw[nw p z]at e
   cases e
 refine⟨S.len,fun i w hi e=>?_,S.sm.trans s,fun p z=>?_,S.sl,F,⟨O.un,fun i m w hm e=>?_,O.emp,O.nd,O.ds,O.nw,fun i p hi hp z=>?_,fun p=>?_⟩⟩
 ·obtain⟨v,h1,h2⟩:=S.sh i w hi e
  exact⟨v,h1,Rep.mv s hb w h2⟩
 ·rcases z with z|z
  ·exact S.dm.same s p z
  ·exact ex p z
 ·obtain⟨v,h1,h2⟩:=O.val i m w hm e
  exact⟨v,h1,Fp.mv s hb m h2⟩
 ·rcases z with z|z
  ·exact O.na i p hi hp z
  ·obtain⟨o,e,_⟩:=O.has hi hp
   rw[nw p z]at e
   cases e
 ·show(A.B p\/p∈G)↔_
  rw[O.all p]
  constructor
  ·rintro((z|z)|z)
   ·exact .inl (.inl z)
   ·exact .inr z
   ·exact .inl (.inr z)
  ·rintro((z|z)|z)
   ·exact .inl (.inl z)
   ·exact .inr z
   ·exact .inl (.inr z)
theorem Qa{ta:WT}{ts:Ev->(List W->Prop)->Prop}{k n:Nat}{fv:Value}{sp:bT}(F:c7 X.prog X.w X.K X.mg X.base k fv n (Pn X.K n m0 sp))(hr:cH k X.A)(hg:Gl X x)(hm:X.mg x=some fv)
 (hn:∀ws P R,sp ws P R->ws.length=n) (hv:VE X M R m0 e ta) (ha:VA X M R es ts) (hdb:(x==("__debug__":Str))=false) (he:starEach (e::es) X.env=(false,eval e X.env)::starEach es X.env) (hpl:(backTo pos (starEach es X.env)).any (·.1)=false):
 VE X M R .s (.Call (.Name x p) (e::es) [] pos) (fun ε Q=>ta ε fun x=>ts ε fun ws=>sp (x::ws) (fun r=>∃w y,r=.tup [w,y]/\Q w) R):=by
 rintro pins s σ H Q I ⟨A,H0,ε,P,S,er,h,kk⟩
 obtain⟨E,pE,hE,hR⟩:=er
 refine UV (gw I hg hm ?_ hdb)
 refine cq (h₀:=X.base) I.ok.mod.Jo F.keep (bE (au hv ha he pos pins s σ H (fun vs H2=>∃w0 v0 ws vs' G,vs=v0::vs'/\ay H H2/\G.Nodup/\(∀q∈G,H q=none)/\Fp X.K (fun q=>A.B q\/q∈G) H2 m0 w0 v0 G/\aj X.K (fun q=>A.B q\/q∈G) H2 ws vs'/\sp (w0::ws) (fun r=>∃w y,r=.tup [w,y]/\P w) R) I ⟨A,H0,ε,_,S,⟨E,pE,hE,hR⟩,h,fun w0 v0 H1 hw s1 r0=>?_⟩) fun us s1 ⟨vs,H2,I2,r,w0,v0,ws,vs',G,ev,sm,nd,nw,fp,rs,tS⟩=>⟨I2.j6,?_⟩) he hpl
 ·obtain⟨G,nd,nw,fp⟩:=r0
  have S1:=S.more s1 nw fun q hq=>let⟨o,e,_⟩:=Fp.mu m0 fp q hq;⟨o,e⟩
  exact⟨_,H0,ε,_,S1,⟨E,pE,hE,hR⟩,hw,fun ws vs' H2 hws s2 rs=>⟨w0,v0,ws,vs',G,rfl,s1.trans s2,nd,nw,Fp.mv s2 (fun _ _ _ z=>z) m0 fp,rs,hws⟩⟩
 ·subst ev
  refine F.run hr pE I2 r ⟨A.B,G,w0,v0,ws,vs',_,R,rfl,by have:=hn _ _ _ tS;simpa using this,nd,fun q hq=>S.dom.no (nw q hq),S.dom.same sm,fp,rs,tS,fun w y v F' H' hw hc _ UY _ rw'=>?_,fun C H' rc hc=>hE C H' rc fun q o' e=>?_⟩
  ·obtain⟨w',y',e,hw⟩:=hw
   cases e
   have s2:ay H H':=fun q o' e=>by
    rcases hc q o' (sm q o' e)with⟨_,z⟩|z
    ·rw[nw q z]at e
     cases e
    ·exact z
   exact kk w v H' hw s2 (.of (rw'.less fun q z=>.inl z))
  ·have e2:=S.sm q o' e
   rcases hc q o' (sm q o' e2)with⟨_,z⟩|z
   ·rw[nw q z]at e2
    cases e2
   ·exact z
theorem Qc(h:PE X e (nA i)):PE X e (ve X.K i []):=PE.imp h<|by
 rintro σ H Q ⟨v,u,h1,h2,q⟩
 cases h2
 exact⟨v,h1,q⟩
theorem xm.ix{K:PySem.W.Frag}{H:Hp}{n:Nat}:∀(π:List nI) {v u:V},xm K H v (π++[.ix n]) u->∃p vs,xm K H v π (.ref p)/\H p=some (.tup vs)/\vs[n]?=some u
 |[],v,u,⟨p,vs,x,e,h1,h2,h3⟩=>by
  cases h3
  exact⟨p,vs,by rw[e];rfl,h1,h2⟩
 |.ix m::π,v,u,⟨p,vs,x,e,h1,h2,h3⟩=>by
  obtain⟨q,vs',a,b,c⟩:=xm.ix π h3
  exact⟨q,vs',⟨p,vs,x,e,h1,h2,a⟩,b,c⟩
 |.fl m _::π,v,u,⟨p,vs,x,e,h1,h2,h3⟩=>by
  obtain⟨q,vs',a,b,c⟩:=xm.ix π h3
  exact⟨q,vs',⟨p,vs,x,e,h1,h2,a⟩,b,c⟩
theorem UZ(h:PE X a (ve X.K i π))(hb:PE X b (tC (.int n)))(hs:lM b):PE X (.Subscript a b pos) (ve X.K i (π++[.ix n])):=
 PE.imp (FH zZ h hb hs)<|by
  rintro σ H Q ⟨v,u,h1,h2,hq⟩
  obtain⟨q,vs,r,h3,h4⟩:=xm.ix π h2
  exact⟨v,.ref q,h1,r,.inr (.inl ⟨q,vs,n,u,rfl,rfl,lG.of h3,bF h4,hq⟩)⟩
theorem xm.fl{K:PySem.W.Frag}{H:Hp}{n:Nat}{f:Str}:∀(π:List nI) {v u:V},xm K H v (π++[.fl n f]) u->∃p vs C dx fs,xm K H v π (.ref p)/\H p=some (.ins C dx (List.zip fs vs))/\Af K C fs/\fs[n]?=some f/\vs[n]?=some u
 |[],v,u,⟨p,vs,x,e,⟨C,dx,fs,h1,_,h4,h5⟩,h2,h3⟩=>by
  cases h3
  exact⟨p,vs,C,dx,fs,by rw[e];rfl,h1,h4,h5,h2⟩
 |.ix m::π,v,u,⟨p,vs,x,e,h1,h2,h3⟩=>by
  obtain⟨q,vs',C,dx,fs,a,b,c⟩:=xm.fl π h3
  exact⟨q,vs',C,dx,fs,⟨p,vs,x,e,h1,h2,a⟩,b,c⟩
 |.fl m _::π,v,u,⟨p,vs,x,e,h1,h2,h3⟩=>by
  obtain⟨q,vs',C,dx,fs,a,b,c⟩:=xm.fl π h3
  exact⟨q,vs',C,dx,fs,⟨p,vs,x,e,h1,h2,a⟩,b,c⟩
theorem Qd{f:Str}(h:PE X a (ve X.K i π))(hb:attributeBase a f X.env (eval a X.env)=eval a X.env):PE X (.Attribute a f pos) (ve X.K i (π++[.fl n f])):=
 PE.imp (Oo h hb)<|by
  rintro σ H Q ⟨v,u,h1,h2,hq⟩
  obtain⟨q,vs,C,dx,fs,r,h3,h4,h5,h6⟩:=xm.fl π h2
  exact⟨v,.ref q,h1,r,q,C,dx,_,u,rfl,h3,h4.1,h4.2.2.2 f (Pm h5),P9 (v:=u) (n:=n) fs vs n h4.2.2.1 h5 h6,hq⟩
theorem Qe{f:Str}{fs:List Str}{ms:List Md}{te:(Addr->Prop)->WT}(hps:∀{tv:TE},PE X e tv->PS X st (T3 X.K (nA i) tv f))(hi:(i,.o fs ms)∈M)(hf:fs[n]?=some f)(hm:ms[n]?=some .s)(he:∀R,VE X M R .s e (te R)):
 VS X M m st (fun d ε=>te d.ex ε fun w=>match look ε i with|some (.obj C fs ws)=>n<ws.length/\d.nx (ε.set i (some (.obj C fs (ws.set n w))))|_=>False):=by
 rintro pins s σ H D I ⟨A,H0,ε,d,S,er,hz,h,k⟩
 refine hps (he d.ex) pins s σ H D I ⟨A,H0,ε,_,S,er,h,fun w v H1 hw s1 r=>?_⟩
 try dsimp only at hw
 cases hl:look ε i with
 |none=>rw[hl]at hw;exact hw.elim
 |some w1=>
  rw[hl]at hw
  cases w1 with
  |obj C fs' ws=>
   obtain⟨hn,hw⟩:=hw
   have S1:=S.same s1
   obtain⟨F,O⟩:=S1.ow
   obtain⟨v0,hv0,fp⟩:=O.val i _ _ hi hl
   rw[Fp]at fp
   obtain⟨C',dx,oA,q,vs,F',e1,rfl,e3,h1,h2,hc,h3⟩:=fp
   cases e1
   have r:=r.bG
   have hB:A.B q:=(O.all q).mpr (.inr ⟨i,⟨_,hi⟩,by rw[e3];exact DD⟩)
   obtain⟨w0,hw0⟩:∃w0,ws[n]?=some w0:=⟨_,BM hn⟩
   obtain⟨v1,F1,G,F2,q1,e4,q3,q4⟩:=dY.at ms h3 hm hw0
   rw[Fp]at q3
   obtain⟨rfl,_⟩:=q3
   have cB:xj A.B H1 (upd H1 q (.ins C dx (fs.zip (vs.set n v)))):=.put h1 rfl hB
   have XM:q∉F':=by
    have:=O.nd i ⟨_,hi⟩
    rw[e3]at this
    exact(SU.mp this).1
   have fp':dY X.K A.B (upd H1 q (.ins C dx (fs.zip (vs.set n v)))) ms (ws.set n w) (vs.set n v) F':=by
    rw[e4]
    refine q4 _ A.B w v [] ?_ (fun p o e=>?_) (fun _ _ _ z=>z)
    ·rw[Fp]
     exact⟨rfl,Rep.chg cB (fun _ _ _ z=>z) w r⟩
    ·by_cases ne:p=q
     ·subst ne
      rw[h1]at e
      cases e
      refine .inl ⟨rfl,hB,fun z=>XM ?_⟩
      rw[e4]
      rcases GM.mp z with z|z<;>simp[z]
     ·exact .inr (by rw[ai ne];exact e)
   refine⟨_,hv0,q,C,dx,_,rfl,h1,hc.1,hc.2.2.2 f (Pm hf),?_,?_⟩
   ·rw[List.length_zip,h2,Nat.min_self]
    exact hc.2.1
   ·rw[KG fs vs n hc.2.2.1 hf h2]
    obtain⟨A',a1,a2,_,_,_,S'⟩:=O.chg (F':=F i) (H1:=upd H1 q (.ins C dx (fs.zip (vs.set n v)))) (w':=.obj C fs (ws.set n w)) S1 hi hl hv0 (fun p o e=>by
     by_cases ne:p=q
     ·subst ne
      rw[h1]at e
      cases e
      exact .inl ⟨rfl,by rw[e3];exact DD⟩
     ·exact .inr (by rw[ai ne];exact e)) (O.nd i ⟨_,hi⟩) (fun p hp=>.inl hp) (Fp.mv (ay.refl _) (fun p _ _ z=>by
      rcases z with z|z
      ·exact z.1
      ·exact(O.all p).mpr (.inr ⟨i,⟨_,hi⟩,z⟩)) _ (by
       rw[Fp]
       exact⟨C,dx,ws.set n w,q,vs.set n v,F',rfl,rfl,e3,aD,by rw[NA];exact h2,hc,fp'⟩))
    exact k.nx A' _ _ _ a1 a2 hw S'
  |_=>exact hw.elim
end
end VL
namespace L2
open PySem PySem.Spec PyProof.Rows
section
variable{pr:Program}{wo:World}{B:Around}{EE:Value->Shared->Prop}
theorem BK{z l:Addr}{its:Array Value}(ne:l≠z):∀(m j:Nat) (t:Shared) (R:List Value->Shared->Prop),t.heap.IsListIter z l j->t.heap.IsList l its->j+m<=its.size->
 (∀h1,h1.IsListIter z l (j+m)->Heap.SameBut z t.heap h1->R ((its.toList.drop j).take m) {t with heap:=h1})->wpAny (model pr wo) B (draw (.ref z) m) R EE t
 |0,j,t,R,i1,_,_,k=>by
  have q:R [] t:=by simpa using k t.heap i1 (Heap.SameBut.refl ..)
  exact Kt q
 |m+1,j,t,R,i1,l1,le,k=>by
  have lt:j<its.size:=by lia
  refine FM (m:=pyNext (.ref z)) (wpAny_pyNext_list_item i1 l1 (x:=its[j]) (by simp[lt]) fun h1 i2 s1=>?_)
  refine FM (cm (BK ne m (j+1) _ _ i2 (l1.extBut s1.extBut ne) (by lia) fun h2 i3 s2=>Kt ?_))
  have e:its.toList.drop j=its[j]::its.toList.drop (j+1):=by simp[Xt,lt]
  have q:=k h2 (by rw[←Nat.add_assoc,Nat.add_right_comm];exact i3) (s1.trans s2)
  rwa [e,List.take_succ_cons]at q
theorem KI{l:Addr}{its:Array Value}{t:Shared}{R:List Value->Shared->Prop}(hd:B.handled=none)(l1:t.heap.IsList l its)
 (k:∀h1,Heap.ExtBut t.heap.objs.size t.heap h1->R its.toList {t with heap:=h1}):wpAny (model pr wo) B (unpackItems (.ref l) its.size none) R EE t:=by
 have ne:l≠t.heap.objs.size:=let⟨_,e,_⟩:=l1;Jn (FR e)
 unfold unpackItems notIterableAtAll
 refine FM (FM (wpAny_specialOf l1.typeIs slot_list_iter.lookup (Kt ?_)))
 rw[B1 (by simp)]
 refine FM (cm (wpAny_pyIter_list l1 ?_))
 refine FM (cm (BK ne its.size 0 _ _ ⟨_,IH _ rfl,rfl,rfl⟩ (l1.push _) (by lia) fun h1 i1 s1=>?_))
 have al:(its.toList.drop 0).take its.size=its.toList:=by
  rw[List.drop_zero,cw (by simp)]
 rw[al,B1 (by simp)]
 refine FM (cm (wpAny_pyNext_list_end hd i1 ((l1.push _).extBut s1.extBut ne) (by simp) fun h2 x2=>?_))
 rw[B1 (by simp)]
 exact Kt (k h2 fun b o hb e=>x2 b o hb (s1.extBut b o hb (DL _ e)))
end
section
variable{X:Cx}{pos:Pos}
noncomputable def Qg(K:PySem.W.Frag)(n:Nat)(t:Ja):TG:=fun v σ H Q=>∃a xs,v=.ref a/\ir K H a xs/\xs.length=n/\t xs σ H Q
theorem Qh{es:List Expr}{k:Nat}{t:Ja}{n:Nat}(hc:X.calm=true)(h:Su X es t)(hn:(assignEach es X.env).length=n:=by rfl)(hst:(assignEach es X.env).findIdx? (·.1)=none:=by rfl):PG X (.Tuple es k pos) (Qg X.K n t):=by
 rintro pins s σ H _ _ Q I r ⟨a,xs,rfl,hq,hl,hw⟩
 cases r
 obtain⟨its,rv,⟨o,m,e,c,_,dd⟩,hz⟩:=I.list hq
 have hle:=rv.length
 rw[assign_Tuple]
 refine FM (wpAny_standAt ?_)
 unfold unpack
 rw[hst,show(assignEach es X.env).length=its.toArray.size by simp[hn,←hl,hle]]
 refine FM (cm (KI (I.ok.hd hc) ⟨o,e,c,_,dd⟩ fun h' hx=>?_))
 have I1:Inv X pins σ H {s with heap:=h'}:=I.kept (t':=s.toks) fun b o e=>hx b o (Jn (FR e)) e
 exact h pins _ σ H xs _ Q I1 (by simpa using rv) hw
end
end L2
namespace VL
open PySem PySem.Spec
open PyProof.Rows hiding St
open L2
section
variable{K:PySem.W.Frag}{M M':Ms}{A:Fz}{H0 H H1:Hp}{σ:St}{ε:Ev}
theorem SR.take(S:SR K M' A H0 σ H ε){i:Nat}{m:Md}{w:W}{v:V}{F:List Addr}(hM:∀x,x∈M↔x=(i,m)\/x∈M')(hi:¬aX M' i)(hil:i<ε.length)(nd:F.Nodup)(ha:∀p∈F,A.ab p)(nw:∀p∈F,H0 p=none)(fp:Fp K A.B H m w v F):
 SR K M ⟨fun p=>A.ab p/\p∉F,A.B,A.s0⟩ H0 (σ.set i (some v)) H (ε.set i (some w)):=by
 obtain⟨G,O⟩:=S.ow
 have hm:∀j,aX M j↔j=i\/aX M' j:=fun j=>by
  constructor
  ·rintro⟨m',h'⟩
   rcases(hM _).mp h' with e|e
   ·cases e
    exact .inl rfl
   ·exact .inr ⟨m',e⟩
  ·rintro(rfl|⟨m',h'⟩)
   ·exact⟨m,(hM _).mpr (.inl rfl)⟩
   ·exact⟨m',(hM _).mpr (.inr h')⟩
 have ne:∀j,aX M' j->j≠i:=fun j hj e=>by subst e;exact hi hj
 refine⟨by rw[NA,NA];exact S.len,fun j w' hj e=>?_,S.sm,fun p z=>S.dm p z.1,fun u e=>?_,fun j=>if j=i then F else G j,⟨fun j m1 m2 a b=>?_,fun j m' w' hj e=>?_,fun j hj e=>?_,fun j hj=>?_,fun j k p hj hk a b=>?_,fun j p hj hp=>?_,fun j p hj hp=>?_,fun p=>?_⟩⟩
 ·have hj2:j≠i/\¬aX M' j:=⟨fun z=>hj ((hm j).mpr (.inl z)),fun z=>hj ((hm j).mpr (.inr z))⟩
  rw[aV (Qb hj2.1)]at e
  obtain⟨u,h1,h2⟩:=S.sh j w' hj2.2 e
  exact⟨u,by rw[Kx (Qb hj2.1)];exact h1,h2⟩
 ·obtain⟨h1,h2⟩:=S.sl u e
  exact⟨by rw[Kx (Qb (ne 0 h2))];exact h1,(hm 0).mpr (.inr h2)⟩
 ·rcases(hM _).mp a with a|a
  ·rcases(hM _).mp b with b|b
   ·cases a
    cases b
    rfl
   ·cases a
    exact(hi ⟨_,b⟩).elim
  ·rcases(hM _).mp b with b|b
   ·cases b
    exact(hi ⟨_,a⟩).elim
   ·exact O.un j m1 m2 a b
 ·rcases(hM _).mp hj with a|a
  ·cases a
   have:=lV e
   subst this
   exact⟨v,Pt (by rw[S.len];exact hil),by rw[Bi rfl];exact fp⟩
  ·have n:=ne j ⟨m',a⟩
   rw[aV (Qb n)]at e
   obtain⟨u,h1,h2⟩:=O.val j m' w' a e
   exact⟨u,by rw[Kx (Qb n)];exact h1,by rw[B1 n];exact h2⟩
 ·by_cases n:j=i
  ·subst n
   have:look (ε.set j (some w)) j=some w:=by rw[bz];exact Pt hil
   rw[this]at e
   cases e
  ·rw[aV (Qb n)]at e
   rw[B1 n]
   exact O.emp j (((hm j).mp hj).resolve_left n) e
 ·by_cases n:j=i
  ·rw[Bi n]
   exact nd
  ·rw[B1 n]
   exact O.nd j (((hm j).mp hj).resolve_left n)
 ·by_cases n1:j=i
  ·by_cases n2:k=i
   ·rw[n1,n2]
   ·rw[Bi n1]at a
    rw[B1 n2]at b
    exact(O.na k p (((hm k).mp hk).resolve_left n2) b (ha p a)).elim
  ·by_cases n2:k=i
   ·rw[B1 n1]at a
    rw[Bi n2]at b
    exact(O.na j p (((hm j).mp hj).resolve_left n1) a (ha p b)).elim
   ·rw[B1 n1]at a
    rw[B1 n2]at b
    exact O.ds j k p (((hm j).mp hj).resolve_left n1) (((hm k).mp hk).resolve_left n2) a b
 ·by_cases n:j=i
  ·rw[Bi n]at hp
   exact nw p hp
  ·rw[B1 n]at hp
   exact O.nw j p (((hm j).mp hj).resolve_left n) hp
 ·by_cases n:j=i
  ·rw[Bi n]at hp
   exact fun z=>z.2 hp
  ·rw[B1 n]at hp
   exact fun z=>O.na j p (((hm j).mp hj).resolve_left n) hp z.1
 ·constructor
  ·intro z
   by_cases hp:p∈F
   ·exact .inr ⟨i,(hm i).mpr (.inl rfl),by rw[Bi rfl];exact hp⟩
   ·rcases(O.all p).mp z with z|⟨j,hj,J3⟩
    ·exact .inl ⟨z,hp⟩
    ·exact .inr ⟨j,(hm j).mpr (.inr hj),by rw[B1 (ne j hj)];exact J3⟩
  ·rintro(z|⟨j,hj,hp⟩)
   ·exact(O.all p).mpr (.inl z.1)
   ·by_cases n:j=i
    ·rw[Bi n]at hp
     exact(O.all p).mpr (.inl (ha p hp))
    ·rw[B1 n]at hp
     exact(O.all p).mpr (.inr ⟨j,((hm j).mp hj).resolve_left n,hp⟩)
end
section
variable{X:Cx}{M M':Ms}{m:Md}{st:Stmt}{te:(Addr->Prop)->WT}
theorem Qi{e:Expr}{ts:List Nat}(hps:∀{tv:TE},PE X e tv->PS X st (pZ tv (Qg X.K ts.length (Py ts))))(hi:∀i∈ts,¬aX M i)(he:∀R,VE X M R .s e (te R)):
 VS X M m st (fun d ε=>te d.ex ε fun w=>match w with|.lst l=>l.length=ts.length/\d.nx (bO ε ts l)|_=>False):=by
 rintro pins s σ H D I ⟨A,H0,ε,d,S,er,hz,h,k⟩
 refine hps (he d.ex) pins s σ H D I ⟨A,H0,ε,_,S,er,h,fun w v H1 hw s1 r=>?_⟩
 cases w with
 |lst l=>
  have r:=r.bG
  rw[Rep]at r
  obtain⟨p,vs,rfl,_,h1,h2⟩:=r
  have lv:vs.length=ts.length:=by rw[h2.len,hw.1]
  exact⟨p,vs,rfl,.inl h1,lv,Al ts vs σ _ lv (k.nx A _ _ H1 rfl rfl hw.2 (SR.bO ts l vs hi (S.same s1) h2 hw.1))⟩
 |_=>exact hw.elim
end
theorem a2{a b:Bool}(z:(a&&b)=true):a=true/\b=true:=by cases a<;>cases b<;>first|exact⟨rfl,rfl⟩|exact ff z
theorem a3{a b c:Bool}(z:((a&&b)&&c)=true):(a=true/\b=true)/\c=true:=⟨a2 (a2 z).1,(a2 z).2⟩
structure SE where
 N:List Str
 nk:List (Str×NameKind)
 M:Ms
 fn:List Str
 gn:List Str
 zn:List Str
 md:List Md
 mt:List (Nat×Nat)
noncomputable def bu:List Md->Nat->Md
 |[],_=>.s
 |x::_,0=>x
 |_::l,n+1=>bu l n
noncomputable def SH:Md->Bool
 |.f=>true
 |_=>false
noncomputable def KJ:Md->Bool
 |.s=>true
 |_=>false
noncomputable def xV(M:Ms)(i:Nat):Bool:=(M.lookup i).isSome
theorem lX{M:Ms}{i:Nat}(h:xV M i=false):¬aX M i:=by
 rintro⟨m,hm⟩
 unfold xV at h
 have:∀M:Ms,(i,m)∈M->(M.lookup i).isSome=true:=fun M=>by
  induction M with
  |nil=>intro z;cases z
  |cons x M ih=>
   intro z
   obtain⟨a,b⟩:=x
   rw[List.lookup_cons]
   cases e:i==a with
   |true=>rfl
   |false=>
    rcases Fu.mp z with z|z
    ·cases z
     rw[beq_self_eq_true]at e
     cases e
    ·exact ih z
 rw[this M hm]at h
 cases h
theorem jv{M:Ms}{i:Nat}{m:Md}(h:M.lookup i=some m):(i,m)∈M:=by
 induction M with
 |nil=>exact nn h
 |cons x M ih=>
  obtain⟨a,b⟩:=x
  rw[List.lookup_cons]at h
  cases e:i==a with
  |true=>
   rw[e]at h
   cases h
   cases N0.mp e
   exact DD
  |false=>
   rw[e]at h
   exact Bn _ (ih h)
noncomputable def xW(M:Ms)(i:Nat):Bool:=match M.lookup i with
 |none=>true
 |some m=>SH m
theorem xX{M:Ms}{i:Nat}(h:xW M i=true):aX M i->(i,.f)∈M:=fun hi=>by
 unfold xW at h
 cases e:M.lookup i with
 |none=>exact(lX (by unfold xV;rw[e];rfl) hi).elim
 |some m=>
  rw[e]at h
  cases m<;>first|exact jv e|exact ff h
noncomputable def Ef(M:Ms)(i:Nat):Bool:=match M.lookup i with
 |none=>false
 |some m=>SH m
theorem pG{M:Ms}{i:Nat}(h:Ef M i=true):(i,.f)∈M:=by
 unfold Ef at h
 cases e:M.lookup i with
 |none=>rw[e]at h;exact ff h
 |some m=>
  rw[e]at h
  cases m<;>first|exact jv e|exact ff h
noncomputable def SE.sc(S:SE):Scope:={kind:=.function,names:=S.nk,isGenerator:=false,isCoroutine:=false}
noncomputable def U0(S:SE)(x:Str):Bool:=match S.nk.lookup x with
 |some .local=>true
 |some .cell=>true
 |some .free=>true
 |_=>false
noncomputable def okN(x:Str):Bool:=!(x==("__debug__":Str))&&!(x==("__classdict__":Str))&&!(x==("__name__":Str))
noncomputable def jm(S:SE)(x:Str):Bool:=(S.nk.lookup x==some .globalImplicit)&&okN x
noncomputable def tys:List String:=["int","bool","tuple","list","str","dict"]
noncomputable def vj:Expr->Bool
 |.Call _ _ _ _=>false
 |_=>true
noncomputable def lY(S:SE)(i:Nat):Expr->Bool
 |.Name x _=>S.N[i]?==some x&&U0 S x&&okN x
 |_=>false
noncomputable def mC(f:Const->Bool):Expr->Bool
 |.Constant c _ _=>f c
 |_=>false
noncomputable def XR(f:Str->Pos->Bool):Expr->Bool
 |.Name x p=>f x p
 |_=>false
noncomputable def xY(f:Str->Bool):Expr->Bool:=XR fun x _=>f x
noncomputable def o1{α:Type}(f:α->Bool):List α->Bool
 |[a]=>f a
 |_=>false
noncomputable def U1(f:Expr->List CmpOp->List Expr->Bool):Expr->Bool
 |.Compare l os rs _=>f l os rs
 |_=>false
noncomputable def tZ(f:Expr->List Expr->Bool->Pos->Bool):Expr->Bool
 |.Call g es ks p=>f g es ks.isEmpty p
 |_=>false
noncomputable def Eg(f:Expr->Str->Pos->Bool):Expr->Bool
 |.Attribute o m p=>f o m p
 |_=>false
noncomputable def Zo(f:Option Expr->Option Expr->Option Expr->Bool):Expr->Bool
 |.Slice l h t _=>f l h t
 |_=>false
noncomputable def Zp(f:Expr->List Comprehension->Scope->Bool):Expr->Bool
 |.ListComp x gs s _=>f x gs s
 |_=>false
noncomputable def Gv(f:Operator->Expr->Expr->Bool):Expr->Bool
 |.BinOp l o r _=>f o l r
 |_=>false
noncomputable def XS(f:UnaryOp->Expr->Bool):Expr->Bool
 |.UnaryOp o x _=>f o x
 |_=>false
noncomputable def Gw(f:CmpOp->Expr->Expr->Bool):Expr->Bool:=U1 fun l os rs=>o1 (fun o=>o1 (fun r=>f o l r) rs) os
noncomputable def o2{α:Type}(f:α->α->Bool):List α->Bool
 |a::l=>o1 (f a) l
 |_=>false
noncomputable def o3{α:Type}(f:α->α->α->Bool):List α->Bool
 |a::l=>o2 (f a) l
 |_=>false
noncomputable def XT(f:BoolOp->List Expr->Bool):Expr->Bool
 |.BoolOp o es _=>f o es
 |_=>false
noncomputable def Zq(f:Expr->Expr->Expr->Bool):Expr->Bool
 |.IfExp t x y _=>f t x y
 |_=>false
noncomputable def Eh(f:List Expr->Bool):Expr->Bool
 |.Tuple es _ _=>f es
 |_=>false
noncomputable def U3(f:List Expr->Bool):Expr->Bool
 |.List es _=>f es
 |_=>false
noncomputable def Ei(f:Expr->Expr->Bool):Expr->Bool
 |.Subscript v s _=>f v s
 |_=>false
noncomputable def Zr(f:Expr->Option Expr->Option Expr->Bool):Expr->Bool:=Ei fun v s=>Zo (fun l h t=>t.isNone&&f v l h) s
noncomputable def jw(f:Str->List Expr->Bool):Expr->Bool:=tZ fun g es k _=>k&&xY (fun x=>f x es) g
noncomputable def Ao(f:Expr->Str->Pos->Pos->Bool):Expr->Bool:=tZ fun g es k c=>k&&es.isEmpty&&Eg (fun o m a=>f o m a c) g
noncomputable def MV(f:Expr->Expr->Expr->List Expr->Scope->Bool):Expr->Bool:=Zp fun x gs s=>o1 (fun g=>decide (g.is_async=0)&&f x g.target g.iter g.ifs s) gs
theorem gI{f:Const->Bool}{e:Expr}(h:mC f e=true):∃c k p,e=.Constant c k p/\f c=true:=by cases e<;>first|exact⟨_,_,_,rfl,h⟩|exact ff h
theorem BL{f:Str->Pos->Bool}{e:Expr}(h:XR f e=true):∃x p,e=.Name x p/\f x p=true:=by cases e<;>first|exact⟨_,_,rfl,h⟩|exact ff h
theorem Gx{f:Expr->List CmpOp->List Expr->Bool}{e:Expr}(h:U1 f e=true):∃l os rs p,e=.Compare l os rs p/\f l os rs=true:=by cases e<;>first|exact⟨_,_,_,_,rfl,h⟩|exact ff h
theorem iC{f:Expr->List Expr->Bool->Pos->Bool}{e:Expr}(h:tZ f e=true):∃g es ks p,e=.Call g es ks p/\f g es ks.isEmpty p=true:=by cases e<;>first|exact⟨_,_,_,_,rfl,h⟩|exact ff h
theorem iD{f:Expr->Str->Pos->Bool}{e:Expr}(h:Eg f e=true):∃o m p,e=.Attribute o m p/\f o m p=true:=by cases e<;>first|exact⟨_,_,_,rfl,h⟩|exact ff h
theorem KL{f:Option Expr->Option Expr->Option Expr->Bool}{e:Expr}(h:Zo f e=true):∃l r t p,e=.Slice l r t p/\f l r t=true:=by cases e<;>first|exact⟨_,_,_,_,rfl,h⟩|exact ff h
theorem KN{f:Expr->List Comprehension->Scope->Bool}{e:Expr}(h:Zp f e=true):∃x gs s p,e=.ListComp x gs s p/\f x gs s=true:=by cases e<;>first|exact⟨_,_,_,_,rfl,h⟩|exact ff h
theorem fX{α:Type}{f:α->Bool}{l:List α}(h:o1 f l=true):∃a,l=[a]/\f a=true:=by rcases l with _|⟨a,_|_⟩<;>first|exact⟨_,rfl,h⟩|exact ff h
theorem ee{f:Str->Bool}{e:Expr}(h:xY f e=true):∃x p,e=.Name x p/\f x=true:=BL h
theorem nR{f:Operator->Expr->Expr->Bool}{e:Expr}(h:Gv f e=true):∃l o r p,e=.BinOp l o r p/\f o l r=true:=by cases e<;>first|exact⟨_,_,_,_,rfl,h⟩|exact ff h
theorem pH{f:UnaryOp->Expr->Bool}{e:Expr}(h:XS f e=true):∃o x p,e=.UnaryOp o x p/\f o x=true:=by cases e<;>first|exact⟨_,_,_,rfl,h⟩|exact ff h
theorem t6{f:CmpOp->Expr->Expr->Bool}{e:Expr}(h:Gw f e=true):∃l o r p,e=.Compare l [o] [r] p/\f o l r=true:=by
 obtain⟨l,os,rs,p,rfl,h1⟩:=Gx h
 obtain⟨o,rfl,h2⟩:=fX h1
 obtain⟨r,rfl,h3⟩:=fX h2
 exact⟨_,_,_,_,rfl,h3⟩
theorem pI{f:BoolOp->List Expr->Bool}{e:Expr}(h:XT f e=true):∃o es p,e=.BoolOp o es p/\f o es=true:=by cases e<;>first|exact⟨_,_,_,rfl,h⟩|exact ff h
theorem KO{f:Expr->Expr->Expr->Bool}{e:Expr}(h:Zq f e=true):∃t x y p,e=.IfExp t x y p/\f t x y=true:=by cases e<;>first|exact⟨_,_,_,_,rfl,h⟩|exact ff h
theorem fY{f:List Expr->Bool}{e:Expr}(h:Eh f e=true):∃es k p,e=.Tuple es k p/\f es=true:=by cases e<;>first|exact⟨_,_,_,rfl,h⟩|exact ff h
theorem xZ{f:List Expr->Bool}{e:Expr}(h:U3 f e=true):∃es p,e=.List es p/\f es=true:=by cases e<;>first|exact⟨_,_,rfl,h⟩|exact ff h
theorem fZ{f:Expr->Expr->Bool}{e:Expr}(h:Ei f e=true):∃v s p,e=.Subscript v s p/\f v s=true:=by cases e<;>first|exact⟨_,_,_,rfl,h⟩|exact ff h
theorem BN{f:Expr->Option Expr->Option Expr->Bool}{e:Expr}(h:Zr f e=true):∃v l r q p,e=.Subscript v (.Slice l r none q) p/\f v l r=true:=by
 obtain⟨v,s,p,rfl,h1⟩:=fZ h
 obtain⟨l,r,t,q,rfl,h2⟩:=KL h1
 obtain⟨k,h3⟩:=a2 h2
 rw[Option.isNone_iff_eq_none.mp k]
 exact⟨_,_,_,_,_,rfl,h3⟩
theorem aM{f:Str->List Expr->Bool}{e:Expr}(h:jw f e=true):∃x q es p,e=.Call (.Name x q) es [] p/\f x es=true:=by
 obtain⟨g,es,ks,p,rfl,h1⟩:=iC h
 obtain⟨k,h2⟩:=a2 h1
 obtain⟨x,q,rfl,h3⟩:=ee h2
 rw[Hk.mp k]
 exact⟨_,_,_,_,rfl,h3⟩
theorem kX{f:Expr->Str->Pos->Pos->Bool}{e:Expr}(h:Ao f e=true):∃o m a c,e=.Call (.Attribute o m a) [] [] c/\f o m a c=true:=by
 obtain⟨g,es,ks,p,rfl,h1⟩:=iC h
 obtain⟨⟨k,l⟩,h2⟩:=a3 h1
 obtain⟨o,m,a,rfl,h3⟩:=iD h2
 rw[Hk.mp k,Hk.mp l]
 exact⟨_,_,_,_,rfl,h3⟩
theorem t7{f:Expr->Expr->Expr->List Expr->Scope->Bool}{e:Expr}(h:MV f e=true):∃elt tg iter ifs scope p,e=.ListComp elt [⟨tg,iter,ifs,0⟩] scope p/\f elt tg iter ifs scope=true:=by
 obtain⟨x,gs,s,p,rfl,h1⟩:=KN h
 obtain⟨⟨tg,it,fs,z⟩,rfl,h2⟩:=fX h1
 obtain⟨k,h3⟩:=a2 h2
 cases Bz k
 exact⟨_,_,_,_,_,_,rfl,h3⟩
noncomputable def isI(n:Int):Const->Bool
 |.int j=>decide (j=n)
 |_=>false
noncomputable def x8(S:SE)(i:Nat):List nI->Expr->Bool
 |[],e=>lY S i e
 |.fl _ x::π,e=>Eg (fun a f _=>decide (f=x)&&vj a&&x8 S i π a) e
 |.ix n::π,e=>Ei (fun a k=>mC (isI n) k&&x8 S i π a) e
noncomputable def oE(S:SE)(m:Md->Bool)(i:Nat)(π:List nI)(e:Expr):Bool:=!π.isEmpty&&x8 S i π.reverse e&&(match S.M.lookup i with
 |some m0=>(match kU m0 π with
  |some k=>m k
  |none=>false)
 |none=>false)
noncomputable def fG(S:SE):CE->Expr->Bool
 |.var i,e=>lY S i e&&xW S.M i
 |.own i π,e=>oE S SH i π e
 |_,_=>false
noncomputable def U4:BI->Str
 |.len=>"len"
 |.abs=>"abs"
 |.max2=>"max"
 |.min2=>"min"
 |.sum=>"sum"
 |.all=>"all"
 |.any=>"any"
 |.list=>"list"
 |.tuple=>"tuple"
 |.BB=>"isinstance"
 |.int=>"int"
noncomputable def Zs:BI->Nat->Bool
 |.any,_=>false
 |_,n=>0<n
noncomputable def Jd:CE->Bool
 |.ite _ _ _=>false
 |.not a=>Jd a
 |.and as=>Gy as
 |.or as=>Gy as
 |_=>true
where Gy:List CE->Bool
 |[]=>true
 |a::as=>Jd a&&Gy as
noncomputable def BO:Expr->Bool
 |.Slice _ _ _ _=>false
 |_=>true
noncomputable def Aq:Expr->Bool
 |.Set _ _ _=>false
 |_=>true
noncomputable def Ej:List Expr->Option (List Str)
 |[]=>some []
 |.Name x _::es=>(Ej es).map fun l=>x::l
 |_::_=>none
noncomputable def U5:Expr->Option (Bool×List Str)
 |.Name x _=>some (true,[x])
 |.Tuple es _ _=>(Ej es).map fun l=>(false,l)
 |_=>none
noncomputable def mask(xs:List Str)(N:List Str):List Str:=N.map fun y=>if xs.contains y then y++("!":Str)else y
noncomputable def SE.comp(S:SE)(scope:Scope)(xs:List Str):SE:=
 {S with N:=xs++mask xs S.N,nk:=scope.names.map fun p=>(p.1,if p.2=.free then .cell else p.2),M:=up S.M xs.length}
noncomputable def U6:CE->Option String
 |.E6 n=>some n
 |_=>none
noncomputable def Gz:CE->Bool
 |.uX _=>true
 |_=>false
noncomputable def Qj(n:Bool)(f:Expr->Bool):Option Expr->Bool
 |none=>n
 |some e=>!n&&f e
noncomputable def MW:CE->Bool
 |.bl b=>b
 |_=>false
noncomputable def U7:BI->List CE->Bool
 |.BB,[_,c]=>(U6 c).isSome
 |.BB,_=>false
 |_,_=>true
noncomputable def XU(y:Bool)(f:Expr->Bool):List Expr->Bool
 |[]=>y
 |[e]=>f e
 |_=>false
noncomputable def qw(f:Expr->Bool)(g:List Expr->Bool):List Expr->Bool
 |e::es=>f e&&g es
 |[]=>false
noncomputable def x9(f:Expr->Bool):List Expr->Bool:=o1 f
noncomputable def ya(S:SE)(ts:List Nat)(one:Bool)(n:Nat)(uX:Bool)(fi:Expr->Bool)(fc:SE->List Expr->Bool)(fx:SE->Expr->Bool)(elt tg iter:Expr)(ifs:List Expr)(scope:Scope):Bool:=
 match U5 tg with
 |some (o,xs)=>(one==o)&&(n==xs.length)&&(ts==List.range n)&&dX scope S.sc S.N (mask xs S.N) xs&&decide (xs++mask xs S.N).Nodup&&Aq iter&&(!uX||!one)&&fi iter&&fc (S.comp scope xs) ifs&&fx (S.comp scope xs) elt
 |none=>false
noncomputable def je(Ψ:Nat->Md):CE->Bool
 |.lst _=>true
 |.comp _ _ _ _ _ _=>true
 |.blt .list _=>true
 |.rev _=>true
 |.sl _ _ _=>true
 |.bin .Add a b=>je Ψ a||je Ψ b
 |.bin .Mult a _=>je Ψ a
 |.call f _=>match Ψ f with
  |.f=>true
  |_=>false
 |.ite _ a b=>je Ψ a&&je Ψ b
 |_=>false
noncomputable def mo(Ψ:Nat->Md)(c:CE):Md:=if je Ψ c=true then .f else .s
mutual
noncomputable def aI(S:SE)(it:Bool):CE->Expr->Bool
 |.var i,e=>lY S i e&&!xV S.M i
 |.int i,e=>mC (fun c=>decide (c=.int i)) e
 |.bl b,e=>mC (fun c=>decide (c=.bool b)) e
 |.str x,e=>mC (fun c=>decide (c=.str x)) e
 |.aU,e=>mC (fun c=>decide (c=.none)) e
 |.E6 n,e=>xY (fun x=>decide (x=Str.ofString n)&&jm S x&&S.zn.contains x&&tys.contains n) e
 |.glob g,e=>xY (fun x=>S.gn[g]?==some x&&jm S x) e
 |.bin op a b,e=>Gv (fun o l r=>decide (op=o)&&(aI S false a l||fG S a l)&&(aI S false b r||fG S b r)) e
 |.neg a,e=>XS (fun o x=>decide (o=.USub)&&aI S false a x) e
 |.not a,e=>XS (fun o x=>decide (o=.Not)&&aI S false a x) e
 |.cmp op a b,e=>Gw (fun o l r=>decide (op=o)&&!decide (op=.In)&&!decide (op=.NotIn)&&(aI S false a l||fG S a l)&&(aI S false b r||fG S b r)) e
 |.and as,e=>XT (fun o es=>decide (o=.And)&&!es.isEmpty&&gb S as es) e
 |.or as,e=>XT (fun o es=>decide (o=.Or)&&!es.isEmpty&&gb S as es) e
 |.ite c a b,e=>Zq (fun t x y=>aI S false c t&&Jd c&&aI S false a x&&aI S false b y) e
 |.tup as,e=>Eh (fun es=>gb S as es) e
 |.lst as,e=>U3 (fun es=>gb S as es) e
 |.ix a i,e=>Ei (fun v s=>BO s&&(aI S false a v||fG S a v)&&aI S false i s) e
 |.sl a lo hi,e=>Zr (fun v l h=>(aI S false a v||fG S a v)&&Qj (j9 lo) (fun x=>aI S false lo x) l&&Qj (j9 hi) (fun x=>aI S false hi x) h) e
 |.call f as,e=>jw (fun x es=>S.fn[f]?==some x&&jm S x&&!es.isEmpty&&!nQ (bu S.md f)&&!S.mt.any (·.1==f)&&gb S as es) e
 |.blt b as,e=>jw (fun x es=>decide (x=U4 b)&&jm S x&&S.zn.contains x&&Zs b es.length&&U7 b as&&lZ S as es) e
 |.bits a,e=>Ao (fun o m ap cp=>decide (m=("bit_length":Str))&&(ap.endLine==cp.line)&&vj o&&aI S false a o) e
 |.comp ts one n i c x,e=>MV (fun elt tg iter ifs scope=>ya S ts one n (Gz i) (fun iter=>aI S true i iter||fG S i iter) (fun S' ifs=>XU (MW c) (fun f=>aI S' false c f&&Jd c) ifs) (fun S' elt=>aI S' false x elt) elt tg iter ifs scope) e
 |.jn as,e=>jw (fun x es=>it&&decide (x=("range":Str))&&jm S x&&S.zn.contains x&&(as.length==1||as.length==2||as.length==3)&&gb S as es) e
 |.uX a,e=>jw (fun x es=>it&&decide (x=("enumerate":Str))&&jm S x&&S.zn.contains x&&x9 (fun v=>aI S false a v) es) e
 |.rev a,e=>jw (fun x es=>cond it (decide (x=("reversed":Str))&&jm S x&&S.zn.contains x&&x9 (fun v=>aI S false a v) es)
  (decide (x=("list":Str))&&jm S x&&S.zn.contains x&&x9 (fun v=>jw (fun y es=>decide (y=("reversed":Str))&&jm S y&&S.zn.contains y&&x9 (fun u=>aI S false a u||fG S a u) es) v) es)) e
 |.pop _,_=>false
 |.own i π,e=>oE S KJ i π e
 |.Jb _ _ _ _,_=>false
 |.OW f a as,e=>jw (fun x es=>S.fn[f]?==some x&&jm S x&&(match bu S.md f with
  |.io m=>SH m
  |_=>false)&&!S.mt.any (·.1==f)&&je (bu S.md) a&&qw (fun v=>aI S false a v) (fun es=>gb S as es) es) e
noncomputable def gb(S:SE):List CE->List Expr->Bool
 |[],es=>es.isEmpty
 |a::as,es=>qw (fun e=>aI S false a e) (fun es=>gb S as es) es
noncomputable def lZ(S:SE):List CE->List Expr->Bool
 |[],es=>es.isEmpty
 |a::as,es=>qw (fun e=>aI S false a e||fG S a e) (fun es=>lZ S as es) es
end
structure XOk(S:SE)(Φ:Nat->bT)(Ψ:Nat->Md)(G:Nat->W)(X:Cx):Prop where
 hN:X.N=S.N
 nd:X.N.Nodup
 calm:X.calm=true
 un:X.A.units+64<cLine
 nk:∀x,X.env.scope.names.lookup x=S.nk.lookup x
 fns:∀(j:Nat) (x:Str),S.fn[j]?=some x->S.mt.any (·.1==j)=false->∃fv n k,X.mg x=some fv/\c7 X.prog X.w X.K X.mg X.base k fv n (dU X.K n (Ψ j) (Φ j))/\cH k X.A/\∀ws P R,Φ j ws P R->ws.length=n
 Qk:∀(j g:Nat) (x:Str),S.fn[j]?=some x->(j,g)∈S.mt->∃f fd ps n k,(∀C,G g=.cls C->Meth X.K C x f)/\Binds X.K fd ps []/\aH X.prog X.w X.K X.mg X.base (cK X.prog X.w) k f fd ps (dU X.K n (Ψ j) (Φ j))/\cH k X.A/\∀ws P R,Φ j ws P R->ws.length=n
 Je:Ψ=bu S.md
 MX:∀(j:Nat) (x:Str),S.gn[j]?=some x->∃u v,X.mg x=some u/\RelV v u/\∀B H,Rep X.K B H (G j) v
 BP:∀x∈S.zn,X.mg x=none
 kit:xQ X.K
section
variable{S:SE}{Φ:Nat->bT}{Ψ:Nat->Md}{G:Nat->W}{X:Cx}
theorem XOk.nB(h:XOk S Φ Ψ G X):XOk S Φ Ψ G X.nB:=⟨h.hN,h.nd,h.calm,h.un,h.nk,h.fns,h.Qk,h.Je,h.MX,h.BP,h.kit⟩
theorem BQ{x:Str}(h:okN x=true):(x==("__debug__":Str))=false/\(x==("__classdict__":Str))=false/\x≠"__name__":=by
 unfold okN at h
 simp only[AN,Bool.not_eq_true']at h
 exact⟨h.1.1,h.1.2,fun z=>by rw[z]at h;exact absurd h.2 (by simp)⟩
theorem bH{x:Str}(hX:XOk S Φ Ψ G X)(h:jm S x=true):Gl X x/\(x==("__debug__":Str))=false/\x≠"__name__":=by
 unfold jm at h
 rw[AN]at h
 obtain⟨h1,h2,h3⟩:=BQ h.2
 refine⟨?_,h1,h3⟩
 show X.env.scope.names.lookup x=_
 rw[hX.nk]
 exact N0.mp h.1
theorem gc(hX:XOk S Φ Ψ G X){i:Nat}{e:Expr}(h:lY S i e=true):PE X e (nA i):=by
 cases e with
 |Name x pos=>
  simp only[lY,AN]at h
  obtain⟨⟨h1,h2⟩,h3⟩:=h
  obtain⟨d1,d2,_⟩:=BQ h3
  refine Fj (by rw[hX.hN];exact N0.mp h1) ?_ d1 d2
  unfold U0 at h2
  rw[←hX.nk]at h2
  unfold So
  split at h2<;>first|exact .inl (by assumption)|exact .inr (.inl (by assumption))|exact .inr (.inr (by assumption))|exact ff h2
 |_=>exact ff h
noncomputable def noStar:Expr->Bool
 |.Starred _ _=>false
 |_=>true
theorem aF{e:Expr}(h:noStar e=true)(es:List Expr)(env:Env):starEach (e::es) env=(false,eval e env)::starEach es env:=by
 cases e<;>first|rfl|exact ff h
theorem bX:∀{es:List Expr} (h:es.all noStar=true) (pos:Pos) (env:Env),(backTo pos (starEach es env)).any (·.1)=false
 |[],_,_,_=>rfl
 |e::es,h,pos,env=>by
  rw[List.all_cons,AN]at h
  rw[aF h.1]
  show(false||(backTo pos (starEach es env)).any (·.1))=false
  rw[bX h.2]
  rfl
theorem fO{m:Md->Bool}{i:Nat}{π:List nI}{e:Expr}(h:oE S m i π e=true):
 (∃m0 k,π≠[]/\x8 S i π.reverse e=true/\S.M.lookup i=some m0/\kU m0 π=some k/\m k=true)/\((∃a f q,e=.Attribute a f q)\/∃a j c d q,e=.Subscript a (.Constant (.int j) c d) q):=by
 unfold oE at h
 rw[AN,AN]at h
 obtain⟨⟨h0,h1⟩,h2⟩:=h
 have hn:π≠[]:=fun z=>by rw[z]at h0;exact ff h0
 constructor
 ·split at h2
  ·rename_i m0 hl
   split at h2
   ·rename_i k hk
    exact⟨m0,k,hn,h1,hl,hk,h2⟩
   ·cases h2
  ·cases h2
 ·cases hr:π.reverse with
  |nil=>exact(hn (by simpa using hr)).elim
  |cons s r=>
   rw[hr]at h1
   cases s with
   |ix n=>
    obtain⟨v,s,p,rfl,h3⟩:=fZ h1
    obtain⟨c,k,q,rfl,h4⟩:=gI (a2 h3).1
    cases c<;>first|exact .inr ⟨_,_,_,_,_,rfl⟩|exact ff h4
   |fl n x=>
    obtain⟨o,m,p,rfl,h3⟩:=iD h1
    exact .inl ⟨_,_,_,rfl⟩
theorem qx{m:Md->Bool}{i:Nat}{π:List nI}{v:Expr}{p:Pos}(h:oE S m i π (.Starred v p)=true):False:=by
 rcases(fO h).2 with⟨_,_,_,e⟩|⟨_,_,_,_,_,e⟩<;>cases e
theorem aY{it:Bool}{c:CE}{e:Expr}(h:aI S it c e=true\/fG S c e=true):noStar e=true:=by
 cases e with
 |Starred v p=>
  rcases h with h|h
  ·cases c with
   |own i π=>exact(qx h).elim
   |_=>exact ff h
  ·cases c<;>first|exact ff h|exact(qx h).elim
 |_=>rfl
theorem iE{a b:Bool}(h:(a||b)=true):a=true\/b=true:=by
 cases a
 ·exact .inr h
 ·exact .inl rfl
theorem jQ:∀{cs:List CE} {es:List Expr},gb S cs es=true->es.all noStar=true
 |[],es,h=>by
  cases es with
  |nil=>rfl
  |cons _ _=>exact ff h
 |c::cs,[],h=>by cases h
 |c::cs,e::es,h=>by
  have h:=a2 h
  rw[List.all_cons,aY (.inl h.1),jQ h.2]
  rfl
theorem qy:∀{cs:List CE} {es:List Expr},lZ S cs es=true->es.all noStar=true
 |[],es,h=>by
  cases es with
  |nil=>rfl
  |cons _ _=>exact ff h
 |c::cs,[],h=>by cases h
 |c::cs,e::es,h=>by
  have h:=a2 h
  rw[List.all_cons,aY (iE h.1),qy h.2]
  rfl
theorem vm{b:Expr}(h:BO b=true):lM b:=fun o i=>by cases b<;>first|rfl|exact ff h
theorem t8{a:Expr}(h:vj a=true)(f:Str)(env:Env)(wh:Sem Value):attributeBase a f env wh=wh:=by cases a<;>first|rfl|exact ff h
theorem qz(hX:XOk S Φ Ψ G X){i:Nat}:∀(π:List nI) (e:Expr),x8 S i π e=true->PE X e (ve X.K i π.reverse)
 |[],e,h=>Qc (gc hX h)
 |.fl n x::π,e,h=>by
  obtain⟨o,m,p,rfl,h0⟩:=iD h
  obtain⟨⟨h1,h2⟩,h3⟩:=a3 h0
  have h1:=Bz h1
  subst h1
  rw[dE]
  exact Qd (qz hX π _ h3) (t8 h2 _ _ _)
 |.ix n::π,e,h=>by
  obtain⟨v,s,p,rfl,h0⟩:=fZ h
  obtain⟨h2,h3⟩:=a2 h0
  obtain⟨c,k,q,rfl,h4⟩:=gI h2
  cases c<;>try exact ff h4
  have h1:=Bz h4
  subst h1
  rw[dE]
  exact UZ (qz hX π _ h3) iP (vm rfl)
theorem GA(hX:XOk S Φ Ψ G X){m:Md->Bool}{i:Nat}{π:List nI}{e:Expr}(h:oE S m i π e=true):∃m0 k,(i,m0)∈S.M/\kU m0 π=some k/\m k=true/\PE X e (ve X.K i π):=by
 obtain⟨⟨m0,k,_,h1,h2,h3,h4⟩,_⟩:=fO h
 have:=qz hX π.reverse e h1
 rw[List.reverse_reverse]at this
 exact⟨m0,k,jv h2,h3,h4,this⟩
theorem U8(hX:XOk S Φ Ψ G X){i:Nat}{π:List nI}{e:Expr}(h:oE S KJ i π e=true)(R:Addr->Prop):VE X S.M R .s e (fun ε Q=>match look ε i with|some w=>(match cJ w π with|some u=>Q u|none=>False)|none=>False):=by
 obtain⟨m0,k,hm,hp,hk,pe⟩:=GA hX h
 cases k<;>first|(cases hk;done)|skip
 exact O6 pe hm hp
theorem MY(hX:XOk S Φ Ψ G X){i:Nat}{π:List nI}{e:Expr}(h:oE S SH i π e=true)(R:Addr->Prop):VB X S.M R e (fun ε Q=>match look ε i with|some w=>(match cJ w π with|some u=>Q u|none=>False)|none=>False):=by
 obtain⟨m0,k,hm,hp,hk,pe⟩:=GA hX h
 cases k<;>first|(cases hk;done)|skip
 exact O5 pe hm hp
end
structure cL(Φ:Nat->bT)(Ψ:Nat->Md)(G:Nat->W)(c:CE):Prop where
 e:∀{S:SE} {X:Cx},XOk S Φ Ψ G X->∀ex,aI S false c ex=true->∀R,VE X S.M R (mo Ψ c) ex (wE Φ G R c)
 t:∀{S:SE} {X:Cx},XOk S Φ Ψ G X->∀ex,aI S false c ex=true->Jd c=true->∀R,VT X S.M R ex (wE Φ G R c)
 i:∀{S:SE} {X:Cx},XOk S Φ Ψ G X->∀tg br ex,(aI S true c ex||(br&&fG S c ex))=true->(Gz c=true->∃elts kk tp,tg=Expr.Tuple elts kk tp)->∀R,PI X tg ex (Gn X S.M R br (wE Φ G R c))
structure qA(Φ:Nat->bT)(Ψ:Nat->Md)(G:Nat->W)(cs:List CE):Prop where
 a:∀{S:SE} {X:Cx},XOk S Φ Ψ G X->∀es,gb S cs es=true->∀R,VA X S.M R es (wA Φ G R cs)
 b:∀{S:SE} {X:Cx},XOk S Φ Ψ G X->∀es,lZ S cs es=true->∀R,SA X S.M R es (wA Φ G R cs)
 av:∀{S:SE} {X:Cx},XOk S Φ Ψ G X->∀es pos,es≠[]->gb S cs es=true->∀R,VE X S.M R .s (.BoolOp .And es pos) (zG Φ G R cs)
 ov:∀{S:SE} {X:Cx},XOk S Φ Ψ G X->∀es pos,es≠[]->gb S cs es=true->∀R,VE X S.M R .s (.BoolOp .Or es pos) (NJ Φ G R cs)
 «at»:∀{S:SE} {X:Cx},XOk S Φ Ψ G X->∀es pos,es≠[]->gb S cs es=true->Jd.Gy cs=true->∀R,MR X S.M R (.BoolOp .And es pos) (zG Φ G R cs)
 ot:∀{S:SE} {X:Cx},XOk S Φ Ψ G X->∀es pos,es≠[]->gb S cs es=true->Jd.Gy cs=true->∀R,MR X S.M R (.BoolOp .Or es pos) (NJ Φ G R cs)
section
variable{Φ:Nat->bT}{Ψ:Nat->Md}{G:Nat->W}
theorem fH{c:CE}(h:je Ψ c=false):mo Ψ c=.s:=by unfold mo;rw[h];rfl
theorem jx{c:CE}(h:je Ψ c=true):mo Ψ c=.f:=by unfold mo;rw[h];rfl
theorem cL.s{c:CE}(h:cL Φ Ψ G c){S:SE}{X:Cx}(hX:XOk S Φ Ψ G X){ex:Expr}(k:aI S false c ex=true)(R:Addr->Prop):VE X S.M R .s ex (wE Φ G R c):=Eb (h.e hX ex k R)
theorem cL.b{c:CE}(h:cL Φ Ψ G c){S:SE}{X:Cx}(hX:XOk S Φ Ψ G X){ex:Expr}(k:(aI S false c ex||fG S c ex)=true)(R:Addr->Prop):VB X S.M R ex (wE Φ G R c):=by
 rcases iE k with k|k
 ·exact UJ (h.e hX ex k R)
 ·cases c with
  |var i=>
   have k:(lY S i ex&&xW S.M i)=true:=k
   rw[AN]at k
   exact Gg (gc hX k.1) (xX k.2)
  |own i π=>exact MY hX k R
  |_=>exact ff k
theorem cL.mk1{c:CE}(he:∀{S:SE} {X:Cx},XOk S Φ Ψ G X->∀ex,aI S false c ex=true->∀R,VE X S.M R (mo Ψ c) ex (wE Φ G R c))
 (ht:∀{S:SE} {ex:Expr} (env:Env),aI S false c ex=true->∀whole,isTrue ex env whole=(do let v←whole;standAt ex.pos;holding [v] (truthy v)))
 (hi:∀(S:SE) (ex:Expr),aI S true c ex=true->aI S false c ex=true) (hv:∀(S:SE) (ex:Expr),fG S c ex=false):cL Φ Ψ G c:=
 ⟨he,fun hX ex k _ R=>vf (ht _ k) (Eb (he hX ex k R)),fun{S X} hX tg br ex k _ R=>by
   rw[hv,X9,Tb]at k
   exact gH (kg (he hX ex (hi _ _ k) R))⟩
theorem Ql(i:Nat):cL Φ Ψ G (.var i):=by
 have he:∀{S:SE} {X:Cx},XOk S Φ Ψ G X->∀ex,aI S false (.var i) ex=true->∀R,VE X S.M R (mo Ψ (.var i)) ex (wE Φ G R (.var i)):=fun{S X} hX ex k R=>by
  have k:=a2 k
  have hm:¬aX S.M i:=lX (by simpa using k.2)
  rw[fH rfl]
  exact O4 (gc hX k.1) hm
 refine⟨he,fun{S X} hX ex k _ R=>vf (fun whole=>?_) (Eb (he hX ex k R)),fun{S X} hX tg br ex k _ R=>?_⟩
 ·have k:=a2 k
  cases ex<;>first|rfl|(have:=k.1;exact ff this)
 ·rcases iE k with k|k
  ·exact gH (kg (he hX ex (by exact k) R))
  ·rw[AN]at k
   obtain⟨rfl,k2⟩:=k
   have k2:(lY S i ex&&xW S.M i)=true:=k2
   rw[AN]at k2
   exact gH (UQ (Gg (gc hX k2.1) (xX k2.2)))
theorem Qm(i:Nat)(π:List nI):cL Φ Ψ G (.own i π):=by
 have ew:∀R,wE Φ G R (.own i π)=fun ε Q=>match look ε i with|some w=>(match cJ w π with|some u=>Q u|none=>False)|none=>False:=fun R=>rfl
 have he:∀{S:SE} {X:Cx},XOk S Φ Ψ G X->∀ex,aI S false (.own i π) ex=true->∀R,VE X S.M R (mo Ψ (.own i π)) ex (wE Φ G R (.own i π)):=fun{S X} hX ex k R=>by
  rw[fH rfl,ew]
  exact U8 hX k R
 refine⟨he,fun{S X} hX ex k _ R=>vf (fun whole=>?_) (Eb (he hX ex k R)),fun{S X} hX tg br ex k _ R=>?_⟩
 ·rcases(fO k).2 with⟨_,_,_,rfl⟩|⟨_,_,_,_,_,rfl⟩<;>rfl
 ·rcases iE k with k|k
  ·exact gH (kg (he hX ex (by exact k) R))
  ·rw[AN]at k
   obtain⟨rfl,k2⟩:=k
   rw[ew]
   exact gH (UQ (MY hX k2 R))
theorem Qn(i:Int):cL Φ Ψ G (.int i):=by
 refine .mk1 (fun{S X} hX ex k R=>?_) (fun{S ex} env k whole=>?_) (fun S ex k=>by exact k) (fun _ _=>rfl)
 ·obtain⟨c,q,p,rfl,k⟩:=gI k
  cases Bz k
  rw[fH rfl]
  exact Ec iP fun _ _=>iB _
 ·obtain⟨c,q,p,rfl,k⟩:=gI k
  rfl
theorem U9(i:Bool):cL Φ Ψ G (.bl i):=by
 refine .mk1 (fun{S X} hX ex k R=>?_) (fun{S ex} env k whole=>?_) (fun S ex k=>by exact k) (fun _ _=>rfl)
 ·obtain⟨c,q,p,rfl,k⟩:=gI k
  cases Bz k
  rw[fH rfl]
  exact Ec Tj fun _ _=>BC _
 ·obtain⟨c,q,p,rfl,k⟩:=gI k
  rfl
theorem Qo(i:Str):cL Φ Ψ G (.str i):=by
 refine .mk1 (fun{S X} hX ex k R=>?_) (fun{S ex} env k whole=>?_) (fun S ex k=>by exact k) (fun _ _=>rfl)
 ·obtain⟨c,q,p,rfl,k⟩:=gI k
  cases Bz k
  rw[fH rfl]
  exact Ec NS fun _ _=>UD _
 ·obtain⟨c,q,p,rfl,k⟩:=gI k
  rfl
theorem Qp:cL Φ Ψ G .aU:=by
 refine .mk1 (fun{S X} hX ex k R=>?_) (fun{S ex} env k whole=>?_) (fun S ex k=>by exact k) (fun _ _=>rfl)
 ·obtain⟨c,q,p,rfl,k⟩:=gI k
  cases Bz k
  rw[fH rfl]
  exact Ec zJ fun _ _=>UE
 ·obtain⟨c,q,p,rfl,k⟩:=gI k
  rfl
theorem KQ{n:String}(h:tys.contains n=true):bootBuiltins (Str.ofString n)=some (.type n):=by
 have:n∈tys:=by simpa using h
 unfold tys at this
 simp only[Fu,QQ,or_false]at this
 rcases this with rfl|rfl|rfl|rfl|rfl|rfl<;>rfl
theorem Qq(n:String):cL Φ Ψ G (.E6 n):=by
 refine .mk1 (fun{S X} hX ex k R=>?_) (fun{S ex} env k whole=>?_) (fun S ex k=>by exact k) (fun _ _=>rfl)
 ·obtain⟨x,q,rfl,kk⟩:=ee k
  replace k:=kk
  simp only[AN]at k
  obtain⟨⟨⟨k1,k2⟩,k3⟩,k4⟩:=k
  obtain⟨g1,g2,g3⟩:=bH hX k2
  have k1:=Bz k1
  subst k1
  rw[fH rfl]
  exact Ec (v:=.ty n) (Bm g1 (hX.BP _ (by simpa using k3)) (KQ k4) rfl g3 g2) fun _ _=>rTy _
 ·obtain⟨x,q,rfl,kk⟩:=ee k
  replace k:=kk
  rfl
theorem KR(g:Nat):cL Φ Ψ G (.glob g):=by
 refine .mk1 (fun{S X} hX ex k R=>?_) (fun{S ex} env k whole=>?_) (fun S ex k=>by exact k) (fun _ _=>rfl)
 ·obtain⟨x,q,rfl,kk⟩:=ee k
  replace k:=kk
  simp only[AN]at k
  obtain⟨k1,k2⟩:=k
  obtain⟨g1,g2,g3⟩:=bH hX k2
  obtain⟨u,v,h1,h2,h3⟩:=hX.MX g _ (N0.mp k1)
  rw[fH rfl]
  exact Ec (gx g1 h1 h2 g2) h3
 ·obtain⟨x,q,rfl,kk⟩:=ee k
  replace k:=kk
  rfl
theorem Ar{K:PySem.W.Frag}{B:Addr->Prop}{H H':Hp}{w:W}{v:V}(h:eO K B H H' .f w v):O7 w=true:=by
 obtain⟨ws,p,vs,rfl,_⟩:=h.Uw
 rfl
theorem GB{S:SE}{a:CE}{l:Expr}(k:fG S a l=true)(z:je Ψ a=true):False:=by cases a<;>first|exact ff k|exact ff z
theorem Qt(op:Operator){a b:CE}(ha:cL Φ Ψ G a)(hb:cL Φ Ψ G b):cL Φ Ψ G (.bin op a b):=by
 refine .mk1 (fun{S X} hX ex k R=>?_) (fun{S ex} env k whole=>?_) (fun S ex k=>by exact k) (fun _ _=>rfl)
 ·obtain⟨l,o,r,pos,rfl,kk⟩:=nR k
  replace k:=kk
  simp only[AN]at k
  obtain⟨⟨k1,k2⟩,k3⟩:=k
  have k1:=Bz k1
  subst k1
  show VE X S.M R _ _ fun ε Q=>wE Φ G R a ε fun x=>wE Φ G R b ε fun y=>fW op x y Q
  have bB:∀B H H' w v,Dom B H->Zg X.K B H H' w v->bf X.K B H' w v:=fun _ _ _ _ _ _ h=>h
  have bM:∀B H H' w v,Dom B H->O3 X.K .f B H H' w v->bf X.K B H' w v:=fun _ _ _ _ _ d h=>(eO.rep d h).b
  have bA:=ha.b hX k2 R
  have Va:=hb.b hX k3 R
  have fa:je Ψ a=true->VE X S.M R .f l (wE Φ G R a):=fun z=>by
   rcases iE k2 with k2|k2
   ·have:=ha.e hX l k2 R
    rw[jx z]at this
    exact this
   ·exact(GB k2 z).elim
  have fb:je Ψ b=true->VE X S.M R .f r (wE Φ G R b):=fun z=>by
   rcases iE k3 with k3|k3
   ·have:=hb.e hX r k3 R
    rw[jx z]at this
    exact this
   ·exact(GB k3 z).elim
  cases op with
  |Add=>
   by_cases za:je Ψ a=true
   ·rw[jx (show je Ψ (.bin .Add a b)=true by show(je Ψ a||je Ψ b)=true;rw[za];rfl)]
    exact Aj (fa za) Va bM bB fun _ _ _ _ _ _ _ _ _ _ h1 _=>.inl ⟨rfl,.inl (Ar h1)⟩
   ·by_cases zb:je Ψ b=true
    ·rw[jx (show je Ψ (.bin .Add a b)=true by show(je Ψ a||je Ψ b)=true;rw[zb,Bool.or_true])]
     exact Aj bA (fb zb) bB bM fun _ _ _ _ _ _ _ _ _ _ _ h2=>.inl ⟨rfl,.inr (Ar h2)⟩
    ·rw[fH (show je Ψ (.bin .Add a b)=false by show(je Ψ a||je Ψ b)=false;rw[cc _|>.mp za,cc _|>.mp zb];rfl)]
     exact Gi bA Va fun _ _=>.inr rfl
  |Mult=>
   by_cases za:je Ψ a=true
   ·rw[jx (show je Ψ (.bin .Mult a b)=true from za)]
    exact Aj (fa za) Va bM bB fun _ _ _ _ _ _ _ _ _ _ h1 _=>.inr ⟨rfl,Ar h1⟩
   ·rw[fH (show je Ψ (.bin .Mult a b)=false from cc _|>.mp za)]
    exact Gi bA Va fun _ _=>.inr rfl
  |_=>
   rw[fH rfl]
   exact Gi bA Va fun _ _=>.inr rfl
 ·obtain⟨l,o,r,pos,rfl,kk⟩:=nR k
  replace k:=kk
  rfl
theorem Qu{a:CE}(ha:cL Φ Ψ G a):cL Φ Ψ G (.neg a):=by
 refine .mk1 (fun{S X} hX ex k R=>?_) (fun{S ex} env k whole=>?_) (fun S ex k=>by exact k) (fun _ _=>rfl)
 ·obtain⟨o,x,pos,rfl,kk⟩:=pH k
  replace k:=kk
  rw[AN]at k
  cases Bz k.1
  rw[fH rfl]
  exact O9 (ha.s hX k.2 R)
 ·obtain⟨o,x,pos,rfl,kk⟩:=pH k
  replace k:=kk
  rw[AN]at k
  cases Bz k.1
  rfl
theorem Qv{a:CE}(ha:cL Φ Ψ G a):cL Φ Ψ G (.not a):=by
 have e:∀R,wE Φ G R (.not a)=fun ε Q=>wE Φ G R a ε fun x=>truth x fun b=>Q (.bl (!b)):=fun R=>rfl
 have he:∀{S:SE} {X:Cx},XOk S Φ Ψ G X->∀ex,aI S false (.not a) ex=true->∀R,VE X S.M R (mo Ψ (.not a)) ex (wE Φ G R (.not a)):=fun{S X} hX ex k R=>by
  obtain⟨o,x,pos,rfl,kk⟩:=pH k
  replace k:=kk
  rw[AN]at k
  cases Bz k.1
  rw[fH rfl,e]
  exact Pa (ha.s hX k.2 R)
 refine⟨he,fun{S X} hX ex k kt R=>?_,fun{S X} hX tg br ex k _ R=>?_⟩
 ·obtain⟨o,x,pos,rfl,kk⟩:=pH k
  replace k:=kk
  rw[AN]at k
  cases Bz k.1
  rw[e]
  exact Pg (ha.t hX _ k.2 (by exact kt) R)
 ·have hv:fG S (.not a) ex=false:=rfl
  rw[hv,X9,Tb]at k
  exact gH (kg (he hX ex (by exact k) R))
theorem Qw(op:CmpOp){a b:CE}(ha:cL Φ Ψ G a)(hb:cL Φ Ψ G b):cL Φ Ψ G (.cmp op a b):=by
 have e:∀R,wE Φ G R (.cmp op a b)=fun ε Q=>wE Φ G R a ε fun x=>wE Φ G R b ε fun y=>eT op x y Q:=fun R=>rfl
 have he:∀{S:SE} {X:Cx},XOk S Φ Ψ G X->∀ex,aI S false (.cmp op a b) ex=true->∀R,VE X S.M R .s ex (wE Φ G R (.cmp op a b))/\VT X S.M R ex (wE Φ G R (.cmp op a b)):=fun{S X} hX ex k R=>by
  obtain⟨l,o,r,pos,rfl,kk⟩:=t6 k
  replace k:=kk
  simp only[AN,Bool.not_eq_true']at k
  obtain⟨⟨⟨⟨k1,k2⟩,k3⟩,k4⟩,k5⟩:=k
  have k1:=Bz k1
  subst k1
  have hm:=p8 r (op:=op) (of_decide_eq_false k2) (of_decide_eq_false k3)
  rw[e]
  exact⟨Pb hX.un hm (ha.b hX k4 R) (hb.b hX k5 R),Pc hX.un hm (ha.b hX k4 R) (hb.b hX k5 R)⟩
 refine⟨fun hX ex k R=>by rw[fH rfl];exact(he hX ex k R).1,fun hX ex k _ R=>(he hX ex k R).2,fun{S X} hX tg br ex k _ R=>?_⟩
 have hv:fG S (.cmp op a b) ex=false:=rfl
 rw[hv,X9,Tb]at k
 exact gH (kg (he hX ex (by exact k) R).1)
theorem jR{es:List Expr}(h:(!es.isEmpty)=true):es≠[]:=by
 rintro rfl
 cases h
theorem Qx{as:List CE}(ha:qA Φ Ψ G as):cL Φ Ψ G (.and as):=by
 have e:∀R,wE Φ G R (.and as)=zG Φ G R as:=fun R=>rfl
 have he:∀{S:SE} {X:Cx},XOk S Φ Ψ G X->∀ex,aI S false (.and as) ex=true->∀R,VE X S.M R .s ex (wE Φ G R (.and as)):=fun{S X} hX ex k R=>by
  obtain⟨o,es,pos,rfl,kk⟩:=pI k
  replace k:=kk
  rw[AN,AN]at k
  cases Bz k.1.1
  rw[e]
  exact ha.av hX _ _ (jR k.1.2) k.2 R
 refine⟨fun hX ex k R=>by rw[fH rfl];exact he hX ex k R,fun{S X} hX ex k kt R=>?_,fun{S X} hX tg br ex k _ R=>?_⟩
 ·obtain⟨o,es,pos,rfl,kk⟩:=pI k
  replace k:=kk
  rw[AN,AN]at k
  cases Bz k.1.1
  rw[e]
  exact(ha.at hX _ _ (jR k.1.2) k.2 (by exact kt) R).pt
 ·have hv:fG S (.and as) ex=false:=rfl
  rw[hv,X9,Tb]at k
  exact gH (kg (he hX ex (by exact k) R))
theorem Vb{as:List CE}(ha:qA Φ Ψ G as):cL Φ Ψ G (.or as):=by
 have e:∀R,wE Φ G R (.or as)=NJ Φ G R as:=fun R=>rfl
 have he:∀{S:SE} {X:Cx},XOk S Φ Ψ G X->∀ex,aI S false (.or as) ex=true->∀R,VE X S.M R .s ex (wE Φ G R (.or as)):=fun{S X} hX ex k R=>by
  obtain⟨o,es,pos,rfl,kk⟩:=pI k
  replace k:=kk
  rw[AN,AN]at k
  cases Bz k.1.1
  rw[e]
  exact ha.ov hX _ _ (jR k.1.2) k.2 R
 refine⟨fun hX ex k R=>by rw[fH rfl];exact he hX ex k R,fun{S X} hX ex k kt R=>?_,fun{S X} hX tg br ex k _ R=>?_⟩
 ·obtain⟨o,es,pos,rfl,kk⟩:=pI k
  replace k:=kk
  rw[AN,AN]at k
  cases Bz k.1.1
  rw[e]
  exact(ha.ot hX _ _ (jR k.1.2) k.2 (by exact kt) R).pt
 ·have hv:fG S (.or as) ex=false:=rfl
  rw[hv,X9,Tb]at k
  exact gH (kg (he hX ex (by exact k) R))
theorem Vd{X:Cx}{M:Ms}{R:Addr->Prop}{m:Md}{e:Expr}{t:WT}{c:CE}(h:VE X M R m e t)(hm:mo Ψ c=m\/mo Ψ c=.s):VE X M R (mo Ψ c) e t:=by
 rcases hm with z|z
 ·rw[z];exact h
 ·rw[z];exact Eb h
theorem Qy{c a b:CE}(hc:cL Φ Ψ G c)(ha:cL Φ Ψ G a)(hb:cL Φ Ψ G b):cL Φ Ψ G (.ite c a b):=by
 have e:∀R,wE Φ G R (.ite c a b)=fun ε Q=>wE Φ G R c ε fun x=>truth x fun k=>if k=true then wE Φ G R a ε Q else wE Φ G R b ε Q:=fun R=>rfl
 have he:∀{S:SE} {X:Cx},XOk S Φ Ψ G X->∀ex,aI S false (.ite c a b) ex=true->∀R,VE X S.M R (mo Ψ (.ite c a b)) ex (wE Φ G R (.ite c a b)):=fun{S X} hX ex k R=>by
  obtain⟨t,x,y,p,rfl,kk⟩:=KO k
  simp only[AN]at kk
  obtain⟨⟨⟨k1,k2⟩,k3⟩,k4⟩:=kk
  rw[e]
  by_cases z:je Ψ a=true/\je Ψ b=true
  ·rw[jx (show je Ψ (.ite c a b)=true by show(je Ψ a&&je Ψ b)=true;rw[z.1,z.2];rfl)]
   have h1:=ha.e hX x k3 R
   have h2:=hb.e hX y k4 R
   rw[jx z.1]at h1
   rw[jx z.2]at h2
   exact Gj (hc.t hX t k1 k2 R) h1 h2
  ·rw[fH (show je Ψ (.ite c a b)=false by
    show(je Ψ a&&je Ψ b)=false
    cases h1:je Ψ a
    ·rfl
    ·cases h2:je Ψ b
     ·rfl
     ·exact absurd ⟨h1,h2⟩ z)]
   exact Gj (hc.t hX t k1 k2 R) (ha.s hX k3 R) (hb.s hX k4 R)
 refine⟨he,(fun hX ex k kt R=>by exact ff kt),fun{S X} hX tg br ex k _ R=>?_⟩
 have hv:fG S (.ite c a b) ex=false:=rfl
 rw[hv,X9,Tb]at k
 exact gH (kg (he hX ex (by exact k) R))
theorem Qz{as:List CE}(ha:qA Φ Ψ G as):cL Φ Ψ G (.tup as):=by
 refine .mk1 (fun{S X} hX ex k R=>?_) (fun{S ex} env k whole=>?_) (fun S ex k=>by exact k) (fun _ _=>rfl)
 ·obtain⟨es,q,p,rfl,kk⟩:=fY k
  rw[fH rfl]
  exact Pk (ha.a hX es kk R)
 ·obtain⟨es,q,p,rfl,kk⟩:=fY k
  rfl
theorem QA{as:List CE}(ha:qA Φ Ψ G as):cL Φ Ψ G (.lst as):=by
 refine .mk1 (fun{S X} hX ex k R=>?_) (fun{S ex} env k whole=>?_) (fun S ex k=>by exact k) (fun _ _=>rfl)
 ·obtain⟨es,p,rfl,kk⟩:=xZ k
  rw[jx rfl]
  exact Pj (ha.a hX es kk R)
 ·obtain⟨es,p,rfl,kk⟩:=xZ k
  rfl
theorem Ve{a i:CE}(ha:cL Φ Ψ G a)(hi:cL Φ Ψ G i):cL Φ Ψ G (.ix a i):=by
 refine .mk1 (fun{S X} hX ex k R=>?_) (fun{S ex} env k whole=>?_) (fun S ex k=>by exact k) (fun _ _=>rfl)
 ·obtain⟨v,s,p,rfl,kk⟩:=fZ k
  simp only[AN]at kk
  rw[fH rfl]
  exact UM (vm kk.1.1) (ha.b hX kk.1.2 R) (hi.s hX kk.2 R)
 ·obtain⟨v,s,p,rfl,kk⟩:=fZ k
  rfl
theorem MZ{lo:CE}(hl:cL Φ Ψ G lo){S:SE}{X:Cx}(hX:XOk S Φ Ψ G X){l:Option Expr}(k:Qj (j9 lo) (fun x=>aI S false lo x) l=true)(R:Addr->Prop):PO X l (UN X S.M R fun ε Q=>wE Φ G R lo ε fun y=>J5 lo y Q):=by
 cases l with
 |none=>
  have z:j9 lo=true:=k
  cases lo with
  |aU=>
   exact Kl
  |_=>exact ff z
 |some x=>
  have k:(!j9 lo&&aI S false lo x)=true:=k
  rw[AN]at k
  have e:(fun(ε:Ev) (Q:Option Int->Prop)=>wE Φ G R lo ε fun y=>J5 lo y Q)=fun ε Q=>wE Φ G R lo ε fun y=>match y with|.int i=>Q (some i)|_=>False:=by
   have hn:j9 lo=false:=by simpa using k.1
   unfold J5
   rw[hn]
   funext ε Q
   congr 1
   funext y
   cases y<;>rfl
  rw[e]
  exact Km (hl.s hX k.2 R)
theorem Vf{a lo hi:CE}(ha:cL Φ Ψ G a)(hl:cL Φ Ψ G lo)(hh:cL Φ Ψ G hi):cL Φ Ψ G (.sl a lo hi):=by
 refine .mk1 (fun{S X} hX ex k R=>?_) (fun{S ex} env k whole=>?_) (fun S ex k=>by exact k) (fun _ _=>rfl)
 ·obtain⟨v,l,r,q,p,rfl,kk⟩:=BN k
  simp only[AN]at kk
  rw[jx rfl]
  exact UO (ha.b hX kk.1.1 R) (MZ hl hX kk.1.2 R) (MZ hh hX kk.2 R)
 ·obtain⟨v,l,r,q,p,rfl,kk⟩:=BN k
  rfl
theorem KU(f:Nat){as:List CE}(ha:qA Φ Ψ G as):cL Φ Ψ G (.call f as):=by
 refine .mk1 (fun{S X} hX ex k R=>?_) (fun{S ex} env k whole=>?_) (fun S ex k=>by exact k) (fun _ _=>rfl)
 ·obtain⟨x,q,es,p,rfl,kk⟩:=aM k
  simp only[AN]at kk
  obtain⟨⟨⟨⟨⟨k1,k2⟩,k3⟩,k5⟩,k6⟩,k4⟩:=kk
  obtain⟨g1,g2,g3⟩:=bH hX k2
  obtain⟨fv,n,kl,hm,F,hr,hn⟩:=hX.fns f x (N0.mp k1) (by simpa using k6)
  have F:c7 X.prog X.w X.K X.mg X.base kl fv n (MT X.K n (Ψ f) (Φ f)):=by
   rw[←hX.Je]at k5
   cases hp:Ψ f<;>rw[hp]at k5 F<;>first|exact F|exact ff k5
  have st:=jQ k4
  cases es with
  |nil=>exact ff k3
  |cons e es=>
   rw[List.all_cons,AN]at st
   have h:=BH (M:=S.M) (R:=R) (p:=q) (pos:=p) F hr g1 hm hn (ha.a hX _ k4 R) g2 (aF st.1 _ _) (bX st.2 _ _)
   refine Vd h ?_
   by_cases z:je Ψ (.call f as)=true
   ·rw[jx z]
    left
    have z:(match Ψ f with|.f=>true|_=>false)=true:=z
    cases hp:Ψ f<;>rw[hp]at z<;>first|rfl|exact ff z
   ·exact .inr (fH (by simpa using z))
 ·obtain⟨x,q,es,p,rfl,kk⟩:=aM k
  rfl
theorem yb{X:Cx}(hc:X.calm=true):∀b:BI,b≠.any->b≠.BB->(∃id,bootBuiltins (U4 b)=some (.builtin id)/\dg X (.builtin id) (SD X.K b))\/(∃id,bootBuiltins (U4 b)=some (.type id)/\dg X (.type id) (SD X.K b))
 |.len,_,_=>.inl ⟨"len",rfl,cw_len.r⟩
 |.abs,_,_=>.inl ⟨"abs",rfl,cw_abs.r⟩
 |.max2,_,_=>.inl ⟨"max",rfl,(cw_max hc).r⟩
 |.min2,_,_=>.inl ⟨"min",rfl,(cw_min hc).r⟩
 |.sum,_,_=>.inl ⟨"sum",rfl,(cw_sum hc).r⟩
 |.all,_,_=>.inl ⟨"all",rfl,(cw_all hc).r⟩
 |.list,_,_=>.inr ⟨"list",rfl,cw_list.r⟩
 |.tuple,_,_=>.inr ⟨"tuple",rfl,cw_tuple.r⟩
 |.int,_,_=>.inr ⟨"int",rfl,cw_int.r⟩
 |.any,h,_=>absurd rfl h
 |.BB,_,h=>absurd rfl h
theorem fR{S:SE}{a:CE}{as:List CE}{es:List Expr}(k:gb S (a::as) es=true):∃e r,es=e::r/\aI S false a e=true/\gb S as r=true:=by
 cases es with
 |nil=>exact ff k
 |cons e r=>exact⟨e,r,rfl,a2 k⟩
theorem qB{S:SE}{es:List Expr}(k:gb S [] es=true):es=[]:=Hk.mp k
theorem As{S:SE}{a:CE}{as:List CE}{es:List Expr}(k:lZ S (a::as) es=true):∃e r,es=e::r/\(aI S false a e||fG S a e)=true/\lZ S as r=true:=by
 cases es with
 |nil=>exact ff k
 |cons e r=>exact⟨e,r,rfl,a2 k⟩
theorem Ek{S:SE}{es:List Expr}(k:lZ S [] es=true):es=[]:=Hk.mp k
theorem QB(b:BI){as:List CE}(ha:qA Φ Ψ G as)(hall:∀c∈as,cL Φ Ψ G c):cL Φ Ψ G (.blt b as):=by
 refine .mk1 (fun{S X} hX ex k R=>?_) (fun{S ex} env k whole=>?_) (fun S ex k=>by exact k) (fun _ _=>rfl)
 ·obtain⟨x,q,es,p,rfl,kk⟩:=aM k
  simp only[AN]at kk
  obtain⟨⟨⟨⟨⟨k1,k2⟩,k3⟩,k4⟩,k5⟩,k6⟩:=kk
  have k1:=Bz k1
  obtain⟨g1,g2,g3⟩:=bH hX k2
  have hz:=hX.BP x (by simpa using k3)
  have st:=qy k6
  cases es with
  |nil=>cases b<;>exact ff k4
  |cons e es=>
   rw[List.all_cons,AN]at st
   by_cases hi:b=.BB
   ·subst hi
    rw[fH rfl]
    rcases as with _|⟨a,_|⟨c,_|⟨d,as⟩⟩⟩<;>try exact ff k5
    obtain⟨n,hn⟩:=Ta.mp k5
    have ec:c=.E6 n:=by cases c<;>first|(cases hn;rfl)|exact nn hn
    subst ec
    obtain⟨k7,k8⟩:=a2 k6
    obtain⟨e2,r,rfl,k9,M0⟩:=As k8
    cases Ek M0
    have st2:=st.2
    rw[List.all_cons,AN]at st2
    have kt:aI S false (.E6 n) e2=true:=by
     rcases iE k9 with z|z
     ·exact z
     ·exact ff z
    have mem:n∈["int","bool","tuple","list","str","dict"]:=by
     obtain⟨y,q2,rfl,kk⟩:=ee kt
     have:=(a2 kk).2
     unfold tys at this
     exact List.contains_iff_mem.mp this
    have hA:=(hall a DD).b hX k7 R
    have hC:=(hall (.E6 n) (Bn _ DD)).b hX k9 R
    have hv:bootBuiltins x=some (.builtin "isinstance"):=by rw[k1];rfl
    exact Pq (M:=S.M) (R:=R) (p:=q) (pos:=p) hX.kit mem g1 hz hv hA hC g3 g2 (aF st.1 _ _) (aF st2.1 _ _) (bX st.2 _ _)
   ·have hm:mo Ψ (.blt b as)=UP b:=by
     cases b<;>first|rfl|exact fH rfl|exact jx rfl
    rw[hm]
    rcases yb hX.calm b (by rintro rfl;exact ff k4) hi with⟨id,hv,hc⟩|⟨id,hv,hc⟩
    ·exact Po hc g1 hz (by rw[k1];exact hv) (ha.b hX _ k6 R) g3 g2 (aF st.1 _ _) (bX st.2 _ _)
    ·exact Pp hc g1 hz (by rw[k1];exact hv) (ha.b hX _ k6 R) g3 g2 (aF st.1 _ _) (bX st.2 _ _)
 ·obtain⟨x,q,es,p,rfl,kk⟩:=aM k
  rfl
theorem KW{a:CE}(ha:cL Φ Ψ G a):cL Φ Ψ G (.bits a):=by
 refine .mk1 (fun{S X} hX ex k R=>?_) (fun{S ex} env k whole=>?_) (fun S ex k=>by exact k) (fun _ _=>rfl)
 ·obtain⟨o,m,ap,cp,rfl,kk⟩:=kX k
  simp only[AN]at kk
  obtain⟨⟨⟨k1,k2⟩,k4⟩,k3⟩:=kk
  have k1:=Bz k1
  subst k1
  rw[fH rfl]
  exact Kn (ha.s hX k3 R) (t8 k4 _ _ _) k2
 ·obtain⟨o,m,ap,cp,rfl,kk⟩:=kX k
  rfl
theorem QC(i g f:Nat)(as:List CE):cL Φ Ψ G (.Jb i g f as):=.mk1 (fun hX ex k R=>by cases k) (fun env k whole=>by cases k) (fun S ex k=>by cases k) (fun _ _=>rfl)
theorem QD(f:Nat){a:CE}{as:List CE}(ha:cL Φ Ψ G a)(hs:qA Φ Ψ G as):cL Φ Ψ G (.OW f a as):=by
 refine .mk1 (fun{S X} hX ex k R=>?_) (fun{S ex} env k whole=>?_) (fun S ex k=>by exact k) (fun _ _=>rfl)
 ·obtain⟨x,q,es,p,rfl,kk⟩:=aM k
  simp only[AN]at kk
  obtain⟨⟨⟨⟨⟨k1,k2⟩,k3⟩,k4⟩,k5⟩,k6⟩:=kk
  obtain⟨g1,g2,g3⟩:=bH hX k2
  obtain⟨fv,n,kl,hm,F,hr,hn⟩:=hX.fns f x (N0.mp k1) (by simpa using k4)
  have F:c7 X.prog X.w X.K X.mg X.base kl fv n (Pn X.K n .f (Φ f)):=by
   rw[←hX.Je]at k3
   cases hp:Ψ f<;>rw[hp]at k3 F<;>first|(cases k3;done)|skip
   rename_i m
   cases m<;>first|exact F|exact ff k3
  cases es with
  |nil=>exact ff k6
  |cons e es=>
   rw[qw,AN]at k6
   have st:=jQ k6.2
   have hv:=ha.e hX e k6.1 R
   rw[hX.Je,jx k5]at hv
   rw[fH rfl,show wE Φ G R (.OW f a as)=fun ε Q=>wE Φ G R a ε fun x=>wA Φ G R as ε fun ws=>Φ f (x::ws) (fun r=>∃w y,r=.tup [w,y]/\Q w) R from rfl]
   exact Qa (M:=S.M) (R:=R) (p:=q) (pos:=p) F hr g1 hm hn hv (hs.a hX _ k6.2 R) g2 (aF (aY (.inl k6.1)) _ _) (bX st _ _)
 ·obtain⟨x,q,es,p,rfl,kk⟩:=aM k
  rfl
theorem QE(i:Nat):cL Φ Ψ G (.pop i):=.mk1 (fun hX ex k R=>by cases k) (fun env k whole=>by cases k) (fun S ex k=>by cases k) (fun _ _=>rfl)
theorem QF{as:List CE}(hall:∀c∈as,cL Φ Ψ G c):cL Φ Ψ G (.jn as):=by
 refine⟨fun{S X} hX ex k R=>?_,fun{S X} hX ex k _ R=>?_,fun{S X} hX tg br ex k _ R=>?_⟩
 ·obtain⟨x,q,es,p,rfl,kk⟩:=aM k
  simp at kk
 ·obtain⟨x,q,es,p,rfl,kk⟩:=aM k
  simp at kk
 ·have hv:fG S (.jn as) ex=false:=rfl
  rw[hv,X9,Tb]at k
  obtain⟨x,q,es,p,rfl,kk⟩:=aM k
  simp only[AN]at kk
  obtain⟨⟨⟨⟨⟨_,k1⟩,k2⟩,k3⟩,k4⟩,k5⟩:=kk
  have k1:=Bz k1
  subst k1
  obtain⟨g1,g2,g3⟩:=bH hX k2
  have hz:=hX.BP _ (by simpa using k3)
  rcases as with _|⟨a,_|⟨b,_|⟨c,_|⟨d,as⟩⟩⟩⟩
  ·simp at k4
  ·obtain⟨e,r,rfl,k6,k7⟩:=fR k5
   cases qB k7
   exact Kq (M:=S.M) (R:=R) (br:=br) (tg:=tg) (p:=q) (pos:=p) g1 hz ((hall a DD).s hX k6 R) (aF (aY (.inl k6)) _ _)
  ·obtain⟨e,r,rfl,k6,k7⟩:=fR k5
   obtain⟨f,r,rfl,k8,k9⟩:=fR k7
   cases qB k9
   exact Kr (M:=S.M) (R:=R) (br:=br) (tg:=tg) (p:=q) (pos:=p) g1 hz ((hall a (by simp)).s hX k6 R) ((hall b (by simp)).s hX k8 R) (aF (aY (.inl k6)) _ _) (aF (aY (.inl k8)) _ _)
  ·obtain⟨e,r,rfl,k6,k7⟩:=fR k5
   obtain⟨f,r,rfl,k8,k9⟩:=fR k7
   obtain⟨g,r,rfl,M0,k11⟩:=fR k9
   cases qB k11
   exact Ks (M:=S.M) (R:=R) (br:=br) (tg:=tg) (p:=q) (pos:=p) g1 hz ((hall a (by simp)).s hX k6 R) ((hall b (by simp)).s hX k8 R) ((hall c (by simp)).s hX M0 R) (aF (aY (.inl k6)) _ _) (aF (aY (.inl k8)) _ _) (aF (aY (.inl M0)) _ _)
  ·simp at k4
theorem l5{f:Expr->Bool}{es:List Expr}(h:x9 f es=true):∃e,es=[e]/\f e=true:=fX h
theorem QG{a:CE}(ha:cL Φ Ψ G a):cL Φ Ψ G (.uX a):=by
 refine⟨fun{S X} hX ex k R=>?_,fun{S X} hX ex k _ R=>?_,fun{S X} hX tg br ex k ht R=>?_⟩
 ·obtain⟨x,q,es,p,rfl,kk⟩:=aM k
  simp at kk
 ·obtain⟨x,q,es,p,rfl,kk⟩:=aM k
  simp at kk
 ·have hv:fG S (.uX a) ex=false:=rfl
  rw[hv,X9,Tb]at k
  obtain⟨x,q,es,p,rfl,kk⟩:=aM k
  simp only[AN]at kk
  obtain⟨⟨⟨⟨_,k1⟩,k2⟩,k3⟩,k5⟩:=kk
  have k1:=Bz k1
  subst k1
  obtain⟨e,rfl,k5⟩:=l5 k5
  obtain⟨g1,g2,g3⟩:=bH hX k2
  obtain⟨elts,kk,tp,rfl⟩:=ht rfl
  exact Pw g1 (hX.BP _ (by simpa using k3)) (kg (ha.e hX e k5 R)) (aF (aY (.inl k5)) _ _)
theorem QH{a:CE}(ha:cL Φ Ψ G a):cL Φ Ψ G (.rev a):=by
 have he:∀{S:SE} {X:Cx},XOk S Φ Ψ G X->∀ex,aI S false (.rev a) ex=true->∀R,VE X S.M R (mo Ψ (.rev a)) ex (wE Φ G R (.rev a)):=fun{S X} hX ex k R=>by
  obtain⟨x,q,es,p,rfl,kk⟩:=aM k
  have kk:(decide (x=("list":Str))&&jm S x&&S.zn.contains x&&x9 (fun v=>jw (fun y es=>decide (y=("reversed":Str))&&jm S y&&S.zn.contains y&&x9 (fun u=>aI S false a u||fG S a u) es) v) es)=true:=kk
  simp only[AN]at kk
  obtain⟨⟨⟨k1,k2⟩,k3⟩,k4⟩:=kk
  clear k kk
  have k1:=Bz k1
  subst k1
  obtain⟨e,rfl,k4⟩:=l5 k4
  obtain⟨y,q2,es,p2,rfl,kk⟩:=aM k4
  simp only[AN]at kk
  obtain⟨⟨⟨k5,k6⟩,k7⟩,k8⟩:=kk
  have k5:=Bz k5
  subst k5
  obtain⟨u,rfl,k8⟩:=l5 k8
  obtain⟨g1,g2,g3⟩:=bH hX k2
  obtain⟨g4,g5,g6⟩:=bH hX k6
  rw[jx rfl]
  exact Kp hX.calm g1 (hX.BP _ (by simpa using k3)) g4 (hX.BP _ (by simpa using k7)) (ha.b hX k8 R) (aF (aY (iE k8)) _ _)
 refine⟨he,fun{S X} hX ex k _ R=>vf (fun whole=>?_) (Eb (he hX ex k R)),fun{S X} hX tg br ex k ht R=>?_⟩
 ·obtain⟨x,q,es,p,rfl,kk⟩:=aM k
  rfl
 ·have hv:fG S (.rev a) ex=false:=rfl
  rw[hv,X9,Tb]at k
  obtain⟨x,q,es,p,rfl,kk⟩:=aM k
  have kk:(decide (x=("reversed":Str))&&jm S x&&S.zn.contains x&&x9 (fun v=>aI S false a v) es)=true:=kk
  simp only[AN]at kk
  obtain⟨⟨⟨k1,k2⟩,k3⟩,k5⟩:=kk
  have k1:=Bz k1
  subst k1
  obtain⟨e,rfl,k5⟩:=l5 k5
  obtain⟨g1,g2,g3⟩:=bH hX k2
  exact Px g1 (hX.BP _ (by simpa using k3)) (kg (ha.e hX e k5 R)) (aF (aY (.inl k5)) _ _)
theorem qE{f:NameKind->NameKind}:∀(l:List (Str×NameKind)) (y:Str),(l.map fun p=>(p.1,f p.2)).lookup y=(l.lookup y).map f
 |[],_=>rfl
 |(n,k)::r,y=>by
  rw[Fn,List.lookup_cons,List.lookup_cons]
  by_cases e:(y==n)=true
  ·rw[e];rfl
  ·rw[cc]at e
   rw[e]
   exact qE r y
theorem vn{sc a b:Scope}{N N' xs:List Str}(h:∀x,a.names.lookup x=b.names.lookup x):dX sc a N N' xs=dX sc b N N' xs:=by
 unfold dX
 simp only[h]
theorem vo{S:SE}{X:Cx}(hX:XOk S Φ Ψ G X){scope:Scope}{xs:List Str}(ho:dX scope X.env.scope X.N (mask xs S.N) xs=true)(hn:(xs++mask xs S.N).Nodup){pins:List (Addr×Obj)}{σ:St}{H:Hp}{s:Shared}(I:Inv X pins σ H s)(C:Addr)(s0:Shared)(H0:Hp)(fp:List Addr):
 XOk (S.comp scope xs) Φ Ψ G (aG X scope C xs (mask xs S.N) s0 H0 fp):=by
 refine⟨rfl,hn,hX.calm,hX.un,fun x=>?_,hX.fns,hX.Qk,hX.Je,hX.MX,hX.BP,hX.kit⟩
 show(relabel scope X.env).names.lookup x=_
 rw[iz I (fU.of ho)]
 show _=(scope.names.map fun p=>(p.1,if p.2=.free then NameKind.cell else p.2)).lookup x
 rw[qE (f:=fun k=>if k=.free then NameKind.cell else k)]
noncomputable def gJ(X:Cx)(i:Nat)(x:Str):Prop:=X.N[i]?=some x/\Loc X.env.scope x/\(X.fn x=true\/X.env.scope.names.lookup x=some .local)
noncomputable def dh(X:Cx):List Nat->List Str->Prop
 |[],xs=>xs=[]
 |i::is,xs=>∃x r,xs=x::r/\gJ X i x/\dh X is r
theorem M1{X:Cx}(hN:X.N.Nodup){i:Nat}{x:Str}{p:Pos}(h:gJ X i x):PG X (.Name x p) (iu i):=Bp hN h.1 h.2.1 h.2.2
theorem Au{X:Cx}(hN:X.N.Nodup):∀(es:List Expr) (xs:List Str) (ts:List Nat),Ej es=some xs->dh X ts xs->Su X es (Py ts)/\(assignEach es X.env).length=ts.length/\(assignEach es X.env).findIdx? (·.1)=none
 |[],xs,ts,h,k=>by
  cases h
  cases ts with
  |nil=>exact⟨Js,rfl,rfl⟩
  |cons i is=>
   obtain⟨x,r,e,_⟩:=k
   cases e
 |.Name x p::es,xs,ts,h,k=>by
  rw[Ej]at h
  obtain⟨l,hl,rfl⟩:=OK.mp h
  cases ts with
  |nil=>cases k
  |cons i is=>
   obtain⟨x',r,e,h1,h2⟩:=k
   cases e
   obtain⟨q1,q2,q3⟩:=Au hN es l is hl h2
   have e:assignEach (.Name x p::es) X.env=(false,assign (.Name x p) X.env)::assignEach es X.env:=rfl
   refine⟨Ft (M1 hN h1) q1 rfl,by rw[e,List.length_cons,q2,List.length_cons],?_⟩
   rw[e,List.findIdx?_cons,q3]
   rfl
 |.BoolOp ..::es,xs,ts,h,k=>by cases h
 |.NamedExpr ..::es,xs,ts,h,k=>by cases h
 |.BinOp ..::es,xs,ts,h,k=>by cases h
 |.UnaryOp ..::es,xs,ts,h,k=>by cases h
 |.Lambda ..::es,xs,ts,h,k=>by cases h
 |.IfExp ..::es,xs,ts,h,k=>by cases h
 |.Dict ..::es,xs,ts,h,k=>by cases h
 |.Set ..::es,xs,ts,h,k=>by cases h
 |.ListComp ..::es,xs,ts,h,k=>by cases h
 |.SetComp ..::es,xs,ts,h,k=>by cases h
 |.DictComp ..::es,xs,ts,h,k=>by cases h
 |.GeneratorExp ..::es,xs,ts,h,k=>by cases h
 |.Await ..::es,xs,ts,h,k=>by cases h
 |.Yield ..::es,xs,ts,h,k=>by cases h
 |.YieldFrom ..::es,xs,ts,h,k=>by cases h
 |.Compare ..::es,xs,ts,h,k=>by cases h
 |.Call ..::es,xs,ts,h,k=>by cases h
 |.FormattedValue ..::es,xs,ts,h,k=>by cases h
 |.JoinedStr ..::es,xs,ts,h,k=>by cases h
 |.Constant ..::es,xs,ts,h,k=>by cases h
 |.Attribute ..::es,xs,ts,h,k=>by cases h
 |.Subscript ..::es,xs,ts,h,k=>by cases h
 |.Starred ..::es,xs,ts,h,k=>by cases h
 |.List ..::es,xs,ts,h,k=>by cases h
 |.Tuple ..::es,xs,ts,h,k=>by cases h
 |.Slice ..::es,xs,ts,h,k=>by cases h
theorem QI{X:Cx}(hc:X.calm=true)(hN:X.N.Nodup){tg:Expr}{one:Bool}{xs:List Str}{ts:List Nat}(h:U5 tg=some (one,xs))(k:dh X ts xs):PG X tg (gT X.K one ts):=by
 cases tg with
 |Name x p=>
  cases h
  match ts,k with
  |[i],k=>
   obtain⟨x',r,e,h1,h2⟩:=k
   cases e
   exact M1 hN h1
  |[],k=>cases k
  |_::_::_,k=>
   obtain⟨x',r,e,h1,h2⟩:=k
   cases e
   obtain⟨x2,r2,e2,_⟩:=h2
   cases e2
 |Tuple es kk p=>
  rw[U5]at h
  obtain⟨l,hl,e⟩:=OK.mp h
  cases e
  obtain⟨q1,q2,q3⟩:=Au hN es xs ts hl k
  have:gT X.K false ts=N4 X.K ts.length (Py ts):=by cases ts<;>rfl
  rw[this]
  exact N5 hc q1 q2 q3
 |_=>exact nn h
theorem oF{X:Cx}:∀(xs:List Str) (n:Nat),(∀k x,xs[k]?=some x->gJ X (n+k) x)->dh X ((List.range xs.length).map (n+·)) xs
 |[],n,_=>by simp[dh]
 |x::xs,n,h=>by
  rw[List.length_cons,List.range_succ_eq_map,Fn]
  refine⟨x,xs,rfl,h 0 x rfl,?_⟩
  have:=oF xs (n+1) fun k y hy=>by
   have:=h (k+1) y (by simpa using hy)
   rw[show n+1+k=n+(k+1) by lia]
   exact this
  rw[Pl]
  have e:(List.range xs.length).map (n+1+·)=(List.range xs.length).map ((n+·)∘Nat.succ):=aw fun k _=>by
   show n+1+k=n+(k+1)
   lia
  rw[←e]
  exact this
theorem yc{iter:Expr}(h:Aq iter=true)(env:Env)(x:Value):foldedSetIterable iter env x=pure x:=by
 cases iter<;>first|rfl|exact ff h
theorem BR{ts:List Nat}{one:Bool}{n:Nat}{i c x:CE}{R:Addr->Prop}:wE Φ G R (.comp ts one n i c x)=fun ε Q=>wE Φ G R i ε fun z=>items z fun ws=>kW (fun w K=>wT one ts w (List.replicate n none++ε) fun ε'=>wE Φ G (fun _=>False) c ε' fun x'=>truth x' fun k=>if k=true then wE Φ G (fun _=>False) x ε' fun y=>K (some y)else K none) ws [] fun l=>Q (.lst l):=rfl
theorem qF{ts:List Nat}{one:Bool}{n:Nat}{i c x:CE}(hi:cL Φ Ψ G i)(hc:cL Φ Ψ G c)(hx:cL Φ Ψ G x){S:SE}{X:Cx}(hX:XOk S Φ Ψ G X){ex:Expr}(k:aI S false (.comp ts one n i c x) ex=true)(R:Addr->Prop):
 ∃elt tg iter ifs scope p xs,ex=.ListComp elt [⟨tg,iter,ifs,0⟩] scope p/\n=xs.length/\(∀j∈ts,j<xs.length)/\dX scope X.env.scope X.N (mask xs S.N) xs=true/\(∀z,foldedSetIterable iter X.env z=pure z)/\PI X tg iter (Gn X S.M R true (wE Φ G R i))/\
  ∀pins s σ H,Inv X pins σ H s->(∀C s0 H0 fp,PG (aG X scope C xs (mask xs S.N) s0 H0 fp) tg (gT X.K one ts))/\(∀C s0 H0 fp,PF (aG X scope C xs (mask xs S.N) s0 H0 fp) ifs (XH X.K (up S.M xs.length) (wE Φ G (fun _=>False) c)))/\
   ∀C s0 H0 fp,PE (aG X scope C xs (mask xs S.N) s0 H0 fp) elt (XG X.K (up S.M xs.length) (wE Φ G (fun _=>False) x)):=by
 obtain⟨elt,tg,iter,ifs,scope,p,rfl,kk⟩:=t7 k
 unfold ya at kk
 split at kk
 rotate_left
 ·cases kk
 rename_i o xs QJ
 simp only[AN]at kk
 obtain⟨⟨⟨⟨⟨⟨⟨⟨⟨k1,k2⟩,k3⟩,k4⟩,k5⟩,k6⟩,k7⟩,k8⟩,k9⟩,M0⟩:=kk
 have k1:=N0.mp k1
 have k2:=N0.mp k2
 have k3:=N0.mp k3
 subst k1 k2 k3
 have hnd:=Bz k5
 have ho:dX scope X.env.scope X.N (mask xs S.N) xs=true:=by
  rw[hX.hN,vn (b:=S.sc) fun y=>hX.nk y]
  exact k4
 have O:=fU.of ho
 refine⟨elt,tg,iter,ifs,scope,p,xs,rfl,rfl,fun j hj=>Ki.mp hj,ho,yc k6 _,hi.i hX tg true iter (by rw[Bool.true_and];exact k8) (fun z=>?_) R,fun pins s σ H I=>⟨fun C s0 H0 fp=>?_,fun C s0 H0 fp=>?_,fun C s0 H0 fp=>?_⟩⟩
 ·have:one=false:=by
   rw[z]at k7
   simpa using k7
  subst this
  cases tg with
  |Tuple es kk p=>exact⟨_,_,_,rfl⟩
  |Name y p=>cases QJ
  |_=>exact nn QJ
 ·have SI:=vo hX ho hnd I C s0 H0 fp
  refine QI SI.calm SI.nd QJ ?_
  have:=oF (X:=aG X scope C xs (mask xs S.N) s0 H0 fp) xs 0 fun k y hy=>?_
  ·simpa using this
  ·have hm:y∈xs:=Pm hy
   have l1:(aG X scope C xs (mask xs S.N) s0 H0 fp).env.scope.names.lookup y=some .local:=by
    show(relabel scope X.env).names.lookup y=_
    rw[iz I O,(O.own y hm).1]
    rfl
   refine⟨?_,.inl l1,.inr l1⟩
   show(xs++mask xs S.N)[0+k]?=some y
   rw[Nat.zero_add,OF (Fs.mp hy).1]
   exact hy
 ·have SI:=vo hX ho hnd I C s0 H0 fp
  match ifs,k9 with
  |[],k9=>
   have k9:MW c=true:=k9
   cases c with
   |bl b=>
    have:b=true:=k9
    subst this
    refine PF.imp F4 ?_
    rintro σ H Q ⟨A,H0,ε,P,S',h,k⟩
    obtain⟨b,e,q⟩:=k _ H h (ay.refl H)
    cases e
    exact q
   |_=>exact ff k9
  |[f],k9=>
   have k9:(aI (S.comp scope xs) false c f&&Jd c)=true:=k9
   rw[AN]at k9
   exact PF.imp (OJ (hc.t SI f k9.1 k9.2 fun _=>False))<|by rintro σ H Q ⟨A,H0,ε,P,S',h,k⟩;exact⟨A,H0,ε,P,S',.none,h,k⟩
  |_::_::_,k9=>exact ff k9
 ·have SI:=vo hX ho hnd I C s0 H0 fp
  exact PE.imp (hx.s SI M0 fun _=>False)<|by rintro σ H Q ⟨A,H0,ε,P,S',h,k⟩;exact⟨A,H0,ε,P,S',.none,h,fun w v H' pw s r=>k w v H' pw s r.bG⟩
theorem KY(ts:List Nat)(one:Bool)(n:Nat){i c x:CE}(hi:cL Φ Ψ G i)(hc:cL Φ Ψ G c)(hx:cL Φ Ψ G x):cL Φ Ψ G (.comp ts one n i c x):=by
 refine .mk1 (fun{S X} hX ex k R=>?_) (fun{S ex} env k whole=>?_) (fun S ex k=>by exact k) (fun _ _=>rfl)
 ·obtain⟨elt,tg,iter,ifs,scope,p,xs,rfl,rfl,hlt,ho,hfs,Uo,hr⟩:=qF hi hc hx hX k R
  rw[jx rfl]
  rw[BR]
  intro pins s σ H Q I hw
  obtain⟨q1,q2,q3⟩:=hr pins s σ H I
  exact Ku hX.calm ho hlt Uo q1 q2 q3 hfs pins s σ H Q I hw
 ·obtain⟨elt,tg,iter,ifs,scope,p,rfl,kk⟩:=t7 k
  rfl
theorem QK:qA Φ Ψ G []:=by
 have en:∀{S:SE} {es:List Expr},gb S [] es=true->es=[]:=fun{S es} h=>by
  exact Hk.mp h
 have enb:∀{S:SE} {es:List Expr},lZ S [] es=true->es=[]:=fun{S es} h=>by
  exact Hk.mp h
 refine⟨fun hX es k R=>?_,fun hX es k R=>?_,fun hX es pos hn k R=>absurd (en k) hn,fun hX es pos hn k R=>absurd (en k) hn,fun hX es pos hn k _ R=>absurd (en k) hn,fun hX es pos hn k _ R=>absurd (en k) hn⟩
 ·rw[en k]
  exact Ph
 ·rw[enb k]
  exact Kh
theorem KZ{a:CE}{as:List CE}(ha:cL Φ Ψ G a)(hs:qA Φ Ψ G as):qA Φ Ψ G (a::as):=by
 have ec:∀{S:SE} {es:List Expr},gb S (a::as) es=true->∃e r,es=e::r/\aI S false a e=true/\gb S as r=true:=fun{S es} h=>by
  rw[gb]at h
  cases es with
  |nil=>exact ff h
  |cons e r=>
   rw[qw,AN]at h
   exact⟨e,r,rfl,h.1,h.2⟩
 have ea:∀R,wA Φ G R (a::as)=fun ε Q=>wE Φ G R a ε fun x=>wA Φ G R as ε fun xs=>Q (x::xs):=fun R=>rfl
 refine⟨fun hX es k R=>?_,fun{S X} hX es k R=>?_,fun{S X} hX es pos hn k R=>?_,fun{S X} hX es pos hn k R=>?_,fun{S X} hX es pos hn k kt R=>?_,fun{S X} hX es pos hn k kt R=>?_⟩
 ·obtain⟨e,r,rfl,h1,h2⟩:=ec k
  rw[ea]
  exact Kg (aF (aY (.inl h1)) _ _) (ha.s hX h1 R) (hs.a hX r h2 R)
 ·rw[lZ]at k
  cases es with
  |nil=>exact ff k
  |cons e r=>
   rw[qw,AN]at k
   rw[ea]
   exact Gk (aF (aY (iE k.1)) _ _) (ha.b hX k.1 R) (hs.b hX r k.2 R)
 ·obtain⟨e,r,rfl,h1,h2⟩:=ec k
  cases as with
  |nil=>
   have:r=[]:=by
    exact Hk.mp h2
   subst this
   exact uL (ha.s hX h1 R)
  |cons b bs=>
   cases r with
   |nil=>exact ff h2
   |cons e2 r=>exact Pd (ha.s hX h1 R) (hs.av hX (e2::r) pos (by simp) h2 R)
 ·obtain⟨e,r,rfl,h1,h2⟩:=ec k
  cases as with
  |nil=>
   have:r=[]:=by
    exact Hk.mp h2
   subst this
   exact uL (ha.s hX h1 R)
  |cons b bs=>
   cases r with
   |nil=>exact ff h2
   |cons e2 r=>exact UK (ha.s hX h1 R) (hs.ov hX (e2::r) pos (by simp) h2 R)
 ·obtain⟨e,r,rfl,h1,h2⟩:=ec k
  have kt:=a2 kt
  cases as with
  |nil=>
   have:r=[]:=by
    exact Hk.mp h2
   subst this
   exact Kf (ha.t hX e h1 kt.1 R)
  |cons b bs=>
   cases r with
   |nil=>exact ff h2
   |cons e2 r=>exact Pf (ha.t hX e h1 kt.1 R) (hs.at hX (e2::r) pos (by simp) h2 kt.2 R)
 ·obtain⟨e,r,rfl,h1,h2⟩:=ec k
  have kt:=a2 kt
  cases as with
  |nil=>
   have:r=[]:=by
    exact Hk.mp h2
   subst this
   exact Pe (ha.t hX e h1 kt.1 R)
  |cons b bs=>
   cases r with
   |nil=>exact ff h2
   |cons e2 r=>exact UL (ha.t hX e h1 kt.1 R) (hs.ot hX (e2::r) pos (by simp) h2 kt.2 R)
variable(Φ Ψ G)
mutual
theorem snd:∀c:CE,cL Φ Ψ G c
 |.var i=>Ql i
 |.int i=>Qn i
 |.bl b=>U9 b
 |.str x=>Qo x
 |.aU=>Qp
 |.E6 n=>Qq n
 |.glob g=>KR g
 |.bin op a b=>Qt op (snd a) (snd b)
 |.neg a=>Qu (snd a)
 |.not a=>Qv (snd a)
 |.cmp op a b=>Qw op (snd a) (snd b)
 |.and as=>Qx (nT as).1
 |.or as=>Vb (nT as).1
 |.ite c a b=>Qy (snd c) (snd a) (snd b)
 |.tup as=>Qz (nT as).1
 |.lst as=>QA (nT as).1
 |.ix a i=>Ve (snd a) (snd i)
 |.sl a lo hi=>Vf (snd a) (snd lo) (snd hi)
 |.call f as=>KU f (nT as).1
 |.blt b as=>QB b (nT as).1 (nT as).2
 |.bits a=>KW (snd a)
 |.comp ts one n i c x=>KY ts one n (snd i) (snd c) (snd x)
 |.jn as=>QF (nT as).2
 |.uX a=>QG (snd a)
 |.rev a=>QH (snd a)
 |.pop i=>QE i
 |.own i π=>Qm i π
 |.Jb i g f as=>QC i g f as
 |.OW f a as=>QD f (snd a) (nT as).1
theorem nT:∀cs:List CE,qA Φ Ψ G cs/\∀c∈cs,cL Φ Ψ G c
 |[]=>⟨QK,by simp⟩
 |c::cs=>⟨KZ (snd c) (nT cs).1,fun d hd=>by
  rcases Fu.mp hd with e|h
  ·rw[e];exact snd c
  ·exact(nT cs).2 d h⟩
end
end
noncomputable def SJ(S:SE)(i:Nat)(x:Str):Bool:=S.N[i]?==some x&&(S.nk.lookup x==some .local||S.nk.lookup x==some .cell)
noncomputable def Av(S:SE):List Nat->List Str->Bool
 |[],xs=>xs.isEmpty
 |i::is,xs=>match xs with
  |x::r=>SJ S i x&&Av S is r
  |[]=>false
noncomputable def GC(S:SE)(ts:List Nat):Bool:=ts.all fun i=>!xV S.M i
noncomputable def SE.less(S:SE)(i:Nat):SE:={S with M:=S.M.filter (·.1 !=i)}
noncomputable def SE.bare(S:SE):SE:={S with M:=[]}
noncomputable def Aw:Expr->Bool
 |.Tuple _ _ _=>false
 |_=>true
noncomputable def BS:Expr->Bool
 |.ListComp _ _ _ _=>false
 |_=>true
noncomputable def SK(S:SE)(ts vs:List Expr):Option (Option (List Str)):=
 if !(ts.length==2||ts.length==3)||vs.length !=ts.length then some none
 else if vs.any fun|.Starred ..=>true|_=>false then some none
 else
  let line:=(ts.head?.map (·.pos.line)).getD 0
  let names:=ts.filterMap fun
   |.Name id pos=>if S.nk.lookup id==some .local&&pos.line==line then some id else none
   |_=>none
  if names.length !=ts.length||names.eraseDups.length !=names.length then some none
  else if vs.all (foldedForSure 8)then some none
  else if vs.all (constantsAlone 8)then none
  else some (some names)
noncomputable def Em(f:List Expr->Expr->Bool):Stmt->Bool
 |.Assign ts v _=>f ts v
 |_=>false
noncomputable def Zt(f:Expr->List Stmt->List Stmt->Bool):Stmt->Bool
 |.While c a b _=>f c a b
 |_=>false
noncomputable def Zu(f:Expr->Expr->List Stmt->List Stmt->Bool):Stmt->Bool
 |.For t i a b _=>f t i a b
 |_=>false
noncomputable def Zv(f:Expr->Bool):Stmt->Bool
 |.Raise (some x) none _=>f x
 |_=>false
noncomputable def K0(f:Expr->Bool):Stmt->Bool
 |.Expr v _=>f v
 |_=>false
noncomputable def GD(f:Str->Pos->Expr->Bool):Stmt->Bool:=Em fun ts v=>o1 (XR fun x p=>f x p v) ts
noncomputable def GF(f:List Expr->Expr->Bool):Stmt->Bool:=Em fun ts v=>o1 (Eh fun es=>f es v) ts
noncomputable def M3(f:List Expr->List Expr->Bool):Stmt->Bool:=Em fun ts v=>o1 (Eh fun es=>Eh (fun vs=>f es vs) v) ts
noncomputable def M4(f:Expr->Expr->Expr->Bool):Stmt->Bool:=Em fun ts v=>o1 (Ei fun o k=>f o k v) ts
noncomputable def Vg(f:Expr->Str->Pos->Pos->Expr->Bool):Stmt->Bool:=K0 (tZ fun g es k c=>k&&o1 (fun v=>Eg (fun o m a=>f o m a c v) g) es)
noncomputable def QL(n:Bool)(f:Expr->Bool):Stmt->Bool
 |.Return (some v) _=>f v
 |.Return none _=>n
 |_=>false
noncomputable def Vh(f:Expr->List Stmt->List Stmt->Bool):Stmt->Bool
 |.If c a b _=>f c a b
 |_=>false
noncomputable def Vi(f:Expr->List Stmt->Bool):Stmt->Bool:=Zt fun c a b=>b.isEmpty&&f c a
noncomputable def Vj(f:Expr->Expr->List Stmt->Bool):Stmt->Bool:=Zu fun t i a b=>b.isEmpty&&f t i a
noncomputable def XW:Stmt->Bool
 |.Break _=>true
 |_=>false
noncomputable def GG(f:Str->Expr->Bool):Stmt->Bool:=Zv (tZ fun g es k _=>k&&o1 (fun e=>xY (fun x=>f x e) g) es)
noncomputable def QM(f:Stmt->Bool)(g:List Stmt->Bool):List Stmt->Bool
 |e::es=>f e&&g es
 |[]=>false
mutual
noncomputable def En:Md->Md->Bool
 |.s,m=>KJ m
 |.f,m=>SH m
 |.t a,m=>match m with
  |.t b=>Ax a b
  |_=>false
 |.o fs a,m=>match m with
  |.o gs b=>decide (fs=gs)&&Ax a b
  |_=>false
 |.io a,m=>match m with
  |.io b=>En a b
  |_=>false
noncomputable def Ax:List Md->List Md->Bool
 |[],l=>l.isEmpty
 |a::as,l=>match l with
  |b::bs=>En a b&&Ax as bs
  |[]=>false
end
mutual
theorem vp:∀{a b:Md},En a b=true->a=b
 |.s,m,h=>by rw[En]at h;cases m<;>first|rfl|exact ff h
 |.f,m,h=>by rw[En]at h;cases m<;>first|rfl|exact ff h
 |.t a,m,h=>by
  cases m with
  |t b=>
   simp only[En]at h
   rw[vt h]
  |_=>simp[En]at h
 |.o fs a,m,h=>by
  cases m with
  |o gs b=>
   simp only[En,AN]at h
   rw[Bz h.1,vt h.2]
  |_=>simp[En]at h
 |.io a,m,h=>by
  cases m with
  |io b=>
   simp only[En]at h
   rw[vp h]
  |_=>simp[En]at h
theorem vt:∀{a b:List Md},Ax a b=true->a=b
 |[],l,h=>by
  cases l with
  |nil=>rfl
  |cons b bs=>simp[Ax]at h
 |a::as,l,h=>by
  cases l with
  |nil=>simp[Ax]at h
  |cons b bs=>
   simp only[Ax,AN]at h
   rw[vp h.1,vt h.2]
end
noncomputable def hasB(M:Ms)(i:Nat)(m:Md):Bool:=match M.lookup i with
 |some k=>En k m
 |none=>false
theorem jS{M:Ms}{i:Nat}{m:Md}(h:hasB M i m=true):(i,m)∈M:=by
 unfold hasB at h
 cases e:M.lookup i with
 |none=>rw[e]at h;exact ff h
 |some k=>
  rw[e]at h
  rw[←vp h]
  exact jv e
noncomputable def M5(f:Expr->Str->List Expr->Bool):Expr->Bool:=tZ fun g es k c=>k&&Eg (fun o m a=>(a.endLine==c.line)&&decide (es.length<30)&&f o m es) g
mutual
noncomputable def l6(S:SE):CE->Expr->Bool
 |.pop i,e=>Ao (fun o m ap cp=>decide (m=("pop":Str))&&(ap.endLine==cp.line)&&Ef S.M i&&lY S i o) e
 |.Jb i g f as,e=>M5 (fun o x es=>S.fn[f]?==some x&&S.mt.any (fun y=>y.1==f&&y.2==g)&&(match bu S.md f with
  |.io (.o fs ms)=>hasB S.M i (.o fs ms)&&!fs.contains x
  |_=>false)&&lY S i o&&t9 S as es) e
 |.bin op a b,e=>Gv (fun o l r=>decide (op=o)&&l6 S a l&&l6 S b r) e
 |.cmp op a b,e=>Gw (fun o l r=>decide (op=o)&&!decide (op=.In)&&!decide (op=.NotIn)&&l6 S a l&&l6 S b r) e
 |.call f as,e=>jw (fun x es=>S.fn[f]?==some x&&jm S x&&!es.isEmpty&&!nQ (bu S.md f)&&!S.mt.any (·.1==f)&&t9 S as es) e
 |.blt b as,e=>jw (fun x es=>decide (x=U4 b)&&jm S x&&S.zn.contains x&&Zs b es.length&&!decide (b=.BB)&&!decide (b=.list)&&!decide (b=.tuple)&&!decide (b=.int)&&!es.isEmpty&&t9 S as es) e
 |.ix a b,e=>Ei (fun v s=>BO s&&l6 S a v&&l6 S b s) e
 |.and _,_=>false
 |c,e=>aI S false c e
noncomputable def t9(S:SE):List CE->List Expr->Bool
 |[],es=>es.isEmpty
 |a::as,es=>qw (fun e=>l6 S a e) (fun es=>t9 S as es) es
end
noncomputable def Zw:Md->Bool
 |.s=>true
 |_=>false
noncomputable def XX(Ψ:Nat->Md):CE->Md
 |.tup as=>.t (as.map (mo Ψ))
 |.call f _=>Ψ f
 |c=>mo Ψ c
noncomputable def isVar:CE->Option Nat
 |.var i=>some i
 |_=>none
noncomputable def Vk(S:SE)(m:Md)(e:CE)(v:Expr):Bool:=match isVar e with
 |some i=>hasB S.M i m&&lY S i v
 |none=>false
noncomputable def Vl(S:SE)(Ψ:Nat->Md)(m:Md)(e:CE)(v:Expr):Bool:=
 !nQ m&&((Zw m&&aI S.bare false e v)||(En (XX Ψ e) m&&aI S.bare false e v)||Vk S m e v)
noncomputable def QN(S:SE)(m:Md):Bool:=match m with
 |.io k=>hasB S.M 0 k
 |_=>false
noncomputable def M6(f:Expr->Str->Expr->Bool):Stmt->Bool:=Em fun ts v=>o1 (Eg fun o x _=>f o x v) ts
noncomputable def isCall:CE->Bool
 |.call _ _=>true
 |_=>false
noncomputable def QO(S:SE)(i n:Nat)(x:Str):Bool:=match S.M.lookup i with
 |some (.o fs ms)=>fs[n]?==some x&&(match ms[n]? with
  |some k=>KJ k
  |none=>false)
 |_=>false
noncomputable def Zx(S:SE)(ts:List Nat)(one uX:Bool)(fi:Expr->Bool)(fb:List Stmt->Bool)(tg it:Expr)(b:List Stmt):Bool:=
 match U5 tg with
 |some (o,xs)=>(one==o)&&Av S ts xs&&GC S ts&&Aq it&&(!uX||!one)&&fi it&&fb b
 |none=>false
noncomputable def vv:Expr->Bool
 |.SetComp _ _ _ _=>false
 |.DictComp _ _ _ _ _=>false
 |_=>true
mutual
noncomputable def QS(S:SE)(Ψ:Nat->Md)(m:Md):CS->Stmt->Bool
 |.set i e,st=>GD (fun x _ v=>SJ S i x&&(if xV S.M i=true then(!nQ m||!(i==0))&&((Ef S.M i&&je Ψ e)||(isCall e&&hasB S.M i (XX Ψ e)))&&aI (S.less i) false e v else aI S false e v)) st
 |.Gb ts e,st=>GF (fun es v=>(match Ej es with|some xs=>Av S ts xs|none=>false)&&GC S ts&&aI S false e v&&(Aw v||Eh (fun vs=>decide (SK S es vs=some none)) v)) st
 |.par ts es,st=>M3 (fun tg vs=>(match Ej tg with|some xs=>Av S ts xs&&decide (SK S tg vs=some (some xs))&&decide xs.Nodup&&xs.all (fun x=>S.nk.lookup x==some .local)|none=>false)&&GC S ts&&gb S es vs) st
 |.app i e,st=>Vg (fun o mt ap cp v=>decide (mt=("append":Str))&&(ap.endLine==cp.line)&&Ef S.M i&&lY S i o&&aI S false e v) st
 |.put i k e,st=>M4 (fun o j v=>Ef S.M i&&lY S i o&&BO j&&aI S false k j&&aI S false e v) st
 |.drop i,st=>K0 (fun v=>BS v&&vv v&&l6 S (.pop i) v) st
 |.Ag j e,st=>GD (fun x _ v=>SJ S j x&&!xV S.M j&&BS v&&vv v&&l6 S e v) st
 |.ret e,st=>QL (j9 e&&Zw m) (fun v=>Vl S Ψ m e v) st
 |.iff c a b,st=>Vh (fun t x y=>aI S false c t&&Jd c&&aP S Ψ m a x&&aP S Ψ m b y) st
 |.E7 c b,st=>Vi (fun t x=>aI S false c t&&Jd c&&aP S Ψ m b x) st
 |.fr ts one it b,st=>Vj (fun tg i x=>Zx S ts one (Gz it) (fun i=>aI S true it i) (fun x=>aP S Ψ m b x) tg i x) st
 |.brk,st=>XW st
 |.raise g e,st=>GG (fun x v=>S.gn[g]?==some x&&jm S x&&aI S false e v) st
 |.DX i n e,st=>M6 (fun o x v=>QO S i n x&&lY S i o&&aI S false e v) st
 |.Jc e,st=>QL (j9 e&&QN S m) (fun v=>QN S m&&aI S false e v) st
 |.Ux e,st=>K0 (fun v=>BS v&&vv v&&l6 S e v) st
 |.qm,_=>true
 |.Uy ts e,st=>GF (fun es v=>(match Ej es with|some xs=>Av S ts xs|none=>false)&&GC S ts&&aI S false e v&&Aw v) st
noncomputable def aP(S:SE)(Ψ:Nat->Md)(m:Md):List CS->List Stmt->Bool
 |[],es=>es.isEmpty
 |a::as,es=>QM (fun e=>QS S Ψ m a e) (fun es=>aP S Ψ m as es) es
end
structure Ay(S:SE)(Φ:Nat->bT)(Ψ:Nat->Md)(G:Nat->W)(X:Cx):Prop extends XOk S Φ Ψ G X where
 bk:X.env.blockKind=.function
 SM:∀x,X.fn x=true
 M7:∀j x C,S.gn[j]?=some x->G j=.cls C->uT X.K C
 SN:∀i m m',(i,m)∈S.M->(i,m')∈S.M->m=m'
section
variable{S:SE}{Φ:Nat->bT}{Ψ:Nat->Md}{G:Nat->W}{X:Cx}
theorem Ay.nB(h:Ay S Φ Ψ G X):Ay S Φ Ψ G X.nB:={toXOk:=h.toXOk.nB,bk:=h.bk,SM:=h.SM,M7:=h.M7,SN:=h.SN}
theorem XOk.Vm(h:XOk S Φ Ψ G X)(M:Ms):XOk {S with M:=M} Φ Ψ G X:=⟨h.hN,h.nd,h.calm,h.un,h.nk,h.fns,h.Qk,h.Je,h.MX,h.BP,h.kit⟩
theorem vA(h:Ay S Φ Ψ G X){i:Nat}{x:Str}(k:SJ S i x=true):gJ X i x:=by
 unfold SJ at k
 simp only[AN,Bool.or_eq_true,N0]at k
 refine⟨by rw[h.hN];exact k.1,?_,.inl (h.SM x)⟩
 unfold L2.Loc
 rw[h.nk]
 exact k.2
theorem l7(h:Ay S Φ Ψ G X):∀{ts:List Nat} {xs:List Str},Av S ts xs=true->dh X ts xs
 |[],xs,k=>Hk.mp k
 |i::is,[],k=>by cases k
 |i::is,x::r,k=>by
  rw[Av,AN]at k
  exact⟨x,r,rfl,vA h k.1,l7 h k.2⟩
theorem pJ{ts:List Nat}(h:GC S ts=true):∀i∈ts,¬aX S.M i:=fun i hi=>lX (by simpa using KB.mp h i hi)
theorem GH{i:Nat}{m:Md}(hi:(i,m)∈S.M)(hu:∀m',(i,m')∈S.M->m'=m){x:Nat×Md}:x∈S.M↔x=(i,m)\/x∈(S.less i).M:=by
 show _↔_\/x∈S.M.filter (·.1 !=i)
 rw[dC,bne_iff_ne]
 obtain⟨a,b⟩:=x
 constructor
 ·intro h
  by_cases e:a=i
  ·subst e
   rw[hu b h]
   exact .inl rfl
  ·exact .inr ⟨h,e⟩
 ·rintro(e|h)
  ·cases e
   exact hi
  ·exact h.1
theorem GI{i:Nat}:¬aX (S.less i).M i:=by
 rintro⟨m,h⟩
 have h:(i,m)∈S.M.filter (·.1 !=i):=h
 rw[dC,bne_iff_ne]at h
 exact h.2 rfl
noncomputable def BU:Expr->Bool
 |.SetComp _ _ _ _=>false
 |.DictComp _ _ _ _ _=>false
 |_=>true
theorem QT{it:Bool}{c:CE}{e:Expr}(h:aI S it c e=true):BU e=true:=by
 cases e with
 |SetComp _ _ _ _=>
  cases c with
  |own i π=>
   rcases(fO h).2 with⟨_,_,_,e⟩|⟨_,_,_,_,_,e⟩<;>cases e
  |_=>exact ff h
 |DictComp _ _ _ _ _=>
  cases c with
  |own i π=>
   rcases(fO h).2 with⟨_,_,_,e⟩|⟨_,_,_,_,_,e⟩<;>cases e
  |_=>exact ff h
 |_=>rfl
noncomputable def XY(S:SE)(x:Str)(p:Pos):Expr->Bool
 |.ListComp _ _ scope q=>(S.nk.lookup x==some .local)&&(p.line==q.line)&&!(scope.names.any fun(n,k)=>n==x&&(k==.local||k==.cell))
 |_=>false
theorem Vn(h:Ay S Φ Ψ G X){e:Expr}(he:BU e=true)(x:Str)(p:Pos)(l:Nat):swapsWith e (some (.Name x p)) l X.env=pure (XY S x p e):=by
 cases e with
 |ListComp a b scope q=>
  show(pure _:Sem Bool)=pure _
  rw[h.bk]
  show(pure (true&&(X.env.scope.names.lookup x==some .local)&&(p.line==q.line)&&_):Sem Bool)=_
  rw[h.nk,Bool.true_and]
  rfl
 |SetComp _ _ _ _=>exact ff he
 |DictComp _ _ _ _ _=>exact ff he
 |_=>rfl
theorem BV{e:Expr}{es:List Expr}{k:Nat}{p:Pos}(l:Nat)(env:Env):swapsWithSole [.Tuple es k p] e l env=pure false:=by
 cases e<;>rfl
theorem GJ{e o i:Expr}{p:Pos}(l:Nat)(env:Env):swapsWithSole [.Subscript o i p] e l env=pure false:=by
 cases e<;>rfl
theorem BW{e:Expr}(he:Aw e=true)(es:List Expr)(k:Nat)(p:Pos)(env:Env):swappedStores [.Tuple es k p] e env=pure none:=by
 cases e<;>first|rfl|exact ff he
theorem GK{e o i:Expr}{p:Pos}(env:Env):swappedStores [.Subscript o i p] e env=pure none:=by
 cases e<;>rfl
theorem GL(h:Ay S Φ Ψ G X){ts vs:List Expr}{k k2:Nat}{p p2:Pos}{o:Option (List Str)}(e:SK S ts vs=some o):swappedStores [.Tuple ts k p] (.Tuple vs k2 p2) X.env=pure o:=by
 unfold swappedStores
 unfold SK at e
 have hk:∀x,X.env.kindOf x=S.nk.lookup x:=fun x=>h.nk x
 simp only[hk,h.bk,bne_self_eq_false,Tb]
 dsimp only at e
 split at e
 ·rename_i c
  cases e
  exact Bi c
 rename_i c1
 refine(B1 c1).trans ?_
 split at e
 ·rename_i c
  cases e
  exact Bi c
 rename_i c2
 refine(B1 c2).trans ?_
 split at e
 ·rename_i c
  cases e
  exact Bi c
 rename_i c3
 refine(B1 c3).trans ?_
 split at e
 ·rename_i c
  cases e
  exact Bi c
 rename_i c4
 refine(B1 c4).trans ?_
 split at e
 ·cases e
 rename_i c5
 cases e
 exact B1 c5
end
theorem jy{f:List Expr->Expr->Bool}{e:Stmt}(h:Em f e=true):∃ts v q,e=.Assign ts v q/\f ts v=true:=by cases e<;>first|exact⟨_,_,_,rfl,h⟩|exact ff h
theorem K1{f:Expr->List Stmt->List Stmt->Bool}{e:Stmt}(h:Zt f e=true):∃c a b q,e=.While c a b q/\f c a b=true:=by cases e<;>first|exact⟨_,_,_,_,rfl,h⟩|exact ff h
theorem K2{f:Expr->Expr->List Stmt->List Stmt->Bool}{e:Stmt}(h:Zu f e=true):∃t i a b q,e=.For t i a b q/\f t i a b=true:=by cases e<;>first|exact⟨_,_,_,_,_,rfl,h⟩|exact ff h
theorem K3{f:Expr->Bool}{e:Stmt}(h:Zv f e=true):∃x q,e=.Raise (some x) none q/\f x=true:=by
 cases e<;>try exact ff h
 rename_i x y q
 cases x<;>cases y<;>first|exact⟨_,_,rfl,h⟩|exact ff h
theorem qG{f:Expr->Bool}{st:Stmt}(h:K0 f st=true):∃v q,st=.Expr v q/\f v=true:=by cases st<;>first|exact⟨_,_,rfl,h⟩|exact ff h
theorem ua{f:Str->Pos->Expr->Bool}{st:Stmt}(h:GD f st=true):∃x p v q,st=.Assign [.Name x p] v q/\f x p v=true:=by
 obtain⟨ts,v,q,rfl,h1⟩:=jy h
 obtain⟨t,rfl,h2⟩:=fX h1
 obtain⟨x,p,rfl,h3⟩:=BL h2
 exact⟨_,_,_,_,rfl,h3⟩
theorem uc{f:List Expr->Expr->Bool}{st:Stmt}(h:GF f st=true):∃es k p v q,st=.Assign [.Tuple es k p] v q/\f es v=true:=by
 obtain⟨ts,v,q,rfl,h1⟩:=jy h
 obtain⟨t,rfl,h2⟩:=fX h1
 obtain⟨es,k,p,rfl,h3⟩:=fY h2
 exact⟨_,_,_,_,_,rfl,h3⟩
theorem Eo{f:List Expr->List Expr->Bool}{st:Stmt}(h:M3 f st=true):∃es k p vs k' p' q,st=.Assign [.Tuple es k p] (.Tuple vs k' p') q/\f es vs=true:=by
 obtain⟨ts,v,q,rfl,h1⟩:=jy h
 obtain⟨t,rfl,h2⟩:=fX h1
 obtain⟨es,k,p,rfl,h3⟩:=fY h2
 obtain⟨vs,k',p',rfl,h4⟩:=fY h3
 exact⟨_,_,_,_,_,_,_,rfl,h4⟩
theorem Ep{f:Expr->Expr->Expr->Bool}{st:Stmt}(h:M4 f st=true):∃o k p v q,st=.Assign [.Subscript o k p] v q/\f o k v=true:=by
 obtain⟨ts,v,q,rfl,h1⟩:=jy h
 obtain⟨t,rfl,h2⟩:=fX h1
 obtain⟨o,k,p,rfl,h3⟩:=fZ h2
 exact⟨_,_,_,_,_,rfl,h3⟩
theorem GN{f:Expr->Str->Pos->Pos->Expr->Bool}{st:Stmt}(h:Vg f st=true):∃o m ap v cp q,st=.Expr (.Call (.Attribute o m ap) [v] [] cp) q/\f o m ap cp v=true:=by
 obtain⟨v,q,rfl,h1⟩:=qG h
 obtain⟨g,es,ks,p,rfl,h2⟩:=iC h1
 obtain⟨k,h3⟩:=a2 h2
 obtain⟨e,rfl,h4⟩:=fX h3
 obtain⟨o,m,a,rfl,h5⟩:=iD h4
 rw[Hk.mp k]
 exact⟨_,_,_,_,_,_,rfl,h5⟩
theorem yd{n:Bool}{f:Expr->Bool}{st:Stmt}(h:QL n f st=true):(∃v q,st=.Return (some v) q/\f v=true)\/∃q,st=.Return none q/\n=true:=by
 cases st<;>try exact ff h
 rename_i v q
 cases v
 ·exact .inr ⟨_,rfl,h⟩
 ·exact .inl ⟨_,_,rfl,h⟩
theorem GO{f:Expr->List Stmt->List Stmt->Bool}{st:Stmt}(h:Vh f st=true):∃c a b q,st=.If c a b q/\f c a b=true:=by
 cases st<;>try exact ff h
 exact⟨_,_,_,_,rfl,h⟩
theorem GP{f:Expr->List Stmt->Bool}{st:Stmt}(h:Vi f st=true):∃c a q,st=.While c a [] q/\f c a=true:=by
 obtain⟨c,a,b,q,rfl,h1⟩:=K1 h
 obtain⟨k,h2⟩:=a2 h1
 rw[Hk.mp k]
 exact⟨_,_,_,rfl,h2⟩
theorem GQ{f:Expr->Expr->List Stmt->Bool}{st:Stmt}(h:Vj f st=true):∃tg it a q,st=.For tg it a [] q/\f tg it a=true:=by
 obtain⟨t,i,a,b,q,rfl,h1⟩:=K2 h
 obtain⟨k,h2⟩:=a2 h1
 rw[Hk.mp k]
 exact⟨_,_,_,_,rfl,h2⟩
theorem Az{f:Str->Expr->Bool}{st:Stmt}(h:GG f st=true):∃x np e cp q,st=.Raise (some (.Call (.Name x np) [e] [] cp)) none q/\f x e=true:=by
 obtain⟨x,q,rfl,h1⟩:=K3 h
 obtain⟨g,es,ks,p,rfl,h2⟩:=iC h1
 obtain⟨k,h3⟩:=a2 h2
 obtain⟨e,rfl,h4⟩:=fX h3
 obtain⟨y,np,rfl,h5⟩:=ee h4
 rw[Hk.mp k]
 exact⟨_,_,_,_,_,rfl,h5⟩
section
variable{X:Cx}{M:Ms}{m:Md}{st:Stmt}{i j k:Nat}{e:Expr}{te:(Addr->Prop)->WT}{M':Ms}{m0:Md}
theorem K4{x y z:Str}{a b c:Expr}{ta:TA}{px py pz pt pos:Pos}{kt k2 Sv}(hc:X.calm=true)(hN:X.N.Nodup)(hi:X.N[i]?=some x)(hj:X.N[j]?=some y)(hk:X.N[k]?=some z)(hij:i≠j)(hik:i≠k)(hjk:j≠k)
 (hx:X.env.scope.names.lookup x=some .local) (hy:X.env.scope.names.lookup y=some .local) (hz:X.env.scope.names.lookup z=some .local) (ha:PA X [a,b,c] ta)
 (hw:swappedStores [.Tuple [.Name x px,.Name y py,.Name z pz] kt pt] (.Tuple [a,b,c] k2 Sv) X.env=pure (some [x,y,z])):
 PS X (.Assign [.Tuple [.Name x px,.Name y py,.Name z pz] kt pt] (.Tuple [a,b,c] k2 Sv) pos) (fun D σ H=>ta σ H fun vs H1=>∃v w u,vs=[v,w,u]/\D.nx (((σ.set i (some v)).set j (some w)).set k (some u)) H1):=by
 intro pins s σ H D I h
 rw[exec_Assign_arm]
 refine FM (wpAny_standAt ?_)
 refine FM (Kt ?_)
 rw[B1 (by decide)]
 refine FM (Tuple_ (bE (ha _ pins s σ H _ I h) fun us s1 ⟨vs,H1,I1,r1,q1⟩=>?_))
 obtain⟨v,w,u,e1,q1⟩:=q1
 subst e1
 obtain⟨u1,u2,u3,rfl,rv,rw',ru⟩:∃u1 u2 u3,us=[u1,u2,u3]/\RelV v u1/\RelV w u2/\RelV u u3:=by
  cases r1 with
  |cons p q=>
   cases q with
   |cons p' q'=>
    cases q' with
    |cons p'' q''=>
     cases q''
     exact⟨_,_,_,rfl,p,p',p''⟩
 refine wpAny_newObj_type ?_ (by show 3<=sizeLine;decide)
 have I2:Inv X pins σ H1 {s1 with heap:=s1.heap.push {cls:=.type "tuple",data:=.seq [u1,u2,u3].toArray}}:=I1.kept (t':=s1.toks) fun b o e=>DL _ e
 rw[hw]
 refine FM (Kt ?_)
 show wpAny (model X.prog X.w) X.A (do rule "assign.swapped-stores";let items←unpackItems (.ref s1.heap.objs.size) 3 none;assignInOrder [fun v=>bindName X.env z v,fun v=>bindName X.env y v,fun v=>bindName X.env x v] items.reverse;pure Flow.next) _ _ _
 refine FM (wpAny_rule (FM (unpackItems_tuple (items:= #[u1,u2,u3]) (I.ok.hd hc) (IsTup.new s1.heap _) fun h' hx'=>?_)))
 have I3:=I2.kept (h':=h') (t':=s1.toks) fun b o e=>hx' b o (Jn (FR e)) e
 show wpAny _ _ (assignInOrder [fun v=>bindName X.env z v,fun v=>bindName X.env y v,fun v=>bindName X.env x v] [u3,u2,u1]>>=fun _=>pure Flow.next) _ _ _
 refine FM (assignInOrder_cons (wpAny_bindName (eN I3 hN hk (.inl hz) ru (fun s2 I4=>?_) (.inr hz))))
 refine assignInOrder_cons (wpAny_bindName (eN I4 hN hj (.inl hy) rw' (fun s3 I5=>?_) (.inr hy)))
 refine assignInOrder_cons (wpAny_bindName (eN I5 hN hi (.inl hx) rv (fun s4 I6=>assignInOrder_nil (Kt ?_)) (.inr hx)))
 have e6:((σ.set k (some u)).set j (some w)).set i (some v)=((σ.set i (some v)).set j (some w)).set k (some u):=by
  rw[List.set_comm _ _ (Qb hjk),List.set_comm _ _ (Qb hik),List.set_comm _ _ (Qb hij)]
 rw[e6]at I6
 exact⟨_,H1,I6,q1⟩
theorem K5(hps:∀R,PS X st (pZ (tV X M R (O3 X.K .s) (te R)) (iu i)))(hi:¬aX M i):VS X M m st (fun d ε=>te d.ex ε fun w=>d.nx (ε.set i (some w))):=by
 rintro pins s σ H D I ⟨A,H0,ε,d,S,er,hz,h,k⟩
 refine hps d.ex pins s σ H D I ⟨A,H0,ε,_,S,er,h,fun w v H1 hw s1 r=>?_⟩
 exact k.nx A _ _ H1 rfl rfl hw ((S.same s1).set hi r.bG)
theorem GR(hps:∀R,PS X st (pZ (tV X M' R (O3 X.K m0) (te R)) (iu i)))(hM:∀x,x∈M↔x=(i,m0)\/x∈M')(hi:¬aX M' i)(hio:nQ m=true->i≠0):VS X M m st (fun d ε=>te d.ex ε fun w=>d.nx (ε.set i (some w))):=by
 rintro pins s σ H D I ⟨A,H0,ε,d,S,er,hz,h,k⟩
 have h0:∀v,A.s0=some v->A.s0=some v/\aX M' 0:=fun v e=>by
  refine⟨e,?_⟩
  have ho:nQ m=true:=by rw[←hz,e];rfl
  obtain⟨m1,h1⟩:=(S.sl v e).2
  rcases(hM _).mp h1 with z|z
  ·cases z
   exact(hio ho rfl).elim
  ·exact⟨m1,z⟩
 obtain⟨A1,ea,eb,hb,S'⟩:=S.sub (M':=M') (fun x hx=>(hM x).mpr (.inr hx)) A.s0 h0
 refine hps d.ex pins s σ H D I ⟨A1,H0,ε,_,S',er,h,fun w v H1 hw s1 r=>?_⟩
 obtain⟨A2,ea2,eb2,_,S2⟩:=S'.own hM hi s1 r
 exact k.nx A2 _ _ H1 (ea2.trans ea) (eb2.trans eb) hw S2
theorem K6{pos:Pos}:VS X M .s (.Return none pos) (fun d ε=>d.rt .aU):=by
 rintro pins s σ H D I ⟨A,H0,ε,d,S,er,hz,h,k⟩
 exact Bo pins s σ H D I (k.rt _ _ H h S.sm (.of rfl (.of (by rw[Rep]))))
theorem GS{x:Str}{C:Addr}{np cpos pos:Pos}(hc:X.calm=true)(hg:Gl X x)(hm:X.mg x=some (.ref C))(q:uT X.K C)(he:∀R,VE X M R .s e (te R))(hs:starEach [e] X.env=[(false,eval e X.env)])(hd:(x==("__debug__":Str))=false):
 VS X M m (.Raise (some (.Call (.Name x np) [e] [] cpos)) none pos) (fun d ε=>te d.ex ε fun _=>d.ex C):=by
 rintro pins s σ H D I ⟨A,H0,ε,d,S,⟨E,pE,hE,hR⟩,hz,h,k⟩
 exact FY hR hc hg hm q (au (he d.ex) aZ hs) hs hd pins s σ H D I ⟨A,H0,ε,_,S,⟨E,pE,hE,hR⟩,h,fun w v H1 hw s1 r=>⟨by show 1<=sizeLine;decide,hw,S.sm.trans s1⟩⟩
end
theorem Er{f:Expr->Str->List Expr->Bool}{e:Expr}(h:M5 f e=true):∃o m a es c,e=.Call (.Attribute o m a) es [] c/\f o m es=true/\(a.endLine==c.line)=true/\es.length<30:=by
 obtain⟨g,es,ks,p,rfl,h1⟩:=iC h
 obtain⟨k,h2⟩:=a2 h1
 obtain⟨o,m,a,rfl,h3⟩:=iD h2
 rw[Hk.mp k]
 have h4:=a3 h3
 exact⟨_,_,_,_,_,rfl,h4.2,h4.1.1,Bz h4.1.2⟩
theorem ud{y x:Str}{py apos pos:Pos}{es:List Expr}{env:Env}(hst:(backTo pos (starEach es env)).any (·.1)=false)(hlen:es.length<30)(hline:(apos.endLine==pos.line)=true):
 eval (.Call (.Attribute (.Name y py) x apos) es [] pos) env=(do
  let ov←eval (.Name y py) env
  standAt apos.atName
  let(f,first)←holding [ov] (getMethod ov x (do return (←importBound (.Name y py) env).getD true))
  callWith pos f first (backTo pos (starEach es env)) (backToKw pos (keywordEach [] env))):=by
 have Vo:methodCallForm (es.length+([]:List Keyword).length) (backTo pos (starEach es env)) (backToKw pos (keywordEach [] env))=true:=by
  unfold methodCallForm
  have e1:(backTo pos (starEach es env)).all (fun x=>!x.1)=true:=by
   rw[KB]
   intro z hz
   rw[List.any_eq_false]at hst
   simpa using hst z hz
  rw[e1]
  show(true&&true&&decide (es.length+0+0<30))=true
  simpa using hlen
 have hpos:methodCallPos true (.Name y py) env apos pos=pure pos:=by unfold methodCallPos;simp[hline]
 rw[arm_eval_Call,show attributeBase (.Name y py) x env (eval (.Name y py) env)=eval (.Name y py) env from rfl]
 unfold methodCall
 rw[Vo,hpos]
 rfl
theorem Es{f:Expr->Str->Expr->Bool}{st:Stmt}(h:M6 f st=true):∃o x p v q,st=.Assign [.Attribute o x p] v q/\f o x v=true:=by
 obtain⟨ts,v,q,rfl,h1⟩:=jy h
 obtain⟨t,rfl,h2⟩:=fX h1
 obtain⟨o,x,p,rfl,h3⟩:=iD h2
 exact⟨_,_,_,_,_,rfl,h3⟩
noncomputable def GU(X:Cx)(M:Ms)(R:Addr->Prop)(ms:List Md)(t:Ev->(List W->Prop)->Prop):TA:=fun σ H Q=>∃A H0 ε P,SR X.K M A H0 σ H ε/\ER X H0 R/\t ε P/\∀ws vs H' F,P ws->ay H H'->F.Nodup->(∀p∈F,H p=none)->dY X.K (fun q=>A.B q\/q∈F) H' ms ws vs F->Q vs H'
section
variable{X:Cx}{M:Ms}{R:Addr->Prop}{a:Expr}{es:List Expr}{ta:WT}{m:Md}{ms:List Md}{pos:Pos}
theorem K7:PA X [] (GU X M R [] fun _ Q=>Q []):=PA.imp aZ<|by rintro σ H Q ⟨A,H0,ε,P,S,er,h,k⟩;exact k [] [] H [] h (ay.refl H) List.nodup_nil (by simp) (by rw[dY];exact⟨rfl,rfl,rfl⟩)
theorem GV{tr:Ev->(List W->Prop)->Prop}(hs:starEach (a::es) X.env=(false,eval a X.env)::starEach es X.env)(ha:VE X M R m a ta)(hr:PA X es (GU X M R ms tr)):PA X (a::es) (GU X M R (m::ms) fun ε Q=>ta ε fun x=>tr ε fun xs=>Q (x::xs)):=
 PA.imp (au ha hr hs)<|by
  rintro σ H Q ⟨A,H0,ε,P,S,er,h,k⟩
  refine⟨A,H0,ε,_,S,er,h,fun x vx H1 hx s1 rx=>?_⟩
  obtain⟨G,nd,nw,fp⟩:=rx
  have hex:∀q∈G,∃o,H1 q=some o:=fun q hq=>let⟨o,e,_⟩:=Fp.mu m fp q hq;⟨o,e⟩
  refine⟨_,H0,ε,_,S.more s1 nw hex,er,hx,fun xs vs H2 F hxs s2 nd2 XZ XN=>?_⟩
  refine k _ _ H2 (G++F) hxs (s1.trans s2) ?_ (fun p hp=>?_) ?_
  ·refine List.nodup_append.mpr ⟨nd,nd2,fun p hp q hq e=>?_⟩
   subst e
   obtain⟨o,e⟩:=hex p hp
   rw[XZ p hq]at e
   cases e
  ·rcases GM.mp hp with hp|hp
   ·exact nw p hp
   ·exact s1.free (XZ p hp)
  ·rw[dY]
   refine⟨x,xs,vx,vs,G,F,rfl,rfl,rfl,Fp.mv s2 (fun p o e z=>?_) m fp,dY.mv (ay.refl _) (fun p o e z=>?_) ms XN⟩
   ·rcases z with z|z
    ·exact .inl z
    ·rcases GM.mp z with z|z
     ·exact .inr z
     ·rw[XZ p z]at e
      cases e
   ·rcases z with z|z
    ·exact .inl (.inl z)
    ·rcases GM.mp z with z|z
     ·exact .inl (.inr z)
     ·exact .inr z
theorem K8{ts:Ev->(List W->Prop)->Prop}{x1:Nat}(h:PA X es (GU X M R ms ts)):VE X M R (.t ms) (.Tuple es x1 pos) (fun ε Q=>ts ε fun ws=>ws.length<=sizeLine/\Q (.tup ws)):=PE.imp (FE h)<|by
 rintro σ H Q ⟨A,H0,ε,P,S,er,h,k⟩
 refine⟨A,H0,ε,_,S,er,h,fun ws vs H1 F hx s1 nd nw fp=>?_⟩
 have hl:∀(ms:List Md) {ws:List W} {vs:List V} {F:List Addr} {B:Addr->Prop},dY X.K B H1 ms ws vs F->vs.length=ws.length:=fun ms=>by
  induction ms with
  |nil=>
   intro ws vs F B h
   rw[dY]at h
   rw[h.1,h.2.1]
   rfl
  |cons m ms ih=>
   intro ws vs F B h
   rw[dY]at h
   obtain⟨w,oA,v,vs',F1,F2,rfl,rfl,_,_,h2⟩:=h
   rw[List.length_cons,List.length_cons,ih h2]
 refine⟨by rw[hl ms fp];exact hx.1,fun p hp=>?_⟩
 have sn:=aL hp (.tup vs)
 refine k _ _ _ hx.2 (s1.trans sn) ⟨F,nd,nw,?_⟩
 rw[Fp]
 exact⟨ws,p,vs,rfl,rfl,aD,dY.mv sn (fun _ _ _ z=>z) ms fp⟩
end
noncomputable def iF(Φ:Nat->bT)(Ψ:Nat->Md)(G:Nat->W)(s:CS):Prop:=∀{S:SE} {X:Cx} {m:Md},Ay S Φ Ψ G X->∀st,QS S Ψ m s st=true->VS X S.M m st (wS Φ G s)
noncomputable def oG(Φ:Nat->bT)(Ψ:Nat->Md)(G:Nat->W)(s:List CS):Prop:=∀{S:SE} {X:Cx} {m:Md},Ay S Φ Ψ G X->∀st,aP S Ψ m s st=true->Kv X S.M m st (wSs Φ G s)
section
variable{Φ:Nat->bT}{Ψ:Nat->Md}{G:Nat->W}
theorem Ay.Vm{S:SE}{X:Cx}(h:Ay S Φ Ψ G X)(M:Ms)(un:∀i m m',(i,m)∈M->(i,m')∈M->m=m'):Ay {S with M:=M} Φ Ψ G X:={toXOk:=h.toXOk.Vm M,bk:=h.bk,SM:=h.SM,M7:=h.M7,SN:=un}
theorem GW{S:SE}{X:Cx}(hX:XOk S Φ Ψ G X){f:Nat}{as:List CE}{v:Expr}(k:aI S false (.call f as) v=true)(R:Addr->Prop):VE X S.M R (Ψ f) v (wE Φ G R (.call f as))/\∃g es p,v=.Call g es [] p:=by
 obtain⟨x,q,es,p,rfl,kk⟩:=aM k
 simp only[AN]at kk
 obtain⟨⟨⟨⟨⟨k1,k2⟩,k3⟩,k5⟩,k6⟩,k4⟩:=kk
 obtain⟨g1,g2,g3⟩:=bH hX k2
 obtain⟨fv,n,kl,hm,F,hr,hn⟩:=hX.fns f x (N0.mp k1) (by simpa using k6)
 have F:c7 X.prog X.w X.K X.mg X.base kl fv n (MT X.K n (Ψ f) (Φ f)):=by
  rw[←hX.Je]at k5
  cases hp:Ψ f<;>rw[hp]at k5 F<;>first|exact F|exact ff k5
 have st:=jQ k4
 cases es with
 |nil=>exact ff k3
 |cons e es=>
  rw[List.all_cons,AN]at st
  refine⟨?_,_,_,_,rfl⟩
  exact BH (M:=S.M) (R:=R) (p:=q) (pos:=p) F hr g1 hm hn ((nT Φ Ψ G as).1.a hX _ k4 R) g2 (aF st.1 _ _) (bX st.2 _ _)
theorem GX{S:SE}{X:Cx}(hX:XOk S Φ Ψ G X):∀(as:List CE) (es:List Expr),gb S as es=true->∀R,PA X es (GU X S.M R (as.map (mo Ψ)) (wA Φ G R as))
 |[],es,k,R=>by
  rw[Hk.mp k]
  exact K7
 |a::as,[],k,R=>by cases k
 |a::as,e::es,k,R=>by
  have k:=a2 k
  exact GV (aF (aY (.inl k.1)) _ _) ((snd Φ Ψ G a).e hX e k.1 R) (GX hX as es k.2 R)
theorem QU{S:SE}{X:Cx}(hX:XOk S Φ Ψ G X){e:CE}{v:Expr}(k:aI S false e v=true)(R:Addr->Prop):VE X S.M R (XX Ψ e) v (wE Φ G R e):=by
 cases e with
 |tup as=>
  obtain⟨es,kd,p,rfl,k⟩:=fY k
  exact K8 (GX hX as es k R)
 |call f as=>exact(GW hX k R).1
 |_=>exact(snd Φ Ψ G _).e hX v k R
theorem AA{e:CE}(h:isCall e=true):∃f as,e=.call f as:=by cases e<;>first|exact⟨_,_,rfl⟩|exact ff h
theorem ue{e:CE}(h:j9 e=true):e=.aU:=by cases e<;>first|rfl|exact ff h
theorem Et{e:CE}{i:Nat}(h:isVar e=some i):e=.var i:=by cases e<;>first|(cases h;rfl)|exact nn h
theorem K9{S:SE}{x:Str}{p:Pos}{v:Expr}(h:XY S x p v=true):∃a b c d,v=.ListComp a b c d:=by cases v<;>first|exact⟨_,_,_,_,rfl⟩|exact ff h
theorem QV{S:SE}{e:CE}{a:Expr}{b:List Comprehension}{c:Scope}{d:Pos}(k:aI S false e (.ListComp a b c d)=true):∃ts one n i c x,e=.comp ts one n i c x:=by
 cases e with
 |comp ts one n i c x=>exact⟨_,_,_,_,_,_,rfl⟩
 |own i π=>rcases(fO k).2 with⟨_,_,_,e⟩|⟨_,_,_,_,_,e⟩<;>cases e
 |_=>exact ff k
theorem BX{S:SE}{X:Cx}(hX:Ay S Φ Ψ G X){i:Nat}{x:Str}{p q:Pos}{e:CE}{v:Expr}(hn:SJ S i x=true)(k:aI S false e v=true)(R:Addr->Prop):
 PS X (.Assign [.Name x p] v q) (pZ (tV X S.M R (O3 X.K (mo Ψ e)) (wE Φ G R e)) (iu i)):=by
 have n:=vA hX hn
 have hsw:=Vn hX (QT k) x p q.line
 cases hb:XY S x p v with
 |false=>
  rw[hb]at hsw
  exact kM hX.nd n.1 n.2.1 ((snd Φ Ψ G e).e hX.toXOk v k R) hsw n.2.2
 |true=>
  rw[hb]at hsw
  obtain⟨elt,gs,scope,pp,rfl⟩:=K9 hb
  obtain⟨ts,one,n',it,c,y,rfl⟩:=QV k
  obtain⟨elt',tg,iter,ifs,scope',p',xs,e1,rfl,hlt,ho,hfs,Uo,hr⟩:=qF (snd Φ Ψ G it) (snd Φ Ψ G c) (snd Φ Ψ G y) hX.toXOk k R
  cases e1
  rw[jx rfl,BR]
  intro pins s σ H D I hw
  obtain⟨q1,q2,q3⟩:=hr pins s σ H I
  exact JT xs (mask xs S.N) hX.nd n.1 n.2.1 hX.calm ho Uo q1 q2 q3 hsw hfs n.2.2 pins s σ H D I (xU hlt σ H _ hw)
theorem QW(i:Nat)(e:CE):iF Φ Ψ G (.set i e):=by
 intro S X m hX st k
 obtain⟨x,p,v,q,rfl,kk⟩:=ua k
 rw[AN]at kk
 by_cases hM:xV S.M i=true
 ·rw[Bi hM]at kk
  simp only[AN]at kk
  obtain⟨k0,⟨k1,k2⟩,k3⟩:=kk
  have hio:nQ m=true->i≠0:=fun z e=>by
   rw[z,e]at k1
   cases k1
  have go:∀{m0:Md},(i,m0)∈S.M->(∀R,PS X (.Assign [.Name x p] v q) (pZ (tV X (S.less i).M R (O3 X.K m0) (wE Φ G R e)) (iu i)))->VS X S.M m (.Assign [.Name x p] v q) (fun D ε=>wE Φ G D.ex e ε fun w=>D.nx (ε.set i (some w))):=fun{m0} hm hp=>
   GR (M':=(S.less i).M) (te:=fun R=>wE Φ G R e) hp (fun j=>GH hm (fun m' h'=>hX.SN i _ _ h' hm)) GI hio
  have hL:Ay (S.less i) Φ Ψ G X:=hX.Vm (S.less i).M fun a b c h1 h2=>hX.SN a b c (dC.mp h1).1 (dC.mp h2).1
  rcases iE k2 with k2|k2
  ·rw[AN]at k2
   refine go (pG k2.1) fun R=>?_
   have:=BX hL (p:=p) (q:=q) k0 k3 R
   rw[jx k2.2]at this
   exact this
  ·rw[AN]at k2
   refine go (jS k2.2) fun R=>?_
   obtain⟨f,as,rfl⟩:=AA k2.1
   obtain⟨h1,g,es,pp,rfl⟩:=GW hL.toXOk k3 R
   have n:=vA hX k0
   exact kM hX.nd n.1 n.2.1 h1 rfl n.2.2
 ·rw[B1 hM]at kk
  refine K5 (te:=fun R=>wE Φ G R e) (fun R=>?_) (lX (by simpa using hM))
  refine PS.imp (BX hX (p:=p) (q:=q) kk.1 kk.2 R)<|by rintro D σ H ⟨A,H0,ε,P,S,er,p,k⟩;exact⟨A,H0,ε,P,S,er,p,fun w v H' pw s r=>k w v H' pw s (r.s S.dom)⟩
theorem QX(ts:List Nat)(e:CE):iF Φ Ψ G (.Gb ts e):=by
 intro S X m hX st k
 obtain⟨es,kd,p,v,q,rfl,kk⟩:=uc k
 simp only[AN]at kk
 obtain⟨⟨⟨k1,k2⟩,k3⟩,k4⟩:=kk
 split at k1
 rotate_left
 ·cases k1
 rename_i xs hxs
 have hg:PG X (.Tuple es kd p) (gT X.K false ts):=QI hX.calm hX.nd (by rw[U5,hxs];rfl) (l7 hX k1)
 have hst:swappedStores [.Tuple es kd p] v X.env=pure none:=by
  rcases iE k4 with k4|k4
  ·exact BW k4 _ _ _ _
  ·obtain⟨vs,k2,p2,rfl,k5⟩:=fY k4
   exact GL hX (Bz k5)
 exact PB (te:=fun R=>wE Φ G R e) (fun{tv} hv=>zL hv hg (BV _ _) hst rfl) (pJ k2) fun R=>(snd Φ Ψ G e).s hX.toXOk k3 R
theorem qH{X:Cx}{ts:List Nat}{x:Str}{xs:List Str}(h:dh X ts (x::xs)):∃i r,ts=i::r/\gJ X i x/\dh X r xs:=by
 cases ts with
 |nil=>cases h
 |cons i r=>
  obtain⟨_,_,e,h1,h2⟩:=h
  cases e
  exact⟨i,r,rfl,h1,h2⟩
theorem La{X:Cx}{ts:List Nat}(h:dh X ts []):ts=[]:=by
 cases ts with
 |nil=>rfl
 |cons i r=>
  obtain⟨_,_,e,_⟩:=h
  cases e
theorem BY{X:Cx}{ts:List Nat}{x y:Str}(h:dh X ts [x,y]):∃i j,ts=[i,j]/\gJ X i x/\gJ X j y:=by
 obtain⟨i,r,rfl,h1,h2⟩:=qH h
 obtain⟨j,r,rfl,h3,h4⟩:=qH h2
 cases La h4
 exact⟨i,j,rfl,h1,h3⟩
theorem Eu{X:Cx}{ts:List Nat}{x y z:Str}(h:dh X ts [x,y,z]):∃i j k,ts=[i,j,k]/\gJ X i x/\gJ X j y/\gJ X k z:=by
 obtain⟨i,r,rfl,h1,h2⟩:=qH h
 obtain⟨j,k,rfl,h3,h4⟩:=BY h2
 exact⟨i,j,k,rfl,h1,h3,h4⟩
theorem Lb{α:Type}{l:List α}(h:l.length=2):∃a b,l=[a,b]:=by
 rcases l with _|⟨a,_|⟨b,_|_⟩⟩<;>first|exact⟨_,_,rfl⟩|(simp at h;done)
theorem QY{α:Type}{l:List α}(h:l.length=3):∃a b c,l=[a,b,c]:=by
 cases l with
 |nil=>cases h
 |cons a l=>
  obtain⟨b,c,rfl⟩:=Lb (Nat.succ.inj h)
  exact⟨_,_,_,rfl⟩
theorem l9{es:List Expr}{x:Str}{xs:List Str}(h:Ej es=some (x::xs)):∃p r,es=.Name x p::r/\Ej r=some xs:=by
 cases es with
 |nil=>cases h
 |cons e es=>
  cases e with
  |Name a p=>
   obtain⟨l,hl,e⟩:=OK.mp h
   cases e
   exact⟨_,_,rfl,hl⟩
  |_=>exact nn h
theorem BZ{es:List Expr}(h:Ej es=some []):es=[]:=by
 cases es with
 |nil=>rfl
 |cons e es=>
  cases e with
  |Name a p=>
   obtain⟨l,hl,e⟩:=OK.mp h
   cases e
  |_=>exact nn h
theorem B0{es:List Expr}{x y:Str}(h:Ej es=some [x,y]):∃p q,es=[.Name x p,.Name y q]:=by
 obtain⟨p,r,rfl,h1⟩:=l9 h
 obtain⟨q,r,rfl,h2⟩:=l9 h1
 rw[BZ h2]
 exact⟨_,_,rfl⟩
theorem Ew{es:List Expr}{x y z:Str}(h:Ej es=some [x,y,z]):∃p q r,es=[.Name x p,.Name y q,.Name z r]:=by
 obtain⟨p,r,rfl,h1⟩:=l9 h
 obtain⟨q,s,rfl⟩:=B0 h1
 exact⟨_,_,_,rfl⟩
theorem Lc{S:SE}{ts vs:List Expr}{xs:List Str}(h:SK S ts vs=some (some xs)):(ts.length=2\/ts.length=3)/\vs.length=ts.length:=by
 unfold SK at h
 split at h
 ·cases h
 ·rename_i c
  simp only[Bool.or_eq_true,Bool.not_eq_true',bne_iff_ne,not_or,Bool.not_eq_false,N0,ne_eq,Decidable.not_not]at c
  exact c
theorem B3{es:List Expr}{xs:List Str}(h:Ej es=some xs):es.length=xs.length:=by
 induction xs generalizing es with
 |nil=>rw[BZ h];rfl
 |cons x xs ih=>
  obtain⟨p,r,rfl,h1⟩:=l9 h
  rw[List.length_cons,List.length_cons,ih h1]
theorem QZ(ts:List Nat)(es:List CE):iF Φ Ψ G (.par ts es):=by
 intro S X m hX st k
 obtain⟨tg,kd,p,vs,kd',p',q,rfl,kk⟩:=Eo k
 simp only[AN]at kk
 obtain⟨⟨k1,k2⟩,k3⟩:=kk
 split at k1
 rotate_left
 ·cases k1
 rename_i xs hxs
 simp only[AN]at k1
 obtain⟨⟨⟨k1,k4⟩,k5⟩,k6⟩:=k1
 have k4:=Bz k4
 have k5:=Bz k5
 obtain⟨hl,hv⟩:=Lc k4
 have hw:=GL hX (k:=kd) (k2:=kd') (p:=p) (p2:=p') k4
 have hloc:∀x∈xs,X.env.scope.names.lookup x=some .local:=fun x hx=>by
  rw[hX.nk]
  exact N0.mp (KB.mp k6 x hx)
 have hk:=l7 hX k1
 refine PC (ta:=fun R=>wA Φ G R es) (fun{tv} ha=>?_) (pJ k2) fun R=>(nT Φ Ψ G es).1.a hX.toXOk vs k3 R
 have hd:∀{a b:Nat} {x y:Str},x≠y->X.N[a]?=some x->X.N[b]?=some y->a≠b:=fun n h1 h2 e=>by
  rw[e,h2]at h1
  exact n (Kb h1).symm
 rcases hl with hl|hl
 ·obtain⟨x,y,rfl⟩:=Lb ((B3 hxs).symm.trans hl)
  obtain⟨p1,p2,rfl⟩:=B0 hxs
  obtain⟨i,j,rfl,n1,n2⟩:=BY hk
  obtain⟨a,b,rfl⟩:=Lb (hv.trans hl)
  refine PS.imp (N7 hX.calm hX.nd n1.1 n2.1 (hd (by simpa using k5) n1.1 n2.1) (hloc x (by simp)) (hloc y (by simp)) ha hw) fun D σ H h=>?_
  have e:(fun(vs:List V) H1=>vs.length=[i,j].length/\D.nx (cZ σ [i,j] vs) H1)=fun vs H1=>∃v w,vs=[v,w]/\D.nx ((σ.set i (some v)).set j (some w)) H1:=by
   funext vs H1
   refine propext ⟨?_,?_⟩
   ·rintro⟨h1,h2⟩
    obtain⟨v,w,rfl⟩:=Lb h1
    exact⟨v,w,rfl,h2⟩
   ·rintro⟨v,w,rfl,h2⟩
    exact⟨rfl,h2⟩
  rw[e]at h
  exact h
 ·obtain⟨x,y,z,rfl⟩:=QY ((B3 hxs).symm.trans hl)
  obtain⟨p1,p2,p3,rfl⟩:=Ew hxs
  obtain⟨i,j,kk,rfl,n1,n2,n3⟩:=Eu hk
  obtain⟨a,b,c,rfl⟩:=QY (hv.trans hl)
  have k7:(x≠y/\x≠z)/\y≠z:=by
   simp only[SU,Fu,QQ,or_false,not_or]at k5
   exact⟨k5.1,k5.2.1⟩
  refine PS.imp (K4 hX.calm hX.nd n1.1 n2.1 n3.1 (hd k7.1.1 n1.1 n2.1) (hd k7.1.2 n1.1 n3.1) (hd k7.2 n2.1 n3.1) (hloc x (by simp)) (hloc y (by simp)) (hloc z (by simp)) ha hw) fun D σ H h=>?_
  have e:(fun(vs:List V) H1=>vs.length=[i,j,kk].length/\D.nx (cZ σ [i,j,kk] vs) H1)=fun vs H1=>∃v w u,vs=[v,w,u]/\D.nx (((σ.set i (some v)).set j (some w)).set kk (some u)) H1:=by
   funext vs H1
   refine propext ⟨?_,?_⟩
   ·rintro⟨h1,h2⟩
    obtain⟨v,w,u,rfl⟩:=QY h1
    exact⟨v,w,u,rfl,h2⟩
   ·rintro⟨v,w,u,rfl,h2⟩
    exact⟨rfl,h2⟩
  rw[e]at h
  exact h
theorem ye{S:SE}{i:Nat}{o:Expr}(h:lY S i o=true)(nm:Str)(env:Env):attributeBase o nm env (eval o env)=eval o env:=by
 cases o with
 |Name x p=>rfl
 |_=>exact ff h
theorem Q0(i:Nat)(e:CE):iF Φ Ψ G (.app i e):=by
 intro S X m hX st k
 obtain⟨o,mt,ap,v,cp,q,rfl,kk⟩:=GN k
 simp only[AN]at kk
 obtain⟨⟨⟨⟨k1,k2⟩,k3⟩,k4⟩,k5⟩:=kk
 have k1:=Bz k1
 subst k1
 have hs:=aF (aY (.inl k5)) [] X.env
 refine PK (te:=fun R=>wE Φ G R e) (fun{tv} hv=>?_) (pG k3) fun R=>(snd Φ Ψ G e).s hX.toXOk k5 R
 exact uM (Uc PySem.F.plainAttrs_list PySem.F.slot_list_append PySem.F.type_list_append nF (gc hX.toXOk k4) (au hv aZ hs) (ye k4 _ _) (by rw[hs];rfl) k2 hs rfl) rfl
theorem Q2(i:Nat)(kx e:CE):iF Φ Ψ G (.put i kx e):=by
 intro S X m hX st k
 obtain⟨o,j,p,v,q,rfl,kk⟩:=Ep k
 simp only[AN]at kk
 obtain⟨⟨⟨⟨k1,k2⟩,k3⟩,k4⟩,k5⟩:=kk
 have ha:∀u,assign (.Subscript o j p) X.env u=(do
  let ov←holding [u] (eval o X.env)
  let iv←holding [u,ov] (eval j X.env)
  standAt p
  holding [u,ov,iv] (setItem ov iv u)
  release [u,ov,iv] []):=by
  intro u
  cases j with
  |Slice _ _ _ _=>exact ff k3
  |_=>rfl
 refine PL (te:=fun R=>wE Φ G R e) (t1:=fun R=>wE Φ G R kx) (fun{tv tk} hv hk=>?_) (pG k1) (fun R=>(snd Φ Ψ G e).s hX.toXOk k5 R) fun R=>(snd Φ Ψ G kx).s hX.toXOk k4 R
 exact zL (pos:=q) hv (N6 (gc hX.toXOk k2) hk set_list ha) (GJ _ _) (GK _) rfl
theorem Q3{mt:List (Nat×Nat)}{f g:Nat}(h:mt.any (fun y=>y.1==f&&y.2==g)=true):(f,g)∈mt:=by
 obtain⟨⟨a,b⟩,hy,e⟩:=List.any_eq_true.mp h
 rw[AN]at e
 cases N0.mp e.1
 cases N0.mp e.2
 exact hy
theorem GY:∀{S:SE} {c:CE} {e:Expr},l6 S c e=true->noStar e=true:=fun{S c e} h=>by
 cases e with
 |Starred v p=>
  have f:aI S false c (.Starred v p)=true->False:=fun z=>by have:=aY (.inl z);exact ff this
  cases c<;>first|exact ff h;done|exact(f h).elim
 |_=>rfl
theorem nU{S:SE}:∀{as:List CE} {es:List Expr},t9 S as es=true->es.all noStar=true
 |[],es,h=>by
  rw[Hk.mp h]
  rfl
 |a::as,[],h=>by cases h
 |a::as,e::es,h=>by
  have h:=a2 h
  rw[List.all_cons,GY h.1,nU h.2]
  rfl
theorem cM{S:SE}{X:Cx}(hX:XOk S Φ Ψ G X)(R:Addr->Prop){c:CE}{v:Expr}(e1:l6 S c v=aI S false c v)(e2:wP Φ G R c=fun ε Q=>wE Φ G R c ε fun w=>Q w ε)(k:l6 S c v=true):VP X S.M R v (wP Φ G R c):=by
 rw[e1]at k
 rw[e2]
 exact UU ((snd Φ Ψ G c).s hX k R)
mutual
theorem eE{S:SE}{X:Cx}(hX:XOk S Φ Ψ G X)(R:Addr->Prop):∀(e:CE) (v:Expr),l6 S e v=true->VP X S.M R v (wP Φ G R e)
 |.pop i,v,k=>by
  obtain⟨o,mt,ap,cp,rfl,kk⟩:=kX k
  simp only[AN]at kk
  obtain⟨⟨⟨k1,k2⟩,k3⟩,k4⟩:=kk
  have k1:=Bz k1
  subst k1
  exact PV (pG k3) (gc hX k4) (ye k4 _ _) k2
 |.Jb i g f as,v,k=>by
  obtain⟨o,x,ap,es,p,rfl,kk,Zy,Zz⟩:=Er k
  simp only[AN]at kk
  obtain⟨⟨⟨⟨k1,k2⟩,k3⟩,k4⟩,k5⟩:=kk
  obtain⟨fa,fd,ps,n,kl,hG,hb,F,hr,hn⟩:=hX.Qk f g x (N0.mp k1) (Q3 k2)
  rw[←hX.Je]at k3
  cases o with
  |Name y py=>
   cases hp:Ψ f with
   |io m0=>
    rw[hp]at k3 F
    cases m0 with
    |o fs ms=>
     have k3:(hasB S.M i (.o fs ms)&&!fs.contains x)=true:=k3
     rw[AN]at k3
     cases as with
     |nil=>
      have:es=[]:=by
       exact Hk.mp k5
      subst this
      exact KH (G:=G g) hG F hr hb (jS k3.1) (by simpa using k3.2) hn (gc hX k4) (ud (bX (nU k5) _ _) Zz Zy)
     |cons a as=>
      cases es with
      |nil=>exact ff k5
      |cons e es=>
       have Wo:=k5
       have Wo:=a2 Wo
       exact P7 (G:=G g) hG F hr hb (jS k3.1) (by simpa using k3.2) hn (gc hX k4) (mh hX R (a::as) (e::es) k5) (aF (GY Wo.1) _ _) (bX (nU Wo.2) _ _) (ud (bX (nU k5) _ _) Zz Zy)
    |_=>exact ff k3
   |_=>rw[hp]at k3;exact ff k3
  |_=>exact ff k4
 |.bin op a b,v,k=>by
  obtain⟨l,o,r,p,rfl,kk⟩:=nR k
  simp only[AN]at kk
  obtain⟨⟨k1,k2⟩,k3⟩:=kk
  have k1:=Bz k1
  subst k1
  exact PY (eE hX R a l k2) (eE hX R b r k3)
 |.cmp op a b,v,k=>by
  obtain⟨l,o,r,p,rfl,kk⟩:=t6 k
  simp only[AN]at kk
  obtain⟨⟨⟨⟨k1,k4⟩,k5⟩,k2⟩,k3⟩:=kk
  have k1:=Bz k1
  subst k1
  exact PZ hX.un (p8 r (op:=op) (by simpa using k4) (by simpa using k5)) (eE hX R a l k2) (eE hX R b r k3)
 |.call f as,v,k=>by
  obtain⟨x,q,es,p,rfl,kk⟩:=aM k
  simp only[AN]at kk
  obtain⟨⟨⟨⟨⟨k1,k2⟩,k3⟩,k5⟩,k6⟩,k4⟩:=kk
  obtain⟨g1,g2,g3⟩:=bH hX k2
  obtain⟨fv,n,kl,hm,F,hr,hn⟩:=hX.fns f x (N0.mp k1) (by simpa using k6)
  have F:c7 X.prog X.w X.K X.mg X.base kl fv n (MT X.K n (Ψ f) (Φ f)):=by
   rw[←hX.Je]at k5
   cases hp:Ψ f<;>rw[hp]at k5 F<;>first|exact F|exact ff k5
  have st:=nU k4
  cases es with
  |nil=>exact ff k3
  |cons e es=>
   rw[List.all_cons,AN]at st
   exact KD (p:=q) (pos:=p) F hr g1 hm hn (mh hX R as _ k4) g2 (aF st.1 _ _) (bX st.2 _ _)
 |.blt b as,v,k=>by
  obtain⟨x,q,es,p,rfl,kk⟩:=aM k
  simp only[AN]at kk
  obtain⟨⟨⟨⟨⟨⟨⟨⟨⟨k1,k2⟩,k3⟩,k4⟩,k5⟩,k7⟩,k8⟩,M0⟩,k9⟩,k6⟩:=kk
  have k1:=Bz k1
  obtain⟨g1,g2,g3⟩:=bH hX k2
  have hz:=hX.BP x (List.contains_iff_mem.mp k3)
  have st:=nU k6
  cases es with
  |nil=>exact ff k9
  |cons e es=>
   rw[List.all_cons,AN]at st
   rcases yb hX.calm b (by rintro rfl;exact ff k4) (by simpa using k5)with⟨id,hv,hc⟩|⟨id,hv,hc⟩
   ·exact P4 hc g1 hz (by rw[k1];exact hv) (mh hX R as _ k6) g3 g2 (aF st.1 _ _) (bX st.2 _ _)
   ·exfalso
    cases b<;>first|(cases k7;done)|(cases k8;done)|(cases M0;done)|(simp[U4]at hv;done)|cases hv
 |.ix a b,v,k=>by
  obtain⟨l,r,p,rfl,kk⟩:=fZ k
  simp only[AN]at kk
  obtain⟨⟨k1,k2⟩,k3⟩:=kk
  exact UW (vm k1) (eE hX R a l k2) (eE hX R b r k3)
 |.and _,v,k=>by cases k
 |.var i,v,k=>cM hX R rfl rfl k
 |.int i,v,k=>cM hX R rfl rfl k
 |.bl i,v,k=>cM hX R rfl rfl k
 |.str i,v,k=>cM hX R rfl rfl k
 |.aU,v,k=>cM hX R rfl rfl k
 |.E6 n,v,k=>cM hX R rfl rfl k
 |.glob g,v,k=>cM hX R rfl rfl k
 |.neg a,v,k=>cM hX R rfl rfl k
 |.not a,v,k=>cM hX R rfl rfl k
 |.or as,v,k=>cM hX R rfl rfl k
 |.ite c a b,v,k=>cM hX R rfl rfl k
 |.tup as,v,k=>cM hX R rfl rfl k
 |.lst as,v,k=>cM hX R rfl rfl k
 |.sl a b c,v,k=>cM hX R rfl rfl k
 |.bits a,v,k=>cM hX R rfl rfl k
 |.comp ts one n i c x,v,k=>cM hX R rfl rfl k
 |.jn as,v,k=>cM hX R rfl rfl k
 |.uX a,v,k=>cM hX R rfl rfl k
 |.rev a,v,k=>cM hX R rfl rfl k
 |.own i π,v,k=>cM hX R rfl rfl k
 |.OW f a as,v,k=>cM hX R rfl rfl k
theorem mh{S:SE}{X:Cx}(hX:XOk S Φ Ψ G X)(R:Addr->Prop):∀(as:List CE) (es:List Expr),t9 S as es=true->PU X S.M R es (NK Φ G R as)
 |[],es,k=>by
  rw[Hk.mp k]
  exact KA
 |a::as,[],k=>by cases k
 |a::as,e::es,k=>by
  have k:=a2 k
  exact Gu (aF (GY k.1) _ _) (eE hX R a e k.1) (mh hX R as es k.2)
end
theorem vB{v:Expr}(h1:BU v=true)(h2:BS v=true)(t:Option Expr)(l:Nat)(env:Env):swapsWith v t l env=pure false:=by
 cases v with
 |ListComp _ _ _ _=>exact ff h2
 |SetComp _ _ _ _=>exact ff h1
 |DictComp _ _ _ _ _=>exact ff h1
 |_=>rfl
theorem X0{v:Expr}(h:vv v=true):BU v=true:=by cases v<;>first|rfl|exact ff h
theorem Ld(i:Nat):iF Φ Ψ G (.drop i):=by
 intro S X m hX st k
 obtain⟨v,q,rfl,kk⟩:=qG k
 simp only[AN]at kk
 obtain⟨⟨k1,k2⟩,k3⟩:=kk
 exact BJ (tt:=fun R=>wP Φ G R (.pop i)) fun R=>uM (eE hX.toXOk R _ v k3) (vB (X0 k2) k1 _ _ _)
theorem Q4(e:CE):iF Φ Ψ G (.Ux e):=by
 intro S X m hX st k
 obtain⟨v,q,rfl,kk⟩:=qG k
 simp only[AN]at kk
 obtain⟨⟨k1,k2⟩,k3⟩:=kk
 exact BJ (tt:=fun R=>wP Φ G R e) fun R=>uM (eE hX.toXOk R _ v k3) (vB (X0 k2) k1 _ _ _)
theorem Le(j:Nat)(e:CE):iF Φ Ψ G (.Ag j e):=by
 intro S X m hX st k
 obtain⟨x,p,v,q,rfl,kk⟩:=ua k
 simp only[AN]at kk
 obtain⟨⟨⟨⟨k1,k2⟩,k4⟩,k5⟩,k3⟩:=kk
 have n:=vA hX k1
 exact KC (tt:=fun R=>wP Φ G R e) (fun{tv} hv=>kM hX.nd n.1 n.2.1 hv (vB (X0 k5) k4 _ _ _) n.2.2) (lX (by simpa using k2)) fun R=>eE hX.toXOk R _ v k3
theorem Q5(e:CE):iF Φ Ψ G (.ret e):=by
 intro S X m hX st k
 rcases yd k with⟨v,q,rfl,kk⟩|⟨q,rfl,kk⟩
 ·unfold Vl at kk
  rw[AN]at kk
  obtain⟨ho,kk⟩:=kk
  have ho:nQ m=false:=by simpa using ho
  rcases iE kk with kk|k9
  ·rcases iE kk with kk|kk
   ·rw[AN]at kk
    have hm:m=.s:=by cases m<;>first|rfl|exact ff kk.1
    exact Gr (te:=fun R=>wE Φ G R e) (fun R=>(snd Φ Ψ G e).e (hX.toXOk.Vm []) v kk.2 R) (.inr hm) ho
   ·rw[AN]at kk
    exact Gr (te:=fun R=>wE Φ G R e) (fun R=>QU (hX.toXOk.Vm []) kk.2 R) (.inl (vp kk.1)) ho
  ·unfold Vk at k9
   split at k9
   ·rename_i i hv
    obtain rfl:=Et hv
    have k8:=a2 k9
    exact Kz (gc hX.toXOk k8.2) (jS k8.1) ho
   ·exact ff k9
 ·rw[AN]at kk
  obtain rfl:=ue kk.1
  cases m<;>try exact ff kk.2
  exact K6
theorem B4{S:SE}{m:Md}(h:QN S m=true):∃k,m=.io k/\(0,k)∈S.M:=by
 cases m with
 |io k=>exact⟨k,rfl,jS h⟩
 |_=>exact ff h
theorem Q6(e:CE):iF Φ Ψ G (.Jc e):=by
 intro S X m hX st k
 rcases yd k with⟨v,q,rfl,kk⟩|⟨q,rfl,kk⟩
 ·rw[AN]at kk
  obtain⟨m0,rfl,h0⟩:=B4 kk.1
  exact P5 (te:=fun R=>wE Φ G R e) (fun R=>(snd Φ Ψ G e).s hX.toXOk kk.2 R) h0
 ·rw[AN]at kk
  obtain⟨m0,rfl,h0⟩:=B4 kk.2
  obtain rfl:=ue kk.1
  exact P6 h0
theorem Lf{S:SE}{i n:Nat}{x:Str}(h:QO S i n x=true):∃fs ms,(i,.o fs ms)∈S.M/\fs[n]?=some x/\ms[n]?=some .s:=by
 unfold QO at h
 split at h
 ·rename_i fs ms hl
  rw[AN]at h
  obtain⟨h1,h2⟩:=h
  split at h2
  ·rename_i k hk
   have:k=.s:=by cases k<;>first|rfl|exact ff h2
   subst this
   exact⟨fs,ms,jv hl,N0.mp h1,hk⟩
  ·cases h2
 ·cases h
theorem Q7(i n:Nat)(e:CE):iF Φ Ψ G (.DX i n e):=by
 intro S X m hX st k
 obtain⟨o,x,p,v,q,rfl,kk⟩:=Es k
 simp only[AN]at kk
 obtain⟨⟨k1,k2⟩,k4⟩:=kk
 obtain⟨fs,ms,h1,h2,h3⟩:=Lf k1
 exact Qe (te:=fun R=>wE Φ G R e) (fun{tv} hv=>gG (gc hX.toXOk k2) hv (by cases v<;>rfl)) h1 h2 h3 fun R=>(snd Φ Ψ G e).s hX.toXOk k4 R
theorem Q8:iF Φ Ψ G .brk:=by
 intro S X m hX st k
 cases st with
 |Break _=>exact Pz
 |_=>exact ff k
theorem GZ(g:Nat)(e:CE):iF Φ Ψ G (.raise g e):=by
 intro S X m hX st k
 obtain⟨x,np,v,cp,q,rfl,kk⟩:=Az k
 simp only[AN]at kk
 obtain⟨⟨k1,k2⟩,k3⟩:=kk
 have k1:=N0.mp k1
 show VS X S.M m _ (fun D ε=>match G g with|.cls C=>wE Φ G D.ex e ε fun _=>D.ex C|_=>False)
 obtain⟨u,z,hm,hr,hrep⟩:=hX.MX g x k1
 obtain⟨g1,g2,g3⟩:=bH hX.toXOk k2
 by_cases hC:∃C,G g=.cls C
 ·obtain⟨C,hG⟩:=hC
  rw[hG]at hrep⊢
  have hz:=hrep (fun _=>False) (fun _=>none)
  rw[Rep]at hz
  subst hz
  cases hr
  exact GS (te:=fun R=>wE Φ G R e) hX.calm g1 hm (hX.M7 g x C k1 hG) (fun R=>(snd Φ Ψ G e).s hX.toXOk k3 R) (aF (aY (.inl k3)) [] X.env) g2
 ·rintro pins s σ H D I ⟨A,H0,ε,d,S,er,hz,h,_⟩
  cases hG:G g<;>rw[hG]at h<;>first|exact h.elim|exact(hC ⟨_,hG⟩).elim
theorem Vp(c:CE){a b:List CS}(ha:oG Φ Ψ G a)(hb:oG Φ Ψ G b):iF Φ Ψ G (.iff c a b):=by
 intro S X m hX st k
 obtain⟨t,x,y,q,rfl,kk⟩:=GO k
 simp only[AN]at kk
 obtain⟨⟨⟨k1,k2⟩,k3⟩,k4⟩:=kk
 exact UR (tc:=fun R=>wE Φ G R c) (fun R=>(snd Φ Ψ G c).t hX.toXOk t k1 k2 R) (ha hX x k3) (hb hX y k4)
theorem Q9(c:CE){b:List CS}(hb:oG Φ Ψ G b):iF Φ Ψ G (.E7 c b):=by
 intro S X m hX st k
 obtain⟨t,x,q,rfl,kk⟩:=GP k
 simp only[AN]at kk
 obtain⟨⟨k1,k2⟩,k3⟩:=kk
 exact PM ((snd Φ Ψ G c).t hX.nB.toXOk t k1 k2 _) (hb hX.nB x k3)
theorem Ra(ts:List Nat)(one:Bool)(it:CE){b:List CS}(hb:oG Φ Ψ G b):iF Φ Ψ G (.fr ts one it b):=by
 intro S X m hX st k
 obtain⟨tg,i,x,q,rfl,kk⟩:=GQ k
 unfold Zx at kk
 split at kk
 rotate_left
 ·cases kk
 rename_i o xs QJ
 simp only[AN]at kk
 obtain⟨⟨⟨⟨⟨⟨k1,k2⟩,k3⟩,k4⟩,k5⟩,k6⟩,k7⟩:=kk
 have k1:=N0.mp k1
 subst k1
 refine PN (ti:=fun R=>wE Φ G R it) hX.calm (pJ k3) ((snd Φ Ψ G it).i hX.nB.toXOk tg false i (by rw[k6];rfl) (fun z=>?_) _) (QI (X:=X.nB) hX.calm hX.nB.nd QJ (l7 hX.nB k2)) (hb hX.nB x k7) (yc k4 _)
 have:one=false:=by
  rw[z]at k5
  simpa using k5
 subst this
 cases tg with
 |Tuple es kk p=>exact⟨_,_,_,rfl⟩
 |Name y p=>cases QJ
 |_=>exact nn QJ
theorem Lg:oG Φ Ψ G []:=by
 intro S X m hX st k
 rw[Hk.mp k]
 exact Kw
theorem G3{s:CS}{ss:List CS}(h:iF Φ Ψ G s)(hs:oG Φ Ψ G ss):oG Φ Ψ G (s::ss):=by
 intro S X m hX st k
 cases st with
 |nil=>exact ff k
 |cons e r=>
  have k:QS S Ψ m s e=true/\aP S Ψ m ss r=true:=a2 k
  cases ss with
  |nil=>
   have:r=[]:=by
    have:=k.2
    exact Hk.mp this
   subst this
   exact Ky (h hX e k.1)
  |cons t ts=>
   have z:=Gq (h hX e k.1) (hs hX r k.2)
   exact z
theorem Rb(ts:List Nat)(e:CE):iF Φ Ψ G (.Uy ts e):=by
 intro S X m hX st k
 obtain⟨es,kd,p,v,q,rfl,kk⟩:=uc k
 simp only[AN]at kk
 obtain⟨⟨⟨k1,k2⟩,k3⟩,k4⟩:=kk
 split at k1
 rotate_left
 ·cases k1
 rename_i xs hxs
 obtain⟨q1,q2,q3⟩:=Au hX.nd es xs ts hxs (l7 hX k1)
 have hg:PG X (.Tuple es kd p) (Qg X.K ts.length (Py ts)):=Qh hX.calm q1 q2 q3
 exact Qi (te:=fun R=>wE Φ G R e) (fun{tv} hv=>zL hv hg (BV _ _) (BW k4 _ _ _ _) rfl) (pJ k2) fun R=>(snd Φ Ψ G e).s hX.toXOk k3 R
theorem Rc:iF Φ Ψ G .qm:=by
 rintro S X m hX st k pins s σ H D I ⟨A,H0,ε,d,S,er,hz,h,kk⟩
 exact False.elim h
variable(Φ Ψ G)
mutual
theorem X3:∀s:CS,iF Φ Ψ G s
 |.set i e=>QW i e
 |.Gb ts e=>QX ts e
 |.par ts es=>QZ ts es
 |.app i e=>Q0 i e
 |.put i k e=>Q2 i k e
 |.drop i=>Ld i
 |.Ag j e=>Le j e
 |.ret e=>Q5 e
 |.iff c a b=>Vp c (qI a) (qI b)
 |.E7 c b=>Q9 c (qI b)
 |.fr ts one it b=>Ra ts one it (qI b)
 |.brk=>Q8
 |.raise g e=>GZ g e
 |.DX i n e=>Q7 i n e
 |.Jc e=>Q6 e
 |.Ux e=>Q4 e
 |.qm=>Rc
 |.Uy ts e=>Rb ts e
theorem qI:∀ss:List CS,oG Φ Ψ G ss
 |[]=>Lg
 |s::ss=>G3 (X3 s) (qI ss)
end
end
structure Tab(P:Program)(w:World)(K:PySem.W.Frag)(mg:Str->Option Value)(base:Heap)(fn gn zn:List Str)(md:List Md)(mt:List (Nat×Nat))(Φ:Nat->bT)(G:Nat->W)(k:Nat):Prop where
 fns:∀(j:Nat) (x:Str),fn[j]?=some x->mt.any (·.1==j)=false->∃fv n k',mg x=some fv/\c7 P w K mg base k' fv n (dU K n (bu md j) (Φ j))/\k'<=k/\∀ws P R,Φ j ws P R->ws.length=n
 Qk:∀(j g:Nat) (x:Str),fn[j]?=some x->(j,g)∈mt->∃f fd ps n k',(∀C,G g=.cls C->Meth K C x f)/\Binds K fd ps []/\aH P w K mg base (cK P w) k' f fd ps (dU K n (bu md j) (Φ j))/\k'<=k/\∀ws P R,Φ j ws P R->ws.length=n
 MX:∀(j:Nat) (x:Str),gn[j]?=some x->∃u v,mg x=some u/\RelV v u/\∀B H,Rep K B H (G j) v
 BP:∀x∈zn,mg x=none
 kit:xQ K
 M7:∀j x C,gn[j]?=some x->G j=.cls C->uT K C
noncomputable def aA(n:Nat)(ws:List W):Ev:=ws.map some++List.replicate (n -ws.length) none
noncomputable def fall:Md->(W->Prop)->Ev->Prop
 |.s,P,_=>P .aU
 |.io _,P,ε=>match look ε 0 with
  |some w0=>P (.tup [.aU,w0])
  |none=>False
 |_,_,_=>False
section
variable{K:PySem.W.Frag}{A:Addr->Prop}{H:Hp}{N:List Str}{ws:List W}{vs:List V}{M:Ms}
theorem kY{i:Nat}{w:W}(hi:ws.length<=i)(e:look (aA N.length ws) i=some w):False:=by
 rw[bz]at e
 unfold aA at e
 rw[Nw (by simp;omega),Wp]at e
 split at e
 ·cases e
 ·cases e
theorem uf{i:Nat}{w:W}(h:aj K A H ws vs)(e:look (aA N.length ws) i=some w):∃v,(start N vs)[i]?=some (some v)/\Rep K A H w v:=by
 have hl:=h.len
 by_cases hlt:i<ws.length
 ·rw[bz]at e
  unfold aA at e
  rw[OF (by simpa using hlt),FS]at e
  obtain⟨w',e1,e2⟩:=OK.mp e
  cases e2
  obtain⟨v,e2,r⟩:=h.get e1
  refine⟨v,?_,r⟩
  unfold L2.start
  rw[OF (by simp;lia),FS,e2]
  rfl
 ·exact(kY (by lia) e).elim
theorem G4(h:aj K A H ws vs)(d:Dom A H)(hM:∀i m,(i,m)∈M->ws.length<=i)(un:∀i m m',(i,m)∈M->(i,m')∈M->m=m'):SR K M ⟨A,A,none⟩ H (start N vs) H (aA N.length ws):=by
 have hl:=h.len
 refine⟨by simp[L2.start,aA,hl],fun i w hi e=>uf h e,ay.refl _,d,(fun v e=>by cases e),fun _=>[],⟨un,fun i m w hm e=>(kY (hM i m hm) e).elim,fun _ _ _=>rfl,fun _ _=>List.nodup_nil,(fun i j p _ _ z=>by cases z),(fun i p _ z=>by cases z),(fun i p _ z=>by cases z),fun p=>⟨.inl,fun z=>z.elim id<|by rintro⟨_,_,z⟩;cases z⟩⟩⟩
open Classical in
noncomputable def era(F:List Addr)(H:Hp):Hp:=fun p=>if p∈F then none else H p
theorem G5{F:List Addr}{p:Addr}{o:HO}(h:era F H p=some o):p∉F/\H p=some o:=by
 unfold era at h
 split at h
 ·cases h
 ·exact⟨by assumption,h⟩
theorem G6{F:List Addr}{p:Addr}(h:era F H p=none):p∈F\/H p=none:=by
 unfold era at h
 split at h
 ·exact .inl (by assumption)
 ·exact .inr h
theorem Rf{F:List Addr}{p:Addr}(h:p∈F):era F H p=none:=by
 unfold era
 rw[Bi h]
theorem Lh{F:List Addr}{p:Addr}(h:p∉F):era F H p=H p:=by
 unfold era
 rw[B1 h]
theorem G7{F:List Addr}{w0:W}{v0:V}{m0:Md}(nd:F.Nodup)(na:∀p∈F,¬A p)(d:Dom A H)(fp:Fp K (fun p=>A p\/p∈F) H m0 w0 v0 F)(h:aj K (fun p=>A p\/p∈F) H ws vs)
 (h0:(0,m0)∈M) (hM:∀i m,(i,m)∈M->i=0\/ws.length+1<=i) (un:∀i m m',(i,m)∈M->(i,m')∈M->m=m') (hN:0<N.length):
 SR K M ⟨A,fun p=>A p\/p∈F,some v0⟩ (era F H) (start N (v0::vs)) H (aA N.length (w0::ws)):=by
 have hl:=h.len
 have M8:look (aA N.length (w0::ws)) 0=some w0:=rfl
 have ZA:(start N (v0::vs))[0]?=some (some v0):=rfl
 have hs0:∀i,aX M i->i≠0->∀w,look (aA N.length (w0::ws)) i=some w->False:=fun i ⟨m,hm⟩ n w e=>kY (by rcases hM i m hm with z|z;exact(n z).elim;simpa using z) e
 refine⟨by simp[L2.start,aA,hl],fun i w hi e=>?_,fun p o e=>(G5 e).2,d,fun v e=>?_,fun i=>if i=0 then F else[],⟨un,fun i m w hm e=>?_,fun i hi e=>?_,fun i hi=>?_,fun i j p hi hj a b=>?_,fun i p hi hp=>?_,fun i p hi hp=>?_,fun p=>?_⟩⟩
 ·cases i with
  |zero=>exact(hi ⟨m0,h0⟩).elim
  |succ i=>
   have e':look (ws.map some++List.replicate (N.length -(w0::ws).length) none) i=some w:=e
   have:look (aA (N.length -1) ws) i=some w:=by
    unfold aA
    rw[show N.length -1 -ws.length=N.length -(w0::ws).length by simp;lia]
    exact e'
   cases N with
   |nil=>cases hN
   |cons x N=>
    obtain⟨v,e1,e2⟩:=uf (N:=N) h this
    refine⟨v,?_,e2⟩
    unfold L2.start at e1⊢
    rw[Fn,List.cons_append,List.getElem?_cons_succ,show(x::N).length -(v0::vs).length=N.length -vs.length by simp]
    exact e1
 ·cases e
  exact⟨ZA,m0,h0⟩
 ·rcases Nat.eq_zero_or_pos i with rfl|hi
  ·have:=un 0 m m0 hm h0
   subst this
   rw[M8]at e
   cases e
   exact⟨v0,ZA,by rw[Bi rfl];exact fp⟩
  ·exact(hs0 i ⟨m,hm⟩ (by lia) w e).elim
 ·rcases Nat.eq_zero_or_pos i with rfl|hi'
  ·rw[M8]at e
   cases e
  ·rw[B1 (by lia)]
 ·split
  ·exact nd
  ·exact List.nodup_nil
 ·by_cases e1:i=0
  ·by_cases e2:j=0
   ·rw[e1,e2]
   ·rw[B1 e2]at b
    cases b
  ·rw[B1 e1]at a
   cases a
 ·by_cases e1:i=0
  ·rw[Bi e1]at hp
   exact Rf hp
  ·rw[B1 e1]at hp
   cases hp
 ·by_cases e1:i=0
  ·rw[Bi e1]at hp
   exact na p hp
  ·rw[B1 e1]at hp
   cases hp
 ·constructor
  ·rintro(z|z)
   ·exact .inl z
   ·exact .inr ⟨0,⟨m0,h0⟩,by rw[Bi rfl];exact z⟩
  ·rintro(z|⟨i,hi,hp⟩)
   ·exact .inl z
   ·by_cases e1:i=0
    ·rw[Bi e1]at hp
     exact .inr hp
    ·rw[B1 e1]at hp
     cases hp
end
theorem M9{M:Ms}(h:(M.map (·.1)).Nodup):∀i m m',(i,m)∈M->(i,m')∈M->m=m':=by
 induction M with
 |nil=>intro i m m' a;cases a
 |cons x M ih=>
  obtain⟨j,k⟩:=x
  rw[Fn,SU]at h
  intro i m m' a b
  rcases Fu.mp a with a|a
  ·rcases Fu.mp b with b|b
   ·cases a
    cases b
    rfl
   ·cases a
    exact(h.1 (Iy.mpr ⟨_,b,rfl⟩)).elim
  ·rcases Fu.mp b with b|b
   ·cases b
    exact(h.1 (Iy.mpr ⟨_,a,rfl⟩)).elim
   ·exact ih h.2 i m m' a b
section
variable{P:Program}{w:World}{K:PySem.W.Frag}{mg:Str->Option Value}{base:Heap}{x qual:Str}{st:Stmt}{f:Addr}{fd:FuncData}{N ps:List Str}{k:Nat}{fn gn zn:List Str}{md:List Md}{mt:List (Nat×Nat)}{Φ:Nat->bT}{G:Nat->W}
theorem G8{M:Ms}{cdv:Value}{A:Around}{outer:List Env}{s:Shared}{H:Hp}{E:XK}(Sc:az N ps (aa st))(T:Tab P w K mg base fn gn zn md mt Φ G k)(hr:cH k (lH P w K mg base N qual (aa st) f cdv A outer s H E).A)(un:∀i m m',(i,m)∈M->(i,m')∈M->m=m'):
 Ay ⟨N,(aa st).names,M,fn,gn,zn,md,mt⟩ Φ (bu md) G (lH P w K mg base N qual (aa st) f cdv A outer s H E):=
 {hN:=rfl,nd:=Sc.nd,calm:=rfl,un:=hr.units,nk:=fun _=>rfl,
  fns:=fun j x e h=>by
   obtain⟨fv,n,k',q1,q2,q3,q4⟩:=T.fns j x e h
   exact⟨fv,n,k',q1,q2,hr.mono q3,q4⟩
  Qk:=fun j g x e h=>by
   obtain⟨f,fd,ps,n,k',q1,q2,q3,q4,q5⟩:=T.Qk j g x e h
   exact⟨f,fd,ps,n,k',q1,q2,q3,hr.mono q4,q5⟩
  Je:=rfl,MX:=T.MX,BP:=T.BP,kit:=T.kit,
  bk:=by
   show(if(aa st).kind.isAnnotationScope then ScopeKind.function else(aa st).kind)=_
   rw[Sc.kind]
   rfl
  SM:=fun _=>rfl,M7:=T.M7,SN:=un}
theorem aS(F:DH K x qual st f fd)(Sc:az N ps (aa st))(T:Tab P w K mg base fn gn zn md mt Φ G k)(code:List CS)(M:Ms)(m:Md)(Sf:bT)(hM:M.all (fun i=>decide (ps.length<=i.1))=true)(hu:(M.map (·.1)).Nodup)(hio:nQ m=false)
 (hchk:aP ⟨N,(aa st).names,M,fn,gn,zn,md,mt⟩ (bu md) m code (ah st)=true) (hlen:∀ws P R,Sf ws P R->ws.length=ps.length)
 (hp:∀ws P R,Sf ws P R->wSs Φ G code ⟨fall m P,P,fun _=>False,fun _=>False,R⟩ (aA N.length ws)):aH P w K mg base (cK P w) (k+1) f fd ps (MT K ps.length m Sf):=by
 refine DH.Wh F Sc (by rintro vs H Q E ⟨A,ws,P,R,h1,h2,_⟩;rw[h2.len,h1]) fun cdv A outer s H vs Q E hr ⟨A0,ws,P0,R,h1,h2,h3,h4,h5,h6⟩=>?_
 have un:=M9 hu
 refine⟨_,qI Φ (bu md) G code (G8 Sc T hr un) (ah st) hchk,⟨A0,A0,none⟩,H,aA N.length ws,⟨fall m P0,P0,fun _=>False,fun _=>False,R⟩,G4 h2 h3 (fun i m hi=>?_) un,⟨E,MM,fun C H' rc s'=>h6 C H' rc s',fun pins σ H1 s1 h' a C args I hx q=>By pins σ H1 s1 h' a C args I hx (h6 C H1 q.1 q.2)⟩,(by rw[hio];rfl),hp ws P0 R h4,⟨fun A' ε' σ' H' ea eb hf S'=>?_,fun w v H' hw s' r=>?_,fun _ _ _ _ _ _ z=>z.elim,fun _ _ _ _ _ _ z=>z.elim⟩⟩
 ·rw[h1]
  exact Bz (KB.mp hM (i,m) hi)
 ·cases m with
  |s=>exact h5 .aU .aU H' hf S'.sm (.of (by rw[Rep]))
  |io _=>cases hio
  |_=>exact hf.elim
 ·cases m with
  |io _=>cases hio
  |_=>exact h5 w v H' hw s' r
theorem pK(F:DH K x qual st f fd)(Sc:az N ps (aa st))(T:Tab P w K mg base fn gn zn md mt Φ G k)(code:List CS)(M:Ms)(m0:Md)(Sf:bT)(hM:M.all (fun i=>i.1==0||decide (ps.length<=i.1))=true)(hu:(M.map (·.1)).Nodup)(h0:hasB M 0 m0=true)(hN:0<N.length)
 (hchk:aP ⟨N,(aa st).names,M,fn,gn,zn,md,mt⟩ (bu md) (.io m0) code (ah st)=true) (hlen:∀ws P R,Sf ws P R->ws.length=ps.length)
 (hp:∀ws P R,Sf ws P R->wSs Φ G code ⟨fall (.io m0) P,P,fun _=>False,fun _=>False,R⟩ (aA N.length ws)):aH P w K mg base (cK P w) (k+1) f fd ps (Pn K ps.length m0 Sf):=by
 refine DH.Wh F Sc (by rintro vs H Q E ⟨ab,F,w0,v0,ws,vs',P,R,e,h1,_,_,_,_,h2,_⟩;rw[e,List.length_cons,h2.len,h1]) fun cdv A outer s H vs Q E hr ⟨ab,F,w0,v0,ws,vs',P0,R,e,h1,nd,na,d,fp,h2,h4,h5,h6⟩=>?_
 subst e
 have un:=M9 hu
 have h0:=jS h0
 have ch:∀{H'},ay (era F H) H'->xj (·∈F) H H':=fun{H'} s' p o e=>by
  by_cases SG:p∈F
  ·obtain⟨o',e',hm⟩:=Fp.mu m0 fp p SG
   rw[e]at e'
   cases e'
   exact .inl ⟨hm,SG⟩
  ·exact .inr (s' p o (by rw[Lh SG];exact e))
 refine⟨_,qI Φ (bu md) G code (G8 Sc T hr un) (ah st) hchk,⟨ab,fun p=>ab p\/p∈F,some v0⟩,era F H,aA N.length (w0::ws),⟨fall (.io m0) P0,P0,fun _=>False,fun _=>False,R⟩,G7 nd na d fp h2 h0 (fun i m hi=>?_) un hN,⟨E,MM,fun C H' rc s'=>h6 C H' rc (ch s'),fun pins σ H1 s1 h' a C args I hx q=>By pins σ H1 s1 h' a C args I hx (h6 C H1 q.1 (ch q.2))⟩,rfl,hp _ P0 R h4,⟨fun A' ε' σ' H' ea eb hf S'=>?_,fun w v H' hw s' r=>?_,fun _ _ _ _ _ _ z=>z.elim,fun _ _ _ _ _ _ z=>z.elim⟩⟩
 ·have:=KB.mp hM (i,m) hi
  rw[Bool.or_eq_true]at this
  rcases this with z|z
  ·exact .inl (N0.mp z)
  ·exact .inr (by rw[h1];exact Bz z)
 ·have hf:(match look ε' 0 with|some w0=>P0 (.tup [.aU,w0])|none=>False):=hf
  cases hl:look ε' 0 with
  |none=>rw[hl]at hf;exact hf.elim
  |some y=>
   rw[hl]at hf
   obtain⟨wr,y',v0',F',e1,e2,X4,UY,fp',rr⟩:=vh (v:=.aU) S' h0 hl ⟨v0,eb⟩ (by rw[Rep]:Rep K A'.B H' .aU .aU)
   cases e1
   rw[eb]at e2
   cases e2
   rw[ea]at fp' rr UY
   exact h5 .aU y .aU F' H' hf (ch S'.sm) X4 (fun p hp=>G6 (UY p hp).1) fp' rr
 ·obtain⟨wr,y,v0',F',rfl,e2,X4,UY,fp',rr⟩:=r
  cases e2
  exact h5 wr y v F' H' hw (ch s') X4 (fun p hp=>G6 (UY p hp).1) fp' rr
end
end VL
namespace L2
open PySem PySem.Spec PyProof.Rows
abbrev rv(as:List (Addr×Rat)):List V:=as.map fun x=>V.ref x.1
section
variable{X:Cx}{H:Hp}
end
theorem ug{α:Type}{xs:List α}{x:α}(h:xs.getLast?=some x):kP xs (-1)=some x:=by
 have hl:xs≠[]:=by intro z;rw[z]at h;cases h
 have hl2:0<xs.length:=Hb.mpr hl
 unfold kP
 have e:zD xs.length (-1)=some (xs.length -1):=by
  unfold zD
  rw[B1 (by decide),Bi (by lia)]
  congr 1
  lia
 rw[e]
 show xs[xs.length -1]?=_
 rw[←h,XB]
end L2
namespace Num
theorem yf(a b q:Int):Int.gcd b (a -q*b)=Int.gcd a b:=by
 apply Nat.dvd_antisymm
 ·apply Int.dvd_gcd
  ·have h1:((Int.gcd b (a -q*b):Nat):Int)∣b:=Int.gcd_dvd_left ..
   have h2:((Int.gcd b (a -q*b):Nat):Int)∣(a -q*b):=Sr ..
   have h3:=Int.dvd_add h2 (Int.dvd_mul_of_dvd_right h1:_∣q*b)
   have e:a -q*b+q*b=a:=by lia
   rw[e]at h3
   exact h3
  ·exact Int.gcd_dvd_left ..
 ·apply Int.dvd_gcd
  ·exact Sr ..
  ·exact Int.dvd_sub (Int.gcd_dvd_left ..) (Int.dvd_mul_of_dvd_right (Sr ..))
theorem fl(a b:Int)(hb:b≠0):(0<b->0<=a -a.fdiv b*b/\a -a.fdiv b*b<b)/\(b<0->b<a -a.fdiv b*b/\a -a.fdiv b*b<=0):=by
 have e:=Int.mul_ediv_add_emod a b
 have h0:=Int.emod_nonneg a hb
 have h1:a%b<(b.natAbs:Int):=by
  rcases Int.lt_or_le 0 b with z|z
  ·have:=Int.emod_lt_of_pos a z
   lia
  ·have:=Int.emod_lt_of_pos a (show 0< -b by lia)
   rw[Int.emod_neg]at this
   lia
 rw[Int.fdiv_eq_ediv]
 have eb:b*(a/b)=(a/b)*b:=Int.mul_comm _ _
 constructor
 ·intro h
  rw[Bi (Or.inl (by lia)),Int.sub_zero]
  lia
 ·intro h
  split
  ·rename_i hd
   have hz:a%b=0:=Int.emod_eq_zero_of_dvd (by lia)
   rw[Int.sub_zero]
   lia
  ·rename_i hd
   have hz:a%b≠0:=fun z=>hd (.inr (Int.dvd_of_emod_eq_zero z))
   have:(a/b -1)*b=a/b*b -b:=by rw[Int.sub_mul];lia
   lia
theorem G9(a b:Int)(hb:b≠0):(a -a.fdiv b*b).natAbs<b.natAbs:=by
 have:=fl a b hb
 omega
theorem fmod_eq(a b:Int):a.fmod b=a -a.fdiv b*b:=by
 have:=Int.mul_fdiv_add_fmod a b
 have:b*a.fdiv b=a.fdiv b*b:=Int.mul_comm _ _
 omega
theorem dz(r:Rat):(r.den:Int)≠0:=by have:=r.den_nz;lia
theorem dpos(r:Rat):(0:Int)<r.den:=by have:=r.den_pos;omega
theorem Rg{n:Int}{d:Nat}{r:Rat}(hd:d≠0)(hc:Nat.gcd n.natAbs d=1)(h:n*r.den=r.num*d):r.num=n/\(r.den:Int)=d:=by
 have e:r=⟨n,d,hd,hc⟩:=by
  rw[←Qr r,Rat.mk_eq_divInt,ag (dz r) (by lia)]
  exact h.symm
 rw[e]
 exact⟨rfl,rfl⟩
theorem red(r:Rat):Int.gcd r.num r.den=1:=r.reduced
theorem B5(x y:Int)(h:y≠0):∃x' y':Int,x=(Int.gcd x y:Nat)*x'/\y=(Int.gcd x y:Nat)*y'/\Int.gcd x' y'=1/\0<((Int.gcd x y:Nat):Int):=by
 have hg:0<Int.gcd x y:=Int.gcd_pos_of_ne_zero_right _ h
 obtain⟨x',hx⟩:((Int.gcd x y:Nat):Int)∣x:=Int.gcd_dvd_left ..
 obtain⟨y',hy⟩:((Int.gcd x y:Nat):Int)∣y:=Sr ..
 refine⟨x',y',hx,hy,?_,by lia⟩
 have e:Int.gcd ((Int.gcd x y:Nat)*x') ((Int.gcd x y:Nat)*y')=Int.gcd x y*Int.gcd x' y':=by
  rw[Int.gcd_mul_left]
  rfl
 rw[←hx,←hy]at e
 have:Int.gcd x y*1=Int.gcd x y*Int.gcd x' y':=by lia
 exact(Nat.eq_of_mul_eq_mul_left hg this).symm
theorem Li{g x x':Int}(h:x=g*x')(hg:0<g):x/g=x':=by
 rw[h]
 exact ar _ (by lia)
theorem Rh{g y y':Int}(h:y=g*y')(hg:0<g)(hy:0<y):0<y':=by
 rcases Int.lt_or_le 0 y' with z|z
 ·exact z
 ·have:=Int.mul_nonpos_of_nonneg_of_nonpos (Yf hg) z
  omega
theorem pL{n d:Int}{r:Rat}(hd:0<d)(hc:Int.gcd n d=1)(h:n*r.den=r.num*d):r.num=n/\(r.den:Int)=d:=by
 have e:((d.toNat:Nat):Int)=d:=by lia
 have:=Rg (n:=n) (d:=d.toNat) (r:=r) (by lia) (by unfold Int.gcd at hc;rw[show d.toNat=d.natAbs by lia];exact hc) (by rw[e];exact h)
 rw[e]at this
 exact this
theorem inv_pos(b:Rat)(h:0<b.num):b⁻¹.num=b.den/\(b⁻¹.den:Int)=b.num:=by
 refine pL h (by rw[Int.gcd_comm];exact red b) ?_
 have:=(ag (dz b⁻¹) (show b.num≠0 by omega)).mp ((Qr b⁻¹).trans (Rat.inv_def b))
 grind
theorem inv_neg(b:Rat)(h:b.num<0):b⁻¹.num= -b.den/\(b⁻¹.den:Int)= -b.num:=by
 refine pL (by lia) ?_ ?_
 ·rw[Int.gcd_neg,Int.neg_gcd,Int.gcd_comm]
  exact red b
 ·have:=(ag (dz b⁻¹) (show b.num≠0 by lia)).mp ((Qr b⁻¹).trans (Rat.inv_def b))
  grind
noncomputable def Bd(n:Nat)(r:Rat):Prop:=r.num.natAbs<2^n/\r.den<2^n
theorem Ri{n:Int}{d:Nat}(hd:d≠0):(mkRat n d).num.natAbs<=n.natAbs/\(mkRat n d).den<=d:=by
 obtain⟨m,hm,h1,h2⟩:=Rat.mkRat_num_den hd (show mkRat n d=⟨(mkRat n d).num,(mkRat n d).den,(mkRat n d).den_nz,(mkRat n d).reduced⟩from rfl)
 constructor
 ·have:n.natAbs=(mkRat n d).num.natAbs*m:=by
   conv=>lhs;rw[h1]
   rw[HI,Int.natAbs_natCast]
  rw[this]
  exact W1 _ (by lia)
 ·conv=>rhs;rw[h2]
  exact W1 _ (by lia)
theorem lt_mul{x y n m:Nat}(h1:x<2^n)(h2:y<2^m):x*y<2^(n+m):=by
 rw[Ts]
 rcases Nat.eq_zero_or_pos y with z|z
 ·subst z
  have:=Nat.mul_pos (PQ (n:=n) (show 0<2 by decide)) (PQ (n:=m) (show 0<2 by decide))
  omega
 ·exact GE (Nat.mul_lt_mul_of_pos_right h1 z) (Dx _ (SL h2))
theorem AB{n m:Nat}{a b:Rat}(h1:Bd n a)(h2:Bd m b):Bd (n+m) (a*b):=by
 have q:=Ri (n:=a.num*b.num) (d:=a.den*b.den) (Nat.mul_ne_zero a.den_nz b.den_nz)
 rw[←Rat.mul_def']at q
 have l1:=lt_mul h1.1 h2.1
 have l3:=lt_mul h1.2 h2.2
 rw[HI]at q
 exact⟨by omega,by omega⟩
theorem Na{n m:Nat}{a:Rat}(h:Bd n a)(hm:n<=m):Bd m a:=⟨GE h.1 (Ha (by decide) hm),GE h.2 (Ha (by decide) hm)⟩
theorem Rj{n:Nat}{a:Rat}(h:Bd n a)(hz:a.num≠0):Bd n a⁻¹:=by
 obtain⟨h1,h2⟩:=h
 rcases Int.lt_or_le 0 a.num with z|z
 ·obtain⟨e1,e2⟩:=inv_pos a z
  exact⟨by rw[e1];omega,by omega⟩
 ·obtain⟨e1,e2⟩:=inv_neg a (by omega)
  exact⟨by rw[e1];omega,by omega⟩
end Num
namespace VL
open PySem PySem.Spec
open PyProof.Rows hiding St
open L2
noncomputable def wq(r:Rat):W:=.tup [.int r.num,.int r.den]
noncomputable def aq(rs:List Rat):W:=.lst (rs.map wq)
section
variable{K:PySem.W.Frag}{A:Addr->Prop}{H H':Hp}{v:V}{p:Addr}{r:Rat}{rs:List Rat}
end
noncomputable def cu:List bT->Nat->bT
 |[],_=>fun _ _ _=>False
 |x::_,0=>x
 |_::l,n+1=>cu l n
noncomputable def lI:List W->Nat->W
 |[],_=>.aU
 |x::_,0=>x
 |_::l,n+1=>lI l n
section
variable{Q:W->Prop}{l a b:List W}{i j:Int}{x y:Str}{p q:Bool}
theorem x_len:qo .len [.lst l] Q=Q (.int l.length):=rfl
theorem Fc{ns:List Int}:qo .len [.gy ns] Q=Q (.int ns.length):=rfl
theorem Fb:qo .len [.tup l] Q=Q (.int l.length):=rfl
theorem Mc:qo .abs [.int i] Q=Q (.int (if i<0 then-i else i)):=rfl
theorem Me:qo .max2 [.int i,.int j] Q=Q (.int (if j>i then j else i)):=rfl
theorem Mf:qo .min2 [.int i,.int j] Q=Q (.int (if j<i then j else i)):=rfl
theorem Vq:qo .sum [.lst l] Q=∃ns:List Int,l=ns.map W.int/\Q (.int ns.sum):=rfl
theorem ZC:qo .all [.lst l] Q=∃bs:List Bool,l=bs.map W.bl/\Q (.bl (bs.all id)):=rfl
theorem Fd:qo .list [.lst l] Q=Q (.lst l):=rfl
theorem Bc:qo .list [.tup l] Q=Q (.lst l):=rfl
theorem Be:qo .tuple [.lst l] Q=Q (.tup l):=rfl
theorem xo:qo .tuple [.tup l] Q=Q (.tup l):=rfl
theorem Mg:qo .int [.bl p] Q=Q (.int (if p then 1 else 0)):=rfl
theorem Nb{w:W}{n:String}:qo .BB [w,.ty n] Q=∃a,Zf w=some a/\Q (.bl (DY a n)):=rfl
theorem Mh:fW .Add (.int i) (.int j) Q=Q (.int (i+j)):=rfl
theorem Mi:fW .Add (.lst a) (.lst b) Q=(a.length+b.length<=sizeLine/\Q (.lst (a++b))):=rfl
theorem X5:fW .Add (.tup a) (.tup b) Q=(a≠[]/\a.length+b.length<=sizeLine/\Q (.tup (a++b))):=rfl
theorem Mj:fW .Sub (.int i) (.int j) Q=Q (.int (i -j)):=rfl
theorem Ml:fW .Mult (.int i) (.int j) Q=(IntMulOk i j/\Q (.int (i*j))):=rfl
theorem Mm:fW .Mult (.lst a) (.int j) Q=(-(2^63)<=j/\j<2^63/\a.length*j.toNat<=sizeLine/\Q (.lst (List.replicate j.toNat a).flatten)):=rfl
theorem Fe:fW .FloorDiv (.int i) (.int j) Q=(Bx i j/\Q (.int (i.fdiv j))):=rfl
theorem Mn:fW .Mod (.int i) (.int j) Q=(j≠0/\Q (.int (i.fmod j))):=rfl
theorem Mp:fW .Pow (.int i) (.int j) Q=(sJ i j/\Q (.int (i^j.toNat))):=rfl
theorem Mq:fW .RShift (.int i) (.int j) Q=(0<=j/\Q (.int (i/2^j.toNat))):=rfl
theorem SX:eT .Eq (.int i) (.int j) Q=Q (.bl (decide (i=j))):=rfl
theorem SY:eT .NotEq (.int i) (.int j) Q=Q (.bl (!decide (i=j))):=rfl
theorem x_lt:eT .Lt (.int i) (.int j) Q=Q (.bl (decide (i<j))):=rfl
theorem S5:eT .LtE (.int i) (.int j) Q=Q (.bl (decide (i<=j))):=rfl
theorem S6:eT .Gt (.int i) (.int j) Q=Q (.bl (decide (j<i))):=rfl
theorem S7:eT .GtE (.int i) (.int j) Q=Q (.bl (decide (j<=i))):=rfl
theorem ZD:eT .Eq (.lst a) (.lst b) Q=(((dS 9 (.lst a)=true/\dS 9 (.lst b)=true)\/(gA 9 (.lst a)=true/\gA 9 (.lst b)=true))/\∀k:Bool,(k=true↔W.lst a=.lst b)->Q (.bl k)):=rfl
theorem ZE:eT .NotEq (.lst a) (.lst b) Q=(((dS 9 (.lst a)=true/\dS 9 (.lst b)=true)\/(gA 9 (.lst a)=true/\gA 9 (.lst b)=true))/\∀k:Bool,(k=true↔W.lst a=.lst b)->Q (.bl (!k))):=rfl
theorem ZF:eT .Eq (.tup a) (.tup b) Q=(((dS 9 (.tup a)=true/\dS 9 (.tup b)=true)\/(gA 9 (.tup a)=true/\gA 9 (.tup b)=true))/\∀k:Bool,(k=true↔W.tup a=.tup b)->Q (.bl k)):=rfl
theorem ZG:eT .NotEq (.tup a) (.tup b) Q=(((dS 9 (.tup a)=true/\dS 9 (.tup b)=true)\/(gA 9 (.tup a)=true/\gA 9 (.tup b)=true))/\∀k:Bool,(k=true↔W.tup a=.tup b)->Q (.bl (!k))):=rfl
theorem Bf{Q:Bool->Prop}:truth (.bl p) Q=Q p:=rfl
theorem S8:Ge (.lst l) (.int i) Q=∃w,kP l i=some w/\Q w:=rfl
theorem Mt{ns:List Int}:Ge (.gy ns) (.int i) Q=∃n,kP ns i=some n/\Q (.int n):=rfl
theorem Mu{ns:List Int}{lo hi:Option Int}:Wk (.gy ns) lo hi Q=Q (.lst (nK (ns.map W.int) lo hi)):=rfl
theorem Mr:Ge (.tup l) (.int i) Q=∃w,kP l i=some w/\Q w:=rfl
theorem S9{lo hi:Option Int}:Wk (.lst l) lo hi Q=Q (.lst (nK l lo hi)):=rfl
theorem Mv{w:W}{Q:Option Int->Prop}:J5 .aU w Q=Q none:=rfl
theorem Mw{n:Int}{Q:Option Int->Prop}:J5 (.int n) (.int i) Q=Q (some i):=rfl
theorem Mx{n:Nat}{Q:Option Int->Prop}:J5 (.var n) (.int i) Q=Q (some i):=rfl
theorem My{o:Operator}{c d:CE}{Q:Option Int->Prop}:J5 (.bin o c d) (.int i) Q=Q (some i):=rfl
theorem Bg{Q:List W->Prop}:items (.lst l) Q=Q l:=rfl
theorem xq{Q:List W->Prop}:items (.tup l) Q=Q l:=rfl
theorem Tc{n:Nat}{w:W}{ε:Ev}{Q:Ev->Prop}:wT true [n] w ε Q=Q (ε.set n (some w)):=rfl
theorem Td{ts:List Nat}{ε:Ev}{Q:Ev->Prop}:wT false ts (.tup l) ε Q=(l.length=ts.length/\Q (bO ε ts l)):=by
 cases ts<;>rfl
theorem Mz{i j:Nat}{ε:Ev}{Q:Ev->Prop}:wT false [i,j] (.tup l) ε Q=(l.length=2/\Q (bO ε [i,j] l)):=rfl
theorem MA{i j k:Nat}{ε:Ev}{Q:Ev->Prop}:wT false [i,j,k] (.tup l) ε Q=(l.length=3/\Q (bO ε [i,j,k] l)):=rfl
theorem Ff{A B:Prop}:(if true=true then A else B)=A:=rfl
theorem Bh{A B:Prop}:(if false=true then A else B)=B:=rfl
end
noncomputable def WN{α:Type}(S:α->Ev)(J:α->Prop)(μ:α->Nat)(s:α):Ev->Prop:=fun ε'=>∃s',ε'=S s'/\J s'/\μ s'<μ s
noncomputable def X6{α:Type}(S:α->Ev)(J:α->Prop)(μ:α->Nat)(b:Dn->Ev->Prop)(D:Dn)(s:α)(k:Bool):Prop:=
 if k=true then∃N:Ev->Prop,(∀ε',N ε'->∃m',m'<μ s/\∃s',ε'=S s'/\m'=μ s'/\J s')/\b {nx:=N,rt:=D.rt,bk:=D.nx,ct:=N,ex:=fun _=>False} (S s)else D.nx (S s)
theorem fE{α:Type}{S:α->Ev}{J:α->Prop}{μ:α->Nat}{b:Dn->Ev->Prop}{D:Dn}{s:α}{k:Bool}(h1:k=true->b {nx:=WN S J μ s,rt:=D.rt,bk:=D.nx,ct:=WN S J μ s,ex:=fun _=>False} (S s))(h2:k=false->D.nx (S s)):X6 S J μ b D s k:=by
 unfold X6
 cases k with
 |true=>exact⟨_,by rintro ε' ⟨s',e,j,l⟩;exact⟨_,l,s',e,rfl,j⟩,h1 rfl⟩
 |false=>exact h2 rfl
theorem jz{c:Ev->(Bool->Prop)->Prop}{b:Dn->Ev->Prop}{D:Dn}{ε:Ev}{α:Type}(S:α->Ev)(J:α->Prop)(μ:α->Nat)(s0:α)(e0:ε=S s0)(h0:J s0)(hs:∀s,J s->c (S s) (X6 S J μ b D s)):OX c b D ε:=by
 refine⟨fun m ε=>∃s,ε=S s/\m=μ s/\J s,⟨_,s0,e0,rfl,h0⟩,?_⟩
 rintro m _ ⟨s,rfl,rfl,j⟩
 exact hs s j
theorem gf{α:Type}{f:W->(Option W->Prop)->Prop}{h g:α->W}:∀(ws:List α) (acc:List W) (Q:List W->Prop),(∀x∈ws,∀K:Option W->Prop,K (some (g x))->f (h x) K)->acc.length+ws.length<=sizeLine->Q (acc++ws.map g)->kW f (ws.map h) acc Q
 |[],acc,Q,_,_,q=>by
  rw[P2,kW]
  simpa using q
 |w::ws,acc,Q,hh,l,q=>by
  rw[Fn,kW]
  refine hh w (DD ..) _ ⟨?_,gf ws _ Q (fun x hx=>hh x (Bn _ hx)) ?_ ?_⟩
  ·rw[List.length_cons]at l
   lia
  ·rw[Ee,List.length_singleton]
   rw[List.length_cons]at l
   lia
  ·rw[FV]
   exact q
theorem cN{α:Type}(x:α):∀n,(List.replicate n [x]).flatten=List.replicate n x
 |0=>rfl
 |n+1=>by rw[List.replicate_succ,List.flatten_cons,cN x n];rfl
theorem Lj{rs:List Rat}{y:Rat}(h0:0<rs.length)(h:rs.getD (rs.length -1) 0=y):rs.getLast?=some y:=by
 rw[XB,BM (by omega)]
 rw[AC,BM (by omega)]at h
 exact TB some h
theorem qJ{rs:List Rat}{y:Rat}(h:rs.getLast?=some y):kP (rs.map wq) (-1)=some (wq y):=ug (by rw[List.getLast?_map,h];rfl)
theorem af{n:Nat}(h:n<=1000):n<=sizeLine:=FC h (by decide)
theorem qK(K:PySem.W.Frag):xQ K:=by
 intro a ha b hb
 simp only[Fu,QQ,or_false]at ha hb
 rcases ha with rfl|rfl|rfl|rfl|rfl|rfl<;>rcases hb with rfl|rfl|rfl|rfl|rfl|rfl<;>rfl
theorem vC{n:Nat}(h:n<=1000):n<sizeLine:=KE h (by decide)
theorem pM(i:Int)(n:Nat):dS n (.int i)=true:=by
 cases n<;>rw[dS]
theorem AD(r:Rat)(n:Nat):dS (n+1) (wq r)=true:=by
 unfold wq
 rw[dS,List.all_cons,List.all_cons,pM,pM]
 rfl
theorem jT(rs:List Rat)(n:Nat):dS (n+2) (.lst (rs.map wq))=true:=by
 rw[dS,KB]
 intro x hx
 obtain⟨r,_,rfl⟩:=Iy.mp hx
 exact AD r n
theorem Rk{r s:Rat}(h:wq r=wq s):r=s:=by
 unfold wq at h
 simp only[W.tup.injEq,List.cons.injEq,W.int.injEq,and_true]at h
 exact Rat.ext h.1 (by have:=h.2;lia)
theorem pN{rs ss:List Rat}(h:W.lst (rs.map wq)=.lst (ss.map wq)):rs=ss:=by
 rw[W.lst.injEq]at h
 exact(List.map_inj_right (fun a b e=>Rk e)).mp h
theorem kZ{x y:List Rat}{Q:W->Prop}(h:∀k:Bool,(k=true↔x=y)->Q (.bl k)):eT .Eq (aq x) (aq y) Q:=
 ⟨.inl ⟨jT x 7,jT y 7⟩,fun k hk=>h k (hk.trans ⟨fun e=>pN e,fun e=>by rw[e]⟩)⟩
theorem Hf{x y:List Rat}{Q:W->Prop}(h:∀k:Bool,(k=true↔x=y)->Q (.bl (!k))):eT .NotEq (aq x) (aq y) Q:=
 ⟨.inl ⟨jT x 7,jT y 7⟩,fun k hk=>h k (hk.trans ⟨fun e=>pN e,fun e=>by rw[e]⟩)⟩
theorem di{k:Bool}{p:Prop}(h:k=true↔p)(q:p):k=true:=h.mpr q
theorem bY{k:Bool}{p:Prop}(h:k=true↔p)(q:¬p):k=false:=by
 cases k with
 |false=>rfl
 |true=>exact absurd (h.mp rfl) q
noncomputable def Hd(K:PySem.W.Frag)(x:Str)(st:Stmt):Prop:=∃(f:Addr) (od an:Option Addr) (sl:Array (Option Value)) (oc kV dc pm cd ct:Value),
 PySem.W.nsIn K mainGlobals x=some (some (.ref f))/\K.lookup f=some ⟨oc,od,.func (PySem.W.fnOf x x (cE st) (ah st) (aa st) .none kV dc pm an cd ct),sl⟩/\PySem.W.codeIn K cd x=true/\PySem.W.keepIn K (.ref f)=true
noncomputable def Hm(K:PySem.W.Frag)(C:Addr)(x q:Str)(st:Stmt):Prop:=∃(f:Addr) (od an:Option Addr) (sl:Array (Option Value)) (oc kV dc pm cd ct:Value),
 PySem.W.findIn K (.ref C) x=some (some (.ref f))/\PySem.W.isFn K (.ref f)=true/\K.lookup f=some ⟨oc,od,.func (PySem.W.fnOf x q (cE st) (ah st) (aa st) .none kV dc pm an cd ct),sl⟩/\PySem.W.codeIn K cd q=true/\PySem.W.keepIn K (.ref f)=true
structure Df(K:PySem.W.Frag)(mg:Str->Option Value)(x:Str)(st:Stmt)(ps:List Str)(f:Addr)(fd:FuncData):Prop where
 F:DH K x x st f fd
 m:mg x=some (.ref f)
 b:Binds K fd ps []
 bt:∀(s:Shared) (us:List Value),us.length=ps.length->BindsTo s fd ⟨us,[]⟩ (ps.zip us)
structure Dm(K:PySem.W.Frag)(C:Addr)(x q:Str)(st:Stmt)(ps:List Str)(f:Addr)(fd:FuncData):Prop where
 F:DH K x q st f fd
 M:Meth K C x f
 b:Binds K fd ps []
abbrev jU(x q:Str)(st:Stmt)(ps:List Str):Prop:=∀(kV doc pm:Value) (an:Option Addr) (cdv ct:Value) (us:List Value),us.length=ps.length->bindArgs (PySem.W.fnOf x q (cE st) (ah st) (aa st) .none kV doc pm an cdv ct) ⟨us,[]⟩=pure (ps.zip us)
theorem bg{K:PySem.W.Frag}{h:Heap}{mg:Str->Option Value}{x:Str}{st:Stmt}{ps:List Str}(X:K.In h)(G:h.Ns mainGlobals mg)(hd:Hd K x st)(b:jU x x st ps):∃f fd,Df K mg x st ps f fd:=by
 obtain⟨f,od,an,sl,oc,kV,dc,pm,cd,ct,a,l,c,k⟩:=hd
 have F:=FP (st:=st) l c k
 exact⟨f,_,F,TK X G a,F.binds b,fun s us hl=>.of_eq (b kV dc pm an cd ct us hl)⟩
theorem B6{K:PySem.W.Frag}{C:Addr}{x q:Str}{st:Stmt}{ps:List Str}(hd:Hm K C x q st)(b:jU x q st ps):∃f fd,Dm K C x q st ps f fd:=by
 obtain⟨f,od,an,sl,oc,kV,dc,pm,cd,ct,a,i,l,c,k⟩:=hd
 have F:=FP (st:=st) l c k
 exact⟨f,_,F,⟨a,i,k⟩,F.binds b⟩
structure Hc(K:PySem.W.Frag)(mg:Str->Option Value)(x:Str)(C:Addr)(fs:List Str):Prop where
 c:mg x=some (.ref C)
 ok:Af K C fs
 mks:PySem.W.makesIn K C=true
 kp:PySem.W.keepIn K (.ref C)=true
theorem AE{K:PySem.W.Frag}{H:Hp}{a:Addr}{ns:List Int}(hO:FN H)(hS:ir K H a (ns.map V.int)):Rep K (fun _=>False) H (.gy ns) (.ref a):=by
 rw[Rep]
 refine⟨a,rfl,?_⟩
 rcases hS with(h|⟨o,h⟩)|h
 ·rcases hO a with z|⟨o,xs,z⟩
  ·rw[z]at h
   cases h
  ·rw[z]at h
   cases h
 ·exact .inl ⟨o,h⟩
 ·exact .inr (.inr h)
noncomputable def Lk:bT:=fun ws Q _=>∃ns:List Int,ws=[.gy ns]/\ns.length<=63/\Q (.bl true)
noncomputable def B7(K:PySem.W.Frag):Sp:=fun vs H Q _=>∃(a:Addr) (ns:List Int),vs=[.ref a]/\FN H/\ir K H a (ns.map V.int)/\ns.length<=63/\∀H',Q (.bl true) H'
theorem Rl{P:Program}{w:World}{K:PySem.W.Frag}{mg:Str->Option Value}{base:Heap}{k:Nat}{f:Addr}{fd:FuncData}{x:Str}(F:aH P w K mg base (cK P w) k f fd [x] (MT K 1 .s Lk)):aH P w K mg base JM k f fd [x] (B7 K):=by
 refine(aH.Ui F).imp fun vs H Q E ⟨a,ns,e,hO,hS,hl,q⟩=>?_
 subst e
 refine⟨fun _=>False,[.gy ns],fun w=>w=.bl true,fun _=>False,rfl,.cons (AE hO hS) .nil,fun _ z=>z.elim,⟨ns,rfl,hl,rfl⟩,fun w v H' hw _ r=>?_,fun _ _ z=>z.elim⟩
 subst hw
 have r:=r.bG
 rw[Rep]at r
 subst r
 exact q H'
theorem walk{l:PySem.W.OpenLaw}{q:Program}{loose:List Str}{XP:(Str->Option Value)->Heap->Prop}{YP:World->Heap->Prop}{d:DefRec}{K:Params->PySem.W.Frag}{k:Nat}(hn:l.most=some 63)(hdf:d.params.defaults=[])(hr:cH k callerA)
 (hY:∀(w:World) (h:Heap),YP w h->(K w.params).In h)
 (F:∀(w:World) (mg:Str->Option Value) (fa:Addr) (h:Heap),(K w.params).In h->h.Ns mainGlobals mg->mg d.name=some (.ref fa)->
   ∃fd:FuncData,(∀(s:Shared) (u:Value),BindsTo s fd ⟨[u],[]⟩ [("_law_script",u)])/\∀base:Heap,(K w.params).In base->base.Ns mainGlobals mg->aH l.prog w (K w.params) mg base JM k fa fd ["_law_script"] (B7 (K w.params))):
 PySem.W.WalkO q loose XP YP l.row.toRowW d [] (fun f us=>PySem.call f us):=
 L2.JL (n:=63) (k:=k) (x:="_law_script") (CX:=fun _=>JM) (sp:=fun w=>B7 (K w.params)) hn (by decide) hdf hr hY F (fun _ _ a ns hl hO hS=>⟨a,ns,rfl,hO,hS,hl,fun _=>rfl⟩) fun _ _ _ _ _ z=>z
noncomputable def Wq:bT:=fun _ _ _=>False
theorem Hg{P:Program}{w:World}{K:PySem.W.Frag}{mg:Str->Option Value}{base:Heap}{k n:Nat}{f:Addr}{fd:FuncData}{ps:List Str}:aH P w K mg base (cK P w) k f fd ps (dU K n .s Wq):=
 ⟨by rintro vs H Q E ⟨_,_,_,_,_,_,_,z,_⟩;exact z.elim,by rintro A outer s H args us vs Q E hr e0 hb r ⟨_,_,_,_,_,_,_,z,_⟩;exact z.elim⟩
theorem Df.eV{P:Program}{w:World}{K:PySem.W.Frag}{mg:Str->Option Value}{base:Heap}{x:Str}{st:Stmt}{ps:List Str}{f:Addr}{fd:FuncData}{k n:Nat}{m:Md}{sp:bT}(D:Df K mg x st ps f fd)(F:aH P w K mg base (cK P w) k f fd ps (dU K n m sp))(hn:n=ps.length)(hs:∀ws P R,sp ws P R->ws.length=n){k':Nat}(hk:k<=k'):
 ∃fv n k'',mg x=some fv/\c7 P w K mg base k'' fv n (dU K n m sp)/\k''<=k'/\∀ws P R,sp ws P R->ws.length=n:=by
 subst hn
 exact⟨_,_,k,D.m,.fn D.F.kp D.b F,hk,hs⟩
theorem Dm.eV{P:Program}{w:World}{K:PySem.W.Frag}{mg:Str->Option Value}{base:Heap}{x q:Str}{st:Stmt}{ps:List Str}{C f:Addr}{fd:FuncData}{k n:Nat}{m:Md}{sp:bT}(D:Dm K C x q st ps f fd)(F:aH P w K mg base (cK P w) k f fd ps (dU K n m sp))(hs:∀ws P R,sp ws P R->ws.length=n){k':Nat}(hk:k<=k'){G:W}(hG:G=.cls C):
 ∃f fd ps n k'',(∀C,G=.cls C->Meth K C x f)/\Binds K fd ps []/\aH P w K mg base (cK P w) k'' f fd ps (dU K n m sp)/\k''<=k'/\∀ws P R,sp ws P R->ws.length=n:=
 ⟨f,fd,ps,n,k,fun C' e=>by rw[hG]at e;cases e;exact D.M,D.b,F,hk,hs⟩
end VL
namespace Num
noncomputable def cf(as bs:List Int):Nat->Nat->Int
 |0,_=>0
 |i+1,k=>cf as bs i k+as.getD i 0*(if i<=k then bs.getD (k -i) 0 else 0)
noncomputable def E8(as bs:List Int)(i j k:Nat):Int:=cf as bs i k+(if i<=k/\k<i+j then as.getD i 0*bs.getD (k -i) 0 else 0)
theorem Hh(as bs:List Int)(i k:Nat):E8 as bs i 0 k=cf as bs i k:=by
 unfold E8
 rw[B1 (by lia)]
 lia
theorem Hi(as bs:List Int)(i k:Nat):E8 as bs i bs.length k=cf as bs (i+1) k:=by
 unfold E8
 rw[cf]
 by_cases h:i<=k
 ·by_cases h2:k<i+bs.length
  ·rw[Bi ⟨h,h2⟩,Bi h]
  ·have e:bs.getD (k -i) 0=0:=by
    rw[AC,FK (by lia)]
    rfl
   rw[B1 (by lia),Bi h,e,Re]
 ·rw[B1 (by lia),B1 h,Re]
theorem yg(as bs:List Int)(i j k:Nat):E8 as bs i (j+1) k=E8 as bs i j k+(if k=i+j then as.getD i 0*bs.getD j 0 else 0):=by
 unfold E8
 by_cases h:k=i+j
 ·subst h
  rw[Bi (by lia),B1 (by lia),Bi rfl,Nat.add_sub_cancel_left]
  lia
 ·rw[B1 h]
  by_cases h2:i<=k/\k<i+j
  ·rw[Bi (by lia),Bi h2]
   lia
  ·rw[B1 (by lia),B1 h2]
   lia
theorem Ll{as bs:List Int}{i:Nat}(h:as.getD i 0=0)(k:Nat):cf as bs (i+1) k=cf as bs i k:=by
 rw[cf,h,Int.zero_mul,Int.add_zero]
theorem yh(as bs:List Int)(k:Nat):∀i,i+bs.length<=k+1->cf as bs i k=0
 |0,_=>rfl
 |i+1,h=>by
  rw[cf,yh as bs k i (by lia)]
  have e:bs.getD (k -i) 0=0:=by
   rw[AC,FK (by lia)]
   rfl
  rw[Bi (by lia),e,Re]
  rfl
noncomputable def iS(ns ms:List Int):Prop:=∃k,k<=ns.length/\ms=ns.take k/\(∀j,k<=j->j<ns.length->ns.getD j 0=0)/\(k=0\/ns.getD (k -1) 0≠0)
theorem iS.last{ns ms:List Int}(h:iS ns ms):ms=[]\/ms.getD (ms.length -1) 0≠0:=by
 obtain⟨k,k1,rfl,k2,k3⟩:=h
 rcases k3 with q|q
 ·left;rw[q];rfl
 ·by_cases hk:k=0
  ·left;rw[hk];rfl
  ·right
   rw[bj,Nat.min_eq_left k1,AC,List.getElem?_take_of_lt (by lia),←AC]
   exact q
theorem iS.mem{ns ms:List Int}(h:iS ns ms):∀m∈ms,m∈ns:=by
 obtain⟨k,_,rfl,_⟩:=h
 exact fun m hm=>List.mem_of_mem_take hm
theorem yi(t b:Int)(hb:b≠0):((if b<0 then-((Int.gcd t b:Nat):Int)else((Int.gcd t b:Nat):Int))≠0)/\(Rat.divInt t b).num=t.fdiv (if b<0 then-((Int.gcd t b:Nat):Int)else((Int.gcd t b:Nat):Int))/\
 ((Rat.divInt t b).den:Int)=b.fdiv (if b<0 then-((Int.gcd t b:Nat):Int)else((Int.gcd t b:Nat):Int)):=by
 obtain⟨x,y,hx,hy,hxy,hg⟩:=B5 t b hb
 have Vr:=(ag (dz (Rat.divInt t b)) hb).mp (Qr (Rat.divInt t b))
 generalize((Int.gcd t b:Nat):Int)=g at*
 generalize Rat.divInt t b=r at*
 have gz:g≠0:=by lia
 have c2:x*r.den=r.num*y:=by
  rw[hx,hy]at Vr
  have:g*(x*r.den)=g*(r.num*y):=by grind
  exact T2 gz this
 rcases Int.lt_or_le b 0 with z|z
 ·rw[Bi z]
  have py:0< -y:=by
   rcases Int.lt_or_le 0 (-y)with q|q
   ·exact q
   ·have:=Int.mul_nonneg (Yf hg) (show 0<=y by lia)
    lia
  have fin:=pL (n:= -x) (d:= -y) (r:=r) py (by rw[Int.gcd_neg,Int.neg_gcd];exact hxy) (by grind)
  have ng: -g≠0:=by lia
  refine⟨ng,?_,?_⟩
  ·rw[fin.1,hx,show g*x= -g* -x by grind,Int.mul_fdiv_cancel_left _ ng]
  ·rw[fin.2,hy,show g*y= -g* -y by grind,Int.mul_fdiv_cancel_left _ ng]
 ·rw[B1 (by lia)]
  have py:=Rh hy hg (by lia)
  have fin:=pL (r:=r) py hxy c2
  refine⟨gz,?_,?_⟩
  ·rw[fin.1,hx,Int.mul_fdiv_cancel_left _ gz]
  ·rw[fin.2,hy,Int.mul_fdiv_cancel_left _ gz]
theorem AF(t b:Int)(hb:b≠0):(Rat.divInt t b).num*b=t*(Rat.divInt t b).den:=(ag (dz _) hb).mp (Qr _)
theorem B8(t b:Int)(hb:b≠0):(Rat.divInt t b).num.natAbs<=t.natAbs/\(Rat.divInt t b).den<=b.natAbs:=by
 have c:=AF t b hb
 generalize Rat.divInt t b=r at*
 have hN:r.num.natAbs*b.natAbs=t.natAbs*r.den:=by
  have:=TB Int.natAbs c
  rw[HI,HI,Int.natAbs_natCast]at this
  exact this
 have cop:Nat.Coprime r.num.natAbs r.den:=r.reduced
 have hb':0<b.natAbs:=by lia
 have d1:r.den∣b.natAbs:=cop.symm.dvd_of_dvd_mul_left ⟨t.natAbs,by rw[hN,Y2]⟩
 have d2:r.num.natAbs∣t.natAbs:=cop.dvd_of_dvd_mul_right ⟨b.natAbs,hN.symm⟩
 refine⟨?_,Nat.le_of_dvd hb' d1⟩
 rcases Nat.eq_zero_or_pos t.natAbs with z|z
 ·rw[z,Nat.zero_mul]at hN
  rcases Nat.mul_eq_zero.mp hN with q|q
  ·lia
  ·lia
 ·exact Nat.le_of_dvd z d2
noncomputable def ev(x:Rat):List Rat->Rat
 |[]=>0
 |r::rs=>r+x*ev x rs
noncomputable def wv(t b:Int):List Int->Int
 |[]=>0
 |x::s=>wv t b s*t+x*b^s.length
theorem B9(x:Rat):x*((x.den:Int):Rat)=((x.num:Int):Rat):=by
 have h:=Qr x
 rw[Rat.divInt_eq_div]at h
 have:((x.den:Int):Rat)≠0:=fun z=>by
  have:=Rat.intCast_inj.mp (z.trans (show(0:Rat)=((0:Int):Rat)from rfl))
  have:=x.den_nz
  lia
 grind
theorem Rm{b:Int}(h:b≠0):(b:Rat)≠0:=fun z=>h (Rat.intCast_inj.mp (z.trans (show(0:Rat)=((0:Int):Rat)from rfl)))
theorem jV{x:Rat}{B:Int}(h:(x.den:Int)∣B):((x.num*(B/x.den):Int):Rat)=x*B:=by
 obtain⟨k,hk⟩:=h
 have e:B/(x.den:Int)=k:=by rw[hk];exact ar _ (dz x)
 rw[e,hk,Gc,Gc,←B9 x]
 grind
noncomputable def sm(f:Nat->Int):Nat->Int
 |0=>0
 |n+1=>sm f n+f n
theorem jA{f g:Nat->Int}:∀n,(∀i,i<n->f i=g i)->sm f n=sm g n
 |0,_=>rfl
 |n+1,h=>by rw[sm,sm,jA n fun i hi=>h i (by lia),h n (by lia)]
theorem Ca(f:Nat->Int):∀n,sm f (n+1)=f 0+sm (fun i=>f (i+1)) n
 |0=>by rw[sm,sm,sm];lia
 |n+1=>by rw[sm,Ca f n,sm];lia
theorem Hj(f:Nat->Int):∀n,sm (fun i=>f (n -i)) (n+1)=sm f (n+1)
 |0=>rfl
 |n+1=>by
  rw[Ca,jA (g:=fun i=>f (n -i)) (n+1) fun i hi=>by congr 1;lia,Hj f n]
  rw[sm,sm,sm]
  show f (n+1 -0)+(sm f n+f n)=_
  rw[Nat.sub_zero]
  lia
theorem vD{f:Nat->Int}{m:Nat}:∀n,m<=n->(∀i,m<=i->i<n->f i=0)->sm f n=sm f m
 |0,h,_=>by
  have:m=0:=by lia
  rw[this]
 |n+1,h,z=>by
  by_cases e:m=n+1
  ·rw[e]
  ·rw[sm,vD n (by lia) (fun i h1 h2=>z i h1 (by lia)),z n (by lia) (by lia),Int.add_zero]
theorem Hl(as bs:List Int)(k:Nat):∀n,cf as bs n k=sm (fun i=>as.getD i 0*(if i<=k then bs.getD (k -i) 0 else 0)) n
 |0=>rfl
 |n+1=>by rw[cf,Hl as bs k n,sm]
theorem pO(as bs:List Int)(k:Nat):cf as bs as.length k=sm (fun i=>as.getD i 0*bs.getD (k -i) 0) (k+1):=by
 rw[Hl]
 have out:∀i,as.length<=i->as.getD i 0=0:=fun i h=>by
  rw[AC,FK h]
  rfl
 rcases Nat.le_total as.length (k+1)with h|h
 ·rw[←vD (k+1) h fun i h1 _=>by rw[out i h1,Int.zero_mul]]
  exact jA _ fun i hi=>by rw[Bi (by lia)]
 ·rw[vD as.length h fun i h1 _=>by rw[B1 (by lia),Re]]
  exact jA _ fun i hi=>by rw[Bi (by lia)]
theorem vE(as bs:List Int)(k:Nat):cf as bs as.length k=cf bs as bs.length k:=by
 rw[pO,pO,←Hj]
 refine jA _ fun i hi=>?_
 show as.getD (k -i) 0*bs.getD (k -(k -i)) 0=_
 rw[show k -(k -i)=i by omega,Int.mul_comm]
noncomputable def iT(n:Nat)(f:Nat->Rat):List Rat:=(List.range n).map f
theorem iG(n:Nat)(f:Nat->Rat):(iT n f).length=n:=by unfold iT;simp
theorem Cb{n:Nat}{f:Nat->Rat}{k:Nat}(h:k<n):(iT n f)[k]?=some (f k):=by
 unfold iT
 rw[FS,SC h]
 rfl
theorem Ho{n:Nat}{f g:Nat->Rat}{k:Nat}(h:k<n)(hg:∀j,j<n->j≠k->g j=f j):(iT n f).set k (g k)=iT n g:=by
 apply de
 intro j
 rw[Ya]
 unfold iT
 by_cases hj:k=j
 ·subst hj
  rw[Bi rfl,Bi (by simpa using h)]
  simp[h]
 ·rw[B1 hj]
  by_cases hj2:j<n
  ·simp[hj2,hg j hj2 (fun z=>hj z.symm)]
  ·simp[hj2]
theorem Hq{n:Nat}{f:Nat->Rat}{x:Rat}(h:x∈iT n f):∃k,k<n/\x=f k:=by
 unfold iT at h
 obtain⟨k,hk,rfl⟩:=Iy.mp h
 exact⟨k,Ki.mp hk,rfl⟩
theorem qL{rs:List Rat}{k:Nat}(h:rs.length<=k):rs.getD k 0=0:=by
 rw[AC,FK h]
 rfl
noncomputable def cO(l:List Rat):List Rat:=(l.reverse.dropWhile fun x=>decide (x=0)).reverse
theorem lu(l:List Rat):cO (l++[0])=cO l:=by
 unfold cO
 rw[List.reverse_append,List.reverse_singleton,List.singleton_append,List.dropWhile_cons,Bi (by simp)]
theorem ly(l:List Rat){x:Rat}(h:x≠0):cO (l++[x])=l++[x]:=by
 unfold cO
 rw[List.reverse_append,List.reverse_singleton,List.singleton_append,List.dropWhile_cons,B1 (by simpa using h)]
 simp
theorem nV(l:List Rat):∃k,k<=l.length/\cO l=l.take k/\(k=0\/l.getD (k -1) 0≠0):=by
 generalize hn:l.length=n
 induction n generalizing l with
 |zero=>
  have:l=[]:=SZ.mp hn
  subst this
  exact⟨0,Do _,rfl,.inl rfl⟩
 |succ n ih=>
  have hne:l≠[]:=fun z=>by rw[z]at hn;cases hn
  obtain⟨l',x,rfl⟩:∃l' x,l=l'++[x]:=⟨l.dropLast,l.getLast hne,(List.dropLast_concat_getLast hne).symm⟩
  have hn':l'.length=n:=by simpa using hn
  by_cases x0:x=0
  ·subst x0
   obtain⟨k,k1,k2,k3⟩:=ih l' hn'
   refine⟨k,by lia,by rw[lu,k2,List.take_append_of_le_length (by lia)],?_⟩
   rcases k3 with z|z
   ·exact .inl z
   ·by_cases k0:k=0
    ·exact .inl k0
    ·right
     rw[AC,OF (by lia),←AC]
     exact z
  ·refine⟨n+1,Do _,by rw[ly _ x0,cw (by simp[hn'])],.inr ?_⟩
   rw[Nat.add_sub_cancel,AC,Nw (by lia),hn',Nat.sub_self]
   exact x0
theorem Ex{l:List Rat}{x:Rat}(h:x∈cO l):x∈l:=by
 obtain⟨k,_,e,_⟩:=nV l
 rw[e]at h
 exact List.mem_of_mem_take h
theorem uh(l:List Rat):(cO l).length<=l.length:=by
 obtain⟨k,hk,e,_⟩:=nV l
 rw[e,bj]
 lia
noncomputable def cA(l:List Rat):Prop:=∀x,l.getLast?=some x->x≠0
theorem vF(l:List Rat):cA (cO l):=fun x hx=>by
 obtain⟨k,hk,e,h⟩:=nV l
 rw[e]at hx
 rcases h with z|z
 ·rw[z]at hx
  simp at hx
 ·by_cases k0:k=0
  ·rw[k0]at hx
   simp at hx
  ·have e2:(l.take k).getLast?=some (l.getD (k -1) 0):=by
    rw[XB,bj,Nat.min_eq_left hk,List.getElem?_take_of_lt (by lia),AC,BM (by lia)]
    rfl
   rw[e2]at hx
   rw[←Kb hx]
   exact z
noncomputable def zF(as bs:List Rat):Nat->Nat->Rat
 |0,_=>0
 |i+1,k=>zF as bs i k+as.getD i 0*(if i<=k then bs.getD (k -i) 0 else 0)
noncomputable def gK(as bs:List Rat)(i j k:Nat):Rat:=zF as bs i k+(if i<=k/\k<i+j then as.getD i 0*bs.getD (k -i) 0 else 0)
theorem Ey(as bs:List Rat)(i k:Nat):gK as bs i 0 k=zF as bs i k:=by
 unfold gK
 rw[B1 (by lia)]
 grind
theorem Ez(as bs:List Rat)(i k:Nat):gK as bs i bs.length k=zF as bs (i+1) k:=by
 unfold gK
 rw[zF]
 by_cases h:i<=k
 ·by_cases h2:k<i+bs.length
  ·rw[Bi ⟨h,h2⟩,Bi h]
  ·have e:bs.getD (k -i) 0=0:=qL (by omega)
   rw[B1 (by omega),Bi h,e,Rat.mul_zero]
 ·rw[B1 (by omega),B1 h,Rat.mul_zero]
theorem um(as bs:List Rat)(i j k:Nat):gK as bs i (j+1) k=gK as bs i j k+(if k=i+j then as.getD i 0*bs.getD j 0 else 0):=by
 unfold gK
 by_cases h:k=i+j
 ·subst h
  rw[Bi (by lia),B1 (by lia),Bi rfl,Nat.add_sub_cancel_left]
  grind
 ·rw[B1 h]
  by_cases h2:i<=k/\k<i+j
  ·rw[Bi (by lia),Bi h2]
   grind
  ·rw[B1 (by lia),B1 h2]
   grind
noncomputable def mulQ(rs ss:List Rat):List Rat:=iT (rs.length+ss.length -1) (zF rs ss rs.length)
theorem Nc{n m:Nat}{as bs:List Int}(h1:∀x∈as,x.natAbs<2^n)(h2:∀x∈bs,x.natAbs<2^m)(k:Nat):∀i,(cf as bs i k).natAbs<=i*2^(n+m)
 |0=>by
  show 0<=_
  lia
 |i+1=>by
  have g:∀{n:Nat} {as:List Int} (h:∀x∈as,x.natAbs<2^n) (j:Nat),(as.getD j 0).natAbs<2^n:=fun{n as} h j=>by
   by_cases hj:j<as.length
   ·rw[AC,BM hj]
    exact h _ (On hj)
   ·rw[AC,FK (by omega)]
    exact PQ (by decide)
  have ih:=Nc h1 h2 k i
  have e:(as.getD i 0*(if i<=k then bs.getD (k -i) 0 else 0)).natAbs<2^(n+m):=by
   rw[HI]
   refine lt_mul (g h1 i) ?_
   split
   ·exact g h2 _
   ·exact PQ (by decide)
  rw[cf,Nat.add_mul]
  omega
end Num
namespace VL
open PySem PySem.Spec
open PyProof.Rows hiding St
open L2 Num
abbrev cj(m:Md)(P:W->Prop)(R:Addr->Prop):Dn:=⟨fall m P,P,fun _=>False,fun _=>False,R⟩
noncomputable def wI(ns:List Int):W:=.lst (ns.map W.int)
theorem bJ{b:W->Dn->Ev->Prop}{D:Dn}{ws:List W}{ε:Ev}(J:Nat->Ev->Prop)(h0:J 0 ε)(hs:∀i w ε N,ws[i]?=some w->J i ε->(∀ε',J (i+1) ε'->N ε')->b w ⟨N,D.rt,D.nx,N,fun _=>False⟩ ε)(he:∀ε,J ws.length ε->D.nx ε):j4 b D ws ε:=by
 have:∀k i ε,i+k=ws.length->J i ε->j4 b D (ws.drop i) ε:=by
  intro k
  induction k with
  |zero=>
   intro i ε e j
   rw[List.drop_of_length_le (by lia),j4]
   exact he ε (by rw[←e];exact j)
  |succ k ih=>
   intro i ε e j
   have hlt:i<ws.length:=by lia
   rw[Xt hlt,j4]
   exact hs i _ ε _ (BM hlt) j fun ε' j'=>ih (i+1) ε' (by lia) j'
 exact this ws.length 0 ε (by lia) h0
theorem aT{x y:Int}{n m:Nat}(h:x.natAbs<2^n)(h2:y.natAbs<2^m)(hs:n+m<=134217728):IntMulOk x y:=z6 (FC (Nat.add_le_add (bits_le h) (bits_le h2)) hs)
theorem gM{y:Int}{n:Nat}(h:y.natAbs<2^n)(hn:n<=8000):y.natAbs.log2<9000:=by
 rcases Nat.eq_zero_or_pos y.natAbs with e|e
 ·rw[e];decide
 ·have:=(Nat.log2_lt (Nat.ne_of_gt e)).mpr h
  lia
theorem Cc(r:Rat):(r.den:Int).natAbs=r.den:=Int.natAbs_natCast _
theorem mj(r:Rat):(r.den:Int)≠0:=by have:=r.den_pos;lia
theorem Vs(a b:Rat):Rat.divInt (a.num*b.den+b.num*a.den) (a.den*b.den)=a+b:=by
 conv=>rhs;rw[←Qr a,←Qr b]
 exact(Rat.divInt_add_divInt _ _ (mj a) (mj b)).symm
theorem Rn(a b:Rat):Rat.divInt (a.num*b.num) (a.den*b.den)=a*b:=by
 conv=>rhs;rw[←Qr a,←Qr b]
 exact(Rat.divInt_mul_divInt _ _).symm
noncomputable def jB:List CS:=[.ret (.comp [0] true 1 (.var 0) (.bl true) (.bin .Mult (.var 2) (.var 0)))]
noncomputable def jW:bT:=fun ws Q _=>∃(ns:List Int) (b:Int),ws=[wI ns,.int b]/\ns.length<=1000/\(∀x∈ns,IntMulOk b x)/\Q (wI (ns.map (b*·)))
theorem Hr{Φ:Nat->bT}{G:Nat->W}{m:Md}(ws:List W)(Q:W->Prop)(R:Addr->Prop)(h:jW ws Q R):wSs Φ G jB (cj m Q R) (aA 2 ws):=by
 obtain⟨ns,b,rfl,hl,hb,hq⟩:=h
 show wSs _ _ jB _ [some (wI ns),some (.int b)]
 unfold jB wI
 walk_at "vs"
 refine gf (g:=fun x=>.int (b*x)) ns [] _ (fun x hx K hK=>⟨hb x hx,hK⟩) (af (by simpa using hl)) ?_
 rw[List.nil_append]
 unfold wI at hq
 rw[Pl]at hq
 exact hq
noncomputable def mq:List CS:=[.E7 (.cmp .NotEq (.var 1) (.int 0)) [.par [0,1] [(.var 1),(.bin .Mod (.var 0) (.var 1))]],.ret (.blt .abs [(.var 0)])]
noncomputable def yj:bT:=fun ws Q _=>∃a b:Int,ws=[.int a,.int b]/\Q (.int (Int.gcd a b:Nat))
theorem Lm{Φ:Nat->bT}{G:Nat->W}{m:Md}(ws:List W)(Q:W->Prop)(R:Addr->Prop)(h:yj ws Q R):wSs Φ G mq (cj m Q R) (aA 2 ws):=by
 obtain⟨a,b,rfl,hq⟩:=h
 show wSs _ _ mq _ [some (.int a),some (.int b)]
 unfold mq
 walk_at "vs"
 refine jz (α:=Int×Int) (fun x=>[some (.int x.1),some (.int x.2)]) (fun x=>Int.gcd x.1 x.2=Int.gcd a b) (fun x=>x.2.natAbs) (a,b) rfl rfl ?_
 rintro⟨x,y⟩ hx
 walk_at "vs"
 refine fE (fun hk=>?_) (fun hk=>?_)
 ·have y0:y≠0:=by simpa using hk
  have e2:=yf x y (x.fdiv y)
  have e3:=G9 x y y0
  rw[←Num.fmod_eq]at e2 e3
  walk_at "vs"
  exact⟨y0,rfl,(y,x.fmod y),rfl,e2.trans hx,e3⟩
 ·have y0:y=0:=by simpa using hk
  subst y0
  walk_at "vs"
  have e:(if x<0 then-x else x)=((Int.gcd a b:Nat):Int):=by
   rw[←hx,Int.gcd_zero_right]
   split<;>lia
  rw[e]
  exact hq
noncomputable def jC:List CS:=[.set 2 (.call 0 [(.var 0),(.var 1)]),.iff (.cmp .Lt (.var 1) (.int 0)) [.set 2 (.bin .Sub (.int 0) (.var 2))] [],.ret (.tup [(.bin .FloorDiv (.var 0) (.var 2)),(.bin .FloorDiv (.var 1) (.var 2))])]
noncomputable def gB:bT:=fun ws Q _=>∃(t b:Int) (n:Nat),ws=[.int t,.int b]/\n<=8000/\b≠0/\b.natAbs<2^n/\Q (wq (Rat.divInt t b))
theorem Ht{G:Nat->W}{m:Md}(ws:List W)(Q:W->Prop)(R:Addr->Prop)(h:gB ws Q R):wSs (cu [yj]) G jC (cj m Q R) (aA 3 ws):=by
 obtain⟨t,b,n,rfl,hn,hb,hbn,hq⟩:=h
 show wSs _ _ jC _ [some (.int t),some (.int b),none]
 unfold jC
 walk_at "vs"
 refine⟨t,b,rfl,?_⟩
 obtain⟨f1,f2,f3⟩:=yi t b hb
 have lg:((Int.gcd t b:Nat):Int).natAbs<2^n:=by
  have:((Int.gcd t b:Nat):Int)<=b.natAbs:=Int.le_of_dvd (by clear f3 f2 f1 hbn;lia) (by rw[Int.dvd_natAbs];exact Sr ..)
  omega
 unfold wq at hq
 generalize((Int.gcd t b:Nat):Int)=g at*
 rw[f2,f3]at hq
 by_cases h0:b<0
 ·rw[Bi h0]at f1 hq
  rw[Bi (Hn h0)]
  walk_at "vs"
  rw[Int.zero_sub]
  have ld:=gM (y:= -g) (by omega) hn
  exact⟨⟨f1,ld⟩,⟨f1,ld⟩,af (by simp),hq⟩
 ·rw[B1 h0]at f1 hq
  rw[B1 (by rw[KM];exact h0)]
  have ld:=gM (y:=g) lg hn
  exact⟨⟨f1,ld⟩,⟨f1,ld⟩,af (by simp),hq⟩
noncomputable def yk:List CS:=[.ret (.call 0 [(.bin .Add (.bin .Mult (.ix (.var 0) (.int 0)) (.ix (.var 1) (.int 1))) (.bin .Mult (.ix (.var 1) (.int 0)) (.ix (.var 0) (.int 1)))),(.bin .Mult (.ix (.var 0) (.int 1)) (.ix (.var 1) (.int 1)))])]
noncomputable def oV(f:Rat->Rat->Rat):bT:=fun ws Q _=>∃(a b:Rat) (n m:Nat),ws=[wq a,wq b]/\Bd n a/\Bd m b/\n+m<=8000/\Q (wq (f a b))
theorem Vt{G:Nat->W}{m:Md}(ws:List W)(Q:W->Prop)(R:Addr->Prop)(h:oV HAdd.hAdd ws Q R):wSs (cu [gB]) G yk (cj m Q R) (aA 2 ws):=by
 obtain⟨a,b,n,k,rfl,ba,bb,hnm,hq⟩:=h
 show wSs _ _ yk _ [some (wq a),some (wq b)]
 have bad:(a.den:Int).natAbs<2^n:=by rw[Cc];exact ba.2
 have SO:(b.den:Int).natAbs<2^k:=by rw[Cc];exact bb.2
 unfold yk
 walk_at "vs"
 refine⟨_,rfl,_,rfl,aT ba.1 SO (by lia),_,rfl,_,rfl,aT bb.1 bad (by lia),_,rfl,_,rfl,aT bad SO (by lia),?_⟩
 refine⟨_,_,n+k,rfl,hnm,Mo (mj a) (mj b),by rw[HI];exact lt_mul bad SO,?_⟩
 rw[Vs]
 exact hq
noncomputable def iH:List CS:=[.ret (.call 0 [(.bin .Mult (.ix (.var 0) (.int 0)) (.ix (.var 1) (.int 0))),(.bin .Mult (.ix (.var 0) (.int 1)) (.ix (.var 1) (.int 1)))])]
theorem EA{G:Nat->W}{m:Md}(ws:List W)(Q:W->Prop)(R:Addr->Prop)(h:oV HMul.hMul ws Q R):wSs (cu [gB]) G iH (cj m Q R) (aA 2 ws):=by
 obtain⟨a,b,n,k,rfl,ba,bb,hnm,hq⟩:=h
 show wSs _ _ iH _ [some (wq a),some (wq b)]
 have bad:(a.den:Int).natAbs<2^n:=by rw[Cc];exact ba.2
 have SO:(b.den:Int).natAbs<2^k:=by rw[Cc];exact bb.2
 unfold iH
 walk_at "vs"
 refine⟨_,rfl,_,rfl,aT ba.1 bb.1 (by lia),_,rfl,_,rfl,aT bad SO (by lia),?_⟩
 refine⟨_,_,n+k,rfl,hnm,Mo (mj a) (mj b),by rw[HI];exact lt_mul bad SO,?_⟩
 rw[Rn]
 exact hq
noncomputable def ym:List CS:=[.set 1 (.blt .list [(.var 0)]),.E7 (.and [(.cmp .NotEq (.var 1) (.lst [])),(.cmp .Eq (.ix (.ix (.var 1) (.neg (.int 1))) (.int 0)) (.int 0))]) [.drop 1],.ret (.var 1)]
noncomputable def Ln:bT:=fun ws Q _=>∃rs:List Rat,ws=[aq rs]/\Q (aq (cO rs))
theorem Vu{Φ:Nat->bT}{G:Nat->W}{m:Md}(ws:List W)(Q:W->Prop)(R:Addr->Prop)(h:Ln ws Q R):wSs Φ G ym (cj m Q R) (aA 2 ws):=by
 obtain⟨rs,rfl,hq⟩:=h
 show wSs _ _ ym _ [some (aq rs),none]
 unfold ym
 simp only[wSs,wS,wE,wA,look,List.set]
 unfold aq
 walk_at "vs"
 refine jz (α:=List Rat) (fun x=>[some (aq rs),some (aq x)]) (fun x=>cO x=cO rs) (fun x=>x.length) rs rfl rfl ?_
 rintro us hu
 walk_at "vs"
 refine⟨af (by simp),Hf (y:=[]) fun k hk=>?_⟩
 walk_at "vs"
 rcases List.eq_nil_or_concat us with rfl|⟨t,y,rfl⟩
 ·cases di hk rfl
  walk_at "vs"
  refine fE (fun z=>by cases z) (fun _=>?_)
  walk_at "vs"
  rw[←hu]at hq
  exact hq
 ·rw[List.concat_eq_append]at*
  cases bY hk (by simp)
  walk_at "vs"
  refine⟨_,qJ List.getLast?_concat,_,rfl,?_⟩
  walk_at "vs"
  refine fE (fun z=>?_) (fun z=>?_)
  ·have yn:y=0:=Rat.num_eq_zero.mp (Bz z)
   subst yn
   unfold aq
   walk_at "vs"
   refine⟨wq 0,?_,t,?_,?_,?_⟩
   ·simp
   ·rw[Fm]
    simp
   ·rw[←hu,lu]
   ·simp
  ·have y0:y≠0:=fun e=>by
    rw[e]at z
    cases z
   walk_at "vs"
   rw[ly t y0]at hu
   rw[←hu]at hq
   exact hq
end VL
namespace Num
theorem yo(l:List Rat)(k:Nat):(l++[0]).getD k 0=l.getD k 0:=by
 rw[AC,AC]
 by_cases h:k<l.length
 ·rw[OF h]
 ·rw[Nw (by lia),FK (l:=l) (by lia)]
  cases hk:k -l.length with
  |zero=>rfl
  |succ n=>rfl
theorem Lo(l:List Rat)(k:Nat):(cO l).getD k 0=l.getD k 0:=by
 generalize hn:l.length=n
 induction n generalizing l with
 |zero=>
  have:l=[]:=SZ.mp hn
  subst this
  rfl
 |succ n ih=>
  have hne:l≠[]:=fun z=>by rw[z]at hn;cases hn
  obtain⟨l',x,rfl⟩:∃l' x,l=l'++[x]:=⟨l.dropLast,l.getLast hne,(List.dropLast_concat_getLast hne).symm⟩
  by_cases x0:x=0
  ·subst x0
   rw[lu,ih l' (by simpa using hn),yo]
  ·rw[ly _ x0]
theorem Lp{n:Nat}{f:Nat->Rat}(k:Nat):(iT n f).getD k 0=if k<n then f k else 0:=by
 by_cases h:k<n
 ·rw[Bi h,AC,Cb h]
  rfl
 ·rw[B1 h]
  exact qL (by rw[iG];lia)
noncomputable def yp(f:Nat->Rat):Nat->Rat
 |0=>0
 |n+1=>yp f n+f n
theorem pP{f g:Nat->Rat}:∀n,(∀i,i<n->f i=g i)->yp f n=yp g n
 |0,_=>rfl
 |n+1,h=>by rw[yp,yp,pP n fun i hi=>h i (by lia),h n (by lia)]
theorem jD{f:Nat->Rat}{m:Nat}:∀n,m<=n->(∀i,m<=i->i<n->f i=0)->yp f n=yp f m
 |0,h,_=>by
  have:m=0:=by lia
  rw[this]
 |n+1,h,z=>by
  by_cases e:m=n+1
  ·rw[e]
  ·rw[yp,jD n (by lia) (fun i h1 h2=>z i h1 (by lia)),z n (by lia) (by lia),Rat.add_zero]
noncomputable def Jf(f g:Nat->Rat)(k:Nat):Rat:=yp (fun i=>f i*g (k -i)) (k+1)
theorem Hu(as bs:List Rat)(k:Nat):∀n,zF as bs n k=yp (fun i=>as.getD i 0*(if i<=k then bs.getD (k -i) 0 else 0)) n
 |0=>rfl
 |n+1=>by rw[zF,Hu as bs k n,yp]
theorem Ro(as bs:List Rat)(k:Nat):zF as bs as.length k=Jf (fun i=>as.getD i 0) (fun i=>bs.getD i 0) k:=by
 rw[Hu]
 unfold Jf
 rcases Nat.le_total as.length (k+1)with h|h
 ·rw[←jD (k+1) h fun i h1 _=>by rw[qL h1,Rat.zero_mul]]
  exact pP _ fun i hi=>by rw[Bi (by lia)]
 ·rw[jD as.length h fun i h1 _=>by rw[B1 (by lia),Rat.mul_zero]]
  exact pP _ fun i hi=>by rw[Bi (by lia)]
theorem Rp(a b:List Rat)(k:Nat):(mulQ a b).getD k 0=Jf (fun i=>a.getD i 0) (fun i=>b.getD i 0) k:=by
 unfold mulQ
 rw[Lp]
 by_cases h:k<a.length+b.length -1
 ·rw[Bi h,Ro]
 ·rw[B1 h]
  unfold Jf
  rw[jD (m:=0) (k+1) (NM _) fun i _ hi=>?_]
  ·rfl
  ·show a.getD i 0*b.getD (k -i) 0=0
   by_cases hi2:i<a.length
   ·rw[qL (rs:=b) (by omega),Rat.mul_zero]
   ·rw[qL (rs:=a) (by omega),Rat.zero_mul]
theorem vG(c:Int)(f:Nat->Int):∀n,sm (fun i=>c*f i) n=c*sm f n
 |0=>by rw[sm,sm,Re]
 |n+1=>by rw[sm,sm,vG c f n,Int.mul_add]
theorem Hv(f g:Nat->Int):∀n,sm (fun i=>f i+g i) n=sm f n+sm g n
 |0=>rfl
 |n+1=>by rw[sm,sm,sm,Hv f g n];lia
theorem Hw(p:Nat)(v:Nat->Int):∀n,sm (fun i=>if i=p then v i else 0) n=if p<n then v p else 0
 |0=>by rw[sm,B1 (by lia)]
 |n+1=>by
  rw[sm,Hw p v n]
  by_cases h:p<n
  ·rw[Bi h,B1 (by lia),Bi (by lia)];lia
  ·rw[B1 h]
   by_cases e:n=p
   ·subst e
    rw[Bi rfl,Bi (by lia)];lia
   ·rw[B1 e,B1 (by lia)];lia
noncomputable def sG(f g:Nat->Int)(k:Nat):Int:=sm (fun i=>f i*g (k -i)) (k+1)
theorem Ce(c h:Int)(Q O:Nat->Int)(p k:Nat):sG (fun i=>c*Q i+if i=p then h else 0) O k=c*sG Q O k+if p<=k then h*O (k -p)else 0:=by
 unfold sG
 rw[jA (g:=fun i=>c*(Q i*O (k -i))+if i=p then h*O (k -i)else 0) (k+1) fun i _=>?_,Hv,vG,Hw p fun i=>h*O (k -i)]
 ·by_cases hp:p<=k
  ·rw[Bi hp,Bi (show p<k+1 by lia)]
  ·rw[B1 hp,B1 (show¬p<k+1 by lia)]
 ·split
  ·grind
  ·grind
theorem Cf(O:Nat->Int)(k:Nat):sG (fun _=>0) O k=0:=by
 unfold sG
 rw[jA (g:=fun i=>0*0) (k+1) fun i _=>by rw[Int.zero_mul,Int.zero_mul],vG,Int.zero_mul]
noncomputable def AG(ns ms:List Int)(l:Int)(s:Nat)(Q:Nat->Int)(R:List Int):Prop:=∀k,l^s*ns.getD k 0=sG Q (fun i=>ms.getD i 0) k+R.getD k 0
theorem AG.start(ns ms:List Int)(l:Int):AG ns ms l 0 (fun _=>0) ns:=fun k=>by
 rw[Cf,Q1]
 lia
theorem outI{ns:List Int}{k:Nat}(h:ns.length<=k):ns.getD k 0=0:=by
 rw[AC,FK h]
 rfl
theorem AG.step{ns ms:List Int}{l:Int}{s p:Nat}{Q:Nat->Int}{R R':List Int}(h:AG ns ms l s Q R)(hm:0<ms.length)(hl:l=ms.getD (ms.length -1) 0)(hR:R.length=p+ms.length)(hR':R'.length=p+ms.length -1)
 (hs:∀k,k<p+ms.length -1->R'.getD k 0=l*R.getD k 0 -if p<=k then R.getD (p+ms.length -1) 0*ms.getD (k -p) 0 else 0):
 AG ns ms l (s+1) (fun i=>l*Q i+if i=p then R.getD (p+ms.length -1) 0 else 0) R':=fun k=>by
 rw[Ce,Kj]
 have e:=h k
 have e2:l^s*l*ns.getD k 0=l*sG Q (fun i=>ms.getD i 0) k+l*R.getD k 0:=by
  rw[←Int.mul_add,←e]
  grind
 rw[e2]
 by_cases h1:k<p+ms.length -1
 ·rw[hs k h1]
  lia
 ·by_cases h2:k=p+ms.length -1
  ·subst h2
   rw[outI (ns:=R') (by lia),Bi (by lia),show p+ms.length -1 -p=ms.length -1 by lia,←hl]
   grind
  ·rw[outI (ns:=R) (k:=k) (by lia),outI (ns:=R') (by lia)]
   split
   ·rw[outI (ns:=ms) (by lia)]
    grind
   ·grind
noncomputable def Cd(D:Int)(n:Nat)(x:Rat):Prop:=∃z:Int,x*D=z/\z.natAbs<2^n
theorem Cd.zero(D:Int)(n:Nat):Cd D n 0:=⟨0,by show(0:Rat)*D=((0:Int):Rat);grind,PQ (by decide)⟩
theorem Cd.up{D:Int}{n m:Nat}{x:Rat}(h:Cd D n x)(hm:n<=m):Cd D m x:=by
 obtain⟨z,h1,h2⟩:=h
 exact⟨z,h1,GE h2 (Ha (by decide) hm)⟩
theorem Cd.dvd{D:Int}{n:Nat}{x:Rat}(h:Cd D n x):(x.den:Int)∣D/\(x.num*(D/x.den)).natAbs<2^n:=by
 obtain⟨z,h1,h2⟩:=h
 have e:x.num*D=z*x.den:=by
  have e:=B9 x
  have:((x.num*D:Int):Rat)=((z*x.den:Int):Rat):=by
   rw[Gc,Gc,←e,←h1]
   grind
  exact Rat.intCast_inj.mp this
 have d:(x.den:Int)∣D:=by
  have c:Nat.Coprime x.den x.num.natAbs:=Nat.Coprime.symm x.reduced
  have hn:x.den∣x.num.natAbs*D.natAbs:=⟨z.natAbs,by
   have:=TB Int.natAbs e
   rw[HI,HI,Int.natAbs_natCast]at this
   rw[this,Y2]⟩
  have:=c.dvd_of_dvd_mul_left hn
  rw[←Int.natAbs_natCast x.den]at this
  exact Int.natAbs_dvd_natAbs.mp this
 refine⟨d,?_⟩
 have:((x.num*(D/x.den):Int):Rat)=(z:Rat):=by rw[jV d,h1]
 rw[Rat.intCast_inj.mp this]
 exact h2
theorem Cd.of{D:Int}{n:Nat}{x:Rat}(d:(x.den:Int)∣D)(h:(x.num*(D/x.den)).natAbs<2^n):Cd D n x:=⟨_,(jV d).symm,h⟩
theorem Cd.eq{D:Int}{n:Nat}{x:Rat}(hD:D≠0)(h:Cd D n x):∃z:Int,x=Rat.divInt z D/\z.natAbs<2^n:=by
 obtain⟨z,h1,h2⟩:=h
 refine⟨z,?_,h2⟩
 rw[Rat.divInt_eq_div,←h1]
 have:=Rm hD
 grind
theorem Cd.bd{D:Int}{n:Nat}{x:Rat}(hD:D≠0)(h:Cd D n x)(hn:D.natAbs<2^n):Bd n x:=by
 obtain⟨z,rfl,h2⟩:=h.eq hD
 have:=B8 z D hD
 exact⟨by lia,by lia⟩
theorem Cd.mul{D1 D2:Int}{n m:Nat}{x y:Rat}(h1:Cd D1 n x)(h2:Cd D2 m y):Cd (D1*D2) (n+m) (x*y):=by
 obtain⟨z,a1,a2⟩:=h1
 obtain⟨w,b1,b2⟩:=h2
 refine⟨z*w,by rw[Gc,Gc,←a1,←b1];grind,?_⟩
 rw[HI]
 exact lt_mul a2 b2
theorem Cd.get{D:Int}{n:Nat}{rs:List Rat}(h:∀x∈rs,Cd D n x)(k:Nat):Cd D n (rs.getD k 0):=by
 by_cases hk:k<rs.length
 ·rw[AC,BM hk]
  exact h _ (On hk)
 ·rw[qL (by lia)]
  exact Cd.zero _ _
theorem AH{D1 D2:Int}{n m:Nat}{rs ss:List Rat}(h1:∀x∈rs,Cd D1 n x)(h2:∀x∈ss,Cd D2 m x)(k:Nat):∀i,∃z:Int,zF rs ss i k*((D1*D2:Int):Rat)=z/\z.natAbs<=i*2^(n+m)
 |0=>⟨0,by show(0:Rat)*_=((0:Int):Rat);grind,by simp⟩
 |i+1=>by
  obtain⟨z,a1,a2⟩:=AH h1 h2 k i
  have hc:Cd D2 m (if i<=k then ss.getD (k -i) 0 else 0):=by
   split
   ·exact Cd.get h2 _
   ·exact Cd.zero _ _
  obtain⟨w,b1,b2⟩:=(Cd.get h1 i).mul hc
  refine⟨z+w,?_,?_⟩
  ·rw[zF,Rat.intCast_add,←a1,←b1]
   grind
  ·rw[Nat.add_mul]
   omega
theorem Lq{D1 D2:Int}{n m:Nat}{rs ss:List Rat}(h1:∀x∈rs,Cd D1 n x)(h2:∀x∈ss,Cd D2 m x)(i j k:Nat)(hi:i<31):Cd (D1*D2) (n+m+5) (gK rs ss i j k):=by
 obtain⟨z,a1,a2⟩:=AH h1 h2 k i
 have hc:Cd (D1*D2) (n+m) (if i<=k/\k<i+j then rs.getD i 0*ss.getD (k -i) 0 else 0):=by
  split
  ·exact(Cd.get h1 i).mul (Cd.get h2 _)
  ·exact Cd.zero _ _
 obtain⟨w,b1,b2⟩:=hc
 unfold gK
 refine⟨z+w,?_,?_⟩
 ·rw[Rat.intCast_add,←a1,←b1]
  grind
 ·have e:2^(n+m+5)=32*2^(n+m):=by rw[Ts];omega
  have:i*2^(n+m)<=30*2^(n+m):=U2 _ (by omega)
  omega
theorem Lr{D1 D2:Int}{n m:Nat}{rs ss:List Rat}(h1:∀x∈rs,Cd D1 n x)(h2:∀x∈ss,Cd D2 m x)(hl:rs.length<31):∀x∈mulQ rs ss,Cd (D1*D2) (n+m+5) x:=fun x hx=>by
 obtain⟨k,_,rfl⟩:=Hq hx
 obtain⟨z,a1,a2⟩:=AH h1 h2 k rs.length
 refine⟨z,a1,?_⟩
 have e:2^(n+m+5)=32*2^(n+m):=by rw[Ts];lia
 have:rs.length*2^(n+m)<=30*2^(n+m):=U2 _ (by lia)
 have:0<2^(n+m):=PQ (by decide)
 lia
noncomputable def qM:List Rat->Int
 |[]=>1
 |r::rs=>r.den*qM rs
theorem yq:∀rs:List Rat,0<qM rs
 |[]=>by decide
 |r::rs=>Int.mul_pos (dpos r) (yq rs)
theorem Cg{n:Nat}:∀rs:List Rat,(∀x∈rs,Bd n x)->(qM rs).natAbs<2^(n*rs.length+1)
 |[],_=>by show 1<2^(n*0+1);rw[Nat.mul_zero];decide
 |r::rs,h=>by
  have ih:=Cg rs fun y hy=>h y (Bn _ hy)
  have hr:=(h r (DD ..)).2
  show((r.den:Int)*qM rs).natAbs<_
  rw[HI,Int.natAbs_natCast,List.length_cons,Nat.mul_add,Nat.mul_one,show n*rs.length+n+1=n+(n*rs.length+1) by lia]
  exact lt_mul hr ih
end Num
namespace VL
open PySem PySem.Spec
open PyProof.Rows hiding St
open L2 Num
theorem Ci:W.tup [.int 0,.int 1]=wq 0:=rfl
theorem iU{n i:Nat}{w:W}(h:(eU 0 1 n)[i]?=some w):i<n/\w=.int i:=by
 unfold eU at h
 rw[FS]at h
 obtain⟨j,e,rfl⟩:=OK.mp h
 obtain⟨h1,h2⟩:=Fs.mp e
 rw[List.getElem_range]at h2
 rw[He]at h1
 refine⟨h1,?_⟩
 rw[←h2]
 simp
noncomputable def dj:List CS:=[.set 2 (.bin .Mult (.lst [(.tup [(.int 0),(.int 1)])]) (.blt .max2 [(.int 0),(.bin .Sub (.bin .Add (.blt .len [(.var 0)]) (.blt .len [(.var 1)])) (.int 1))])),.fr [3] true (.jn [(.blt .len [(.var 0)])]) [.fr [4] true (.jn [(.blt .len [(.var 1)])]) [.put 2 (.bin .Add (.var 3) (.var 4)) (.call 0 [(.ix (.var 2) (.bin .Add (.var 3) (.var 4))),(.call 1 [(.ix (.var 0) (.var 3)),(.ix (.var 1) (.var 4))])])]],.ret (.call 2 [(.var 2)])]
noncomputable def eW:bT:=fun ws Q _=>∃(as bs:List Rat) (n m:Nat),ws=[aq as,aq bs]/\(∀x∈as,Bd n x)/\(∀x∈bs,Bd m x)/\(∃N':Nat,(∀i j k,i<as.length->Bd N' (gK as bs i j k))/\N'+(n+m)<=8000)/\as.length<=100/\bs.length<=100/\Q (aq (cO (mulQ as bs)))
theorem jX(n:Nat):(eU 0 1 n).length=n:=by
 unfold eU
 simp
theorem bF{l:List W}{k:Nat}{w:W}(h:l[k]?=some w):kP l (k:Int)=some w:=by
 unfold kP zD
 have:=(Fs.mp h).1
 rw[Bi (by lia),Bi (by lia)]
 simpa using h
theorem iV{n k:Nat}(h:k<n):zD n (k:Int)=some k:=by
 unfold zD
 rw[Bi (by lia),Bi (by lia)]
 simp
theorem vH{rs:List Rat}{k:Nat}(h:k<rs.length):(rs.map wq)[k]?=some (wq (rs.getD k 0)):=by
 rw[FS,AC,BM h]
 rfl
theorem vI{G:Nat->W}{m:Md}(ws:List W)(Q:W->Prop)(R:Addr->Prop)(h:eW ws Q R):wSs (cu [oV HAdd.hAdd,oV HMul.hMul,Ln]) G dj (cj m Q R) (aA 5 ws):=by
 obtain⟨as,bs,n,k,rfl,ha,hb,⟨N',hf,hN⟩,la,lb,hq⟩:=h
 show wSs _ _ dj _ [some (aq as),some (aq bs),none,none,none]
 unfold dj aq
 walk_at "vs"
 simp only[Ci]
 refine⟨af (by simp),af (by simp),?_⟩
 have em:(if((as.map wq).length:Int)+((bs.map wq).length:Int) -1>0 then((as.map wq).length:Int)+((bs.map wq).length:Int) -1 else 0)=((as.length+bs.length -1:Nat):Int):=by
  rw[Ap,Ap]
  split<;>lia
 rw[em,Int.toNat_natCast,cN]
 refine⟨by lia,by lia,af (by simp;lia),by rw[Ap];lia,by rw[Ap];lia,?_⟩
 rw[Int.toNat_natCast,Ap]
 refine bJ (fun i ε=>∃o3 o4,ε=[some (.lst (as.map wq)),some (.lst (bs.map wq)),some (.lst ((iT (as.length+bs.length -1) (zF as bs i)).map wq)),o3,o4]) ⟨none,none,?_⟩ ?_ ?_
 ·have:iT (as.length+bs.length -1) (zF as bs 0)=List.replicate (as.length+bs.length -1) 0:=by
   unfold iT
   have:zF as bs 0=fun _=>0:=rfl
   rw[this,List.map_const',He]
  rw[this,List.map_replicate]
 ·rintro i w _ N1 hw ⟨o3,o4,rfl⟩ AI
  obtain⟨hi,rfl⟩:=iU hw
  walk_at "vs"
  refine⟨by rw[Ap];lia,by rw[Ap];lia,?_⟩
  rw[Int.toNat_natCast,Ap]
  refine bJ (fun j ε=>∃o4,ε=[some (.lst (as.map wq)),some (.lst (bs.map wq)),some (.lst ((iT (as.length+bs.length -1) (gK as bs i j)).map wq)),some (.int i),o4]) ⟨o4,?_⟩ ?_ ?_
  ·rw[show gK as bs i 0=zF as bs i from funext fun k=>Ey as bs i k]
  ·rintro j w _ N2 Ak ⟨o4,rfl⟩ AJ
   obtain⟨hj,rfl⟩:=iU Ak
   have e:(i:Int)+(j:Int)=((i+j:Nat):Int):=by lia
   have hl:i+j<(iT (as.length+bs.length -1) (gK as bs i j)).length:=by rw[iG];lia
   walk_at "vs"
   rw[e]
   refine⟨_,bF (vH hl),_,bF (vH hi),_,bF (vH hj),?_⟩
   have ba:Bd n (as.getD i 0):=ha _ (by rw[AC,BM hi];exact On _)
   have bb:Bd k (bs.getD j 0):=hb _ (by rw[AC,BM hj];exact On _)
   refine⟨_,_,n,k,rfl,ba,bb,by lia,?_⟩
   have ec:(iT (as.length+bs.length -1) (gK as bs i j)).getD (i+j) 0=gK as bs i j (i+j):=by
    rw[AC,Cb (by rw[iG]at hl;exact hl)]
    rfl
   rw[ec]
   refine⟨_,_,N',n+k,rfl,hf i j _ hi,AB ba bb,hN,i+j,iV (by rw[Ap];exact hl),AJ _ ⟨some (.int j),?_⟩⟩
   have es:(iT (as.length+bs.length -1) (gK as bs i j)).set (i+j) (gK as bs i j (i+j)+as.getD i 0*bs.getD j 0)=iT (as.length+bs.length -1) (gK as bs i (j+1)):=by
    have z:=Ho (n:=as.length+bs.length -1) (f:=gK as bs i j) (g:=gK as bs i (j+1)) (k:=i+j) (by rw[iG]at hl;exact hl) (fun q _ hq=>by rw[um,B1 hq,Rat.add_zero])
    rw[um,Bi rfl]at z
    exact z
   rw[←cx,es]
  ·rintro _ ⟨o4,rfl⟩
   refine AI _ ⟨some (.int i),o4,?_⟩
   rw[jX,show gK as bs i bs.length=zF as bs (i+1)from funext fun k=>Ez as bs i k]
 ·rintro _ ⟨o3,o4,rfl⟩
  walk_at "vs"
  rw[jX]
  exact⟨_,rfl,hq⟩
noncomputable def qN(k:Int)(r:Rat):Prop:=(k=0->r.num.natAbs<=4/\r.den<=3)/\(k=1->r.num.natAbs<=1000/\r.den=1)/\(k=2->r.num.natAbs<=1000000/\r.den<=1000)/\Bd 100 r
theorem vJ{k t b:Int}(hb:0<b)(h0:k=0->t.natAbs<=4/\b<=3)(h1:k≠1)(h2:k=2->t.natAbs<=1000000/\b<=1000)(h3:t.natAbs<2^100/\b.natAbs<2^100):qN k (Rat.divInt t b):=by
 obtain⟨f1,f2⟩:=B8 t b (by omega)
 exact⟨fun e=>⟨by have:=h0 e;lia,by have:=h0 e;omega⟩,fun e=>absurd e h1,fun e=>⟨by have:=h2 e;lia,by have:=h2 e;omega⟩,KE f1 h3.1,KE f2 h3.2⟩
noncomputable def jE:List CS:=[.iff (.cmp .Eq (.var 3) (.int 0)) [.ret (.call 0 [(.bin .Sub (.bin .Mod (.var 0) (.int 9)) (.int 4)),(.bin .Add (.int 1) (.bin .Mod (.var 1) (.int 3)))])] [],.iff (.cmp .Eq (.var 3) (.int 1)) [.ret (.tup [(.bin .Sub (.bin .Mod (.var 0) (.int 2001)) (.int 1000)),(.int 1)])] [],.iff (.cmp .Eq (.var 3) (.int 2)) [.ret (.call 0 [(.bin .Sub (.bin .Mod (.var 0) (.int 2000001)) (.int 1000000)),(.bin .Add (.int 1) (.bin .Mod (.var 1) (.int 1000)))])] [],.set 4 (.bin .Add (.bin .Add (.bin .Add (.bin .Mult (.var 0) (.bin .Pow (.int 10) (.int 21))) (.bin .Mult (.var 1) (.bin .Pow (.int 10) (.int 12)))) (.bin .Mult (.var 2) (.bin .Pow (.int 10) (.int 3)))) (.bin .Mod (.var 0) (.int 1000))),.set 5 (.bin .Add (.bin .Add (.bin .Add (.bin .Mult (.var 1) (.bin .Pow (.int 10) (.int 21))) (.bin .Mult (.var 2) (.bin .Pow (.int 10) (.int 12)))) (.bin .Mult (.var 0) (.bin .Pow (.int 10) (.int 3)))) (.bin .Mod (.var 1) (.int 1000))),.ret (.call 0 [(.bin .Sub (.bin .Mod (.var 4) (.bin .Add (.bin .Mult (.int 2) (.bin .Pow (.int 10) (.int 30))) (.int 1))) (.bin .Pow (.int 10) (.int 30))),(.bin .Add (.int 1) (.bin .Mod (.var 5) (.bin .Pow (.int 10) (.int 30))))])]
noncomputable def pQ:bT:=fun ws Q _=>∃x y z k:Int,ws=[.int x,.int y,.int z,.int k]/\(0<=x/\x<1000000007)/\(0<=y/\y<1000000007)/\(0<=z/\z<1000000007)/\∀r,qN k r->Q (wq r)
theorem fm{x:Int}{n:Int}(hn:0<n):0<=x.fmod n/\x.fmod n<n:=⟨dA x hn,Int.fmod_lt_of_pos x hn⟩
theorem Hx{G:Nat->W}{m:Md}(ws:List W)(Q:W->Prop)(R:Addr->Prop)(h:pQ ws Q R):wSs (cu [gB]) G jE (cj m Q R) (aA 6 ws):=by
 obtain⟨x,y,z,k,rfl,hx,hy,hz,hq⟩:=h
 show wSs _ _ jE _ [some (.int x),some (.int y),some (.int z),some (.int k),none,none]
 unfold jE
 walk_at "vs"
 by_cases k0:k=0
 ·rw[Bi (Hn k0)]
  have f1:=fm (x:=x) (n:=9) (by decide)
  have f2:=fm (x:=y) (n:=3) (by decide)
  refine⟨by decide,by decide,_,_,2,rfl,by decide,by clear f2 f1 k0 hz hy hx;lia,by omega,hq _ (vJ (by clear f2 f1 k0 hz hy hx;lia) (fun _=>by clear f2 f1 k0 hz hy hx;lia) (by omega) (fun _=>by lia) ⟨KE (show _<=4 by clear f2 f1 k0 hz hy hx;lia) (by decide),KE (show _<=3 by omega) (by decide)⟩)⟩
 rw[B1 (by rw[KM];exact k0)]
 by_cases k1:k=1
 ·rw[Bi (Hn k1)]
  have f1:=fm (x:=x) (n:=2001) (by decide)
  refine⟨by decide,af (by simp),?_⟩
  have:=hq ((x.fmod 2001 -1000:Int):Rat) ⟨fun e=>absurd e k0,fun _=>⟨?_,rfl⟩,fun e=>absurd e (by lia),?_,?_⟩
  ·exact this
  ·show(x.fmod 2001 -1000).natAbs<=1000
   clear f1 k1 k0 hz hy hx;lia
  ·show(x.fmod 2001 -1000).natAbs<_
   exact KE (show _<=1000 by clear f1 k1 k0 hz hy hx;lia) (by decide)
  ·exact Nat.one_lt_two_pow (by decide)
 rw[B1 (by rw[KM];exact k1)]
 by_cases k2:k=2
 ·rw[Bi (Hn k2)]
  have f1:=fm (x:=x) (n:=2000001) (by decide)
  have f2:=fm (x:=y) (n:=1000) (by decide)
  refine⟨by decide,by decide,_,_,11,rfl,by decide,by clear f2 f1 k2 k1 k0 hz hy hx;lia,by omega,hq _ (vJ (by clear f2 f1 k2 k1 k0 hz hy hx;lia) (fun _=>by lia) k1 (fun _=>by clear f2 f1 k2 k1 k0 hz hy hx;lia) ⟨KE (show _<=1000000 by clear f2 f1 k2 k1 k0 hz hy hx;lia) (by decide),KE (show _<=1000 by omega) (by decide)⟩)⟩
 rw[B1 (by rw[KM];exact k2)]
 have ZH:sJ 10 21:=fT (by decide) (by decide) (by decide)
 have c12:sJ 10 12:=fT (by decide) (by decide) (by decide)
 have c3:sJ 10 3:=fT (by decide) (by decide) (by decide)
 have X7:sJ 10 30:=fT (by decide) (by decide) (by decide)
 have e21:(10:Int)^Int.toNat 21=1000000000000000000000:=rfl
 have e12:(10:Int)^Int.toNat 12=1000000000000:=rfl
 have e3:(10:Int)^Int.toNat 3=1000:=rfl
 have e30:(10:Int)^Int.toNat 30=1000000000000000000000000000000:=rfl
 rw[e21,e12,e3,e30]
 have mo:∀(u v:Int),0<=u->u<1000000007->v.natAbs<2^101->IntMulOk u v:=fun u v h1 h2 h3=>aT (n:=30) (m:=101) (by lia) h3 (by decide)
 refine⟨ZH,mo _ _ hx.1 hx.2 (by decide),c12,mo _ _ hy.1 hy.2 (by decide),c3,mo _ _ hz.1 hz.2 (by decide),by decide,ZH,mo _ _ hy.1 hy.2 (by decide),c12,mo _ _ hz.1 hz.2 (by decide),c3,mo _ _ hx.1 hx.2 (by decide),by decide,X7,mo _ _ (by decide) (by decide) (by decide),by decide,X7,X7,by decide,?_⟩
 generalize x*1000000000000000000000+y*1000000000000+z*1000+x.fmod 1000=t
 generalize y*1000000000000000000000+z*1000000000000+x*1000+y.fmod 1000=b
 have f1:=fm (x:=t) (n:=2*1000000000000000000000000000000+1) (by decide)
 have f2:=fm (x:=b) (n:=1000000000000000000000000000000) (by decide)
 have p1:(1000000000000000000000000000000:Nat)<2^100:=by decide
 refine⟨_,_,100,rfl,by decide,by omega,by omega,hq _ (vJ (by omega) (fun e=>absurd e k0) k1 (fun e=>absurd e k2) ⟨by omega,by omega⟩)⟩
theorem aW{Φ:Nat->bT}{G:Nat->W}{s t:CS}{ts:List CS}{D:Dn}{ε:Ev}(J:Ev->Prop)(h1:∀N:Ev->Prop,(∀ε',J ε'->N ε')->wS Φ G s {D with nx:=N} ε)(h2:∀ε',J ε'->wSs Φ G (t::ts) D ε'):wSs Φ G (s::t::ts) D ε:=h1 _ h2
noncomputable def mw:List CS:=[.set 2 (.int 0),.iff (.or [(.cmp .Lt (.var 0) (.int 0)),(.cmp .GtE (.var 0) (.bin .Pow (.int 10) (.int 18)))]) [.set 2 (.blt .abs [(.var 0)])] [],.set 3 (.bin .Add (.bin .Mod (.var 0) (.int 1999999943)) (.int 3)),.set 4 (.bin .Add (.bin .Mod (.bin .Mult (.var 3) (.var 3)) (.int 1999999973)) (.int 1)),.set 5 (.lst []),.fr [6] true (.jn [(.var 1)]) [.set 3 (.bin .Mod (.bin .Add (.bin .Add (.bin .Add (.bin .Mult (.var 3) (.var 3)) (.var 4)) (.bin .Mult (.int 2) (.var 6))) (.int 1)) (.int 1999999973)),.set 4 (.bin .Mod (.bin .Add (.bin .Add (.bin .Mult (.var 4) (.int 69069)) (.bin .Mult (.var 3) (.int 40692))) (.var 6)) (.int 1999999943)),.set 7 (.bin .Mod (.bin .Add (.var 3) (.bin .Mult (.var 4) (.var 4))) (.int 1000000007)),.iff (.cmp .Gt (.var 2) (.int 0)) [.set 7 (.bin .Mod (.var 2) (.int 1000000007)),.set 2 (.bin .FloorDiv (.var 2) (.int 1000000007))] [],.app 5 (.var 7)],.ret (.var 5)]
noncomputable def qO:bT:=fun ws Q _=>∃(c m:Int),ws=[.int c,.int m]/\0<=m/\m<=900/\∀ns:List Int,(ns.length:Int)=m->(∀n∈ns,0<=n/\n<1000000007)->Q (wI ns)
theorem Ls{Φ:Nat->bT}{G:Nat->W}{m:Md}(ws:List W)(Q:W->Prop)(R:Addr->Prop)(h:qO ws Q R):wSs Φ G mw (cj m Q R) (aA 8 ws):=by
 obtain⟨c,k,rfl,k0,k1,hq⟩:=h
 show wSs _ _ mw _ [some (.int c),some (.int k),none,none,none,none,none,none]
 unfold mw
 refine aW (fun ε'=>ε'=[some (.int c),some (.int k),some (.int 0),none,none,none,none,none]) (fun N hN=>?_) ?_
 ·walk_at "vs"
  exact hN _ rfl
 rintro _ rfl
 refine aW (fun ε'=>∃r:Int,0<=r/\ε'=[some (.int c),some (.int k),some (.int r),none,none,none,none,none]) (fun N hN=>?_) ?_
 ·walk_at "vs"
  by_cases h:c<0
  ·rw[Bi (Hn h)]
   exact hN _ ⟨_,by split<;>lia,rfl⟩
  ·rw[B1 (by rw[KM];exact h)]
   refine⟨fT (by decide) (by decide) (by decide),?_⟩
   split
   ·exact hN _ ⟨_,by lia,rfl⟩
   ·exact hN _ ⟨0,by decide,rfl⟩
 rintro _ ⟨r,hr,rfl⟩
 have f1:=fm (x:=c) (n:=1999999943) (by decide)
 have ZI:(2000000000:Nat)<2^31:=by decide
 walk_at "vs"
 refine⟨by decide,aT (n:=31) (m:=31) (by clear ZI f1 hr k1 k0;lia) (by clear ZI f1 hr k1 k0;lia) (by decide),by decide,af (by simp),by lia,by lia,?_⟩
 obtain⟨x,hx⟩:∃x,x=c.fmod 1999999943+3:=⟨_,rfl⟩
 rw[←hx]
 have f2:=fm (x:=x*x) (n:=1999999973) (by decide)
 generalize(x*x).fmod 1999999973=y at*
 refine bJ (fun i ε=>∃(r x y:Int) (ns:List Int) (o6 o7:Option W),((0<=r/\0<=x/\x<2000000000/\0<=y/\y<2000000000)/\ns.length=i/\∀n∈ns,0<=n/\n<1000000007)/\ε=[some (.int c),some (.int k),some (.int r),some (.int x),some (.int y),some (wI ns),o6,o7]) ⟨r,x,y+1,[],none,none,⟨⟨hr,by lia,by lia,by lia,by lia⟩,rfl,by simp⟩,rfl⟩ ?_ ?_
 ·rintro i w _ N hw ⟨r,x,y,ns,o6,o7,⟨⟨hr,x0,x1,y0,y1⟩,hl,hb⟩,rfl⟩ hN
  obtain⟨hi,rfl⟩:=iU hw
  unfold wI
  walk_at "vs"
  have g1:=fm (x:=x*x+y+2*(i:Int)+1) (n:=1999999973) (by decide)
  generalize(x*x+y+2*(i:Int)+1).fmod 1999999973=u at*
  have g2:=fm (x:=y*69069+u*40692+(i:Int)) (n:=1999999943) (by decide)
  generalize(y*69069+u*40692+(i:Int)).fmod 1999999943=v at*
  have g3:=fm (x:=u+v*v) (n:=1000000007) (by decide)
  generalize(u+v*v).fmod 1000000007=q at*
  have g4:=fm (x:=r) (n:=1000000007) (by decide)
  have li:(ns.map W.int).length<sizeLine:=vC (by rw[Ap];lia)
  have app:∀z:Int,0<=z/\z<1000000007->(ns++[z]).length=i+1/\∀n∈ns++[z],0<=n/\n<1000000007:=fun z hz=>by
   refine⟨by rw[Ee,hl];rfl,fun n hn=>?_⟩
   rcases GM.mp hn with h|h
   ·exact hb n h
   ·rw[Fh.mp h]
    exact hz
  have mo:∀a b:Int,0<=a->a<2000000000->0<=b->b<2000000000->IntMulOk a b:=fun a b h1 h2 h3 h4=>aT (n:=31) (m:=31) (by lia) (by lia) (by decide)
  refine⟨mo _ _ x0 x1 x0 x1,mo _ _ (by decide) (by decide) (by lia) (by lia),by decide,mo _ _ y0 y1 (by decide) (by decide),mo _ _ g1.1 (by lia) (by decide) (by decide),by decide,mo _ _ g2.1 (by lia) g2.1 (by lia),by decide,?_⟩
  by_cases h:0<r
  ·rw[Bi (Hn h)]
   refine⟨by decide,⟨by decide,by decide⟩,li,hN _ ⟨r.fdiv 1000000007,u,v,ns++[r.fmod 1000000007],some (.int i),some (.int (r.fmod 1000000007)),⟨⟨Int.fdiv_nonneg hr (by decide),by lia,by lia,by lia,by lia⟩,app _ g4⟩,?_⟩⟩
   unfold wI
   rw[Fm]
   rfl
  ·rw[B1 (by rw[KM];exact h)]
   refine⟨li,hN _ ⟨r,u,v,ns++[q],some (.int i),some (.int q),⟨⟨hr,by lia,by lia,by lia,by lia⟩,app _ g3⟩,?_⟩⟩
   unfold wI
   rw[Fm]
   rfl
 ·rintro _ ⟨r,x,y,ns,o6,o7,⟨_,hl,hb⟩,rfl⟩
  walk_at "vs"
  rw[jX]at hl
  exact hq ns (by lia) hb
theorem EB(k:Int):qN k 0:=⟨fun _=>by decide,fun _=>by decide,fun _=>by decide,PQ (by decide),Nat.one_lt_two_pow (by decide)⟩
theorem int_at{ns:List Int}{k:Nat}(h:k<ns.length):(ns.map W.int)[k]?=some (.int (ns.getD k 0)):=by
 rw[FS,AC,BM h]
 rfl
theorem AK{ns:List Int}{P:Int->Prop}(h:∀n∈ns,P n){k:Nat}(hk:k<ns.length):P (ns.getD k 0):=by
 rw[AC,BM hk]
 exact h _ (On _)
noncomputable def yr:List CS:=[.set 3 (.call 0 [(.var 0),(.bin .Add (.bin .Mult (.int 3) (.var 1)) (.int 2))]),.set 4 (.lst []),.fr [5] true (.jn [(.bin .Mod (.ix (.var 3) (.int 0)) (.bin .Add (.var 1) (.int 1)))]) [.set 6 (.call 1 [(.ix (.var 3) (.bin .Add (.int 2) (.bin .Mult (.int 3) (.var 5)))),(.ix (.var 3) (.bin .Add (.int 3) (.bin .Mult (.int 3) (.var 5)))),(.ix (.var 3) (.bin .Add (.int 4) (.bin .Mult (.int 3) (.var 5)))),(.var 2)]),.iff (.cmp .Eq (.bin .Mod (.bin .RShift (.ix (.var 3) (.int 1)) (.var 5)) (.int 4)) (.int 1)) [.set 6 (.tup [(.int 0),(.int 1)])] [],.app 4 (.var 6)],.E7 (.and [(.cmp .NotEq (.var 4) (.lst [])),(.cmp .Eq (.ix (.ix (.var 4) (.neg (.int 1))) (.int 0)) (.int 0))]) [.drop 4],.ret (.var 4)]
noncomputable def Lu:bT:=fun ws Q _=>∃(c m k:Int),ws=[.int c,.int m,.int k]/\0<=m/\m<=21/\∀rs:List Rat,rs.length<=m.toNat->(∀x∈rs,qN k x)->cA rs->Q (aq rs)
theorem Vv{G:Nat->W}{md:Md}(ws:List W)(Q:W->Prop)(R:Addr->Prop)(h:Lu ws Q R):wSs (cu [qO,pQ]) G yr (cj md Q R) (aA 7 ws):=by
 obtain⟨c,m,k,rfl,m0,m1,hq⟩:=h
 show wSs _ _ yr _ [some (.int c),some (.int m),some (.int k),none,none,none,none]
 unfold yr
 walk_at "vs"
 refine⟨aT (n:=2) (m:=5) (by decide) (by lia) (by decide),c,3*m+2,rfl,by lia,by lia,fun xs hl hb=>?_⟩
 have l2:2<=xs.length:=by lia
 unfold wI
 walk_at "vs"
 refine⟨af (by simp),_,bF (k:=0) (int_at (by lia)),?_⟩
 walk_at "vs"
 have f1:=fm (x:=xs.getD 0 0) (n:=m+1) (by lia)
 generalize(xs.getD 0 0).fmod (m+1)=n at*
 refine⟨by lia,by lia,by lia,?_⟩
 refine bJ (fun i ε=>∃(rs:List Rat) (o5 o6:Option W),(rs.length=i/\∀x∈rs,qN k x)/\ε=[some (.int c),some (.int m),some (.int k),some (.lst (xs.map W.int)),some (.lst (rs.map wq)),o5,o6]) ⟨[],none,none,⟨rfl,by simp⟩,rfl⟩ ?_ ?_
 ·rintro i w _ N hw ⟨rs,o5,o6,⟨hr,hk⟩,rfl⟩ hN
  obtain⟨hi,rfl⟩:=iU hw
  walk_at "vs"
  have mo:IntMulOk 3 (i:Int):=aT (n:=2) (m:=10) (by decide) (by lia) (by decide)
  have X8:∀j:Nat,j<=4->kP (xs.map W.int) ((j:Int)+3*(i:Int))=some (.int (xs.getD (j+3*i) 0)):=fun j hj=>by
   rw[show(j:Int)+3*(i:Int)=((j+3*i:Nat):Int) by lia]
   exact bF (int_at (by lia))
  have Yb:∀j:Nat,j<=4->0<=xs.getD (j+3*i) 0/\xs.getD (j+3*i) 0<1000000007:=fun j hj=>AK hb (by lia)
  have li:(rs.map wq).length<sizeLine:=vC (by rw[Ap];lia)
  have app:∀z:Rat,qN k z->(rs++[z]).length=i+1/\∀x∈rs++[z],qN k x:=fun z hz=>by
   refine⟨by rw[Ee,hr];rfl,fun x hx=>?_⟩
   rcases GM.mp hx with h|h
   ·exact hk x h
   ·rw[Fh.mp h]
    exact hz
  refine⟨mo,_,X8 2 (by decide),mo,_,X8 3 (by decide),mo,_,X8 4 (by decide),_,_,_,k,rfl,Yb 2 (by decide),Yb 3 (by decide),Yb 4 (by decide),fun q hqk=>⟨_,bF (k:=1) (int_at (by lia)),?_⟩⟩
  walk_at "vs"
  refine⟨by lia,by decide,?_⟩
  split
  ·exact⟨af (by simp),li,hN _ ⟨rs++[0],_,_,app 0 (EB k),by rw[Fm];rfl⟩⟩
  ·exact⟨li,hN _ ⟨rs++[q],_,_,app q hqk,by rw[Fm];rfl⟩⟩
 ·rintro _ ⟨rs,o5,o6,⟨hr,hk⟩,rfl⟩
  rw[jX]at hr
  walk_at "vs"
  refine jz (α:=List Rat) (fun x=>[some (.int c),some (.int m),some (.int k),some (.lst (xs.map W.int)),some (aq x),o5,o6]) (fun x=>x.length<=m.toNat/\∀y∈x,qN k y) (fun x=>x.length) rs rfl ⟨by lia,hk⟩ ?_
  rintro us ⟨hu,hn⟩
  walk_at "vs"
  refine⟨af (by simp),Hf (y:=[]) fun b ZJ=>?_⟩
  walk_at "vs"
  rcases List.eq_nil_or_concat us with rfl|⟨t,y,rfl⟩
  ·cases di ZJ rfl
   walk_at "vs"
   refine fE (fun z=>by cases z) (fun _=>?_)
   walk_at "vs"
   exact hq [] hu hn fun x hx=>by cases hx
  ·rw[List.concat_eq_append]at*
   cases bY ZJ (by simp)
   walk_at "vs"
   refine⟨_,qJ List.getLast?_concat,_,rfl,?_⟩
   walk_at "vs"
   refine fE (fun z=>?_) (fun z=>?_)
   ·unfold aq
    walk_at "vs"
    refine⟨wq y,by simp,t,by rw[Fm];simp,⟨?_,fun x hx=>hn x (PH _ hx)⟩,by simp⟩
    rw[Ee]at hu
    lia
   ·have y0:y≠0:=fun e=>by
     rw[e]at z
     cases z
    walk_at "vs"
    exact hq _ hu hn fun x hx=>by
     rw[List.getLast?_concat]at hx
     cases hx
     exact y0
theorem Hy(ns:List Int)(k:Nat)(h:k<=ns.length):nK (ns.map W.int) none (some (k:Int))=(ns.take k).map W.int:=by
 unfold nK
 rw[HT.JC,HT.xA,Ap,List.drop_zero,show min k ns.length -0=k by lia,List.map_take]
noncomputable def iI:List CS:=[.set 1 (.blt .len [(.var 0)]),.E7 (.and [(.cmp .Gt (.var 1) (.int 0)),(.cmp .Eq (.ix (.var 0) (.bin .Sub (.var 1) (.int 1))) (.int 0))]) [.set 1 (.bin .Sub (.var 1) (.int 1))],.ret (.sl (.var 0) .aU (.var 1))]
noncomputable def jF:bT:=fun ws Q _=>∃ns:List Int,ws=[wI ns]/\∀ms,iS ns ms->Q (wI ms)
theorem EC{Φ:Nat->bT}{G:Nat->W}{m:Md}(ws:List W)(Q:W->Prop)(R:Addr->Prop)(h:jF ws Q R):wSs Φ G iI (cj m Q R) (aA 2 ws):=by
 obtain⟨ns,rfl,hq⟩:=h
 show wSs _ _ iI _ [some (wI ns),none]
 unfold iI wI
 walk_at "vs"
 refine jz (α:=Nat) (fun k=>[some (.lst (ns.map W.int)),some (.int k)]) (fun k=>k<=ns.length/\∀j,k<=j->j<ns.length->ns.getD j 0=0) (fun k=>k) ns.length (by rw[Ap]) ⟨Do _,fun j h1 h2=>by lia⟩ ?_
 rintro k ⟨h1,h2⟩
 walk_at "vs"
 have fin:(k=0\/ns.getD (k -1) 0≠0)->Q (.lst (nK (ns.map W.int) none (some (k:Int)))):=fun h=>by
  rw[Hy ns k h1]
  exact hq _ ⟨k,h1,rfl,h2,h⟩
 by_cases hk:0<k
 ·rw[Bi (Hn (by lia))]
  rw[show(k:Int) -1=((k -1:Nat):Int) by lia]
  refine⟨_,bF (int_at (by lia)),?_⟩
  walk_at "vs"
  refine fE (fun z=>?_) (fun z=>?_)
  ·have z:=Bz z
   walk_at "vs"
   refine⟨k -1,by rw[show(k:Int) -1=((k -1:Nat):Int) by lia],⟨by lia,fun j a b=>?_⟩,by show k -1<k;lia⟩
   by_cases e:j=k -1
   ·rw[e]
    exact z
   ·exact h2 j (by lia) b
  ·have z:=of_decide_eq_false z
   walk_at "vs"
   exact fin (.inr z)
 ·rw[B1 (by rw[KM];lia)]
  refine fE (fun z=>by cases z) (fun _=>?_)
  walk_at "vs"
  exact fin (.inl (by lia))
noncomputable def dw:List CS:=[.set 2 (.blt .max2 [(.blt .len [(.var 0)]),(.blt .len [(.var 1)])]),.set 3 (.bin .Add (.blt .list [(.var 0)]) (.bin .Mult (.lst [(.int 0)]) (.bin .Sub (.var 2) (.blt .len [(.var 0)])))),.fr [4,5] false (.uX (.var 1)) [.put 3 (.var 4) (.bin .Add (.ix (.var 3) (.var 4)) (.var 5))],.ret (.call 0 [(.var 3)])]
noncomputable def gC:bT:=fun ws Q _=>∃ns ms:List Int,ws=[wI ns,wI ms]/\ns.length<=200/\ms.length<=200/\∀ts,iS ((List.range (max ns.length ms.length)).map fun k=>ns.getD k 0+ms.getD k 0) ts->Q (wI ts)
theorem vK{G:Nat->W}{m:Md}(ws:List W)(Q:W->Prop)(R:Addr->Prop)(h:gC ws Q R):wSs (cu [jF]) G dw (cj m Q R) (aA 6 ws):=by
 obtain⟨ns,ms,rfl,ln,lm,hq⟩:=h
 show wSs _ _ dw _ [some (wI ns),some (wI ms),none,none,none,none]
 unfold dw wI
 walk_at "vs"
 have em:(if((ms.map W.int).length:Int)>((ns.map W.int).length:Int)then((ms.map W.int).length:Int)else((ns.map W.int).length:Int))=((max ns.length ms.length:Nat):Int):=by
  rw[Ap,Ap]
  split<;>lia
 rw[em]
 have ed:((max ns.length ms.length:Nat):Int) -((ns.map W.int).length:Int)=((max ns.length ms.length -ns.length:Nat):Int):=by
  rw[Ap]
  clear em lm ln;lia
 rw[ed,Int.toNat_natCast,cN]
 generalize hL:max ns.length ms.length=L at*
 refine⟨af (by simp),by clear ed em hL lm ln;lia,by clear ed em;lia,af (by simp;clear ed em;lia),af (by simp;clear ed em;lia),?_⟩
 have Vw:∀(f:Nat->Int) (k:Nat),k<L->((List.range L).map f)[k]?=some (f k):=fun f k hk=>by
  rw[FS,SC hk]
  rfl
 refine bJ (fun i ε=>∃o4 o5,ε=[some (.lst (ns.map W.int)),some (.lst (ms.map W.int)),some (.int L),some (.lst (((List.range L).map fun k=>ns.getD k 0+if k<i then ms.getD k 0 else 0).map W.int)),o4,o5]) ⟨none,none,?_⟩ ?_ ?_
 ·have:ns.map W.int++List.replicate (L -ns.length) (W.int 0)=((List.range L).map fun k=>ns.getD k 0+if k<0 then ms.getD k 0 else 0).map W.int:=by
   refine de fun q=>?_
   by_cases h1:q<ns.length
   ·rw[OF (by simpa using h1),int_at h1,FS,Vw _ q (by lia),B1 (by lia),Int.add_zero]
    rfl
   ·by_cases h2:q<L
    ·rw[Nw (by simpa using h1),Wp,Bi (by rw[Ap];omega),FS,Vw _ q h2,B1 (by lia),AC,FK (by lia)]
     rfl
    ·rw[FK (by simp;omega),FK (by simp;lia)]
  rw[this]
 ·rintro i w _ N hw ⟨o4,o5,rfl⟩ hN
  obtain⟨x,hx,rfl⟩:=nN hw
  have hi:i<ms.length:=by
   have:=(Fs.mp hx).1
   simpa using this
  rw[int_at hi]at hx
  cases hx
  walk_at "vs"
  have hl:i<L:=by omega
  refine⟨rfl,_,bF (by rw[FS,Vw _ i hl];rfl),?_⟩
  walk_at "vs"
  refine⟨i,iV (by simpa using hl),hN _ ⟨some (.int i),some (.int (ms.getD i 0)),?_⟩⟩
  have:((List.range L).map fun k=>ns.getD k 0+if k<i then ms.getD k 0 else 0).set i (ns.getD i 0+(if i<i then ms.getD i 0 else 0)+ms.getD i 0)=(List.range L).map fun k=>ns.getD k 0+if k<i+1 then ms.getD k 0 else 0:=by
   refine de fun q=>?_
   rw[Ya]
   by_cases h2:q<L
   ·rw[Vw _ q h2,Vw _ q h2]
    by_cases e:i=q
    ·subst e
     rw[Bi rfl,Bi (by simpa using hl),B1 (by lia),Bi (by lia)]
     congr 1
     lia
    ·rw[B1 e]
     by_cases h3:q<i
     ·rw[Bi h3,Bi (by lia)]
     ·rw[B1 h3,B1 (by lia)]
   ·rw[B1 (by lia),FK (by simp;lia),FK (by simp;lia)]
  rw[←this,cx]
 ·rintro _ ⟨o4,o5,rfl⟩
  have le:(jc (ms.map W.int)).length=ms.length:=by
   unfold jc
   simp
  rw[le]
  walk_at "vs"
  refine⟨_,rfl,fun ts ht=>hq ts ?_⟩
  have:((List.range L).map fun k=>ns.getD k 0+if k<ms.length then ms.getD k 0 else 0)=(List.range L).map fun k=>ns.getD k 0+ms.getD k 0:=by
   refine aw fun k _=>?_
   by_cases h:k<ms.length
   ·rw[Bi h]
   ·rw[B1 h,AC (l:=ms),FK (by lia)]
    rfl
  rw[←this]
  exact ht
noncomputable def cP:List CS:=[.ret (.call 0 [(.var 0),(.call 1 [(.var 1),(.neg (.int 1))])])]
noncomputable def fJ:bT:=fun ws Q _=>∃(ns ms:List Int) (b:Nat),ws=[wI ns,wI ms]/\ns.length<=200/\ms.length<=200/\b<=100000000/\(∀x∈ms,x.natAbs<2^b)/\∀ts,iS ((List.range (max ns.length ms.length)).map fun k=>ns.getD k 0 -ms.getD k 0) ts->Q (wI ts)
theorem sP{G:Nat->W}{m:Md}(ws:List W)(Q:W->Prop)(R:Addr->Prop)(h:fJ ws Q R):wSs (cu [gC,jW]) G cP (cj m Q R) (aA 2 ws):=by
 obtain⟨ns,ms,b,rfl,ln,lm,hb,hms,hq⟩:=h
 show wSs _ _ cP _ [some (wI ns),some (wI ms)]
 unfold cP
 walk_at "vs"
 refine⟨ms,-1,rfl,by lia,fun x hx=>aT (n:=1) (m:=b) (by decide) (hms x hx) (by lia),?_⟩
 refine⟨ns,ms.map (-1*·),rfl,ln,by rw[Ap];exact lm,fun ts ht=>hq ts ?_⟩
 rw[Ap]at ht
 have:((List.range (max ns.length ms.length)).map fun k=>ns.getD k 0+(ms.map (-1*·)).getD k 0)=(List.range (max ns.length ms.length)).map fun k=>ns.getD k 0 -ms.getD k 0:=by
  refine aw fun k _=>?_
  rw[AC (l:=ms.map _),FS,AC (l:=ms)]
  cases ms[k]? with
  |none=>show _+(0:Int)=_ -(0:Int);lia
  |some z=>show _+ -1*z=_ -z;lia
 rw[←this]
 exact ht
noncomputable def jG:List CS:=[.set 2 (.int 1),.E7 (.cmp .Gt (.var 1) (.int 0)) [.iff (.cmp .Eq (.bin .Mod (.var 1) (.int 2)) (.int 1)) [.set 2 (.bin .Mult (.var 2) (.var 0))] [],.set 1 (.bin .FloorDiv (.var 1) (.int 2)),.iff (.cmp .Gt (.var 1) (.int 0)) [.set 0 (.bin .Mult (.var 0) (.var 0))] []],.ret (.var 2)]
noncomputable def eH:bT:=fun ws Q _=>∃(x:Int) (e n:Nat),ws=[.int x,.int e]/\x.natAbs<2^n/\n*(e+1)<=60000000/\Q (.int (x^e))
theorem Yc{x:Int}{n:Nat}(h:x.natAbs<2^n)(e:Nat):(x^e).natAbs<2^(n*e+1):=by
 rw[Int.natAbs_pow]
 have:x.natAbs^e<=(2^n)^e:=SB (SL h) e
 rw[←cn]at this
 rw[Nat.pow_succ]
 have:=PQ (n:=n*e) (show 0<2 by decide)
 lia
theorem Hz{Φ:Nat->bT}{G:Nat->W}{m:Md}(ws:List W)(Q:W->Prop)(R:Addr->Prop)(h:eH ws Q R):wSs Φ G jG (cj m Q R) (aA 3 ws):=by
 obtain⟨x,e,n,rfl,hx,hn,hq⟩:=h
 show wSs _ _ jG _ [some (.int x),some (.int e),none]
 unfold jG
 walk_at "vs"
 refine jz (α:=Nat×Nat×Nat) (fun s=>[some (.int (x^s.1)),some (.int s.2.1),some (.int (x^s.2.2))]) (fun s=>s.1*s.2.1+s.2.2=e/\(0<s.2.1->0<s.1)) (fun s=>s.2.1) (1,e,0) (by show _=[some (W.int (x^1)),some (W.int (e:Int)),some (W.int (x^0))];rw[Kj,Q1,UF]) ⟨by show 1*e+0=e;lia,fun _=>by show 0<1;decide⟩ ?_
 rintro⟨a,d,p⟩ ⟨hs,ha⟩
 dsimp only at hs ha
 walk_at "vs"
 refine fE (fun z=>?_) (fun z=>?_)
 ·have d0:0<d:=by have:=Bz z;lia
  have a0:=ha d0
  have ae:a<=e:=by
   have:a*1<=a*d:=Dx a d0
   lia
  have pe:p<=e:=by lia
  have bd:∀q,q<=e->(x^q).natAbs<2^(n*e+1):=fun q hq'=>GE (Yc hx q) (Ha (by decide) (Nat.add_le_add_right (Dx n hq') 1))
  have ne:n*e<=60000000:=FC (Dx n (Nat.le_succ e)) hn
  have mo:∀q r,q<=e->r<=e->IntMulOk (x^q) (x^r):=fun q r h1 h2=>aT (bd q h1) (bd r h2) (by lia)
  have e1:(d:Int).fmod 2=((d%2:Nat):Int):=by rw[eD _ (by decide)];lia
  have e2:(d:Int).fdiv 2=((d/2:Nat):Int):=by rw[X2 _ (by decide)];lia
  have cd:Bx (d:Int) 2:=⟨by decide,by decide⟩
  walk_at "vs"
  rw[e1,e2]
  refine⟨by decide,?_⟩
  have hd:a*d=a*(2*(d/2))+a*(d%2):=by rw[←Nat.mul_add,Nat.div_add_mod]
  have e3:a*(2*(d/2))=2*a*(d/2):=by rw[Y2 2 a,Nat.mul_assoc]
  split
  ·rename_i h
   have h:=Bz h
   have o:d%2=1:=by lia
   rw[o,Nat.mul_one]at hd
   refine⟨mo p a pe ae,cd,?_⟩
   split
   ·refine⟨mo a a ae ae,(2*a,d/2,p+a),?_,⟨?_,fun _=>?_⟩,?_⟩
    ·show[some (W.int (x^a*x^a)),some (W.int ((d/2:Nat):Int)),some (W.int (x^p*x^a))]=[some (W.int (x^(2*a))),some (W.int ((d/2:Nat):Int)),some (W.int (x^(p+a)))]
     rw[dt,Nat.two_mul,dt]
    ·show 2*a*(d/2)+(p+a)=e
     lia
    ·show 0<2*a
     lia
    ·show d/2<d
     lia
   ·rename_i h2
    rw[KM]at h2
    refine⟨(a,d/2,p+a),?_,⟨?_,fun z=>?_⟩,?_⟩
    ·show[some (W.int (x^a)),some (W.int ((d/2:Nat):Int)),some (W.int (x^p*x^a))]=[some (W.int (x^a)),some (W.int ((d/2:Nat):Int)),some (W.int (x^(p+a)))]
     rw[dt]
    ·show a*(d/2)+(p+a)=e
     have z2:d/2=0:=by lia
     rw[z2]at hd e3⊢
     lia
    ·exact a0
    ·show d/2<d
     lia
  ·rename_i h
   rw[KM]at h
   have o:d%2=0:=by lia
   rw[o,Nat.mul_zero]at hd
   refine⟨cd,?_⟩
   split
   ·refine⟨mo a a ae ae,(2*a,d/2,p),?_,⟨?_,fun _=>?_⟩,?_⟩
    ·show[some (W.int (x^a*x^a)),some (W.int ((d/2:Nat):Int)),some (W.int (x^p))]=[some (W.int (x^(2*a))),some (W.int ((d/2:Nat):Int)),some (W.int (x^p))]
     rw[Nat.two_mul,dt]
    ·show 2*a*(d/2)+p=e
     lia
    ·show 0<2*a
     lia
    ·show d/2<d
     lia
   ·rename_i h2
    rw[KM]at h2
    lia
 ·have d0:d=0:=by have:=of_decide_eq_false z;lia
  subst d0
  walk_at "vs"
  have:p=e:=by lia
  rw[this]
  exact hq
noncomputable def tabI(n:Nat)(f:Nat->Int):List Int:=(List.range n).map f
theorem iW{n k:Nat}{f:Nat->Int}(h:k<n):(tabI n f)[k]?=some (f k):=by
 unfold tabI
 rw[FS,SC h]
 rfl
theorem bV(n:Nat)(f:Nat->Int):(tabI n f).length=n:=by unfold tabI;simp
theorem mz{n k:Nat}{f g:Nat->Int}(h:k<n)(hg:∀j,j<n->j≠k->g j=f j):(tabI n f).set k (g k)=tabI n g:=by
 refine de fun q=>?_
 rw[Ya]
 by_cases h2:q<n
 ·rw[iW h2,iW h2]
  by_cases e:k=q
  ·subst e
   rw[Bi rfl,Bi (by rw[bV];exact h)]
  ·rw[B1 e,hg q h2 (Qb e)]
 ·rw[B1 (by lia),FK (by rw[bV];lia),FK (by rw[bV];lia)]
theorem Rq{x y:List Int}{Q:W->Prop}(h:∀k:Bool,(k=true↔x=y)->Q (.bl k)):eT .Eq (wI x) (wI y) Q:=by
 have pl:∀z:List Int,dS 9 (.lst (z.map W.int))=true:=fun z=>by
  rw[dS,KB]
  intro w hw
  obtain⟨i,_,rfl⟩:=Iy.mp hw
  exact pM i 8
 refine⟨.inl ⟨pl x,pl y⟩,fun k hk=>h k (hk.trans ⟨fun e=>?_,fun e=>by rw[e]⟩)⟩
 unfold wI at e
 rw[W.lst.injEq]at e
 exact(List.map_inj_right (fun a b e=>W.int.inj e)).mp e
theorem Cj{ms:List Int}{i:Nat}{w:W}(h:(jc (ms.map W.int))[i]?=some w):i<ms.length/\w=.tup [.int i,.int (ms.getD i 0)]:=by
 obtain⟨x,hx,rfl⟩:=nN h
 have hi:i<ms.length:=by
  have:=(Fs.mp hx).1
  simpa using this
 rw[int_at hi]at hx
 cases hx
 exact⟨hi,rfl⟩
theorem yt(ms:List Int):(jc (ms.map W.int)).length=ms.length:=by
 unfold jc
 simp
noncomputable def cS:List CS:=[.iff (.or [(.cmp .Eq (.var 0) (.lst [])),(.cmp .Eq (.var 1) (.lst []))]) [.ret (.lst [])] [],.set 2 (.bin .Mult (.lst [(.int 0)]) (.bin .Sub (.bin .Add (.blt .len [(.var 0)]) (.blt .len [(.var 1)])) (.int 1))),.fr [3,4] false (.uX (.var 0)) [.iff (.cmp .NotEq (.var 4) (.int 0)) [.fr [5,6] false (.uX (.var 1)) [.put 2 (.bin .Add (.var 3) (.var 5)) (.bin .Add (.ix (.var 2) (.bin .Add (.var 3) (.var 5))) (.bin .Mult (.var 4) (.var 6)))]] []],.ret (.var 2)]
noncomputable def fK:bT:=fun ws Q _=>∃as bs:List Int,ws=[wI as,wI bs]/\as.length<=200/\bs.length<=200/\(∀x∈as,∀y∈bs,IntMulOk x y)/\Q (wI (if as=[]\/bs=[]then[]else tabI (as.length+bs.length -1) (cf as bs as.length)))
theorem sQ{Φ:Nat->bT}{G:Nat->W}{m:Md}(ws:List W)(Q:W->Prop)(R:Addr->Prop)(h:fK ws Q R):wSs Φ G cS (cj m Q R) (aA 7 ws):=by
 obtain⟨as,bs,rfl,la,lb,hm,hq⟩:=h
 show wSs _ _ cS _ [some (wI as),some (wI bs),none,none,none,none,none]
 unfold cS
 refine aW (fun ε'=>(as≠[]/\bs≠[])/\ε'=[some (wI as),some (wI bs),none,none,none,none,none]) (fun N hN=>?_) ?_
 ·walk_at "vs"
  refine⟨af (by simp),Rq (y:=[]) fun k1 h1=>?_⟩
  walk_at "vs"
  by_cases ea:as=[]
  ·cases di h1 ea
   rw[Bi rfl]
   rw[Bi (.inl ea)]at hq
   exact⟨af (by simp),hq⟩
  ·cases bY h1 ea
   rw[B1 (by decide)]
   refine⟨af (by simp),Rq (y:=[]) fun k2 h2=>?_⟩
   walk_at "vs"
   by_cases eb:bs=[]
   ·cases di h2 eb
    rw[Bi rfl]
    rw[Bi (.inr eb)]at hq
    exact⟨af (by simp),hq⟩
   ·cases bY h2 eb
    rw[B1 (by decide)]
    exact hN _ ⟨⟨ea,eb⟩,rfl⟩
 rintro _ ⟨⟨ea,eb⟩,rfl⟩
 rw[B1 (fun z=>z.elim ea eb)]at hq
 have a0:=Hb.mpr ea
 unfold wI at*
 walk_at "vs"
 have em:((as.map W.int).length:Int)+((bs.map W.int).length:Int) -1=((as.length+bs.length -1:Nat):Int):=by
  rw[Ap,Ap]
  lia
 rw[em,Int.toNat_natCast,cN]
 refine⟨af (by simp),by lia,by lia,af (by simp;lia),?_⟩
 refine bJ (fun i ε=>∃o3 o4 o5 o6,ε=[some (.lst (as.map W.int)),some (.lst (bs.map W.int)),some (.lst ((tabI (as.length+bs.length -1) (cf as bs i)).map W.int)),o3,o4,o5,o6]) ⟨none,none,none,none,?_⟩ ?_ ?_
 ·have:tabI (as.length+bs.length -1) (cf as bs 0)=List.replicate (as.length+bs.length -1) 0:=by
   unfold tabI
   have:cf as bs 0=fun _=>0:=rfl
   rw[this,List.map_const',He]
  rw[this,List.map_replicate]
 ·rintro i w _ N hw ⟨o3,o4,o5,o6,rfl⟩ hN
  obtain⟨hi,rfl⟩:=Cj hw
  walk_at "vs"
  refine⟨rfl,?_⟩
  by_cases z:as.getD i 0=0
  ·rw[Hn z]
   walk_at "vs"
   refine hN _ ⟨some (.int i),some (.int (as.getD i 0)),o5,o6,?_⟩
   rw[show cf as bs (i+1)=cf as bs i from funext fun k=>Ll z k]
  ·rw[P3 z]
   walk_at "vs"
   refine bJ (fun j ε=>∃o5 o6,ε=[some (.lst (as.map W.int)),some (.lst (bs.map W.int)),some (.lst ((tabI (as.length+bs.length -1) (E8 as bs i j)).map W.int)),some (.int i),some (.int (as.getD i 0)),o5,o6]) ⟨o5,o6,?_⟩ ?_ ?_
   ·rw[show E8 as bs i 0=cf as bs i from funext fun k=>Hh as bs i k]
   ·rintro j w _ N2 Ak ⟨o5,o6,rfl⟩ AJ
    obtain⟨hj,rfl⟩:=Cj Ak
    have hl:i+j<as.length+bs.length -1:=by lia
    walk_at "vs"
    rw[show(i:Int)+(j:Int)=((i+j:Nat):Int) by lia]
    refine⟨rfl,_,bF (by rw[FS,iW hl];rfl),?_⟩
    walk_at "vs"
    refine⟨AK (P:=fun x=>IntMulOk x (bs.getD j 0)) (fun x hx=>AK (P:=fun y=>IntMulOk x y) (hm x hx) hj) hi,i+j,iV (by rw[Ap,bV];exact hl),AJ _ ⟨some (.int j),some (.int (bs.getD j 0)),?_⟩⟩
    have e:=mz (n:=as.length+bs.length -1) (f:=E8 as bs i j) (g:=E8 as bs i (j+1)) (k:=i+j) hl (fun q _ hq=>by rw[yg,B1 hq,Int.add_zero])
    rw[yg,Bi rfl]at e
    rw[←e,cx]
   ·rintro _ ⟨o5,o6,rfl⟩
    refine hN _ ⟨some (.int i),some (.int (as.getD i 0)),o5,o6,?_⟩
    rw[yt,show E8 as bs i bs.length=cf as bs (i+1)from funext fun k=>Hi as bs i k]
 ·rintro _ ⟨o3,o4,o5,o6,rfl⟩
  rw[yt]
  walk_at "vs"
  exact hq
noncomputable def yu:List CS:=[.par [0,1] [(.blt .abs [(.var 0)]),(.blt .abs [(.var 1)])],.E7 (.cmp .Gt (.bits (.var 1)) (.glob 0)) [.par [0,1] [(.var 1),(.bin .Mod (.var 0) (.var 1))],.Gb [0,1] (.call 0 [(.call 1 [(.var 0),(.var 1)]),(.var 0),(.var 1)]),.par [0,1] [(.blt .abs [(.var 0)]),(.blt .abs [(.var 1)])]],.E7 (.cmp .NotEq (.var 1) (.int 0)) [.par [0,1] [(.var 1),(.bin .Mod (.var 0) (.var 1))]],.ret (.var 0)]
noncomputable def ED:bT:=fun ws Q _=>∃(a b:Int) (n:Nat),ws=[.int a,.int b]/\b.natAbs<2^n/\n<=6000/\Q (.int (Int.gcd a b:Nat))
theorem Vx{Φ:Nat->bT}{m:Md}(ws:List W)(Q:W->Prop)(R:Addr->Prop)(h:ED ws Q R):wSs Φ (lI [.int 6000]) yu (cj m Q R) (aA 2 ws):=by
 obtain⟨a,b,n,rfl,hb,hn,hq⟩:=h
 show wSs _ _ yu _ [some (.int a),some (.int b)]
 unfold yu
 have ea:(if a<0 then-a else a)=(a.natAbs:Int):=by split<;>lia
 have eb:(if b<0 then-b else b)=(b.natAbs:Int):=by split<;>lia
 have hg:Int.gcd (a.natAbs:Int) (b.natAbs:Int)=Int.gcd a b:=rfl
 refine aW (fun ε'=>ε'=[some (.int (a.natAbs:Int)),some (.int (b.natAbs:Int))]) (fun N hN=>?_) ?_
 ·walk_at "vs"
  rw[ea,eb]
  exact⟨rfl,hN _ rfl⟩
 rintro _ rfl
 have bits:Builtin.Int.intBits (b.natAbs:Int)<=n:=bits_le (by rw[Int.natAbs_natCast];exact hb)
 refine aW (fun ε'=>ε'=[some (.int (a.natAbs:Int)),some (.int (b.natAbs:Int))]) (fun N hN=>?_) ?_
 ·rw[wS]
  refine jz (α:=Unit) (fun _=>[some (.int (a.natAbs:Int)),some (.int (b.natAbs:Int))]) (fun _=>True) (fun _=>0) () rfl trivial ?_
  rintro _ _
  walk_at "vs"
  refine fE (fun z=>?_) (fun _=>hN _ rfl)
  have:=Bz z
  lia
 rintro _ rfl
 walk_at "vs"
 refine jz (α:=Int×Int) (fun x=>[some (.int x.1),some (.int x.2)]) (fun x=>Int.gcd x.1 x.2=Int.gcd a b/\0<=x.1/\0<=x.2) (fun x=>x.2.natAbs) (a.natAbs,b.natAbs) rfl ⟨hg,Int.natCast_nonneg _,Int.natCast_nonneg _⟩ ?_
 rintro⟨x,y⟩ ⟨hx,x0,ZK⟩
 dsimp only at hx x0 ZK
 walk_at "vs"
 refine fE (fun hk=>?_) (fun hk=>?_)
 ·have y0:y≠0:=by simpa using hk
  have e2:=yf x y (x.fdiv y)
  have e3:=G9 x y y0
  have f:=fm (x:=x) (n:=y) (by clear e3 e2 y0;lia)
  rw[←Num.fmod_eq]at e2 e3
  walk_at "vs"
  exact⟨y0,rfl,(y,x.fmod y),rfl,⟨e2.trans hx,ZK,f.1⟩,e3⟩
 ·have y0:y=0:=by simpa using hk
  subst y0
  walk_at "vs"
  have e:x=((Int.gcd a b:Nat):Int):=by
   rw[←hx,Int.gcd_zero_right]
   lia
  rw[e]
  exact hq
noncomputable def gg:List CS:=[.iff (.cmp .Eq (.var 1) (.int 0)) [.qm] [],.set 2 (.call 0 [(.var 0),(.var 1)]),.iff (.cmp .Lt (.var 1) (.int 0)) [.set 2 (.neg (.var 2))] [],.ret (.tup [(.bin .FloorDiv (.var 0) (.var 2)),(.bin .FloorDiv (.var 1) (.var 2))])]
noncomputable def fS:bT:=fun ws Q R=>∃(t b:Int) (n:Nat),ws=[.int t,.int b]/\b.natAbs<2^n/\n<=6000/\(b=0->False)/\(b≠0->Q (wq (Rat.divInt t b)))
theorem AL{G:Nat->W}{m:Md}(ws:List W)(Q:W->Prop)(R:Addr->Prop)(h:fS ws Q R):wSs (cu [ED]) G gg (cj m Q R) (aA 3 ws):=by
 obtain⟨t,b,n,rfl,hbn,hn,h0,hq⟩:=h
 show wSs _ _ gg _ [some (.int t),some (.int b),none]
 unfold gg
 walk_at "vs"
 by_cases b0:b=0
 ·rw[Bi (Hn b0)]
  exact h0 b0
 rw[B1 (by rw[KM];exact b0)]
 have hq:=hq b0
 refine⟨t,b,n,rfl,hbn,hn,?_⟩
 obtain⟨f1,f2,f3⟩:=yi t b b0
 have lg:((Int.gcd t b:Nat):Int).natAbs<2^n:=by
  have:((Int.gcd t b:Nat):Int)<=b.natAbs:=Int.le_of_dvd (by clear f3 f2 f1;lia) (by rw[Int.dvd_natAbs];exact Sr ..)
  lia
 unfold wq at hq
 generalize((Int.gcd t b:Nat):Int)=g at*
 rw[f2,f3]at hq
 by_cases h1:b<0
 ·rw[Bi h1]at f1 hq
  rw[Bi (Hn h1)]
  walk_at "vs"
  have ld:=gM (y:= -g) (by lia) (FC hn (by decide))
  exact⟨⟨f1,ld⟩,⟨f1,ld⟩,af (by simp),hq⟩
 ·rw[B1 h1]at f1 hq
  rw[B1 (by rw[KM];exact h1)]
  have ld:=gM (y:=g) lg (FC hn (by decide))
  exact⟨⟨f1,ld⟩,⟨f1,ld⟩,af (by simp),hq⟩
end VL
namespace Num
theorem HA{a b c:Int}(h:Int.gcd a b=1)(hd:a∣b*c):a∣c:=by
 have hn:a.natAbs∣b.natAbs*c.natAbs:=by rw[←HI];exact Int.natAbs_dvd_natAbs.mpr hd
 exact Int.natAbs_dvd_natAbs.mp (Nat.Coprime.dvd_of_dvd_mul_left (show Nat.Coprime a.natAbs b.natAbs from h) hn)
theorem HB{B d D:Int}(hd:d≠0)(h1:B∣D)(h2:d∣D):B/(Int.gcd B d:Nat)*d∣D:=by
 obtain⟨x,y,hx,hy,hxy,hg⟩:=B5 B d hd
 rw[show B/((Int.gcd B d:Nat):Int)=x from Num.Li hx hg]
 obtain⟨u,hu⟩:=h1
 obtain⟨v,hv⟩:=h2
 generalize((Int.gcd B d:Nat):Int)=g at*
 have e:x*u=y*v:=by
  have:g*(x*u)=g*(y*v):=by
   rw[←Int.mul_assoc,←Int.mul_assoc,←hx,←hy,←hu,←hv]
  exact T2 (by lia) this
 obtain⟨w,hw⟩:y∣u:=HA (by rw[Int.gcd_comm];exact hxy) ⟨v,e⟩
 refine⟨w,?_⟩
 rw[hu,hx,hw,hy]
 grind
theorem Ck{ns ms:List Int}(h:iS ns ms)(k:Nat):ms.getD k 0=ns.getD k 0:=by
 obtain⟨j,j1,rfl,j2,_⟩:=h
 by_cases hk:k<j
 ·rw[AC,List.getElem?_take_of_lt hk,←AC]
 ·rw[outI (by rw[bj];lia)]
  by_cases hk2:k<ns.length
  ·exact(j2 k (by lia) hk2).symm
  ·exact(outI (by lia)).symm
theorem yv{ns ms:List Int}(h:iS ns ms):ms.length<=ns.length:=by
 obtain⟨j,j1,rfl,_⟩:=h
 rw[bj]
 lia
theorem HC{l:Int}{M i:Nat}(h:l.natAbs<2^M):(l^i).natAbs<=2^(M*i):=by
 rw[Int.natAbs_pow,cn]
 exact SB (SL h) _
theorem Cm{x y n m:Nat}(h1:x<2^n)(h2:y<=2^m):x*y<2^(n+m):=by
 rw[Ts]
 exact KE (Dx _ h2) (Nat.mul_lt_mul_of_pos_right h1 (PQ (by decide)))
end Num
namespace L2
open PySem
theorem uo{r:Nat}:Builtin.Range.rangeSize ((r:Int) -1) (-1) (-1)=(r:Int):=by
 unfold Builtin.Range.rangeSize
 rw[B1 (by decide)]
 split
 ·show((r:Int) -1 - -1 -1)/1+1=_
  lia
 ·lia
theorem AM{r:Nat}(h:r<=1000):Builtin.Range.small ((r:Int) -1) (-1) (-1)=true:=by
 unfold Builtin.Range.small
 rw[uo]
 have f:∀x:Int,-2000<=x->x<=2000->Builtin.Range.rangeFitsLong x=true:=fun x h1 h2=>by
  unfold Builtin.Range.rangeFitsLong
  simp
  lia
 rw[f _ (by lia) (by lia),f _ (by lia) (by lia),f _ (by lia) (by lia),B1 (by decide),f (-1+(-1+1)) (by decide) (by decide)]
 simp
end L2
namespace Sub
abbrev Ix:=Bool×Nat
abbrev Vc:=Ix->Int
noncomputable def ex(D:List Vc->Int)(r:Ix):List Vc->List Vc->Int
 |_,[]=>0
 |pre,c::post=>c r*D (pre++post) -ex D r (pre++[c]) post
noncomputable def det:List Ix->List Vc->Int
 |[],[]=>1
 |[],_::_=>0
 |r::rs,cs=>ex (det rs) r [] cs
noncomputable def Alt(D:List Vc->Int):Prop:=∀(p q:List Vc) (a b:Vc),D (p++a::b::q)= -D (p++b::a::q)
noncomputable def Lv(D:List Vc->Int):Prop:=∀(p q:List Vc) (x y:Int) (a b:Vc),D (p++(fun i=>x*a i+y*b i)::q)=x*D (p++a::q)+y*D (p++b::q)
theorem Cn{D:List Vc->Int}(h:Alt D)(r:Ix):∀(post p q:List Vc) (a b:Vc),ex D r (p++a::b::q) post= -ex D r (p++b::a::q) post
 |[],_,_,_,_=>rfl
 |c::post,p,q,a,b=>by
  have ih:=Cn h r post p (q++[c]) a b
  have e:=h p (q++post) a b
  simp only[ex,FV,List.cons_append]at ih e⊢
  rw[e,ih]
  grind
theorem Co{D:List Vc->Int}(h:Alt D)(r:Ix):∀(p pre q:List Vc) (a b:Vc),ex D r pre (p++a::b::q)= -ex D r pre (p++b::a::q)
 |[],pre,q,a,b=>by
  have e:=Cn h r q pre [] a b
  simp only[ex,List.nil_append,FV,List.cons_append]at e⊢
  rw[e]
  grind
 |c::p,pre,q,a,b=>by
  have ih:=Co h r p (pre++[c]) q a b
  have e:=h (pre++p) q a b
  simp only[ex,List.cons_append,FV]at ih e⊢
  rw[e,ih]
  grind
theorem gD:∀rs:List Ix,Alt (det rs)
 |[]=>fun p q a b=>by
  cases p<;>rfl
 |r::rs=>fun p q a b=>Co (gD rs) r p [] q a b
theorem Cp{D:List Vc->Int}(h:Lv D)(r:Ix):∀(post p q:List Vc) (x y:Int) (a b:Vc),ex D r (p++(fun i=>x*a i+y*b i)::q) post=x*ex D r (p++a::q) post+y*ex D r (p++b::q) post
 |[],_,_,_,_,_,_=>by simp[ex]
 |c::post,p,q,x,y,a,b=>by
  have ih:=Cp h r post p (q++[c]) x y a b
  have e:=h p (q++post) x y a b
  simp only[ex,FV,List.cons_append]at ih e⊢
  rw[e,ih]
  grind
theorem Cq{D:List Vc->Int}(h:Lv D)(r:Ix):∀(p pre q:List Vc) (x y:Int) (a b:Vc),ex D r pre (p++(fun i=>x*a i+y*b i)::q)=x*ex D r pre (p++a::q)+y*ex D r pre (p++b::q)
 |[],pre,q,x,y,a,b=>by
  have e:=Cp h r q pre [] x y a b
  simp only[ex,List.nil_append]at e⊢
  rw[e]
  grind
 |c::p,pre,q,x,y,a,b=>by
  have ih:=Cq h r p (pre++[c]) q x y a b
  have e:=h (pre++p) q x y a b
  simp only[ex,List.cons_append,FV]at ih e⊢
  rw[e,ih]
  grind
theorem iX:∀rs:List Ix,Lv (det rs)
 |[]=>fun p q x y a b=>by
  cases p<;>simp[det]
 |r::rs=>fun p q x y a b=>Cq (iX rs) r p [] q x y a b
theorem Cr{D:List Vc->Int}{r:Ix}:∀(post pre:List Vc),(∀c∈post,c r=0)->ex D r pre post=0
 |[],_,_=>rfl
 |c::post,pre,h=>by
  rw[ex,h c DD,Cr post _ fun d hd=>h d (Bn _ hd)]
  simp
theorem uq{r:Ix}{rs:List Ix}{c:Vc}{cs:List Vc}(h:∀d∈cs,d r=0):det (r::rs) (c::cs)=c r*det rs cs:=by
 rw[det,ex,Cr cs _ h,List.nil_append,Int.sub_zero]
theorem yw{D:List Vc->Int}(h:Alt D):∀(u p v:List Vc) (a:Vc),D (p++a::(u++a::v))=0
 |[],p,v,a=>by
  have:=h p v a a
  simp only[List.nil_append]at this⊢
  lia
 |c::u,p,v,a=>by
  have e:=h p (u++a::v) a c
  have ih:=yw h u (p++[c]) v a
  simp only[FV,List.cons_append,List.nil_append]at ih e⊢
  rw[e,ih]
  rfl
theorem Lw{D:List Vc->Int}(h:Alt D)(hl:Lv D){p q:List Vc}{a b:Vc}(x y:Int)(hb:b∈q):D (p++(fun i=>x*a i+y*b i)::q)=x*D (p++a::q):=by
 obtain⟨u,v,rfl⟩:=List.append_of_mem hb
 rw[hl,yw h u p v b,Re,Int.add_zero]
noncomputable def sg(n:Nat):Int:=(-1)^n
theorem yx{D:List Vc->Int}(h:Alt D):∀(u p q:List Vc) (a:Vc),D (p++a::(u++q))=sg u.length*D (p++(u++a::q))
 |[],p,q,a=>by simp[sg]
 |c::u,p,q,a=>by
  have e:=h p (u++q) a c
  have ih:=yx h u (p++[c]) q a
  simp only[FV,List.cons_append,List.nil_append,List.length_cons]at ih e⊢
  rw[e,ih]
  unfold sg
  rw[Kj]
  grind
theorem jH{D:List Vc->Int}(h:Alt D):∀(w p u q:List Vc),D (p++(w++(u++q)))=sg (u.length*w.length)*D (p++(u++(w++q)))
 |[],p,u,q=>by simp[sg]
 |a::w,p,u,q=>by
  have ih:=jH h w (p++[a]) u q
  have e:=yx h u p (w++q) a
  simp only[FV,List.cons_append,List.nil_append,List.length_cons]at ih e⊢
  rw[ih,e]
  unfold sg
  rw[Nat.mul_succ,dt]
  grind
noncomputable def sh(j:Nat)(P:Vc):Vc:=fun i=>if j<=i.2 then P (i.1,i.2 -j)else 0
noncomputable def eX(P:Vc):Nat->List Vc
 |0=>[]
 |n+1=>sh n P::eX P n
noncomputable def rws:Nat->Nat->List Ix
 |_,0=>[]
 |0,_+1=>[]
 |E+1,c+1=>(false,E)::rws E c
theorem qP(E:Nat):rws E 0=[]:=by cases E<;>rfl
theorem Lx(P:Vc):sh 0 P=P:=by
 funext i
 unfold sh
 rw[Bi (NM _)]
 rfl
theorem Nd(j s:Nat)(P:Vc):sh j (sh s P)=sh (s+j) P:=by
 funext i
 unfold sh
 by_cases h:j<=i.2
 ·rw[Bi h]
  by_cases h2:s+j<=i.2
  ·rw[Bi h2,Bi (by show s<=i.2 -j;lia)]
   show P (i.1,i.2 -j -s)=P (i.1,i.2 -(s+j))
   congr 2
   lia
  ·rw[B1 h2,B1 (by show¬s<=i.2 -j;lia)]
 ·rw[B1 h,B1 (by lia)]
theorem jY(P:Vc):∀n,(eX P n).length=n
 |0=>rfl
 |n+1=>by rw[eX,List.length_cons,jY P n]
theorem vL{P:Vc}:∀{n i:Nat},i<n->sh i P∈eX P n
 |n+1,i,h=>by
  rw[eX]
  by_cases e:i=n
  ·rw[e]
   exact DD
  ·exact Bn _ (vL (by lia))
theorem nW{P:Vc}:∀{n:Nat} {d:Vc},d∈eX P n->∃i,i<n/\d=sh i P
 |n+1,d,h=>by
  rw[eX]at h
  rcases Fu.mp h with h|h
  ·exact⟨n,by lia,h⟩
  ·obtain⟨i,hi,e⟩:=nW h
   exact⟨i,by lia,e⟩
theorem Ly{B:Vc}{n:Nat}{l:Int}(hl:B (false,n)=l)(hz:∀t,n<t->B (false,t)=0){cs:List Vc}{b c:Nat}{tl:List Ix}(hc:∀d∈cs,∀t,n+b<=t->d (false,t)=0):
 ∀s,det (rws (n+b+s) (c+s)++tl) (eX B (b+s)++cs)=l^s*det (rws (n+b) c++tl) (eX B b++cs)
 |0=>by simp
 |s+1=>by
  show det ((false,n+b+s)::(rws (n+b+s) (c+s)++tl)) (sh (b+s) B::(eX B (b+s)++cs))=_
  rw[uq,Ly hl hz hc s]
  ·have e:sh (b+s) B (false,n+b+s)=l:=by
    unfold sh
    rw[Bi (by show b+s<=n+b+s;lia),←hl]
    show B (false,n+b+s -(b+s))=_
    congr 2
    lia
   rw[e,Kj]
   grind
  ·intro d hd
   rcases GM.mp hd with h|h
   ·obtain⟨i,hi,rfl⟩:=nW h
    unfold sh
    split
    ·exact hz _ (by show n<n+b+s -i;lia)
    ·rfl
   ·exact hc d h _ (by lia)
noncomputable def comb(c:Int)(a:Vc):List (Int×Vc)->Vc
 |[]=>fun i=>c*a i+0*a i
 |z::L=>fun i=>1*comb c a L i+z.1*z.2 i
theorem yy{D:List Vc->Int}(h:Alt D)(hl:Lv D){p q:List Vc}{c:Int}{a:Vc}:∀{L:List (Int×Vc)},(∀z∈L,z.2∈q)->D (p++comb c a L::q)=c*D (p++a::q)
 |[],_=>by
  rw[comb,hl]
  grind
 |z::L,hm=>by
  rw[comb,Lw h hl _ _ (hm z DD),yy h hl fun y hy=>hm y (Bn _ hy),UF]
theorem Cs(j:Nat)(c:Int)(a:Vc):∀L:List (Int×Vc),sh j (comb c a L)=comb c (sh j a) (L.map fun z=>(z.1,sh j z.2))
 |[]=>by
  funext i
  show sh j (comb c a []) i=c*sh j a i+0*sh j a i
  unfold sh comb
  split<;>simp
 |z::L=>by
  funext i
  have ih:=congrFun (Cs j c a L) i
  show sh j (comb c a (z::L)) i=1*comb c (sh j a) (L.map fun z=>(z.1,sh j z.2)) i+z.1*sh j z.2 i
  rw[←ih]
  unfold sh
  split
  ·rfl
  ·simp
theorem mD{D:List Vc->Int}(h:Alt D)(hl:Lv D){q:List Vc}{c:Int}{A:Vc}{L:List (Int×Vc)}:∀(a:Nat) (p:List Vc),(∀z∈L,∀j,j<a->sh j z.2∈q)->D (p++(eX (comb c A L) a++q))=c^a*D (p++(eX A a++q))
 |0,p,_=>by simp[eX]
 |a+1,p,hm=>by
  have ih:=mD h hl (c:=c) (A:=A) a (p++[sh a A]) fun z hz j hj=>hm z hz j (by lia)
  rw[eX,eX,List.cons_append,Cs,yy h hl (fun z hz=>?_)]
  ·simp only[FV,List.cons_append,List.nil_append]at ih⊢
   rw[ih,Kj]
   grind
  ·obtain⟨y,hy,rfl⟩:=Iy.mp hz
   exact GT _ (hm y hy a (by lia))
noncomputable def SS(E:Nat)(A B:Vc)(a b:Nat)(ρ:Ix):Int:=det (rws E (a+b -1)++[ρ]) (eX A a++eX B b)
noncomputable def less(c:Int)(A B:Vc)(L:List (Int×Nat)):Vc:=comb c A (L.map fun z=>(z.1,sh z.2 B))
theorem vM{E:Nat}{A B:Vc}{c:Int}{L:List (Int×Nat)}{a b:Nat}(h:∀z∈L,z.2+a<=b)(ρ:Ix):SS E (less c A B L) B a b ρ=c^a*SS E A B a b ρ:=by
 unfold SS less
 have e:=mD (gD (rws E (a+b -1)++[ρ])) (iX _) (q:=eX B b) (c:=c) (A:=A) (L:=L.map fun z=>(z.1,sh z.2 B)) a [] fun z hz j hj=>by
  obtain⟨y,hy,rfl⟩:=Iy.mp hz
  rw[Nd]
  have:=h y hy
  exact vL (by lia)
 simp only[List.nil_append]at e
 exact e
theorem yz{E:Nat}{B R P:Vc}{c:Int}(h:∀i,R i=c*P i)(b a:Nat)(ρ:Ix):SS E B R b a ρ=c^a*SS E B P b a ρ:=by
 have eR:R=comb c P []:=funext fun i=>by rw[h i];show _=c*P i+0*P i;simp
 unfold SS
 have e:=mD (gD (rws E (b+a -1)++[ρ])) (iX _) (q:=[]) (c:=c) (A:=P) (L:=[]) a (eX B b) fun z hz=>nomatch hz
 simp only[L9]at e
 rw[eR,e]
theorem vN{B R:Vc}{n:Nat}{l:Int}(hl:B (false,n)=l)(hz:∀t,n<t->B (false,t)=0){z a b s:Nat}(hR:∀t,z<=t->R (false,t)=0)(ha:1<=a)(hb:z+a<=n+b+1)(ρ:Ix):
 SS (n+b+s) R B a (b+s) ρ=sg ((b+s)*a)*(l^s*SS (n+b) B R b a ρ):=by
 unfold SS
 have e:=jH (gD (rws (n+b+s) (a+(b+s) -1)++[ρ])) (eX R a) [] (eX B (b+s)) []
 simp only[List.nil_append,L9,jY]at e
 rw[e]
 congr 1
 rw[show a+(b+s) -1=b+a -1+s by lia]
 refine Ly hl hz (fun d hd t ht=>?_) s
 obtain⟨i,hi,rfl⟩:=nW hd
 unfold sh
 split
 ·exact hR _ (by show z<=t -i;lia)
 ·rfl
theorem HD(E:Nat)(B R:Vc)(ρ:Ix):SS E B R 0 1 ρ=R ρ:=by
 unfold SS
 show det (rws E 0++[ρ]) (sh 0 R::[])=_
 rw[qP,List.nil_append,Lx,uq (cs:=[]) (by intro d hd;cases hd)]
 show R ρ*1=R ρ
 rw[du]
theorem Ct{A B:Vc}{n:Nat}{l:Int}(hl:B (false,n)=l)(hz:∀t,n<t->B (false,t)=0)(s:Nat)(ρ:Ix):SS (n+1+s) A B 0 (1+s) ρ=l^s*B ρ:=by
 unfold SS
 rw[show 0+(1+s) -1=0+s by lia]
 have e:=Ly hl hz (cs:=[]) (b:=1) (c:=0) (tl:=[ρ]) (fun d hd=>nomatch hd) s
 simp only[L9]at e
 show det (rws (n+1+s) (0+s)++[ρ]) ([]++eX B (1+s))=_
 rw[List.nil_append,e]
 congr 1
 exact HD (n+1) A B ρ
noncomputable def Cu(ε:Int):Prop:=ε=1\/ε= -1
theorem Cu.sq{ε:Int}(h:Cu ε):ε*ε=1:=by
 rcases h with rfl|rfl<;>rfl
theorem Cu.mul{a b:Int}(h:Cu a)(h2:Cu b):Cu (a*b):=by
 rcases h with rfl|rfl<;>rcases h2 with rfl|rfl<;>first|exact .inl rfl|exact .inr rfl
theorem jI:∀n,Cu (sg n)
 |0=>.inl rfl
 |n+1=>by
  have:=jI n
  unfold sg at this⊢
  rw[Kj]
  exact this.mul (.inr rfl)
theorem bq{x:Int}(h:x≠0):∀n:Nat,x^n≠0
 |0=>by rw[Q1];decide
 |n+1=>by rw[Kj];exact Mo (bq h n) h
theorem AO(x y:Int):∀n:Nat,(x*y)^n=x^n*y^n
 |0=>by rw[Q1,Q1,Q1];rfl
 |n+1=>by
  rw[Kj,Kj,Kj,AO x y n]
  generalize x^n=a
  generalize y^n=b
  grind
theorem AQ(x:Int)(m:Nat):∀n:Nat,(x^m)^n=x^(m*n)
 |0=>by rw[Nat.mul_zero,Q1,Q1]
 |n+1=>by rw[Kj,AQ x m n,Nat.mul_succ,dt]
theorem AR{l h h':Int}{δ:Nat}(e:h'*h^δ=l^δ*h):∀a:Nat,(l^(δ+1))^(a+1)*h^(δ+a)=l^(δ+(a+1))*h^(δ*(a+1))*h'^a
 |0=>by
  rw[Nat.zero_add,Int.pow_one,Q1,du,Nat.mul_one]
  simp
 |a+1=>by
  have ih:=AR e a
  have e1:(l^(δ+1))^(a+1+1)*h^(δ+(a+1))=((l^(δ+1))^(a+1)*h^(δ+a))*(l*(l^δ*h)):=by
   rw[Kj (l^(δ+1)) (a+1),←Nat.add_assoc δ a 1,Kj h (δ+a),Kj l δ]
   generalize(l^δ*l)^(a+1)=x
   generalize h^(δ+a)=y
   generalize l^δ=z
   grind
  have e2:l^(δ+(a+1+1))*h^(δ*(a+1+1))*h'^(a+1)=(l^(δ+(a+1))*h^(δ*(a+1))*h'^a)*(l*(h'*h^δ)):=by
   rw[←Nat.add_assoc δ (a+1) 1,Kj l (δ+(a+1)),Nat.mul_succ δ (a+1),dt h (δ*(a+1)) δ,Kj h' a]
   generalize l^(δ+(a+1))=x
   generalize h^(δ*(a+1))=y
   generalize h^δ=z
   generalize h'^a=u
   grind
  rw[e1,e2,ih,e]
structure Ch(A B:Vc)(m n:Nat)(P Q:Vc)(p q:Nat)(lp lq h:Int):Prop where
 hpq:q<=p
 Rr:lp≠0
 h0:h≠0
 Lz:lq≠0
 lead:Q (false,q)=lq
 zero:∀t,q<t->Q (false,t)=0
 inv:∀k,k<=q->k<p->∃ε:Int,Cu ε/\∀ρ,SS (p+q -k) P Q (q -k) (p -k) ρ=ε*(lp^(q -k)*h^(p -k -1))*SS (m+n -k) A B (n -k) (m -k) ρ
theorem Ch.start{A B:Vc}{m n:Nat}{l:Int}(h:n<=m)(hl:B (false,n)=l)(l0:l≠0)(hz:∀t,n<t->B (false,t)=0):Ch A B m n A B m n 1 l 1:=
 ⟨h,by decide,by decide,l0,hl,hz,fun k _ _=>⟨1,.inl rfl,fun ρ=>by rw[Int.one_pow,Int.one_pow];simp⟩⟩
theorem Ch.rest{A B P Q:Vc}{m n p q:Nat}{lp lq h:Int}(H:Ch A B m n P Q p q lp lq h)(hq:1<=q){L:List (Int×Nat)}(hL:∀z∈L,z.2<=p -q)(hR:∀t,q<=t->less (lq^(p -q+1)) P Q L (false,t)=0):
 ∃ε:Int,Cu ε/\∀ρ,less (lq^(p -q+1)) P Q L ρ=ε*(lp*h^(p -q))*SS (m+n -(q -1)) A B (n -(q -1)) (m -(q -1)) ρ:=by
 have hpq:=H.hpq
 obtain⟨ε,Rt,inv⟩:=H.inv (q -1) (by lia) (by lia)
 refine⟨sg (p -q+1)*ε,(jI _).mul Rt,fun ρ=>?_⟩
 have e0:=inv ρ
 rw[show p+q -(q -1)=q+0+(p -q+1) by lia,show q -(q -1)=1 by lia,show p -(q -1)=0+(p -q+1) by lia,show 0+(p -q+1) -1=p -q by lia,Int.pow_one]at e0
 have e1:=vM (E:=q+0+(p -q+1)) (A:=P) (B:=Q) (c:=lq^(p -q+1)) (L:=L) (a:=1) (b:=0+(p -q+1)) (fun z hz=>by have:=hL z hz;lia) ρ
 have e2:=vN H.lead H.zero (z:=q) (a:=1) (b:=0) (s:=p -q+1) hR (Do _) (by lia) ρ
 rw[e1,HD,Int.pow_one,show(0+(p -q+1))*1=p -q+1 by lia,e0]at e2
 have c0:=bq H.Lz (p -q+1)
 have s2:=(jI (p -q+1)).sq
 generalize lq^(p -q+1)=c at*
 generalize less c P Q L ρ=R at*
 generalize sg (p -q+1)=s at*
 generalize h^(p -q)=hh at*
 generalize SS (m+n -(q -1)) A B (n -(q -1)) (m -(q -1)) ρ=S at*
 have e3:c*R=c*(s*ε*(lp*hh)*S):=by
  have:c*(s*ε*(lp*hh)*S)=s*(c*(ε*(lp*hh)*S)):=by grind
  rw[this,e2]
  have:s*(s*(c*R))=s*s*(c*R):=by grind
  rw[this,s2,UF]
 exact T2 c0 e3
theorem Ch.step{A B P Q Q':Vc}{m n p q r:Nat}{lp lq lr h h':Int}(H:Ch A B m n P Q p q lp lq h){L:List (Int×Nat)}(hL:∀z∈L,z.2<=p -q)(hQ:∀ρ,less (lq^(p -q+1)) P Q L ρ=(lp*h^(p -q))*Q' ρ)(hr:r<q)(hl:Q' (false,r)=lr)(l0:lr≠0)(hz:∀t,r<t->Q' (false,t)=0)
 (hh:h'*h^(p -q)=lq^(p -q)*h):Ch A B m n Q Q' q r lq lr h':=by
 have hpq:=H.hpq
 have h'0:h'≠0:=fun z=>by
  rw[z,Int.zero_mul]at hh
  exact Mo (bq H.Lz _) H.h0 hh.symm
 refine⟨by lia,H.Lz,h'0,l0,hl,hz,fun k hk1 hk2=>?_⟩
 obtain⟨ε,Rt,inv⟩:=H.inv k (by lia) (by lia)
 refine⟨sg ((p -k)*(q -k))*ε,(jI _).mul Rt,fun ρ=>?_⟩
 have e0:=inv ρ
 have e1:=vM (E:=p+q -k) (A:=P) (B:=Q) (c:=lq^(p -q+1)) (L:=L) (a:=q -k) (b:=p -k) (fun z hz=>by have:=hL z hz;lia) ρ
 have e2:=vN (R:=less (lq^(p -q+1)) P Q L) H.lead H.zero (z:=r+1) (a:=q -k) (b:=r -k) (s:=p -r) (fun t ht=>by rw[hQ,hz t (by lia),Re]) (by lia) (by lia) ρ
 rw[yz hQ,show q+(r -k)+(p -r)=p+q -k by lia,show r -k+(p -r)=p -k by lia,e1,e0,show q+(r -k)=q+r -k by lia]at e2
 have pid:=AR hh (q -k -1)
 have s2:=(jI ((p -k)*(q -k))).sq
 have ck:(lp*h^(p -q))^(q -k)=lp^(q -k)*h^((p -q)*(q -k)):=by rw[AO,AQ]
 have u0:lq^(p -r)*(lp*h^(p -q))^(q -k)≠0:=Mo (bq H.Lz _) (bq (Mo H.Rr (bq H.h0 _)) _)
 refine T2 u0 ?_
 rw[show q -k -1+1=q -k by lia,show p -q+(q -k -1)=p -k -1 by lia,show p -q+(q -k)=(p -r)+(r -k) by lia,dt lq (p -r) (r -k)]at pid
 rw[ck]at e2⊢
 generalize SS (q+r -k) Q Q' (r -k) (q -k) ρ=X at*
 generalize SS (m+n -k) A B (n -k) (m -k) ρ=S at*
 generalize sg ((p -k)*(q -k))=s at*
 generalize(lq^(p -q+1))^(q -k)=c at*
 generalize lp^(q -k)=u at*
 generalize h^(p -k -1)=v at*
 generalize lq^(p -r)=x at*
 generalize h^((p -q)*(q -k))=y at*
 generalize lq^(r -k)=z at*
 generalize h'^(q -k -1)=w at*
 have e3:x*(u*y)*X=s*s*(x*(u*y)*X):=by rw[s2,UF]
 have e4:s*s*(x*(u*y)*X)=s*(s*(x*(u*y*X))):=by grind
 rw[e3,e4,←e2]
 have e5:s*(c*(ε*(u*v)*S))=s*ε*u*S*(c*v):=by grind
 rw[e5,pid]
 grind
end Sub
namespace Sub
open Num
theorem Nf{D:List Vc->Int}{r:Ix}{M b:Nat}:∀(post pre:List Vc),(∀c∈post,(c r).natAbs<=M)->(∀u,(∀c∈u,c∈pre\/c∈post)->u.length+1=pre.length+post.length->(D u).natAbs<=b)->(ex D r pre post).natAbs<=post.length*(M*b)
 |[],_,_,_=>by simp[ex]
 |c::post,pre,h,hD=>by
  rw[ex]
  have h1:=h c DD
  have h2:=hD (pre++post) (fun d hd=>by
   rcases GM.mp hd with z|z
   ·exact .inl z
   ·exact .inr (Bn _ z)) (by simp only[Ee,List.length_cons];lia)
  have ih:=Nf (D:=D) (r:=r) (M:=M) (b:=b) post (pre++[c]) (fun d hd=>h d (Bn _ hd)) (fun u hu hl=>hD u (fun d hd=>by
   rcases hu d hd with z|z
   ·rcases GM.mp z with y|y
    ·exact .inl y
    ·rw[Fh]at y
     rw[y]
     exact .inr DD
   ·exact .inr (Bn _ z)) (by simp only[Ee,List.length_cons,List.length_nil]at hl⊢;lia))
  have h3:(c r*D (pre++post)).natAbs<=M*b:=by
   rw[HI]
   exact Oy h1 h2
  have h4:(c r*D (pre++post) -ex D r (pre++[c]) post).natAbs<=(c r*D (pre++post)).natAbs+(ex D r (pre++[c]) post).natAbs:=by omega
  have h5:(c::post).length*(M*b)=post.length*(M*b)+M*b:=by rw[List.length_cons,Nat.succ_mul]
  omega
theorem HE{N M:Nat}:∀(rs:List Ix) (cs:List Vc),cs.length<=N->(∀c∈cs,∀i,(c i).natAbs<=M)->(det rs cs).natAbs<=(N*M)^rs.length
 |[],[],_,_=>by simp[det]
 |[],_::_,_,_=>by simp[det]
 |r::rs,cs,hl,hM=>by
  rw[det]
  have:=Nf (D:=det rs) (r:=r) (M:=M) (b:=(N*M)^rs.length) cs [] (fun c hc=>hM c hc r) (fun u hu hul=>HE rs u (by simp only[List.length_nil]at hul;lia) fun c hc=>by
   rcases hu c hc with z|z
   ·cases z
   ·exact hM c z)
  refine FC this ?_
  rw[List.length_cons,Nat.pow_succ]
  have h2:cs.length*(M*(N*M)^rs.length)<=N*(M*(N*M)^rs.length):=U2 _ hl
  have h3:N*(M*(N*M)^rs.length)=(N*M)^rs.length*(N*M):=by
   generalize(N*M)^rs.length=x
   grind
  lia
theorem Cv:∀(c E:Nat),(rws E c).length<=c
 |0,E=>by rw[qP];exact Do _
 |c+1,0=>NM _
 |c+1,E+1=>by
  show(rws E c).length+1<=c+1
  have:=Cv c E
  lia
theorem Ng{P:Vc}{M:Nat}(h:∀i,(P i).natAbs<=M)(j:Nat)(i:Ix):(sh j P i).natAbs<=M:=by
 unfold sh
 split
 ·exact h _
 ·exact NM _
theorem Vy{A B:Vc}{N M a b:Nat}(hA:∀i,(A i).natAbs<=M)(hB:∀i,(B i).natAbs<=M)(hN:a+b<=N)(h1:1<=a+b)(hW:1<=N*M)(E:Nat)(ρ:Ix):(SS E A B a b ρ).natAbs<=(N*M)^(a+b):=by
 unfold SS
 have:=HE (N:=N) (M:=M) (rws E (a+b -1)++[ρ]) (eX A a++eX B b) (by rw[Ee,jY,jY];exact hN) (fun c hc i=>by
  rcases GM.mp hc with h|h
  ·obtain⟨j,_,rfl⟩:=nW h
   exact Ng hA j i
  ·obtain⟨j,_,rfl⟩:=nW h
   exact Ng hB j i)
 refine FC this (Ha hW ?_)
 have:=Cv (a+b -1) E
 rw[Ee]
 show _+1<=_
 omega
theorem Cu.abs{ε x:Int}(h:Cu ε):(ε*x).natAbs=x.natAbs:=by
 rcases h with rfl|rfl<;>lia
theorem Ch.Cw{A B P Q:Vc}{m n p q:Nat}{lp lq h:Int}(H:Ch A B m n P Q p q lp lq h)(hq:q<p):∃S:Int,lq^(p -q)=h^(p -q -1)*S/\S.natAbs=(SS (m+n -q) A B (n -q) (m -q) (false,q)).natAbs:=by
 obtain⟨ε,Rt,inv⟩:=H.inv q (Do _) hq
 obtain⟨d,hd⟩:∃d,p=q+1+d:=⟨p -q -1,by lia⟩
 have e0:=inv (false,q)
 have e1:=Ct (A:=P) H.lead H.zero d (false,q)
 rw[show p+q -q=q+1+d by lia,show q -q=0 by lia,show p -q=1+d by lia,e1,H.lead,show 1+d -1=d by lia,Q1,UF]at e0
 have e2:lq^(p -q)=lq^d*lq:=by
  rw[←Kj]
  congr 1
  lia
 refine⟨ε*SS (m+n -q) A B (n -q) (m -q) (false,q),?_,Rt.abs⟩
 rw[e2,e0,show p -q -1=d by lia]
 generalize SS (m+n -q) A B (n -q) (m -q) (false,q)=S
 generalize h^d=x
 grind
noncomputable def vc(r f:List Int):Vc:=fun i=>if i.1 then f.getD i.2 0 else r.getD i.2 0
noncomputable def qQ(Qs:List Int):Nat->List (Int×Nat)
 |0=>[]
 |n+1=>(-(Qs.getD n 0),n)::qQ Qs n
theorem vO{Qs:List Int}:∀{n:Nat} {z:Int×Nat},z∈qQ Qs n->z.2<n
 |n+1,z,h=>by
  rcases Fu.mp h with rfl|h
  ·exact RF n
  ·exact Nat.lt_succ_of_lt (vO h)
theorem Cy(c:Int)(A B:Vc)(Qs:List Int)(i:Ix):∀n,less c A B (qQ Qs n) i=c*A i -sm (fun j=>Qs.getD j 0*(if j<=i.2 then B (i.1,i.2 -j)else 0)) n
 |0=>by
  show c*A i+0*A i=c*A i -0
  simp
 |n+1=>by
  have ih:=Cy c A B Qs i n
  show 1*less c A B (qQ Qs n) i+ -(Qs.getD n 0)*sh n B i=_
  rw[ih,sm]
  have e:sh n B i=if n<=i.2 then B (i.1,i.2 -n)else 0:=rfl
  rw[e]
  generalize(if n<=i.2 then B (i.1,i.2 -n)else 0)=x
  generalize sm _ n=y
  generalize Qs.getD n 0=z
  grind
theorem Cz(c:Int)(P fP Q fQ Qs:List Int)(b:Bool)(t:Nat):less c (vc P fP) (vc Q fQ) (qQ Qs Qs.length) (b,t)=c*(if b then fP else P).getD t 0 -cf Qs (if b then fQ else Q) Qs.length t:=by
 rw[Cy,Hl]
 cases b
 ·rfl
 ·rfl
end Sub
namespace Num
end Num
namespace Sub
open Num
structure CS(ns ms f0 g0:List Int)(w E b1:Nat)(P Q fP fQ:List Int)(ld h:Int):Prop where
 ch:Ch (vc ns f0) (vc ms g0) (ns.length -1) (ms.length -1) (vc P fP) (vc Q fQ) (P.length -1) (Q.length -1) ld (Q.getD (Q.length -1) 0) h
 lq:0<Q.length
 EF:Q.length<=P.length
 lp:P.length<=ns.length
 Wr:Q.length<=ms.length
 lf:fP.length+Q.length<=b1
 Ws:fQ=[]\/fQ.length+P.length<=b1
 bP:∀i,(vc P fP i).natAbs<=2^(w*(ns.length -1+(ms.length -1)+1))
 bQ:∀i,(vc Q fQ i).natAbs<=2^(w*(ns.length -1+(ms.length -1)+1))
 bl:ld.natAbs<=2^(w*(ns.length -1+(ms.length -1)+1))
 bh:h.natAbs<=2^(w*(ns.length -1+(ms.length -1) -2*(P.length -1)))
structure FX(ns ms f0 g0:List Int)(w E:Nat):Prop where
 l1:ms.length<=ns.length
 l2:ns.length<=50
 M:∃M:Nat,(∀i,(vc ns f0 i).natAbs<=M)/\(∀i,(vc ms g0 i).natAbs<=M)/\1<=M/\(ns.length -1+(ms.length -1)+1)*M<=2^w
 E1:∀p,(ns.length -1+(ms.length -1) -2*p)*p+(ns.length -1+(ms.length -1)+1)<=E
theorem iY(x:Int):∀n:Nat,(x^n).natAbs=x.natAbs^n
 |0=>by simp
 |n+1=>by rw[Kj,HI,iY x n,Nat.pow_succ]
theorem Ru{ns ms f0 g0:List Int}{w E:Nat}(F:FX ns ms f0 g0 w E){k:Nat}(h1:k<=ms.length -1)(h2:1<=(ms.length -1 -k)+(ns.length -1 -k))(e:Nat)(ρ:Ix):
 (SS e (vc ns f0) (vc ms g0) (ms.length -1 -k) (ns.length -1 -k) ρ).natAbs<=2^(w*(ns.length -1+(ms.length -1) -2*k)):=by
 obtain⟨M,m1,m2,m3,m4⟩:=F.M
 have l1:=F.l1
 have hW:1<=(ns.length -1+(ms.length -1)+1)*M:=Oy (show 1<=ns.length -1+(ms.length -1)+1 by lia) m3
 have b:=Vy (N:=ns.length -1+(ms.length -1)+1) m1 m2 (by omega) h2 hW e ρ
 refine FC b ?_
 rw[cn,show ms.length -1 -k+(ns.length -1 -k)=ns.length -1+(ms.length -1) -2*k by omega]
 exact SB m4 _
theorem getD_mem'{ns:List Int}{k:Nat}(h:k<ns.length):ns.getD k 0∈ns:=by
 rw[AC,BM h]
 exact On h
theorem mem_getD{ns:List Int}{x:Int}(h:x∈ns):∃k,k<ns.length/\ns.getD k 0=x:=by
 obtain⟨i,hi,e⟩:=List.getElem_of_mem h
 exact⟨i,hi,by rw[AC,BM hi,←e];rfl⟩
theorem map_getD{ns:List Int}{f:Int->Int}(h0:f 0=0)(k:Nat):(ns.map f).getD k 0=f (ns.getD k 0):=by
 rw[AC,FS,AC]
 cases ns[k]? with
 |none=>exact h0.symm
 |some z=>rfl
noncomputable def hnext(h l:Int)(δ:Nat):Int:=if δ=0 then h else(l^δ).fdiv (h^(δ -1))
theorem CS.step{ns ms f0 g0 P Q fP fQ Qs R F:List Int}{w E b1:Nat}{ld h c:Int}(X:FX ns ms f0 g0 w E)(C:CS ns ms f0 g0 w E b1 P Q fP fQ ld h)(hq:2<=Q.length)(hc:c=Q.getD (Q.length -1) 0^(P.length -Q.length+1))(SQ:Qs.length=P.length -Q.length+1)
 (hR:∀k,R.getD k 0=c*P.getD k 0 -cf Qs Q Qs.length k) (lR:R.length<Q.length) (zR:R=[]\/R.getD (R.length -1) 0≠0) (hF:∀k,F.getD k 0=c*fP.getD k 0 -cf Qs fQ Qs.length k) (lF:F.length<=max fP.length (Qs.length+fQ.length -1)) (Wt:fQ=[]->F.length<=fP.length):
 ld*h^(P.length -Q.length)≠0/\(ld*h^(P.length -Q.length)).natAbs<=2^(w*E)/\(∀x∈R,ld*h^(P.length -Q.length)∣x)/\(∀x∈F,ld*h^(P.length -Q.length)∣x)/\(0<P.length -Q.length->h^(P.length -Q.length -1)≠0/\(h^(P.length -Q.length -1)).natAbs<=2^(w*E))/\
 (∀ρ,(vc (R.map fun x=>x.fdiv (ld*h^(P.length -Q.length))) (F.map fun x=>x.fdiv (ld*h^(P.length -Q.length))) ρ).natAbs<=2^(w*(ns.length -1+(ms.length -1)+1)))/\
 (R≠[]->CS ns ms f0 g0 w E b1 Q (R.map fun x=>x.fdiv (ld*h^(P.length -Q.length))) fQ (F.map fun x=>x.fdiv (ld*h^(P.length -Q.length))) (Q.getD (Q.length -1) 0) (hnext h (Q.getD (Q.length -1) 0) (P.length -Q.length))):=by
 have ch:=C.ch
 have EF:=C.EF
 have lp:=C.lp
 have l1:=X.l1
 have lf:=C.lf
 have Wr:=C.Wr
 obtain⟨δ,Vz⟩:∃δ,P.length -Q.length=δ:=⟨_,rfl⟩
 have hpq:P.length -1 -(Q.length -1)=δ:=by lia
 have hL:∀z∈qQ Qs Qs.length,z.2<=P.length -1 -(Q.length -1):=fun z hz=>by
  have:=vO hz
  lia
 have eL:∀(b:Bool) (t:Nat),less c (vc P fP) (vc Q fQ) (qQ Qs Qs.length) (b,t)=(if b then F else R).getD t 0:=fun b t=>by
  rw[Cz]
  cases b
  ·exact(hR t).symm
  ·exact(hF t).symm
 have Lz:=ch.Lz
 generalize ZL:Q.getD (Q.length -1) 0=lq at*
 have hc2:lq^(P.length -1 -(Q.length -1)+1)=c:=by rw[hc,hpq,Vz]
 have VC:ld*h^δ≠0:=Mo ch.Rr (bq ch.h0 _)
 obtain⟨ε,Rt,rest⟩:=ch.rest (L:=qQ Qs Qs.length) (by lia) hL (fun t ht=>by
  rw[hc2,eL]
  exact outI (by show R.length<=t;lia))
 rw[hc2,hpq]at rest
 have bk:(ld*h^δ).natAbs<=2^(w*E):=by
  rw[HI,iY]
  have e1:=X.E1 (P.length -1)
  have h1:h.natAbs^δ<=2^(w*(ns.length -1+(ms.length -1) -2*(P.length -1))*δ):=by
   rw[cn]
   exact SB C.bh δ
  refine FC (Oy C.bl h1) ?_
  rw[←Ts]
  refine Ha (by decide) ?_
  rw[Nat.mul_assoc,←Nat.mul_add]
  refine Dx _ ?_
  have:(ns.length -1+(ms.length -1) -2*(P.length -1))*δ<=(ns.length -1+(ms.length -1) -2*(P.length -1))*(P.length -1):=Dx _ (by lia)
  lia
 have dv:∀(b:Bool) (t:Nat),(ld*h^δ)∣(if b then F else R).getD t 0:=fun b t=>by
  rw[←eL,rest]
  exact⟨ε*SS (ns.length -1+(ms.length -1) -(Q.length -1 -1)) (vc ns f0) (vc ms g0) (ms.length -1 -(Q.length -1 -1)) (ns.length -1 -(Q.length -1 -1)) (b,t),by grind⟩
 have dR:∀x∈R,ld*h^δ∣x:=fun x hx=>by
  obtain⟨k,_,rfl⟩:=mem_getD hx
  exact dv false k
 have dF:∀x∈F,ld*h^δ∣x:=fun x hx=>by
  obtain⟨k,_,rfl⟩:=mem_getD hx
  exact dv true k
 have fd:∀(b:Bool) (t:Nat),((if b then F else R).map fun x=>x.fdiv (ld*h^δ)).getD t 0*(ld*h^δ)=(if b then F else R).getD t 0:=fun b t=>by
  rw[map_getD (f:=fun x=>x.fdiv (ld*h^δ)) (Int.zero_fdiv _),bo (dv b t),Int.ediv_mul_cancel (dv b t)]
 have vq:∀ρ,vc (R.map fun x=>x.fdiv (ld*h^δ)) (F.map fun x=>x.fdiv (ld*h^δ)) ρ*(ld*h^δ)=less c (vc P fP) (vc Q fQ) (qQ Qs Qs.length) ρ:=fun ρ=>by
  obtain⟨b,t⟩:=ρ
  rw[eL,←fd b t]
  cases b<;>rfl
 have vS:∀ρ,(vc (R.map fun x=>x.fdiv (ld*h^δ)) (F.map fun x=>x.fdiv (ld*h^δ)) ρ).natAbs<=2^(w*(ns.length -1+(ms.length -1)+1)):=fun ρ=>by
  have e1:=vq ρ
  rw[rest]at e1
  have e2:vc (R.map fun x=>x.fdiv (ld*h^δ)) (F.map fun x=>x.fdiv (ld*h^δ)) ρ=ε*SS (ns.length -1+(ms.length -1) -(Q.length -1 -1)) (vc ns f0) (vc ms g0) (ms.length -1 -(Q.length -1 -1)) (ns.length -1 -(Q.length -1 -1)) ρ:=by
   refine Int.eq_of_mul_eq_mul_right VC ?_
   rw[e1]
   grind
  rw[e2,Rt.abs]
  refine FC (Ru X (by lia) (by lia) _ _) (Ha (by decide) (Dx _ (by lia)))
 rw[Vz]
 refine⟨VC,bk,dR,dF,fun hd=>⟨bq ch.h0 _,?_⟩,vS,fun HF=>?_⟩
 ·rw[iY]
  have e1:=X.E1 (P.length -1)
  have h1:h.natAbs^(δ -1)<=2^(w*(ns.length -1+(ms.length -1) -2*(P.length -1))*(δ -1)):=by
   rw[cn]
   exact SB C.bh _
  refine FC h1 (Ha (by decide) ?_)
  rw[Nat.mul_assoc]
  refine Dx _ ?_
  have:(ns.length -1+(ms.length -1) -2*(P.length -1))*(δ -1)<=(ns.length -1+(ms.length -1) -2*(P.length -1))*(P.length -1):=Dx _ (by clear h1 e1 hd bk VC hc2 Lz hc ZL hpq;lia)
  lia
 have Rv:0<R.length:=Hb.mpr HF
 have zl:=zR.resolve_left HF
 have h2:∃S:Int,hnext h lq δ=S/\S*h^δ=lq^δ*h/\S.natAbs<=2^(w*(ns.length -1+(ms.length -1) -2*(Q.length -1))):=by
  by_cases hd:δ=0
  ·refine⟨h,by unfold hnext;rw[Bi hd],by rw[hd,Q1,Q1,du,UF],?_⟩
   have:=C.bh
   rw[show P.length -1=Q.length -1 by clear this;lia]at this
   exact this
  ·obtain⟨S,e1,e2⟩:=ch.Cw (by lia)
   rw[hpq]at e1
   have hne:h^(δ -1)≠0:=bq ch.h0 _
   refine⟨S,?_,?_,?_⟩
   ·unfold hnext
    rw[B1 hd,e1,bo ⟨S,rfl⟩,ar S hne]
   ·have e3:h^δ=h^(δ -1)*h:=by
     rw[←Kj]
     congr 1
     lia
    rw[e1,e3]
    generalize h^(δ -1)=x
    grind
   ·rw[e2]
    exact Ru X (by lia) (by clear hne e2 e1;lia) _ _
 obtain⟨S,hS,hh,bS⟩:=h2
 rw[hS]
 have Jg:(R.map fun x=>x.fdiv (ld*h^δ)).length=R.length:=Ap _
 have lFm:(F.map fun x=>x.fdiv (ld*h^δ)).length=F.length:=Ap _
 have ql:(R.map fun x=>x.fdiv (ld*h^δ)).getD (R.length -1) 0≠0:=fun z=>by
  have e:=fd false (R.length -1)
  simp only[Bool.false_eq_true,if_false]at e
  rw[z,Int.zero_mul]at e
  exact zl e.symm
 refine⟨?_,by rw[Jg];exact Rv,by rw[Jg];lia,by lia,by rw[Jg];lia,?_,?_,C.bQ,vS,?_,bS⟩
 ·rw[Jg]
  refine ch.step (L:=qQ Qs Qs.length) hL (fun ρ=>?_) (by lia) rfl ql (fun t ht=>?_) (by rw[hpq];exact hh)
  ·rw[hc2,hpq,←vq ρ,Int.mul_comm]
  ·exact outI (by show(R.map fun x=>x.fdiv (ld*h^δ)).length<=t;rw[Jg];lia)
 ·rw[Jg]
  rcases C.Ws with z|z
  ·rw[z]
   show 0+_<=_
   lia
  ·lia
 ·rw[lFm]
  rcases C.Ws with z|z
  ·have:=Wt z
   right
   lia
  ·right
   lia
 ·have:=C.bQ (false,Q.length -1)
  rw[←ZL]
  exact this
end Sub
namespace Num
theorem vP{f f' g g':Nat->Int}(h1:∀i,f i=f' i)(h2:∀i,g i=g' i)(k:Nat):sG f g k=sG f' g' k:=by
 rw[show f=f' from funext h1,show g=g' from funext h2]
theorem LA(c:Int)(f h:Nat->Int)(k:Nat):sG (fun i=>c*f i) h k=c*sG f h k:=by
 unfold sG
 rw[←vG]
 exact jA _ fun i _=>Int.mul_assoc ..
abbrev co(a:List Int):Nat->Int:=fun i=>a.getD i 0
theorem VD(a b:List Int)(k:Nat):cf a b a.length k=sG (co a) (co b) k:=pO a b k
end Num
namespace Sub
open Num
theorem CS.size{ns ms f0 g0 P Q fP fQ:List Int}{w E b1:Nat}{ld h:Int}(X:FX ns ms f0 g0 w E)(C:CS ns ms f0 g0 w E b1 P Q fP fQ ld h)(hq:2<=Q.length):
 ld*h^(P.length -Q.length)≠0/\(ld*h^(P.length -Q.length)).natAbs<=2^(w*E)/\(0<P.length -Q.length->h^(P.length -Q.length -1)≠0/\(h^(P.length -Q.length -1)).natAbs<=2^(w*E)):=by
 have ch:=C.ch
 have e1:=X.E1 (P.length -1)
 have EF:=C.EF
 generalize Vz:P.length -Q.length=δ at*
 have hb:∀j,j<=δ->(h^j).natAbs<=2^(w*((ns.length -1+(ms.length -1) -2*(P.length -1))*(P.length -1))):=fun j hj=>by
  rw[iY]
  have h1:h.natAbs^j<=2^(w*(ns.length -1+(ms.length -1) -2*(P.length -1))*j):=by
   rw[cn]
   exact SB C.bh j
  refine FC h1 (Ha (by decide) ?_)
  rw[Nat.mul_assoc]
  exact Dx _ (Dx _ (by lia))
 refine⟨Mo ch.Rr (bq ch.h0 _),?_,fun _=>⟨bq ch.h0 _,?_⟩⟩
 ·rw[HI]
  refine FC (Oy C.bl (hb δ (Do _))) ?_
  rw[←Ts,←Nat.mul_add]
  exact Ha (by decide) (Dx _ (by lia))
 ·exact FC (hb (δ -1) (by clear Vz EF e1 hq;lia)) (Ha (by decide) (Dx _ (by lia)))
theorem CS.start{ns ms f0 g0:List Int}{w E b1:Nat}(X:FX ns ms f0 g0 w E)(l0:0<ms.length)(nz:ms.getD (ms.length -1) 0≠0)(h1:f0.length+ms.length<=b1)(h2:g0=[]\/g0.length+ns.length<=b1):CS ns ms f0 g0 w E b1 ns ms f0 g0 1 1:=by
 obtain⟨M,m1,m2,m3,m4⟩:=X.M
 have l1:=X.l1
 have hM:M<=2^(w*(ns.length -1+(ms.length -1)+1)):=by
  refine FC (FC (Nat.le_mul_of_pos_left M (show 0<ns.length -1+(ms.length -1)+1 by omega)) m4) (Ha (by decide) ?_)
  exact W1 w (by omega)
 refine⟨Ch.start (by omega) rfl nz (fun t ht=>outI (by omega)),l0,l1,Do _,Do _,h1,h2,fun i=>FC (m1 i) hM,fun i=>FC (m2 i) hM,PQ (by decide),PQ (by decide)⟩
theorem CS.bd{ns ms f0 g0 P Q fP fQ:List Int}{w E b1:Nat}{ld h:Int}(C:CS ns ms f0 g0 w E b1 P Q fP fQ ld h):(∀x∈P,x.natAbs<=2^(w*(ns.length -1+(ms.length -1)+1)))/\(∀x∈Q,x.natAbs<=2^(w*(ns.length -1+(ms.length -1)+1)))/\(∀x∈fP,x.natAbs<=2^(w*(ns.length -1+(ms.length -1)+1)))/\∀x∈fQ,x.natAbs<=2^(w*(ns.length -1+(ms.length -1)+1)):=by
 refine⟨fun x hx=>?_,fun x hx=>?_,fun x hx=>?_,fun x hx=>?_⟩
 ·obtain⟨k,_,rfl⟩:=mem_getD hx
  exact C.bP (false,k)
 ·obtain⟨k,_,rfl⟩:=mem_getD hx
  exact C.bQ (false,k)
 ·obtain⟨k,_,rfl⟩:=mem_getD hx
  exact C.bP (true,k)
 ·obtain⟨k,_,rfl⟩:=mem_getD hx
  exact C.bQ (true,k)
end Sub
namespace VL
open PySem PySem.Spec
open PyProof.Rows hiding St
open L2 Num
theorem Rx{rs:List Rat}{i:Nat}{w:W}(h:(rs.map wq)[i]?=some w):∃x,rs[i]?=some x/\w=wq x:=by
 rw[FS]at h
 cases e:rs[i]? with
 |none=>rw[e]at h;cases h
 |some x=>rw[e]at h;cases h;exact⟨x,rfl,rfl⟩
structure ZM(rs:List Rat)(ns:List Int)(B:Int):Prop where
 pos:0<B
 eq:ns=rs.map fun x=>x.num*(B/x.den)
 dv:∀x∈rs,(x.den:Int)∣B
noncomputable def iJ:List CS:=[.set 1 (.int 1),.fr [2] true (.var 0) [.set 3 (.ix (.var 2) (.int 1)),.iff (.cmp .NotEq (.bin .Mod (.var 1) (.var 3)) (.int 0)) [.set 1 (.bin .Mult (.bin .FloorDiv (.var 1) (.call 0 [(.var 1),(.var 3)])) (.var 3))] []],.ret (.tup [(.comp [0] true 1 (.var 0) (.bl true) (.bin .Mult (.ix (.var 0) (.int 0)) (.bin .FloorDiv (.var 2) (.ix (.var 0) (.int 1))))),(.var 1)])]
noncomputable def mE:bT:=fun ws Q _=>∃(rs:List Rat) (D:Int) (n k:Nat),ws=[aq rs]/\((∀x∈rs,Cd D n x)/\0<D/\D.natAbs<2^k/\k<=6000/\n<=100000/\rs.length<=100)/\∀(ns:List Int) (B:Int),ZM rs ns B->B∣D->B.natAbs<2^k->(∀x∈ns,x.natAbs<2^n)->Q (.tup [wI ns,.int B])
theorem EG{G:Nat->W}{m:Md}(ws:List W)(Q:W->Prop)(R:Addr->Prop)(h:mE ws Q R):wSs (cu [ED]) G iJ (cj m Q R) (aA 4 ws):=by
 obtain⟨rs,D,n,k,rfl,⟨hc,hD,ZN,hk,hn,hl⟩,hq⟩:=h
 have small:∀y:Int,0<y->y∣D->y.natAbs<2^k:=fun y h1 h2=>by
  have:=Int.le_of_dvd hD h2
  lia
 show wSs _ _ iJ _ [some (aq rs),none,none,none]
 unfold iJ
 simp only[wSs,wS,wE,look,List.set]
 unfold aq
 walk_at "vs"
 refine bJ (fun i ε=>∃B o2 o3,(0<B/\B∣D/\∀j x,j<i->rs[j]?=some x->(x.den:Int)∣B)/\ε=[some (.lst (rs.map wq)),some (.int B),o2,o3]) ⟨1,none,none,⟨by decide,Int.one_dvd _,fun j x h=>by lia⟩,rfl⟩ ?_ ?_
 ·rintro i w _ N hw ⟨B,o2,o3,⟨hB,hB2,hd⟩,rfl⟩ hN
  obtain⟨x,hx,rfl⟩:=Rx hw
  have hm:=Pm hx
  have dx:=(hc x hm).dvd.1
  have dp:0<(x.den:Int):=by have:=x.den_pos;lia
  have bd:=small _ dp dx
  have bB:=small _ hB hB2
  have step:∀B':Int,0<B'->B'∣D->B∣B'->(x.den:Int)∣B'->N [some (.lst (rs.map wq)),some (.int B'),some (wq x),some (.int x.den)]:=fun B' h1 h2 h3 h4=>
   hN _ ⟨B',_,_,⟨h1,h2,fun j z hj hz=>by
    by_cases hji:j=i
    ·subst hji
     rw[hx]at hz
     cases hz
     exact h4
    ·exact Int.dvd_trans (hd j z (by lia) hz) h3⟩,rfl⟩
  walk_at "vs"
  refine⟨_,rfl,?_⟩
  walk_at "vs"
  refine⟨mj x,?_⟩
  by_cases hz:B.fmod x.den=0
  ·rw[Hn hz]
   walk_at "vs"
   refine step B hB hB2 (Int.dvd_refl _) (Int.dvd_of_fmod_eq_zero hz)
  ·rw[P3 hz]
   walk_at "vs"
   have hg:((Int.gcd B x.den:Nat):Int)<=x.den:=Int.le_of_dvd dp (Sr ..)
   have ZO:0<((Int.gcd B x.den:Nat):Int):=by
    have:0<Int.gcd B x.den:=Int.gcd_pos_of_ne_zero_left _ (by lia)
    lia
   have ZP:((Int.gcd B x.den:Nat):Int)∣B:=Int.gcd_dvd_left ..
   have Yd:((Int.gcd B x.den:Nat):Int)∣(x.den:Int):=Sr ..
   have Ye:=HB (mj x) hB2 dx
   refine⟨B,x.den,k,rfl,bd,hk,?_⟩
   generalize((Int.gcd B x.den:Nat):Int)=g at*
   have lg:g.natAbs<2^k:=by lia
   have hq0:0<B/g:=Int.ediv_pos_of_pos_of_dvd hB (Yf ZO) ZP
   have hqB:B/g<=B:=Int.ediv_le_self _ (Yf hB)
   have Yg:(B/g).natAbs<2^k:=by lia
   walk_at "vs"
   rw[X2 _ (Yf ZO)]
   refine⟨⟨by lia,gM lg (by lia)⟩,aT Yg bd (by lia),step _ (Int.mul_pos hq0 dp) Ye ?_ ⟨B/g,Int.mul_comm _ _⟩⟩
   obtain⟨j,hj⟩:=Yd
   refine⟨j,?_⟩
   rw[hj,←Int.mul_assoc,Int.ediv_mul_cancel ZP]
 ·rintro _ ⟨B,o2,o3,⟨hB,hB2,hd⟩,rfl⟩
  rw[Ap]at hd
  have dB:∀x∈rs,(x.den:Int)∣B:=fun x hx=>by
   obtain⟨j,hj,e⟩:=List.getElem_of_mem hx
   exact hd j x hj (by rw[←e];exact BM hj)
  have bB:=small _ hB hB2
  have nb:∀x∈rs,(x.num*(B/x.den)).natAbs<2^n:=fun x hm=>by
   have hdx:=dB x hm
   have e:=(hc x hm).dvd
   obtain⟨j,hj⟩:=hB2
   have e2:D/x.den=B/x.den*j:=by
    rw[hj]
    exact Int.mul_ediv_assoc' _ hdx|>fun h=>by rw[←h]
   have j0:j≠0:=fun z=>by rw[z,Re]at hj;lia
   refine KE ?_ e.2
   rw[e2,←Int.mul_assoc,HI (x.num*(B/x.den)) j]
   exact W1 _ (by lia)
  walk_at "vs"
  refine gf (h:=wq) (g:=fun x=>.int (x.num*(B/x.den))) rs [] _ (fun x hx K hK=>?_) (af (by simpa using FC hl (by decide))) ?_
  ·have dp:0<(x.den:Int):=by have:=x.den_pos;lia
   have bd:=small _ dp (hc x hx).dvd.1
   have big:=nb x hx
   have q0:0<B/x.den:=Int.ediv_pos_of_pos_of_dvd hB (Yf dp) (dB x hx)
   have Yg:(B/x.den).natAbs<2^k:=by
    have h1:=Int.ediv_le_self (x.den:Int) (Yf hB)
    lia
   have Yh:x.num.natAbs<2^n:=by
    refine KE ?_ big
    rw[HI]
    exact W1 _ (by lia)
   refine⟨_,rfl,_,rfl,⟨mj x,gM bd (by lia)⟩,?_⟩
   walk_at "vs"
   rw[X2 _ (Yf dp)]
   exact⟨aT Yh Yg (by lia),hK⟩
  ·refine⟨af (by simp),?_⟩
   have:=hq _ B ⟨hB,rfl,dB⟩ hB2 bB (fun z hz=>by
    obtain⟨x,hx,rfl⟩:=Iy.mp hz
    exact nb x hx)
   unfold wI at this
   rw[Pl]at this
   exact this
noncomputable def eY:List CS:=[.set 1 (.int 0),.fr [2] true (.var 0) [.set 1 (.call 0 [(.var 2),(.var 1)]),.iff (.cmp .Eq (.var 1) (.int 1)) [.ret (.tup [(.int 1),(.blt .list [(.var 0)])])] []],.ret (.tup [(.var 1),(.comp [0] true 1 (.var 0) (.bl true) (.bin .FloorDiv (.var 0) (.var 2)))])]
structure ZQ(ns:List Int)(c:Int)(ms:List Int):Prop where
 pos:0<c
 dv:∀x∈ns,c∣x
 all:∀d:Int,(∀x∈ns,d∣x)->d∣c
 eq:ms=ns.map (·/c)
noncomputable def iZ:bT:=fun ws Q _=>∃(ns:List Int) (n:Nat),ws=[wI ns]/\((∃x∈ns,x≠0)/\ns.length<=500/\n<=6000/\∀x∈ns,x.natAbs<2^n)/\∀c ms,ZQ ns c ms->c.natAbs<2^n->Q (.tup [.int c,wI ms])
theorem yC{G:Nat->W}{m:Md}(ws:List W)(Q:W->Prop)(R:Addr->Prop)(h:iZ ws Q R):wSs (cu [ED]) G eY (cj m Q R) (aA 3 ws):=by
 obtain⟨ns,n,rfl,⟨⟨x0,Wu,nz⟩,hl,hn,hb⟩,hq⟩:=h
 show wSs _ _ eY _ [some (wI ns),none,none]
 unfold eY
 simp only[wSs,wS,wE,look,List.set]
 unfold wI at*
 walk_at "vs"
 refine bJ (fun i ε=>∃(c:Int) (o2:Option W),(0<=c/\(∀j,j<i->j<ns.length->c∣ns.getD j 0)/\(∀d:Int,(∀x∈ns,d∣x)->d∣c)/\c.natAbs<2^n)/\ε=[some (.lst (ns.map W.int)),some (.int c),o2]) ⟨0,none,⟨by decide,fun j h=>by lia,fun d _=>Int.dvd_zero d,PQ (by decide)⟩,rfl⟩ ?_ ?_
 ·rintro i w _ N hw ⟨c,o2,⟨c0,hd,ha,bc⟩,rfl⟩ hN
  have hi:i<ns.length:=by
   have:=(Fs.mp hw).1
   simpa using this
  rw[int_at hi]at hw
  cases hw
  have hm:ns.getD i 0∈ns:=Sub.getD_mem' hi
  walk_at "vs"
  refine⟨ns.getD i 0,c,n,rfl,bc,hn,?_⟩
  have g1:((Int.gcd (ns.getD i 0) c:Nat):Int)∣ns.getD i 0:=Int.gcd_dvd_left ..
  have g2:((Int.gcd (ns.getD i 0) c:Nat):Int)∣c:=Sr ..
  have g3:∀d:Int,(∀x∈ns,d∣x)->d∣((Int.gcd (ns.getD i 0) c:Nat):Int):=fun d h=>Int.dvd_coe_gcd (h _ hm) (ha d h)
  have g4:((Int.gcd (ns.getD i 0) c:Nat):Int).natAbs<2^n:=by
   rcases Int.lt_or_eq_of_le c0 with c1|c1
   ·have:=Int.le_of_dvd c1 g2
    lia
   ·rw[←c1,Int.gcd_zero_right]
    have:=hb _ hm
    lia
  have g0:0<=((Int.gcd (ns.getD i 0) c:Nat):Int):=by lia
  generalize((Int.gcd (ns.getD i 0) c:Nat):Int)=g at*
  have dv:∀j,j<i+1->j<ns.length->g∣ns.getD j 0:=fun j hj hl=>by
   by_cases e:j=i
   ·subst e
    exact g1
   ·exact Int.dvd_trans g2 (hd j (by lia) hl)
  walk_at "vs"
  by_cases e:g=1
  ·rw[Hn e]
   walk_at "vs"
   subst e
   have:=hq 1 ns ⟨by decide,fun x _=>Int.one_dvd x,g3,by simp⟩ g4
   exact⟨af (by simp),this⟩
  ·rw[P3 e]
   walk_at "vs"
   exact hN _ ⟨g,_,⟨g0,dv,g3,g4⟩,rfl⟩
 ·rintro _ ⟨c,o2,⟨c0,hd,ha,bc⟩,rfl⟩
  rw[Ap]at hd
  have dv:∀x∈ns,c∣x:=fun x hx=>by
   obtain⟨j,hj,e⟩:=List.getElem_of_mem hx
   have:=hd j hj hj
   rw[AC,BM hj]at this
   rw[←e]
   exact this
  have cp:0<c:=by
   rcases Int.lt_or_eq_of_le c0 with z|z
   ·exact z
   ·have:=dv x0 Wu
    rw[←z,Int.zero_dvd]at this
    exact absurd this nz
  walk_at "vs"
  refine gf (h:=W.int) (g:=fun x=>.int (x/c)) ns [] _ (fun x hx K hK=>?_) (af (by simpa using FC hl (by decide))) ?_
  ·walk_at "vs"
   rw[X2 _ (Yf cp)]
   exact⟨⟨by lia,gM bc (by lia)⟩,hK⟩
  ·refine⟨af (by simp),?_⟩
   have:=hq c _ ⟨cp,dv,ha,rfl⟩ bc
   rw[Pl]at this
   exact this
noncomputable def eZ:List CS:=[.Gb [1,2] (.call 0 [(.var 0)]),.Gb [3,1] (.call 1 [(.var 1)]),.ret (.tup [(.var 1),(.var 2),(.var 3)])]
structure Prim(rs:List Rat)(ms:List Int)(B c:Int):Prop where
 bpos:0<B
 cpos:0<c
 len:ms.length=rs.length
 at_:∀i,(ms.getD i 0:Rat)*c=rs.getD i 0*B
 one:∀d:Int,(∀x∈ms,d∣x)->d∣1
noncomputable def ef:bT:=fun ws Q _=>∃(rs:List Rat) (D:Int) (n k:Nat),ws=[aq rs]/\((∃x∈rs,x≠0)/\(∀x∈rs,Cd D n x)/\0<D/\D.natAbs<2^k/\k<=6000/\n<=6000/\rs.length<=100)/\∀(ms:List Int) (B c:Int),Prim rs ms B c->B.natAbs<2^k->c.natAbs<2^n->(∀x∈ms,x.natAbs<2^n)->Q (.tup [wI ms,.int B,.int c])
theorem ur{α:Type}{l:List α}{f:α->Int}{i:Nat}{x:α}(h:l[i]?=some x):(l.map f).getD i 0=f x:=by
 rw[AC,FS,h]
 rfl
theorem LB{rs:List Rat}{ns ms:List Int}{B c:Int}(h1:ZM rs ns B)(h2:ZQ ns c ms):Prim rs ms B c:=by
 have l1:ns.length=rs.length:=by rw[h1.eq,Ap]
 have l2:ms.length=rs.length:=by rw[h2.eq,Ap,l1]
 refine⟨h1.pos,h2.pos,l2,fun i=>?_,fun d hd=>?_⟩
 ·by_cases hi:i<rs.length
  ·have er:=BM hi
   have e1:ns.getD i 0=rs[i].num*(B/rs[i].den):=by rw[h1.eq];exact ur er
   have en:ns[i]?=some (ns.getD i 0):=by
    rw[AC,BM (by lia)]
    rfl
   have e2:ms.getD i 0=ns.getD i 0/c:=by rw[h2.eq];exact ur en
   have dc:=h2.dv _ (Pm en)
   have:ms.getD i 0*c=ns.getD i 0:=by rw[e2];exact Int.ediv_mul_cancel dc
   have e3:((ms.getD i 0:Int):Rat)*(c:Rat)=((ns.getD i 0:Int):Rat):=by rw[←this,Gc]
   rw[e3,e1]
   have e4:rs.getD i 0=rs[i]:=by rw[AC,er];rfl
   rw[e4]
   exact jV (h1.dv _ (On _))
  ·have z1:ms.getD i 0=0:=by rw[AC,FK (by lia)];rfl
   have z2:rs.getD i 0=0:=by rw[AC,FK (by lia)];rfl
   rw[z1,z2]
   show((0:Int):Rat)*_=0*_
   grind
 ·have:=h2.all (d*c) fun x hx=>by
   have e:=hd (x/c) (by rw[h2.eq];exact Iy.mpr ⟨x,hx,rfl⟩)
   obtain⟨y,hy⟩:=e
   refine⟨y,?_⟩
   rw[←Int.ediv_mul_cancel (h2.dv x hx),hy]
   grind
  obtain⟨y,hy⟩:=this
  refine⟨y,?_⟩
  have cp:=h2.pos
  have:c*1=c*(d*y):=by rw[du];rw[Int.mul_comm c,Int.mul_assoc,Int.mul_comm y c,←Int.mul_assoc];exact hy
  exact T2 (by lia) this
theorem yD{G:Nat->W}{m:Md}(ws:List W)(Q:W->Prop)(R:Addr->Prop)(h:ef ws Q R):wSs (cu [mE,iZ]) G eZ (cj m Q R) (aA 4 ws):=by
 obtain⟨rs,D,n,k,rfl,⟨⟨x0,Wu,nz⟩,hc,hD,ZN,hk,hn,hl⟩,hq⟩:=h
 show wSs _ _ eZ _ [some (aq rs),none,none,none]
 unfold eZ
 walk_at "vs"
 refine⟨rs,D,n,k,rfl,⟨hc,hD,ZN,hk,by lia,hl⟩,fun ns B h1 dB bB bn=>?_⟩
 refine⟨rfl,?_⟩
 walk_at "vs"
 have ln:ns.length=rs.length:=by rw[h1.eq,Ap]
 refine⟨ns,n,rfl,⟨⟨x0.num*(B/x0.den),by rw[h1.eq];exact Iy.mpr ⟨x0,Wu,rfl⟩,?_⟩,by lia,hn,bn⟩,fun c ms h2 bc=>?_⟩
 ·have d:=h1.dv x0 Wu
  have dp:0<(x0.den:Int):=by have:=x0.den_pos;lia
  have:0<B/x0.den:=Int.ediv_pos_of_pos_of_dvd h1.pos (Yf dp) d
  exact Mo (fun z=>nz (Rat.num_eq_zero.mp z)) (by lia)
 ·refine⟨rfl,?_⟩
  walk_at "vs"
  refine⟨af (by simp),hq ms B c (LB h1 h2) bB bc fun x hx=>?_⟩
  rw[h2.eq]at hx
  obtain⟨y,hy,rfl⟩:=Iy.mp hx
  have:=Int.natAbs_ediv_le_natAbs y c
  have:=bn y hy
  lia
noncomputable def cT:List CS:=[.iff (.cmp .Eq (.var 2) (.int 0)) [.ret (.var 0)] [],.ret (.bin .FloorDiv (.call 0 [(.var 1),(.var 2)]) (.call 0 [(.var 0),(.bin .Sub (.var 2) (.int 1))]))]
noncomputable def dD:bT:=fun ws Q _=>∃(h l:Int) (δ n:Nat),ws=[.int h,.int l,.int δ]/\(h.natAbs<2^n/\l.natAbs<2^n/\n*(δ+1)<=60000000/\(0<δ->h^(δ -1)≠0/\(h^(δ -1)).natAbs.log2<9000))/\Q (.int (Sub.hnext h l δ))
theorem sR{G:Nat->W}{m:Md}(ws:List W)(Q:W->Prop)(R:Addr->Prop)(h:dD ws Q R):wSs (cu [eH]) G cT (cj m Q R) (aA 3 ws):=by
 obtain⟨h,l,δ,n,rfl,⟨bh,bl,hn,hd⟩,hq⟩:=h
 show wSs _ _ cT _ [some (.int h),some (.int l),some (.int δ)]
 unfold cT
 walk_at "vs"
 by_cases z:(δ:Int)=0
 ·rw[Hn z]
  walk_at "vs"
  have e:Sub.hnext h l δ=h:=by
   unfold Sub.hnext
   rw[Bi (by lia)]
  rw[e]at hq
  exact hq
 ·rw[P3 z]
  walk_at "vs"
  obtain⟨d1,d2⟩:=hd (by lia)
  have e:Sub.hnext h l δ=(l^δ).fdiv (h^(δ -1)):=by
   unfold Sub.hnext
   rw[B1 (by lia)]
  rw[e]at hq
  refine⟨l,δ,n,rfl,bl,hn,?_⟩
  rw[show(δ:Int) -1=((δ -1:Nat):Int) by lia]
  refine⟨h,δ -1,n,rfl,bh,FC (Dx _ (by lia)) hn,?_⟩
  walk_at "vs"
  exact⟨⟨d1,d2⟩,hq⟩
theorem gO{x:Nat}{n m:Nat}(h:x<2^n)(hm:n<=m):x<2^m:=GE h (Ha (by decide) hm)
theorem HG{a b:Int}{n:Nat}(h1:a.natAbs<n)(h2:b.natAbs<n):(a -b).natAbs<2*n:=by
 have:=Int.natAbs_sub_le a b
 lia
theorem Yi{p i:Nat}(h:p<i):i -p=(i -(p+1))+1:=by lia
theorem lz{ns:List Int}{n:Nat}(h:∀x∈ns,x.natAbs<2^n)(k:Nat):(ns.getD k 0).natAbs<2^n:=by
 by_cases hk:k<ns.length
 ·rw[AC,BM hk]
  exact h _ (On hk)
 ·rw[outI (by lia)]
  exact PQ (by decide)
theorem Nh{ns:List Int}(h:0<ns.length):kP (ns.map W.int) (-1)=some (.int (ns.getD (ns.length -1) 0)):=by
 refine ug ?_
 rw[XB,Ap,int_at (by omega)]
theorem yE{n k:Nat}{f:Nat->Int}(h:k<n):(tabI n f).getD k 0=f k:=by
 rw[AC,iW h]
 rfl
theorem CA(n:Nat)(f:Nat->Int)(k:Nat):(tabI n f).getD k 0=if k<n then f k else 0:=by
 by_cases h:k<n
 ·rw[Bi h,yE h]
 ·rw[B1 h]
  exact outI (by rw[bV];lia)
theorem qR{n:Nat}{f:Nat->Int}{x:Int}(h:x∈tabI n f):∃k,k<n/\x=f k:=by
 unfold tabI at h
 obtain⟨k,hk,rfl⟩:=Iy.mp h
 exact⟨k,Ki.mp hk,rfl⟩
theorem yF{n:Nat}{f g:Nat->Int}(h:∀k,k<n->f k=g k):tabI n f=tabI n g:=by
 unfold tabI
 exact aw fun k hk=>h k (Ki.mp hk)
theorem HH(n:Nat)(x:Int):List.replicate n (W.int x)=(tabI n fun _=>x).map W.int:=by
 unfold tabI
 rw[List.map_const',He,List.map_replicate]
theorem EH{n:Nat}(ns:List Int)(h:ns.length=n):ns=tabI n fun k=>ns.getD k 0:=by
 refine de fun j=>?_
 by_cases hj:j<n
 ·rw[iW hj,AC,BM (by lia)]
  rfl
 ·rw[FK (by lia),FK (by rw[bV];lia)]
theorem LC{r n s:Nat}{w:W}(h:(eU ((r:Int) -1) (-1) n)[s]?=some w):s<n/\w=.int ((r:Int) -1 -s):=by
 unfold eU at h
 rw[FS]at h
 obtain⟨j,e,rfl⟩:=OK.mp h
 obtain⟨h1,h2⟩:=Fs.mp e
 rw[List.getElem_range]at h2
 rw[He]at h1
 refine⟨h1,?_⟩
 rw[←h2]
 congr 1
 lia
theorem LD(lo st:Int)(n:Nat):(eU lo st n).length=n:=by unfold eU;simp
theorem EI{r:Nat}{Q:List W->Prop}(h:r<=1000)(q:Q (eU ((r:Int) -1) (-1) r)):Gf [.int ((r:Int) -1),.int (-1),.int (-1)] Q:=
 ⟨r,⟨by decide,by decide,AM h,uo⟩,q⟩
theorem LF{R:List Int}(h:0<R.length):∃R0 x,R=R0++[x]:=
 ⟨R.dropLast,R.getLast (fun z=>by rw[z]at h;cases h),(List.dropLast_concat_getLast _).symm⟩
theorem pop_at{R0:List Int}{x:Int}:((R0++[x]).map W.int)[((R0++[x]).map W.int).length -1]?=some (.int x):=by
 simp
theorem Ry{R0:List Int}{x:Int}:((R0++[x]).map W.int).dropLast=R0.map W.int:=by
 simp
noncomputable def bZ:List CS:=[.set 2 (.blt .max2 [(.bin .Add (.bin .Sub (.blt .len [(.var 0)]) (.blt .len [(.var 1)])) (.int 1)),(.int 0)]),.set 3 (.ix (.var 1) (.neg (.int 1))),.set 4 (.blt .list [(.var 0)]),.set 5 (.bin .Mult (.lst [(.int 0)]) (.var 2)),.fr [6] true (.jn [(.bin .Sub (.var 2) (.int 1)),(.neg (.int 1)),(.neg (.int 1))]) [.Ag 7 (.pop 4),.put 5 (.var 6) (.var 7),.set 4 (.call 0 [(.var 4),(.var 3)]),.fr [8] true (.jn [(.bin .Sub (.blt .len [(.var 1)]) (.int 1))]) [.put 4 (.bin .Add (.var 6) (.var 8)) (.bin .Sub (.ix (.var 4) (.bin .Add (.var 6) (.var 8))) (.bin .Mult (.var 7) (.ix (.var 1) (.var 8))))]],.set 9 (.int 1),.fr [6] true (.jn [(.var 2)]) [.put 5 (.var 6) (.bin .Mult (.ix (.var 5) (.var 6)) (.var 9)),.set 9 (.bin .Mult (.var 9) (.var 3))],.ret (.tup [(.var 5),(.call 1 [(.var 4)]),(.var 9)])]
structure Rz(ns ms:List Int)(N M:Nat)(Qs R:List Int):Prop where
 VF:Qs.length=ns.length+1 -ms.length
 VG:R.length<ms.length
 eq:∀k,(ms.getD (ms.length -1) 0)^(ns.length+1 -ms.length)*ns.getD k 0=sG (fun i=>Qs.getD i 0) (fun i=>ms.getD i 0) k+R.getD k 0
 bQ:∀x∈Qs,x.natAbs<2^(N+(ns.length+1 -ms.length)*(M+1))
 bR:∀x∈R,x.natAbs<2^(N+(ns.length+1 -ms.length)*(M+1))
 last:R=[]\/R.getD (R.length -1) 0≠0
noncomputable def dG:bT:=fun ws Q _=>∃(ns ms:List Int) (N M:Nat),ws=[wI ns,wI ms]/\(0<ms.length/\ns.length<=100/\ms.length<=100/\(∀x∈ns,x.natAbs<2^N)/\(∀x∈ms,x.natAbs<2^M)/\N+101*(M+1)<=1000000)/\
 ∀Qs R:List Int,Rz ns ms N M Qs R->Q (.tup [wI Qs,wI R,.int ((ms.getD (ms.length -1) 0)^(ns.length+1 -ms.length))])
theorem oW{G:Nat->W}{m:Md}(ws:List W)(Q:W->Prop)(R:Addr->Prop)(h:dG ws Q R):wSs (cu [jW,jF]) G bZ (cj m Q R) (aA 10 ws):=by
 obtain⟨ns,ms,N,M,rfl,⟨lm,la,lb,bn,bm,hNM⟩,q⟩:=h
 show wSs _ _ bZ _ [some (wI ns),some (wI ms),none,none,none,none,none,none,none,none]
 unfold bZ wI
 walk_at "vs"
 have eR:(if(0:Int)>((ns.map W.int).length:Int) -((ms.map W.int).length:Int)+1 then(0:Int)else((ns.map W.int).length:Int) -((ms.map W.int).length:Int)+1)=((ns.length+1 -ms.length:Nat):Int):=by
  rw[Ap,Ap]
  split<;>lia
 have bL:=lz bm (ms.length -1)
 have eL:=Nh lm
 have hroom:∀s,s<=ns.length+1 -ms.length->s*(M+1)<=101*(M+1):=fun s hs=>U2 _ (by lia)
 rw[eR]
 have Ni:(ms.map W.int).length=ms.length:=Ap _
 generalize hl:ms.getD (ms.length -1) 0=l at*
 generalize qS:ns.length+1 -ms.length=room at*
 refine⟨_,eL,?_⟩
 walk_at "vs"
 rw[Int.toNat_natCast,cN,HH]
 refine⟨af (by simp),by lia,by lia,af (by simp;lia),?_⟩
 refine EI (by lia) ?_
 walk_at "vs"
 refine bJ (fun s ε=>∃(R:List Int) (hs Qf:Nat->Int) (v6 v7 v8:Option W),(AG ns ms l s Qf R/\R.length=ns.length -s/\(∀x∈R,x.natAbs<2^(N+s*(M+1)))/\(∀i,i<room->room -s<=i->Qf i=hs i*l^(i -(room -s))/\(hs i).natAbs<2^(N+(room -1 -i)*(M+1)))/\(∀i,(i<room -s\/room<=i)->Qf i=0))/\ε=[some (.lst (ns.map W.int)),some (.lst (ms.map W.int)),some (.int room),some (.int l),some (.lst (R.map W.int)),some (.lst ((tabI room hs).map W.int)),v6,v7,v8,none]) ⟨ns,fun _=>0,fun _=>0,none,none,none,⟨AG.start ns ms l,by lia,fun x hx=>by rw[Nat.zero_mul];exact bn x hx,fun i h1 h2=>by lia,fun _ _=>rfl⟩,rfl⟩ ?_ ?_
 ·rintro s w _ N1 hw ⟨R,hd,Qf,v6,v7,v8,⟨dv,lR,bR,hq,hz⟩,rfl⟩ AI
  obtain⟨hs,rfl⟩:=LC hw
  have hp:((room:Nat):Int) -1 -(s:Int)=((room -1 -s:Nat):Int):=by lia
  rw[hp]
  generalize hpp:room -1 -s=p at*
  have Jh:R.length=p+ms.length:=by lia
  have bs:=hroom s (by clear Jh hp hpp hw;lia)
  have Wv:=hroom (s+1) (by clear bs Jh hp hpp hw;lia)
  obtain⟨R0,x,rfl⟩:=LF (R:=R) (by lia)
  have Rv:R0.length=p+ms.length -1:=by
   rw[Ee]at Jh
   simp only[List.length_cons,List.length_nil]at Jh
   lia
  have ex:(R0++[x]).getD (p+ms.length -1) 0=x:=by
   rw[AC,Nw (by lia),Rv,Nat.sub_self]
   rfl
  have eg:∀k,k<p+ms.length -1->(R0++[x]).getD k 0=R0.getD k 0:=fun k hk=>by
   rw[AC,OF (by lia),←AC]
  have bx:x.natAbs<2^(N+s*(M+1)):=bR x (GT _ (Fh.mpr rfl))
  have ZR:∀y∈R0,y.natAbs<2^(N+s*(M+1)):=fun y hy=>bR y (PH _ hy)
  walk_at "vs"
  refine⟨_,pop_at,?_⟩
  rw[Ry]
  walk_at "vs"
  refine⟨p,iV (by rw[Ap,bV];lia),?_⟩
  have et:=mz (n:=room) (f:=hd) (g:=fun k=>if k=p then x else hd k) (k:=p) (by lia) (fun j _ hj=>B1 hj)
  rw[Bi rfl]at et
  rw[←cx,et]
  refine⟨R0,l,rfl,by lia,fun y hy=>aT bL (ZR y hy) (by lia),?_⟩
  have em:(R0.map fun y=>l*y)=tabI (p+ms.length -1) fun k=>l*R0.getD k 0:=by
   conv=>lhs;rw[EH R0 Rv]
   unfold tabI
   rw[Pl]
   rfl
  rw[em]
  unfold wI
  walk_at "vs"
  rw[Ni]
  refine⟨by lia,by lia,?_⟩
  rw[show((ms.length:Int) -1).toNat=ms.length -1 by lia]
  refine bJ (fun j ε=>∃(v8:Option W),ε=[some (.lst (ns.map W.int)),some (.lst (ms.map W.int)),some (.int room),some (.int l),some (.lst ((tabI (p+ms.length -1) fun k=>if p<=k/\k<p+j then l*R0.getD k 0 -x*ms.getD (k -p) 0 else l*R0.getD k 0).map W.int)),some (.lst ((tabI room fun k=>if k=p then x else hd k).map W.int)),some (.int p),some (.int x),v8,none]) ⟨v8,?_⟩ ?_ ?_
  ·rw[yF (n:=p+ms.length -1) (f:=fun k=>if p<=k/\k<p+0 then l*R0.getD k 0 -x*ms.getD (k -p) 0 else l*R0.getD k 0) fun k _=>B1 (show¬(p<=k/\k<p+0) by clear em et bx ex Rv Jh lR Wv bs hp hpp hw hs eR qS eL bL hl Ni hNM lb la lm;lia)]
  ·rintro j w _ N2 Ak ⟨v8,rfl⟩ AJ
   obtain⟨hj,rfl⟩:=iU Ak
   have ix:p+j<p+ms.length -1:=by lia
   walk_at "vs"
   rw[show(p:Int)+(j:Int)=((p+j:Nat):Int) by lia]
   refine⟨_,bF (by rw[FS,iW ix];rfl),?_⟩
   rw[B1 (show¬(p<=p+j/\p+j<p+j) by lia)]
   refine⟨_,bF (int_at (by clear ix Ak;lia)),?_⟩
   walk_at "vs"
   refine⟨aT bx (lz bm j) (by lia),p+j,iV (by rw[Ap,bV];exact ix),AJ _ ⟨some (.int j),?_⟩⟩
   have e:=mz (n:=p+ms.length -1) (f:=fun k=>if p<=k/\k<p+j then l*R0.getD k 0 -x*ms.getD (k -p) 0 else l*R0.getD k 0) (g:=fun k=>if p<=k/\k<p+(j+1)then l*R0.getD k 0 -x*ms.getD (k -p) 0 else l*R0.getD k 0) ix (fun k _ hk=>by
    by_cases hkj:p<=k/\k<p+j
    ·rw[Bi hkj,Bi (by lia)]
    ·rw[B1 hkj,B1 (by lia)])
   rw[Bi (by lia),Nat.add_sub_cancel_left]at e
   rw[←e,cx]
  ·rintro _ ⟨v8,rfl⟩
   rw[LD]
   have r1:room -(s+1)=p:=by clear bs Wv Jh lR;lia
   have r2:room -s=p+1:=by clear bs Wv Jh lR;lia
   refine AI _ ⟨_,fun k=>if k=p then x else hd k,fun i=>l*Qf i+if i=p then(R0++[x]).getD (p+ms.length -1) 0 else 0,_,_,_,⟨dv.step lm hl.symm Jh (R':=tabI (p+ms.length -1) fun k=>if p<=k/\k<p+(ms.length -1)then l*R0.getD k 0 -x*ms.getD (k -p) 0 else l*R0.getD k 0) (bV _ _) (fun k hk=>?_),by rw[bV,Nat.sub_add_eq,←lR,Jh],fun y hy=>?_,fun i h1 h2=>?_,fun i h=>?_⟩,rfl⟩
   ·rw[yE hk,ex,eg k hk]
    by_cases hpk:p<=k
    ·rw[Bi ⟨hpk,by clear hpk;lia⟩,Bi hpk]
    ·rw[B1 (by lia),B1 hpk,Int.sub_zero]
   ·obtain⟨k,hk,rfl⟩:=qR hy
    have c1:(l*R0.getD k 0).natAbs<2^(M+(N+s*(M+1))):=by
     rw[HI]
     exact lt_mul bL (lz ZR k)
    have c2:(x*ms.getD (k -p) 0).natAbs<2^(M+(N+s*(M+1))):=by
     rw[HI,Y2]
     exact lt_mul (lz bm _) bx
    have c3:2^(N+(s+1)*(M+1))=2*2^(M+(N+s*(M+1))):=by
     rw[Nat.add_mul,Nat.one_mul,show N+(s*(M+1)+(M+1))=(M+(N+s*(M+1)))+1 by lia,Nat.pow_succ]
     lia
    rw[c3]
    split
    ·exact HG c1 c2
    ·exact GE c1 (Nat.le_mul_of_pos_left _ (by decide))
   ·show l*Qf i+(if i=p then _ else 0)=(if i=p then x else hd i)*l^(i -(room -(s+1)))/\(if i=p then x else hd i).natAbs<_
    rw[r1]at h2⊢
    rw[r2]at hq hz
    by_cases RA:i=p
    ·rw[Bi RA,Bi RA,hz i (.inl (by rw[RA];exact RF p)),ex,RA,Nat.sub_self,Q1]
     refine⟨by rw[Re,Int.zero_add,du],?_⟩
     rw[show room -1 -p=s by clear bs Wv Jh lR h2 h1;lia]
     exact bx
    ·have pi:=Nat.lt_of_le_of_ne h2 (Qb RA)
     have hh:=hq i h1 pi
     rw[B1 RA,B1 RA,hh.1,Yi pi,Kj]
     exact⟨by grind,hh.2⟩
   ·show l*Qf i+(if i=p then _ else 0)=0
    rw[B1 (by lia),hz i (by lia),Re]
    rfl
 ·rintro _ ⟨R,hs,Qf,v6,v7,v8,⟨dv,lR,bR,hq,hz⟩,rfl⟩
  rw[LD]at dv lR bR hq hz
  have brr:=hroom room (by lia)
  walk_at "vs"
  refine⟨by lia,by lia,?_⟩
  rw[Int.toNat_natCast]
  refine bJ (fun j ε=>∃(v6:Option W),ε=[some (.lst (ns.map W.int)),some (.lst (ms.map W.int)),some (.int room),some (.int l),some (.lst (R.map W.int)),some (.lst ((tabI room fun k=>if k<j then hs k*l^k else hs k).map W.int)),v6,v7,v8,some (.int (l^j))]) ⟨v6,?_⟩ ?_ ?_
  ·rw[Q1,yF (n:=room) (f:=fun k=>if k<0 then hs k*l^k else hs k) fun k _=>B1 (Nat.not_lt_zero k)]
  ·rintro j w _ N2 Ak ⟨v6,rfl⟩ AJ
   obtain⟨hj',rfl⟩:=iU Ak
   have bh:=(hq j hj' (by lia)).2
   have bp:=HC (i:=j) bL
   have ZS:(l^j).natAbs<2^(M*j+1):=by
    have:2^(M*j+1)=2*2^(M*j):=by rw[Nat.pow_succ];lia
    have:0<2^(M*j):=PQ (by decide)
    lia
   have k1:=hroom (room -1 -j) (by lia)
   have k2:M*j<=M*101:=Dx _ (by lia)
   walk_at "vs"
   refine⟨_,bF (by rw[FS,iW hj'];rfl),?_⟩
   rw[B1 (SF j)]
   walk_at "vs"
   refine⟨aT bh ZS (by lia),j,iV (by rw[Ap,bV];exact hj'),aT ZS bL (by lia),?_⟩
   have e:=mz (n:=room) (f:=fun k=>if k<j then hs k*l^k else hs k) (g:=fun k=>if k<j+1 then hs k*l^k else hs k) hj' (fun k _ hk=>by
    by_cases hkj:k<j
    ·rw[Bi hkj,Bi (by lia)]
    ·rw[B1 hkj,B1 (by lia)])
   rw[Bi (RF j)]at e
   rw[←cx,e]
   refine AJ _ ⟨some (.int j),?_⟩
   rw[Kj]
  ·rintro _ ⟨v6,rfl⟩
   rw[LD]
   walk_at "vs"
   refine⟨R,rfl,fun ts tr=>?_⟩
   refine⟨af (by simp),?_⟩
   have tl:=yv tr
   have eqf:∀i,Qf i=(tabI room fun k=>if k<room then hs k*l^k else hs k).getD i 0:=fun i=>by
    rw[CA]
    by_cases hi:i<room
    ·rw[Bi hi,Bi hi,(hq i hi (by lia)).1,show i -(room -room)=i by lia]
    ·rw[B1 hi,hz i (by lia)]
   refine q _ ts ⟨?_,by lia,fun k=>?_,fun y hy=>?_,fun y hy=>?_,tr.last⟩
   ·rw[bV,qS]
   ·rw[qS,hl,dv k,Ck tr]
    congr 2
    exact funext eqf
   ·obtain⟨k,hk,rfl⟩:=qR hy
    rw[Bi hk,HI,qS]
    refine gO (Cm (hq k hk (by lia)).2 (HC (i:=k) bL)) ?_
    have e:room*(M+1)=(room -1 -k)*(M+1)+(k+1)*(M+1):=by
     rw[←Nat.add_mul,show room -1 -k+(k+1)=room by lia]
    have e2:M*k<=(k+1)*(M+1):=by
     rw[Y2]
     exact Oy (by lia) (by lia)
    lia
   ·rw[qS]
    exact bR y (tr.mem y hy)
end VL
namespace Num
noncomputable def hz(t:Int):List Int->List Int
 |[]=>[]
 |r::rs=>(r+t*(hz t rs).headD 0)::hz t rs
noncomputable def cs(l:List Int):List Rat:=l.map fun x:Int=>((x:Int):Rat)
noncomputable def sc(u b:Rat):List Rat->List Rat
 |[]=>[]
 |r::rs=>r*u*b^rs.length::sc u b rs
noncomputable def gz(t:Int)(M:List Int)(k:Nat):Int:=(hz t (M.drop k)).headD 0
end Num
namespace L2
open PySem
end L2
namespace VL
open PySem PySem.Spec
open PyProof.Rows hiding St
open L2 Num
abbrev VH:List Str:=["ahead","last","factor_ahead","factor_last","lead","height","sign","scale","known"]
noncomputable def j5(C:Addr)(A B fA fB:List Int)(ld h sg sc kn:Int):W:=.obj C VH [wI A,wI B,wI fA,wI fB,.int ld,.int h,.int sg,.int sc,.int kn]
structure Nj(A B fA fB:List Int)(ld h:Int)(N E:Nat):Prop where
 l2:2<=B.length
 Yj:B.length<=A.length
 ZT:A.length<=15
 lf:fA.length<=40
 Ws:fB.length<=40
 bA:∀x∈A,x.natAbs<2^N
 bB:∀x∈B,x.natAbs<2^N
 ZU:∀x∈fA,x.natAbs<2^N
 Yk:∀x∈fB,x.natAbs<2^N
 bl:ld.natAbs<2^N
 bh:h.natAbs<2^N
 hN:N<=5000
 hE:E<=7900
 k0:ld*h^(A.length -B.length)≠0
 kE:(ld*h^(A.length -B.length)).natAbs<=2^E
 h0:0<A.length -B.length->h^(A.length -B.length -1)≠0/\(h^(A.length -B.length -1)).natAbs<=2^E
noncomputable def yG(A B Qs R:List Int)(c:Int):Prop:=c=B.getD (B.length -1) 0^(A.length -B.length+1)/\Qs.length=A.length -B.length+1/\(∀k,R.getD k 0=c*A.getD k 0 -cf Qs B Qs.length k)/\R.length<B.length/\(R=[]\/R.getD (R.length -1) 0≠0)
noncomputable def RB(fA fB Qs F:List Int)(c:Int):Prop:=(∀k,F.getD k 0=c*fA.getD k 0 -cf Qs fB Qs.length k)/\F.length<=max fA.length (Qs.length+fB.length -1)/\(fB=[]->F.length<=fA.length)
noncomputable def Nk(A B:List Int)(sg:Int):Int:=Sub.sg ((A.length -1)*(B.length -1))*sg
theorem AS(n:Nat):Sub.sg n=if n%2=0 then 1 else-1:=by
 unfold Sub.sg
 induction n with
 |zero=>rfl
 |succ n ih=>
  rw[Kj,ih]
  by_cases h:n%2=0
  ·rw[Bi h,B1 (by lia)]
   rfl
  ·rw[B1 h,Bi (by lia)]
   rfl
theorem HJ{A B:List Int}{sg:Int}(a0:0<A.length)(b0:0<B.length)(ha:A.length%2=0)(hb:B.length%2=0):Nk A B sg= -sg:=by
 unfold Nk
 rw[AS,B1]
 ·lia
 ·rw[Nat.mul_mod,show(A.length -1)%2=1 by lia,show(B.length -1)%2=1 by lia]
  decide
theorem HK{A B:List Int}{sg:Int}(a0:0<A.length)(b0:0<B.length)(h:¬(A.length%2=0/\B.length%2=0)):Nk A B sg=sg:=by
 unfold Nk
 rw[AS,Bi]
 ·exact UF _
 ·rw[Nat.mul_mod]
  by_cases ha:A.length%2=0
  ·rw[show(B.length -1)%2=0 by lia,Nat.mul_zero]
  ·rw[show(A.length -1)%2=0 by lia,Nat.zero_mul]
theorem pT{n:Nat}:(n:Int).fmod 2=0↔n%2=0:=by
 rw[eD _ (by decide)]
 lia
noncomputable def yH(C:Addr):bT:=fun ws Q _=>∃(A B fA fB:List Int) (ld h sg sc kn:Int) (N E:Nat),ws=[j5 C A B fA fB ld h sg sc kn]/\Nj A B fA fB ld h N E/\
 (∀(Qs:List Int) (c:Int),yG A B Qs [] c->Q (.tup [.bl false,j5 C A B fA fB ld h sg sc kn]))/\
 (∀(Qs R F:List Int) (c:Int),R≠[]->yG A B Qs R c->RB fA fB Qs F c->Q (.tup [.bl true,j5 C B (R.map fun y=>y.fdiv (ld*h^(A.length -B.length))) fB (F.map fun y=>y.fdiv (ld*h^(A.length -B.length))) (B.getD (B.length -1) 0) (Sub.hnext h (B.getD (B.length -1) 0) (A.length -B.length)) (Nk A B sg) c (ld*h^(A.length -B.length))]))
theorem yI{n m:Nat}(h:Nat.blt n m=true):n<m:=Nat.le_of_ble_eq_true h
theorem VI{y:Int}{n:Nat}(h:y.natAbs<2^n)(e:Nat):(y^e).natAbs<2^(n*e+1):=by
 rw[Sub.iY]
 refine KE (SB (SL h) e) ?_
 rw[←cn]
 exact dq (by decide) (RF _)
theorem RC(as bs:List Int)(k:Nat):(if as=[]\/bs=[]then[]else tabI (as.length+bs.length -1) (cf as bs as.length)).getD k 0=cf as bs as.length k:=by
 by_cases hne:as=[]\/bs=[]
 ·rw[Bi hne]
  rcases hne with z|z
  ·rw[z]
   rfl
  ·rw[vE,z]
   rfl
 ·rw[B1 hne,CA]
  have la:0<as.length:=Hb.mpr fun z=>hne (.inl z)
  split
  ·rfl
  ·rw[yh as bs k as.length (by omega)]
theorem LG(as bs:List Int):(if as=[]\/bs=[]then[]else tabI (as.length+bs.length -1) (cf as bs as.length)).length<=as.length+bs.length -1/\(bs=[]->(if as=[]\/bs=[]then[]else tabI (as.length+bs.length -1) (cf as bs as.length)).length=0):=by
 by_cases hne:as=[]\/bs=[]
 ·rw[Bi hne]
  exact⟨NM _,fun _=>rfl⟩
 ·rw[B1 hne,bV]
  exact⟨Do _,fun z=>absurd (.inr z) hne⟩
theorem RD{as bs:List Int}{n m:Nat}(h1:∀y∈as,y.natAbs<2^n)(h2:∀y∈bs,y.natAbs<2^m)(hl:as.length<=100):∀y∈(if as=[]\/bs=[]then[]else tabI (as.length+bs.length -1) (cf as bs as.length)),y.natAbs<2^(n+m+7):=fun y hy=>by
 by_cases hne:as=[]\/bs=[]
 ·rw[Bi hne]at hy
  cases hy
 ·rw[B1 hne]at hy
  obtain⟨k,_,rfl⟩:=qR hy
  refine KE (Nc h1 h2 k as.length) ?_
  have e:(2:Nat)^(n+m+7)=2^(n+m)*128:=Ts 2 (n+m) 7
  have p0:0<2^(n+m):=PQ (by decide)
  rw[e]
  generalize 2^(n+m)=z at*
  have:=U2 z hl
  omega
theorem RE{A B Qs R:List Int}{N M:Nat}(h:Rz A B N M Qs R)(Yj:B.length<=A.length):yG A B Qs R (B.getD (B.length -1) 0^(A.length+1 -B.length)):=by
 have e:A.length+1 -B.length=A.length -B.length+1:=by lia
 refine⟨by rw[e],by rw[h.VF,e],fun k=>?_,h.VG,h.last⟩
 rw[h.eq k,pO]
 show _=sG (fun i=>Qs.getD i 0) (fun i=>B.getD i 0) k+_ -sG (fun i=>Qs.getD i 0) (fun i=>B.getD i 0) k
 lia
noncomputable def dH:List CS:=[.Gb [1,2,3] (.call 0 [(.own 0 [.fl 0 "ahead"]),(.own 0 [.fl 1 "last"])]),.iff (.cmp .Eq (.var 2) (.lst [])) [.Jc (.bl false)] [],.set 4 (.call 1 [(.call 2 [(.own 0 [.fl 2 "factor_ahead"]),(.var 3)]),(.call 3 [(.var 1),(.own 0 [.fl 3 "factor_last"])])]),.iff (.and [(.cmp .Eq (.bin .Mod (.blt .len [(.own 0 [.fl 0 "ahead"])]) (.int 2)) (.int 0)),(.cmp .Eq (.bin .Mod (.blt .len [(.own 0 [.fl 1 "last"])]) (.int 2)) (.int 0))]) [.DX 0 6 (.neg (.own 0 [.fl 6 "sign"]))] [],.set 5 (.bin .Sub (.blt .len [(.own 0 [.fl 0 "ahead"])]) (.blt .len [(.own 0 [.fl 1 "last"])])),.set 6 (.bin .Mult (.own 0 [.fl 4 "lead"]) (.call 4 [(.own 0 [.fl 5 "height"]),(.var 5)])),.DX 0 7 (.var 3),.DX 0 8 (.var 6),.DX 0 0 (.own 0 [.fl 1 "last"]),.DX 0 2 (.own 0 [.fl 3 "factor_last"]),.DX 0 1 (.comp [0] true 1 (.var 2) (.bl true) (.bin .FloorDiv (.var 0) (.var 7))),.DX 0 3 (.comp [0] true 1 (.var 4) (.bl true) (.bin .FloorDiv (.var 0) (.var 7))),.DX 0 4 (.ix (.own 0 [.fl 0 "ahead"]) (.neg (.int 1))),.DX 0 5 (.call 5 [(.own 0 [.fl 5 "height"]),(.own 0 [.fl 4 "lead"]),(.var 5)]),.Jc (.bl true)]
theorem vR{G:Nat->W}{m:Md}{C:Addr}(ws:List W)(Q:W->Prop)(R:Addr->Prop)(h:yH C ws Q R):wSs (cu [dG,fJ,jW,fK,eH,dD]) G dH (cj m Q R) (aA 7 ws):=by
 obtain⟨A,B,fA,fB,ld,h,sg,sc,kn,N,E,rfl,⟨l2,Yj,ZT,lf,Ws,bA,bB,ZU,Yk,bl,bh,hN,hE,k0,kE,h0⟩,q1,q2⟩:=h
 show wSs _ _ dH _ [some (j5 C A B fA fB ld h sg sc kn),none,none,none,none,none,none]
 have lB:=lz bB (B.length -1)
 have eLB:=Nh (ns:=B) (by lia)
 unfold dH
 have m1:N*(A.length+1 -B.length)<=5000*14:=Oy hN (by lia)
 have m2:(A.length+1 -B.length)*(N+1)<=14*5001:=Oy (by lia) (by lia)
 refine aW (fun ε'=>∃Qs R1,Rz A B N N Qs R1/\ε'=[some (j5 C A B fA fB ld h sg sc kn),some (wI Qs),some (wI R1),some (.int (B.getD (B.length -1) 0^(A.length+1 -B.length))),none,none,none]) (fun N1 AI=>?_) ?_
 ·unfold j5 at AI⊢
  walk_at "vs"
  exact⟨A,B,N,N,rfl,⟨by lia,by lia,by lia,bA,bB,by lia⟩,fun Qs R dv=>⟨rfl,AI _ ⟨Qs,R,dv,rfl⟩⟩⟩
 rintro _ ⟨Qs,R1,dv,rfl⟩
 have dR:=RE dv Yj
 have ZV:=dv.bQ
 have lQ:=dv.VF
 have lR:=dv.VG
 generalize hc:B.getD (B.length -1) 0^(A.length+1 -B.length)=c at*
 obtain⟨n0,hn0⟩:∃n0:Nat,n0=80000:=⟨_,rfl⟩
 have bc:c.natAbs<2^n0:=by
  rw[←hc]
  exact gO (VI lB _) (by lia)
 refine aW (fun ε'=>R1≠[]/\ε'=[some (j5 C A B fA fB ld h sg sc kn),some (wI Qs),some (wI R1),some (.int c),none,none,none]) (fun N1 AI=>?_) ?_
 ·walk_at "vs"
  refine⟨af (by simp),Rq (y:=[]) fun k hk=>?_⟩
  walk_at "vs"
  by_cases hR:R1=[]
  ·cases di hk hR
   walk_at "vs"
   subst hR
   exact q1 Qs c dR
  ·cases bY hk hR
   walk_at "vs"
   exact AI _ ⟨hR,rfl⟩
 rintro _ ⟨hR,rfl⟩
 refine aW (fun ε'=>∃F,RB fA fB Qs F c/\F.length<=100/\ε'=[some (j5 C A B fA fB ld h sg sc kn),some (wI Qs),some (wI R1),some (.int c),some (wI F),none,none]) (fun N1 AI=>?_) ?_
 ·unfold j5 at AI⊢
  walk_at "vs"
  refine⟨fA,c,rfl,by lia,fun y hy=>aT bc (ZU y hy) (by lia),?_⟩
  refine⟨Qs,fB,rfl,by lia,by lia,fun y hy z hz=>aT (ZV y hy) (Yk z hz) (by lia),?_⟩
  have tl:=LG Qs fB
  have tb:=RD ZV Yk (by lia)
  have tc:=RC Qs fB
  generalize(if Qs=[]\/fB=[]then[]else tabI (Qs.length+fB.length -1) (cf Qs fB Qs.length))=L4 at*
  refine⟨_,L4,_,rfl,by rw[Ap];lia,by lia,?_,tb,fun F tr=>?_⟩
  ·lia
  have lF:=yv tr
  rw[Ap,He,Ap]at lF
  refine AI _ ⟨F,⟨fun k=>?_,by lia,fun z=>?_⟩,by lia,rfl⟩
  ·rw[Ck tr,←tc k]
   by_cases hk:k<max (fA.map (c*·)).length L4.length
   ·rw[AC,FS,SC hk]
    show(fA.map fun y=>c*y).getD k 0 -_=_
    rw[Sub.map_getD (f:=fun y=>c*y) (Re c)]
   ·rw[Ap]at hk
    rw[outI (by rw[Ap,He,Ap];lia),outI (ns:=L4) (by lia),outI (ns:=fA) (by lia)]
    simp
  ·have:=tl.2 z
   lia
 rintro _ ⟨F,dF,lF,rfl⟩
 refine aW (fun ε'=>ε'=[some (j5 C A B fA fB ld h (Nk A B sg) sc kn),some (wI Qs),some (wI R1),some (.int c),some (wI F),none,none]) (fun N1 AI=>?_) ?_
 ·have a0:0<A.length:=by lia
  have b0:0<B.length:=by lia
  have y:¬(A.length%2=0/\B.length%2=0)->N1 [some (j5 C A B fA fB ld h sg sc kn),some (wI Qs),some (wI R1),some (.int c),some (wI F),none,none]:=fun e=>AI _ (by rw[HK a0 b0 e])
  have z:A.length%2=0->B.length%2=0->N1 [some (j5 C A B fA fB ld h (-sg) sc kn),some (wI Qs),some (wI R1),some (.int c),some (wI F),none,none]:=fun e1 e2=>AI _ (by rw[HJ a0 b0 e1 e2])
  clear AI
  unfold j5 wI at y z⊢
  walk_at "vs"
  refine⟨by decide,?_⟩
  by_cases e1:((A.map W.int).length:Int).fmod 2=0
  ·rw[Bi (Hn e1)]
   refine⟨by decide,?_⟩
   by_cases e2:((B.map W.int).length:Int).fmod 2=0
   ·rw[Bi (Hn e2)]
    rw[Ap]at e1 e2
    exact⟨by simp,z (pT.mp e1) (pT.mp e2)⟩
   ·rw[B1 (by rw[KM];exact e2)]
    rw[Ap]at e2
    exact y fun t=>e2 (pT.mpr t.2)
  ·rw[B1 (by rw[KM];exact e1)]
   rw[Ap]at e1
   exact y fun t=>e1 (pT.mpr t.1)
 rintro _ rfl
 have qq:=q2 Qs R1 F c hR dR dF
 generalize Nk A B sg=sg' at*
 have VJ:(ld*h^(A.length -B.length)).natAbs.log2<9000:=gM (n:=E+1) (KE kE (dq (by decide) (RF _))) (by lia)
 have m3:N*(A.length -B.length+1)<=N*(A.length+1 -B.length):=Dx _ (by lia)
 have m4:N*(A.length -B.length)<=N*(A.length -B.length+1):=Dx _ (by lia)
 clear q1 q2
 unfold j5 wI at qq⊢
 walk_at "vs"
 rw[Ap,Ap,show(A.length:Int) -(B.length:Int)=((A.length -B.length:Nat):Int) by lia]
 generalize Vz:A.length -B.length=δ at*
 refine⟨h,δ,N,rfl,bh,by lia,?_⟩
 walk_at "vs"
 refine⟨aT bl (VI bh δ) (by lia),yI rfl,yI rfl,yI rfl,yI rfl,?_⟩
 refine gf (h:=W.int) (g:=fun y=>.int (y.fdiv (ld*h^δ))) R1 [] _ (fun y hy K hK=>⟨⟨k0,VJ⟩,hK⟩) (af (by simp;lia)) ⟨yI rfl,?_⟩
 refine gf (h:=W.int) (g:=fun y=>.int (y.fdiv (ld*h^δ))) F [] _ (fun y hy K hK=>⟨⟨k0,VJ⟩,hK⟩) (af (by simp;lia)) ⟨yI rfl,_,eLB,yI rfl,?_⟩
 refine⟨h,B.getD (B.length -1) 0,δ,N,rfl,⟨bh,lB,by lia,fun hd=>⟨(h0 hd).1,gM (n:=E+1) (KE (h0 hd).2 (dq (by decide) (RF _))) (by lia)⟩⟩,yI rfl,?_⟩
 rw[Pl,Pl]at qq
 exact qq
abbrev CI:=List Int->List Int->List Int->List Int->Int->Int->Int->Prop
noncomputable def Kept(I:CI):Prop:=∀(A B fA fB:List Int) (ld h sg:Int),I A B fA fB ld h sg->2<=B.length->(∃N E,Nj A B fA fB ld h N E)/\∀(Qs R F:List Int) (c:Int),R≠[]->yG A B Qs R c->RB fA fB Qs F c->
 I B (R.map fun y=>y.fdiv (ld*h^(A.length -B.length))) fB (F.map fun y=>y.fdiv (ld*h^(A.length -B.length))) (B.getD (B.length -1) 0) (Sub.hnext h (B.getD (B.length -1) 0) (A.length -B.length)) (Nk A B sg)
noncomputable def uu(C:Addr):bT:=fun ws Q _=>∃(A B fA fB:List Int) (ld h sg sc kn:Int) (I:CI),ws=[j5 C A B fA fB ld h sg sc kn]/\(I A B fA fB ld h sg/\Kept I)/\
 ∀(A B fA fB:List Int) (ld h sg sc kn:Int),I A B fA fB ld h sg->(B.length<2\/∃Qs c,yG A B Qs [] c)->Q (.tup [.aU,j5 C A B fA fB ld h sg sc kn])
noncomputable def dI:List CS:=[.set 1 (.bl true),.E7 (.and [(.var 1),(.cmp .Gt (.blt .len [(.own 0 [.fl 1 "last"])]) (.int 1))]) [.Ag 1 (.Jb 0 0 0 [])]]
structure ChS where
 A:List Int
 B:List Int
 fA:List Int
 fB:List Int
 ld:Int
 h:Int
 sg:Int
 sc:Int
 kn:Int
 g:Bool
theorem vU{m:Md}{C:Addr}(ws:List W)(Q:W->Prop)(R:Addr->Prop)(h:uu C ws Q R):wSs (cu [yH C]) (lI [.cls C]) dI (cj (.io m) Q R) (aA 2 ws):=by
 obtain⟨A,B,fA,fB,ld,h,sg,sc,kn,I,rfl,⟨hI,kept⟩,q⟩:=h
 show wSs _ _ dI _ [some (j5 C A B fA fB ld h sg sc kn),none]
 unfold dI
 walk_at "vs"
 refine jz (α:=ChS) (fun s=>[some (j5 C s.A s.B s.fA s.fB s.ld s.h s.sg s.sc s.kn),some (.bl s.g)]) (fun s=>I s.A s.B s.fA s.fB s.ld s.h s.sg/\(s.g=false->∃Qs c,yG s.A s.B Qs [] c)) (fun s=>if s.g then s.B.length+1 else 0) ⟨A,B,fA,fB,ld,h,sg,sc,kn,true⟩ rfl ⟨hI,fun z=>by cases z⟩ ?_
 clear hI
 rintro⟨A,B,fA,fB,ld,h,sg,sc,kn,g⟩ ⟨hI,hg⟩
 dsimp only at hI hg⊢
 have q0:=q A B fA fB ld h sg sc kn hI
 cases g with
 |false=>
  walk_at "vs"
  refine fE (fun z=>by cases z) (fun _=>?_)
  exact q0 (.inr (hg rfl))
 |true=>
  unfold j5 at q0⊢
  unfold wI at q0⊢
  walk_at "vs"
  refine fE (fun z=>?_) (fun z=>?_)
  ·have z:=Bz z
   rw[Ap]at z
   obtain⟨⟨N,E,room⟩,nxt⟩:=kept A B fA fB ld h sg hI (by lia)
   walk_at "vs"
   refine⟨rfl,A,B,fA,fB,ld,h,sg,sc,kn,N,E,rfl,room,fun Qs c dv=>?_,fun Qs R F c hR dv df=>?_⟩
   ·refine⟨_,_,rfl,⟨A,B,fA,fB,ld,h,sg,sc,kn,false⟩,rfl,⟨hI,fun _=>⟨Qs,c,dv⟩⟩,?_⟩
    show 0<_+1
    lia
   ·refine⟨_,_,rfl,⟨B,_,fB,_,_,_,_,c,_,true⟩,rfl,⟨nxt Qs R F c hR dv df,fun z=>by cases z⟩,?_⟩
    have:=dv.2.2.2.1
    show(R.map _).length+1<B.length+1
    rw[Ap]
    lia
  ·have z:=of_decide_eq_false z
   rw[Ap]at z
   exact q0 (.inl (by lia))
theorem aQ{x n:Nat}(h:x<=2^n):x<2^(n+1):=KE h (dq (by decide) (RF _))
theorem VM{ns ms f g:List Int}{n E:Nat}(l1:ms.length<=ns.length)(l8:ns.length<=8)(bn:∀x∈ns,x.natAbs<2^n)(bm:∀x∈ms,x.natAbs<2^n)(hf:f=[]\/f=[1])(hg:g=[]\/g=[1])(hE:∀p,(ns.length -1+(ms.length -1) -2*p)*p+(ns.length -1+(ms.length -1)+1)<=E):Sub.FX ns ms f g (n+4) E:=by
 have one:∀{f:List Int},(f=[]\/f=[1])->∀k,(f.getD k 0).natAbs<=2^n:=fun{f} hf k=>by
  rcases hf with rfl|rfl
  ·exact NM _
  ·cases k with
   |zero=>exact PQ (by decide)
   |succ k=>exact NM _
 refine⟨l1,by lia,⟨2^n,fun i=>?_,fun i=>?_,PQ (by decide),?_⟩,hE⟩
 ·obtain⟨b,t⟩:=i
  cases b
  ·exact SL (lz bn t)
  ·exact one hf t
 ·obtain⟨b,t⟩:=i
  cases b
  ·exact SL (lz bm t)
  ·exact one hg t
 ·have:ns.length -1+(ms.length -1)+1<=2^4:=by omega
  exact FC (U2 _ this) (by rw[←Ts,Nat.add_comm];exact Do _)
noncomputable def SV(a:List Rat):Nat->Rat:=fun i=>a.getD i 0
noncomputable def ZW(p1 p2:Nat)(g a:List Rat):Prop:=∃(s:List Rat) (D:Int),(∀k,a.getD k 0=Jf (SV s) (SV g) k)/\D≠0/\D.natAbs<2^p1/\∀x∈s,Cd D p2 x
structure abm(p1 p2:Nat)(a b g u v:List Rat):Prop where
 ng:cA g
 nu:cA u
 nv:cA v
 bez:∀k,g.getD k 0=Jf (SV u) (SV a) k+Jf (SV v) (SV b) k
 da:ZW p1 p2 g a
 db:ZW p1 p2 g b
 ne:g≠[]
 one:g.getD (g.length -1) 0=1
theorem mF{B:Int}(h:B≠0):(B:Rat)≠0:=fun z=>h (by exact_mod_cast z)
noncomputable def VN(x:Addr)(H H':Hp):Prop:=∀b o,b≠x->H b=some o->H' b=some o
noncomputable def HL(C:Addr):Sp:=fun vs H Q _=>∃(x dx:Addr) (v1 v2 v3:V),vs=[.ref x,v1,v2,v3]/\H x=some (.ins C dx [])/\∀(p4:Addr) (H':Hp),VN x H H'->H p4=none->H' p4=some (.lst [])->H' x=some (.ins C dx (VH.zip [v1,v2,v3,.ref p4,.int 1,.int 1,.int 1,.int 1,.int 1]))->Q .aU H'
noncomputable def qT(C:Addr):bT:=fun ws Q _=>∃A B f:List Int,ws=[wI A,wI B,wI f]/\Q (j5 C A B f [] 1 1 1 1 1)
theorem mG{K:PySem.W.Frag}{A:Addr->Prop}{H:Hp}(i:Int):Rep K A H (.int i) (.int i):=by rw[Rep]
theorem Nl{K:PySem.W.Frag}{B:Addr->Prop}{H:Hp}:∀{n:Nat} {ws:List W} {vs:List V},aj K B H ws vs->ws.length=n->dY K B H (List.replicate n .s) ws vs []
 |0,[],vs,r,_=>by
  cases r
  show dY K B H [] _ _ _
  rw[dY]
  exact⟨rfl,rfl,rfl⟩
 |n+1,w::ws,vs,r,e=>by
  obtain⟨v,vs',rfl,h1,h2⟩:=r.cons_inv
  show dY K B H (.s::List.replicate n .s) _ _ _
  rw[dY]
  refine⟨w,ws,v,vs',[],[],rfl,rfl,rfl,?_,Nl h2 (by simpa using e)⟩
  rw[Fp]
  exact⟨rfl,h1⟩
 |0,_::_,_,_,e=>by cases e
 |n+1,[],_,_,e=>by cases e
theorem AU{P:Program}{w:World}{K:PySem.W.Frag}{mg:Str->Option Value}{base:Heap}{k:Nat}{C f:Addr}{fd:FuncData}{ps:List Str}(hc:Af K C VH)(M:Mk K C f)(b:Binds K fd ps [])(F:aH P w K mg base (cK P w) k f fd ps (HL C)):
 c7 P w K mg base (k+1) (.ref C) 3 (dU K 3 (.o VH [.s,.s,.s,.s,.s,.s,.s,.s,.s]) (qT C)):=by
 refine .mk M b F fun vs H Q E ⟨A,ws,P,R,l,r,d,⟨a,b',f',e,hP⟩,c,er⟩ x dx nx ndx ne=>?_
 subst e
 obtain⟨v1,_,rfl,r1,r⟩:=r.cons_inv
 obtain⟨v2,_,rfl,r2,r⟩:=r.cons_inv
 obtain⟨v3,_,rfl,r3,r⟩:=r.cons_inv
 cases r
 refine⟨x,dx,v1,v2,v3,rfl,aD,fun p4 H' kp f4 e4 ex=>⟨rfl,?_⟩⟩
 have ZX:p4≠x:=fun e=>by rw[e,aD]at f4;cases f4
 have nd4:p4≠dx:=fun e=>by rw[e,ai ne,aD]at f4;cases f4
 have h4:H p4=none:=by rw[ai ZX,ai nd4]at f4;exact f4
 have sm:ay H H':=fun b o hb=>by
  have n1:b≠x:=fun e=>by rw[e,nx]at hb;cases hb
  have n2:b≠dx:=fun e=>by rw[e,ndx]at hb;cases hb
  exact kp b o n1 (by rw[ai n1,ai n2];exact hb)
 have ba:∀p o,H p=some o->(A p\/p∈[x])->A p:=fun p o e z=>by
  rcases z with z|z
  ·exact z
  ·rw[Fh.mp z,nx]at e
   cases e
 refine c _ (.ref x) H' hP sm ⟨[x],by simp,fun p hp=>by rw[Fh.mp hp];exact nx,?_⟩
 unfold j5
 rw[Fp]
 refine⟨C,dx,_,x,[v1,v2,v3,.ref p4,.int 1,.int 1,.int 1,.int 1,.int 1],[],rfl,rfl,rfl,ex,rfl,hc,?_⟩
 refine Nl (n:=9) ?_ rfl
 refine .cons (Rep.mv sm ba _ r1) (.cons (Rep.mv sm ba _ r2) (.cons (Rep.mv sm ba _ r3) (.cons ?_ (.cons (mG 1) (.cons (mG 1) (.cons (mG 1) (.cons (mG 1) (.cons (mG 1) .nil))))))))
 show Rep _ _ _ (.lst []) _
 rw[Rep]
 refine⟨p4,[],rfl,fun z=>?_,.inl e4,.nil⟩
 rcases z with z|z
 ·obtain⟨o,e⟩:=d p4 z
  rw[h4]at e
  cases e
 ·exact ZX (Fh.mp z)
theorem EJ{rs:List Rat}{ms:List Int}{B c:Int}(h:Prim rs ms B c)(hne:rs≠[])(hz:cA rs):ms.getD (ms.length -1) 0≠0:=fun z=>by
 have e:=h.at_ (ms.length -1)
 have l0:=Hb.mpr hne
 rw[z,h.len]at e
 have y0:=hz _ (Lj l0 rfl)
 have b0:=mF (B:=B) (by have:=h.bpos;lia)
 have:rs.getD (rs.length -1) 0*(B:Rat)=0:=by
  rw[←e]
  show((0:Int):Rat)*_=0
  grind
 rcases Y1.mp this with x|x
 ·exact y0 x
 ·exact b0 x
theorem qU{as bs as' bs':List Rat}(e:[aq as,aq bs]=[aq as',aq bs']):as=as'/\bs=bs':=by
 rw[List.cons.injEq,List.cons.injEq]at e
 exact⟨pN e.1,pN e.2.1⟩
end VL
namespace Num
theorem LH{f g:Nat->Rat}{n m:Nat}(hf:∀i,n<i->f i=0)(hg:∀i,m<i->g i=0):Jf f g (n+m)=f n*g m:=by
 unfold Jf
 have e:yp (fun i=>f i*g (n+m -i)) (n+m+1)=yp (fun i=>f i*g (n+m -i)) (n+1):=jD _ (by lia) fun i h1 _=>by
  show f i*g (n+m -i)=0
  rw[hf i (by lia),Rat.zero_mul]
 rw[e,yp]
 have z:yp (fun i=>f i*g (n+m -i)) n=0:=by
  rw[pP (g:=fun _=>0) _ fun i hi=>by
   show f i*g (n+m -i)=0
   rw[hg _ (by lia),Rat.mul_zero]]
  have:∀n,yp (fun _=>0) n=0:=fun n=>by
   induction n with
   |zero=>rfl
   |succ n ih=>rw[yp,ih];grind
  exact this _
 rw[z,Rat.zero_add,show n+m -n=m by lia]
abbrev cQ(a:List Rat):Nat->Rat:=fun i=>a.getD i 0
noncomputable def Fin(f:Nat->Rat):Prop:=∃n,∀i,n<=i->f i=0
structure Mon(g:List Rat):Prop where
 ne:g≠[]
 one:g.getD (g.length -1) 0=1
end Num
namespace VL
open PySem PySem.Spec
open PyProof.Rows hiding St
open L2 Num
noncomputable def qV:List CS:=[.ret (.blt .sum [(.sl (.var 0) (.var 1) (.bin .Add (.var 1) (.int 1)))])]
noncomputable def CB:bT:=fun ws Q _=>∃(ns:List Int) (k:Int),ws=[.gy ns,.int k]/\∀z:Int,Q (.int z)
theorem LI(ns:List Int)(a b:Option Int):∃ms:List Int,nK (ns.map W.int) a b=ms.map W.int:=by
 unfold nK
 exact⟨_,by rw[←List.map_drop,←List.map_take]⟩
theorem RG{Φ:Nat->bT}{G:Nat->W}{m:Md}(ws:List W)(Q:W->Prop)(R:Addr->Prop)(h:CB ws Q R):wSs Φ G qV (cj m Q R) (aA 2 ws):=by
 obtain⟨ns,k,rfl,hq⟩:=h
 show wSs _ _ qV _ [some (.gy ns),some (.int k)]
 unfold qV
 walk_at "vs"
 obtain⟨ms,e⟩:=LI ns (some k) (some (k+1))
 rw[e,Vq]
 exact⟨ms,rfl,hq _⟩
noncomputable def mH:List CS:=[.ret (.and [(.blt .BB [(.var 0),(.E6 "int")]),(.not (.blt .BB [(.var 0),(.E6 "bool")]))])]
noncomputable def vV:bT:=fun ws Q _=>∃i:Int,ws=[.int i]/\Q (.bl true)
theorem LJ{Φ:Nat->bT}{G:Nat->W}{m:Md}(ws:List W)(Q:W->Prop)(R:Addr->Prop)(h:vV ws Q R):wSs Φ G mH (cj m Q R) (aA 1 ws):=by
 obtain⟨i,rfl,hq⟩:=h
 show wSs _ _ mH _ [some (.int i)]
 unfold mH
 walk_at "vs"
 simp only[Nb]
 refine⟨_,rfl,?_⟩
 walk_at "vs"
 exact⟨_,rfl,hq⟩
noncomputable def cU:List CS:=[.iff (.or [(.not (.blt .BB [(.var 0),(.E6 "tuple")])),(.cmp .NotEq (.blt .len [(.var 0)]) (.int 2)),(.not (.call 0 [(.ix (.var 0) (.int 0))])),(.not (.call 0 [(.ix (.var 0) (.int 1))]))]) [.ret (.bl false)] [],.ret (.and [(.cmp .Gt (.ix (.var 0) (.int 1)) (.int 0)),(.cmp .Eq (.call 1 [(.ix (.var 0) (.int 0)),(.ix (.var 0) (.int 1))]) (.int 1))])]
noncomputable def fL:bT:=fun ws Q _=>∃r:Rat,ws=[wq r]/\Q (.bl true)
theorem sS{G:Nat->W}{m:Md}(ws:List W)(Q:W->Prop)(R:Addr->Prop)(h:fL ws Q R):wSs (cu [vV,yj]) G cU (cj m Q R) (aA 1 ws):=by
 obtain⟨r,rfl,hq⟩:=h
 show wSs _ _ cU _ [some (wq r)]
 unfold cU wq
 walk_at "vs"
 simp only[Nb]
 refine⟨_,rfl,?_⟩
 walk_at "vs"
 rw[B1 (by decide),B1 (by simp)]
 refine⟨_,rfl,_,rfl,?_⟩
 walk_at "vs"
 refine⟨_,rfl,_,rfl,?_⟩
 walk_at "vs"
 refine⟨_,rfl,?_⟩
 have hd:0<(r.den:Int):=by have:=r.den_pos;omega
 walk_at "vs"
 rw[Bi (Hn hd)]
 refine⟨_,rfl,_,rfl,_,_,rfl,?_⟩
 walk_at "vs"
 have hg:Int.gcd r.num (r.den:Int)=1:=r.reduced
 rw[hg]
 exact hq
theorem CC{n:Nat}:∀rs:List Rat,(∀x∈rs,Bd n x)->(qM rs).natAbs<=2^(n*rs.length)
 |[],_=>by show 1<=2^(n*0);rw[Nat.mul_zero];decide
 |r::rs,h=>by
  have ih:=CC rs fun y hy=>h y (Bn _ hy)
  have hr:=(h r (DD ..)).2
  show((r.den:Int)*qM rs).natAbs<=_
  rw[HI,Int.natAbs_natCast,List.length_cons,Nat.mul_add,Nat.mul_one,Nat.add_comm,Ts]
  exact Oy (SL hr) ih
theorem yJ{n:Nat}:∀{rs:List Rat},(∀x∈rs,Bd n x)->∀x∈rs,Cd (qM rs) (n*rs.length) x
 |r::rs,h,x,hx=>by
  have hs:∀y∈rs,Bd n y:=fun y hy=>h y (Bn _ hy)
  have hr:=h r (DD ..)
  rw[List.length_cons,Nat.mul_add,Nat.mul_one]
  rcases Fu.mp hx with rfl|hx
  ·refine⟨x.num*qM rs,?_,?_⟩
   ·show x*(((x.den:Int)*qM rs:Int):Rat)=_
    rw[Gc,Gc,←Rat.mul_assoc]
    have:x*((x.den:Int):Rat)=(x.num:Rat):=by
     rw[←jV (Int.dvd_refl _),Int.ediv_self (by have:=x.den_pos;lia),du]
    rw[this]
   ·rw[HI,Nat.add_comm]
    exact Cm hr.1 (CC rs hs)
  ·obtain⟨z,e,b⟩:=yJ hs x hx
   refine⟨r.den*z,?_,?_⟩
   ·show x*(((r.den:Int)*qM rs:Int):Rat)=_
    rw[Gc,Gc,←e]
    grind
   ·rw[HI,Int.natAbs_natCast,Y2]
    exact lt_mul b hr.2
structure GIn(a:List Rat):Prop where
 l8:a.length<=8
 z:cA a
 cd:∃D:Int,0<D/\D.natAbs<2^101/\∀x∈a,Cd D 117 x
 bd:∀x∈a,Bd 200 x
theorem HM{r:Rat}(h:qN 2 r):Bd 20 r:=by
 have:=h.2.2.1 rfl
 exact⟨by lia,by lia⟩
end VL
namespace Num
end Num
namespace VL
open PySem PySem.Spec
open PyProof.Rows hiding St
open L2 Num
structure Rw(l n k:Nat)(a:List Rat):Prop where
 len:a.length<=l
 z:cA a
 cd:∃D:Int,0<D/\D.natAbs<2^k/\∀x∈a,Cd D n x
theorem Rw.up{l n k l' n' k':Nat}{a:List Rat}(h:Rw l n k a)(h1:l<=l')(h2:n<=n')(h3:k<=k'):Rw l' n' k' a:=by
 obtain⟨a1,a2,D,d0,dk,c⟩:=h
 exact⟨by lia,a2,D,d0,gO dk h3,fun x hx=>(c x hx).up h2⟩
theorem Yl{m E:Nat}(h:∀s,s<m+1->∀p,p<m+1->(s -2*p)*p+(s+1)<=E):∀s,s<=m->∀p,(s -2*p)*p+(s+1)<=E:=fun s hs p=>by
 by_cases hp:p<m+1
 ·exact h s (by omega) p hp
 ·have:=h s (by omega) 0 (by omega)
  rw[show s -2*p=0 by omega,Nat.zero_mul]
  omega
theorem rw_draw{l:Nat}{k:Int}{rs:List Rat}(hk:k=0\/k=1)(hl:rs.length<=l)(h:∀x∈rs,qN k x)(hz:cA rs):Rw l 13 3 rs:=by
 refine⟨hl,hz,6,by decide,by decide,fun x hx=>?_⟩
 have hx:=h x hx
 have dp:=x.den_pos
 have d6:(x.den:Int)∣6/\(x.num*(6/x.den)).natAbs<2^13:=by
  rcases hk with e|e
  ·obtain⟨h1,h2⟩:=hx.1 e
   have:x.den=1\/x.den=2\/x.den=3:=by lia
   rcases this with e|e|e<;>rw[e]<;>refine⟨by decide,?_⟩
   ·show(x.num*6).natAbs<_
    lia
   ·show(x.num*3).natAbs<_
    lia
   ·show(x.num*2).natAbs<_
    lia
  ·obtain⟨h1,h2⟩:=hx.2.1 e
   rw[h2]
   refine⟨by decide,?_⟩
   show(x.num*6).natAbs<_
   lia
 exact Cd.of d6.1 d6.2
theorem rw_mul{l1 l2 n1 n2 k1 k2:Nat}{a b:List Rat}(ha:Rw l1 n1 k1 a)(hb:Rw l2 n2 k2 b)(h:l1<=30):Rw (l1+l2 -1) (n1+n2+5) (k1+k2) (cO (mulQ a b)):=by
 obtain⟨a1,a2,D1,p1,q1,c1⟩:=ha
 obtain⟨b1,b2,D2,p2,q2,c2⟩:=hb
 refine⟨?_,vF _,D1*D2,Int.mul_pos p1 p2,by rw[HI];exact lt_mul q1 q2,fun x hx=>Lr c1 c2 (by omega) x (Ex hx)⟩
 have:=uh (mulQ a b)
 unfold mulQ at this⊢
 rw[iG]at this
 omega
end VL
namespace Sub
noncomputable def lc(y:Ix->Vc)(c:Vc):List Ix->Vc
 |[]=>fun _=>0
 |r::rs=>fun i=>1*lc y c rs i+c r*y r i
theorem HN{D:List Vc->Int}(hl:Lv D)(p q:List Vc):D (p++(fun _=>0)::q)=0:=by
 have:=hl p q 0 0 (fun _=>0) (fun _=>0)
 simpa using this
end Sub
namespace Sub
open Num
noncomputable def pc(f:Nat->Int):Vc:=fun i=>f i.2
theorem Nm(g:Nat->Int)(c:Vc)(i:Ix):∀N,lc (fun r=>sh r.2 (pc g)) c (rws N N) i=sG (fun t=>if t<N then c (false,t)else 0) g i.2
 |0=>by
  rw[vP (f':=fun _=>0) (fun t=>B1 (Nat.not_lt_zero t)) (fun _=>rfl),Cf]
  rfl
 |N+1=>by
  have e:=Ce 1 (c (false,N)) (fun t=>if t<N then c (false,t)else 0) g N i.2
  rw[vP (f':=fun t=>1*(if t<N then c (false,t)else 0)+if t=N then c (false,N)else 0) (fun t=>?_) (fun _=>rfl),e,←Nm g c i N]
  ·show 1*lc _ c (rws N N) i+c (false,N)*sh N (pc g) i=_
   unfold sh pc
   by_cases h:N<=i.2
   ·rw[Bi h,Bi h]
   ·rw[B1 h,B1 h,Re]
  ·by_cases h1:t<N
   ·rw[Bi (by lia),Bi h1,B1 (by lia)]
    simp
   ·by_cases h2:t=N
    ·rw[Bi (by lia),B1 h1,Bi h2,h2]
     simp
    ·rw[B1 (by lia),B1 h1,B1 h2]
     simp
noncomputable def one:Nat->Int:=fun i=>if i=0 then 1 else 0
theorem RH(a:Nat):sg a*sg a=1:=(jI a).sq
noncomputable def jf(f g:Nat->Int)(m n:Nat):Int:=det (rws (m+n) (m+n)) (eX (pc f) n++eX (pc g) m)
theorem yK(f g:Nat->Int)(m n:Nat):jf f g m n=sg (m*n)*jf g f n m:=by
 unfold jf
 have e:=jH (gD (rws (m+n) (m+n))) (eX (pc f) n) [] (eX (pc g) m) []
 simp only[List.nil_append,L9,jY]at e
 rw[e,Nat.add_comm m n]
theorem AV(c:Int)(f:Nat->Int){D:List Vc->Int}(hl:Lv D):∀(a:Nat) (p q:List Vc),D (p++(eX (pc fun t=>c*f t) a++q))=c^a*D (p++(eX (pc f) a++q))
 |0,p,q=>by simp[eX]
 |a+1,p,q=>by
  have e:=AV c f hl a (p++[sh a (pc f)]) q
  have e2:=hl p (eX (pc fun t=>c*f t) a++q) c 0 (sh a (pc f)) (sh a (pc f))
  simp only[FV,List.cons_append,List.nil_append,Int.zero_mul,Int.add_zero]at e e2
  rw[eX,eX,List.cons_append,List.cons_append,show sh a (pc fun t=>c*f t)=fun i=>c*sh a (pc f) i from funext fun i=>by
   unfold sh pc
   show(if a<=i.2 then c*f (i.2 -a)else 0)=c*(if a<=i.2 then f (i.2 -a)else 0)
   split<;>simp,e2,e,Kj]
  grind
theorem vW(c:Int)(f g:Nat->Int)(m n:Nat):jf f (fun t=>c*g t) m n=c^m*jf f g m n:=by
 have e:=AV c g (iX (rws (m+n) (m+n))) m (eX (pc f) n) []
 simp only[L9]at e
 exact e
theorem vX(c:Int)(f g:Nat->Int)(m n:Nat):jf (fun t=>c*f t) g m n=c^n*jf f g m n:=by
 have e:=AV c f (iX (rws (m+n) (m+n))) n [] (eX (pc g) m)
 simp only[List.nil_append]at e
 exact e
theorem HP{f g:Nat->Int}{m n:Nat}(h:∀t,g t=0)(hm:0<m):jf f g m n=0:=by
 obtain⟨k,rfl⟩:∃k,m=k+1:=⟨m -1,by lia⟩
 unfold jf
 rw[eX,show sh k (pc g)=fun _=>0 from funext fun i=>by unfold sh pc;simp[h]]
 exact HN (iX _) _ _
theorem CD(c:Int)(a:Vc)(q:Nat->Int)(y:Nat->Vc)(i:Ix):∀rs:List Ix,comb c a (rs.map fun r=>(q r.2,y r.2)) i=c*a i+lc (fun r=>y r.2) (pc q) rs i
 |[]=>by
  show c*a i+0*a i=c*a i+0
  simp
 |r::rs=>by
  show 1*comb c a _ i+q r.2*y r.2 i=c*a i+(1*lc _ _ rs i+q r.2*y r.2 i)
  rw[CD c a q y i rs]
  grind
theorem HQ:∀{N:Nat} {r:Ix},r∈rws N N->r.2<N
 |N+1,r,h=>by
  rw[rws]at h
  rcases Fu.mp h with e|h
  ·rw[e]
   exact RF _
  ·have:=HQ h
   lia
theorem HR{f g q r:Nat->Int}{c:Int}{D:List Vc->Int}(h:Alt D)(hl:Lv D){n N a:Nat}(hq:∀t,N<=t->q t=0)(hr:∀t,r t=c*g t+sG q f t)(hN:N+a<=n+1)(p:List Vc):D (p++(eX (pc r) a++eX (pc f) n))=c^a*D (p++(eX (pc g) a++eX (pc f) n)):=by
 have e:=mD h hl (q:=eX (pc f) n) (c:=c) (A:=pc g) (L:=(rws N N).map fun r=>(q r.2,sh r.2 (pc f))) a p fun z hz j hj=>by
  obtain⟨s,hs,rfl⟩:=Iy.mp hz
  have:=HQ hs
  show sh j (sh s.2 (pc f))∈_
  rw[Nd]
  exact vL (by lia)
 rw[←e]
 congr 4
 funext i
 rw[CD c (pc g) q (fun t=>sh t (pc f)) i,Nm,vP (f':=q) (fun t=>?_) (fun _=>rfl)]
 ·exact hr i.2
 ·by_cases h1:t<N
  ·rw[Bi h1]
   rfl
  ·rw[B1 h1,hq t (by lia)]
theorem HS{f g q r:Nat->Int}{c l:Int}{m n d N:Nat}(hf:f m=l)(hz:∀t,m<t->f t=0)(hd:∀t,d<t->r t=0)(hdn:d<=n)(hq:∀t,N<=t->q t=0)(hr:∀t,r t=c*g t+sG q f t)(hN:N+m<=n+1):c^m*jf f g m n=l^(n -d)*jf f r m d:=by
 have m1:=jH (gD (rws (m+n) (m+n))) (eX (pc f) n) [] (eX (pc r) m) []
 have m2:=jH (gD (rws (m+n) (m+n))) (eX (pc f) n) [] (eX (pc g) m) []
 have e:=HR (gD (rws (m+n) (m+n))) (iX _) (f:=f) (g:=g) hq hr hN []
 have e2:=Ly (B:=pc f) (n:=m) (l:=l) hf hz (cs:=eX (pc r) m) (b:=d) (c:=m+d) (tl:=[]) (fun x hx t ht=>by
  obtain⟨i,hi,rfl⟩:=nW hx
  unfold sh pc
  show(if i<=t then r (t -i)else 0)=0
  split
  ·exact hd _ (by lia)
  ·rfl) (n -d)
 simp only[List.nil_append,L9,jY]at m1 m2 e e2
 rw[show m+d+(n -d)=m+n by lia,show d+(n -d)=n by lia]at e2
 unfold jf
 rw[m2,←e2,m1,e]
 grind
end Sub
namespace Num
theorem LK(a b:List Rat)(k:Nat):cQ (cO (mulQ a b)) k=Jf (cQ a) (cQ b) k:=(Lo _ k).trans (Rp a b k)
theorem CF{c:List Rat}(h:cA c)(ne:c≠[]):c.getD (c.length -1) 0≠0:=by
 have l:=Hb.mpr ne
 refine h _ ?_
 rw[XB,AC,BM (Nat.sub_lt l Nat.one_pos)]
 rfl
end Num
namespace Num
open Sub
structure Ji(a:List Rat)(D:Int)(F:Nat->Int):Prop where
 ne:D≠0
 eq:∀t,cQ a t*(D:Rat)=(F t:Int)
theorem CG:∀a:List Rat,∃D:Int,D≠0/\∀x∈a,∃z:Int,x*(D:Rat)=z
 |[]=>⟨1,by decide,fun x hx=>nomatch hx⟩
 |x::a=>by
  obtain⟨D,d0,h⟩:=CG a
  have xd:(x.den:Int)≠0:=by exact_mod_cast x.den_nz
  refine⟨x.den*D,Mo xd d0,fun y hy=>?_⟩
  rcases Fu.mp hy with rfl|hy
  ·obtain⟨z,hz,_⟩:=Cd.of (x:=y) (D:=y.den*D) (Int.dvd_mul_right _ _) Nat.lt_two_pow_self
   exact⟨z,hz⟩
  ·obtain⟨z,hz⟩:=h y hy
   refine⟨x.den*z,?_⟩
   rw[Gc,Gc,←hz]
   grind
theorem dJ(a:List Rat):∃(D:Int) (F:Nat->Int),Ji a D F:=by
 obtain⟨D,d0,h⟩:=CG a
 have:∀t,∃z:Int,cQ a t*(D:Rat)=z:=fun t=>by
  by_cases ht:t<a.length
  ·have:cQ a t∈a:=by
    show a.getD t 0∈a
    rw[AC,BM ht]
    exact On ht
   exact h _ this
  ·exact⟨0,by rw[show cQ a t=0 from qL (by lia)];grind⟩
 exact⟨D,fun t=>Classical.choose (this t),d0,fun t=>QR (this t)⟩
theorem Ji.zero{a:List Rat}{D:Int}{F:Nat->Int}(h:Ji a D F){t:Nat}(ht:a.length<=t):F t=0:=by
 have e:=h.eq t
 rw[show cQ a t=0 from qL ht,Rat.zero_mul]at e
 exact_mod_cast e.symm
noncomputable def nX(a b:List Rat):Rat:=
 (jf (Classical.choose (QR (dJ a))) (Classical.choose (QR (dJ b))) (a.length -1) (b.length -1):Int)/(((Classical.choose (dJ a):Int):Rat)^(b.length -1)*((Classical.choose (dJ b):Int):Rat)^(a.length -1))
theorem i0{x:Rat}(h:x≠0)(n:Nat):x^n≠0:=by
 induction n with
 |zero=>rw[Rat.pow_zero];decide
 |succ n ih=>rw[Rat.pow_succ];exact fun z=>(Y1.mp z).elim ih h
theorem Nn{x y z:Rat}(h:z≠0)(e:x*z=y*z):x=y:=by
 have:(x -y)*z=0:=by grind
 rcases Y1.mp this with w|w
 ·grind
 ·exact absurd w h
theorem CH{a b:List Rat}{D E:Int}{F G:Nat->Int}(ha:Ji a D F)(hb:Ji b E G):nX a b*((D:Rat)^(b.length -1)*(E:Rat)^(a.length -1))=(jf F G (a.length -1) (b.length -1):Int):=by
 unfold nX
 have ra:=QR (QR (dJ a))
 have rb:=QR (QR (dJ b))
 generalize Classical.choose (QR (dJ a))=F0 at*
 generalize Classical.choose (QR (dJ b))=G0 at*
 generalize Classical.choose (dJ a)=D0 at*
 generalize Classical.choose (dJ b)=E0 at*
 generalize a.length -1=m
 generalize b.length -1=n
 have d0:(D0:Rat)≠0:=by exact_mod_cast ra.ne
 have e0:(E0:Rat)≠0:=by exact_mod_cast rb.ne
 have eF:(fun t=>D*F0 t)=fun t=>D0*F t:=funext fun t=>by
  have h1:=ra.eq t
  have h2:=ha.eq t
  have:((D*F0 t:Int):Rat)=(D0*F t:Int):=by
   rw[Gc,Gc,←h1,←h2]
   grind
  exact_mod_cast this
 have eG:(fun t=>E*G0 t)=fun t=>E0*G t:=funext fun t=>by
  have h1:=rb.eq t
  have h2:=hb.eq t
  have:((E*G0 t:Int):Rat)=(E0*G t:Int):=by
   rw[Gc,Gc,←h1,←h2]
   grind
  exact_mod_cast this
 have s1:jf (fun t=>D*F0 t) (fun t=>E*G0 t) m n=D^n*(E^m*jf F0 G0 m n):=by rw[vX,vW]
 have s2:jf (fun t=>D0*F t) (fun t=>E0*G t) m n=D0^n*(E0^m*jf F G m n):=by rw[vX,vW]
 rw[eF,eG,s2]at s1
 have s3:((D0:Rat)^n*(E0:Rat)^m)*(jf F G m n:Int)=((D:Rat)^n*(E:Rat)^m)*(jf F0 G0 m n:Int):=by
  have:=TB (fun z:Int=>(z:Rat)) s1
  simp only[Gc,Rat.intCast_pow]at this
  grind
 have z0:(D0:Rat)^n*(E0:Rat)^m≠0:=fun z=>(Y1.mp z).elim (i0 d0 n) (i0 e0 m)
 refine Nn z0 ?_
 generalize(D0:Rat)^n*(E0:Rat)^m=u at*
 generalize(D:Rat)^n*(E:Rat)^m=v at*
 rw[show((jf F0 G0 m n:Int):Rat)/u*v*u=((jf F0 G0 m n:Int):Rat)/u*u*v by grind,Rat.div_mul_cancel z0,Rat.mul_comm,←s3,Rat.mul_comm]
theorem AW{a b:List Rat}{D E:Int}{F G:Nat->Int}{x:Rat}(ha:Ji a D F)(hb:Ji b E G)(h:x*((D:Rat)^(b.length -1)*(E:Rat)^(a.length -1))=(jf F G (a.length -1) (b.length -1):Int)):x=nX a b:=by
 have d0:(D:Rat)≠0:=by exact_mod_cast ha.ne
 have e0:(E:Rat)≠0:=by exact_mod_cast hb.ne
 exact Nn (fun z=>(Y1.mp z).elim (i0 d0 _) (i0 e0 _)) (h.trans (CH ha hb).symm)
theorem LL(n:Nat):((sg n:Int):Rat)*((sg n:Int):Rat)=1:=by
 have:=RH n
 exact_mod_cast this
theorem LM{b c:List Rat}(hb:cA b)(b0:b≠[])(hc:cA c)(c0:c≠[]):(cO (mulQ b c)).length=b.length+c.length -1:=by
 have lb:=Hb.mpr b0
 have lc:=Hb.mpr c0
 have e:=LH (f:=cQ b) (g:=cQ c) (n:=b.length -1) (m:=c.length -1) (fun i hi=>qL (by lia)) (fun i hi=>qL (by lia))
 have nz:cQ (cO (mulQ b c)) (b.length -1+(c.length -1))≠0:=by
  rw[LK,e]
  exact fun z=>(Y1.mp z).elim (CF hb b0) (CF hc c0)
 have h1:b.length -1+(c.length -1)<(cO (mulQ b c)).length:=Nat.lt_of_not_le fun h=>nz (qL h)
 have h2:=uh (mulQ b c)
 unfold mulQ at h2 h1⊢
 rw[iG]at h2
 lia
theorem HU(a b:List Rat):nX b a=(sg ((a.length -1)*(b.length -1)):Int)*nX a b:=by
 obtain⟨D,F,ra⟩:=dJ a
 obtain⟨E,G,rb⟩:=dJ b
 refine(AW rb ra ?_).symm
 have e1:=CH ra rb
 have s:=yK F G (a.length -1) (b.length -1)
 have t:=LL ((a.length -1)*(b.length -1))
 rw[s,Gc]at e1
 generalize((sg ((a.length -1)*(b.length -1)):Int):Rat)=z at*
 generalize(D:Rat)^(b.length -1)=u at*
 generalize(E:Rat)^(a.length -1)=v at*
 generalize((jf G F (b.length -1) (a.length -1):Int):Rat)=w at*
 have:z*(nX a b*(u*v))=z*(z*w):=by rw[e1]
 rw[show z*(z*w)=z*z*w by grind,t]at this
 grind
end Num
namespace Sub
open Num
structure E9(A B:Vc)(m n:Nat)(P Q:Vc)(p q:Nat)(lp h σ:Int):Prop where
 s:Cu σ
 inv:0<p->∀ρ,SS (p+q) P Q q p ρ=σ*(lp^q*h^(p -1))*SS (m+n) A B n m ρ
theorem E9.start(A B:Vc)(m n:Nat):E9 A B m n A B m n 1 1 1:=⟨.inl rfl,fun _ ρ=>by rw[Int.one_pow,Int.one_pow];simp⟩
theorem E9.step{A B P Q Q':Vc}{m n p q r:Nat}{lp lq h h' σ:Int}(K:E9 A B m n P Q p q lp h σ)(H:Ch A B m n P Q p q lp lq h){L:List (Int×Nat)}(hL:∀z∈L,z.2<=p -q)(hQ:∀ρ,less (lq^(p -q+1)) P Q L ρ=(lp*h^(p -q))*Q' ρ)(hr:r<q)(hz:∀t,r<t->Q' (false,t)=0)
 (hh:h'*h^(p -q)=lq^(p -q)*h):E9 A B m n Q Q' q r lq h' (sg (p*q)*σ):=by
 have hpq:=H.hpq
 refine⟨(jI _).mul K.s,fun _ ρ=>?_⟩
 have e0:=K.inv (by lia) ρ
 have e1:=vM (E:=p+q) (A:=P) (B:=Q) (c:=lq^(p -q+1)) (L:=L) (a:=q) (b:=p) (fun z hz=>by have:=hL z hz;lia) ρ
 have e2:=vN (R:=less (lq^(p -q+1)) P Q L) H.lead H.zero (z:=r+1) (a:=q) (b:=r) (s:=p -r) (fun t ht=>by rw[hQ,hz t (by lia),Re]) (by lia) (by lia) ρ
 rw[yz hQ,show q+r+(p -r)=p+q by lia,show r+(p -r)=p by lia,e1,e0]at e2
 have pid:=AR hh (q -1)
 have s2:=(jI (p*q)).sq
 have ck:(lp*h^(p -q))^q=lp^q*h^((p -q)*q):=by rw[AO,AQ]
 have u0:lq^(p -r)*(lp*h^(p -q))^q≠0:=Mo (bq H.Lz _) (bq (Mo H.Rr (bq H.h0 _)) _)
 refine T2 u0 ?_
 rw[show q -1+1=q by lia,show p -q+(q -1)=p -1 by lia,show p -q+q=(p -r)+r by lia,dt lq (p -r) r]at pid
 rw[ck]at e2⊢
 generalize SS (q+r) Q Q' r q ρ=X at*
 generalize SS (m+n) A B n m ρ=S at*
 generalize sg (p*q)=s at*
 generalize(lq^(p -q+1))^q=c at*
 generalize lp^q=u at*
 generalize h^(p -1)=v at*
 generalize lq^(p -r)=x at*
 generalize h^((p -q)*q)=y at*
 generalize lq^r=z at*
 generalize h'^(q -1)=w at*
 have e3:x*(u*y)*X=s*s*(x*(u*y)*X):=by rw[s2,UF]
 have e4:s*s*(x*(u*y)*X)=s*(s*(x*(u*y*X))):=by grind
 rw[e3,e4,←e2]
 have e5:s*(c*(σ*(u*v)*S))=s*σ*u*S*(c*v):=by grind
 rw[e5,pid]
 grind
noncomputable def cut(c:Vc):Vc:=fun i=>if i.1 then 0 else c i
theorem CJ:∀(rs:List Ix),(∀r∈rs,r.1=false)->∀cs:List Vc,det rs (cs.map cut)=det rs cs
 |[],_,[]=>rfl
 |[],_,_::_=>rfl
 |r::rs,h,cs=>by
  have ih:=CJ rs fun r hr=>h r (Bn _ hr)
  have r1:=h r DD
  have go:∀post pre:List Vc,ex (det rs) r (pre.map cut) (post.map cut)=ex (det rs) r pre post:=fun post=>by
   induction post with
   |nil=>exact fun _=>rfl
   |cons c post ihp=>
    intro pre
    have e:=ihp (pre++[c])
    rw[Fm]at e
    rw[Fn,ex,ex,←Fm,ih,show cut c r=c r by unfold cut;rw[r1];rfl]
    exact TB _ e
  exact go cs []
theorem uv:∀{N c:Nat} {r:Ix},r∈rws N c->r.1=false
 |_,0,r,h=>by rw[qP]at h;cases h
 |0,c+1,r,h=>by cases h
 |N+1,c+1,r,h=>by
  rw[rws]at h
  rcases Fu.mp h with e|h
  ·rw[e]
  ·exact uv h
theorem vY(ns:List Int):∀n,(eX (pc fun k=>ns.getD k 0) n).map cut=eX (vc ns []) n
 |0=>rfl
 |n+1=>by
  rw[eX,eX,Fn,vY ns n]
  congr 1
  funext ⟨b,t⟩
  unfold cut sh pc vc
  cases b<;>simp
theorem yL:∀N,rws (N+1) N++[(false,0)]=rws (N+1) (N+1)
 |0=>rfl
 |N+1=>by
  rw[rws,List.cons_append,yL N]
  rfl
theorem vZ(ns ms:List Int){m n:Nat}(h:0<m+n):SS (m+n) (vc ns []) (vc ms []) n m (false,0)=jf (fun k=>ns.getD k 0) (fun k=>ms.getD k 0) m n:=by
 unfold SS jf
 obtain⟨N,hN⟩:∃N,m+n=N+1:=⟨m+n -1,by lia⟩
 rw[show n+m -1=N by lia,hN,yL,←vY,←vY,←Fm,CJ _ fun r hr=>uv hr]
theorem E9.out{ns ms P Q:List Int}{m n p:Nat}{lp lq h σ:Int}(K:E9 (vc ns []) (vc ms []) m n (vc P []) (vc Q []) p 0 lp h σ)(hl:vc Q [] (false,0)=lq)(hz:∀t,0<t->vc Q [] (false,t)=0)(hp:0<p)(hmn:0<m+n):lq^p=σ*h^(p -1)*jf (fun k=>ns.getD k 0) (fun k=>ms.getD k 0) m n:=by
 have e:=K.inv hp (false,0)
 have e2:=Ct (A:=vc P []) hl hz (p -1) (false,0)
 rw[show 0+1+(p -1)=p+0 by lia]at e2
 rw[Nat.add_zero]at e e2
 rw[e,vZ ns ms hmn,hl,←Kj,show(p -1).succ=p by lia,Q1,UF]at e2
 exact e2.symm
theorem E9.none{ns ms P Q:List Int}{m n p q:Nat}{lp h σ c:Int}{S:Nat->Int}{N:Nat}(K:E9 (vc ns []) (vc ms []) m n (vc P []) (vc Q []) p q lp h σ)(hq:0<q)(hp:0<p)(Rr:lp≠0)(h0:h≠0)(c0:c≠0)(hz:∀t,q<t->Q.getD t 0=0)(hS:∀t,N<=t->S t=0)(hN:N+q<=p+1)(e:∀t,0=c*P.getD t 0+sG S (fun k=>Q.getD k 0) t)(hmn:0<m+n):jf (fun k=>ns.getD k 0) (fun k=>ms.getD k 0) m n=0:=by
 have s1:=HS (f:=fun k=>Q.getD k 0) (g:=fun k=>P.getD k 0) (q:=S) (r:=fun _=>0) (c:=c) (m:=q) (n:=p) (d:=0) rfl hz (fun _ _=>rfl) (NM _) hS e hN
 rw[HP (fun _=>rfl) hq,Re]at s1
 have s2:jf (fun k=>Q.getD k 0) (fun k=>P.getD k 0) q p=0:=(Int.mul_eq_zero.mp s1).resolve_left (bq c0 _)
 have s3:jf (fun k=>P.getD k 0) (fun k=>Q.getD k 0) p q=0:=by rw[yK,s2,Re]
 have k:=K.inv hp (false,0)
 rw[vZ P Q (by lia),vZ ns ms hmn,s3]at k
 have u:σ*(lp^q*h^(p -1))≠0:=Mo (by rcases K.s with z|z<;>rw[z]<;>decide) (Mo (bq Rr _) (bq h0 _))
 exact(Int.mul_eq_zero.mp k.symm).resolve_left u
theorem CS.sgn{ns ms P Q Qs R:List Int}{w E b1:Nat}{ld h c σ:Int}(X:FX ns ms [] [] w E)(C:CS ns ms [] [] w E b1 P Q [] [] ld h)(K:E9 (vc ns []) (vc ms []) (ns.length -1) (ms.length -1) (vc P []) (vc Q []) (P.length -1) (Q.length -1) ld h σ)(hq:2<=Q.length)(hc:c=Q.getD (Q.length -1) 0^(P.length -Q.length+1))(SQ:Qs.length=P.length -Q.length+1)
 (hR:∀k,R.getD k 0=c*P.getD k 0 -cf Qs Q Qs.length k) (lR:R.length<Q.length) (zR:R=[]\/R.getD (R.length -1) 0≠0) (HF:R≠[]):
 E9 (vc ns []) (vc ms []) (ns.length -1) (ms.length -1) (vc Q []) (vc (R.map fun x=>x.fdiv (ld*h^(P.length -Q.length))) []) (Q.length -1) ((R.map fun x=>x.fdiv (ld*h^(P.length -Q.length))).length -1) (Q.getD (Q.length -1) 0) (hnext h (Q.getD (Q.length -1) 0) (P.length -Q.length)) (sg ((P.length -1)*(Q.length -1))*σ):=by
 obtain⟨VC,_,dR,_,_,_,_⟩:=C.step X hq hc SQ hR lR zR (F:=[]) (fun k=>by
  show(0:Int)=c*0 -cf Qs [] Qs.length k
  rw[vE]
  show(0:Int)=c*0 -0
  simp) (NM _) (fun _=>Do _)
 have ch:=C.ch
 have EF:=C.EF
 have Rv:=Hb.mpr HF
 have Jg:(R.map fun x=>x.fdiv (ld*h^(P.length -Q.length))).length=R.length:=Ap _
 have hpq:P.length -1 -(Q.length -1)=P.length -Q.length:=by lia
 have hh:hnext h (Q.getD (Q.length -1) 0) (P.length -Q.length)*h^(P.length -Q.length)=Q.getD (Q.length -1) 0^(P.length -Q.length)*h:=by
  unfold hnext
  by_cases hd:P.length -Q.length=0
  ·rw[Bi hd,hd,Q1,Q1,du,UF]
  ·obtain⟨S,e1,_⟩:=ch.Cw (by lia)
   rw[hpq]at e1
   have hne:h^(P.length -Q.length -1)≠0:=bq ch.h0 _
   rw[B1 hd,e1,bo ⟨S,rfl⟩,ar S hne,show h^(P.length -Q.length)=h^(P.length -Q.length -1)*h by rw[←Kj];congr 1;lia]
   generalize h^(P.length -Q.length -1)=x
   grind
 rw[Jg]
 refine K.step ch (L:=qQ Qs Qs.length) (fun z hz=>?_) (fun ρ=>?_) (by clear hh hpq Jg Rv EF VC HF zR;lia) (fun t ht=>?_) (by rw[hpq];exact hh)
 ·have:=vO hz
  lia
 ·obtain⟨b,t⟩:=ρ
  rw[hpq,←hc,Cz]
  cases b
  ·have e:=hR t
   have d:ld*h^(P.length -Q.length)∣R.getD t 0:=by
    by_cases ht:t<R.length
    ·exact dR _ (getD_mem' ht)
    ·rw[outI (by lia)]
     exact Int.dvd_zero _
   show c*P.getD t 0 -cf Qs Q Qs.length t=_*(R.map fun x=>x.fdiv (ld*h^(P.length -Q.length))).getD t 0
   rw[←e,map_getD (f:=fun x=>x.fdiv (ld*h^(P.length -Q.length))) (Int.zero_fdiv _),bo d,Int.mul_ediv_cancel' d]
  ·show c*0 -cf Qs [] Qs.length t=_*0
   rw[vE]
   show c*0 -0=_*0
   simp
 ·exact outI (by show(R.map fun x=>x.fdiv (ld*h^(P.length -Q.length))).length<=t;rw[Jg];lia)
end Sub
namespace VL
open PySem PySem.Spec
open PyProof.Rows hiding St
open L2 Num
noncomputable def b7:List CS:=[.iff (.cmp .Gt (.blt .len [(.own 0 [.fl 1 "last"])]) (.int 1)) [.Jc (.int 0)] [],.set 1 (.bin .Sub (.blt .len [(.own 0 [.fl 0 "ahead"])]) (.int 1)),.Jc (.bin .Mult (.own 0 [.fl 6 "sign"]) (.call 0 [(.own 0 [.fl 5 "height"]),(.ix (.own 0 [.fl 1 "last"]) (.int 0)),(.var 1)]))]
noncomputable def iK(C:Addr):bT:=fun ws Q _=>∃(A B fA fB:List Int) (ld h sg sc kn:Int),ws=[j5 C A B fA fB ld h sg sc kn]/\((2<=B.length/\Q (.tup [.int 0,j5 C A B fA fB ld h sg sc kn]))\/
 (B.length=1/\0<A.length/\A.length<=50/\Sub.Cu sg/\(∃N,h.natAbs<2^N/\(B.getD 0 0).natAbs<2^N/\N<=100000/\(0<A.length -1->h^(A.length -1 -1)≠0/\(h^(A.length -1 -1)).natAbs.log2<9000))/\Q (.tup [.int (sg*Sub.hnext h (B.getD 0 0) (A.length -1)),j5 C A B fA fB ld h sg sc kn])))
theorem oX{G:Nat->W}{m:Md}{C:Addr}(ws:List W)(Q:W->Prop)(R:Addr->Prop)(h:iK C ws Q R):wSs (cu [dD]) G b7 (cj m Q R) (aA 2 ws):=by
 obtain⟨A,B,fA,fB,ld,h,sg,sc,kn,rfl,hq⟩:=h
 show wSs _ _ b7 _ [some (j5 C A B fA fB ld h sg sc kn),none]
 unfold b7
 rcases hq with⟨l2,q⟩|⟨l1,a0,a50,hs,⟨N,bh,bB,hN,hh⟩,q⟩
 ·unfold j5 wI at q⊢
  walk_at "vs"
  rw[Ap,Bi (Hn (by lia))]
  exact q
 ·match B,l1 with
  |[b],_=>
   unfold j5 wI at q⊢
   walk_at "vs"
   rw[B1 (by simp),Ap,show(A.length:Int) -1=((A.length -1:Nat):Int) by lia]
   refine⟨_,rfl,h,b,A.length -1,N,rfl,⟨bh,bB,FC (Oy hN (show A.length -1+1<=50 by lia)) (by decide),hh⟩,?_⟩
   walk_at "vs"
   refine⟨?_,q⟩
   rcases hs with e|e<;>rw[e]<;>exact oz (by decide) (by decide)
noncomputable def RI(ns ms:List Int)(w E:Nat):CI:=fun A B fA fB ld h σ=>fA=[]/\fB=[]/\Sub.CS ns ms [] [] w E (ms.length+1) A B [] [] ld h/\Sub.E9 (Sub.vc ns []) (Sub.vc ms []) (ns.length -1) (ms.length -1) (Sub.vc A []) (Sub.vc B []) (A.length -1) (B.length -1) ld h σ/\(2<=A.length\/(A=ns/\B=ms/\h=1/\σ=1))
theorem HV{ns ms:List Int}{w E:Nat}(l0:0<ms.length)(nz:ms.getD (ms.length -1) 0≠0)(X:Sub.FX ns ms [] [] w E):RI ns ms w E ns ms [] [] 1 1 1:=
 ⟨rfl,rfl,Sub.CS.start X l0 nz (by show 0+ms.length<=_;lia) (.inl rfl),.start _ _ _ _,.inr ⟨rfl,rfl,rfl,rfl⟩⟩
theorem LN{ns ms:List Int}{w E:Nat}(X:Sub.FX ns ms [] [] w E)(ZT:ns.length<=15)(hN:w*(ns.length -1+(ms.length -1)+1)+1<=5000)(hE:w*E<=7900):Kept (RI ns ms w E):=by
 rintro A B fA fB ld h σ ⟨rfl,rfl,C,K,_⟩ l2
 have l1:=X.l1
 have EF:=C.EF
 have lp:=C.lp
 obtain⟨k0,kE,h0⟩:=C.size X l2
 obtain⟨b1,b2,b3,b4⟩:=C.bd
 refine⟨⟨w*(ns.length -1+(ms.length -1)+1)+1,w*E,⟨l2,EF,by lia,NM _,NM _,fun x hx=>aQ (b1 x hx),fun x hx=>aQ (b2 x hx),fun x hx=>aQ (b3 x hx),fun x hx=>aQ (b4 x hx),aQ C.bl,?_,hN,hE,k0,kE,h0⟩⟩,?_⟩
 ·exact aQ (FC C.bh (Ha (by decide) (Dx _ (by lia))))
 rintro Qs R F c hR ⟨hc,SQ,cR,lR,zR⟩ ⟨cF,lF,Wt⟩
 obtain⟨_,_,_,_,_,_,S⟩:=C.step X l2 hc SQ cR lR zR cF lF Wt
 have f0:F=[]:=SZ.mp (Nat.le_zero.mp (Wt rfl))
 subst f0
 exact⟨rfl,rfl,S hR,C.sgn X K l2 hc SQ cR lR zR hR,.inl l2⟩
theorem RJ{ns ms A B fA fB:List Int}{w E:Nat}{ld h σ:Int}(X:Sub.FX ns ms [] [] w E)(hI:RI ns ms w E A B fA fB ld h σ)(fin:B.length<2\/∃Qs c,yG A B Qs [] c):
 (2<=B.length/\Sub.jf (co ns) (co ms) (ns.length -1) (ms.length -1)=0)\/(B.length=1/\0<A.length/\A.length<=ns.length/\Sub.Cu σ/\(0<A.length -1->h^(A.length -1 -1)≠0)/\σ*Sub.hnext h (B.getD 0 0) (A.length -1)=Sub.jf (co ns) (co ms) (ns.length -1) (ms.length -1)):=by
 obtain⟨rfl,rfl,C,K,st⟩:=hI
 have lq:=C.lq
 have EF:=C.EF
 have lp:=C.lp
 have Wr:=C.Wr
 have l1:=X.l1
 by_cases l2:2<=B.length
 ·refine .inl ⟨l2,?_⟩
  obtain⟨Qs,c,hc,SQ,cR,_,_⟩:=fin.resolve_left (by lia)
  refine K.none (S:=fun t=> -1*co Qs t) (N:=Qs.length) (c:=c) (by lia) (by lia) C.ch.Rr C.ch.h0 (by rw[hc];exact Sub.bq C.ch.Lz _) (fun t ht=>outI (by lia)) (fun t ht=>by show-1*Qs.getD t 0=0;rw[outI ht];rfl) (by lia) (fun t=>?_) (by lia)
  have:=cR t
  rw[VD]at this
  rw[LA]
  have this:(0:Int)=c*A.getD t 0 -sG (co Qs) (co B) t:=this
  show(0:Int)=c*A.getD t 0+ -1*sG (co Qs) (co B) t
  lia
 ·have lB:B.length=1:=by lia
  refine .inr ⟨lB,by lia,lp,K.s,fun _=>Sub.bq C.ch.h0 _,?_⟩
  have z:∀t,0<t->Sub.vc B [] (false,t)=0:=fun t ht=>outI (show B.length<=t by lia)
  by_cases hp:0<A.length -1
  ·rw[lB]at K
   have e:=K.out (lq:=B.getD 0 0) rfl z hp (by lia)
   unfold Sub.hnext
   have hne:h^(A.length -1 -1)≠0:=Sub.bq C.ch.h0 _
   have s2:=K.s.sq
   rw[B1 (by lia),e]
   generalize Sub.jf _ _ _ _=S
   generalize h^(A.length -1 -1)=x at*
   rw[show σ*x*S=x*(σ*S) by grind,bo ⟨σ*S,rfl⟩,ar _ hne,show σ*(σ*S)=σ*σ*S by grind,s2,UF]
  ·rcases st with l|⟨rfl,rfl,rfl,rfl⟩
   ·lia
   ·rw[show A.length -1=0 by lia,show B.length -1=0 by lia]
    rfl
structure RP(as bs:List Rat)(n k E:Nat):Prop where
 la:as.length<=8
 lb:bs.length<=8
 za:cA as
 zb:cA bs
 a0:as≠[]
 b0:bs≠[]
 da:∃D:Int,0<D/\D.natAbs<2^k/\∀x∈as,Cd D n x
 db:∃D:Int,0<D/\D.natAbs<2^k/\∀x∈bs,Cd D n x
 hE:∀p,(as.length -1+(bs.length -1) -2*p)*p+(as.length -1+(bs.length -1)+1)<=E
 hq:(n+4)*(as.length -1+(bs.length -1)+1)+1<=5000
 e7:(n+4)*E<=7900
 n5:n<=400
 k3:k<=400
theorem RP.swap{as bs:List Rat}{n k E:Nat}(h:RP as bs n k E):RP bs as n k E:=
 ⟨h.lb,h.la,h.zb,h.za,h.b0,h.a0,h.db,h.da,by rw[Nat.add_comm (bs.length -1)];exact h.hE,by rw[Nat.add_comm (bs.length -1)];exact h.hq,h.e7,h.n5,h.k3⟩
noncomputable def rB(n k:Nat):Nat:=(2*n+k+4)*14+1
noncomputable def ek:bT:=fun ws Q _=>∃(as bs:List Rat) (n k E:Nat),ws=[aq as,aq bs]/\RP as bs n k E/\(Bd (rB n k) (nX as bs)->Q (wq (nX as bs)))
noncomputable def qW:bT:=fun ws Q R=>ek ws Q R/\∀as bs,ws=[aq as,aq bs]->bs.length<=as.length
theorem HW{as bs:List Rat}{ns ms:List Int}{Ba Bb ca cb:Int}(pa:Prim as ns Ba ca)(pb:Prim bs ms Bb cb):Rat.divInt (Sub.jf (co ns) (co ms) (as.length -1) (bs.length -1)*ca^(bs.length -1)*cb^(as.length -1)) (Ba^(bs.length -1)*Bb^(as.length -1))=nX as bs:=by
 have ZY:Ba≠0:=by have:=pa.bpos;lia
 have ZZ:Bb≠0:=by have:=pb.bpos;lia
 have ra:Ji as Ba fun t=>ca*co ns t:=⟨ZY,fun t=>by
  have:=pa.at_ t
  rw[Gc]
  show as.getD t 0*_=_*(ns.getD t 0:Rat)
  rw[←this,Rat.mul_comm]⟩
 have rb:Ji bs Bb fun t=>cb*co ms t:=⟨ZZ,fun t=>by
  have:=pb.at_ t
  rw[Gc]
  show bs.getD t 0*_=_*(ms.getD t 0:Rat)
  rw[←this,Rat.mul_comm]⟩
 refine AW ra rb ?_
 rw[Sub.vX,Sub.vW]
 have z0:Ba^(bs.length -1)*Bb^(as.length -1)≠0:=Mo (Sub.bq ZY _) (Sub.bq ZZ _)
 have zR:=mF z0
 rw[Rat.divInt_eq_div]
 simp only[Gc,Rat.intCast_pow]at zR⊢
 rw[Rat.div_mul_cancel zR]
 grind
theorem RK{ns ms:List Int}{w E:Nat}(X:Sub.FX ns ms [] [] w E):(Sub.jf (co ns) (co ms) (ns.length -1) (ms.length -1)).natAbs<=2^(w*(ns.length -1+(ms.length -1))):=by
 by_cases h:0<ns.length -1+(ms.length -1)
 ·have:=Sub.Ru X (k:=0) (NM _) (by lia) (ns.length -1+(ms.length -1)) (false,0)
  rw[Nat.sub_zero,Nat.sub_zero,Nat.mul_zero,Nat.sub_zero,Sub.vZ ns ms h]at this
  exact this
 ·rw[show ns.length -1=0 by lia,show ms.length -1=0 by lia]
  exact PQ (by decide)
theorem CK{x:Int}{n:Nat}(h:x.natAbs<2^n)(e:Nat):(x^e).natAbs<=2^(n*e):=by
 rw[Sub.iY,cn]
 exact SB (SL h) e
theorem v5{x y:Int}{a b:Nat}(h1:x.natAbs<=2^a)(h2:y.natAbs<=2^b):(x*y).natAbs<=2^(a+b):=by
 rw[HI,Ts]
 exact Oy h1 h2
theorem RM{t b:Int}{N:Nat}(b0:b≠0)(ht:t.natAbs<2^N)(hb:b.natAbs<2^N):Bd N (Rat.divInt t b):=by
 refine Cd.bd b0 ⟨t,?_,ht⟩ hb
 rw[Rat.divInt_eq_div,Rat.div_mul_cancel (mF b0)]
theorem h_size{ns ms A B:List Int}{w E b1:Nat}{ld h:Int}(X:Sub.FX ns ms [] [] w E)(C:Sub.CS ns ms [] [] w E b1 A B [] [] ld h):(h^(A.length -1 -1)).natAbs<=2^(w*E):=by
 rw[Sub.iY]
 have e1:=X.E1 (A.length -1)
 have h1:h.natAbs^(A.length -1 -1)<=2^(w*(ns.length -1+(ms.length -1) -2*(A.length -1))*(A.length -1 -1)):=by
  rw[cn]
  exact SB C.bh _
 refine FC h1 (Ha (by decide) ?_)
 rw[Nat.mul_assoc]
 refine Dx _ ?_
 have:(ns.length -1+(ms.length -1) -2*(A.length -1))*(A.length -1 -1)<=(ns.length -1+(ms.length -1) -2*(A.length -1))*(A.length -1):=Dx _ (by clear h1 e1;omega)
 clear h1
 lia
noncomputable def qX:List CS:=[.iff (.or [(.cmp .Eq (.var 0) (.lst [])),(.cmp .Eq (.var 1) (.lst []))]) [.qm] [],.par [2,3] [(.bin .Sub (.blt .len [(.var 0)]) (.int 1)),(.bin .Sub (.blt .len [(.var 1)]) (.int 1))],.iff (.cmp .Lt (.var 2) (.var 3)) [.qm,.qm] [],.Gb [6,5,7] (.call 1 [(.var 0)]),.Gb [8,9,10] (.call 1 [(.var 1)]),.set 11 (.call 2 [(.var 6),(.var 8),(.lst [])]),.Ux (.Jb 11 0 3 []),.Ag 4 (.bin .Mult (.bin .Mult (.Jb 11 0 4 []) (.call 5 [(.var 7),(.var 3)])) (.call 5 [(.var 10),(.var 2)])),.ret (.call 6 [(.var 4),(.bin .Mult (.call 5 [(.var 5),(.var 3)]) (.call 5 [(.var 9),(.var 2)]))])]
theorem RN{S0:bT}{C:Addr}{m:Md}(ws:List W)(Q:W->Prop)(R:Addr->Prop)(h:qW ws Q R):wSs (cu [S0,ef,qT C,uu C,iK C,eH,fS]) (lI [.cls C]) qX (cj m Q R) (aA 12 ws):=by
 obtain⟨⟨as,bs,n,k,E,rfl,⟨la,lb,za,zb,a0,b0,⟨DA,Z0,Z1,ca⟩,⟨DB,Z2,Z3,cb⟩,hE,hq,e7,n5,k3⟩,hQ⟩,hl⟩:=h
 have hl:=hl as bs rfl
 have l1:=Hb.mpr a0
 have l2:=Hb.mpr b0
 show wSs _ _ qX _ [some (aq as),some (aq bs),none,none,none,none,none,none,none,none,none,none]
 unfold qX
 refine aW (fun ε'=>ε'=[some (aq as),some (aq bs),none,none,none,none,none,none,none,none,none,none]) (fun N hN=>?_) ?_
 ·walk_at "vs"
  refine⟨af (by simp),kZ (y:=[]) fun k1 h1=>?_⟩
  cases bY h1 a0
  walk_at "vs"
  refine⟨af (by simp),kZ (y:=[]) fun k2 h2=>?_⟩
  cases bY h2 b0
  walk_at "vs"
  exact hN _ rfl
 rintro _ rfl
 refine aW (fun ε'=>ε'=[some (aq as),some (aq bs),some (.int (as.length -1:Nat)),some (.int (bs.length -1:Nat)),none,none,none,none,none,none,none,none]) (fun N hN=>?_) ?_
 ·unfold aq at hN⊢
  walk_at "vs"
  refine⟨rfl,?_⟩
  rw[Ap,Ap,show(as.length:Int) -1=((as.length -1:Nat):Int) by lia,show(bs.length:Int) -1=((bs.length -1:Nat):Int) by lia]
  exact hN _ rfl
 rintro _ rfl
 refine aW (fun ε'=>ε'=[some (aq as),some (aq bs),some (.int (as.length -1:Nat)),some (.int (bs.length -1:Nat)),none,none,none,none,none,none,none,none]) (fun N hN=>?_) ?_
 ·walk_at "vs"
  rw[B1 (by rw[KM];lia)]
  exact hN _ rfl
 rintro _ rfl
 refine aW (fun ε'=>∃ns Ba,∃c:Int,(Prim as ns Ba c/\Ba.natAbs<2^k/\c.natAbs<2^n/\∀x∈ns,x.natAbs<2^n)/\ε'=[some (aq as),some (aq bs),some (.int (as.length -1:Nat)),some (.int (bs.length -1:Nat)),none,some (.int Ba),some (wI ns),some (.int c),none,none,none,none]) (fun N hN=>?_) ?_
 ·walk_at "vs"
  refine⟨as,DA,n,k,rfl,⟨⟨_,List.getLast_mem a0,za _ (List.getLast?_eq_some_getLast a0)⟩,ca,Z0,Z1,by lia,by lia,by lia⟩,fun ns Ba c pr bB bc bn=>?_⟩
  exact⟨rfl,hN _ ⟨ns,Ba,c,⟨pr,bB,bc,bn⟩,rfl⟩⟩
 rintro _ ⟨ns,Ba,c1,⟨pa,Ym,Yn,bns⟩,rfl⟩
 refine aW (fun ε'=>∃ms Bb,∃c:Int,(Prim bs ms Bb c/\Bb.natAbs<2^k/\c.natAbs<2^n/\∀x∈ms,x.natAbs<2^n)/\ε'=[some (aq as),some (aq bs),some (.int (as.length -1:Nat)),some (.int (bs.length -1:Nat)),none,some (.int Ba),some (wI ns),some (.int c1),some (wI ms),some (.int Bb),some (.int c),none]) (fun N hN=>?_) ?_
 ·walk_at "vs"
  refine⟨bs,DB,n,k,rfl,⟨⟨_,List.getLast_mem b0,zb _ (List.getLast?_eq_some_getLast b0)⟩,cb,Z2,Z3,by lia,by lia,by lia⟩,fun ns Ba c pr bB bc bn=>?_⟩
  exact⟨rfl,hN _ ⟨ns,Ba,c,⟨pr,bB,bc,bn⟩,rfl⟩⟩
 rintro _ ⟨ms,Bb,c2,⟨pb,Ww,Wx,bms⟩,rfl⟩
 have Yo:=EJ pb b0 zb
 have VO:=pa.len
 have Ni:=pb.len
 have rp:=HW pa pb
 have X:Sub.FX ns ms [] [] (n+4) E:=VM (by lia) (by lia) bns bms (.inl rfl) (.inl rfl) (by rw[VO,Ni];exact hE)
 rw[←VO,←Ni]at hq
 refine aW (fun ε'=>ε'=[some (aq as),some (aq bs),some (.int (as.length -1:Nat)),some (.int (bs.length -1:Nat)),none,some (.int Ba),some (wI ns),some (.int c1),some (wI ms),some (.int Bb),some (.int c2),some (j5 C ns ms [] [] 1 1 1 1 1)]) (fun N hN=>?_) ?_
 ·walk_at "vs"
  exact⟨af (by simp),ns,ms,[],rfl,hN _ rfl⟩
 rintro _ rfl
 refine aW (fun ε'=>∃(A B fA fB:List Int) (ld h sg sc kn:Int),(RI ns ms (n+4) E A B fA fB ld h sg/\(B.length<2\/∃Qs c,yG A B Qs [] c))/\ε'=[some (aq as),some (aq bs),some (.int (as.length -1:Nat)),some (.int (bs.length -1:Nat)),none,some (.int Ba),some (wI ns),some (.int c1),some (wI ms),some (.int Bb),some (.int c2),some (j5 C A B fA fB ld h sg sc kn)]) (fun N hN=>?_) ?_
 ·unfold j5
  walk_at "vs"
  refine⟨rfl,ns,ms,[],[],1,1,1,1,1,RI ns ms (n+4) E,rfl,⟨HV (by lia) Yo X,LN X (by lia) (by clear rp Ni VO Yo Wx Ww;lia) e7⟩,fun A B fA fB ld h sg sc kn hI fin=>?_⟩
  exact⟨_,_,rfl,hN _ ⟨A,B,fA,fB,ld,h,sg,sc,kn,⟨hI,fin⟩,rfl⟩⟩
 rintro _ ⟨A,B,fA,fB,ld,h,sg,sc,kn,⟨hI,fin⟩,rfl⟩
 have ro:=RJ X hI fin
 have Sb:=RK X
 have hC:=hI.2.2.1
 have hsz:=h_size X hC
 obtain⟨_,bBl,_,_⟩:=hC.bd
 have bh:h.natAbs<2^5000:=gO (aQ (FC hC.bh (Ha (by decide) (Dx _ (show _<=ns.length -1+(ms.length -1)+1 by lia))))) (by lia)
 rw[VO,Ni]at ro Sb
 generalize Sub.jf (co ns) (co ms) (as.length -1) (bs.length -1)=S at*
 have sl:as.length -1+(bs.length -1)<=14:=by clear Sb ro rp bh hsz fin Ni VO Yo Wx Ww hq Yn Ym l2 l1 hl Z3 Z2 Z1 Z0 k3 n5 e7 b0 a0 lb;lia
 generalize hea:as.length -1=ea at*
 generalize heb:bs.length -1=eb at*
 have p1:(n+4)*(ea+eb)<=(n+4)*14:=Dx _ sl
 have p2:n*ea<=n*14:=Dx _ (by lia)
 have p3:n*eb<=n*14:=Dx _ (by lia)
 have p4:k*ea<=k*14:=Dx _ (by lia)
 have p5:k*eb<=k*14:=Dx _ (by lia)
 have p6:n*(ea+eb)<=n*14:=Dx _ sl
 have p7:k*(ea+eb)<=k*14:=Dx _ sl
 have q1:=CK Yn eb
 have q2:=CK Wx ea
 have q3:=CK Ym eb
 have q4:=CK Ww ea
 have t1:=v5 Sb q1
 have t2:=v5 t1 q2
 have t3:=v5 q3 q4
 have Z4:Ba^eb*Bb^ea≠0:=Mo (Sub.bq (by have:=pa.bpos;lia) _) (Sub.bq (by have:=pb.bpos;lia) _)
 have fin2:=hQ (by
  rw[←rp]
  unfold rB
  exact RM Z4 (gO (aQ t2) (by lia)) (gO (aQ t3) (by lia)))
 rw[←rp]at fin2
 have done:∀o:Int,o=S->wSs (cu [S0,ef,qT C,uu C,iK C,eH,fS]) (lI [.cls C]) [.ret (.call 6 [(.var 4),(.bin .Mult (.call 5 [(.var 5),(.var 3)]) (.call 5 [(.var 9),(.var 2)]))])] (cj m Q R) [some (aq as),some (aq bs),some (.int ea),some (.int eb),some (.int (o*c1^eb*c2^ea)),some (.int Ba),some (wI ns),some (.int c1),some (wI ms),some (.int Bb),some (.int c2),some (j5 C A B fA fB ld h sg sc kn)]:=fun o ho=>by
  subst ho
  walk_at "vs"
  refine⟨Ba,eb,k,rfl,Ym,FC (Oy k3 (show eb+1<=20 by lia)) (by decide),Bb,ea,k,rfl,Ww,FC (Oy k3 (show ea+1<=20 by lia)) (by decide),?_⟩
  walk_at "vs"
  refine⟨aT (aQ q3) (aQ q4) (by lia),_,_,k*eb+k*ea+1,rfl,aQ t3,by lia,fun z=>absurd z Z4,fun _=>fin2⟩
 refine aW (fun ε'=>ε'=[some (aq as),some (aq bs),some (.int ea),some (.int eb),some (.int (S*c1^eb*c2^ea)),some (.int Ba),some (wI ns),some (.int c1),some (wI ms),some (.int Bb),some (.int c2),some (j5 C A B fA fB ld h sg sc kn)]) (fun N hN=>?_) (by rintro _ rfl;exact done S rfl)
 clear done fin2 hQ
 have go:∀o:Int,o=S->∀K:W->Prop,K (.int (S*c1^eb*c2^ea))->eH [.int c1,.int eb] (fun y=>fW .Mult (.int o) y fun x=>eH [.int c2,.int ea] (fun y=>fW .Mult x y K) R) R:=fun o ho K hK=>by
  subst ho
  refine⟨c1,eb,n,rfl,Yn,FC (Oy n5 (show eb+1<=20 by lia)) (by decide),?_⟩
  walk_at "vs"
  refine⟨aT (aQ Sb) (aQ q1) (by lia),c2,ea,n,rfl,Wx,FC (Oy n5 (show ea+1<=20 by lia)) (by decide),?_⟩
  walk_at "vs"
  exact⟨aT (aQ t1) (aQ q2) (by lia),hK⟩
 have hN:=hN _ rfl
 unfold j5 at hN⊢
 walk_at "vs"
 refine⟨rfl,A,B,fA,fB,ld,h,sg,sc,kn,rfl,?_⟩
 rcases ro with⟨lB,s0⟩|⟨lB,a1,a2,s1,h1,e⟩
 ·refine .inl ⟨lB,_,_,rfl,?_⟩
  exact go 0 s0.symm _ hN
 ·refine .inr ⟨lB,a1,by lia,s1,⟨5000,bh,gO (aQ (bBl _ (Sub.getD_mem' (ns:=B) (k:=0) (by lia)))) (by lia),by decide,fun hp=>⟨h1 hp,gM (n:=(n+4)*E+1) (aQ hsz) (by lia)⟩⟩,_,_,rfl,?_⟩
  exact go _ e _ hN
noncomputable def uw:bT:=fun ws Q R=>ek ws Q R/\∀as bs,ws=[aq as,aq bs]->as.length<bs.length
noncomputable def qY:List CS:=[.iff (.or [(.cmp .Eq (.var 0) (.lst [])),(.cmp .Eq (.var 1) (.lst []))]) [.qm] [],.par [2,3] [(.bin .Sub (.blt .len [(.var 0)]) (.int 1)),(.bin .Sub (.blt .len [(.var 1)]) (.int 1))],.iff (.cmp .Lt (.var 2) (.var 3)) [.Gb [4,5] (.call 0 [(.var 1),(.var 0)]),.ret (.ite (.cmp .Eq (.bin .Mod (.bin .Mult (.var 2) (.var 3)) (.int 2)) (.int 1)) (.tup [(.neg (.var 4)),(.var 5)]) (.tup [(.var 4),(.var 5)]))] [],.qm,.qm,.qm,.qm,.qm,.qm]
theorem HX{n:Nat}{x:Rat}(h:Bd n x):Bd n (-x):=⟨by rw[Rat.neg_num,Int.natAbs_neg];exact h.1,by rw[Rat.neg_den];exact h.2⟩
theorem RO(x:Rat):W.tup [.int (-x.num),.int x.den]=wq (-x):=by
 unfold wq
 rw[Rat.neg_num,Rat.neg_den]
theorem RQ{G:Nat->W}{m:Md}(ws:List W)(Q:W->Prop)(R:Addr->Prop)(h:uw ws Q R):wSs (cu [qW]) G qY (cj m Q R) (aA 12 ws):=by
 obtain⟨⟨as,bs,n,k,E,rfl,rp,hQ⟩,hl⟩:=h
 have hl:=hl as bs rfl
 have a0:=rp.a0
 have b0:=rp.b0
 have l1:=Hb.mpr a0
 have la:=rp.la
 have lb:=rp.lb
 show wSs _ _ qY _ [some (aq as),some (aq bs),none,none,none,none,none,none,none,none,none,none]
 unfold qY
 refine aW (fun ε'=>ε'=[some (aq as),some (aq bs),none,none,none,none,none,none,none,none,none,none]) (fun N hN=>?_) ?_
 ·walk_at "vs"
  refine⟨af (by simp),kZ (y:=[]) fun k1 h1=>?_⟩
  cases bY h1 a0
  walk_at "vs"
  refine⟨af (by simp),kZ (y:=[]) fun k2 h2=>?_⟩
  cases bY h2 b0
  walk_at "vs"
  exact hN _ rfl
 rintro _ rfl
 refine aW (fun ε'=>ε'=[some (aq as),some (aq bs),some (.int (as.length -1:Nat)),some (.int (bs.length -1:Nat)),none,none,none,none,none,none,none,none]) (fun N hN=>?_) ?_
 ·unfold aq at hN⊢
  walk_at "vs"
  refine⟨rfl,?_⟩
  rw[Ap,Ap,show(as.length:Int) -1=((as.length -1:Nat):Int) by lia,show(bs.length:Int) -1=((bs.length -1:Nat):Int) by lia]
  exact hN _ rfl
 rintro _ rfl
 refine aW (fun ε'=>False) (fun N hN=>?_) (fun _ z=>z.elim)
 walk_at "vs"
 rw[Bi (Hn (by lia))]
 have sw:=HU bs as
 refine⟨⟨bs,as,n,k,E,rfl,rp.swap,fun hb=>?_⟩,fun as' bs' e=>?_⟩
 ·have sp:=AS ((bs.length -1)*(as.length -1))
  generalize nX bs as=x at*
  unfold wq
  walk_at "vs"
  refine⟨rfl,oz (by lia) (by lia),by decide,?_⟩
  rw[show((as.length -1:Nat):Int)*((bs.length -1:Nat):Int)=(((as.length -1)*(bs.length -1):Nat):Int) by rw[Int.natCast_mul],Y2]
  generalize(bs.length -1)*(as.length -1)=c at*
  by_cases hc:c%2=0
  ·rw[Bi hc]at sp
   rw[sp]at sw
   have sw:nX as bs=x:=sw.trans (Rat.one_mul x)
   rw[B1 (by rw[KM,eD _ (by decide)];lia)]
   refine⟨af (by simp),?_⟩
   rw[sw]at hQ
   exact hQ hb
  ·rw[B1 hc]at sp
   rw[sp]at sw
   have sw:nX as bs= -x:=sw.trans (by show(-1:Rat)*x= -x;grind)
   rw[Bi (by rw[KM,eD _ (by decide)];lia)]
   refine⟨af (by simp),?_⟩
   rw[sw]at hQ
   have:=hQ (HX hb)
   rw[←RO]at this
   exact this
 ·obtain⟨e1,e2⟩:=qU e
  rw[←e1,←e2]
  lia
theorem yM:∀ws P R,qW ws P R->ws.length=2:=by
 rintro _ _ _ ⟨⟨_,_,_,_,_,rfl,_⟩,_⟩
 rfl
theorem HY:∀ws P R,uw ws P R->ws.length=2:=by
 rintro _ _ _ ⟨⟨_,_,_,_,_,rfl,_⟩,_⟩
 rfl
theorem RS{P:Program}{w:World}{K:PySem.W.Frag}{mg:Str->Option Value}{base:Heap}{k1 k2 k:Nat}{f:Addr}{fd:FuncData}{ps:List Str}(F1:aH P w K mg base (cK P w) k1 f fd ps (dU K 2 .s qW))(F2:aH P w K mg base (cK P w) k2 f fd ps (dU K 2 .s uw))(h1:k1<=k)(h2:k2<=k):aH P w K mg base (cK P w) k f fd ps (dU K 2 .s ek):=by
 have way:∀vs H Q E,dU K 2 .s ek vs H Q E->dU K 2 .s qW vs H Q E\/dU K 2 .s uw vs H Q E:=by
  rintro vs H Q E ⟨A,ws,P,R,l,r,d,h,c,e⟩
  obtain⟨as,bs,n,k,E,rfl,gp,hQ⟩:=id h
  by_cases hl:bs.length<=as.length
  ·refine .inl ⟨A,_,P,R,l,r,d,⟨h,fun as' bs' e=>?_⟩,c,e⟩
   obtain⟨e1,e2⟩:=qU e
   rw[←e1,←e2]
   exact hl
  ·refine .inr ⟨A,_,P,R,l,r,d,⟨h,fun as' bs' e=>?_⟩,c,e⟩
   obtain⟨e1,e2⟩:=qU e
   rw[←e1,←e2]
   lia
 exact⟨fun vs H Q E h=>(way vs H Q E h).elim (F1.len vs H Q E) (F2.len vs H Q E),fun A outer s H args us vs Q E hr e0 hb r h=>(way vs H Q E h).elim (F1.run A outer s H args us vs Q E (hr.mono h1) e0 hb r) (F2.run A outer s H args us vs Q E (hr.mono h2) e0 hb r)⟩
end VL
namespace Num
open Sub
section
variable{ι:Type}
noncomputable def ig(D:List (ι->Rat)->Rat)(r:ι):List (ι->Rat)->List (ι->Rat)->Rat
 |_,[]=>0
 |pre,c::post=>c r*D (pre++post) -ig D r (pre++[c]) post
noncomputable def gP:List ι->List (ι->Rat)->Rat
 |[],[]=>1
 |[],_::_=>0
 |r::rs,cs=>ig (gP rs) r [] cs
noncomputable def yN(D:List (ι->Rat)->Rat):Prop:=∀(p q:List (ι->Rat)) (a b:ι->Rat),D (p++a::b::q)= -D (p++b::a::q)
noncomputable def AX(D:List (ι->Rat)->Rat):Prop:=∀(p q:List (ι->Rat)) (x y:Rat) (a b:ι->Rat),D (p++(fun i=>x*a i+y*b i)::q)=x*D (p++a::q)+y*D (p++b::q)
theorem yO{D:List (ι->Rat)->Rat}(h:yN D)(r:ι):∀(post p q:List (ι->Rat)) (a b:ι->Rat),ig D r (p++a::b::q) post= -ig D r (p++b::a::q) post
 |[],_,_,_,_=>by simp[ig]
 |c::post,p,q,a,b=>by
  have ih:=yO h r post p (q++[c]) a b
  have e:=h p (q++post) a b
  simp only[ig,FV,List.cons_append]at ih e⊢
  rw[e,ih]
  grind
theorem yP{D:List (ι->Rat)->Rat}(h:yN D)(r:ι):∀(p pre q:List (ι->Rat)) (a b:ι->Rat),ig D r pre (p++a::b::q)= -ig D r pre (p++b::a::q)
 |[],pre,q,a,b=>by
  have e:=yO h r q pre [] a b
  simp only[ig,List.nil_append,FV,List.cons_append]at e⊢
  rw[e]
  grind
 |c::p,pre,q,a,b=>by
  have ih:=yP h r p (pre++[c]) q a b
  have e:=h (pre++p) q a b
  simp only[ig,List.cons_append,FV]at ih e⊢
  rw[e,ih]
  grind
theorem mJ:∀rs:List ι,yN (gP rs)
 |[]=>fun p q a b=>by
  cases p<;>simp[gP]
 |r::rs=>fun p q a b=>yP (mJ rs) r p [] q a b
theorem yQ{D:List (ι->Rat)->Rat}(h:AX D)(r:ι):∀(post p q:List (ι->Rat)) (x y:Rat) (a b:ι->Rat),ig D r (p++(fun i=>x*a i+y*b i)::q) post=x*ig D r (p++a::q) post+y*ig D r (p++b::q) post
 |[],_,_,_,_,_,_=>by simp only[ig];grind
 |c::post,p,q,x,y,a,b=>by
  have ih:=yQ h r post p (q++[c]) x y a b
  have e:=h p (q++post) x y a b
  simp only[ig,FV,List.cons_append]at ih e⊢
  rw[e,ih]
  grind
theorem yR{D:List (ι->Rat)->Rat}(h:AX D)(r:ι):∀(p pre q:List (ι->Rat)) (x y:Rat) (a b:ι->Rat),ig D r pre (p++(fun i=>x*a i+y*b i)::q)=x*ig D r pre (p++a::q)+y*ig D r pre (p++b::q)
 |[],pre,q,x,y,a,b=>by
  have e:=yQ h r q pre [] x y a b
  simp only[ig,List.nil_append]at e⊢
  rw[e]
  grind
 |c::p,pre,q,x,y,a,b=>by
  have ih:=yR h r p (pre++[c]) q x y a b
  have e:=h (pre++p) q x y a b
  simp only[ig,List.cons_append,FV]at ih e⊢
  rw[e,ih]
  grind
theorem mK:∀rs:List ι,AX (gP rs)
 |[]=>fun p q x y a b=>by
  cases p<;>simp only[gP,List.nil_append,List.cons_append]<;>grind
 |r::rs=>fun p q x y a b=>yR (mK rs) r p [] q x y a b
theorem qZ{D:List (ι->Rat)->Rat}{r:ι}:∀(post pre:List (ι->Rat)),(∀c∈post,c r=0)->ig D r pre post=0
 |[],_,_=>rfl
 |c::post,pre,h=>by
  rw[ig,h c DD,qZ post _ fun d hd=>h d (Bn _ hd)]
  grind
theorem iL{D:List (ι->Rat)->Rat}(h:yN D):∀(u p v:List (ι->Rat)) (a:ι->Rat),D (p++a::(u++a::v))=0
 |[],p,v,a=>by
  have:=h p v a a
  simp only[List.nil_append]at this⊢
  grind
 |c::u,p,v,a=>by
  have e:=h p (u++a::v) a c
  have ih:=iL h u (p++[c]) v a
  simp only[FV,List.cons_append,List.nil_append]at ih e⊢
  rw[e,ih]
  grind
theorem EK{D:List (ι->Rat)->Rat}(h:yN D)(hl:AX D)(p u v:List (ι->Rat))(a b:ι->Rat):D (p++a::(u++b::v))= -D (p++b::(u++a::v)):=by
 have e:=iL h u p v (fun i=>1*a i+1*b i)
 have s1:=iL h u p v a
 have s2:=iL h u p v b
 rw[hl]at e
 have f1:=hl (p++a::u) v 1 1 a b
 have f2:=hl (p++b::u) v 1 1 a b
 simp only[FV,List.cons_append]at f1 f2
 rw[f1,f2,s1,s2]at e
 grind
inductive CL(P:List (ι->Rat)):(ι->Rat)->(ι->Rat)->Prop where
 |refl (o:ι->Rat):CL P o o
 |add {o x a:ι->Rat} (y:Rat) (h:CL P o x) (m:a∈P):CL P o (fun i=>1*x i+y*a i)
theorem HZ{D:List (ι->Rat)->Rat}(h:yN D)(hl:AX D){p q:List (ι->Rat)}{a b:ι->Rat}(y:Rat)(hb:b∈p):D (p++(fun i=>1*a i+y*b i)::q)=D (p++a::q):=by
 obtain⟨u,v,rfl⟩:=List.append_of_mem hb
 have:=iL h v u q b
 rw[hl]
 simp only[FV,List.cons_append]at this⊢
 rw[this]
 grind
theorem CL.det{D:List (ι->Rat)->Rat}(h:yN D)(hl:AX D){P q:List (ι->Rat)}{o x:ι->Rat}(s:CL P o x){p:List (ι->Rat)}(hp:∀a∈P,a∈p):D (p++x::q)=D (p++o::q):=by
 induction s with
 |refl=>rfl
 |add y _ m ih=>rw[HZ h hl y (hp _ m),ih]
theorem CL.mono{P P':List (ι->Rat)}{o x:ι->Rat}(s:CL P o x)(h:∀a∈P,a∈P'):CL P' o x:=by
 induction s with
 |refl=>exact .refl _
 |add y _ m ih=>exact .add y ih (h _ m)
theorem CM{D D':List (ι->Rat)->Rat}{z:Rat}{r:ι}{xs:List (ι->Rat)}(hx:∀x∈xs,x r=0):∀(ps pre:List (ι->Rat)),(∀ds:List (ι->Rat),ds.length+1=pre.length+ps.length->D (ds++xs)=D' ds*z)->ig D r pre (ps++xs)=ig D' r pre ps*z
 |[],pre,_=>by
  rw[List.nil_append,qZ xs pre hx,ig]
  grind
 |c::ps,pre,h=>by
  have ih:=CM hx ps (pre++[c]) fun ds hd=>h ds (by rw[hd,Ee,List.length_cons,List.length_cons,List.length_nil];lia)
  have e:=h (pre++ps) (by rw[Ee,List.length_cons];lia)
  rw[FV]at e
  rw[List.cons_append,ig,ig,ih,e]
  grind
theorem pU{rs:List ι}{xs:List (ι->Rat)}:∀(ts:List ι) (ps:List (ι->Rat)),ps.length=ts.length->(∀x∈xs,∀t∈ts,x t=0)->gP (ts++rs) (ps++xs)=gP ts ps*gP rs xs
 |[],ps,hl,_=>by
  rw[SZ.mp hl,gP,List.nil_append,List.nil_append]
  grind
 |t::ts,ps,hl,hx=>by
  rw[List.cons_append,gP,gP]
  exact CM (fun x m=>hx x m t DD) ps [] fun ds hd=>pU ts ds (by simpa[hl]using hd) fun x m t' m'=>hx x m t' (Bn _ m')
noncomputable def pD:List ((ι->Rat)×Int)->Int
 |[]=>1
 |p::ps=>p.2*pD ps
theorem AY(c:(ι->Rat)×Int)(b:List ((ι->Rat)×Int)):∀a,pD (a++c::b)=c.2*pD (a++b)
 |[]=>rfl
 |x::a=>by
  rw[List.cons_append,List.cons_append,pD,pD,AY c b a]
  grind
noncomputable def IR(M:Nat)(p:(ι->Rat)×Int):Prop:=∀i,∃z:Int,p.1 i*p.2=z/\z.natAbs<=M
theorem CN{D:List (ι->Rat)->Rat}{r:ι}{M b:Nat}:∀(post pre:List ((ι->Rat)×Int)),(∀p∈post,IR M p)->(∀ds:List ((ι->Rat)×Int),(∀p∈ds,p∈pre\/p∈post)->ds.length+1=pre.length+post.length->∃z:Int,D (ds.map (·.1))*pD ds=z/\z.natAbs<=b)->
 ∃z:Int,ig D r (pre.map (·.1)) (post.map (·.1))*pD (pre++post)=z/\z.natAbs<=post.length*(M*b)
 |[],pre,_,_=>⟨0,by rw[P2,ig];grind,NM _⟩
 |c::post,pre,hp,hD=>by
  obtain⟨z1,e1,l1⟩:=CN (D:=D) (r:=r) (M:=M) (b:=b) post (pre++[c]) (fun p J3=>hp p (Bn _ J3)) fun ds hd hl=>hD ds (fun p J3=>by
   rcases hd p J3 with h|h
   ·rcases GM.mp h with h|h
    ·exact .inl h
    ·exact .inr (by rw[Fh.mp h];exact DD)
   ·exact .inr (Bn _ h)) (by rw[hl,Ee,List.length_cons,List.length_cons,List.length_nil];lia)
  obtain⟨z2,e2,l2⟩:=hD (pre++post) (fun p J3=>(GM.mp J3).imp id (Bn _)) (by rw[Ee,List.length_cons];lia)
  obtain⟨z3,e3,l3⟩:=hp c DD r
  refine⟨z3*z2 -z1,?_,?_⟩
  ·rw[FV,List.cons_append,List.nil_append,Fm,Fn,P2]at e1
   rw[Fm]at e2
   rw[Fn,ig,Rat.intCast_sub,Gc,←e1,←e2,←e3,AY,Gc]
   grind
  ·have h1:(z3*z2).natAbs<=M*b:=by rw[HI];exact Oy l3 l2
   rw[List.length_cons,Nat.add_mul,Nat.one_mul]
   generalize M*b=u at*
   generalize post.length*u=v at*
   lia
theorem v9{N M:Nat}:∀(rs:List ι) (ps:List ((ι->Rat)×Int)),ps.length<=N->(∀p∈ps,IR M p)->∃z:Int,gP rs (ps.map (·.1))*pD ps=z/\z.natAbs<=(N*M)^rs.length
 |[],[],_,_=>⟨1,by rw[P2,gP,pD,Rat.one_mul],Do _⟩
 |[],p::ps,_,_=>⟨0,by rw[Fn,gP];grind,NM _⟩
 |r::rs,ps,hl,hp=>by
  obtain⟨z,e,l⟩:=CN (D:=gP rs) (r:=r) (M:=M) (b:=(N*M)^rs.length) ps [] hp fun ds hd hl'=>v9 rs ds (by rw[List.length_nil]at hl';lia) fun p h=>hp p ((hd p h).elim (fun h=>nomatch h) id)
  refine⟨z,e,FC l ?_⟩
  rw[List.length_cons,Nat.pow_succ,Y2 _ (N*M),Nat.mul_assoc]
  exact U2 _ hl
end
abbrev vQ(l:List Rat):Nat->Rat:=cQ l
structure El(os:List (List Rat))(n k:Nat)(xs:List (List Rat))(f:Rat):Prop where
 w:∃(P O:List (List Rat)) (σ:Rat),P.length=k/\O.length+k=n/\(∀o∈P++O,o∈os)/\(σ=1\/σ= -1)/\f=σ*gP (List.range k) (P.map vQ)/\gP (List.range k) (P.map vQ)≠0/\
  gP (List.range n) (os.map vQ)=σ*gP (List.range n) ((P++O).map vQ)/\∀i,i<O.length->CL (P.map vQ) (vQ (O.getD i [])) (vQ (xs.getD (k+i) []))/\∀c,c<k->vQ (xs.getD (k+i) []) c=0
 xl:xs.length=n
 rl:∀x∈xs,x.length=n
theorem El.start{os:List (List Rat)}{n:Nat}(hl:os.length=n)(hr:∀x∈os,x.length=n):El os n 0 os 1:=
 ⟨⟨[],os,1,rfl,hl,fun o h=>h,.inl rfl,by show(1:Rat)=1*1;grind,by show(1:Rat)≠0;decide,by rw[List.nil_append,Rat.one_mul],fun i hi=>by rw[Nat.zero_add];exact⟨.refl _,fun c hc=>nomatch hc⟩⟩,hl,hr⟩
theorem El.kn{os:List (List Rat)}{n k:Nat}{xs:List (List Rat)}{f:Rat}(h:El os n k xs f):k<=n:=by
 obtain⟨P,O,σ,_,e,_⟩:=h.w
 lia
theorem El.fin{os:List (List Rat)}{n:Nat}{xs:List (List Rat)}{f:Rat}(h:El os n n xs f):f=gP (List.range n) (os.map vQ):=by
 obtain⟨P,O,σ,_,e,_,_,hf,_,ht,_⟩:=h.w
 have:O=[]:=SZ.mp (by lia)
 rw[ht,hf,this,L9]
theorem CO{D:List (Nat->Rat)->Rat}(h:yN D)(hl:AX D){P:List (Nat->Rat)}:∀(os xs p:List (Nat->Rat)),os.length=xs.length->(∀(i:Nat) (a b:Nat->Rat),os[i]?=some a->xs[i]?=some b->CL P a b)->(∀a∈P,a∈p)->D (p++os)=D (p++xs)
 |[],[],p,_,_,_=>rfl
 |o::os,x::xs,p,hl',hs,hp=>by
  have s:=hs 0 o x rfl rfl
  have ih:=CO h hl os xs (p++[x]) (by simpa using hl') (fun i a b h1 h2=>hs (i+1) a b h1 h2) fun a ha=>PH _ (hp a ha)
  rw[FV,FV]at ih
  rw[←s.det h hl (q:=os) hp]
  exact ih
theorem El.none{os:List (List Rat)}{n k:Nat}{xs:List (List Rat)}{f:Rat}(h:El os n k xs f)(hk:k<n)(hz:∀i,k<=i->i<n->vQ (xs.getD i []) k=0):gP (List.range n) (os.map vQ)=0:=by
 obtain⟨P,O,σ,lP,lO,_,_,_,_,ht,hx⟩:=h.w
 have e:=CO (mJ (List.range n)) (mK _) (P:=P.map vQ) (O.map vQ) ((List.range O.length).map fun i=>vQ (xs.getD (k+i) [])) (P.map vQ) (by rw[Ap,Ap,He]) (fun i a b h1 h2=>by
  rw[FS]at h1 h2
  obtain⟨o,ho,rfl⟩:=OK.mp h1
  obtain⟨j,hj,rfl⟩:=OK.mp h2
  have hi:=(Fs.mp ho).1
  rw[SC hi]at hj
  cases hj
  have:=(hx i hi).1
  rw[AC,ho]at this
  exact this) fun a h=>h
 have er:List.range n=List.range k++(k::List.range' (k+1) (n -k -1)):=by
  rw[show n=k+(n -k) by lia,List.range_eq_range',←List.range'_append_1 (s:=0) (m:=k) (n:=n -k)]
  rw[Nat.zero_add,show k+(n -k) -k -1=n -k -1 by lia,show n -k=(n -k -1)+1 by clear e ht lO lP;lia,List.range'_succ,List.range_eq_range']
  rfl
 rw[ht,Fm,e,er,pU _ _ (by rw[Ap,He,lP]) (fun x hm t ht'=>by
  obtain⟨i,hi,rfl⟩:=Iy.mp hm
  exact(hx i (Ki.mp hi)).2 t (Ki.mp ht')),gP,qZ _ _ fun c hm=>by
  obtain⟨i,hi,rfl⟩:=Iy.mp hm
  have:=Ki.mp hi
  exact hz _ (by lia) (by lia)]
 grind
noncomputable def Ia(l:List (List Rat))(i j:Nat):List (List Rat):=(l.set i (l.getD j [])).set j (l.getD i [])
theorem wc(l:List (List Rat))(i j:Nat):(Ia l i j).length=l.length:=by
 unfold Ia
 rw[NA,NA]
theorem we{l:List (List Rat)}{i j m:Nat}(hi:i<l.length)(hj:j<l.length):(Ia l i j).getD m []=if m=j then l.getD i []else if m=i then l.getD j []else l.getD m []:=by
 unfold Ia
 rw[AC,Ya,NA]
 by_cases h1:j=m
 ·rw[Bi h1,Bi hj,Bi h1.symm]
  rfl
 ·rw[B1 h1,B1 fun h=>h1 h.symm,Ya]
  by_cases h2:i=m
  ·rw[Bi h2,Bi hi,Bi h2.symm]
   rfl
  ·rw[B1 h2,B1 fun h=>h2 h.symm,AC]
theorem CP{l:List (List Rat)}{i j:Nat}{o:List Rat}(hi:i<l.length)(hj:j<l.length)(h:o∈Ia l i j):o∈l:=by
 have g:∀m,m<l.length->l.getD m []∈l:=fun m hm=>by
  rw[AC,BM hm]
  exact On hm
 unfold Ia at h
 rcases List.mem_or_eq_of_mem_set h with h|h
 ·rcases List.mem_or_eq_of_mem_set h with h|h
  ·exact h
  ·rw[h];exact g j hj
 ·rw[h];exact g i hi
theorem EL{l:List (List Rat)}{m:Nat}(hm:m+1<l.length):∃a u b v,l=a::(u++b::v)/\Ia l 0 (m+1)=b::(u++a::v):=by
 match l,hm with
 |a::t,hm=>
  have ht:m<t.length:=by simpa using hm
  refine⟨a,t.take m,t[m],t.drop (m+1),?_,?_⟩
  ·rw[←Xt ht,List.take_append_drop]
  ·unfold Ia
   rw[List.getD_cons_succ,List.getD_cons_zero,List.set_cons_zero,List.set_cons_succ,List.set_eq_take_append_cons_drop,Bi ht,AC,BM ht]
   rfl
theorem El.swap{os:List (List Rat)}{n k p:Nat}{xs:List (List Rat)}{f:Rat}(h:El os n k xs f)(hk:k<p)(hp:p<n):El os n k (Ia xs k p) (-f):=by
 obtain⟨⟨P,O,σ,lP,lO,hm,hs,hf,nz,ht,hx⟩,xl,rl⟩:=h
 have k0:0<O.length:=by lia
 have kp:p -k<O.length:=by clear k0 ht nz hf hs;lia
 refine⟨⟨P,Ia O 0 (p -k),-σ,lP,by rw[wc];exact lO,fun o ho=>hm o ?_,?_,?_,nz,?_,fun i hi=>?_⟩,by rw[wc];exact xl,fun x hx'=>rl x (CP (by lia) (by lia) hx')⟩
 ·rcases GM.mp ho with ho|ho
  ·exact PH _ ho
  ·exact GT _ (CP k0 kp ho)
 ·rcases hs with e|e<;>rw[e]
  ·exact .inr rfl
  ·exact .inl (by grind)
 ·rw[hf];grind
 ·obtain⟨a,u,b,v,e1,e2⟩:=EL (l:=O) (m:=p -k -1) (by lia)
  rw[show p -k -1+1=p -k by lia]at e2
  rw[ht,e2,e1]
  have:=EK (mJ (List.range n)) (mK _) (P.map vQ) (u.map vQ) (v.map vQ) (vQ a) (vQ b)
  simp only[Fm,Fn]
  rw[this]
  grind
 ·rw[wc]at hi
  rw[we k0 kp,we (by lia) (by lia)]
  by_cases h1:i=p -k
  ·rw[Bi h1,Bi (show k+i=p by lia)]
   exact hx 0 k0
  ·rw[B1 h1,B1 (show¬k+i=p by lia)]
   by_cases h2:i=0
   ·rw[Bi h2,Bi (show k+i=k by lia)]
    have:=hx (p -k) kp
    rw[show k+(p -k)=p by lia]at this
    exact this
   ·rw[B1 h2,B1 (show¬k+i=k by lia)]
    exact hx i hi
theorem CL.more{ι:Type}{P P':List (ι->Rat)}{o x o0 x0:ι->Rat}(h0:CL P o0 x0)(h:CL P' o x)(hp:∀a∈P,a∈P')(m0:o0∈P')(s:Rat):CL P' o (fun i=>1*x i+s*x0 i):=by
 induction h0 with
 |refl=>exact .add s h m0
 |@add x1 a y _ m ih=>
  have e:(fun i=>1*x i+s*(1*x1 i+y*a i))=fun i=>1*(1*x i+s*x1 i)+(s*y)*a i:=funext fun i=>by grind
  rw[e]
  exact .add _ ih (hp _ m)
theorem El.elim{os:List (List Rat)}{n k:Nat}{xs xs':List (List Rat)}{f:Rat}(h:El os n k xs f)(hk:k<n)(h0:vQ (xs.getD k []) k≠0)(xl':xs'.length=n)(rl':∀x∈xs',x.length=n)
 (hr:∀i,k<i->i<n->vQ (xs'.getD i []) k=0/\∃s:Rat,∀c,vQ (xs'.getD i []) c=vQ (xs.getD i []) c+s*vQ (xs.getD k []) c):El os n (k+1) xs' (f*vQ (xs.getD k []) k):=by
 obtain⟨⟨P,O,σ,lP,lO,hm,hs,hf,nz,ht,hx⟩,xl,rl⟩:=h
 match O,lO,hm,ht,hx with
 |[],lO,_,_,_=>exact absurd lO (by rw[List.length_nil];lia)
 |o0::O,lO,hm,ht,hx=>
  rw[List.length_cons]at lO
  have x0:=hx 0 (by rw[List.length_cons];lia)
  rw[Nat.add_zero,List.getD_cons_zero]at x0
  have ep:gP (List.range (k+1)) ((P++[o0]).map vQ)=gP (List.range k) (P.map vQ)*vQ (xs.getD k []) k:=by
   rw[List.range_succ,Fm,Fn,P2,←x0.1.det (mJ _) (mK _) (q:=[]) (p:=P.map vQ) fun a h=>h,pU _ _ (by rw[Ap,He,lP]) fun x hx' t ht'=>by
    rw[Fh.mp hx']
    exact x0.2 t (Ki.mp ht')]
   have:gP [k] [vQ (xs.getD k [])]=vQ (xs.getD k []) k:=by
    rw[gP,ig,ig,L9,gP]
    grind
   rw[this]
  refine⟨⟨P++[o0],O,σ,by rw[Ee,lP];rfl,by lia,fun o ho=>hm o (by rw[FV]at ho;exact ho),hs,?_,?_,?_,fun i hi=>?_⟩,xl',rl'⟩
  ·rw[ep,hf];grind
  ·rw[ep]
   exact fun z=>(Y1.mp z).elim nz h0
  ·rw[ht,FV];rfl
  ·have xi:=hx (i+1) (by rw[List.length_cons];lia)
   rw[List.getD_cons_succ,show k+(i+1)=k+1+i by lia]at xi
   obtain⟨z,s,hc⟩:=hr (k+1+i) (by lia) (by lia)
   have e:vQ (xs'.getD (k+1+i) [])=fun c=>1*vQ (xs.getD (k+1+i) []) c+s*vQ (xs.getD k []) c:=funext fun c=>by rw[hc c];grind
   have hp:∀a∈P.map vQ,a∈(P++[o0]).map vQ:=fun a h=>by rw[Fm];exact PH _ h
   refine⟨?_,fun c hc'=>?_⟩
   ·rw[e]
    exact x0.1.more (xi.1.mono hp) hp (by simp) s
   ·by_cases e':c=k
    ·rw[e'];exact z
    ·rw[hc c,xi.2 c (by lia),x0.2 c (by lia)]
     grind
theorem El.bd{os:List (List Rat)}{n k w kb:Nat}{xs:List (List Rat)}{f:Rat}(h:El os n k xs f)(n1:1<=n)(n8:n<=8)(d:List Rat->Int)(hd:∀o∈os,d o≠0/\(d o).natAbs<=2^kb/\IR (2^w) (vQ o,d o)):
 (∀i c,k<=i->i<n->Bd ((w+3+kb)*n+1) (vQ (xs.getD i []) c))/\Bd ((w+3+kb)*n+1) f:=by
 have kn:=h.kn
 obtain⟨⟨P,O,σ,lP,lO,hm,hs,hf,nz,ht,hx⟩,xl,rl⟩:=h
 let q:List Rat->(Nat->Rat)×Int:=fun o=>(vQ o,d o)
 have eP:(P.map q).map (·.1)=P.map vQ:=by rw[Pl];rfl
 have hI:∀p∈P.map q,IR (2^w) p:=fun p hp=>by
  obtain⟨o,ho,rfl⟩:=Iy.mp hp
  exact(hd o (hm o (PH _ ho))).2.2
 have pw:∀j,j<=n->(8*2^w)^j<=2^((w+3)*n):=fun j hj=>by
  rw[show 8*2^w=2^(w+3) by rw[Ts,Y2],←cn]
  exact Ha (by decide) (Dx _ hj)
 obtain⟨zB,eB,lB⟩:=v9 (N:=8) (M:=2^w) (List.range k) (P.map q) (by rw[Ap];lia) hI
 rw[eP]at eB
 rw[He]at lB
 have hD:∀l:List (List Rat),(∀o∈l,o∈os)->pD (l.map q)≠0/\(pD (l.map q)).natAbs<=2^(kb*l.length):=by
  intro l
  induction l with
  |nil=>intro _;exact⟨by show(1:Int)≠0;decide,Do _⟩
  |cons o l ih=>
   intro ho
   obtain⟨i1,i2⟩:=ih fun x hx=>ho x (Bn _ hx)
   obtain⟨d0,db,_⟩:=hd o (ho o DD)
   rw[Fn,pD]
   refine⟨Mo d0 i1,?_⟩
   rw[HI,List.length_cons,Nat.mul_add,Nat.mul_one,Nat.add_comm,Ts]
   exact Oy db i2
 obtain⟨p0,pb⟩:=hD P fun o ho=>hm o (PH _ ho)
 have pR:(pD (P.map q):Rat)≠0:=by exact_mod_cast p0
 have zB0:zB≠0:=fun z=>by
  rw[z]at eB
  rcases Y1.mp eB with e|e
  ·exact nz e
  ·exact pR e
 have Z5:=FC lB (pw k kn)
 have u1:∀{a b:Nat},a<=2^((w+3)*n)->b<=2^(kb*n)->a*b<2^((w+3+kb)*n+1):=fun ha hb=>by
  refine KE (Oy ha hb) ?_
  rw[←Ts,←Nat.add_mul]
  exact dq (by decide) (RF _)
 have one:1<=2^(kb*n):=PQ (by decide)
 have one':1<=2^((w+3)*n):=PQ (by decide)
 constructor
 ·intro i c hi hin
  have hi':i -k<O.length:=by lia
  obtain⟨sp,vz⟩:=hx (i -k) hi'
  rw[show k+(i -k)=i by lia]at sp vz
  have om:O.getD (i -k) []∈os:=hm _ (GT _ (by rw[AC,BM hi'];exact On hi'))
  generalize O.getD (i -k) []=o at*
  generalize xs.getD i []=x at*
  obtain⟨d0,db,hI'⟩:=hd o om
  obtain⟨zA,eA,lA⟩:=v9 (N:=8) (M:=2^w) (List.range k++[c]) (P.map q++[q o]) (by rw[Ee,Ap];show P.length+1<=8;lia) fun p hp=>by
   rcases GM.mp hp with hp|hp
   ·exact hI p hp
   ·rw[Fh.mp hp];exact hI'
  rw[Fm,eP,Fn,P2,AY,L9]at eA
  have e1:gP (List.range k++[c]) (P.map vQ++[vQ o])=gP (List.range k) (P.map vQ)*vQ x c:=by
   rw[←sp.det (mJ _) (mK _) (q:=[]) (p:=P.map vQ) fun a h=>h,pU _ _ (by rw[Ap,He,lP]) fun y hy t ht'=>by
    rw[Fh.mp hy]
    exact vz t (Ki.mp ht')]
   have:gP [c] [vQ x]=vQ x c:=by
    rw[gP,ig,ig,L9,gP]
    grind
   rw[this]
  have lA2:zA.natAbs<=2^((w+3)*n):=FC lA (by rw[Ee,He];exact pw (k+1) (by lia))
  refine Cd.bd (D:=zB*d o) (Mo zB0 d0) ⟨zA,?_,?_⟩ ?_
  ·have Z6:gP (List.range k++[c]) (P.map vQ++[vQ o])*((d o*pD (P.map q):Int):Rat)=(zA:Rat):=eA
   rw[e1,Gc]at Z6
   rw[Gc,←eB,←Z6]
   grind
  ·have:=u1 lA2 one
   rw[Nat.mul_one]at this
   exact this
  ·rw[HI]
   exact u1 Z5 (FC db (Ha (by decide) (W1 _ n1)))
 ·refine Cd.bd (D:=pD (P.map q)) p0 ⟨(if σ=1 then 1 else-1)*zB,?_,?_⟩ ?_
  ·rw[hf]
   rcases hs with e|e
   ·rw[e,Bi rfl,UF,←eB];grind
   ·rw[e,B1 (show¬(-1:Rat)=1 by decide),Gc,←eB]
    show-1*_*_=(-1:Rat)*_
    grind
  ·have:((if σ=1 then 1 else-1)*zB).natAbs=zB.natAbs:=by
    by_cases e:σ=1
    ·rw[Bi e,UF]
    ·rw[B1 e];lia
   rw[this]
   have:=u1 Z5 one
   rw[Nat.mul_one]at this
   exact this
  ·have:=u1 one' (FC pb (Ha (by decide) (Dx _ (by lia:P.length<=n))))
   rw[Nat.one_mul]at this
   exact this
section
variable{ι α:Type}
noncomputable def pS(s:α->Rat):List α->Rat
 |[]=>1
 |x::l=>s x*pS s l
theorem Ib(s:α->Rat)(c:α)(b:List α):∀a,pS s (a++c::b)=s c*pS s (a++b)
 |[]=>rfl
 |x::a=>by
  rw[List.cons_append,List.cons_append,pS,pS,Ib s c b a]
  grind
theorem CQ{f g:α->ι->Rat}{s:α->Rat}{D D':List (ι->Rat)->Rat}{r:ι}:∀(post pre:List α),(∀x∈post,f x r*s x=g x r)->(∀ds:List α,(∀x∈ds,x∈pre\/x∈post)->D (ds.map f)*pS s ds=D' (ds.map g))->
 ig D r (pre.map f) (post.map f)*pS s (pre++post)=ig D' r (pre.map g) (post.map g)
 |[],pre,_,_=>by rw[P2,P2,ig,ig,Rat.zero_mul]
 |c::post,pre,hp,hD=>by
  have ih:=CQ (D:=D) (D':=D') (r:=r) post (pre++[c]) (fun x h=>hp x (Bn _ h)) fun ds hd=>hD ds fun x hx=>by
   rcases hd x hx with h|h
   ·rcases GM.mp h with h|h
    ·exact .inl h
    ·exact .inr (by rw[Fh.mp h];exact DD)
   ·exact .inr (Bn _ h)
  have e:=hD (pre++post) fun x hx=>(GM.mp hx).imp id (Bn _)
  have h0:=hp c DD
  rw[FV,List.cons_append,List.nil_append,Fm,Fn,P2,Fm,Fn,P2]at ih
  rw[Fm,Fm]at e
  rw[Fn,Fn,ig,ig,←ih,←e,←h0,Ib]
  grind
theorem CT{f g:α->ι->Rat}{s:α->Rat}:∀(rs:List ι) (L:List α),(∀x∈L,∀r∈rs,f x r*s x=g x r)->gP rs (L.map f)*pS s L=gP rs (L.map g)
 |[],[],_=>by rw[P2,P2,gP,pS,Rat.one_mul]
 |[],x::L,_=>by rw[Fn,Fn,gP,gP,Rat.zero_mul]
 |r::rs,L,h=>CQ (D:=gP rs) (D':=gP rs) L [] (fun x hx=>h x hx r DD) fun ds hd=>CT rs ds fun x hx r' hr=>h x ((hd x hx).elim (fun z=>nomatch z) id) r' (Bn _ hr)
theorem CU{h:α->Vc}{φ:ι->Ix}{D:List Vc->Int}{D':List (ι->Rat)->Rat}{r:ι}(hD:∀ds:List α,((D (ds.map h):Int):Rat)=D' (ds.map fun x i=>(h x (φ i):Rat))):∀(post pre:List α),((ex D (φ r) (pre.map h) (post.map h):Int):Rat)=ig D' r (pre.map fun x i=>(h x (φ i):Rat)) (post.map fun x i=>(h x (φ i):Rat))
 |[],_=>rfl
 |c::post,pre=>by
  have ih:=CU hD (r:=r) post (pre++[c])
  have e:=hD (pre++post)
  rw[Fm,Fm]at ih e
  rw[Fn,Fn,ex,ig,Rat.intCast_sub,Gc,e]
  exact TB _ ih
theorem yS{h:α->Vc}{φ:ι->Ix}:∀(rs:List ι) (L:List α),((det (rs.map φ) (L.map h):Int):Rat)=gP rs (L.map fun x i=>(h x (φ i):Rat))
 |[],[]=>rfl
 |[],_::_=>rfl
 |r::rs,L=>CU (yS rs) L []
end
noncomputable def line(N:Nat)(a:List Rat)(i:Nat):List Rat:=List.replicate i 0++a.reverse++List.replicate (N -i -a.length) 0
noncomputable def lines(a b:List Rat):List (List Rat):=((List.range (b.length -1)).map fun i=>line (a.length+b.length -2) a i)++(List.range (a.length -1)).map fun i=>line (a.length+b.length -2) b i
theorem yT{N:Nat}{a:List Rat}{i:Nat}(h:i+a.length<=N):(line N a i).length=N:=by
 unfold line
 simp
 lia
theorem CV{N:Nat}{a:List Rat}{i c:Nat}:vQ (line N a i) c=if i<=c/\c<i+a.length then cQ a (a.length -1 -(c -i))else 0:=by
 show(line N a i).getD c 0=_
 unfold line
 rw[AC,FV,List.getElem?_append,TC]
 by_cases h1:c<i
 ·rw[Bi h1,Wp,Bi h1,B1 (by lia)]
  rfl
 ·rw[B1 h1,List.getElem?_append,T1]
  by_cases h2:c -i<a.length
  ·rw[Bi h2,List.getElem?_reverse h2,Bi (by lia)]
   show _=a.getD _ 0
   rw[AC]
  ·rw[B1 h2,B1 (by lia),Wp]
   split<;>rfl
theorem wg(P:Vc):∀n,eX P n=(List.range n).map fun i=>sh (n -1 -i) P
 |0=>rfl
 |n+1=>by
  rw[eX,wg P n,List.range_succ_eq_map,Fn,Pl]
  congr 1
  exact aw fun i _=>by
   show _=sh (n+1 -1 -(i+1)) P
   rw[show n+1 -1 -(i+1)=n -1 -i by lia]
theorem yU:∀N,rws N N=(List.range N).map fun c=>(false,N -1 -c)
 |0=>rfl
 |N+1=>by
  rw[rws,yU N,List.range_succ_eq_map,Fn,Pl]
  congr 1
  exact aw fun i _=>by
   show _=(false,N+1 -1 -(i+1))
   rw[show N+1 -1 -(i+1)=N -1 -i by lia]
theorem CW{a:List Rat}{D:Int}{F:Nat->Int}(r:Ji a D F){n N i c:Nat}(hN:N=a.length -1+n)(l0:0<a.length)(hi:i<n)(hc:c<N):vQ (line N a i) c*(D:Rat)=(sh (n -1 -i) (pc F) (false,N -1 -c):Int):=by
 rw[CV]
 unfold sh pc
 show _=(((if n -1 -i<=N -1 -c then F (N -1 -c -(n -1 -i))else 0):Int):Rat)
 by_cases h:i<=c/\c<i+a.length
 ·rw[Bi h,r.eq,Bi (by lia),show a.length -1 -(c -i)=N -1 -c -(n -1 -i) by lia]
 ·rw[B1 h,Rat.zero_mul]
  by_cases h2:n -1 -i<=N -1 -c
  ·rw[Bi h2,r.zero (by lia)]
   rfl
  ·rw[B1 h2]
   rfl
theorem EM{a b:List Rat}(a0:a≠[])(b0:b≠[]):gP (List.range (a.length -1+(b.length -1))) ((lines a b).map vQ)=nX a b:=by
 have la:=Hb.mpr a0
 have lb:=Hb.mpr b0
 obtain⟨D,F,ra⟩:=dJ a
 obtain⟨E,G,rb⟩:=dJ b
 refine AW ra rb ?_
 have hN:a.length+b.length -2=a.length -1+(b.length -1):=by lia
 generalize e1:b.length -1=n at*
 generalize e2:a.length -1=m at*
 let L:List (Bool×Nat):=(List.range n).map (fun i=>(false,i))++(List.range m).map (fun i=>(true,i))
 let f:Bool×Nat->Nat->Rat:=fun x=>vQ (if x.1 then line (m+n) b x.2 else line (m+n) a x.2)
 let s:Bool×Nat->Rat:=fun x=>if x.1 then(E:Rat)else(D:Rat)
 let h:Bool×Nat->Vc:=fun x=>if x.1 then sh (m -1 -x.2) (pc G)else sh (n -1 -x.2) (pc F)
 have eL:(lines a b).map vQ=L.map f:=by
  unfold lines
  rw[hN,e1,e2,Fm,Fm,Pl,Pl,Pl,Pl]
  rfl
 have ep:pS s L=(D:Rat)^n*(E:Rat)^m:=by
  have g1:∀(l:List Nat) (r:List (Bool×Nat)),pS s (l.map (fun i=>(false,i))++r)=(D:Rat)^l.length*pS s r:=by
   intro l r
   induction l with
   |nil=>rw[P2,List.nil_append,List.length_nil,Rat.pow_zero,Rat.one_mul]
   |cons i l ih=>
    rw[Fn,List.cons_append,pS,ih,List.length_cons,Rat.pow_succ]
    show(D:Rat)*_=_
    grind
  have g2:∀(l:List Nat),pS s (l.map (fun i=>(true,i)))=(E:Rat)^l.length:=by
   intro l
   induction l with
   |nil=>rw[P2,List.length_nil,Rat.pow_zero,pS]
   |cons i l ih=>
    rw[Fn,pS,ih,List.length_cons,Rat.pow_succ]
    show(E:Rat)*_=_
    grind
  show pS s (_++_)=_
  rw[g1,g2,He,He]
 have eS:jf F G m n=det ((List.range (m+n)).map fun c=>(false,m+n -1 -c)) (L.map h):=by
  unfold jf
  rw[yU,wg,wg]
  show _=det _ (List.map h (_++_))
  rw[Fm,Pl,Pl]
  rfl
 rw[eL,←ep,CT (g:=fun x c=>(h x (false,m+n -1 -c):Rat)) _ _ fun x hx c hc=>?_,eS,yS]
 have hc:=Ki.mp hc
 rcases GM.mp hx with hx|hx
 ·obtain⟨i,hi,rfl⟩:=Iy.mp hx
  exact CW ra (by lia) la (Ki.mp hi) hc
 ·obtain⟨i,hi,rfl⟩:=Iy.mp hx
  exact CW rb (by lia) lb (Ki.mp hi) hc
end Num
namespace VL
open PySem PySem.Spec
open PyProof.Rows hiding St
open L2 Num
noncomputable def bw(xs:List (List Rat)):W:=.lst (xs.map aq)
noncomputable def mL:List CS:=[.set 2 (.lst []),.set 3 (.bin .Sub (.bin .Add (.blt .len [(.var 0)]) (.blt .len [(.var 1)])) (.int 2)),.fr [4,5] false (.lst [(.tup [(.var 0),(.bin .Sub (.blt .len [(.var 1)]) (.int 1))]),(.tup [(.var 1),(.bin .Sub (.blt .len [(.var 0)]) (.int 1))])]) [.fr [6] true (.jn [(.var 5)]) [.app 2 (.bin .Add (.bin .Add (.bin .Mult (.lst [(.tup [(.int 0),(.int 1)])]) (.var 6)) (.rev (.var 4))) (.bin .Mult (.lst [(.tup [(.int 0),(.int 1)])]) (.bin .Sub (.bin .Sub (.var 3) (.var 6)) (.blt .len [(.var 4)]))))]],.ret (.var 2)]
noncomputable def wj:bT:=fun ws Q _=>∃a b:List Rat,ws=[aq a,aq b]/\a≠[]/\b≠[]/\a.length<=9/\b.length<=9/\Q (bw (lines a b))
theorem RT(N:Nat)(r:List Rat)(i:Nat):List.replicate i (wq 0)++(r.map wq).reverse++List.replicate (N -i -r.length) (wq 0)=(line N r i).map wq:=by
 unfold line
 rw[Fm,Fm,List.map_replicate,List.map_replicate,List.map_reverse]
theorem Ic{n:Nat}(h:n<=1000): -(2^62)<=(n:Int)/\(n:Int)<2^62:=⟨by lia,by lia⟩
theorem yV{Φ:Nat->bT}{G:Nat->W}{D:Dn}{w0 w1:W}{r:List Rat}{n N:Nat}{acc:List (List Rat)}{o6:Option W}(hn:n<=20)(hN:N<=20)(hr:r.length<=9)(ha:acc.length<=20)
 (h:∀o6,D.nx [some w0,some w1,some (bw (acc++(List.range n).map (line N r))),some (.int N),some (aq r),some (.int n),o6]):
 wSs Φ G [.fr [6] true (.jn [(.var 5)]) [.app 2 (.bin .Add (.bin .Add (.bin .Mult (.lst [(.tup [(.int 0),(.int 1)])]) (.var 6)) (.rev (.var 4))) (.bin .Mult (.lst [(.tup [(.int 0),(.int 1)])]) (.bin .Sub (.bin .Sub (.var 3) (.var 6)) (.blt .len [(.var 4)]))))]] D [some w0,some w1,some (bw acc),some (.int N),some (aq r),some (.int n),o6]:=by
 walk_at "vs"
 refine⟨(Ic (by lia)).1,(Ic (by lia)).2,?_⟩
 refine bJ (fun i ε=>i<=n/\∃o6,ε=[some w0,some w1,some (bw (acc++(List.range i).map (line N r))),some (.int N),some (aq r),some (.int n),o6]) ⟨NM _,o6,by rw[List.range_zero,P2,L9]⟩ ?_ ?_
 ·rintro i w _ N2 hw ⟨_,o,rfl⟩ AJ
  obtain⟨hi,rfl⟩:=iU hw
  have hi:i<n:=by simpa using hi
  have nx:=AJ [some w0,some w1,some (bw (acc++(List.range (i+1)).map (line N r))),some (.int N),some (aq r),some (.int n),some (.int i)] ⟨hi,_,rfl⟩
  rw[List.range_succ,Fm,←FV]at nx
  have e:=RT N r i
  unfold bw at nx⊢
  unfold aq
  walk_at "vs"
  rw[Ap]
  have t1:((i:Int)).toNat=i:=Int.toNat_natCast i
  have t2:((N:Int) -(i:Int) -(r.length:Int)).toNat=N -i -r.length:=by lia
  refine⟨af (by simp),af (by simp),by lia,by lia,af (by rw[t1,List.length_singleton];lia),?_,af (by simp),af (by simp),by lia,by lia,af (by rw[t2,List.length_singleton];lia),?_,vC (by rw[Ap,Ee,Ap,He];lia),?_⟩
  ·rw[t1,cN]
   exact af (by rw[TC,T1,Ap];lia)
  ·rw[t1,t2,cN,cN]
   exact af (by rw[Ee,TC,TC,T1,Ap];lia)
  ·rw[t1,t2,cN,cN,Ci,e]
   rw[Fm,Fn,P2]at nx
   exact nx
 ·rintro _ ⟨_,o,rfl⟩
  rw[jX]
  exact h o
theorem LO{Φ:Nat->bT}{G:Nat->W}{m:Md}(ws:List W)(Q:W->Prop)(R:Addr->Prop)(h:wj ws Q R):wSs Φ G mL (cj m Q R) (aA 7 ws):=by
 obtain⟨a,b,rfl,a0,b0,la,lb,hq⟩:=h
 have pa:=Hb.mpr a0
 have pb:=Hb.mpr b0
 show wSs _ _ mL _ [some (aq a),some (aq b),none,none,none,none,none]
 unfold mL
 refine aW (fun ε'=>ε'=[some (aq a),some (aq b),some (bw []),none,none,none,none]) (fun N hN=>?_) ?_
 ·walk_at "vs"
  exact⟨af (by simp),hN _ rfl⟩
 rintro _ rfl
 refine aW (fun ε'=>ε'=[some (aq a),some (aq b),some (bw []),some (.int (a.length+b.length -2:Nat)),none,none,none]) (fun N hN=>?_) ?_
 ·unfold aq at hN⊢
  walk_at "vs"
  rw[Ap,Ap,show(a.length:Int)+(b.length:Int) -2=((a.length+b.length -2:Nat):Int) by lia]
  exact hN _ rfl
 rintro _ rfl
 refine aW (fun ε'=>∃o4 o5 o6,ε'=[some (aq a),some (aq b),some (bw (lines a b)),some (.int (a.length+b.length -2:Nat)),o4,o5,o6]) (fun N hN=>?_) ?_
 ·rw[show aq a=W.lst (a.map wq)from rfl,show aq b=W.lst (b.map wq)from rfl]
  walk_at "vs"
  refine⟨af (by simp),af (by simp),af (by simp),?_⟩
  rw[Ap,Ap,show(b.length:Int) -1=((b.length -1:Nat):Int) by lia,show(a.length:Int) -1=((a.length -1:Nat):Int) by lia]
  rw[j4]
  refine⟨rfl,?_⟩
  refine yV (Φ:=Φ) (G:=G) (r:=a) (n:=b.length -1) (acc:=[]) (by lia) (by lia) (by lia) (by simp) fun o6=>?_
  dsimp only
  rw[j4]
  refine⟨rfl,?_⟩
  refine yV (Φ:=Φ) (G:=G) (r:=b) (n:=a.length -1) (by lia) (by lia) (by lia) (by simp;lia) fun o6=>?_
  dsimp only
  rw[j4]
  exact hN _ ⟨_,_,_,rfl⟩
 rintro _ ⟨o4,o5,o6,rfl⟩
 walk_at "vs"
 exact hq
theorem wk{xs:List (List Rat)}{k:Nat}(h:k<xs.length):kP (xs.map aq) (k:Int)=some (aq (xs.getD k [])):=by
 refine bF ?_
 rw[FS,AC,BM h]
 rfl
theorem rowAt{x:List Rat}{c:Nat}(h:c<x.length):kP (x.map wq) (c:Int)=some (wq (x.getD c 0)):=bF (vH h)
theorem rj{α:Type}{f:W->(Option W->Prop)->Prop}{h g:α->W}{p:α->Bool}:∀(ws:List α) (acc:List W) (Q:List W->Prop),(∀x∈ws,∀K:Option W->Prop,K (if p x=true then some (g x)else none)->f (h x) K)->acc.length+ws.length<=sizeLine->Q (acc++(ws.filter p).map g)->kW f (ws.map h) acc Q
 |[],acc,Q,_,_,q=>by
  rw[P2,kW]
  simpa using q
 |w::ws,acc,Q,hh,l,q=>by
  rw[Fn,kW]
  rw[List.length_cons]at l
  refine hh w (DD ..) _ ?_
  rw[List.filter_cons]at q
  by_cases hp:p w=true
  ·rw[Bi hp]at q⊢
   refine⟨by lia,rj ws _ Q (fun x hx=>hh x (Bn _ hx)) ?_ ?_⟩
   ·rw[Ee,List.length_singleton]
    lia
   ·rw[FV]
    exact q
  ·rw[B1 hp]at q⊢
   exact rj ws acc Q (fun x hx=>hh x (Bn _ hx)) (by lia) q
noncomputable def yW:List CS:=[.set 1 (.tup [(.int 1),(.int 1)]),.fr [2] true (.jn [(.blt .len [(.var 0)])]) [.set 3 (.comp [0] true 1 (.jn [(.var 2),(.blt .len [(.var 0)])]) (.cmp .NotEq (.ix (.ix (.ix (.var 1) (.var 0)) (.var 3)) (.int 0)) (.int 0)) (.var 0)),.iff (.cmp .Eq (.var 3) (.lst [])) [.Jc (.tup [(.int 0),(.int 1)])] [],.iff (.cmp .NotEq (.ix (.var 3) (.int 0)) (.var 2)) [.set 4 (.ix (.var 0) (.var 2)),.put 0 (.var 2) (.ix (.var 0) (.ix (.var 3) (.int 0))),.put 0 (.ix (.var 3) (.int 0)) (.var 4),.set 1 (.tup [(.bin .Sub (.int 0) (.ix (.var 1) (.int 0))),(.ix (.var 1) (.int 1))])] [],.set 5 (.ix (.ix (.var 0) (.var 2)) (.var 2)),.set 1 (.call 0 [(.var 1),(.var 5)]),.fr [6] true (.jn [(.bin .Add (.var 2) (.int 1)),(.blt .len [(.var 0)])]) [.set 7 (.call 0 [(.ix (.ix (.var 0) (.var 6)) (.var 2)),(.call 1 [(.bin .Sub (.int 0) (.ix (.var 5) (.int 1))),(.ix (.var 5) (.int 0))])]),.put 0 (.var 6) (.comp [0] true 1 (.jn [(.blt .len [(.var 0)])]) (.bl true) (.call 2 [(.ix (.ix (.var 1) (.var 7)) (.var 0)),(.call 0 [(.var 8),(.ix (.ix (.var 1) (.var 3)) (.var 0))])]))]],.Jc (.var 1)]
noncomputable def LP(os:List (List Rat))(n N:Nat):Prop:=os.length=n/\(∀x∈os,x.length=n)/\n<=8/\∃(w kb:Nat) (d:List Rat->Int),(∀o∈os,d o≠0/\(d o).natAbs<=2^kb/\IR (2^w) (vQ o,d o))/\(w+3+kb)*n+1<=N/\N<=1900
noncomputable def LQ:bT:=fun ws Q _=>∃(os:List (List Rat)) (n N:Nat),ws=[bw os]/\LP os n N/\∀y,Q (.tup [wq (gP (List.range n) (os.map vQ)),y])
theorem LP.bd{os:List (List Rat)}{n N k:Nat}{xs:List (List Rat)}{f:Rat}(b:LP os n N)(h:El os n k xs f)(hk:k<n):(∀i c,k<=i->i<n->Bd N (vQ (xs.getD i []) c))/\Bd N f:=by
 obtain⟨_,_,n8,w,kb,d,hd,hN,_⟩:=b
 obtain⟨h1,h2⟩:=h.bd (by lia) n8 d hd
 exact⟨fun i c hi hin=>Na (h1 i c hi hin) hN,Na h2 hN⟩
theorem Ie{Φ:Nat->bT}{G:Nat->W}{D:Dn}{xs:List (List Rat)}{n i:Nat}{w1:W}{o3 o4 o5 o6 o7:Option W}(xl:xs.length=n)(rl:∀x∈xs,x.length=n)(n8:n<=8)(hi:i<n)
 (h:∀l:List Nat,(l=[]->∀j,i<=j->j<n->vQ (xs.getD j []) i=0)->(∀p l',l=p::l'->i<=p/\p<n/\vQ (xs.getD p []) i≠0)->D.nx [some (bw xs),some w1,some (.int i),some (.lst (l.map fun j=>.int (j:Nat))),o4,o5,o6,o7]):
 wS Φ G (.set 3 (.comp [0] true 1 (.jn [(.var 2),(.blt .len [(.var 0)])]) (.cmp .NotEq (.ix (.ix (.ix (.var 1) (.var 0)) (.var 3)) (.int 0)) (.int 0)) (.var 0))) D [some (bw xs),some w1,some (.int i),o3,o4,o5,o6,o7]:=by
 unfold bw at h⊢
 walk_at "vs"
 rw[Ap,xl]
 refine⟨⟨by lia,by lia,by lia,by lia⟩,?_⟩
 unfold eU
 rw[show((n:Int) -(i:Int)).toNat=n -i by lia]
 refine rj (p:=fun j=>!decide ((vQ (xs.getD (i+j) []) i).num=0)) (g:=fun j=>.int ((i+j:Nat):Int)) _ _ _ (fun j hj K hK=>?_) (af (by simp;lia)) ?_
 ·have hj:=Ki.mp hj
  have lt:i+j<xs.length:=by lia
  have lr:(xs.getD (i+j) []).length=n:=by
   refine rl _ ?_
   rw[AC,BM lt]
   exact On lt
  rw[show(i:Int)+(j:Int)*1=((i+j:Nat):Int) by lia]
  refine⟨_,wk lt,?_⟩
  unfold aq
  walk_at "vs"
  refine⟨_,rowAt (by lia),?_⟩
  unfold wq
  walk_at "vs"
  refine⟨_,rfl,?_⟩
  walk_at "vs"
  show if(!decide ((vQ (xs.getD (i+j) []) i).num=0))=true then _ else _
  by_cases hz:(!decide ((vQ (xs.getD (i+j) []) i).num=0))=true
  ·rw[Bi hz]at hK⊢
   exact hK
  ·rw[B1 hz]at hK⊢
   exact hK
 ·have e:[]++List.map (fun j=>W.int ((i+j:Nat):Int)) ((List.range (n -i)).filter fun j=>!decide ((vQ (xs.getD (i+j) []) i).num=0))=(((List.range (n -i)).filter fun j=>!decide ((vQ (xs.getD (i+j) []) i).num=0)).map (i+·)).map fun j=>W.int (j:Nat):=by
   rw[Pl,List.nil_append]
   rfl
  rw[e]
  refine h _ (fun e0 j hij hjn=>?_) (fun p l' e0=>?_)
  ·have e1:=List.map_eq_nil_iff.mp e0
   have:=(List.filter_eq_nil_iff.mp e1) (j -i) (Ki.mpr (by lia))
   rw[show i+(j -i)=j by lia]at this
   exact Decidable.byContradiction fun z=>this (by rw[P3 fun e=>z (Rat.num_eq_zero.mp e)];rfl)
  ·have hm:p∈(((List.range (n -i)).filter fun j=>!decide ((vQ (xs.getD (i+j) []) i).num=0)).map (i+·)):=by rw[e0];exact DD
   obtain⟨j,hj,rfl⟩:=Iy.mp hm
   obtain⟨h1,h2⟩:=dC.mp hj
   have:=Ki.mp h1
   refine⟨by lia,by lia,fun z=>?_⟩
   rw[z]at h2
   simp at h2
theorem mem_of{xs:List (List Rat)}{k:Nat}(h:k<xs.length):xs.getD k []∈xs:=by
 rw[AC,BM h]
 exact On h
theorem VQ(h:Rat):Rat.divInt (0 -(h.den:Int)) h.num= -h⁻¹:=by
 rw[Rat.inv_def,Rat.neg_divInt,Int.zero_sub]
theorem Wy{x:List Rat}{c:Nat}{Q:W->Prop}(h:c<x.length)(q:Q (wq (vQ x c))):Ge (aq x) (.int c) Q:=⟨_,rowAt h,q⟩
theorem LR{xs:List (List Rat)}{k:Nat}{Q:W->Prop}(h:k<xs.length)(q:Q (aq (xs.getD k []))):Ge (bw xs) (.int k) Q:=⟨_,wk h,q⟩
theorem RU{r:Rat}{Q:W->Prop}(q:Q (.int r.num)):Ge (wq r) (.int 0) Q:=⟨_,rfl,q⟩
theorem VR{r:Rat}{Q:W->Prop}(q:Q (.int r.den)):Ge (wq r) (.int 1) Q:=⟨_,rfl,q⟩
noncomputable def RV(n:Nat)(x y:List Rat)(s:Rat):List Rat:=(List.range n).map fun j=>vQ x j+s*vQ y j
theorem Ig{n:Nat}{x y:List Rat}{s:Rat}(hx:x.length=n)(hy:y.length=n)(c:Nat):vQ (RV n x y s) c=vQ x c+s*vQ y c:=by
 show(RV n x y s).getD c 0=_
 unfold RV
 rw[AC,FS]
 by_cases h:c<n
 ·rw[SC h]
  rfl
 ·rw[FK (by rw[He];lia)]
  show 0=x.getD c 0+s*y.getD c 0
  rw[AC,AC,FK (by lia),FK (by lia)]
  show(0:Rat)=0+s*0
  grind
structure Tn(xs xs':List (List Rat))(n i t:Nat):Prop where
 xl:xs'.length=n
 rl:∀x∈xs',x.length=n
 same:∀m,m<=i\/i+1+t<=m->xs'.getD m []=xs.getD m []
 el:∀m,i<m->m<i+1+t->vQ (xs'.getD m []) i=0/\∃s:Rat,∀c,vQ (xs'.getD m []) c=vQ (xs.getD m []) c+s*vQ (xs.getD i []) c
theorem Tn.step{xs xs':List (List Rat)}{n i t:Nat}(h:Tn xs xs' n i t)(hk:i+1+t<n)(xl:xs.length=n)(rl:∀x∈xs,x.length=n)(h0:vQ (xs.getD i []) i≠0):
 Tn xs (xs'.set (i+1+t) (RV n (xs'.getD (i+1+t) []) (xs'.getD i []) (vQ (xs'.getD (i+1+t) []) i* -(vQ (xs.getD i []) i)⁻¹))) n i (t+1):=by
 have e1:=h.same i (.inl (Do _))
 have e2:=h.same (i+1+t) (.inr (Do _))
 rw[e1,e2]
 have l1:=rl _ (mem_of (k:=i) (by lia))
 have l2:=rl _ (mem_of (k:=i+1+t) (by lia))
 have gs:∀(m:Nat) (y:List Rat),(xs'.set (i+1+t) y).getD m []=if i+1+t=m then y else xs'.getD m []:=fun m y=>by
  rw[AC,Ya,h.xl]
  by_cases e:i+1+t=m
  ·rw[Bi e,Bi hk,Bi e]
   rfl
  ·rw[B1 e,B1 e,AC]
 refine⟨by rw[NA];exact h.xl,fun x hx=>?_,fun m hm=>?_,fun m hm1 hm2=>?_⟩
 ·rcases List.mem_or_eq_of_mem_set hx with hx|hx
  ·exact h.rl x hx
  ·rw[hx]
   unfold RV
   rw[Ap,He]
 ·rw[gs,B1 (by lia)]
  exact h.same m (by lia)
 ·rw[gs]
  by_cases e:i+1+t=m
  ·rw[Bi e]
   refine⟨?_,vQ (xs.getD (i+1+t) []) i* -(vQ (xs.getD i []) i)⁻¹,fun c=>?_⟩
   ·rw[Ig l2 l1]
    generalize vQ (xs.getD i []) i=z at*
    have:z⁻¹*z=1:=Rat.inv_mul_cancel z h0
    grind
   ·rw[Ig l2 l1,←e]
  ·rw[B1 e]
   exact h.el m hm1 (by lia)
theorem RW{G:Nat->W}{D:Dn}{xs:List (List Rat)}{n i N:Nat}{w1:W}{o3 o4 o6 o7:Option W}(xl:xs.length=n)(rl:∀x∈xs,x.length=n)(n8:n<=8)(hi:i<n)(hN:N<=1900)(hb:∀m c,i<=m->m<n->Bd N (vQ (xs.getD m []) c))(h0:vQ (xs.getD i []) i≠0)
 (h:∀xs' o6 o7,Tn xs xs' n i (n -(i+1))->D.nx [some (bw xs'),some w1,some (.int i),o3,o4,some (wq (vQ (xs.getD i []) i)),o6,o7]):
 wS (cu [oV HMul.hMul,gB,oV HAdd.hAdd]) G (.fr [6] true (.jn [(.bin .Add (.var 2) (.int 1)),(.blt .len [(.var 0)])]) [.set 7 (.call 0 [(.ix (.ix (.var 0) (.var 6)) (.var 2)),(.call 1 [(.bin .Sub (.int 0) (.ix (.var 5) (.int 1))),(.ix (.var 5) (.int 0))])]),.put 0 (.var 6) (.comp [0] true 1 (.jn [(.blt .len [(.var 0)])]) (.bl true) (.call 2 [(.ix (.ix (.var 1) (.var 7)) (.var 0)),(.call 0 [(.var 8),(.ix (.ix (.var 1) (.var 3)) (.var 0))])]))]) D
  [some (bw xs),some w1,some (.int i),o3,o4,some (wq (vQ (xs.getD i []) i)),o6,o7]:=by
 have hbi:=hb i i (Do _) hi
 generalize eh:vQ (xs.getD i []) i=hd at*
 have hn0:hd.num≠0:=fun z=>h0 (Rat.num_eq_zero.mp z)
 have bI:Bd N (-hd⁻¹):=HX (Rj hbi hn0)
 rw[show bw xs=W.lst (xs.map aq)from rfl]
 walk_at "vs"
 rw[Ap,xl]
 refine⟨⟨by lia,by lia,by lia,by lia⟩,?_⟩
 rw[show((n:Int) -((i:Int)+1)).toNat=n -(i+1) by lia]
 refine bJ (fun t ε=>∃xs' o6 o7,Tn xs xs' n i t/\ε=[some (bw xs'),some w1,some (.int i),o3,o4,some (wq hd),o6,o7]) ⟨xs,o6,o7,⟨xl,rl,fun _ _=>rfl,fun m h1 h2=>by lia⟩,rfl⟩ ?_ ?_
 ·rintro t w _ N2 hw ⟨xs',o6,o7,T,rfl⟩ AJ
  unfold eU at hw
  rw[FS]at hw
  obtain⟨t',ht,rfl⟩:=OK.mp hw
  have Z7:=(Fs.mp ht).1
  rw[He]at Z7
  rw[SC Z7]at ht
  cases ht
  rw[show(i:Int)+1+(t:Int)*1=((i+1+t:Nat):Int) by lia]
  have S:=T.step (by lia) xl rl (by rw[eh];exact h0)
  rw[eh]at S
  have e1:=T.same i (.inl (Do _))
  have e2:=T.same (i+1+t) (.inr (Do _))
  have b1:∀c,Bd N (vQ (xs'.getD i []) c):=fun c=>by rw[e1];exact hb i c (Do _) hi
  have b2:∀c,Bd N (vQ (xs'.getD (i+1+t) []) c):=fun c=>by rw[e2];exact hb _ c (by lia) (by lia)
  have l1:=T.rl _ (mem_of (xs:=xs') (k:=i) (by rw[T.xl];exact hi))
  have l2:=T.rl _ (mem_of (xs:=xs') (k:=i+1+t) (by rw[T.xl];lia))
  have x1:=T.xl
  have nx:=fun o7=>AJ _ ⟨_,some (.int ((i+1+t:Nat):Int)),o7,S,rfl⟩
  have bs:Bd (N+N) (vQ (xs'.getD (i+1+t) []) i* -hd⁻¹):=AB (b2 i) bI
  walk_at "vs"
  refine LR (by lia) (Wy (by lia) (VR (RU ⟨_,_,N,rfl,by lia,hn0,hbi.1,?_⟩)))
  rw[VQ]
  refine⟨_,_,N,N,rfl,b2 i,bI,by lia,?_⟩
  have nx:=nx (some (wq (vQ (xs'.getD (i+1+t) []) i* -hd⁻¹)))
  generalize vQ (xs'.getD (i+1+t) []) i* -hd⁻¹=sh at*
  rw[show bw xs'=W.lst (xs'.map aq)from rfl]
  walk_at "vs"
  rw[Ap,x1]
  refine⟨by lia,by lia,?_⟩
  unfold eU
  rw[Int.toNat_natCast]
  refine gf (g:=fun j=>wq (vQ (xs'.getD (i+1+t) []) j+sh*vQ (xs'.getD i []) j)) _ _ _ (fun j hj K hK=>?_) (af (by simp;lia)) ?_
  ·have hj:=Ki.mp hj
   rw[show(0:Int)+(j:Int)*1=(j:Int) by lia]
   refine LR (xs:=xs') (by lia) (Wy (by lia) (LR (xs:=xs') (by lia) (Wy (by lia) ?_)))
   refine⟨_,_,N+N,N,rfl,bs,b1 j,by lia,?_⟩
   exact⟨_,_,N,N+N+N,rfl,b2 j,AB bs (b1 j),by lia,hK⟩
  ·refine⟨i+1+t,iV (by lia),?_⟩
   have er:W.lst ([]++List.map (fun j=>wq (vQ (xs'.getD (i+1+t) []) j+sh*vQ (xs'.getD i []) j)) (List.range n))=aq (RV n (xs'.getD (i+1+t) []) (xs'.getD i []) sh):=by
    unfold aq RV
    rw[Pl,List.nil_append]
    rfl
   rw[er,←cx]
   exact nx
 ·rintro _ ⟨xs',o6,o7,T,rfl⟩
  rw[show(eU ((i:Int)+1) 1 (n -(i+1))).length=n -(i+1) by unfold eU;simp]at T
  exact h _ _ _ T
theorem Ih(l:List Nat):dS 9 (.lst (l.map fun j=>W.int (j:Nat)))=true:=by
 rw[dS,KB]
 intro x hx
 obtain⟨r,_,rfl⟩:=Iy.mp hx
 exact pM _ _
theorem LS{l:List Nat}{Q:W->Prop}(h:∀k:Bool,(k=true↔l=[])->Q (.bl k)):eT .Eq (.lst (l.map fun j=>W.int (j:Nat))) (.lst []) Q:=
 ⟨.inl ⟨Ih l,rfl⟩,fun k hk=>h k (hk.trans ⟨fun e=>by rw[W.lst.injEq]at e;exact List.map_eq_nil_iff.mp e,fun e=>by rw[e];rfl⟩)⟩
theorem Ii(w:W)(l:List W):kP (w::l) 0=some w:=bF (k:=0) rfl
theorem wqN(f:Rat):W.tup [.int (0 -f.num),.int f.den]=wq (-f):=by
 unfold wq
 rw[Rat.neg_num,Rat.neg_den,Int.zero_sub]
theorem Ij{Φ:Nat->bT}{G:Nat->W}{D:Dn}{ε:Ev}{i n:Nat}{e:CE}{b:List CS}(hn:n<=1000)(he:∀Q:W->Prop,Q (.int n)->wE Φ G (fun _=>False) e ε Q)(h:j4 (fun w D' ε'=>wSs Φ G b D' (ε'.set i (some w))) D (eU 0 1 n) ε):wS Φ G (.fr [i] true (.jn [e]) b) D ε:=he _ ⟨by lia,by lia,h⟩
theorem VU{G:Nat->W}{m:Md}(ws:List W)(Q:W->Prop)(R:Addr->Prop)(h:LQ ws Q R):wSs (cu [oV HMul.hMul,gB,oV HAdd.hAdd]) G yW (cj m Q R) (aA 8 ws):=by
 obtain⟨os,n,N,rfl,db,hq⟩:=h
 obtain⟨ol,rl,n8,_⟩:=id db
 have hN:N<=1900:=by obtain⟨_,_,_,_,_,_,_,_,h⟩:=db;exact h
 show wSs _ _ yW _ [some (bw os),none,none,none,none,none,none,none]
 unfold yW
 refine aW (fun ε'=>ε'=[some (bw os),some (wq 1),none,none,none,none,none,none]) (fun N hN=>?_) ?_
 ·walk_at "vs"
  exact⟨af (by simp),hN _ rfl⟩
 rintro _ rfl
 refine aW (fun ε'=>∃xs f o2 o3 o4 o5 o6 o7,El os n n xs f/\ε'=[some (bw xs),some (wq f),o2,o3,o4,o5,o6,o7]) (fun N' hN'=>?_) ?_
 ·refine Ij (n:=n) (by lia) (fun Q q=>?_) ?_
  ·unfold bw
   walk_at "vs"
   rw[Ap,ol]
   exact q
  refine bJ (fun i ε=>∃xs f o2 o3 o4 o5 o6 o7,El os n i xs f/\ε=[some (bw xs),some (wq f),o2,o3,o4,o5,o6,o7]) ⟨os,1,_,_,_,_,_,_,.start ol rl,rfl⟩ ?_ ?_
  ·rintro i w _ N2 hw ⟨xs,f,o2,o3,o4,o5,o6,o7,E,rfl⟩ AJ
   obtain⟨hi,rfl⟩:=iU hw
   dsimp only[List.set]
   refine aW (fun ε'=>∃l:List Nat,((l=[]->∀j,i<=j->j<n->vQ (xs.getD j []) i=0)/\∀p l',l=p::l'->i<=p/\p<n/\vQ (xs.getD p []) i≠0)/\ε'=[some (bw xs),some (wq f),some (.int i),some (.lst (l.map fun j=>.int (j:Nat))),o4,o5,o6,o7]) (fun N3 Jj=>?_) ?_
   ·exact Ie E.xl E.rl n8 hi fun l h1 h2=>Jj _ ⟨l,⟨h1,h2⟩,rfl⟩
   rintro _ ⟨l,⟨h1,h2⟩,rfl⟩
   refine aW (fun ε'=>l≠[]/\ε'=[some (bw xs),some (wq f),some (.int i),some (.lst (l.map fun j=>.int (j:Nat))),o4,o5,o6,o7]) (fun N3 Jj=>?_) ?_
   ·walk_at "vs"
    refine⟨af (by simp),LS fun k hk=>?_⟩
    by_cases l0:l=[]
    ·cases di hk l0
     walk_at "vs"
     refine⟨af (by simp),?_⟩
     have:=hq (bw xs)
     rw[E.none hi (h1 l0)]at this
     exact this
    ·cases bY hk l0
     exact Jj _ ⟨l0,rfl⟩
   rintro _ ⟨l0,rfl⟩
   obtain⟨p,l',rfl⟩:=List.exists_cons_of_ne_nil l0
   obtain⟨ip,pn,pz⟩:=h2 p l' rfl
   clear h1 h2 l0
   refine aW (fun ε'=>∃xs f o3 o4,(El os n i xs f/\vQ (xs.getD i []) i≠0)/\ε'=[some (bw xs),some (wq f),some (.int i),o3,o4,o5,o6,o7]) (fun N3 Jj=>?_) ?_
   ·rw[show bw xs=W.lst (xs.map aq)from rfl]
    walk_at "vs"
    refine⟨_,Ii _ _,?_⟩
    walk_at "vs"
    by_cases e:p=i
    ·rw[B1 (by simp[e])]
     rw[e]at pz
     exact Jj _ ⟨xs,f,_,_,⟨E,pz⟩,rfl⟩
    ·rw[Bi (by simp;lia)]
     have xl:=E.xl
     refine⟨_,wk (by lia),?_⟩
     walk_at "vs"
     refine⟨_,Ii _ _,?_⟩
     walk_at "vs"
     refine⟨_,wk (by lia),i,iV (by rw[Ap];lia),_,Ii _ _,?_⟩
     walk_at "vs"
     refine⟨p,iV (by rw[NA,Ap];lia),RU (VR ⟨af (by simp),?_⟩)⟩
     rw[wqN,←cx,←cx]
     refine Jj _ ⟨Ia xs i p,-f,_,_,⟨E.swap (by lia) pn,?_⟩,rfl⟩
     rw[we (by lia) (by lia),B1 (by lia),Bi rfl]
     exact pz
   clear pz pn ip hw E xs f
   rintro _ ⟨xs,f,o3,o4,⟨E,pz⟩,rfl⟩
   have xl:=E.xl
   have li:=E.rl _ (mem_of (xs:=xs) (k:=i) (by lia))
   obtain⟨b1,b2⟩:=db.bd E hi
   refine aW (fun ε'=>ε'=[some (bw xs),some (wq f),some (.int i),o3,o4,some (wq (vQ (xs.getD i []) i)),o6,o7]) (fun N3 Jj=>?_) ?_
   ·walk_at "vs"
    exact LR (by lia) (Wy (by lia) (Jj _ rfl))
   rintro _ rfl
   refine aW (fun ε'=>ε'=[some (bw xs),some (wq (f*vQ (xs.getD i []) i)),some (.int i),o3,o4,some (wq (vQ (xs.getD i []) i)),o6,o7]) (fun N3 Jj=>?_) ?_
   ·walk_at "vs"
    exact⟨_,_,N,N,rfl,b2,b1 i i (Do _) hi,by lia,Jj _ rfl⟩
   rintro _ rfl
   refine RW xl E.rl n8 hi hN b1 pz fun xs' o6 o7 T=>AJ _ ⟨xs',_,_,_,_,_,_,_,E.elim hi pz T.xl T.rl fun j h1 h2=>T.el j h1 (by lia),rfl⟩
  ·rintro _ ⟨xs,f,o2,o3,o4,o5,o6,o7,E,rfl⟩
   rw[jX]at E
   exact hN' _ ⟨xs,f,_,_,_,_,_,_,E,rfl⟩
 rintro _ ⟨xs,f,o2,o3,o4,o5,o6,o7,E,rfl⟩
 walk_at "vs"
 have:=hq (bw xs)
 rw[←E.fin]at this
 exact this
noncomputable def wv(t p:Int):List Int->Int
 |[]=>0
 |c::l=>wv t p l*t+c*p^l.length
theorem Rw.bd{l n k:Nat}{a:List Rat}(h:Rw l n k a)(hk:k<=n):∀x∈a,Bd n x:=by
 obtain⟨_,_,D,d0,dk,c⟩:=h
 exact fun x hx=>(c x hx).bd (by lia) (gO dk hk)
section
variable{a b:List Rat}{l1 l2 n1 n2 n k1 k2 k E q:Nat}{Q:W->Prop}{R:Addr->Prop}
end
theorem LU{a b:List Rat}(ha:cA a)(a0:a≠[])(hb:cA b)(b0:b≠[]):cO (mulQ a b)≠[]:=fun z=>by
 have:=LM ha a0 hb b0
 have:=Hb.mpr a0
 have:=Hb.mpr b0
 rw[z]at*
 simp at*
 lia
theorem LV{a s:Int}{n i:Nat}{w:W}(h:(eU a s n)[i]?=some w):∃z:Int,w=.int z:=by
 unfold eU at h
 rw[FS]at h
 obtain⟨j,_,rfl⟩:=OK.mp h
 exact⟨_,rfl⟩
theorem Yp{xs:List Int}(h:(xs.length:Int)=8):∃a b c d e f g i,xs=[a,b,c,d,e,f,g,i]:=by
 rcases xs with _|⟨a,_|⟨b,_|⟨c,_|⟨d,_|⟨e,_|⟨f,_|⟨g,_|⟨i,_|⟨j,l⟩⟩⟩⟩⟩⟩⟩⟩⟩<;>simp at h
 ·exact⟨_,_,_,_,_,_,_,_,rfl⟩
 ·lia
theorem RX{z:Int}(h:0<=z/\z<9):wq ((1+z:Int):Rat)=.tup [.int (1+z),.int 1]/\Rw 4 13 3 [((1+z:Int):Rat)]:=by
 refine⟨rfl,show(1:Nat)<=4 by decide,fun y hy=>?_,1,by decide,by decide,fun y hy=>?_⟩
 ·have:y=((1+z:Int):Rat):=by cases hy;rfl
  rw[this]
  exact mF (by lia)
 ·rw[Fh.mp hy]
  exact⟨1+z,Rat.mul_one _,by lia⟩
theorem rw5{k:Int}{rs:List Rat}(hk:k=0\/k=1\/k=2)(hl:rs.length<=5)(h:∀x∈rs,qN k x)(hz:cA rs):Rw 5 101 101 rs:=by
 by_cases e:k=2
 ·subst e
  have hb:∀x∈rs,Bd 20 x:=fun x hx=>HM (h x hx)
  exact⟨hl,hz,qM rs,yq rs,gO (Cg rs hb) (by lia),fun x hx=>(yJ hb x hx).up (by lia)⟩
 ·exact(rw_draw (hk.elim .inl fun z=>.inr (z.resolve_right e)) hl h hz).up (by decide) (by decide) (by decide)
theorem VV{a b:List Rat}{l1 l2 n1 n2 k1 k2:Nat}{Q:W->Prop}{R:Addr->Prop}(ha:Rw l1 n1 k1 a)(hb:Rw l2 n2 k2 b)(h:k1<=n1/\k2<=n2/\n1+n2+5+(n1+n2)<=8000/\l1<=30/\l2<=100)(q:Q (aq (cO (mulQ a b)))):eW [aq a,aq b] Q R:=by
 have b1:=ha.bd h.1
 have b2:=hb.bd h.2.1
 obtain⟨a1,a2,D1,p1,q1,c1⟩:=ha
 obtain⟨b1',b2',D2,p2,q2,c2⟩:=hb
 obtain⟨h1,h2,h3,h4,h5⟩:=h
 refine⟨a,b,n1,n2,rfl,b1,b2,⟨n1+n2+5,fun i j k hi=>?_,h3⟩,by lia,by lia,q⟩
 refine Cd.bd (D:=D1*D2) (Mo (by lia) (by lia)) (Lq c1 c2 i j k (by lia)) ?_
 rw[HI]
 exact gO (lt_mul q1 q2) (by lia)
theorem rw_two{x y:Int}(hx:0<=x/\x<7)(hy:0<=y/\y<3):Rw 2 3 1 [((x -3:Int):Rat),((1+y:Int):Rat)]:=by
 refine⟨show(2:Nat)<=2 by decide,fun z hz=>?_,1,by decide,by decide,fun z hz=>?_⟩
 ·have:z=((1+y:Int):Rat):=by cases hz;rfl
  rw[this]
  exact mF (by lia)
 ·simp only[Fu,QQ,or_false]at hz
  rcases hz with rfl|rfl
  ·exact⟨x -3,Rat.mul_one _,by lia⟩
  ·exact⟨1+y,Rat.mul_one _,by lia⟩
theorem VW(r:List Rat):nK (r.map wq) none (some 3)=(r.take 3).map wq:=by
 have e:HT.sL (r.map wq).length (r.map wq).length (some 3)=min 3 r.length:=by
  show(if(3:Int)<0 then((3:Int)+((r.map wq).length:Int)).toNat else min (3:Int).toNat (r.map wq).length)=_
  rw[B1 (by decide),Ap]
  rfl
 unfold nK
 rw[HT.xA,e,List.drop_zero,Nat.sub_zero,←List.map_take]
 congr 1
 by_cases h:r.length<=3
 ·rw[Nat.min_eq_right h,cw h,cw (Do _)]
 ·rw[Nat.min_eq_left (by lia)]
theorem rw_take{r:List Rat}{y:Rat}(h:Rw 5 101 101 r)(hy:(r.take 3).getLast?=some y):Rw 4 101 101 (r.take 3++List.replicate (if y.num=0 then 1 else 0) 1):=by
 obtain⟨l,z,D,d0,dk,c⟩:=h
 have lt:(r.take 3).length<=3:=List.length_take_le 3 r
 refine⟨?_,fun x hx=>?_,D,d0,dk,fun x hx=>?_⟩
 ·rw[Ee,TC]
  split<;>lia
 ·by_cases e:y.num=0
  ·rw[Bi e]at hx
   have:(List.take 3 r++List.replicate 1 1).getLast?=some (1:Rat):=List.getLast?_concat
   rw[this]at hx
   cases hx
   decide
  ·rw[B1 e]at hx
   have:List.take 3 r++List.replicate 0 1=List.take 3 r:=L9 _
   rw[this,hy]at hx
   cases hx
   exact fun z=>e (Rat.num_eq_zero.mpr z)
 ·rcases GM.mp hx with hx|hx
  ·exact c x (List.mem_of_mem_take hx)
  ·rw[List.eq_of_mem_replicate hx]
   exact⟨D,Rat.one_mul _,dk⟩
noncomputable def jJ:List CS:=[.set 2 (.call 0 [(.call 1 [(.var 0),(.bin .Add (.var 1) (.int 2))]),(.int 8)]),.set 3 (.ix (.lst [(.int 0),(.int 0),(.int 1),(.int 2)]) (.bin .Mod (.ix (.var 2) (.int 0)) (.int 4))),.set 4 (.lst []),.fr [5] true (.jn [(.int 2)]) [.set 6 (.call 2 [(.call 1 [(.var 0),(.bin .Add (.var 1) (.var 5))]),(.int 5),(.var 3)]),.iff (.cmp .Eq (.var 6) (.lst [])) [.set 6 (.lst [(.tup [(.bin .Add (.int 1) (.bin .Mod (.ix (.var 2) (.bin .Add (.int 1) (.var 5))) (.int 9))),(.int 1)])])] [],.iff (.cmp .Eq (.bin .Mod (.ix (.var 2) (.int 3)) (.int 3)) (.int 1)) [.set 6 (.bin .Add (.sl (.var 6) .aU (.int 3)) (.bin .Mult (.lst [(.tup [(.int 1),(.int 1)])]) (.blt .int [(.cmp .Eq (.ix (.ix (.sl (.var 6) .aU (.int 3)) (.neg (.int 1))) (.int 0)) (.int 0))]))),.set 6 (.call 3 [(.var 6),(.lst [(.tup [(.bin .Sub (.bin .Mod (.ix (.var 2) (.int 4)) (.int 7)) (.int 3)),(.int 1)]),(.tup [(.bin .Add (.int 1) (.bin .Mod (.ix (.var 2) (.int 5)) (.int 3))),(.int 1)])])])] [],.app 4 (.var 6)],.ret (.var 4)]
noncomputable def Jk(a:List Rat):Prop:=Rw 5 109 102 a/\a≠[]
noncomputable def pV:bT:=fun ws Q _=>∃(ns:List Int) (k:Int),ws=[.gy ns,.int k]/\∀a b:List Rat,Jk a->Jk b->Q (.lst [aq a,aq b])
theorem at4(x:Int):∃k:Int,(k=0\/k=1\/k=2)/\kP [W.int 0,.int 0,.int 1,.int 2] (x.fmod 4)=some (.int k):=by
 have h1:=dA x (show(0:Int)<4 by decide)
 have h2:=Int.fmod_lt_of_pos x (show(0:Int)<4 by decide)
 generalize x.fmod 4=z at*
 have:z=0\/z=1\/z=2\/z=3:=by lia
 rcases this with rfl|rfl|rfl|rfl
 ·exact⟨0,by decide,rfl⟩
 ·exact⟨0,by decide,rfl⟩
 ·exact⟨1,by decide,rfl⟩
 ·exact⟨2,by decide,rfl⟩
theorem Ik{G:Nat->W}{m:Md}(ws:List W)(Q:W->Prop)(R:Addr->Prop)(h:pV ws Q R):wSs (cu [qO,CB,Lu,eW]) G jJ (cj m Q R) (aA 7 ws):=by
 obtain⟨ns,k0,rfl,hq⟩:=h
 show wSs _ _ jJ _ [some (.gy ns),some (.int k0),none,none,none,none,none]
 unfold jJ
 refine aW (fun ε'=>∃x0 x1 x2 x3 x4 x5 x6 x7:Int,ε'=[some (.gy ns),some (.int k0),some (wI [x0,x1,x2,x3,x4,x5,x6,x7]),none,none,none,none]) (fun N hN=>?_) ?_
 ·walk_at "vs"
  refine⟨ns,_,rfl,fun z=>⟨z,8,rfl,by decide,by decide,fun xs hx hb=>?_⟩⟩
  obtain⟨x0,x1,x2,x3,x4,x5,x6,x7,rfl⟩:=Yp hx
  exact hN _ ⟨x0,x1,x2,x3,x4,x5,x6,x7,rfl⟩
 rintro _ ⟨x0,x1,x2,x3,x4,x5,x6,x7,rfl⟩
 obtain⟨kk,hkk,ekk⟩:=at4 x0
 refine aW (fun ε'=>ε'=[some (.gy ns),some (.int k0),some (wI [x0,x1,x2,x3,x4,x5,x6,x7]),some (.int kk),none,none,none]) (fun N hN=>?_) ?_
 ·unfold wI at hN⊢
  walk_at "vs"
  refine⟨af (by simp),_,rfl,?_⟩
  walk_at "vs"
  exact⟨by decide,_,ekk,hN _ rfl⟩
 rintro _ rfl
 refine aW (fun ε'=>ε'=[some (.gy ns),some (.int k0),some (wI [x0,x1,x2,x3,x4,x5,x6,x7]),some (.int kk),some (.lst []),none,none]) (fun N hN=>?_) ?_
 ·walk_at "vs"
  exact⟨af (by simp),hN _ rfl⟩
 rintro _ rfl
 refine aW (fun ε'=>∃(a b:List Rat) (o5 o6:Option W),(Jk a/\Jk b)/\ε'=[some (.gy ns),some (.int k0),some (wI [x0,x1,x2,x3,x4,x5,x6,x7]),some (.int kk),some (.lst [aq a,aq b]),o5,o6]) (fun N hN=>?_) ?_
 ·refine Ij (n:=2) (by decide) (fun Q q=>q) ?_
  refine bJ (fun i ε=>∃(rs:List (List Rat)) (o5 o6:Option W),(rs.length=i/\∀r∈rs,Jk r)/\ε=[some (.gy ns),some (.int k0),some (wI [x0,x1,x2,x3,x4,x5,x6,x7]),some (.int kk),some (.lst (rs.map aq)),o5,o6]) ⟨[],_,_,⟨rfl,fun r hr=>by cases hr⟩,rfl⟩ ?_ ?_
  ·rintro i w _ N2 hw ⟨rs,o5,o6,⟨hl,hr⟩,rfl⟩ AJ
   obtain⟨hi,rfl⟩:=iU hw
   dsimp only[List.set]
   have at1:∃y:Int,kP ([x0,x1,x2,x3,x4,x5,x6,x7].map W.int) (1+(i:Int))=some (.int y):=by
    have:i=0\/i=1:=by lia
    rcases this with rfl|rfl
    ·exact⟨x1,rfl⟩
    ·exact⟨x2,rfl⟩
   obtain⟨y,hy⟩:=at1
   refine aW (fun ε'=>∃r:List Rat,(Rw 5 101 101 r)/\ε'=[some (.gy ns),some (.int k0),some (wI [x0,x1,x2,x3,x4,x5,x6,x7]),some (.int kk),some (.lst (rs.map aq)),some (.int i),some (aq r)]) (fun N hN=>?_) ?_
   ·walk_at "vs"
    refine⟨ns,_,rfl,fun z=>⟨z,5,_,rfl,by decide,by decide,fun r lr br zr=>hN _ ⟨r,rw5 hkk lr br zr,rfl⟩⟩⟩
   rintro _ ⟨r,VX,rfl⟩
   refine aW (fun ε'=>∃r:List Rat,(Rw 5 101 101 r/\r≠[])/\ε'=[some (.gy ns),some (.int k0),some (wI [x0,x1,x2,x3,x4,x5,x6,x7]),some (.int kk),some (.lst (rs.map aq)),some (.int i),some (aq r)]) (fun N hN=>?_) ?_
   ·unfold wI at hN⊢
    walk_at "vs"
    refine⟨af (by simp),kZ (y:=[]) fun k hk=>?_⟩
    by_cases r0:r=[]
    ·cases di hk r0
     walk_at "vs"
     refine⟨_,hy,?_⟩
     walk_at "vs"
     have h9:0<=y.fmod 9/\y.fmod 9<9:=⟨dA y (by decide),Int.fmod_lt_of_pos y (by decide)⟩
     obtain⟨e1,e2⟩:=RX h9
     exact⟨by decide,af (by simp),af (by simp),hN _ ⟨_,⟨e2.up (by decide) (by decide) (by decide),by simp⟩,rfl⟩⟩
    ·cases bY hk r0
     exact hN _ ⟨r,⟨VX,r0⟩,rfl⟩
   clear VX r
   rintro _ ⟨r,⟨VX,r0⟩,rfl⟩
   refine aW (fun ε'=>∃r:List Rat,Jk r/\ε'=[some (.gy ns),some (.int k0),some (wI [x0,x1,x2,x3,x4,x5,x6,x7]),some (.int kk),some (.lst (rs.map aq)),some (.int i),some (aq r)]) (fun N hN=>?_) ?_
   ·unfold wI at hN⊢
    walk_at "vs"
    refine⟨_,rfl,?_⟩
    walk_at "vs"
    refine⟨by decide,?_⟩
    by_cases h1:x3.fmod 3=1
    ·rw[Bi (Hn h1)]
     have t0:r.take 3≠[]:=by
      cases r with
      |nil=>exact absurd rfl r0
      |cons a l=>simp
     obtain⟨y,ey⟩:∃y,(r.take 3).getLast?=some y:=⟨_,List.getLast?_eq_some_getLast t0⟩
     have Yq:=rw_take VX ey
     have hb:=rw_two (x:=x4.fmod 7) (y:=x5.fmod 3) ⟨dA _ (by decide),Int.fmod_lt_of_pos _ (by decide)⟩ ⟨dA _ (by decide),Int.fmod_lt_of_pos _ (by decide)⟩
     have lt:(r.take 3).length<=3:=List.length_take_le 3 r
     rw[show aq r=W.lst (r.map wq)from rfl]
     walk_at "vs"
     rw[VW]
     refine⟨af (by simp),af (by simp),_,qJ ey,RU ?_⟩
     walk_at "vs"
     have er:(List.replicate (if decide (y.num=0)=true then(1:Int)else 0).toNat [W.tup [.int 1,.int 1]]).flatten=(List.replicate (if y.num=0 then 1 else 0) (1:Rat)).map wq:=by
      by_cases e:y.num=0
      ·rw[Bi (Hn e),Bi e];rfl
      ·rw[B1 (by rw[KM];exact e),B1 e];rfl
     have e1:(if decide (y.num=0)=true then(1:Int)else 0)=0\/(if decide (y.num=0)=true then(1:Int)else 0)=1:=by
      by_cases e:decide (y.num=0)=true
      ·rw[Bi e];exact .inr rfl
      ·rw[B1 e];exact .inl rfl
     rw[er]
     have l1:(List.replicate (if y.num=0 then 1 else 0) (1:Rat)).length<=1:=by
      rw[TC]
      split<;>decide
     refine⟨by lia,by lia,af (by rw[List.length_singleton];lia),af (by rw[Ap,Ap];lia),_,rfl,?_⟩
     walk_at "vs"
     refine⟨by decide,af (by simp),_,rfl,?_⟩
     walk_at "vs"
     refine⟨by decide,af (by simp),af (by simp),?_⟩
     rw[←Fm]
     refine VV Yq hb (by decide) (hN _ ⟨_,⟨rw_mul Yq hb (by decide),LU Yq.z ?_ hb.z (by simp)⟩,rfl⟩)
     exact fun z=>t0 (List.append_eq_nil_iff.mp z).1
    ·rw[B1 (by rw[KM];exact h1)]
     exact hN _ ⟨r,⟨VX.up (by decide) (by decide) (by decide),r0⟩,rfl⟩
   rintro _ ⟨r2,hr2,rfl⟩
   walk_at "vs"
   refine⟨vC (by rw[Ap,hl];lia),?_⟩
   refine AJ _ ⟨rs++[r2],_,_,⟨by rw[Ee,hl];rfl,fun q hq=>?_⟩,by rw[Fm];rfl⟩
   rcases GM.mp hq with h|h
   ·exact hr q h
   ·rw[Fh.mp h]
    exact hr2
  ·rintro _ ⟨rs,o5,o6,⟨hl,hr⟩,rfl⟩
   rw[LD]at hl
   obtain⟨a,b,rfl⟩:∃a b,rs=[a,b]:=by
    rcases rs with _|⟨a,_|⟨b,_|⟨c,l⟩⟩⟩<;>simp at hl
    exact⟨a,b,rfl⟩
   exact hN _ ⟨a,b,o5,o6,⟨hr a (by simp),hr b (by simp)⟩,rfl⟩
 rintro _ ⟨a,b,o5,o6,⟨ha,hb⟩,rfl⟩
 walk_at "vs"
 exact hq a b ha hb
noncomputable def rm:List CS:=[.iff (.or [(.cmp .Eq (.var 0) (.lst [])),(.cmp .Eq (.var 1) (.lst []))]) [.raise 0 (.str "a resultant of the row 0")] [],.qm,.qm,.qm,.qm,.qm,.qm,.qm,.qm]
noncomputable def Il(C:Addr):bT:=fun ws _ R=>∃as bs:List Rat,ws=[aq as,aq bs]/\(as=[]\/bs=[])/\R C
theorem RY{Φ:Nat->bT}{C:Addr}{m:Md}(ws:List W)(Q:W->Prop)(R:Addr->Prop)(h:Il C ws Q R):wSs Φ (lI [.cls C]) rm (cj m Q R) (aA 12 ws):=by
 obtain⟨as,bs,rfl,h0,hR⟩:=h
 show wSs _ _ rm _ [some (aq as),some (aq bs),none,none,none,none,none,none,none,none,none,none]
 unfold rm
 refine aW (fun _=>False) (fun N hN=>?_) (fun _ z=>z.elim)
 walk_at "vs"
 refine⟨af (by simp),kZ (y:=[]) fun k1 h1=>?_⟩
 by_cases a0:as=[]
 ·cases di h1 a0
  walk_at "vs"
  exact hR
 ·cases bY h1 a0
  walk_at "vs"
  refine⟨af (by simp),kZ (y:=[]) fun k2 h2=>?_⟩
  cases di h2 (h0.resolve_left a0)
  walk_at "vs"
  exact hR
noncomputable def rq:bT:=fun ws Q _=>∃as bs:List Rat,ws=[aq as,aq bs]/\(as=[]\/bs=[])/\Q (.bl true)
theorem CY{a:List Rat}{D:Int}{n N i:Nat}(h:∀x∈a,Cd D n x):IR (2^n) (vQ (line N a i),D):=fun c=>by
 show∃z:Int,vQ (line N a i) c*(D:Rat)=z/\z.natAbs<=2^n
 have z0:∃z:Int,(0:Rat)*(D:Rat)=z/\z.natAbs<=2^n:=⟨0,Rat.zero_mul _,NM _⟩
 rw[CV]
 by_cases hc:i<=c/\c<i+a.length
 ·rw[Bi hc]
  have hl:a.length -1 -(c -i)<a.length:=by lia
  obtain⟨z,e,b⟩:=h (cQ a (a.length -1 -(c -i))) (by
   show a.getD _ 0∈a
   rw[AC,BM hl]
   exact On hl)
  exact⟨z,e,SL b⟩
 ·rw[B1 hc]
  exact z0
theorem RZ{a b:List Rat}(ha:Jk a)(hb:Jk b):LP (lines a b) (a.length -1+(b.length -1)) 1713:=by
 obtain⟨⟨la,_,Da,a0,ak,ca⟩,an⟩:=ha
 obtain⟨⟨lb,_,Db,b0,bk,cb⟩,bn⟩:=hb
 have pa:=Hb.mpr an
 have pb:=Hb.mpr bn
 have e:a.length+b.length -2=a.length -1+(b.length -1):=by lia
 refine⟨?_,fun x hx=>?_,by lia,109,102,fun o=>if o∈(List.range (b.length -1)).map (line (a.length+b.length -2) a)then Da else Db,fun o ho=>?_,?_,by decide⟩
 ·unfold lines
  rw[Ee,Ap,Ap,He,He]
  lia
 ·unfold lines at hx
  rcases GM.mp hx with h|h
  ·obtain⟨i,hi,rfl⟩:=Iy.mp h
   have:=Ki.mp hi
   rw[yT (by lia),e]
  ·obtain⟨i,hi,rfl⟩:=Iy.mp h
   have:=Ki.mp hi
   rw[yT (by lia),e]
 ·by_cases h:o∈(List.range (b.length -1)).map (line (a.length+b.length -2) a)
  ·dsimp only
   rw[Bi h]
   obtain⟨i,_,rfl⟩:=Iy.mp h
   exact⟨by lia,SL ak,CY ca⟩
  ·dsimp only
   rw[B1 h]
   unfold lines at ho
   obtain⟨i,_,rfl⟩:=Iy.mp ((GM.mp ho).resolve_left h)
   exact⟨by lia,SL bk,CY cb⟩
 ·have:(109+3+102)*(a.length -1+(b.length -1))<=(109+3+102)*8:=Dx _ (by lia)
  lia
theorem Yr{a b:List Rat}(ha:Jk a)(hb:Jk b):RP a b 109 102 17:=by
 obtain⟨ha,an⟩:=ha
 obtain⟨hb,bn⟩:=hb
 have la:=ha.len
 have lb:=hb.len
 refine⟨by lia,by lia,ha.z,hb.z,an,bn,ha.cd,hb.cd,Yl (m:=8) (by decide) _ (by lia),by lia,by decide,by decide,by decide⟩
theorem neQ{x:Rat}{Q:W->Prop}(h:Q (.bl false)):eT .NotEq (wq x) (wq x) Q:=
 ⟨.inl ⟨AD x 8,AD x 8⟩,fun k hk=>by rw[di hk rfl];exact h⟩
theorem CZ(x y:List Rat):dS 9 (.lst [aq x,aq y])=true:=by
 rw[dS,List.all_cons,List.all_cons,List.all_nil]
 rw[show dS 8 (aq x)=true from jT x 6,show dS 8 (aq y)=true from jT y 6]
 rfl
theorem R3{x y:List Rat}{Q:W->Prop}(h:Q (.bl false)):eT .NotEq (.lst [aq x,aq y]) (.lst [aq x,aq y]) Q:=
 ⟨.inl ⟨CZ x y,CZ x y⟩,fun k hk=>by rw[di hk rfl];exact h⟩
noncomputable def mO:List CS:=[.fr [1] true (.jn [(.int 0),(.int 9),(.int 3)]) [.Uy [2,3] (.call 0 [(.var 0),(.var 1)]),.set 4 (.lst [(.blt .list [(.var 2)]),(.blt .list [(.var 3)])]),.set 5 (.call 1 [(.ix (.var 4) (.int 0)),(.ix (.var 4) (.int 1))]),.iff (.or [(.not (.call 2 [(.var 5)])),(.cmp .NotEq (.var 5) (.OW 3 (.call 4 [(.var 2),(.var 3)]) [])),(.cmp .NotEq (.var 4) (.lst [(.var 2),(.var 3)]))]) [.ret (.bl false)] [],.iff (.or [(.not (.call 5 [(.lst []),(.ix (.var 4) (.int 0))])),(.not (.call 5 [(.ix (.var 4) (.int 1)),(.lst [])])),(.not (.call 5 [(.lst []),(.lst [])]))]) [.ret (.bl false)] []],.ret (.bl true)]
theorem LW{G:Nat->W}{m:Md}(ws:List W)(Q:W->Prop)(R:Addr->Prop)(h:Lk ws Q R):wSs (cu [pV,ek,fL,LQ,wj,rq]) G mO (cj m Q R) (aA 6 ws):=by
 obtain⟨ns,rfl,_,hq⟩:=h
 show wSs _ _ mO _ [some (.gy ns),none,none,none,none,none]
 unfold mO
 walk_at "vs"
 refine⟨3,⟨by decide,by decide,by decide,by decide⟩,?_⟩
 refine bJ (fun i ε=>∃o1 o2 o3 o4 o5,ε=[some (.gy ns),o1,o2,o3,o4,o5]) ⟨none,none,none,none,none,rfl⟩ ?_ ?_
 ·rintro i w _ N hw ⟨o1,o2,o3,o4,o5,rfl⟩ hN
  obtain⟨z,rfl⟩:=LV hw
  walk_at "vs"
  refine⟨ns,z,rfl,fun a b ha hb=>⟨rfl,?_⟩⟩
  have e:=EM ha.2 hb.2
  have db:=RZ ha hb
  have la:=ha.1.len
  have lb:=hb.1.len
  rw[show aq a=W.lst (a.map wq)from rfl,show aq b=W.lst (b.map wq)from rfl]
  walk_at "vs"
  refine⟨af (by simp),_,rfl,_,rfl,a,b,_,_,_,rfl,Yr ha hb,fun _=>?_⟩
  refine⟨_,rfl,?_⟩
  walk_at "vs"
  refine⟨a,b,rfl,ha.2,hb.2,by lia,by lia,_,_,_,rfl,db,fun y=>⟨_,y,rfl,?_⟩⟩
  rw[e]
  refine neQ ?_
  walk_at "vs"
  refine⟨af (by simp),R3 (x:=a) (y:=b) ?_⟩
  walk_at "vs"
  refine⟨af (by simp),_,rfl,[],a,rfl,.inl rfl,?_⟩
  walk_at "vs"
  refine⟨_,rfl,af (by simp),b,[],rfl,.inr rfl,?_⟩
  walk_at "vs"
  refine⟨af (by simp),af (by simp),[],[],rfl,.inl rfl,?_⟩
  walk_at "vs"
  exact hN _ ⟨_,_,_,_,_,rfl⟩
 ·rintro _ ⟨o1,o2,o3,o4,o5,rfl⟩
  walk_at "vs"
  exact hq
end VL
namespace VL
open PySem PySem.Spec
open PyProof.Rows hiding St
open L2
noncomputable def Ys(P:Program)(w:World)(K:PySem.W.Frag)(mg:Str->Option Value)(base:Heap)(k:Nat):List Str->List Md->List bT->Prop
 |x::fn,m::md,S::Ss=>(∃fv n k',mg x=some fv/\c7 P w K mg base k' fv n (dU K n m S)/\k'<=k/\∀ws P R,S ws P R->ws.length=n)/\Ys P w K mg base k fn md Ss
 |[],_,_=>True
 |_,_,_=>False
noncomputable def Yt(mg:Str->Option Value):List Str->Prop
 |[]=>True
 |x::zn=>mg x=none/\Yt mg zn
theorem Im{mg:Str->Option Value}:∀{zn:List Str},Yt mg zn->∀x∈zn,mg x=none
 |y::zn,h,x,hx=>by
  rcases Fu.mp hx with e|hx
  ·rw[e]
   exact h.1
  ·exact Im h.2 x hx
theorem Io{P:Program}{w:World}{K:PySem.W.Frag}{mg:Str->Option Value}{base:Heap}{k:Nat}:∀{fn:List Str} {md:List Md} {Ss:List bT},Ys P w K mg base k fn md Ss->∀(j:Nat) (x:Str),fn[j]?=some x->∃fv n k',mg x=some fv/\c7 P w K mg base k' fv n (dU K n (bu md j) (cu Ss j))/\k'<=k/\∀ws P R,cu Ss j ws P R->ws.length=n
 |y::fn,m::md,S::Ss,h,0,x,e=>by
  cases e
  exact h.1
 |y::fn,m::md,S::Ss,h,j+1,x,e=>Io (fn:=fn) h.2 j x e
 |[],_,_,_,j,x,e=>by cases e
 |_::_,[],_,h,_,_,_=>h.elim
 |_::_,_::_,[],h,_,_,_=>h.elim
theorem tab_of{P:Program}{w:World}{K:PySem.W.Frag}{mg:Str->Option Value}{base:Heap}{k:Nat}{fn zn:List Str}{md:List Md}{Ss:List bT}(h:Ys P w K mg base k fn md Ss)(z:Yt mg zn):Tab P w K mg base fn [] zn md [] (cu Ss) (lI []) k:=
 ⟨fun j x e _=>Io h j x e,fun _ _ _ _ h=>(by cases h),fun _ _ e=>(by simp at e),Im z,qK K,fun _ _ _ e=>(by simp at e)⟩
end VL
namespace Wa
open PySem PySem.Spec
open PyProof.Rows hiding St
open L2 VL Num
set_option genInjectivity false
set_option genSizeOf false
noncomputable def top(i:Nat):Stmt:=PySem.Challenge.pw_paperwright_k12_resultants.main.body.getD i (.Pass ⟨0,0,0,0⟩)
abbrev yX:Stmt:=top 3
abbrev Ip:Stmt:=top 4
abbrev yY:Stmt:=top 6
abbrev jK:Stmt:=top 9
abbrev gh:Stmt:=top 20
abbrev iM:Stmt:=top 22
abbrev iN:Stmt:=top 23
abbrev jL:Stmt:=top 24
abbrev dM:Stmt:=top 25
abbrev cV:Stmt:=top 26
abbrev cW:Stmt:=top 27
abbrev b8:Stmt:=top 28
abbrev e9:Stmt:=top 29
abbrev gQ:Stmt:=inClass (top 31) 0
abbrev dN:Stmt:=inClass (top 31) 1
abbrev dO:Stmt:=inClass (top 31) 2
abbrev b9:Stmt:=inClass (top 31) 3
abbrev cX:Stmt:=top 32
abbrev fh:Stmt:=top 34
abbrev bK:Stmt:=top 35
abbrev rA:Stmt:=top 37
abbrev mP:Stmt:=top 38
abbrev mQ:Stmt:=top 39
abbrev jM:Stmt:=top 40
abbrev jN:Stmt:=top 41
abbrev mR:Stmt:=top 42
abbrev cY:Stmt:=top 43
abbrev s_row:Stmt:=top 44
abbrev yZ:Stmt:=top 45
abbrev iO:Stmt:=top 46
abbrev y9:Stmt:=top 47
abbrev dP:Stmt:=top 48
abbrev wm:Stmt:=top 49
abbrev mT:Stmt:=top 50
abbrev zc:Stmt:=top 51
abbrev nY:Stmt:=top 52
abbrev rC:Stmt:=top 53
abbrev zd:Stmt:=top 54
theorem R4:az ["one","other"] ["one","other"] (aa yX):=⟨rfl,rfl,rfl,by decide+kernel,rfl,by decide+kernel,by decide+kernel⟩
theorem EN:az ["number","exponent","power"] ["number","exponent"] (aa jK):=⟨rfl,rfl,rfl,by decide+kernel,rfl,by decide+kernel,by decide+kernel⟩
theorem ze:az ["top","bottom","divisor"] ["top","bottom"] (aa gh):=⟨rfl,rfl,rfl,by decide+kernel,rfl,by decide+kernel,by decide+kernel⟩
theorem AZ:az ["row","bottom","number","part"] ["row"] (aa iM):=⟨rfl,rfl,rfl,by decide+kernel,rfl,by decide+kernel,by decide+kernel⟩
theorem A3:az ["numbers","length"] ["numbers"] (aa iN):=⟨rfl,rfl,rfl,by decide+kernel,rfl,by decide+kernel,by decide+kernel⟩
theorem EO:az ["numbers","by"] ["numbers","by"] (aa jL):=⟨rfl,rfl,rfl,by decide+kernel,rfl,by decide+kernel,by decide+kernel⟩
theorem sU:az ["one","other","length","told","place","number"] ["one","other"] (aa dM):=⟨rfl,rfl,rfl,by decide+kernel,rfl,by decide+kernel,by decide+kernel⟩
theorem rD:az ["one","other"] ["one","other"] (aa cV):=⟨rfl,rfl,rfl,by decide+kernel,rfl,by decide+kernel,by decide+kernel⟩
theorem rE:az ["one","other","told","place","number","further","factor"] ["one","other"] (aa cW):=⟨rfl,rfl,rfl,by decide+kernel,rfl,by decide+kernel,by decide+kernel⟩
theorem nZ:az ["one","other","room","lead","rest","quotient","place","head","further","scale"] ["one","other"] (aa b8):=⟨rfl,rfl,rfl,by decide+kernel,rfl,by decide+kernel,by decide+kernel⟩
theorem wu:az ["numbers","content","number"] ["numbers"] (aa e9):=⟨rfl,rfl,rfl,by decide+kernel,rfl,by decide+kernel,by decide+kernel⟩
theorem rF:az ["self","one","other","factor"] ["self","one","other","factor"] (aa gQ):=⟨rfl,rfl,rfl,by decide+kernel,rfl,by decide+kernel,by decide+kernel⟩
theorem sW:az ["self","going"] ["self"] (aa dN):=⟨rfl,rfl,rfl,by decide+kernel,rfl,by decide+kernel,by decide+kernel⟩
theorem sX:az ["self","quotient","rest","scale","factor","drop","known"] ["self"] (aa dO):=⟨rfl,rfl,rfl,by decide+kernel,rfl,by decide+kernel,by decide+kernel⟩
theorem n6:az ["self","drop"] ["self"] (aa b9):=⟨rfl,rfl,rfl,by decide+kernel,rfl,by decide+kernel,by decide+kernel⟩
theorem rG:az ["height","lead","drop"] ["height","lead","drop"] (aa cX):=⟨rfl,rfl,rfl,by decide+kernel,rfl,by decide+kernel,by decide+kernel⟩
theorem wz:az ["row","numbers","bottom","content"] ["row"] (aa fh):=⟨rfl,rfl,rfl,by decide+kernel,rfl,by decide+kernel,by decide+kernel⟩
theorem i6:az ["one","other","degree","other_degree","top","bottom","numbers","content","other_numbers","other_bottom","other_content","chain"] ["one","other"] (aa bK):=⟨rfl,rfl,rfl,by decide+kernel,rfl,by decide+kernel,by decide+kernel⟩
theorem LX:az ["_law_script","_law_place"] ["_law_script","_law_place"] (aa rA):=⟨rfl,rfl,rfl,by decide+kernel,rfl,by decide+kernel,by decide+kernel⟩
theorem Iq:az ["_law_cell_here","_law_many","_law_rest","_law_one","_law_two","_law_found","_law_k","_law_number_here"] ["_law_cell_here","_law_many"] (aa mP):=⟨rfl,rfl,rfl,by decide+kernel,rfl,by decide+kernel,by decide+kernel⟩
theorem Ir:az ["_law_one","_law_other"] ["_law_one","_law_other"] (aa mQ):=⟨rfl,rfl,rfl,by decide+kernel,rfl,by decide+kernel,by decide+kernel⟩
theorem ES:az ["_law_top","_law_bottom","_law_share"] ["_law_top","_law_bottom"] (aa jM):=⟨rfl,rfl,rfl,by decide+kernel,rfl,by decide+kernel,by decide+kernel⟩
theorem ET:az ["_law_x","_law_y","_law_z","_law_kind","_law_top","_law_bottom"] ["_law_x","_law_y","_law_z","_law_kind"] (aa jN):=⟨rfl,rfl,rfl,by decide+kernel,rfl,by decide+kernel,by decide+kernel⟩
theorem Iu:az ["_law_found"] ["_law_found"] (aa mR):=⟨rfl,rfl,rfl,by decide+kernel,rfl,by decide+kernel,by decide+kernel⟩
theorem rH:az ["_law_found"] ["_law_found"] (aa cY):=⟨rfl,rfl,rfl,by decide+kernel,rfl,by decide+kernel,by decide+kernel⟩
theorem R5:az ["_law_cell_here","_law_most","_law_kind","_law_xs","_law_found","_law_k","_law_number_here"] ["_law_cell_here","_law_most","_law_kind"] (aa s_row):=⟨rfl,rfl,rfl,by decide+kernel,rfl,by decide+kernel,by decide+kernel⟩
theorem R6:az ["_law_one","_law_other"] ["_law_one","_law_other"] (aa yZ):=⟨rfl,rfl,rfl,by decide+kernel,rfl,by decide+kernel,by decide+kernel⟩
theorem A4:az ["_law_one","_law_other"] ["_law_one","_law_other"] (aa iO):=⟨rfl,rfl,rfl,by decide+kernel,rfl,by decide+kernel,by decide+kernel⟩
theorem R7:az ["_law_row_here","_law_found"] ["_law_row_here"] (aa y9):=⟨rfl,rfl,rfl,by decide+kernel,rfl,by decide+kernel,by decide+kernel⟩
theorem sY:az ["_law_one","_law_other","_law_found","_law_j","_law_k"] ["_law_one","_law_other"] (aa dP):=⟨rfl,rfl,rfl,by decide+kernel,rfl,by decide+kernel,by decide+kernel⟩
theorem wB:az ["_law_e","_law_sort","_law_sorts"] ["_law_e","_law_sort"] (aa wm):=⟨rfl,rfl,rfl,by decide+kernel,rfl,by decide+kernel,by decide+kernel⟩
theorem Iv:az ["_law_one","_law_other","_law_found","_law_size","_law_row_here","_law_many","_law_k"] ["_law_one","_law_other"] (aa mT):=⟨rfl,rfl,rfl,by decide+kernel,rfl,by decide+kernel,by decide+kernel⟩
theorem R8:az ["_law_lines_here","_law_found","_law_at","_law_some","_law_kept","_law_head","_law_k","_law_share"] ["_law_lines_here"] (aa zc):=⟨rfl,rfl,rfl,by decide+kernel,rfl,by decide+kernel,by decide+kernel⟩
theorem i7:az ["_law_one","_law_other","_law_caught","_law_e"] ["_law_one","_law_other"] (aa nY):=⟨rfl,rfl,rfl,by decide+kernel,rfl,by decide+kernel,by decide+kernel⟩
theorem LY:az ["_law_script","_law_at","_law_xs","_law_kind","_law_found","_law_k","_law_row_here"] ["_law_script","_law_at"] (aa rC):=⟨rfl,rfl,rfl,by decide+kernel,rfl,by decide+kernel,by decide+kernel⟩
theorem R9:az ["_law_script","_law_at","_law_one","_law_other","_law_handed","_law_found"] ["_law_script"] (aa zd):=⟨rfl,rfl,rfl,by decide+kernel,rfl,by decide+kernel,by decide+kernel⟩
structure Tx(K:PySem.W.Frag)(mg:Str->Option Value)where
 ao:Addr
 jZ:Hc K mg "Chain" ao ["ahead","last","factor_ahead","factor_last","lead","height","sign","scale","known"]
 Np:Addr
 Nq:FuncData
 C0:Df K mg "gcd" yX ["one","other"] Np Nq
 Sa:Addr
 Sd:FuncData
 Se:Df K mg "turn" Ip ["one","other"] Sa Sd
 Iw:Addr
 Iz:FuncData
 IA:Df K mg "turned" yY ["by","one","other"] Iw Iz
 zf:Addr
 zg:FuncData
 mU:Df K mg "raised" jK ["number","exponent"] zf zg
 rJ:Addr
 rK:FuncData
 rL:Df K mg "fraction" gh ["top","bottom"] rJ rK
 ux:Addr
 uy:FuncData
 uz:Df K mg "cleared" iM ["row"] ux uy
 uA:Addr
 uB:FuncData
 n9:Df K mg "trimmed" iN ["numbers"] uA uB
 zh:Addr
 zj:FuncData
 mV:Df K mg "scaled" jL ["numbers","by"] zh zj
 mW:Addr
 mX:FuncData
 mY:Df K mg "whole_plus" dM ["one","other"] mW mX
 kh:Addr
 kj:FuncData
 ko:Df K mg "whole_minus" cV ["one","other"] kh kj
 kq:Addr
 kr:FuncData
 ku:Df K mg "whole_times" cW ["one","other"] kq kr
 jg:Addr
 jh:FuncData
 ji:Df K mg "whole_divided" b8 ["one","other"] jg jh
 oH:Addr
 oJ:FuncData
 oK:Df K mg "shortened" e9 ["numbers"] oH oJ
 kC:Addr
 kD:FuncData
 eK:Dm K ao "__init__" "Chain.__init__" gQ ["self","one","other","factor"] kC kD
 mZ:Addr
 m5:FuncData
 m6:Dm K ao "walk" "Chain.walk" dN ["self"] mZ m5
 m7:Addr
 m8:FuncData
 m9:Dm K ao "step" "Chain.step" dO ["self"] m7 m8
 jj:Addr
 jk:FuncData
 jl:Dm K ao "outcome" "Chain.outcome" b9 ["self"] jj jk
 kF:Addr
 kG:FuncData
 gR:Df K mg "next_height" cX ["height","lead","drop"] kF kG
 oM:Addr
 oN:FuncData
 oO:Df K mg "primitive" fh ["row"] oM oN
 fj:Addr
 fk:FuncData
 bN:Df K mg "resultant" bK ["one","other"] fj fk
 IB:Addr
 IC:FuncData
 ID:Df K mg "_law_cell" rA ["_law_script","_law_place"] IB IC
 C1:Addr
 C2:FuncData
 wC:Df K mg "_law_drawn" mP ["_law_cell_here","_law_many"] C1 C2
 C3:Addr
 C4:FuncData
 wD:Df K mg "_law_gcd" mQ ["_law_one","_law_other"] C3 C4
 zk:Addr
 zm:FuncData
 jO:Df K mg "_law_lowest" jM ["_law_top","_law_bottom"] zk zm
 zo:Addr
 zp:FuncData
 zq:Df K mg "_law_number" jN ["_law_x","_law_y","_law_z","_law_kind"] zo zp
 C5:Addr
 C6:FuncData
 C7:Df K mg "_law_whole" mR ["_law_found"] C5 C6
 kH:Addr
 kI:FuncData
 kJ:Df K mg "_law_is_fraction" cY ["_law_found"] kH kI
 Nr:Addr
 Nt:FuncData
 Nu:Df K mg "_law_row" s_row ["_law_cell_here","_law_most","_law_kind"] Nr Nt
 Nv:Addr
 Nx:FuncData
 IE:Df K mg "_law_sum" yZ ["_law_one","_law_other"] Nv Nx
 uC:Addr
 uD:FuncData
 oh:Df K mg "_law_product" iO ["_law_one","_law_other"] uC uD
 Ny:Addr
 Nz:FuncData
 NB:Df K mg "_law_cut" y9 ["_law_row_here"] Ny Nz
 nc:Addr
 nh:FuncData
 ni:Df K mg "_law_multiplied" dP ["_law_one","_law_other"] nc nh
 IF:Addr
 IG:FuncData
 wF:Df K mg "_law_only" wm ["_law_e","_law_sort"] IF IG
 C8:Addr
 C9:FuncData
 Dc:Df K mg "_law_lines" mT ["_law_one","_law_other"] C8 C9
 NC:Addr
 ND:FuncData
 NF:Df K mg "_law_due" zc ["_law_lines_here"] NC ND
 uE:Addr
 uF:FuncData
 uG:Df K mg "_law_refused" nY ["_law_one","_law_other"] uE uF
 II:Addr
 IJ:FuncData
 IK:Df K mg "_law_rows" rC ["_law_script","_law_at"] II IJ
 NG:Addr
 NH:FuncData
 VY:Df K mg "law" zd ["_law_script"] NG NH
 dQ:mg "ValueError"=none
 rM:mg "abs"=none
 rN:mg "bool"=none
 c8:mg "enumerate"=none
 uH:mg "int"=none
 aJ:mg "isinstance"=none
 fq:mg "len"=none
 gS:mg "list"=none
 rO:mg "max"=none
 cG:mg "range"=none
 gi:mg "reversed"=none
 zu:mg "sum"=none
 nj:mg "tuple"=none
 Sg:∃u,mg "LONG"=some u/\RelV (.int 6000) u
 aN:Addr
 wG:mg "HouseError"=some (.ref aN)
 wH:uT K aN
 cC:Addr
 A5:mg "NoNumber"=some (.ref cC)
 aE:Addr
 Dd:mg "NoRow"=some (.ref aE)
 wJ:uT K aE
 c9:Addr
 EU:mg "NoValue"=some (.ref c9)
 fu:Addr
 IL:mg "NoText"=some (.ref fu)
 fy:Addr
 IM:mg "NoRoot"=some (.ref fy)
 fz:Addr
 IP:mg "TooFar"=some (.ref fz)
 fD:Addr
 IQ:mg "NoLine"=some (.ref fD)
 oi:PySem.W.kitOne K (.ref aE) (.ref cC)=some false
 sZ:PySem.W.kitOne K (.ref aE) (.ref aE)=some true
 oY:PySem.W.kitOne K (.ref aE) (.ref c9)=some false
 rP:PySem.W.kitOne K (.ref aE) (.ref fu)=some false
 rQ:PySem.W.kitOne K (.ref aE) (.ref fy)=some false
 rR:PySem.W.kitOne K (.ref aE) (.ref fz)=some false
 rS:PySem.W.kitOne K (.ref aE) (.ref fD)=some false
 lC:PySem.W.kitOne K (.ref aE) (.type "ValueError")=some true
 bC:PySem.W.mroIn K aE (.ref aN)=some true
section
variable{P:Program}{w:World}{K:PySem.W.Frag}{mg:Str->Option Value}{base:Heap}
theorem VZ:aP ⟨["one","other"],(aa yX).names,[],["turned","turn"],["LONG"],["abs"],[.s,.s],[]⟩ (bu [.s,.s]) .s yu (ah yX)=true:=by decide+kernel
theorem V0(T:Tx K mg):Tab P w K mg base ["turned","turn"] ["LONG"] ["abs"] [.s,.s] [] (cu [Wq,Wq]) (lI [(.int 6000)]) 1:=by
 refine⟨fun j x e h=>?_,fun j g x e h=>?_,fun j x e=>?_,?_,qK K,fun j x C e h=>?_⟩
 ·match j,e with
  |0,e=>cases e;exact T.IA.eV (m:=.s) (Hg (k:=1)) rfl (by walk_at "len_of") (by decide)
  |1,e=>cases e;exact T.Se.eV (m:=.s) (Hg (k:=1)) rfl (by walk_at "len_of") (by decide)
  |_+2,e=>simp at e
 ·cases h
 ·match j,e with
  |0,e=>cases e;obtain⟨u,h1,h2⟩:=T.Sg;exact⟨u,_,h1,h2,fun _ _=>by show Rep _ _ _ (.int 6000) _;rw[Rep]⟩
  |_+1,e=>simp at e
 ·intro x h
  simp only[Fu,QQ,or_false]at h
  rcases h with rfl
  ·exact T.rM
 ·match j,e with
  |0,e=>cases h
  |_+1,e=>simp at e
theorem IS(T:Tx K mg):aH P w K mg base (cK P w) 2 T.Np T.Nq ["one","other"] (dU K 2 .s ED):=
 aS T.C0.F R4 (V0 T) yu [] .s ED (by decide) (by decide) rfl VZ (by walk_at "len_of") Vx
theorem IT:aP ⟨["number","exponent","power"],(aa jK).names,[],[],[],[],[],[]⟩ (bu []) .s jG (ah jK)=true:=by decide+kernel
theorem rT(T:Tx K mg):aH P w K mg base (cK P w) 1 T.zf T.zg ["number","exponent"] (dU K 2 .s eH):=
 aS T.mU.F EN (tab_of (k:=0) (Ss:=[]) (by exact trivial) (by exact trivial)) jG [] .s eH (by decide) (by decide) rfl IT (by walk_at "len_of") Hz
theorem A6:aP ⟨["top","bottom","divisor"],(aa gh).names,[],["gcd"],[],[],[.s],[]⟩ (bu [.s]) .s gg (ah gh)=true:=by decide+kernel
theorem A7(T:Tx K mg):aH P w K mg base (cK P w) 3 T.rJ T.rK ["top","bottom"] (dU K 2 .s fS):=
 aS T.rL.F ze (tab_of (k:=2) (by exact⟨T.C0.eV (m:=.s) (IS T) rfl (by walk_at "len_of") (by decide),trivial⟩) (by exact trivial)) gg [] .s fS (by decide) (by decide) rfl A6 (by walk_at "len_of") AL
theorem EV:aP ⟨["row","bottom","number","part"],(aa iM).names,[],["gcd"],[],[],[.s],[]⟩ (bu [.s]) .s iJ (ah iM)=true:=by decide+kernel
theorem EW(T:Tx K mg):aH P w K mg base (cK P w) 3 T.ux T.uy ["row"] (dU K 1 .s mE):=
 aS T.uz.F AZ (tab_of (k:=2) (by exact⟨T.C0.eV (m:=.s) (IS T) rfl (by walk_at "len_of") (by decide),trivial⟩) (by exact trivial)) iJ [] .s mE (by decide) (by decide) rfl EV (by walk_at "len_of") EG
theorem EX:aP ⟨["numbers","length"],(aa iN).names,[],[],[],["len"],[],[]⟩ (bu []) .f iI (ah iN)=true:=by decide+kernel
theorem uI(T:Tx K mg):aH P w K mg base (cK P w) 1 T.uA T.uB ["numbers"] (dU K 1 .f jF):=
 aS T.n9.F A3 (tab_of (k:=0) (Ss:=[]) (by exact trivial) (by exact⟨T.fq,trivial⟩)) iI [] .f jF (by decide) (by decide) rfl EX (by walk_at "len_of") EC
theorem IU:aP ⟨["numbers","by"],(aa jL).names,[],[],[],[],[],[]⟩ (bu []) .f jB (ah jL)=true:=by decide+kernel
theorem rV(T:Tx K mg):aH P w K mg base (cK P w) 1 T.zh T.zj ["numbers","by"] (dU K 2 .f jW):=
 aS T.mV.F EO (tab_of (k:=0) (Ss:=[]) (by exact trivial) (by exact trivial)) jB [] .f jW (by decide) (by decide) rfl IU (by walk_at "len_of") Hr
theorem wK:aP ⟨["one","other","length","told","place","number"],(aa dM).names,[(3,.f)],["trimmed"],[],["max","len","list","enumerate"],[.f],[]⟩ (bu [.f]) .f dw (ah dM)=true:=by decide+kernel
theorem wL(T:Tx K mg):aH P w K mg base (cK P w) 2 T.mW T.mX ["one","other"] (dU K 2 .f gC):=
 aS T.mY.F sU (tab_of (k:=1) (by exact⟨T.n9.eV (m:=.f) (uI T) rfl (by walk_at "len_of") (by decide),trivial⟩) (by exact⟨T.rO,T.fq,T.gS,T.c8,trivial⟩)) dw [(3,.f)] .f gC (by decide) (by decide) rfl wK (by walk_at "len_of") vK
theorem tu:aP ⟨["one","other"],(aa cV).names,[],["whole_plus","scaled"],[],[],[.f,.f],[]⟩ (bu [.f,.f]) .f cP (ah cV)=true:=by decide+kernel
theorem tw(T:Tx K mg):aH P w K mg base (cK P w) 3 T.kh T.kj ["one","other"] (dU K 2 .f fJ):=
 aS T.ko.F rD (tab_of (k:=2) (by exact⟨T.mY.eV (m:=.f) (wL T) rfl (by walk_at "len_of") (by decide),T.mV.eV (m:=.f) (rV T) rfl (by walk_at "len_of") (by decide),trivial⟩) (by exact trivial)) cP [] .f fJ (by decide) (by decide) rfl tu (by walk_at "len_of") sP
theorem tD:aP ⟨["one","other","told","place","number","further","factor"],(aa cW).names,[(2,.f)],[],[],["len","enumerate"],[],[]⟩ (bu []) .f cS (ah cW)=true:=by decide+kernel
theorem tE(T:Tx K mg):aH P w K mg base (cK P w) 1 T.kq T.kr ["one","other"] (dU K 2 .f fK):=
 aS T.ku.F rE (tab_of (k:=0) (Ss:=[]) (by exact trivial) (by exact⟨T.fq,T.c8,trivial⟩)) cS [(2,.f)] .f fK (by decide) (by decide) rfl tD (by walk_at "len_of") sQ
theorem oZ:aP ⟨["one","other","room","lead","rest","quotient","place","head","further","scale"],(aa b8).names,[(4,.f),(5,.f)],["scaled","trimmed"],[],["max","len","list","range"],[.f,.f],[]⟩ (bu [.f,.f]) .s bZ (ah b8)=true:=by decide+kernel
theorem o8(T:Tx K mg):aH P w K mg base (cK P w) 2 T.jg T.jh ["one","other"] (dU K 2 .s dG):=
 aS T.ji.F nZ (tab_of (k:=1) (by exact⟨T.mV.eV (m:=.f) (rV T) rfl (by walk_at "len_of") (by decide),T.n9.eV (m:=.f) (uI T) rfl (by walk_at "len_of") (by decide),trivial⟩) (by exact⟨T.rO,T.fq,T.gS,T.cG,trivial⟩)) bZ [(4,.f),(5,.f)] .s dG (by decide) (by decide) rfl oZ (by walk_at "len_of") oW
theorem zv:aP ⟨["numbers","content","number"],(aa e9).names,[],["gcd"],[],["list"],[.s],[]⟩ (bu [.s]) .s eY (ah e9)=true:=by decide+kernel
theorem zw(T:Tx K mg):aH P w K mg base (cK P w) 3 T.oH T.oJ ["numbers"] (dU K 1 .s iZ):=
 aS T.oK.F wu (tab_of (k:=2) (by exact⟨T.C0.eV (m:=.s) (IS T) rfl (by walk_at "len_of") (by decide),trivial⟩) (by exact⟨T.gS,trivial⟩)) eY [] .s iZ (by decide) (by decide) rfl zv (by walk_at "len_of") yC
theorem tF:aP ⟨["height","lead","drop"],(aa cX).names,[],["raised"],[],[],[.s],[]⟩ (bu [.s]) .s cT (ah cX)=true:=by decide+kernel
theorem kK(T:Tx K mg):aH P w K mg base (cK P w) 2 T.kF T.kG ["height","lead","drop"] (dU K 3 .s dD):=
 aS T.gR.F rG (tab_of (k:=1) (by exact⟨T.mU.eV (m:=.s) (rT T) rfl (by walk_at "len_of") (by decide),trivial⟩) (by exact trivial)) cT [] .s dD (by decide) (by decide) rfl tF (by walk_at "len_of") sR
theorem zx:aP ⟨["row","numbers","bottom","content"],(aa fh).names,[],["cleared","shortened"],[],[],[.s,.s],[]⟩ (bu [.s,.s]) .s eZ (ah fh)=true:=by decide+kernel
theorem zy(T:Tx K mg):aH P w K mg base (cK P w) 4 T.oM T.oN ["row"] (dU K 1 .s ef):=
 aS T.oO.F wz (tab_of (k:=3) (by exact⟨T.uz.eV (m:=.s) (EW T) rfl (by walk_at "len_of") (by decide),T.oK.eV (m:=.s) (zw T) rfl (by walk_at "len_of") (by decide),trivial⟩) (by exact trivial)) eZ [] .s ef (by decide) (by decide) rfl zx (by walk_at "len_of") yD
theorem tG(T:Tx K mg):aH P w K mg base (cK P w) 1 T.kC T.kD ["self","one","other","factor"] (HL T.ao):=by
 have cl:=T.jZ.ok.1
 have na:=T.jZ.ok.2.2.2
 refine T.eK.F.Wh rF (fun vs H Q E h=>?_) (fun cdv A outer s H vs Q E hr h=>?_)
 ·obtain⟨x,dx,p1,p2,p3,rfl,_⟩:=h
  rfl
 obtain⟨x,dx,p1,p2,p3,rfl,hx,q⟩:=h
 refine⟨_,(@bU _ _ _ _ _ (gG (pv 0) (pv 1) rfl)
  (@bU _ _ _ _ _ (gG (pv 0) (pv 2) rfl)
  (@bU _ _ _ _ _ (gG (pv 0) (pv 3) rfl)
  (@bU _ _ _ _ _ (gG (pv 0) (uO aZ) rfl)
  (@bU _ _ _ _ _ (gG (pv 0) iP rfl)
  (@bU _ _ _ _ _ (gG (pv 0) iP rfl)
  (@bU _ _ _ _ _ (gG (pv 0) iP rfl)
  (@bU _ _ _ _ _ (gG (pv 0) iP rfl)
  (lJ (gG (pv 0) iP rfl)))))))))),?_⟩
 refine⟨_,rfl,_,rfl,x,T.ao,dx,_,rfl,hx,cl,na "ahead" (by decide),by show 0<1000;decide,?_⟩
 refine⟨_,rfl,_,rfl,x,T.ao,dx,_,rfl,aD,cl,na "last" (by decide),by show 1<1000;decide,?_⟩
 refine⟨_,rfl,_,rfl,x,T.ao,dx,_,rfl,aD,cl,na "factor_ahead" (by decide),by show 2<1000;decide,?_⟩
 refine⟨iy (by simp),fun p4 SW=>?_⟩
 have nx:p4≠x:=fun e=>by
  rw[e,aD]at SW
  cases SW
 refine⟨_,rfl,x,T.ao,dx,_,rfl,xD aD SW,cl,na "factor_last" (by decide),by show 3<1000;decide,?_⟩
 refine⟨_,rfl,x,T.ao,dx,_,rfl,aD,cl,na "lead" (by decide),by show 4<1000;decide,?_⟩
 refine⟨_,rfl,x,T.ao,dx,_,rfl,aD,cl,na "height" (by decide),by show 5<1000;decide,?_⟩
 refine⟨_,rfl,x,T.ao,dx,_,rfl,aD,cl,na "sign" (by decide),by show 6<1000;decide,?_⟩
 refine⟨_,rfl,x,T.ao,dx,_,rfl,aD,cl,na "scale" (by decide),by show 7<1000;decide,?_⟩
 refine⟨_,rfl,x,T.ao,dx,_,rfl,aD,cl,na "known" (by decide),by show 8<1000;decide,?_⟩
 rw[ai nx,ai nx,ai nx]at SW
 refine q p4 _ (fun b o hb ho=>?_) SW ?_ aD
 ·have hb4:b≠p4:=aO ho SW
  rw[ai hb,ai hb,ai hb,ai hb,ai hb,ai hb,ai hb4,ai hb,ai hb,ai hb]
  exact ho
 ·rw[ai nx,ai nx,ai nx,ai nx,ai nx,ai nx,aD]
theorem LZ(T:Tx K mg):c7 P w K mg base 2 (.ref T.ao) 3 (dU K 3 (.o VH [.s,.s,.s,.s,.s,.s,.s,.s,.s]) (qT T.ao)):=
 AU T.jZ.ok ⟨T.jZ.mks,T.eK.M.1,T.eK.M.fn,T.jZ.kp⟩ T.eK.b (tG T)
theorem wM:aP ⟨["self","quotient","rest","scale","factor","drop","known"],(aa dO).names,[(0,(.o ["ahead","last","factor_ahead","factor_last","lead","height","sign","scale","known"] [.s,.s,.s,.s,.s,.s,.s,.s,.s]))],["whole_divided","whole_minus","scaled","whole_times","raised","next_height"],[],["len"],[.s,.f,.f,.f,.s,.s],[]⟩ (bu [.s,.f,.f,.f,.s,.s]) (.io (.o ["ahead","last","factor_ahead","factor_last","lead","height","sign","scale","known"] [.s,.s,.s,.s,.s,.s,.s,.s,.s])) dH (ah dO)=true:=by decide+kernel
theorem wN(T:Tx K mg):aH P w K mg base (cK P w) 4 T.m7 T.m8 ["self"] (dU K 1 (.io (.o ["ahead","last","factor_ahead","factor_last","lead","height","sign","scale","known"] [.s,.s,.s,.s,.s,.s,.s,.s,.s])) (yH T.ao)):=
 pK T.m9.F sX (tab_of (k:=3) (by exact⟨T.ji.eV (m:=.s) (o8 T) rfl (by walk_at "len_of") (by decide),T.ko.eV (m:=.f) (tw T) rfl (by walk_at "len_of") (by decide),T.mV.eV (m:=.f) (rV T) rfl (by walk_at "len_of") (by decide),T.ku.eV (m:=.f) (tE T) rfl (by walk_at "len_of") (by decide),T.mU.eV (m:=.s) (rT T) rfl (by walk_at "len_of") (by decide),T.gR.eV (m:=.s) (kK T) rfl (by walk_at "len_of") (by decide),trivial⟩) (by exact⟨T.fq,trivial⟩)) dH [(0,(.o ["ahead","last","factor_ahead","factor_last","lead","height","sign","scale","known"] [.s,.s,.s,.s,.s,.s,.s,.s,.s]))] (.o ["ahead","last","factor_ahead","factor_last","lead","height","sign","scale","known"] [.s,.s,.s,.s,.s,.s,.s,.s,.s]) (yH T.ao) (by decide) (by decide) (by decide) (by decide) wM (by walk_at "len_of") vR
theorem wO:aP ⟨["self","going"],(aa dN).names,[(0,(.o ["ahead","last","factor_ahead","factor_last","lead","height","sign","scale","known"] [.s,.s,.s,.s,.s,.s,.s,.s,.s]))],["step"],[],["len"],[(.io (.o ["ahead","last","factor_ahead","factor_last","lead","height","sign","scale","known"] [.s,.s,.s,.s,.s,.s,.s,.s,.s]))],[(0,0)]⟩ (bu [(.io (.o ["ahead","last","factor_ahead","factor_last","lead","height","sign","scale","known"] [.s,.s,.s,.s,.s,.s,.s,.s,.s]))]) (.io (.o ["ahead","last","factor_ahead","factor_last","lead","height","sign","scale","known"] [.s,.s,.s,.s,.s,.s,.s,.s,.s])) dI (ah dN)=true:=by decide+kernel
theorem wQ(T:Tx K mg):Tab P w K mg base ["step"] [] ["len"] [(.io (.o ["ahead","last","factor_ahead","factor_last","lead","height","sign","scale","known"] [.s,.s,.s,.s,.s,.s,.s,.s,.s]))] [(0,0)] (cu [(yH T.ao)]) (lI [(.cls T.ao)]) 4:=by
 refine⟨fun j x e h=>?_,fun j g x e h=>?_,fun j x e=>?_,?_,qK K,fun j x C e h=>?_⟩
 ·match j,e with
  |0,e=>cases h
  |_+1,e=>simp at e
 ·simp only[Fu,QQ,or_false,Prod.mk.injEq]at h
  rcases h with⟨rfl,rfl⟩
  ·cases e;exact T.m9.eV (m:=(.io (.o ["ahead","last","factor_ahead","factor_last","lead","height","sign","scale","known"] [.s,.s,.s,.s,.s,.s,.s,.s,.s]))) (wN T) (by walk_at "len_of") (by decide) rfl
 ·match j,e with
  |_+0,e=>simp at e
 ·intro x h
  simp only[Fu,QQ,or_false]at h
  rcases h with rfl
  ·exact T.fq
 ·match j,e with
  |_+0,e=>simp at e
theorem wR(T:Tx K mg):aH P w K mg base (cK P w) 5 T.mZ T.m5 ["self"] (dU K 1 (.io (.o ["ahead","last","factor_ahead","factor_last","lead","height","sign","scale","known"] [.s,.s,.s,.s,.s,.s,.s,.s,.s])) (uu T.ao)):=
 pK T.m6.F sW (wQ T) dI [(0,(.o ["ahead","last","factor_ahead","factor_last","lead","height","sign","scale","known"] [.s,.s,.s,.s,.s,.s,.s,.s,.s]))] (.o ["ahead","last","factor_ahead","factor_last","lead","height","sign","scale","known"] [.s,.s,.s,.s,.s,.s,.s,.s,.s]) (uu T.ao) (by decide) (by decide) (by decide) (by decide) wO (by walk_at "len_of") vU
theorem o9:aP ⟨["self","drop"],(aa b9).names,[(0,(.o ["ahead","last","factor_ahead","factor_last","lead","height","sign","scale","known"] [.s,.s,.s,.s,.s,.s,.s,.s,.s]))],["next_height"],[],["len"],[.s],[]⟩ (bu [.s]) (.io (.o ["ahead","last","factor_ahead","factor_last","lead","height","sign","scale","known"] [.s,.s,.s,.s,.s,.s,.s,.s,.s])) b7 (ah b9)=true:=by decide+kernel
theorem pq(T:Tx K mg):aH P w K mg base (cK P w) 3 T.jj T.jk ["self"] (dU K 1 (.io (.o ["ahead","last","factor_ahead","factor_last","lead","height","sign","scale","known"] [.s,.s,.s,.s,.s,.s,.s,.s,.s])) (iK T.ao)):=
 pK T.jl.F n6 (tab_of (k:=2) (by exact⟨T.gR.eV (m:=.s) (kK T) rfl (by walk_at "len_of") (by decide),trivial⟩) (by exact⟨T.fq,trivial⟩)) b7 [(0,(.o ["ahead","last","factor_ahead","factor_last","lead","height","sign","scale","known"] [.s,.s,.s,.s,.s,.s,.s,.s,.s]))] (.o ["ahead","last","factor_ahead","factor_last","lead","height","sign","scale","known"] [.s,.s,.s,.s,.s,.s,.s,.s,.s]) (iK T.ao) (by decide) (by decide) (by decide) (by decide) o9 (by walk_at "len_of") oX
theorem wU:aP ⟨["one","other","degree","other_degree","top","bottom","numbers","content","other_numbers","other_bottom","other_content","chain"],(aa bK).names,[(11,(.o ["ahead","last","factor_ahead","factor_last","lead","height","sign","scale","known"] [.s,.s,.s,.s,.s,.s,.s,.s,.s]))],["resultant","primitive","Chain","walk","outcome","raised","fraction"],[],["len"],[.s,.s,(.o ["ahead","last","factor_ahead","factor_last","lead","height","sign","scale","known"] [.s,.s,.s,.s,.s,.s,.s,.s,.s]),(.io (.o ["ahead","last","factor_ahead","factor_last","lead","height","sign","scale","known"] [.s,.s,.s,.s,.s,.s,.s,.s,.s])),(.io (.o ["ahead","last","factor_ahead","factor_last","lead","height","sign","scale","known"] [.s,.s,.s,.s,.s,.s,.s,.s,.s])),.s,.s],[(3,0),(4,0)]⟩ (bu [.s,.s,(.o ["ahead","last","factor_ahead","factor_last","lead","height","sign","scale","known"] [.s,.s,.s,.s,.s,.s,.s,.s,.s]),(.io (.o ["ahead","last","factor_ahead","factor_last","lead","height","sign","scale","known"] [.s,.s,.s,.s,.s,.s,.s,.s,.s])),(.io (.o ["ahead","last","factor_ahead","factor_last","lead","height","sign","scale","known"] [.s,.s,.s,.s,.s,.s,.s,.s,.s])),.s,.s]) .s qX (ah bK)=true:=by decide+kernel
theorem wV(T:Tx K mg):Tab P w K mg base ["resultant","primitive","Chain","walk","outcome","raised","fraction"] [] ["len"] [.s,.s,(.o ["ahead","last","factor_ahead","factor_last","lead","height","sign","scale","known"] [.s,.s,.s,.s,.s,.s,.s,.s,.s]),(.io (.o ["ahead","last","factor_ahead","factor_last","lead","height","sign","scale","known"] [.s,.s,.s,.s,.s,.s,.s,.s,.s])),(.io (.o ["ahead","last","factor_ahead","factor_last","lead","height","sign","scale","known"] [.s,.s,.s,.s,.s,.s,.s,.s,.s])),.s,.s] [(3,0),(4,0)] (cu [Wq,ef,(qT T.ao),(uu T.ao),(iK T.ao),eH,fS]) (lI [(.cls T.ao)]) 5:=by
 refine⟨fun j x e h=>?_,fun j g x e h=>?_,fun j x e=>?_,?_,qK K,fun j x C e h=>?_⟩
 ·match j,e with
  |0,e=>cases e;exact T.bN.eV (m:=.s) (Hg (k:=1)) rfl (by walk_at "len_of") (by decide)
  |1,e=>cases e;exact T.oO.eV (m:=.s) (zy T) rfl (by walk_at "len_of") (by decide)
  |2,e=>cases e;exact⟨_,_,2,T.jZ.c,LZ T,by decide,by walk_at "len_of"⟩
  |3,e=>cases h
  |4,e=>cases h
  |5,e=>cases e;exact T.mU.eV (m:=.s) (rT T) rfl (by walk_at "len_of") (by decide)
  |6,e=>cases e;exact T.rL.eV (m:=.s) (A7 T) rfl (by walk_at "len_of") (by decide)
  |_+7,e=>simp at e
 ·simp only[Fu,QQ,or_false,Prod.mk.injEq]at h
  rcases h with⟨rfl,rfl⟩|⟨rfl,rfl⟩
  ·cases e;exact T.m6.eV (m:=(.io (.o ["ahead","last","factor_ahead","factor_last","lead","height","sign","scale","known"] [.s,.s,.s,.s,.s,.s,.s,.s,.s]))) (wR T) (by walk_at "len_of") (by decide) rfl
  ·cases e;exact T.jl.eV (m:=(.io (.o ["ahead","last","factor_ahead","factor_last","lead","height","sign","scale","known"] [.s,.s,.s,.s,.s,.s,.s,.s,.s]))) (pq T) (by walk_at "len_of") (by decide) rfl
 ·match j,e with
  |_+0,e=>simp at e
 ·intro x h
  simp only[Fu,QQ,or_false]at h
  rcases h with rfl
  ·exact T.fq
 ·match j,e with
  |_+0,e=>simp at e
theorem nq(T:Tx K mg):aH P w K mg base (cK P w) 6 T.fj T.fk ["one","other"] (dU K 2 .s qW):=
 aS T.bN.F i6 (wV T) qX [(11,(.o ["ahead","last","factor_ahead","factor_last","lead","height","sign","scale","known"] [.s,.s,.s,.s,.s,.s,.s,.s,.s]))] .s qW (by decide) (by decide) rfl wU yM RN
theorem wW:aP ⟨["one","other","degree","other_degree","top","bottom","numbers","content","other_numbers","other_bottom","other_content","chain"],(aa bK).names,[(11,(.o ["ahead","last","factor_ahead","factor_last","lead","height","sign","scale","known"] [.s,.s,.s,.s,.s,.s,.s,.s,.s]))],["resultant"],[],["len"],[.s],[]⟩ (bu [.s]) .s qY (ah bK)=true:=by decide+kernel
theorem wX(T:Tx K mg):aH P w K mg base (cK P w) 7 T.fj T.fk ["one","other"] (dU K 2 .s uw):=
 aS T.bN.F i6 (tab_of (k:=6) (by exact⟨T.bN.eV (m:=.s) (nq T) rfl yM (by decide),trivial⟩) (by exact⟨T.fq,trivial⟩)) qY [(11,(.o ["ahead","last","factor_ahead","factor_last","lead","height","sign","scale","known"] [.s,.s,.s,.s,.s,.s,.s,.s,.s]))] .s uw (by decide) (by decide) rfl wW HY RQ
theorem zC(T:Tx K mg):aH P w K mg base (cK P w) 7 T.fj T.fk ["one","other"] (dU K 2 .s ek):=
 RS (nq T) (wX T) (by decide) (by decide)
theorem wY:aP ⟨["one","other","degree","other_degree","top","bottom","numbers","content","other_numbers","other_bottom","other_content","chain"],(aa bK).names,[(11,(.o ["ahead","last","factor_ahead","factor_last","lead","height","sign","scale","known"] [.s,.s,.s,.s,.s,.s,.s,.s,.s]))],[],["NoRow"],[],[],[]⟩ (bu []) .s rm (ah bK)=true:=by decide+kernel
theorem wZ(T:Tx K mg):Tab P w K mg base [] ["NoRow"] [] [] [] (cu []) (lI [(.cls T.aE)]) 0:=by
 refine⟨fun j x e h=>?_,fun j g x e h=>?_,fun j x e=>?_,?_,qK K,fun j x C e h=>?_⟩
 ·match j,e with
  |_+0,e=>simp at e
 ·cases h
 ·match j,e with
  |0,e=>cases e;exact⟨_,.ref T.aE,T.Dd,rfl,fun _ _=>by rw[lI,Rep]⟩
  |_+1,e=>simp at e
 ·intro x h;cases h
 ·match j,e with
  |0,e=>cases h;exact T.wJ
  |_+1,e=>simp at e
theorem w4(T:Tx K mg):aH P w K mg base (cK P w) 1 T.fj T.fk ["one","other"] (dU K 2 .s (Il T.aE)):=
 aS T.bN.F i6 (wZ T) rm [(11,(.o ["ahead","last","factor_ahead","factor_last","lead","height","sign","scale","known"] [.s,.s,.s,.s,.s,.s,.s,.s,.s]))] .s (Il T.aE) (by decide) (by decide) rfl wY (by walk_at "len_of") RY
theorem Sh:aP ⟨["_law_script","_law_place"],(aa rA).names,[],[],[],["sum"],[],[]⟩ (bu []) .s qV (ah rA)=true:=by decide+kernel
theorem Si(T:Tx K mg):aH P w K mg base (cK P w) 1 T.IB T.IC ["_law_script","_law_place"] (dU K 2 .s CB):=
 aS T.ID.F LX (tab_of (k:=0) (Ss:=[]) (by exact trivial) (by exact⟨T.zu,trivial⟩)) qV [] .s CB (by decide) (by decide) rfl Sh (by walk_at "len_of") RG
theorem L3:aP ⟨["_law_cell_here","_law_many","_law_rest","_law_one","_law_two","_law_found","_law_k","_law_number_here"],(aa mP).names,[(5,.f)],[],[],["abs","range"],[],[]⟩ (bu []) .f mw (ah mP)=true:=by decide+kernel
theorem De(T:Tx K mg):aH P w K mg base (cK P w) 1 T.C1 T.C2 ["_law_cell_here","_law_many"] (dU K 2 .f qO):=
 aS T.wC.F Iq (tab_of (k:=0) (Ss:=[]) (by exact trivial) (by exact⟨T.rM,T.cG,trivial⟩)) mw [(5,.f)] .f qO (by decide) (by decide) rfl L3 (by walk_at "len_of") Ls
theorem L5:aP ⟨["_law_one","_law_other"],(aa mQ).names,[],[],[],["abs"],[],[]⟩ (bu []) .s mq (ah mQ)=true:=by decide+kernel
theorem Dg(T:Tx K mg):aH P w K mg base (cK P w) 1 T.C3 T.C4 ["_law_one","_law_other"] (dU K 2 .s yj):=
 aS T.wD.F Ir (tab_of (k:=0) (Ss:=[]) (by exact trivial) (by exact⟨T.rM,trivial⟩)) mq [] .s yj (by decide) (by decide) rfl L5 (by walk_at "len_of") Lm
theorem IV:aP ⟨["_law_top","_law_bottom","_law_share"],(aa jM).names,[],["_law_gcd"],[],[],[.s],[]⟩ (bu [.s]) .s jC (ah jM)=true:=by decide+kernel
theorem nt(T:Tx K mg):aH P w K mg base (cK P w) 2 T.zk T.zm ["_law_top","_law_bottom"] (dU K 2 .s gB):=
 aS T.jO.F ES (tab_of (k:=1) (by exact⟨T.wD.eV (m:=.s) (Dg T) rfl (by walk_at "len_of") (by decide),trivial⟩) (by exact trivial)) jC [] .s gB (by decide) (by decide) rfl IV (by walk_at "len_of") Ht
theorem IX:aP ⟨["_law_x","_law_y","_law_z","_law_kind","_law_top","_law_bottom"],(aa jN).names,[],["_law_lowest"],[],[],[.s],[]⟩ (bu [.s]) .s jE (ah jN)=true:=by decide+kernel
theorem IY(T:Tx K mg):aH P w K mg base (cK P w) 3 T.zo T.zp ["_law_x","_law_y","_law_z","_law_kind"] (dU K 4 .s pQ):=
 aS T.zq.F ET (tab_of (k:=2) (by exact⟨T.jO.eV (m:=.s) (nt T) rfl (by walk_at "len_of") (by decide),trivial⟩) (by exact trivial)) jE [] .s pQ (by decide) (by decide) rfl IX (by walk_at "len_of") Hx
theorem k_whole:aP ⟨["_law_found"],(aa mR).names,[],[],[],["isinstance","int","bool"],[],[]⟩ (bu []) .s mH (ah mR)=true:=by decide+kernel
theorem L6(T:Tx K mg):aH P w K mg base (cK P w) 1 T.C5 T.C6 ["_law_found"] (dU K 1 .s vV):=
 aS T.C7.F Iu (tab_of (k:=0) (Ss:=[]) (by exact trivial) (by exact⟨T.aJ,T.uH,T.rN,trivial⟩)) mH [] .s vV (by decide) (by decide) rfl k_whole (by walk_at "len_of") LJ
theorem tH:aP ⟨["_law_found"],(aa cY).names,[],["_law_whole","_law_gcd"],[],["isinstance","tuple","len"],[.s,.s],[]⟩ (bu [.s,.s]) .s cU (ah cY)=true:=by decide+kernel
theorem tK(T:Tx K mg):aH P w K mg base (cK P w) 2 T.kH T.kI ["_law_found"] (dU K 1 .s fL):=
 aS T.kJ.F rH (tab_of (k:=1) (by exact⟨T.C7.eV (m:=.s) (L6 T) rfl (by walk_at "len_of") (by decide),T.wD.eV (m:=.s) (Dg T) rfl (by walk_at "len_of") (by decide),trivial⟩) (by exact⟨T.aJ,T.nj,T.fq,trivial⟩)) cU [] .s fL (by decide) (by decide) rfl tH (by walk_at "len_of") sS
theorem V1:aP ⟨["_law_cell_here","_law_most","_law_kind","_law_xs","_law_found","_law_k","_law_number_here"],(aa s_row).names,[(4,.f)],["_law_drawn","_law_number"],[],["range"],[.f,.s],[]⟩ (bu [.f,.s]) .f yr (ah s_row)=true:=by decide+kernel
theorem V2(T:Tx K mg):aH P w K mg base (cK P w) 4 T.Nr T.Nt ["_law_cell_here","_law_most","_law_kind"] (dU K 3 .f Lu):=
 aS T.Nu.F R5 (tab_of (k:=3) (by exact⟨T.wC.eV (m:=.f) (De T) rfl (by walk_at "len_of") (by decide),T.zq.eV (m:=.s) (IY T) rfl (by walk_at "len_of") (by decide),trivial⟩) (by exact⟨T.cG,trivial⟩)) yr [(4,.f)] .f Lu (by decide) (by decide) rfl V1 (by walk_at "len_of") Vv
theorem V3:aP ⟨["_law_one","_law_other"],(aa yZ).names,[],["_law_lowest"],[],[],[.s],[]⟩ (bu [.s]) .s yk (ah yZ)=true:=by decide+kernel
theorem v_sum(T:Tx K mg):aH P w K mg base (cK P w) 3 T.Nv T.Nx ["_law_one","_law_other"] (dU K 2 .s (oV HAdd.hAdd)):=
 aS T.IE.F R6 (tab_of (k:=2) (by exact⟨T.jO.eV (m:=.s) (nt T) rfl (by walk_at "len_of") (by decide),trivial⟩) (by exact trivial)) yk [] .s (oV HAdd.hAdd) (by decide) (by decide) rfl V3 (by walk_at "len_of") Vt
theorem EY:aP ⟨["_law_one","_law_other"],(aa iO).names,[],["_law_lowest"],[],[],[.s],[]⟩ (bu [.s]) .s iH (ah iO)=true:=by decide+kernel
theorem uJ(T:Tx K mg):aH P w K mg base (cK P w) 3 T.uC T.uD ["_law_one","_law_other"] (dU K 2 .s (oV HMul.hMul)):=
 aS T.oh.F A4 (tab_of (k:=2) (by exact⟨T.jO.eV (m:=.s) (nt T) rfl (by walk_at "len_of") (by decide),trivial⟩) (by exact trivial)) iH [] .s (oV HMul.hMul) (by decide) (by decide) rfl EY (by walk_at "len_of") EA
theorem V4:aP ⟨["_law_row_here","_law_found"],(aa y9).names,[(1,.f)],[],[],["list"],[],[]⟩ (bu []) .f ym (ah y9)=true:=by decide+kernel
theorem v_cut(T:Tx K mg):aH P w K mg base (cK P w) 1 T.Ny T.Nz ["_law_row_here"] (dU K 1 .f Ln):=
 aS T.NB.F R7 (tab_of (k:=0) (Ss:=[]) (by exact trivial) (by exact⟨T.gS,trivial⟩)) ym [(1,.f)] .f Ln (by decide) (by decide) rfl V4 (by walk_at "len_of") Vu
theorem w6:aP ⟨["_law_one","_law_other","_law_found","_law_j","_law_k"],(aa dP).names,[(2,.f)],["_law_sum","_law_product","_law_cut"],[],["max","len","range"],[.s,.s,.f],[]⟩ (bu [.s,.s,.f]) .f dj (ah dP)=true:=by decide+kernel
theorem xg(T:Tx K mg):aH P w K mg base (cK P w) 4 T.nc T.nh ["_law_one","_law_other"] (dU K 2 .f eW):=
 aS T.ni.F sY (tab_of (k:=3) (by exact⟨T.IE.eV (m:=.s) (v_sum T) rfl (by walk_at "len_of") (by decide),T.oh.eV (m:=.s) (uJ T) rfl (by walk_at "len_of") (by decide),T.NB.eV (m:=.f) (v_cut T) rfl (by walk_at "len_of") (by decide),trivial⟩) (by exact⟨T.rO,T.fq,T.cG,trivial⟩)) dj [(2,.f)] .f eW (by decide) (by decide) rfl w6 (by walk_at "len_of") vI
theorem L7:aP ⟨["_law_one","_law_other","_law_found","_law_size","_law_row_here","_law_many","_law_k"],(aa mT).names,[(2,.f)],[],[],["len","range","list","reversed"],[],[]⟩ (bu []) .f mL (ah mT)=true:=by decide+kernel
theorem L8(T:Tx K mg):aH P w K mg base (cK P w) 1 T.C8 T.C9 ["_law_one","_law_other"] (dU K 2 .f wj):=
 aS T.Dc.F Iv (tab_of (k:=0) (Ss:=[]) (by exact trivial) (by exact⟨T.fq,T.cG,T.gS,T.gi,trivial⟩)) mL [(2,.f)] .f wj (by decide) (by decide) rfl L7 (by walk_at "len_of") LO
theorem V5:aP ⟨["_law_lines_here","_law_found","_law_at","_law_some","_law_kept","_law_head","_law_k","_law_share"],(aa zc).names,[(0,.f)],["_law_product","_law_lowest","_law_sum"],[],["range","len"],[.s,.s,.s],[]⟩ (bu [.s,.s,.s]) (.io .f) yW (ah zc)=true:=by decide+kernel
theorem V6(T:Tx K mg):aH P w K mg base (cK P w) 4 T.NC T.ND ["_law_lines_here"] (dU K 1 (.io .f) LQ):=
 pK T.NF.F R8 (tab_of (k:=3) (by exact⟨T.oh.eV (m:=.s) (uJ T) rfl (by walk_at "len_of") (by decide),T.jO.eV (m:=.s) (nt T) rfl (by walk_at "len_of") (by decide),T.IE.eV (m:=.s) (v_sum T) rfl (by walk_at "len_of") (by decide),trivial⟩) (by exact⟨T.cG,T.fq,trivial⟩)) yW [(0,.f)] .f LQ (by decide) (by decide) (by decide) (by decide) V5 (by walk_at "len_of") VU
theorem Sj:aP ⟨["_law_script","_law_at","_law_xs","_law_kind","_law_found","_law_k","_law_row_here"],(aa rC).names,[(4,.f)],["_law_drawn","_law_cell","_law_row","_law_multiplied"],[],["range","int"],[.f,.s,.f,.f],[]⟩ (bu [.f,.s,.f,.f]) .s jJ (ah rC)=true:=by decide+kernel
theorem Sk(T:Tx K mg):aH P w K mg base (cK P w) 5 T.II T.IJ ["_law_script","_law_at"] (dU K 2 .s pV):=
 aS T.IK.F LY (tab_of (k:=4) (by exact⟨T.wC.eV (m:=.f) (De T) rfl (by walk_at "len_of") (by decide),T.ID.eV (m:=.s) (Si T) rfl (by walk_at "len_of") (by decide),T.Nu.eV (m:=.f) (V2 T) rfl (by walk_at "len_of") (by decide),T.ni.eV (m:=.f) (xg T) rfl (by walk_at "len_of") (by decide),trivial⟩) (by exact⟨T.cG,T.uH,trivial⟩)) jJ [(4,.f)] .s pV (by decide) (by decide) rfl Sj (by walk_at "len_of") Ik
noncomputable def NI(T:Tx K mg)(C:Addr)(k:Int):Prop:=uT K C/\PySem.W.kitOne K (.ref C) (.ref T.cC)=some (decide ((0:Int)=k))/\PySem.W.kitOne K (.ref C) (.ref T.aE)=some (decide ((1:Int)=k))/\PySem.W.kitOne K (.ref C) (.ref T.c9)=some (decide ((2:Int)=k))/\PySem.W.kitOne K (.ref C) (.ref T.fu)=some (decide ((3:Int)=k))/\
 PySem.W.kitOne K (.ref C) (.ref T.fy)=some (decide ((4:Int)=k))/\PySem.W.kitOne K (.ref C) (.ref T.fz)=some (decide ((5:Int)=k))/\PySem.W.kitOne K (.ref C) (.ref T.fD)=some (decide ((6:Int)=k))/\PySem.W.kitOne K (.ref C) (.type "ValueError")=some true
@[irreducible] noncomputable def rW(T:Tx K mg):Sp:=fun vs H Q _=>∃(a C:Addr) (k:Int),vs=[.ref a,.int k]/\H a=some (DJ a C)/\NI T C k/\∀H',ay H H'->Q (.bl true) H'
theorem EZ{T:Tx K mg}{vs:List V}{H:Hp}{Q:VK}{E:XK}(h:∃(a C:Addr) (k:Int),vs=[.ref a,.int k]/\H a=some (DJ a C)/\NI T C k/\∀H',ay H H'->Q (.bl true) H'):rW T vs H Q E:=by
 unfold rW
 exact h
theorem Ma(T:Tx K mg):aH P w K mg base JM 1 T.IF T.IG ["_law_e","_law_sort"] (rW T):=by
 refine T.wF.F.ok wB (fun vs H Q E h=>?_) (fun cdv A outer s H vs Q E hr h=>?_)
 ·unfold rW at h
  obtain⟨a,C,k,rfl,_⟩:=h
  rfl
 unfold rW at h
 obtain⟨a,C,k,rfl,ha,⟨eC,k0,k1,k2,k3,k4,k5,k6,kv⟩,q⟩:=h
 have hb:([decide ((0:Int)=k),decide ((1:Int)=k),decide ((2:Int)=k),decide ((3:Int)=k),decide ((4:Int)=k),decide ((5:Int)=k),decide ((6:Int)=k)]:List Bool)=(List.range 7).map fun j:Nat=>decide ((j:Int)=k):=rfl
 generalize decide ((0:Int)=k)=b0 at*
 generalize decide ((1:Int)=k)=b1 at*
 generalize decide ((2:Int)=k)=b2 at*
 generalize decide ((3:Int)=k)=b3 at*
 generalize decide ((4:Int)=k)=b4 at*
 generalize decide ((5:Int)=k)=b5 at*
 generalize decide ((6:Int)=k)=b6 at*
 refine⟨_,(@bU _ _ _ _ _ (kM (i:=2) wB.nd rfl (by first|exact Or.inl rfl|exact Or.inr rfl) (uO (au (cy cz (by rfl) T.aJ (by rfl) (au (pv 0) (au (gx (v:=.ref T.cC) rfl T.A5 rfl) aZ))) (au (cy cz (by rfl) T.aJ (by rfl) (au (pv 0) (au (gx (v:=.ref T.aE) rfl T.Dd rfl) aZ))) (au (cy cz (by rfl) T.aJ (by rfl) (au (pv 0) (au (gx (v:=.ref T.c9) rfl T.EU rfl) aZ))) (au (cy cz (by rfl) T.aJ (by rfl) (au (pv 0) (au (gx (v:=.ref T.fu) rfl T.IL rfl) aZ))) aZ))))))
  (@bU _ _ _ _ _ (kM (i:=2) wB.nd rfl (by first|exact Or.inl rfl|exact Or.inr rfl) (TL OA (pv 2) (uO (au (cy cz (by rfl) T.aJ (by rfl) (au (pv 0) (au (gx (v:=.ref T.fy) rfl T.IM rfl) aZ))) (au (cy cz (by rfl) T.aJ (by rfl) (au (pv 0) (au (gx (v:=.ref T.fz) rfl T.IP rfl) aZ))) (au (cy cz (by rfl) T.aJ (by rfl) (au (pv 0) (au (gx (v:=.ref T.fD) rfl T.IQ rfl) aZ))) aZ))))))
  (lJ (pY (zK (cy cz (by rfl) T.aJ (by rfl) (au (pv 0) (au (Bm (v:=.ty "ValueError") (u:=.type "ValueError") (by rfl) T.dQ (by rfl) rfl) aZ))) (uL (uN (JZ hr.units) (pv 2) (BA ["_law_k"] ["_law_e","_law_sort","_law_sorts"] rfl (by show dX _ (aa wm) ["_law_e","_law_sort","_law_sorts"] ["_law_e","_law_sort","_law_sorts"] ["_law_k"]=true;decide+kernel) (tM rfl T.cG (au iP aZ)) (fun _ _ _ _=>(Bp (i:=0) (show List.Nodup ((["_law_k"]:List Str)++(["_law_e","_law_sort","_law_sorts"]:List Str)) by decide+kernel) rfl (Or.inl rfl) (Or.inr rfl))) (fun _ _ _ _=>F4) (fun _ _ _ _=>(uN MI (pv 0) (pv 2) (p8 _)))) (p8 _)))))))),?_⟩
 refine⟨_,rfl,a,C,_,_,_,rfl,ha,eC,.own _,k0,?_⟩
 refine⟨_,rfl,a,C,_,_,_,rfl,ha,eC,.own _,k1,?_⟩
 refine⟨_,rfl,a,C,_,_,_,rfl,ha,eC,.own _,k2,?_⟩
 refine⟨_,rfl,a,C,_,_,_,rfl,ha,eC,.own _,k3,?_⟩
 refine⟨iy (by simp),fun p1 hp1=>?_⟩
 have s1:=aL hp1 (.lst [V.bl b0,V.bl b1,V.bl b2,V.bl b3])
 have e1:upd H p1 (.lst [V.bl b0,V.bl b1,V.bl b2,V.bl b3]) p1=some (.lst [V.bl b0,V.bl b1,V.bl b2,V.bl b3]):=aD
 generalize upd H p1 (.lst [V.bl b0,V.bl b1,V.bl b2,V.bl b3])=H1 at*
 have ha1:=s1 _ _ ha
 refine⟨_,rfl,?_⟩
 refine⟨_,rfl,a,C,_,_,_,rfl,ha1,eC,.own _,k4,?_⟩
 refine⟨_,rfl,a,C,_,_,_,rfl,ha1,eC,.own _,k5,?_⟩
 refine⟨_,rfl,a,C,_,_,_,rfl,ha1,eC,.own _,k6,?_⟩
 refine⟨iy (by simp),fun p2 hp2=>?_⟩
 refine⟨p1,p2,_,_,rfl,rfl,xD e1 hp2,aD,iy (by simp),fun p3 hp3=>?_⟩
 have Z8:ay H (upd (upd H1 p2 (.lst [V.bl b4,V.bl b5,V.bl b6])) p3 (.lst ([V.bl b0,V.bl b1,V.bl b2,V.bl b3]++[V.bl b4,V.bl b5,V.bl b6]))):=s1.trans ((aL hp2 _).trans (aL hp3 _))
 have h3:upd (upd H1 p2 (.lst [V.bl b4,V.bl b5,V.bl b6])) p3 (.lst ([V.bl b0,V.bl b1,V.bl b2,V.bl b3]++[V.bl b4,V.bl b5,V.bl b6])) p3=some (.lst ([b0,b1,b2,b3,b4,b5,b6].map V.bl)):=aD
 generalize upd (upd H1 p2 (.lst [V.bl b4,V.bl b5,V.bl b6])) p3 (.lst ([V.bl b0,V.bl b1,V.bl b2,V.bl b3]++[V.bl b4,V.bl b5,V.bl b6]))=H3 at*
 refine⟨_,rfl,a,C,_,_,_,rfl,Z8 _ _ ha,eC,.ty _,kv,?_⟩
 repeat refine⟨_,rfl,?_⟩
 refine⟨by decide,by decide,fun D hD=>Ac (n:=7) (fun i ys H2=>i<=7/\ay H3 H2/\H2 D=some (.lst ys)/\ys=(((List.range i).map fun j:Nat=>decide ((j:Int)=k)).map V.bl)) ?_ ?_ ?_⟩
 ·exact⟨by decide,aL hD _,aD,rfl⟩
 ·rintro i ys H2 hi ⟨_,sm,hy,rfl⟩
  refine⟨_,rfl,_,rfl,rfl,?_⟩
  refine Um hi hy (by rw[Ap,Ap,He];exact DI (by omega)) ⟨hi,FT sm hD _,aD,?_⟩
  rw[List.range_succ,Fm,Fm]
  congr 1
  show[V.bl (decide (V.int (0+(i:Int))=V.int k))]=[V.bl (decide ((i:Int)=k))]
  congr 2
  rw[Int.zero_add]
  by_cases h:(i:Int)=k
  ·rw[Hn h,Hn (TB V.int h)]
  ·rw[P3 h,P3 (fun z=>h (V.int.inj z))]
 ·rintro ys H2 ⟨_,sm,hy,rfl⟩
  refine⟨p3,D,_,_,rfl,rfl,ir.of (sm _ _ h3),ir.of hy,?_⟩
  rw[Hn hb]
  exact q _ (Z8.trans sm)
theorem E2(T:Tx K mg):aH P w K mg base (cK P w) 2 T.uE T.uF ["_law_one","_law_other"] (dU K 2 .s rq):=by
 refine T.uG.F.Wh i7 (fun vs H Q E h=>?_) (fun cdv A outer s H vs Q E hr h=>?_)
 ·obtain⟨A,ws,P1,R,l,r,_⟩:=h
  exact r.len.trans l
 obtain⟨A1,ws,P1,R,l,r,d,⟨as,bs,rfl,h0,hq⟩,c,_⟩:=h
 obtain⟨v0,v1,rfl⟩:∃v0 v1,vs=[v0,v1]:=by
  have:=r.len
  rcases vs with _|⟨a,_|⟨b,_|⟨e,t⟩⟩⟩<;>simp at this
  exact⟨a,b,rfl⟩
 refine⟨_,(@bU _ _ _ _ _ (kM (i:=2) i7.nd rfl (by first|exact Or.inl rfl|exact Or.inr rfl) zJ)
  (@bU _ _ _ _ _ (OE (i:=3) ⟨rfl,rfl⟩ i7.nd rfl rfl rfl T.wG T.wH (JP (w4 T) (hr.mono (by omega)) rfl T.bN.m T.bN.F.kp T.bN.b (au (pv 0) (au (pv 1) aZ))) (fun _=>(lJ (kM (i:=2) i7.nd rfl (by first|exact Or.inl rfl|exact Or.inr rfl) (pv 3)))))
  (lJ (pY (zK (uN Bt (pv 2) zJ (p8 _)) (uL (JA (Ma T) (hr.mono (by omega)) rfl T.wF.m T.wF.F.kp T.wF.b .nil Ue (au (pv 2) (au iP aZ))))))))),?_⟩
 refine⟨_,rfl,_,rfl,?_⟩
 refine⟨A1,_,fun _=>False,fun C=>C=T.aE,rfl,r,d,⟨as,bs,rfl,h0,rfl⟩,fun _ _ _ z=>z.elim,?_⟩
 rintro C H1 rfl s1
 refine⟨_,rfl,T.wJ,T.bC,fun a ha=>?_⟩
 refine⟨_,rfl,?_⟩
 refine⟨_,rfl,rfl,?_⟩
 refine⟨_,rfl,?_⟩
 rw[Bi (by rfl)]
 refine⟨_,rfl,?_⟩
 refine EZ ⟨a,T.aE,1,rfl,aD,⟨T.wJ,T.oi,T.sZ,T.oY,T.rP,T.rQ,T.rR,T.rS,T.lC⟩,fun H' sm=>c _ _ H' hq (s1.trans ((aL ha _).trans sm)) (.of (by rw[Rep]))⟩
theorem V7:aP ⟨["_law_script","_law_at","_law_one","_law_other","_law_handed","_law_found"],(aa zd).names,[],["_law_rows","resultant","_law_is_fraction","_law_due","_law_lines","_law_refused"],[],["range","list"],[.s,.s,.s,(.io .f),.f,.s],[]⟩ (bu [.s,.s,.s,(.io .f),.f,.s]) .s mO (ah zd)=true:=by decide+kernel
theorem V8(T:Tx K mg):aH P w K mg base (cK P w) 8 T.NG T.NH ["_law_script"] (dU K 1 .s Lk):=
 aS T.VY.F R9 (tab_of (k:=7) (by exact⟨T.IK.eV (m:=.s) (Sk T) rfl (by walk_at "len_of") (by decide),T.bN.eV (m:=.s) (zC T) rfl (by walk_at "len_of") (by decide),T.kJ.eV (m:=.s) (tK T) rfl (by walk_at "len_of") (by decide),T.NF.eV (m:=(.io .f)) (V6 T) rfl (by walk_at "len_of") (by decide),T.Dc.eV (m:=.f) (L8 T) rfl (by walk_at "len_of") (by decide),T.uG.eV (m:=.s) (E2 T) rfl (by walk_at "len_of") (by decide),trivial⟩) (by exact⟨T.cG,T.gS,trivial⟩)) mO [] .s Lk (by decide) (by decide) rfl V7 (by walk_at "len_of") LW
end
theorem Te{K:PySem.W.Frag}{x:Str}{st:Stmt}{f:Addr}{od an:Option Addr}{sl:Array (Option Value)}{oc kV dc pm cd ct:Value}(a:PySem.W.nsIn K mainGlobals x=some (some (.ref f)))(l:K.lookup f=some ⟨oc,od,.func (PySem.W.fnOf x x (cE st) (ah st) (aa st) .none kV dc pm an cd ct),sl⟩)(c:PySem.W.codeIn K cd x=true)(k:PySem.W.keepIn K (.ref f)=true):Hd K x st:=⟨f,od,an,sl,oc,kV,dc,pm,cd,ct,a,l,c,k⟩
theorem Tf{K:PySem.W.Frag}{C:Addr}{x q:Str}{st:Stmt}{f:Addr}{od an:Option Addr}{sl:Array (Option Value)}{oc kV dc pm cd ct:Value}(a:PySem.W.findIn K (.ref C) x=some (some (.ref f)))(i:PySem.W.isFn K (.ref f)=true)(l:K.lookup f=some ⟨oc,od,.func (PySem.W.fnOf x q (cE st) (ah st) (aa st) .none kV dc pm an cd ct),sl⟩)(c:PySem.W.codeIn K cd q=true)(k:PySem.W.keepIn K (.ref f)=true):Hm K C x q st:=⟨f,od,an,sl,oc,kV,dc,pm,cd,ct,a,i,l,c,k⟩
theorem pA{x q:Str}{st:Stmt}{p0:Str}(h:∀(kV doc pm:Value) (an:Option Addr) (cdv ct a0:Value),bindArgs (PySem.W.fnOf x q (cE st) (ah st) (aa st) .none kV doc pm an cdv ct) ⟨[a0],[]⟩=pure ([p0].zip [a0])):jU x q st [p0]:=fun kV doc pm an cdv ct us hl=>match us,hl with|[a0],_=>h kV doc pm an cdv ct a0
theorem gU{x q:Str}{st:Stmt}{p0 p1:Str}(h:∀(kV doc pm:Value) (an:Option Addr) (cdv ct a0 a1:Value),bindArgs (PySem.W.fnOf x q (cE st) (ah st) (aa st) .none kV doc pm an cdv ct) ⟨[a0,a1],[]⟩=pure ([p0,p1].zip [a0,a1])):jU x q st [p0,p1]:=fun kV doc pm an cdv ct us hl=>match us,hl with|[a0,a1],_=>h kV doc pm an cdv ct a0 a1
theorem Sl{x q:Str}{st:Stmt}{p0 p1 p2:Str}(h:∀(kV doc pm:Value) (an:Option Addr) (cdv ct a0 a1 a2:Value),bindArgs (PySem.W.fnOf x q (cE st) (ah st) (aa st) .none kV doc pm an cdv ct) ⟨[a0,a1,a2],[]⟩=pure ([p0,p1,p2].zip [a0,a1,a2])):jU x q st [p0,p1,p2]:=fun kV doc pm an cdv ct us hl=>match us,hl with|[a0,a1,a2],_=>h kV doc pm an cdv ct a0 a1 a2
theorem V9{x q:Str}{st:Stmt}{p0 p1 p2 p3:Str}(h:∀(kV doc pm:Value) (an:Option Addr) (cdv ct a0 a1 a2 a3:Value),bindArgs (PySem.W.fnOf x q (cE st) (ah st) (aa st) .none kV doc pm an cdv ct) ⟨[a0,a1,a2,a3],[]⟩=pure ([p0,p1,p2,p3].zip [a0,a1,a2,a3])):jU x q st [p0,p1,p2,p3]:=fun kV doc pm an cdv ct us hl=>match us,hl with|[a0,a1,a2,a3],_=>h kV doc pm an cdv ct a0 a1 a2 a3
theorem all_mk{l:PySem.W.OpenLaw}{w:World}{K:PySem.W.Frag}{h:Heap}{mg:Str->Option Value}{fa:Addr}(X:K.In h)(G:h.Ns mainGlobals mg)(hfa:mg "law"=some (.ref fa))
 {ao:Addr} (rX:PySem.W.nsIn K mainGlobals "Chain"=some (some (.ref ao))) (rY:PySem.W.plainGet K ao Str.empty=true) (rZ:PySem.W.hasDictIn K ao=true) (r6:PySem.W.plainOver K ao=true) (r8:PySem.W.findIn K (.ref ao) "__setattr__"=some (some (.builtin "object.__setattr__"))) (r9:PySem.W.makesIn K ao=true) (sd:PySem.W.keepIn K (.ref ao)=true)
 (gW:PySem.W.findIn K (.ref ao) "ahead"=some none)
 (i8:PySem.W.findIn K (.ref ao) "last"=some none)
 (cD:PySem.W.findIn K (.ref ao) "factor_ahead"=some none)
 (cI:PySem.W.findIn K (.ref ao) "factor_last"=some none)
 (i9:PySem.W.findIn K (.ref ao) "lead"=some none)
 (gj:PySem.W.findIn K (.ref ao) "height"=some none)
 (ja:PySem.W.findIn K (.ref ao) "sign"=some none)
 (gX:PySem.W.findIn K (.ref ao) "scale"=some none)
 (gY:PySem.W.findIn K (.ref ao) "known"=some none)
 (a0:Hd K "gcd" yX)
 (a1:Hd K "turn" Ip)
 (a2:Hd K "turned" yY)
 (a3:Hd K "raised" jK)
 (a4:Hd K "fraction" gh)
 (a5:Hd K "cleared" iM)
 (a6:Hd K "trimmed" iN)
 (a7:Hd K "scaled" jL)
 (a8:Hd K "whole_plus" dM)
 (a9:Hd K "whole_minus" cV)
 (Yu:Hd K "whole_times" cW)
 (Yv:Hd K "whole_divided" b8)
 (Yw:Hd K "shortened" e9)
 (Yx:Hm K ao "__init__" "Chain.__init__" gQ)
 (Yy:Hm K ao "walk" "Chain.walk" dN)
 (Yz:Hm K ao "step" "Chain.step" dO)
 (YA:Hm K ao "outcome" "Chain.outcome" b9)
 (YB:Hd K "next_height" cX)
 (YC:Hd K "primitive" fh)
 (YD:Hd K "resultant" bK)
 (YE:Hd K "_law_cell" rA)
 (YF:Hd K "_law_drawn" mP)
 (YG:Hd K "_law_gcd" mQ)
 (YH:Hd K "_law_lowest" jM)
 (YI:Hd K "_law_number" jN)
 (YJ:Hd K "_law_whole" mR)
 (YK:Hd K "_law_is_fraction" cY)
 (YL:Hd K "_law_row" s_row)
 (YM:Hd K "_law_sum" yZ)
 (YN:Hd K "_law_product" iO)
 (YO:Hd K "_law_cut" y9)
 (YQ:Hd K "_law_multiplied" dP)
 (a32:Hd K "_law_only" wm)
 (YR:Hd K "_law_lines" mT)
 (YS:Hd K "_law_due" zc)
 (YT:Hd K "_law_refused" nY)
 (YU:Hd K "_law_rows" rC)
 (YV:Hd K "law" zd)
 (dQ:PySem.W.nsIn K mainGlobals "ValueError"=some none)
 (rM:PySem.W.nsIn K mainGlobals "abs"=some none)
 (rN:PySem.W.nsIn K mainGlobals "bool"=some none)
 (c8:PySem.W.nsIn K mainGlobals "enumerate"=some none)
 (uH:PySem.W.nsIn K mainGlobals "int"=some none)
 (aJ:PySem.W.nsIn K mainGlobals "isinstance"=some none)
 (fq:PySem.W.nsIn K mainGlobals "len"=some none)
 (gS:PySem.W.nsIn K mainGlobals "list"=some none)
 (rO:PySem.W.nsIn K mainGlobals "max"=some none)
 (cG:PySem.W.nsIn K mainGlobals "range"=some none)
 (gi:PySem.W.nsIn K mainGlobals "reversed"=some none)
 (zu:PySem.W.nsIn K mainGlobals "sum"=some none)
 (nj:PySem.W.nsIn K mainGlobals "tuple"=some none)
 {Sm:Tok} (A8:PySem.W.nsIn K mainGlobals "LONG"=some (some (.int 6000 Sm)))
 {aN:Addr} (jb:PySem.W.nsIn K mainGlobals "HouseError"=some (some (.ref aN))) (gZ:PySem.W.excIn K aN Xa "ValueError.__new__"=true) (g7:PySem.W.findIn K (.ref aN) "__getattribute__"=some (some (.builtin "BaseException.__getattribute__"))) (g8:PySem.W.findIn K (.ref aN) "__getattr__"=some none) (g9:PySem.W.findIn K (.ref aN) "__class__"=some (some (.builtin "object.__class__"))) (ia:PySem.W.mroIn K aN (.type "object")=some true) (ic:PySem.W.mroIn K aN (.type "BaseException")=some true)
 {cC:Addr} (lD:PySem.W.nsIn K mainGlobals "NoNumber"=some (some (.ref cC)))
 {aE:Addr} (xh:PySem.W.nsIn K mainGlobals "NoRow"=some (some (.ref aE))) (se:PySem.W.excIn K aE Xa "ValueError.__new__"=true) (sf:PySem.W.findIn K (.ref aE) "__getattribute__"=some (some (.builtin "BaseException.__getattribute__"))) (sj:PySem.W.findIn K (.ref aE) "__getattr__"=some none) (sr:PySem.W.findIn K (.ref aE) "__class__"=some (some (.builtin "object.__class__"))) (su:PySem.W.mroIn K aE (.type "object")=some true) (sA:PySem.W.mroIn K aE (.type "BaseException")=some true)
 {c9:Addr} (oj:PySem.W.nsIn K mainGlobals "NoValue"=some (some (.ref c9)))
 {fu:Addr} (sC:PySem.W.nsIn K mainGlobals "NoText"=some (some (.ref fu)))
 {fy:Addr} (sD:PySem.W.nsIn K mainGlobals "NoRoot"=some (some (.ref fy)))
 {fz:Addr} (sE:PySem.W.nsIn K mainGlobals "TooFar"=some (some (.ref fz)))
 {fD:Addr} (sF:PySem.W.nsIn K mainGlobals "NoLine"=some (some (.ref fD)))
 (eu:PySem.W.kitOne K (.ref aE) (.ref cC)=some false)
 (ie:PySem.W.kitOne K (.ref aE) (.ref aE)=some true)
 (fF:PySem.W.kitOne K (.ref aE) (.ref c9)=some false)
 (gk:PySem.W.kitOne K (.ref aE) (.ref fu)=some false)
 (gm:PySem.W.kitOne K (.ref aE) (.ref fy)=some false)
 (gq:PySem.W.kitOne K (.ref aE) (.ref fz)=some false)
 (gr:PySem.W.kitOne K (.ref aE) (.ref fD)=some false)
 (c6:PySem.W.kitOne K (.ref aE) (.type "ValueError")=some true)
 (bC:PySem.W.mroIn K aE (.ref aN)=some true)
 :∃fd:FuncData,(∀(s:Shared) (v:Value),BindsTo s fd ⟨[v],[]⟩ [("_law_script",v)])/\∀base:Heap,K.In base->base.Ns mainGlobals mg->aH l.prog w K mg base JM 8 fa fd ["_law_script"] (B7 K):=by
 have Mb:Af K ao ["ahead","last","factor_ahead","factor_last","lead","height","sign","scale","known"]:=⟨⟨rY,rZ,r6,r8⟩,by decide,by decide+kernel,fun x hx=>by
  simp only[Fu,QQ,or_false]at hx
  rcases hx with rfl|rfl|rfl|rfl|rfl|rfl|rfl|rfl|rfl
  ·exact gW
  ·exact i8
  ·exact cD
  ·exact cI
  ·exact i9
  ·exact gj
  ·exact ja
  ·exact gX
  ·exact gY⟩
 obtain⟨f0,d0,D0⟩:=bg (ps:=["one","other"]) X G a0 (gU fun _ _ _ _ _ _ _ _=>rfl)
 obtain⟨f1,d1,D1⟩:=bg (ps:=["one","other"]) X G a1 (gU fun _ _ _ _ _ _ _ _=>rfl)
 obtain⟨f2,d2,D2⟩:=bg (ps:=["by","one","other"]) X G a2 (Sl fun _ _ _ _ _ _ _ _ _=>rfl)
 obtain⟨f3,d3,D3⟩:=bg (ps:=["number","exponent"]) X G a3 (gU fun _ _ _ _ _ _ _ _=>rfl)
 obtain⟨f4,d4,D4⟩:=bg (ps:=["top","bottom"]) X G a4 (gU fun _ _ _ _ _ _ _ _=>rfl)
 obtain⟨f5,d5,D5⟩:=bg (ps:=["row"]) X G a5 (pA fun _ _ _ _ _ _ _=>rfl)
 obtain⟨f6,d6,D6⟩:=bg (ps:=["numbers"]) X G a6 (pA fun _ _ _ _ _ _ _=>rfl)
 obtain⟨f7,d7,D7⟩:=bg (ps:=["numbers","by"]) X G a7 (gU fun _ _ _ _ _ _ _ _=>rfl)
 obtain⟨f8,d8,D8⟩:=bg (ps:=["one","other"]) X G a8 (gU fun _ _ _ _ _ _ _ _=>rfl)
 obtain⟨f9,d9,D9⟩:=bg (ps:=["one","other"]) X G a9 (gU fun _ _ _ _ _ _ _ _=>rfl)
 obtain⟨f10,d10,D10⟩:=bg (ps:=["one","other"]) X G Yu (gU fun _ _ _ _ _ _ _ _=>rfl)
 obtain⟨f11,d11,D11⟩:=bg (ps:=["one","other"]) X G Yv (gU fun _ _ _ _ _ _ _ _=>rfl)
 obtain⟨f12,d12,D12⟩:=bg (ps:=["numbers"]) X G Yw (pA fun _ _ _ _ _ _ _=>rfl)
 obtain⟨f13,d13,D13⟩:=B6 (ps:=["self","one","other","factor"]) Yx (V9 fun _ _ _ _ _ _ _ _ _ _=>rfl)
 obtain⟨f14,d14,D14⟩:=B6 (ps:=["self"]) Yy (pA fun _ _ _ _ _ _ _=>rfl)
 obtain⟨f15,d15,D15⟩:=B6 (ps:=["self"]) Yz (pA fun _ _ _ _ _ _ _=>rfl)
 obtain⟨f16,d16,D16⟩:=B6 (ps:=["self"]) YA (pA fun _ _ _ _ _ _ _=>rfl)
 obtain⟨f17,d17,D17⟩:=bg (ps:=["height","lead","drop"]) X G YB (Sl fun _ _ _ _ _ _ _ _ _=>rfl)
 obtain⟨f18,d18,D18⟩:=bg (ps:=["row"]) X G YC (pA fun _ _ _ _ _ _ _=>rfl)
 obtain⟨f19,d19,D19⟩:=bg (ps:=["one","other"]) X G YD (gU fun _ _ _ _ _ _ _ _=>rfl)
 obtain⟨f20,d20,D20⟩:=bg (ps:=["_law_script","_law_place"]) X G YE (gU fun _ _ _ _ _ _ _ _=>rfl)
 obtain⟨f21,d21,D21⟩:=bg (ps:=["_law_cell_here","_law_many"]) X G YF (gU fun _ _ _ _ _ _ _ _=>rfl)
 obtain⟨f22,d22,D22⟩:=bg (ps:=["_law_one","_law_other"]) X G YG (gU fun _ _ _ _ _ _ _ _=>rfl)
 obtain⟨f23,d23,D23⟩:=bg (ps:=["_law_top","_law_bottom"]) X G YH (gU fun _ _ _ _ _ _ _ _=>rfl)
 obtain⟨f24,d24,D24⟩:=bg (ps:=["_law_x","_law_y","_law_z","_law_kind"]) X G YI (V9 fun _ _ _ _ _ _ _ _ _ _=>rfl)
 obtain⟨f25,d25,D25⟩:=bg (ps:=["_law_found"]) X G YJ (pA fun _ _ _ _ _ _ _=>rfl)
 obtain⟨f26,d26,D26⟩:=bg (ps:=["_law_found"]) X G YK (pA fun _ _ _ _ _ _ _=>rfl)
 obtain⟨f27,d27,D27⟩:=bg (ps:=["_law_cell_here","_law_most","_law_kind"]) X G YL (Sl fun _ _ _ _ _ _ _ _ _=>rfl)
 obtain⟨f28,d28,D28⟩:=bg (ps:=["_law_one","_law_other"]) X G YM (gU fun _ _ _ _ _ _ _ _=>rfl)
 obtain⟨f29,d29,D29⟩:=bg (ps:=["_law_one","_law_other"]) X G YN (gU fun _ _ _ _ _ _ _ _=>rfl)
 obtain⟨f30,d30,D30⟩:=bg (ps:=["_law_row_here"]) X G YO (pA fun _ _ _ _ _ _ _=>rfl)
 obtain⟨f31,d31,D31⟩:=bg (ps:=["_law_one","_law_other"]) X G YQ (gU fun _ _ _ _ _ _ _ _=>rfl)
 obtain⟨f32,d32,D32⟩:=bg (ps:=["_law_e","_law_sort"]) X G a32 (gU fun _ _ _ _ _ _ _ _=>rfl)
 obtain⟨f33,d33,D33⟩:=bg (ps:=["_law_one","_law_other"]) X G YR (gU fun _ _ _ _ _ _ _ _=>rfl)
 obtain⟨f34,d34,D34⟩:=bg (ps:=["_law_lines_here"]) X G YS (pA fun _ _ _ _ _ _ _=>rfl)
 obtain⟨f35,d35,D35⟩:=bg (ps:=["_law_one","_law_other"]) X G YT (gU fun _ _ _ _ _ _ _ _=>rfl)
 obtain⟨f36,d36,D36⟩:=bg (ps:=["_law_script","_law_at"]) X G YU (gU fun _ _ _ _ _ _ _ _=>rfl)
 obtain⟨f37,Z9,YW⟩:=bg (ps:=["_law_script"]) X G YV (pA fun _ _ _ _ _ _ _=>rfl)
 have e:=hfa.symm.trans YW.m
 cases e
 let T:Tx K mg:=⟨ao,⟨TK X G rX,Mb,r9,sd⟩,f0,d0,D0,f1,d1,D1,f2,d2,D2,f3,d3,D3,f4,d4,D4,f5,d5,D5,f6,d6,D6,f7,d7,D7,f8,d8,D8,f9,d9,D9,f10,d10,D10,f11,d11,D11,f12,d12,D12,f13,d13,D13,f14,d14,D14,f15,d15,D15,f16,d16,D16,f17,d17,D17,f18,d18,D18,f19,d19,D19,f20,d20,D20,f21,d21,D21,f22,d22,D22,f23,d23,D23,f24,d24,D24,f25,d25,D25,f26,d26,D26,f27,d27,D27,f28,d28,D28,f29,d29,D29,f30,d30,D30,f31,d31,D31,f32,d32,D32,f33,d33,D33,f34,d34,D34,f35,d35,D35,f36,d36,D36,fa,Z9,YW,Os X G dQ,Os X G rM,Os X G rN,Os X G c8,Os X G uH,Os X G aJ,Os X G fq,Os X G gS,Os X G rO,Os X G cG,Os X G gi,Os X G zu,Os X G nj,⟨_,TK X G A8,_,rfl⟩,aN,TK X G jb,⟨gZ,g7,g8,g9,ia,ic⟩,cC,TK X G lD,aE,TK X G xh,⟨se,sf,sj,sr,su,sA⟩,c9,TK X G oj,fu,TK X G sC,fy,TK X G sD,fz,TK X G sE,fD,TK X G sF,eu,ie,fF,gk,gm,gq,gr,c6,bC⟩
 exact⟨Z9,fun s v=>YW.bt s [v] rfl,fun base _ _=>Rl (V8 T)⟩
end Wa
namespace PySem.W.Fast
def tw4779783566271326155:=0
def tw11447734444298222380:=0
def tw7822606291041913133:=0
def tw2252652688898428975:=0
def tw16052870806041447889:=0
def tw1113893523520061088:=0
def tw16247476007420585158:=0
def tw7908888106928671627:=0
def tw4204320479444774283:=0
def tw9204465767891926446:=0
def tw15723722343670055187:=0
def tw13100066422317842395:=0
def tw17086600730671145034:=0
def tw11671735684151386727:=0
def tw13368477737179531017:=0
def tw346086796794627888:=0
def tw2015531736678562636:=0
def tw335317890263588718:=0
def tw5785919544926181628:=0
def tw178079327646471533:=0
def tw13529475560181182019:=0
def tw16917011392310165727:=0
def tw7789968975469359466:=0
def tw6295564248089793123:=0
def tw10762602390018937016:=0
def tw15810663359730383149:=0
def tw11380345932671896513:=0
def tw535408051599312160:=0
def tw9176364238049678011:=0
def tw13270477705851244657:=0
def tw11014998038626102029:=0
def tw12614975938338959084:=0
def tw3311205576604685395:=0
def tw16682104985907400069:=0
def tw5047931834127334072:=0
def tw4200750743842002310:=0
def tw1035415386430984327:=0
def tw7517177262565356077:=0
def tw7353766861936972378:=0
def tw240457476886981070:=0
def tw11060664716133322356:=0
def tw1870186169889633805:=0
def tw12567291988523672773:=0
def tw13516292481988369742:=0
def tw11020910259623777283:=0
def tw9328501298686928546:=0
def tw1875354096170053508:=0
def tw932464533256238125:=0
def tw14025538433253497268:=0
def tw12625320053431998937:=0
def tw12861786526271246017:=0
def tw9295709375132770986:=0
def tw17360647409557594691:=0
def tw10074044172939718095:=0
def tw12213096640317117617:=0
def tw11225896840178852666:=0
def tw10405761943936595208:=0
def tw11148586481143023480:=0
def tw3529290878377198005:=0
def tw8773858873390201762:=0
def tw9703180376309670849:=0
def tw4972070001051460350:=0
def tw9519323278291003702:=0
def tw17710541298384849356:=0
def tw10227379989996170186:=0
def tw1791398414132157616:=0
def tw10491011486736143008:=0
def tw577948032422163617:=0
def tw4113917812185689097:=0
def tw10237584580906733830:=0
def tw1592153942283627588:=0
def tw18224479943976900409:=0
def tw1452440699413661377:=0
def tw11397743896601787315:=0
def tw8146086646102900496:=0
def tw3151802635852352428:=0
def tw7062153272901229529:=0
def tw2560250020324913746:=0
def tw1640045088621946653:=0
def tw11467629835150124589:=0
def tw17543269519271760305:=0
def tw5945510062180768464:=0
def tw5416344246417648002:=0
def tw6025319235686369821:=0
def tw17236363827480030982:=0
def tw5580077480829969614:=0
def tw1257276231533658453:=0
def tw9140013054049652999:=0
def tw11013701438954397229:=0
def tw10142739394613256678:=0
def tw5499408856087296790:=0
def tw17372219323694029795:=0
def tw2945950997540055502:=0
def tw17459291448376913802:=0
def tw16181315199015439999:=0
def tw5352127132328725599:=0
def tw17214517535580711102:=0
def tw5387197477445746082:=0
def tw299215245560346823:=0
def tw6426810759705143216:=0
def tw7512276171364331649:=0
def tw6109657685612959139:=0
def tw13860547744297056538:=0
def tw7785543945413372737:=0
def tw10660320950886029919:=0
def tw11012322702589187479:=0
def tw9291637963961363687:=0
def tw11583046314198002940:=0
def tw7970536729673421385:=0
def tw10603774642871047771:=0
def tw745976692825649723:=0
def tw1201501529695529885:=0
def tw15446695161127852885:=0
def tw16387552426218971620:=0
def tw8320274728556174163:=0
def tw3024255849877351333:=0
def tw18280429667493600201:=0
def tw1213650298802836078:=0
def tw9862551453813964808:=0
def tw4651011063515906680:=0
def tw15005155442884302729:=0
def tw14520481116229317685:=0
def tw9629704892489331885:=0
def tw18428361969542268351:=0
def tw15240857258045374345:=0
def tw3374661843971745414:=0
def tw14466547042205223643:=0
def tw8055393216000594708:=0
def tw1251073252813983178:=0
def tw8733801342353381534:=0
def tw17917803271762553136:=0
def tw14168980360968951827:=0
def tw18284887657080734542:=0
def tw13231386661194957143:=0
def tw1632673490376845630:=0
def tw1441887328928494482:=0
def tw11434765243091102438:=0
def tw16806566808618879465:=0
def tw3939974927094506404:=0
def tw6985265237844038583:=0
def tw7243622605335733875:=0
def tw5036658029759981293:=0
def tw13653108026573472110:=0
def tw10771612681792211584:=0
def tw15124061898155376835:=0
def tw7922413525232838588:=0
def tw12033219708648607994:=0
def tw967258691746986405:=0
def tw2604112825427225308:=0
def tw14574581860471451296:=0
def tw10110914810698022722:=0
def tw8182522038095948514:=0
def tw17359062700512004798:=0
def tw1615912552382958583:=0
def tw18240074986674279549:=0
def tw6010399163019320027:=0
def tw2826262420469776062:=0
def tw9571519249182244322:=0
def tw1327889829018592296:=0
def tw60354479709857695:=0
def tw9446678973862631529:=0
def tw8788914110056883575:=0
def tw5829505548570432834:=0
def tw15528387216408630083:=0
def tw15052830732057382089:=0
def tw14522768947768918908:=0
def tw8727178840052767321:=0
def tw7527692220082312887:=0
def tw6003262012067517557:=0
def tw12848231136953276222:=0
def tw2745485392164260055:=0
def tw12497966475360649595:=0
def tw3451327411138331679:=0
def tw2736995063050348615:=0
def tw8760037439366862476:=0
def tw8393239342771004589:=0
def tw11685395142071984568:=0
def tw4399069026072027720:=0
def tw15160471267718135944:=0
def tw1555258691763618256:=0
def tw12705084150066346741:=0
def tw13545119426278874477:=0
def tw11219335405616736510:=0
def tw11540782862889646529:=0
def tw13830259909837595684:=0
def tw15351532314433927905:=0
def tw1766815484509827572:=0
def tw2281164211143436860:=0
def tw10971398823934692409:=0
def tw15102260654030285267:=0
def tw15107652067090766081:=0
def tw7982181671280181024:=0
def tw17114818060817816432:=0
def tw1927600797687928087:=0
def tw706767633760806134:=0
def tw286941804677441569:=0
def tw9598590843282887965:=0
def tw6813116631249523091:=0
def tw17551937873019272875:=0
def tw8067006047206585446:=0
def tw4618131848975967080:=0
def tw13550690967609833594:=0
def tw11734458194217311010:=0
def tw2493886946418355835:=0
def tw15999693886571918561:=0
def tw15266287835182941335:=0
def tw9386120888153707987:=0
def tw6636384010620554977:=0
def tw17216450686370645088:=0
def tw16612588545840269098:=0
def tw3047023691017737900:=0
def tw14682362100277987228:=0
def tw15796999112128279603:=0
def tw13399951275199099974:=0
def tw7533188625234272972:=0
def tw3750231256286592507:=0
def tw8041119601617841371:=0
def tw4813790976890536792:=0
def tw10163031488229352705:=0
def tw8215187898100135620:=0
def tw7097357916075885048:=0
def tw4375964053636220754:=0
def tw4513361444369626801:=0
def tw1095975403211639737:=0
def tw13145718421269925118:=0
def tw10675546559332730593:=0
def tw17991652429283714165:=0
def tw9292684371983273152:=0
def tw675210260497892529:=0
def tw16801351229312852336:=0
def tw14112593987715549511:=0
def tw12747619235396360620:=0
def tw10980992897603507086:=0
def tw16408854293546109424:=0
def tw6235779002502442932:=0
def tw11535043786776857018:=0
def tw13990704434742429729:=0
def tw6966959338654147534:=0
def tw7006289075824329330:=0
def tw6834663297077242378:=0
def tw6795880331884022413:=0
def tw3340045036611148888:=0
def tw15208626004931763240:=0
def tw15736947913501303599:=0
def tw4215867751543045381:=0
def tw6749662047475071035:=0
def tw5218045385196892155:=0
def tw13722971993469601861:=0
def tw5719302294494555395:=0
def tw16453907708256477804:=0
def tw9221510293986549064:=0
def tw1027114246828760364:=0
end PySem.W.Fast
open PySem PySem.W PyProof.Rows
set_option maxRecDepth 100000 in
set_option maxHeartbeats 0 in
theorem PySem.Challenge.cw_paperwright_k12_resultants_holds : PySem.Challenge.rw_paperwright_k12_resultants.Holds := by
 w_on;o_law;k_head;(case hw=>w_witness2)
 k_fill
 refine VL.walk (l:=PySem.Challenge.rw_paperwright_k12_resultants) (k:=8) rfl rfl ⟨rfl,by decide,by decide⟩ (fun w h Y=>PySem.W.kIn_of Y) ?F
 case F=>
  intro w mg fa h KX G hmg
  refine' Wa.all_mk KX G hmg ?rX ?rY ?rZ ?r6 ?r8 ?r9 ?sd ?gW ?i8 ?cD ?cI ?i9 ?gj ?ja ?gX ?gY ?a0 ?a1 ?a2 ?a3 ?a4 ?a5 ?a6 ?a7 ?a8 ?a9 ?Yu ?Yv ?Yw ?Yx ?Yy ?Yz ?YA ?YB ?YC ?YD ?YE ?YF ?YG ?YH ?YI ?YJ ?YK ?YL ?YM ?YN ?YO ?YQ ?a32 ?YR ?YS ?YT ?YU ?YV ?dQ ?rM ?rN ?c8 ?uH ?aJ ?fq ?gS ?rO ?cG ?gi ?zu ?nj ?A8 ?jb ?gZ ?g7 ?g8 ?g9 ?ia ?ic ?lD ?xh ?se ?sf ?sj ?sr ?su ?sA ?oj ?sC ?sD ?sE ?sF ?eu ?ie ?fF ?gk ?gm ?gq ?gr ?c6 ?bC
  (case rX=>k_is)
  (case rY=>k_is)
  (case rZ=>k_is)
  (case r6=>k_is)
  (case r8=>k_is)
  (case r9=>k_is)
  (case sd=>k_is)
  (case gW=>k_is)
  (case i8=>k_is)
  (case cD=>k_is)
  (case cI=>k_is)
  (case i9=>k_is)
  (case gj=>k_is)
  (case ja=>k_is)
  (case gX=>k_is)
  (case gY=>k_is)
  (case a0=>walk_at "hd")
  (case a1=>walk_at "hd")
  (case a2=>walk_at "hd")
  (case a3=>walk_at "hd")
  (case a4=>walk_at "hd")
  (case a5=>walk_at "hd")
  (case a6=>walk_at "hd")
  (case a7=>walk_at "hd")
  (case a8=>walk_at "hd")
  (case a9=>walk_at "hd")
  (case Yu=>walk_at "hd")
  (case Yv=>walk_at "hd")
  (case Yw=>walk_at "hd")
  (case Yx=>walk_at "hm")
  (case Yy=>walk_at "hm")
  (case Yz=>walk_at "hm")
  (case YA=>walk_at "hm")
  (case YB=>walk_at "hd")
  (case YC=>walk_at "hd")
  (case YD=>walk_at "hd")
  (case YE=>walk_at "hd")
  (case YF=>walk_at "hd")
  (case YG=>walk_at "hd")
  (case YH=>walk_at "hd")
  (case YI=>walk_at "hd")
  (case YJ=>walk_at "hd")
  (case YK=>walk_at "hd")
  (case YL=>walk_at "hd")
  (case YM=>walk_at "hd")
  (case YN=>walk_at "hd")
  (case YO=>walk_at "hd")
  (case YQ=>walk_at "hd")
  (case a32=>walk_at "hd")
  (case YR=>walk_at "hd")
  (case YS=>walk_at "hd")
  (case YT=>walk_at "hd")
  (case YU=>walk_at "hd")
  (case YV=>walk_at "hd")
  (case dQ=>k_is)
  (case rM=>k_is)
  (case rN=>k_is)
  (case c8=>k_is)
  (case uH=>k_is)
  (case aJ=>k_is)
  (case fq=>k_is)
  (case gS=>k_is)
  (case rO=>k_is)
  (case cG=>k_is)
  (case gi=>k_is)
  (case zu=>k_is)
  (case nj=>k_is)
  (case A8=>k_is)
  (case jb=>k_is)
  (case gZ=>k_exc)
  (case g7=>k_is)
  (case g8=>k_is)
  (case g9=>k_is)
  (case ia=>k_is)
  (case ic=>k_is)
  (case lD=>k_is)
  (case xh=>k_is)
  (case se=>k_exc)
  (case sf=>k_is)
  (case sj=>k_is)
  (case sr=>k_is)
  (case su=>k_is)
  (case sA=>k_is)
  (case oj=>k_is)
  (case sC=>k_is)
  (case sD=>k_is)
  (case sE=>k_is)
  (case sF=>k_is)
  (case eu=>kit_is)
  (case ie=>kit_is)
  (case fF=>kit_is)
  (case gk=>kit_is)
  (case gm=>kit_is)
  (case gq=>kit_is)
  (case gr=>kit_is)
  (case c6=>kit_is)
  (case bC=>k_is)
