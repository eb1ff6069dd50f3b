import PyProof.Rows.All
import Wide.All
import OpenK.AllK
import Wide.FinOn
import Lean
import PyProof.EqAt
import PyProof.EqKinds
import PyProof.TupleCall
import PySem.Challenge.RW_paperwright_k13_whole_resultants
set_option Elab.async false
set_option linter.all false
set_option maxRecDepth 100000
set_option maxHeartbeats 4000000
set_option hygiene false in
local macro_rules | `(tactic| walk_at "len_of") => `(tactic| first | (intro _ _ _ h; exact False.elim h) | (rintro _ _ _ ⟨rfl, _⟩; rfl) | (rintro _ _ _ ⟨_, rfl, _⟩; rfl) | (rintro _ _ _ ⟨_, _, rfl, _⟩; rfl) | (rintro _ _ _ ⟨_, _, _, rfl, _⟩; rfl) | (rintro _ _ _ ⟨_, _, _, _, rfl, _⟩; rfl) | (rintro _ _ _ ⟨_, _, _, _, _, rfl, _⟩; rfl) | (rintro _ _ _ ⟨_, _, _, _, _, _, rfl, _⟩; rfl) | (rintro _ _ _ ⟨_, _, _, _, _, _, _, rfl, _⟩; rfl) | (rintro _ _ _ ⟨_, _, _, _, _, _, _, _, rfl, _⟩; rfl) | (rintro _ _ _ ⟨_, _, _, _, _, _, _, _, _, rfl, _⟩; rfl) | (rintro _ _ _ ⟨_, _, _, _, _, _, _, _, _, _, rfl, _⟩; rfl) | (rintro _ _ _ ⟨_, _, _, _, _, _, _, _, _, _, _, rfl, _⟩; rfl))
set_option hygiene false in
local macro_rules | `(tactic| walk_at "vs") => `(tactic| first | dsimp only [wSs, wS, wE, wA, Al, Nz, wP, NB, BW, cW, setAt, List.getElem?_cons_zero, List.getElem?_cons_succ, look, List.set, b7, ou, bD, au, List.map_cons, List.map_nil, List.nil_append, List.cons_append, x_len, FH, FI, Mf, Mg, Mh, FJ, BX, BY, xP, Mi, Mj, Ml, Mm, Mn, FL, Mp, Mq, Mr, Su, Sv, x_lt, Sw, Sx, Sy, BZ, Sz, Mt, Mu, Mv, SA, Mw, Mx, My, Mz, B3, xQ, SD, MA, MB, SG, FN, B4, fall, List.replicate, if_true, Bool.not_true, Bool.not_false] | simp only [wSs, wS, wE, wA, Al, Nz, wP, NB, BW, cW, setAt, List.getElem?_cons_zero, List.getElem?_cons_succ, look, List.set, b7, ou, bD, au, List.map_cons, List.map_nil, List.nil_append, List.cons_append, x_len, FH, FI, Mf, Mg, Mh, FJ, BX, BY, xP, Mi, Mj, Ml, Mm, Mn, FL, Mp, Mq, Mr, Su, Sv, x_lt, Sw, Sx, Sy, BZ, Sz, Mt, Mu, Mv, SA, Mw, Mx, My, Mz, B3, xQ, SD, MA, MB, SG, FN, B4, fall, List.replicate, if_true, Bool.not_true, Bool.not_false] | skip)
set_option hygiene false in
local macro_rules | `(tactic| walk_at "hd") => `(tactic| (refine' VH.SH ?ka ?kl ?kc ?kk; (case ka => k_is); (case kl => k_is); (case kc => k_is); (case kk => k_is)))
set_option hygiene false in
local macro_rules | `(tactic| walk_at "hm") => `(tactic| (refine' VH.SI ?ka ?ki ?kl ?kc ?kk; (case ka => k_is); (case ki => k_is); (case kl => k_is); (case kc => k_is); (case kk => k_is)))
noncomputable def AC:=@List.getD_eq_getElem?_getD
noncomputable def Ap:=@List.length_map
noncomputable def B1:=@Bool.and_eq_true
noncomputable def BM:=@List.getElem?_eq_getElem
noncomputable def Bi:=@if_neg
noncomputable def Bn:=@List.length_pos_iff
noncomputable def Bz:=@if_pos
noncomputable def DD:=@of_decide_eq_true
noncomputable def DL:=@Nat.mul_le_mul_left
noncomputable def Da:=@Rat.intCast_mul
noncomputable def Do:=@Nat.le_refl
noncomputable def Dx:=@Nat.le_trans
noncomputable def Ee:=@List.mem_cons_of_mem
noncomputable def FC:=@List.length_append
noncomputable def FK:=@List.mem_cons_self
noncomputable def FM:=@PySem.Heap.get?_push_of_some
noncomputable def FR:=@List.getElem?_map
noncomputable def FS:=@List.getElem?_eq_none
noncomputable def FV:=@List.mem_cons
noncomputable def Fh:=@Int.mul_ne_zero
noncomputable def Fk:=@Int.natAbs_mul
noncomputable def Fm:=@List.mem_singleton
noncomputable def Fn:=@List.mem_append_right
noncomputable def Fs:=@PySem.Heap.lt_size
noncomputable def Fu:=@List.size_toArray
noncomputable def GE:=@Nat.lt_of_lt_of_le
noncomputable def GM:=@List.getElem?_eq_some_iff
noncomputable def GT:=@Nat.pow_le_pow_right
noncomputable def Gc:=@Nat.lt_of_le_of_lt
noncomputable def HI:=@List.getElem?_append_right
noncomputable def Ha:=@decide_eq_true_eq
noncomputable def Hb:=@List.mem_append
noncomputable def He:=@PySem.wpAny_bind
noncomputable def Hk:=@List.isEmpty_iff
noncomputable def Hn:=@List.all_eq_true
noncomputable def IH:=@List.getElem?_append_left
noncomputable def IR:=@decide_eq_true
noncomputable def Iy:=@Int.pow_succ
noncomputable def Jn:=@Nat.mul_le_mul
noncomputable def KB:=@Rat.mul_eq_zero
noncomputable def KE:=@Option.some.inj
noncomputable def KF:=@List.append_nil
noncomputable def KM:=@Nat.zero_le
noncomputable def Kb:=@List.append_assoc
noncomputable def Ki:=@Bool.false_ne_true
noncomputable def Kj:=@List.length_eq_zero_iff
noncomputable def Kk:=@Nat.ne_of_lt
noncomputable def Kt:=@Int.mul_zero
noncomputable def Kx:=@List.mem_map
noncomputable def Mo:=@List.getElem?_set_ne
noncomputable def N0:=@PySem.Heap.get?_push_size
noncomputable def NA:=@beq_iff_eq
noncomputable def NM:=@Int.eq_of_mul_eq_mul_left
noncomputable def Nw:=@PySem.mem_of_lookup
noncomputable def OF:=@Int.pow_zero
noncomputable def OK:=@List.length_set
noncomputable def On:=@List.map_cons
noncomputable def Os:=@Nat.pow_pos
noncomputable def Oy:=@List.mem_of_getElem?
noncomputable def P2:=@List.mem_append_left
noncomputable def P3:=@decide_eq_false
noncomputable def PH:=@PySem.wpAny_pure
noncomputable def PP:=@List.getElem_mem
noncomputable def PQ:=@Classical.choose_spec
noncomputable def Pi:=@Int.gcd_dvd_right
noncomputable def Pl:=@Int.fdiv_eq_ediv_of_nonneg
noncomputable def Pm:=@List.nodup_cons
noncomputable def Pt:=@List.map_append
noncomputable def Pv:=@Option.map_eq_some_iff
noncomputable def Q1:=@Ne.symm
noncomputable def QP:=@Nat.lt_succ_self
noncomputable def QQ:=@List.not_mem_nil
noncomputable def QR:=@List.getElem?_set_self
noncomputable def Qb:=@List.getLast?_eq_getElem?
noncomputable def Qr:=@Nat.pow_le_pow_left
noncomputable def RF:=@Int.one_mul
noncomputable def Re:=@List.mem_filter
noncomputable def SB:=@Nat.le_mul_of_pos_right
noncomputable def SC:=@List.length_take
noncomputable def SF:=@Int.fdiv_eq_ediv_of_dvd
noncomputable def SL:=@PyProof.Rows.callWith_type1
noncomputable def SU:=@Nat.lt_irrefl
noncomputable def SZ:=@congrArg
noncomputable def Sr:=@Rat.pow_succ
noncomputable def T1:=@Int.le_of_lt
noncomputable def T2:=@List.getElem?_range
noncomputable def TB:=@PySem.W.mg_none_of
noncomputable def TC:=@Nat.eq_zero_or_pos
noncomputable def TK:=@Bool.or_false
noncomputable def Ta:=@List.length_range
noncomputable def Tb:=@List.dropLast_concat_getLast
noncomputable def Ts:=@Rat.pow_zero
noncomputable def U2:=@Int.zero_mul
noncomputable def UF:=@Int.add_zero
noncomputable def UV:=@Rat.num_divInt_den
noncomputable def W1:=@Rat.div_mul_cancel
noncomputable def Wp:=@Nat.add_sub_cancel
noncomputable def X9:=@Int.fmod_eq_emod_of_nonneg
noncomputable def XB:=@Bool.and_false
noncomputable def Xt:=@Int.natAbs_ediv_le_natAbs
noncomputable def Y1:=@Rat.one_mul
noncomputable def Y2:=@Rat.mul_zero
noncomputable def Ya:=@Nat.mul_le_mul_right
noncomputable def Yf:=@Nat.le_of_lt
noncomputable def ag:=@Int.mul_one
noncomputable def ar:=@Int.mul_comm
noncomputable def aw:=@Rat.divInt_eq_divInt_iff
noncomputable def bj:=@Option.isSome_iff_exists
noncomputable def bo:=@Int.mul_ediv_cancel_left
noncomputable def cc:=@Bool.not_eq_true
noncomputable def cn:=@List.getLast?_eq_some_getLast
noncomputable def cq:=@Int.pow_add
noncomputable def cv:=@Nat.sub_self
noncomputable def cw:=@Nat.mul_comm
noncomputable def cx:=@Int.mul_assoc
noncomputable def dC:=@Int.le_of_dvd
noncomputable def dE:=@Rat.divInt_eq_div
noncomputable def de:=@List.nodup_append
noncomputable def dq:=@PySem.wpAny_passesOwn
noncomputable def dt:=@Nat.pow_mul
noncomputable def du:=@Nat.pow_add
noncomputable def eA:=@List.mem_range
noncomputable def eC:=@Int.ediv_pos_of_pos_of_dvd
noncomputable section
set_option bootstrap.genMatcherCode false
namespace L2
open PySem PySem.Spec PyProof.Rows
abbrev Key:=Sum Int Str
noncomputable def MC:Key->Value->Bool
 |.inl k,v=>Value.isInt k v
 |.inr x,v=>Value.isStrOf x v
noncomputable def Wf(w:World):Key->Int
 |.inl k=>hashInt k
 |.inr x=>hashStr w x
theorem bJ:∀{k:Key} {v:Value},MC k v=true->(∃i t,k=Sum.inl i/\v=Value.int i t)\/(∃x t,k=Sum.inr x/\v=Value.str x t)
 |.inl i,v,h=>by
  obtain⟨t,e⟩:=Value.isInt_shape (k:=i) (v:=v) h
  exact .inl ⟨i,t,rfl,e⟩
 |.inr x,v,h=>by
  obtain⟨t,e⟩:=Value.isStrOf_shape (x:=x) (v:=v) h
  exact .inr ⟨x,t,rfl,e⟩
theorem NC(a b:Int):decide ((Sum.inl a:Key)=Sum.inl b)=(a==b):=by
 by_cases e:a=b
 ·subst e;simp
 ·have h:¬(Sum.inl a:Key)=Sum.inl b:=fun q=>e (Sum.inl.inj q)
  rw[P3 h]
  exact(beq_eq_false_iff_ne.mpr e).symm
theorem ND(a b:Str):decide ((Sum.inr a:Key)=Sum.inr b)=decide (a=b):=by
 by_cases e:a=b
 ·subst e;simp
 ·have h:¬(Sum.inr a:Key)=Sum.inr b:=fun q=>e (Sum.inr.inj q)
  rw[P3 h,P3 e]
theorem NF(a:Int)(b:Str):decide ((Sum.inl a:Key)=Sum.inr b)=false:=P3 (fun q=>nomatch q)
theorem NG(a:Str)(b:Int):decide ((Sum.inr a:Key)=Sum.inl b)=false:=P3 (fun q=>nomatch q)
noncomputable def B5(prog:Program)(w:World):PySem.KeyKind prog w Key where
 is:=MC
 hash:=Wf w
 inj:=fun v a b ha hb=>by
  rcases bJ ha with⟨i,t,rfl,rfl⟩|⟨x,t,rfl,rfl⟩
  ·rcases bJ hb with⟨j,u,rfl,e⟩|⟨y,u,rfl,e⟩
   ·injection e with e1 _;rw[e1]
   ·exact nomatch e
  ·rcases bJ hb with⟨j,u,rfl,e⟩|⟨y,u,rfl,e⟩
   ·exact nomatch e
   ·injection e with e1 _;rw[e1]
 byValue:=fun k v h=>by
  rcases bJ h with⟨i,t,rfl,rfl⟩|⟨x,t,rfl,rfl⟩<;>rfl
 pyHash:=fun hv h=>by
  rcases bJ hv with⟨i,t,rfl,rfl⟩|⟨x,t,rfl,rfl⟩
  ·exact wpAny_pyHash_int h
  ·exact wpAny_pyHash_str h
 eqBool:=fun hu hv h=>by
  rcases bJ hu with⟨i,t,rfl,rfl⟩|⟨x,t,rfl,rfl⟩
  ·rcases bJ hv with⟨j,u,rfl,rfl⟩|⟨y,u,rfl,rfl⟩
   ·rw[NC]at h;exact wpAny_eqBool_int h
   ·rw[NF]at h;exact SeqAt.EqAt.int_str i t y u _ _ _ _ h
  ·rcases bJ hv with⟨j,u,rfl,rfl⟩|⟨y,u,rfl,rfl⟩
   ·rw[NG]at h;exact SeqAt.EqAt.str_int x t j u _ _ _ _ h
   ·rw[ND]at h;exact wpAny_eqBool_str h
 «strs»:=fun k x t v h=>by
  rcases bJ h with⟨i,u,rfl,e⟩|⟨y,u,rfl,e⟩
  ·exact nomatch e
  ·injection e with e1 _
   subst e1
   cases v<;>rfl
inductive V where
 |aX|bl (b:Bool)|int (i:Int)|str (x:Str)|FA (b:Array UInt8)|RV (b:UInt64)|ref (a:Addr)|ty (n:String)
 deriving DecidableEq
noncomputable def RelV:V->Value->Prop
 |.aX,u=>u=Value.none
 |.bl b,u=>u=Value.bool b
 |.int i,u=>∃t,u=Value.int i t
 |.str x,u=>∃t,u=Value.str x t
 |.FA b,u=>∃t,u=Value.bytes b t
 |.RV b,u=>∃t,u=Value.float b t
 |.ref a,u=>u=Value.ref a
 |.ty n,u=>u=Value.type n
abbrev Vals:List V->List Value->Prop:=Paired RelV
theorem Vals.length{xs:List V}{us:List Value}(r:Vals xs us):xs.length=us.length:=Paired.length r
theorem Vals.get:∀{xs:List V} {us:List Value} {i:Nat} {x:V},Vals xs us->xs[i]?=some x->∃u,us[i]?=some u/\RelV x u
 |_,_,_,_,.nil,e=>by simp at e
 |_,_,0,_,.cons r _,e=>by simp at e;subst e;exact⟨_,rfl,r⟩
 |_,_,i+1,x,.cons _ t,e=>by
  obtain⟨u,h1,h2⟩:=Vals.get (i:=i) (x:=x) t (by simpa using e)
  exact⟨u,by simpa using h1,h2⟩
theorem Vals.set{x:V}{u:Value}(r:RelV x u):∀{xs:List V} {us:List Value} (i:Nat),Vals xs us->Vals (xs.set i x) (us.set i u)
 |_,_,_,.nil=>.nil
 |_,_,0,.cons _ t=>.cons r t
 |_,_,i+1,.cons q t=>.cons q (Vals.set r i t)
theorem Vals.append:∀{xs ys:List V} {us ws:List Value},Vals xs us->Vals ys ws->Vals (xs++ys) (us++ws)
 |_,_,_,_,.nil,s=>s
 |_,_,_,_,.cons r t,s=>.cons r (Vals.append t s)
theorem Vals.take:∀{xs:List V} {us:List Value} (n:Nat),Vals xs us->Vals (xs.take n) (us.take n)
 |_,_,0,_=>.nil
 |_,_,_+1,.nil=>.nil
 |_,_,n+1,.cons r t=>.cons r (Vals.take n t)
theorem Vals.drop:∀{xs:List V} {us:List Value} (n:Nat),Vals xs us->Vals (xs.drop n) (us.drop n)
 |_,_,0,r=>r
 |_,_,_+1,.nil=>.nil
 |_,_,n+1,.cons _ t=>Vals.drop n t
noncomputable def tL:Option V->Option Value->Prop
 |some v,some u=>RelV v u
 |none,none=>True
 |_,_=>False
noncomputable def KV{κ:Type}:List (κ×V)->List (κ×Value)->Prop:=Paired fun(p:κ×V) (q:κ×Value)=>p.1=q.1/\RelV p.2 q.2
noncomputable def kV:Key->V
 |.inl i=>.int i
 |.inr x=>.str x
inductive HO where
 |lst (xs:List V)
 |tup (xs:List V)
 |dK (kvs:List (Key×V))|dT (kvs:List (List Key×V))
 |set (S:Int->Bool) (n:Nat)
 |ins (C dx:Addr) (fs:List (Str×V))
 |own (x:Addr)
 |xd (fs:List (Str×V))
 |met (f x:Addr)
 |oz (lo hi:Int)
 |B6 (o:Obj) (u:HO)
 |MD (ps:Array Value)
 |ext (φ:Heap->Prop)
abbrev Hp:=Addr->Option HO
noncomputable def upd(H:Hp)(a:Addr)(o:HO):Hp:=fun b=>if b=a then some o else H b
theorem aE{H:Hp}{a:Addr}{o:HO}:upd H a o a=some o:=by unfold upd;rw[Bz rfl]
theorem ao{H:Hp}{a b:Addr}{o:HO}(h:b≠a):upd H a o b=H b:=by unfold upd;rw[Bi h]
theorem aT{H:Hp}{a b:Addr}{o:HO}(h:H a=some o)(h':H b=none):a≠b:=by
 intro e;subst e;rw[h]at h';cases h'
section
variable(P:Program)(w:World)
noncomputable def dQ(H:Hp)(h:Heap)(a:Addr):HO->Prop
 |.lst xs=>xs.length<=sizeLine/\∃(its:List Value) (n:Nat),Vals xs its/\h.get? a=some {cls:=.type "list",data:=.seq its.toArray n}
 |.tup xs=>xs.length<=sizeLine/\∃its:List Value,Vals xs its/\IsTup h a its.toArray
 |.dK kvs=>kvs.length<=sizeLine/\(a==sysModules)=false/\∃vs,KV kvs vs/\h.DictOf (B5 P w) a vs
 |.dT kvs=>kvs.length<=sizeLine/\(a==sysModules)=false/\∃xs:List (List Key×Addr×Value),
   Paired (fun(p:List Key×V) (q:List Key×Addr×Value)=>p.1=q.1/\H q.2.1=some (.tup (p.1.map kV))/\RelV p.2 q.2.2) kvs xs/\
   ∃o es ep,h.get? a=some o/\o.ExactDict/\o.data=.dict es ep/\es.toList=xs.map (entryOfKey (tupleKind (B5 P w)))/\(xs.map (·.1)).Nodup
 |.set S n=>h.SetOf (intKind P w) a S n
 |.ins C dx fs=>H dx=some (.own a)/\fs.length<=1000/\dx≠a/\h.get? a=some (PySem.W.instObj C dx)/\
   ∃mA,h.Ns1 dx mA/\(∀f,tL (fs.lookup f) (mA f))/\PySem.Within mA (fs.map (·.1))
 |.own _=>∃o,h.get? a=some o
 |.xd fs=>∃mA,h.Ns1 a mA/\∀f,tL (fs.lookup f) (mA f)
 |.oz lo hi=>∃t u v,h.get? a=some {cls:=.type "range",data:=.fields #[.int lo t,.int hi u,.int 1 v]}
 |.B6 o u=>h.get? a=some o/\dQ H h a u
 |.MD ps=>h.get? a=some {cls:=.none,data:=.fields ps}
 |.met f x=>h.get? a=some (PySem.W.methodObj (.ref f) (.ref x))
 |.ext φ=>φ h/\(∃o,h.get? a=some o)/\∀h1 h2:Heap,φ h1->(∀o,h1.get? a=some o->h2.get? a=some o)->φ h2
noncomputable def mT(H:Hp)(h:Heap):Prop:=∀a o,H a=some o->dQ P w H h a o
end
section
variable{P:Program}{w:World}{H H':Hp}{h h':Heap}{a:Addr}{o:HO}
theorem dQ.lt(x:dQ P w H h a o):a<h.objs.size:=by
 cases o with
 |lst xs=>obtain⟨_,_,_,_,e⟩:=x;exact Fs e
 |tup xs=>obtain⟨_,_,_,p⟩:=x;exact p.lt
 |dK kvs=>obtain⟨_,_,_,_,o,_,_,e,_⟩:=x;exact Fs e
 |dT kvs=>obtain⟨_,_,_,_,o,_,_,e,_⟩:=x;exact Fs e
 |set S n=>obtain⟨o,_,_,_,e,_⟩:=x;exact Fs e
 |ins C dx fs=>obtain⟨_,_,_,e,_⟩:=x;exact Fs e
 |own y=>obtain⟨_,e⟩:=x;exact Fs e
 |xd fs=>obtain⟨_,⟨_,_,_,e,_⟩,_⟩:=x;exact Fs e
 |oz lo hi=>obtain⟨_,_,_,e⟩:=x;exact Fs e
 |B6 ob u=>obtain⟨e,_⟩:=x;exact Fs e
 |MD ps=>exact Fs (show h.get? a=some _ from x)
 |met f y=>exact Fs (show h.get? a=some _ from x)
 |ext φ=>obtain⟨_,⟨_,e⟩,_⟩:=x;exact Fs e
theorem Paired.SJ{α β:Type}{F G:α->β->Prop}:∀{l₁:List α} {l₂:List β},Paired F l₁ l₂->(∀a b,F a b->G a b)->Paired G l₁ l₂
 |_,_,.nil,_=>.nil
 |_,_,.cons r t,f=>.cons (f _ _ r) (Paired.SJ t f)
theorem dQ.stay(x:dQ P w H h a o)(k:∀b u,(b=a\/H b=some (.own a))->h.get? b=some u->h'.get? b=some u)
 (ho:∀b,H b=some (.own a)->H' b=some (.own a)) (ht:∀b xs,H b=some (.tup xs)->H' b=some (.tup xs)):dQ P w H' h' a o:=by
 induction o with
 |lst xs=>obtain⟨z,its,n,r,e⟩:=x;exact⟨z,its,n,r,k _ _ (.inl rfl) e⟩
 |tup xs=>obtain⟨z,its,r,ob,e,c⟩:=x;exact⟨z,its,r,ob,k _ _ (.inl rfl) e,c⟩
 |dK kvs=>obtain⟨z,y,vs,r,ob,es,ep,e,c⟩:=x;exact⟨z,y,vs,r,ob,es,ep,k _ _ (.inl rfl) e,c⟩
 |dT kvs=>
  obtain⟨z,y,xs,r,ob,es,ep,e,c⟩:=x
  exact⟨z,y,xs,Paired.SJ r fun p q z=>⟨z.1,ht _ _ z.2.1,z.2.2⟩,ob,es,ep,k _ _ (.inl rfl) e,c⟩
 |set S n=>obtain⟨ob,es,ep,t,e,c⟩:=x;exact⟨ob,es,ep,t,k _ _ (.inl rfl) e,c⟩
 |ins C dx fs=>
  obtain⟨d,z,ne,e,mA,⟨od,es,ep,e2,c⟩,r⟩:=x
  exact⟨ho _ d,z,ne,k _ _ (.inl rfl) e,mA,⟨od,es,ep,k _ _ (.inr d) e2,c⟩,r⟩
 |own y=>obtain⟨ob,e⟩:=x;exact⟨ob,k _ _ (.inl rfl) e⟩
 |xd fs=>obtain⟨mA,⟨od,es,ep,e,c⟩,r⟩:=x;exact⟨mA,⟨od,es,ep,k _ _ (.inl rfl) e,c⟩,r⟩
 |oz lo hi=>obtain⟨t,u,v,e⟩:=x;exact⟨t,u,v,k _ _ (.inl rfl) e⟩
 |B6 ob u ih=>obtain⟨e,q⟩:=x;exact⟨k _ _ (.inl rfl) e,ih q⟩
 |MD ps=>
  have e:h.get? a=some {cls:=.none,data:=.fields ps}:=x
  show h'.get? a=some {cls:=.none,data:=.fields ps}
  exact k a _ (.inl rfl) e
 |met f y=>
  have e:h.get? a=some (PySem.W.methodObj (.ref f) (.ref y)):=x
  show h'.get? a=some (PySem.W.methodObj (.ref f) (.ref y))
  exact k a _ (.inl rfl) e
 |ext φ=>obtain⟨p,⟨o,e⟩,st⟩:=x;exact⟨st _ _ p fun o q=>k _ _ (.inl rfl) q,⟨o,k _ _ (.inl rfl) e⟩,st⟩
theorem mT.lt(x:mT P w H h)(e:H a=some o):a<h.objs.size:=(x a o e).lt
theorem mT.fresh(x:mT P w H h)(e:h.objs.size<=a):H a=none:=by
 cases q:H a with
 |none=>rfl
 |some u=>exact absurd (GE (x.lt q) e) (SU _)
theorem mT.kept(x:mT P w H h)(k:∀b u,h.get? b=some u->h'.get? b=some u):mT P w H h':=fun a o e=>
 (x a o e).stay (fun b u _ q=>k b u q) (fun _ q=>q) fun _ _ q=>q
theorem mT.laid(x:mT P w H h)(k:∀b u,h.get? b=some u->h'.get? b=some u)(hp:h.objs.size<=a)(new:dQ P w (upd H a o) h' a o):mT P w (upd H a o) h':=fun b u e=>by
 have hn:=x.fresh hp
 by_cases hb:b=a
 ·subst hb;rw[aE]at e;cases e;exact new
 ·rw[ao hb]at e
  exact(x b u e).stay (fun c v _ q=>k c v q) (fun c q=>by rw[ao (aT q hn)];exact q) fun c xs q=>by rw[ao (aT q hn)];exact q
end
noncomputable def Rd(H:Hp)(a:Addr)(u:HO):Prop:=H a=some u\/∃o,H a=some (.B6 o u)
theorem Rd.ok{P:Program}{w:World}{H:Hp}{h:Heap}{a:Addr}{u:HO}(r:Rd H a u)(x:mT P w H h):dQ P w H h a u:=by
 rcases r with r|⟨o,r⟩
 ·exact x a u r
 ·obtain⟨_,q⟩:=x a _ r
  exact q
noncomputable def VI:Option HO->Prop
 |some (.lst _)=>True
 |some (.dK _)=>True
 |some (.dT _)=>True
 |some (.set _ _)=>True
 |some (.ins _ _ _)=>True
 |some (.ext _)=>True
 |_=>False
section
variable{P:Program}{w:World}{H:Hp}{h h':Heap}{x e:Addr}{o':HO}
theorem mT.write(ok:mT P w H h)(mu:VI (H x))(he:e=x\/H e=some (.own x))(k:∀b u,b≠e->h.get? b=some u->h'.get? b=some u)(RW:∃u,h'.get? e=some u)
 (new:dQ P w (upd H x o') h' x o'):mT P w (upd H x o') h':=fun b u q=>by
 have SK:∀c y,H c=some (.own y)->c≠x:=fun c y r z=>by subst z;rw[r]at mu;exact mu
 have Wg:∀c xs,H c=some (.tup xs)->c≠x:=fun c xs r z=>by subst z;rw[r]at mu;exact mu
 by_cases hb:b=x
 ·subst hb;rw[aE]at q;cases q;exact new
 ·rw[ao hb]at q
  by_cases NH:b=e
  ·have q':H b=some (.own x):=by
    rcases he with z|z
    ·exact absurd (NH.trans z) hb
    ·rw[NH];exact z
   rw[q]at q';cases q'
   obtain⟨v,hv⟩:=RW
   exact⟨v,by rw[NH];exact hv⟩
  ·refine(ok b u q).stay (fun c v hc r=>k c v ?_ r) (fun c r=>by rw[ao (SK c b r)];exact r) fun c xs r=>by rw[ao (Wg c xs r)];exact r
   rcases hc with rfl|hc
   ·exact NH
   ·rintro rfl
    rcases he with z|z
    ·exact SK c b hc z
    ·rw[hc]at z;cases z;exact hb rfl
end
structure Un(fs ex:List Addr)(H H':Hp)(h h':Heap):Prop where
 keep:∀b o,h.get? b=some o->H b=none->b∉fs->b∉ex->h'.get? b=some o
 slot:∀b o,h.get? b=some o->H b=none->b∈fs->b∉ex->∃sl,h'.get? b=some {o with slots:=sl}
 free:∀b o,h.get? b=some o->H b=none->b∉ex->H' b=none
 there:∀b o,h.get? b=some o->b∉ex->∃o',h'.get? b=some o'
 tups:∀b xs,H b=some (.tup xs)->H' b=some (.tup xs)
 mV:∀b o u,H b=some (.B6 o u)->H' b=some (.B6 o u)
 oA:∀b ps,H b=some (.MD ps)->∃more,H' b=some (.MD (ps++more))
section
variable{fs fs' ex ex':List Addr}{H H1 H2:Hp}{h h1 h2 h':Heap}{a x e:Addr}{o:HO}
theorem Un.any(u:Un fs ex H H1 h h1){b:Addr}{ob:Obj}(q:h.get? b=some ob)(n:H b=none)(hx:b∉ex):∃sl,h1.get? b=some {ob with slots:=sl}:=by
 by_cases hb:b∈fs
 ·exact u.slot b ob q n hb hx
 ·exact⟨ob.slots,u.keep b ob q n hb hx⟩
theorem Un.kept(k:∀b u,h.get? b=some u->h'.get? b=some u):Un fs ex H H h h':=
 ⟨fun b ob q _ _ _=>k b ob q,fun b ob q _ _ _=>⟨ob.slots,k b ob q⟩,fun _ _ _ n _=>n,fun b ob q _=>⟨ob,k b ob q⟩,fun _ _ q=>q,fun _ _ _ q=>q,fun _ ps q=>⟨#[],by rw[q];simp⟩⟩
theorem Un.refl:Un fs ex H H h h:=Un.kept fun _ _ q=>q
theorem Un.laid(k:∀b u,h.get? b=some u->h'.get? b=some u)(hp:h.objs.size<=a)(hn:H a=none):Un fs ex H (upd H a o) h h' where
 keep:=fun b u q _ _ _=>k b u q
 slot:=fun b u q _ _ _=>⟨u.slots,k b u q⟩
 free:=fun b u q n _=>by rw[ao (Kk (GE (Fs q) hp))];exact n
 there:=fun b u q _=>⟨u,k b u q⟩
 tups:=fun b xs q=>by rw[ao (aT q hn)];exact q
 mV:=fun b u xs q=>by rw[ao (aT q hn)];exact q
 oA:=fun b ps q=>⟨#[],by rw[ao (aT q hn),q];simp⟩
theorem Un.write(mu:VI (H x))(he:e=x\/H e=some (.own x))(k:∀b u,b≠e->h.get? b=some u->h'.get? b=some u)(RW:∃u,h'.get? e=some u):Un fs ex H (upd H x o) h h':=by
 have hx:∀b,H b=none->b≠x:=fun b n z=>by subst z;rw[n]at mu;exact mu
 have hb:∀b,H b=none->b≠e:=fun b n z=>by
  subst z
  rcases he with r|r
  ·exact hx b n r
  ·rw[n]at r;cases r
 have hm:∀b u,H b=some u->¬VI (some u)->b≠x:=fun b u q nm z=>by subst z;rw[q]at mu;exact nm mu
 refine⟨fun b u q n _ _=>k b u (hb b n) q,fun b u q n _ _=>⟨u.slots,k b u (hb b n) q⟩,fun b u q n _=>by rw[ao (hx b n)];exact n,fun b u q _=>?_,
  fun b xs q=>by rw[ao (hm b _ q fun z=>z)];exact q,fun b u xs q=>by rw[ao (hm b _ q fun z=>z)];exact q,fun b ps q=>⟨#[],by rw[ao (hm b _ q fun z=>z),q];simp⟩⟩
 by_cases NH:b=e
 ·subst NH;exact RW
 ·exact⟨u,k b u NH q⟩
end
noncomputable def VJ(h:Heap)(H:Hp):List Addr:=(List.range h.objs.size).filter fun a=>(H a).isSome
noncomputable def u6(h:Heap)(H:Hp):Heap:=PySem.W.hideAll h (VJ h H)
theorem Eb(h:Heap)(H:Hp):(u6 h H).objs.size=h.objs.size:=PySem.W.hideAll_size _ _
theorem FO{h:Heap}{H:Hp}{b:Addr}{o:Obj}(e:h.get? b=some o)(n:H b=none):(u6 h H).get? b=some o:=
 PySem.W.hideAll_get _ e fun hm=>by
  have q:(H b).isSome=true:=(Re.mp hm).2
  rw[n]at q;simp at q
theorem JF{h:Heap}{H:Hp}{b:Addr}{o:Obj}(e:(u6 h H).get? b=some o):h.get? b=some o/\H b=none:=by
 have e':h.get? b=some o:=PySem.W.of_hideAll (VJ h H) e
 refine⟨e',?_⟩
 cases q:H b with
 |none=>rfl
 |some x=>
  have hm:b∈VJ h H:=Re.mpr ⟨eA.mpr (Fs e'),by simp[q]⟩
  have z:(u6 h H).get? b=none:=PySem.W.hideAll_none (VJ h H) hm
  rw[z]at e;cases e
noncomputable def JG(g h:Heap)(L:Addr):List (Addr×Obj):=(List.range h.objs.size).filterMap fun a=>if a=L\/(g.get? a).isSome=true then none else(h.get? a).map fun o=>(a,o)
noncomputable def rest(g h:Heap)(L d:Addr):List (Addr×Obj):=(JG g h L).filter fun p=>decide (p.1≠d)
structure Mod(K:PySem.W.Frag)(mg:Str->Option Value)(base:Heap):Prop where
 SM:K.In base
 glob:base.Ns mainGlobals mg
 blt:∃mb,base.Ns builtinsNs mb/\∀x:Str,x≠"__name__"->mb x=bootBuiltins x
 nolimit:base.NoLimit
set_option genInjectivity false in
set_option genSizeOf false in
structure Cx where
 prog:Program
 w:World
 K:PySem.W.Frag
 mg:Str->Option Value
 base:Heap
 A:Around
 N:List Str
 s₀:Shared
 H₀:Hp
 env:Env
 outer:List Env
 stack:List Env
 ex:List Addr
 fn:Str->Bool
 calm:Bool
 pn:List (Addr×Obj)
 xe:Value->Shared->Prop
noncomputable def frs(l:List Env):List Addr:=l.filterMap (·.frame)
abbrev Cx.fs(X:Cx):List Addr:=frs X.outer
noncomputable def RX(sc:Scope)(x:Str):Prop:=sc.names.lookup x=some .local\/sc.names.lookup x=some .cell\/sc.names.lookup x=some .free
noncomputable def Loc(sc:Scope)(x:Str):Prop:=sc.names.lookup x=some .local\/sc.names.lookup x=some .cell
noncomputable def Look(env:Env)(h:Heap)(m:Str->Option Value)(x:Str)(u:Value):Prop:=
 (env.kindOf x=some .local/\m x=some u)\/((env.kindOf x=some .cell\/env.kindOf x=some .free)/\∃c,env.cells.lookup x=some c/\h.IsCell c (some u))
structure Cx.Ok(X:Cx):Prop where
 mod:Mod X.K X.mg X.base
 kind:X.env.scope.kind=.function
 glob:X.env.globals=mainGlobals
 blt:X.env.builtins=builtinsNs
 above:X.s₀.heap.objs.size<=X.env.locals
 inj:∀x y c,X.env.cells.lookup x=some c->X.env.cells.lookup y=some c->x=y
 has:∀x,(X.env.kindOf x=some .cell\/X.env.kindOf x=some .free)->∃c,X.env.cells.lookup x=some c
 SN:∀x c,X.fn x=true->X.env.cells.lookup x=some c->X.s₀.heap.objs.size<=c
 hd:X.calm=true->X.A.handled=none
 frames:X.A.frames=some X.stack
 stk:X.stack=X.outer\/(X.stack=X.env::X.outer/\X.env.frame=some X.env.locals)
 VM:∀b∈X.ex,b≠X.env.locals/\∀x c,X.env.cells.lookup x=some c->c≠b
 bs:∀b o,X.base.get? b=some o->X.s₀.heap.get? b=some o/\X.H₀ b=none
 JH:X.base.objs.size<=X.s₀.heap.objs.size
 FP:∀b o,X.base.get? b=some o->b∉X.ex
 Ec:∀b∈X.ex,b∉X.fs
 qg:X.s₀.heap.FunFrames X.base X.outer
 NI:∀b∈X.fs,X.H₀ b=none
structure Inv(X:Cx)(pins:List (Addr×Obj))(σ:List (Option V))(H:Hp)(s:Shared):Prop where
 ok:X.Ok
 os:s.os=X.s₀.os
 bare:AllBare s.gens
 base:Un X.fs X.ex X.H₀ H X.s₀.heap s.heap
 loc:∃m,s.heap.Ns X.env.locals m/\∀(i:Nat) (x:Str) (v:V),X.N[i]?=some x->σ[i]?=some (some v)->RX X.env.scope x->∃u,RelV v u/\Look X.env s.heap m x u
 cell:∀x c,X.env.cells.lookup x=some c->∃v,s.heap.IsCell c v
 free:H X.env.locals=none
 kU:∀x c,X.env.cells.lookup x=some c->H c=none
 pin:∀p∈X.pn++pins,s.heap.get? p.1=some p.2/\H p.1=none/\p.1≠X.env.locals/\p.1∉X.fs/\∀v,p.2.data≠.cell v
 hok:mT X.prog X.w H s.heap
 len:σ.length=X.N.length
section
variable{X:Cx}{pins:List (Addr×Obj)}{σ:List (Option V)}{H H':Hp}{s:Shared}{h':Heap}
theorem Cx.Ok.JI(ok:X.Ok){b:Addr}{o:Obj}(e:X.base.get? b=some o):b∉X.fs:=fun hb=>by
 have:=(ok.qg.mem hb).1
 rw[e]at this;cases this
theorem Inv.bs(I:Inv X pins σ H s):∀b o,X.base.get? b=some o->s.heap.get? b=some o/\H b=none:=fun b o e=>
 ⟨I.base.keep b o (I.ok.bs b o e).1 (I.ok.bs b o e).2 (I.ok.JI e) (I.ok.FP b o e),I.base.free b o (I.ok.bs b o e).1 (I.ok.bs b o e).2 (I.ok.FP b o e)⟩
theorem Inv.bk(I:Inv X pins σ H s):∀b o,X.base.get? b=some o->s.heap.get? b=some o:=fun b o e=>(I.bs b o e).1
theorem Inv.mod(I:Inv X pins σ H s):Mod X.K X.mg X.base:=I.ok.mod
theorem Inv.B7(I:Inv X pins σ H s):X.K.In s.heap:=I.ok.mod.SM.keeps I.bk
theorem Inv.lt(I:Inv X pins σ H s):X.env.locals<s.heap.objs.size:=let⟨_,hn,_⟩:=I.loc;hn.lt
theorem Inv.sz(I:Inv X pins σ H s):X.s₀.heap.objs.size<=s.heap.objs.size:=Dx I.ok.above (Yf I.lt)
theorem Inv.Wh(I:Inv X pins σ H s){a:Addr}(h:s.heap.objs.size<=a):a∉X.fs:=fun hb=>by
 obtain⟨_,o,ho,_⟩:=I.ok.qg.mem hb
 exact absurd (GE (Fs ho) (Dx I.sz h)) (SU _)
theorem Inv.NJ(I:Inv X pins σ H s):∀x c,X.env.cells.lookup x=some c->c≠X.env.locals:=fun x c e z=>by
 obtain⟨v,o,ho,hd⟩:=I.cell x c e
 obtain⟨m,⟨o',es,ep,ho',hd',_⟩,_⟩:=I.loc
 rw[z,ho']at ho;cases ho;rw[hd']at hd;cases hd
theorem Inv.qg(I:Inv X pins σ H s):s.heap.FunFrames X.base X.outer:=by
 have all:∀(l:List Env),(∀b∈frs l,b∈X.fs)->X.s₀.heap.FunFrames X.base l->s.heap.FunFrames X.base l:=by
  intro l
  induction l with
  |nil=>intro _ _;trivial
  |cons env r ih=>
   intro hs hl
   obtain⟨hk,⟨L,o,hf,hn,ho,hd⟩,hr⟩:=hl
   have hL:L∈X.fs:=hs L (by unfold frs;rw[List.filterMap_cons,hf];exact FK)
   obtain⟨sl,e⟩:=I.base.slot L o ho (I.ok.NI L hL) hL fun z=>I.ok.Ec L z hL
   exact⟨hk,⟨L,_,hf,hn,e,hd⟩,ih (fun b hb=>hs b (by unfold frs;rw[List.filterMap_cons,hf];exact Ee _ hb)) hr⟩
 exact all X.outer (fun _ hb=>hb) I.ok.qg
theorem Inv.stack(I:Inv X pins σ H s):s.heap.FunFrames X.base X.stack:=by
 rcases I.ok.stk with e|⟨e,hf⟩
 ·rw[e];exact I.qg
 ·rw[e]
  obtain⟨m,hn,_⟩:=I.loc
  refine .cons (by rw[I.ok.kind];decide) hf hn ?_ I.qg
  exact Heap.get?_none_of_le (Dx I.ok.JH I.ok.above)
theorem Inv.Am(I:Inv X pins σ H s):∀b∈frs X.stack,b∈X.env.locals::X.fs:=fun b hb=>by
 rcases I.ok.stk with e|⟨e,hf⟩
 ·rw[e]at hb;exact Ee _ hb
 ·rw[e]at hb
  unfold frs at hb
  rw[List.filterMap_cons,hf]at hb
  exact hb
theorem Inv.mW(I:Inv X pins σ H s):∀b∈frs X.stack,H b=none:=fun b hb=>by
 rcases FV.mp (I.Am b hb)with e|hb
 ·rw[e];exact I.free
 ·obtain⟨_,o,ho,_⟩:=I.ok.qg.mem hb
  exact I.base.free b o ho (I.ok.NI b hb) fun z=>I.ok.Ec b z hb
theorem Inv.step{g':Array GenState}{t':Nat}{d':Drawn}{ch:List Addr}(I:Inv X pins σ H s)
 (hch:∀b∈ch,(b∈X.ex\/X.s₀.heap.objs.size<=b)/\b≠X.env.locals/\(∀x c,X.env.cells.lookup x=some c->c≠b)/\∀p∈X.pn++pins,p.1≠b)
 (keep:∀b o,b≠X.env.locals->b∉X.fs->b∉ch->s.heap.get? b=some o->H b=none->h'.get? b=some o)
 (slot:∀b o,b≠X.env.locals->b∈X.fs->b∉ch->s.heap.get? b=some o->H b=none->∃sl,h'.get? b=some {o with slots:=sl}) (free:∀b o,b∉ch->s.heap.get? b=some o->H b=none->H' b=none)
 (there:∀b o,b∉ch->s.heap.get? b=some o->∃o',h'.get? b=some o')
 (tups:∀b xs,H b=some (.tup xs)->H' b=some (.tup xs)) (mV:∀b o u,H b=some (.B6 o u)->H' b=some (.B6 o u)) (oA:∀b ps,H b=some (.MD ps)->∃more,H' b=some (.MD (ps++more)))
 (ns:∀m,s.heap.Ns X.env.locals m->h'.Ns X.env.locals m) (hok:mT X.prog X.w H' h') (hg:AllBare g'):
 Inv X pins σ H' {s with heap:=h',gens:=g',drawn:=d',toks:=t'}:=by
 have YO:∀b o,X.s₀.heap.get? b=some o->b≠X.env.locals:=fun b o e=>Kk (GE (Fs e) I.ok.above)
 have VN:∀b o,X.s₀.heap.get? b=some o->b∉X.ex->b∉ch:=fun b o e hx hb=>by
  rcases(hch b hb).1 with z|z
  ·exact hx z
  ·exact absurd (GE (Fs e) z) (SU _)
 have cellK:∀x c,X.env.cells.lookup x=some c->∀v,s.heap.IsCell c v->h'.IsCell c v:=fun x c e v ⟨o,ho,hd⟩=>by
  have ME:c∉ch:=fun z=>(hch c z).2.2.1 x c e rfl
  by_cases hc:c∈X.fs
  ·obtain⟨sl,q⟩:=slot c o (I.NJ x c e) hc ME ho (I.kU x c e)
   exact⟨_,q,hd⟩
  ·exact⟨o,keep c o (I.NJ x c e) hc ME ho (I.kU x c e),hd⟩
 refine⟨I.ok,I.os,hg,⟨fun b o e n hb hx=>?_,fun b o e n hb hx=>?_,fun b o e n hx=>?_,fun b o e hx=>?_,fun b xs e=>tups b xs (I.base.tups b xs e),fun b o xs e=>mV b o xs (I.base.mV b o xs e),fun b ps e=>?_⟩,?_,fun x c e=>?_,?_,fun x c e=>?_,fun p hp=>?_,hok,I.len⟩
 ·exact keep b o (YO b o e) hb (VN b o e hx) (I.base.keep b o e n hb hx) (I.base.free b o e n hx)
 ·obtain⟨sl,e1⟩:=I.base.slot b o e n hb hx
  obtain⟨ZY,e2⟩:=slot b _ (YO b o e) hb (VN b o e hx) e1 (I.base.free b o e n hx)
  exact⟨ZY,e2⟩
 ·obtain⟨o',e1⟩:=I.base.there b o e hx
  exact free b o' (VN b o e hx) e1 (I.base.free b o e n hx)
 ·obtain⟨o',e1⟩:=I.base.there b o e hx
  exact there b o' (VN b o e hx) e1
 ·obtain⟨m1,e1⟩:=I.base.oA b ps e
  obtain⟨m2,e2⟩:=oA b _ e1
  exact⟨m1++m2,by rw[e2,Array.append_assoc]⟩
 ·obtain⟨m,hn,hl⟩:=I.loc
  refine⟨m,ns m hn,fun i x v e1 e2 e3=>?_⟩
  obtain⟨u,r,l⟩:=hl i x v e1 e2 e3
  refine⟨u,r,?_⟩
  rcases l with l|⟨k,c,e,z⟩
  ·exact .inl l
  ·exact .inr ⟨k,c,e,cellK x c e _ z⟩
 ·obtain⟨v,z⟩:=I.cell x c e
  exact⟨v,cellK x c e v z⟩
 ·obtain⟨m,⟨o,_,_,ho,_⟩,_⟩:=I.loc
  exact free _ o (fun z=>(hch _ z).2.1 rfl) ho I.free
 ·obtain⟨v,o,ho,hd⟩:=I.cell x c e
  exact free c o (fun z=>(hch c z).2.2.1 x c e rfl) ho (I.kU x c e)
 ·obtain⟨e,n,ne,nf,d⟩:=I.pin p hp
  have ME:p.1∉ch:=fun z=>(hch p.1 z).2.2.2 p hp rfl
  exact⟨keep p.1 p.2 ne nf ME e n,free p.1 p.2 ME e n,ne,nf,d⟩
theorem Inv.un{t':Nat}(I:Inv X pins σ H s)(u:Un X.fs [] H H' s.heap h')(hok:mT X.prog X.w H' h'):Inv X pins σ H' {s with heap:=h',toks:=t'}:=by
 obtain⟨m,⟨o,es,ep,ho,r⟩,_⟩:=id I.loc
 obtain⟨sl,hL⟩:=u.any ho I.free (by simp)
 exact I.step (g':=s.gens) (d':=s.drawn) (ch:=[]) (fun _ z=>nomatch z) (fun b o _ hb _ e n=>u.keep b o e n hb (by simp)) (fun b o _ hb _ e n=>u.slot b o e n hb (by simp)) (fun b o _ e n=>u.free b o e n (by simp)) (fun b o _ e=>u.there b o e (by simp)) u.tups u.mV u.oA (fun m' hm=>by
  obtain⟨o',es',Wi,ho',r'⟩:=hm
  rw[ho]at ho';cases ho'
  exact⟨_,es',Wi,hL,r'⟩) hok I.bare
theorem Inv.call{g':Array GenState}{t':Nat}{d':Drawn}{ch:List Addr}(I:Inv X pins σ H s)(u:Un (frs X.stack) ch H H' s.heap h')(hok:mT X.prog X.w H' h')(hg:AllBare g')
 (hch:∀b∈ch,(b∈X.ex\/X.s₀.heap.objs.size<=b)/\b≠X.env.locals/\(∀x c,X.env.cells.lookup x=some c->c≠b)/\∀p∈X.pn++pins,p.1≠b):
 Inv X pins σ H' {s with heap:=h',gens:=g',drawn:=d',toks:=t'}:=by
 obtain⟨m,⟨o,es,ep,ho,r⟩,_⟩:=id I.loc
 obtain⟨sl,hL⟩:=u.any ho I.free fun z=>(hch _ z).2.1 rfl
 exact I.step (ch:=ch) hch (fun b o hL hb hc e n=>u.keep b o e n (fun z=>(FV.mp (I.Am b z)).elim hL hb) hc) (fun b o _ _ hc e n=>u.any e n hc) (fun b o hc e n=>u.free b o e n hc) (fun b o hc e=>u.there b o e hc) u.tups u.mV u.oA (fun m' hm=>by
  obtain⟨o',es',Wi,ho',r'⟩:=hm
  rw[ho]at ho';cases ho'
  exact⟨_,es',Wi,hL,r'⟩) hok hg
theorem Inv.turned{t':Nat}{it:Addr}(I:Inv X pins σ H s)(k:∀b o,b≠it->s.heap.get? b=some o->h'.get? b=some o)(hn:H it=none)(hL:it≠X.env.locals)
 (h1:it∈X.ex\/X.s₀.heap.objs.size<=it) (h2:∀x c,X.env.cells.lookup x=some c->c≠it) (h3:∀p∈X.pn++pins,p.1≠it):Inv X pins σ H {s with heap:=h',toks:=t'}:=by
 have YQ:∀b u,H b=some u->b≠it:=fun b u e z=>by rw[z,hn]at e;cases e
 refine I.step (g':=s.gens) (d':=s.drawn) (ch:=[it]) (fun b hb=>?_) (fun b o _ _ hc e _=>k b o (fun z=>hc (by simp[z])) e) (fun b o _ _ hc e _=>⟨o.slots,k b o (fun z=>hc (by simp[z])) e⟩) (fun _ _ _ _ n=>n)
  (fun b o hc e=>⟨o,k b o (fun z=>hc (by simp[z])) e⟩) (fun _ _ e=>e) (fun _ _ _ e=>e) (fun b ps e=>⟨#[],by rw[e];simp⟩) (fun m hm=>?_) (fun b u e=>?_) I.bare
 ·have e:b=it:=by simpa using hb
  subst e
  exact⟨h1,hL,h2,h3⟩
 ·obtain⟨o,es,ep,ho,r⟩:=hm
  exact⟨o,es,ep,k _ o (Q1 hL) ho,r⟩
 ·refine(I.hok b u e).stay (fun c v hc q=>k c v ?_ q) (fun _ q=>q) fun _ _ q=>q
  rcases hc with z|z
  ·rw[z];exact YQ b u e
  ·exact YQ c _ z
theorem Inv.tok(I:Inv X pins σ H s)(t:Nat):Inv X pins σ H {s with toks:=t}:=I.un (h':=s.heap) (t':=t) Un.refl I.hok
theorem Inv.kept{t':Nat}(I:Inv X pins σ H s)(k:∀b u,s.heap.get? b=some u->h'.get? b=some u):Inv X pins σ H {s with heap:=h',toks:=t'}:=I.un (Un.kept k) (I.hok.kept k)
theorem Inv.laid{a:Addr}{o:HO}{t':Nat}(I:Inv X pins σ H s)(k:∀b u,s.heap.get? b=some u->h'.get? b=some u)(hp:s.heap.objs.size<=a)(new:dQ X.prog X.w (upd H a o) h' a o):
 Inv X pins σ (upd H a o) {s with heap:=h',toks:=t'}:=I.un (Un.laid k hp (I.hok.fresh hp)) (I.hok.laid k hp new)
theorem Inv.write{x e:Addr}{o:HO}{t':Nat}(I:Inv X pins σ H s)(mu:VI (H x))(he:e=x\/H e=some (.own x))(k:∀b u,b≠e->s.heap.get? b=some u->h'.get? b=some u)(RW:∃u,h'.get? e=some u)
 (new:dQ X.prog X.w (upd H x o) h' x o):Inv X pins σ (upd H x o) {s with heap:=h',toks:=t'}:=I.un (Un.write mu he k RW) (I.hok.write mu he k RW new)
theorem Inv.B8{MF:List (Addr×Obj)}(I:Inv X pins σ H s)(h:∀p∈MF,s.heap.get? p.1=some p.2/\H p.1=none/\p.1≠X.env.locals/\p.1∉X.fs/\∀v,p.2.data≠.cell v):Inv X MF σ H s:=
 ⟨I.ok,I.os,I.bare,I.base,I.loc,I.cell,I.free,I.kU,fun p hp=>(Hb.mp hp).elim (fun z=>I.pin p (P2 _ z)) (h p),I.hok,I.len⟩
theorem xR{N:List Str}(hN:N.Nodup){i j:Nat}{x:Str}(a:N[i]?=some x)(b:N[j]?=some x):i=j:=by
 obtain⟨h1,e1⟩:=GM.mp a
 obtain⟨h2,e2⟩:=GM.mp b
 exact(List.getElem_inj hN).mp (e1.trans e2.symm)
theorem um{M:Model}{A:Around}{E:Value->Shared->Prop}{i:Nat}{x:Str}{v:V}{u:Value}{Q:Unit->Shared->Prop}(I:Inv X pins σ H s)(hN:X.N.Nodup)(hi:X.N[i]?=some x)(hx:Loc X.env.scope x)(r:RelV v u)
 (h:∀s',Inv X pins (σ.set i (some v)) H s'->(∃a,Heap.SameBut a s.heap s'.heap/\(a=X.env.locals\/X.env.cells.lookup x=some a))->Q () s') (hf:X.fn x=true\/X.env.scope.names.lookup x=some .local:=by first|exact .inl rfl|exact .inr rfl|assumption):wpAny M A (storeName X.env x u) Q E s:=by
 obtain⟨m,hn,hl⟩:=id I.loc
 have hcls:(X.env.scope.kind==.class||(X.env.scope.kind==.module&&X.env.locals !=X.env.globals))=false:=by rw[I.ok.kind];rfl
 have SO:i<σ.length:=by rw[I.len];exact(GM.mp hi).1
 have NJ:=I.NJ
 have tracked:∀{a:Addr} {h':Heap},(∃o,s.heap.get? a=some o/\H a=none)->Heap.SameBut a s.heap h'->mT X.prog X.w H h':=fun{a h'} ha hs b ob e=>by
  obtain⟨_,_,hfree⟩:=ha
  refine(I.hok b ob e).stay (fun c w' hc q=>(hs.2 c ?_).trans q) (fun _ q=>q) fun _ _ q=>q
  rintro rfl
  rcases hc with rfl|hc
  ·rw[hfree]at e;cases e
  ·rw[hfree]at hc;cases hc
 rcases hx with hk|hk
 ·refine wpAny_storeName_local hk hn (fun h' hn' hs=>?_) hcls
  obtain⟨oL,_,_,ZZ,_⟩:=id hn
  refine h _ ⟨I.ok,I.os,I.bare,⟨fun b o e n hb hx=>?_,fun b o e n hb hx=>?_,I.base.free,fun b o e hx=>?_,I.base.tups,I.base.mV,I.base.oA⟩,⟨_,hn',fun j y v' e1 e2 e3=>?_⟩,fun y c e=>?_,I.free,I.kU,fun p hp=>?_,tracked ⟨oL,ZZ,I.free⟩ hs,by simpa using I.len⟩ ⟨_,hs,.inl rfl⟩
  ·exact(hs.2 b (Kk (GE (Fs e) I.ok.above))).trans (I.base.keep b o e n hb hx)
  ·obtain⟨sl,e1⟩:=I.base.slot b o e n hb hx
   exact⟨sl,(hs.2 b (Kk (GE (Fs e) I.ok.above))).trans e1⟩
  ·obtain⟨o',e1⟩:=I.base.there b o e hx
   exact⟨o',(hs.2 b (Kk (GE (Fs e) I.ok.above))).trans e1⟩
  ·by_cases hj:j=i
   ·subst hj
    rw[hi]at e1;cases e1
    rw[QR SO]at e2
    cases e2
    exact⟨u,r,.inl ⟨hk,by simp⟩⟩
   ·rw[Mo (Q1 hj)]at e2
    obtain⟨u',r',q⟩:=hl j y v' e1 e2 e3
    refine⟨u',r',?_⟩
    rcases q with⟨k,e⟩|⟨k,c,e,z⟩
    ·refine .inl ⟨k,?_⟩
     have:y≠x:=fun e=>hj (xR hN e1 (e▸hi))
     simp[this,e]
    ·exact .inr ⟨k,c,e,z.sameBut hs (NJ y c e)⟩
  ·obtain⟨w',z⟩:=I.cell y c e
   exact⟨w',z.sameBut hs (NJ y c e)⟩
  ·obtain⟨e,n,ne,nf,d⟩:=I.pin p hp
   exact⟨(hs.2 p.1 ne).trans e,n,ne,nf,d⟩
 ·have hfn:X.fn x=true:=by
   rcases hf with z|z
   ·exact z
   ·rw[z]at hk;cases hk
  obtain⟨c,hc⟩:=I.ok.has x (.inl hk)
  obtain⟨w',z⟩:=I.cell x c hc
  refine wpAny_storeName_cell I.ok.kind hk hc z (fun h' hc' hs=>?_)
  obtain⟨oc,hoc,Wj⟩:=id z
  refine h {s with heap:=h'} ⟨I.ok,I.os,I.bare,⟨fun b o e n hb hx=>?_,fun b o e n hb hx=>?_,I.base.free,fun b o e hx=>?_,I.base.tups,I.base.mV,I.base.oA⟩,⟨m,hn.sameBut hs (Q1 (NJ x c hc)),fun j y v' e1 e2 e3=>?_⟩,fun y c' e=>?_,I.free,I.kU,fun p hp=>?_,tracked ⟨oc,hoc,I.kU x c hc⟩ hs,by simpa using I.len⟩ ⟨c,hs,.inr hc⟩
  ·exact(hs.2 b (Kk (GE (Fs e) (I.ok.SN x c hfn hc)))).trans (I.base.keep b o e n hb hx)
  ·obtain⟨sl,e1⟩:=I.base.slot b o e n hb hx
   exact⟨sl,(hs.2 b (Kk (GE (Fs e) (I.ok.SN x c hfn hc)))).trans e1⟩
  ·obtain⟨o',e1⟩:=I.base.there b o e hx
   exact⟨o',(hs.2 b (Kk (GE (Fs e) (I.ok.SN x c hfn hc)))).trans e1⟩
  ·by_cases hj:j=i
   ·subst hj
    rw[hi]at e1;cases e1
    rw[QR SO]at e2
    cases e2
    exact⟨u,r,.inr ⟨.inl hk,c,hc,hc'⟩⟩
   ·rw[Mo (Q1 hj)]at e2
    obtain⟨u',r',q⟩:=hl j y v' e1 e2 e3
    refine⟨u',r',?_⟩
    rcases q with q|⟨k,c',e,z'⟩
    ·exact .inl q
    ·refine .inr ⟨k,c',e,z'.sameBut hs ?_⟩
     rintro rfl
     exact hj (xR hN e1 (I.ok.inj _ _ _ e hc▸hi))
  ·by_cases hcc:c'=c
   ·subst hcc;exact⟨_,hc'⟩
   ·obtain⟨w2,z2⟩:=I.cell y c' e
    exact⟨w2,z2.sameBut hs hcc⟩
  ·obtain⟨e,n,ne,nf,d⟩:=I.pin p hp
   refine⟨(hs.2 p.1 ?_).trans e,n,ne,nf,d⟩
   intro q
   rw[q,hoc]at e
   have q':oc=p.2:=KE e
   exact d w' (by rw[←q'];exact Wj)
theorem gA{M:Model}{A:Around}{E:Value->Shared->Prop}{i:Nat}{x:Str}{v:V}{u:Value}{Q:Unit->Shared->Prop}(I:Inv X pins σ H s)(hN:X.N.Nodup)(hi:X.N[i]?=some x)(hx:Loc X.env.scope x)(r:RelV v u)
 (h:∀s',Inv X pins (σ.set i (some v)) H s'->Q () s') (hf:X.fn x=true\/X.env.scope.names.lookup x=some .local:=by first|exact .inl rfl|exact .inr rfl|assumption):wpAny M A (storeName X.env x u) Q E s:=
 um I hN hi hx r (fun s' I' _=>h s' I') hf
theorem Inv.FQ{s':Shared}{ch:List Addr}(I:Inv X pins σ H s)(ho:s'.os=s.os)(u:Un (frs X.stack) ch H H' s.heap s'.heap)(hok:mT X.prog X.w H' s'.heap)(hg:AllBare s'.gens)
 (hch:∀b∈ch,(b∈X.ex\/X.s₀.heap.objs.size<=b)/\b≠X.env.locals/\(∀x c,X.env.cells.lookup x=some c->c≠b)/\∀p∈X.pn++pins,p.1≠b):Inv X pins σ H' s':=by
 obtain⟨h',g',d',t',o'⟩:=s'
 have e:o'=s.os:=ho
 subst e
 exact I.call (g':=g') (t':=t') (d':=d') u hok hg hch
end
abbrev XK:=Value->Option Addr->Hp->Prop
abbrev St:=List (Option V)
abbrev VK:=V->Hp->Prop
abbrev TE:=St->Hp->VK->Prop
abbrev TT:=St->Hp->(Bool->Hp->Prop)->Prop
abbrev TA:=St->Hp->(List V->Hp->Prop)->Prop
set_option genInjectivity false in
set_option genSizeOf false in
structure Ends where
 nx:St->Hp->Prop
 rt:VK
 bk:St->Hp->Prop:=fun _ _=>False
 ct:St->Hp->Prop:=fun _ _=>False
abbrev TS:=Ends->St->Hp->Prop
noncomputable def EP(X:Cx)(pins:List (Addr×Obj))(σ:St)(Q:VK)(u:Value)(s':Shared):Prop:=∃v H',Inv X pins σ H' s'/\RelV v u/\Q v H'
noncomputable def TP(X:Cx)(pins:List (Addr×Obj))(σ:St)(Q:Bool->Hp->Prop)(b:Bool)(s':Shared):Prop:=∃H',Inv X pins σ H' s'/\Q b H'
noncomputable def AP(X:Cx)(pins:List (Addr×Obj))(σ:St)(Q:List V->Hp->Prop)(us:List Value)(s':Shared):Prop:=∃vs H',Inv X pins σ H' s'/\Vals vs us/\Q vs H'
noncomputable def SP(X:Cx)(pins:List (Addr×Obj))(D:Ends)(f:Flow)(s':Shared):Prop:=
 match f with
 |.next=>∃σ' H',Inv X pins σ' H' s'/\D.nx σ' H'
 |.brk=>∃σ' H',Inv X pins σ' H' s'/\D.bk σ' H'
 |.cont=>∃σ' H',Inv X pins σ' H' s'/\D.ct σ' H'
 |.ret u=>∃v σ' H',Inv X pins σ' H' s'/\RelV v u/\D.rt v H'
noncomputable def PE(X:Cx)(e:Expr)(t:TE):Prop:=
 ∀(pins:List (Addr×Obj)) (s:Shared) (σ:St) (H:Hp) (Q:VK),Inv X pins σ H s->t σ H Q->wpAny (model X.prog X.w) X.A (eval e X.env) (EP X pins σ Q) X.xe s
noncomputable def PT(X:Cx)(e:Expr)(t:TT):Prop:=
 ∀(pins:List (Addr×Obj)) (s:Shared) (σ:St) (H:Hp) (Q:Bool->Hp->Prop),Inv X pins σ H s->t σ H Q->wpAny (model X.prog X.w) X.A (isTrue e X.env (eval e X.env)) (TP X pins σ Q) X.xe s
noncomputable def PW(X:Cx)(e:Expr)(t:TT):Prop:=
 ∀(whole:Sem Value) (pins:List (Addr×Obj)) (s:Shared) (σ:St) (H:Hp) (Q:Bool->Hp->Prop),Inv X pins σ H s->t σ H Q->wpAny (model X.prog X.w) X.A (isTrue e X.env whole) (TP X pins σ Q) X.xe s
theorem PW.pt{X:Cx}{e:Expr}{t:TT}(h:PW X e t):PT X e t:=h _
noncomputable def PA(X:Cx)(es:List Expr)(t:TA):Prop:=
 ∀(pos:Pos) (pins:List (Addr×Obj)) (s:Shared) (σ:St) (H:Hp) (Q:List V->Hp->Prop),Inv X pins σ H s->t σ H Q->wpAny (model X.prog X.w) X.A (spliced (backTo pos (starEach es X.env))) (AP X pins σ Q) X.xe s
noncomputable def PS(X:Cx)(st:Stmt)(t:TS):Prop:=
 ∀(pins:List (Addr×Obj)) (s:Shared) (σ:St) (H:Hp) (D:Ends),Inv X pins σ H s->t D σ H->wpAny (model X.prog X.w) X.A (exec st X.env) (SP X pins D) X.xe s
noncomputable def Af(X:Cx)(st:List Stmt)(t:TS):Prop:=
 ∀(pins:List (Addr×Obj)) (s:Shared) (σ:St) (H:Hp) (D:Ends),Inv X pins σ H s->t D σ H->wpAny (model X.prog X.w) X.A (execs st X.env) (SP X pins D) X.xe s
theorem bT{α:Type}{t:Sem α}{Q Q':α->Shared->Prop}{M:Model}{A:Around}{E:Value->Shared->Prop}{s:Shared}(h:wpAny M A t Q E s)(hQ:∀a s,Q a s->Q' a s):wpAny M A t Q' E s:=wpAny_mono h hQ fun _ _ x=>x
section
variable{X:Cx}
theorem bin{a b:Expr}{ta tb:TE}(ha:PE X a ta)(hb:PE X b tb){pins:List (Addr×Obj)}{s:Shared}{σ:St}{H:Hp}{R:V->V->Hp->Prop}(I:Inv X pins σ H s)(h:ta σ H fun x H1=>tb σ H1 fun y H2=>R x y H2)
 {α:Type} {Q:α->Shared->Prop} {f:Value->Value->Sem α}
 (hf:∀v u s2 x y H2,Inv X pins σ H2 s2->RelV x v->RelV y u->R x y H2->wpAny (model X.prog X.w) X.A (f v u) Q X.xe s2):
 wpAny (model X.prog X.w) X.A (eval a X.env) (fun v s₁=>wpAny (model X.prog X.w) X.A (eval b X.env) (fun u s₂=>wpAny (model X.prog X.w) X.A (f v u) Q X.xe s₂) X.xe s₁) X.xe s:=by
 refine bT (ha pins s σ H _ I h) fun v s1 ⟨x,H1,I1,r1,q1⟩=>?_
 refine bT (hb pins s1 σ H1 _ I1 q1) fun u s2 ⟨y,H2,I2,r2,q2⟩=>?_
 exact hf v u s2 x y H2 I2 r1 r2 q2
noncomputable def kQ(i:Nat):TE:=fun σ H Q=>∃v,σ[i]?=some (some v)/\Q v H
noncomputable def tC(v:V):TE:=fun _ H Q=>Q v H
theorem FT{i:Nat}{x:Str}{pos:Pos}(hN:X.N[i]?=some x)(hv:RX X.env.scope x)(hd:(x==("__debug__":Str))=false:=by decide)(hcd:(x==("__classdict__":Str))=false:=by decide):PE X (.Name x pos) (kQ i):=by
 intro pins s σ H Q I h
 obtain⟨v,e,h⟩:=h
 obtain⟨m,hn,hl⟩:=I.loc
 obtain⟨u,r,l⟩:=hl i x v hN e hv
 have fin:EP X pins σ Q u s:=⟨v,H,I,r,h⟩
 rcases l with⟨hk,hm⟩|⟨hk,c,hc,hcell⟩
 ·exact wpAny_Name (wpAny_loadName_local I.ok.kind hk hn hm fin) hd
 ·rcases hk with hk|hk
  ·exact wpAny_Name (wpAny_loadName_cell I.ok.kind hk hc hcell fin) hd
  ·exact wpAny_Name (wpAny_loadName_free I.ok.kind hk hc hcell fin hcd) hd
theorem lV{i j pos}:PE X (.Constant (.int i) j pos) (tC (.int i)):=fun _ _ _ H _ I h=>wpAny_Constant_int ⟨.int i,H,I.tok _,⟨_,rfl⟩,h⟩
theorem SQ{b j pos}:PE X (.Constant (.bool b) j pos) (tC (.bl b)):=fun _ _ _ H _ I h=>Constant_bool ⟨.bl b,H,I,rfl,h⟩
theorem NK{j pos}:PE X (.Constant .none j pos) (tC .aX):=fun _ _ _ H _ I h=>Constant_none ⟨.aX,H,I,rfl,h⟩
theorem NL{x j pos}:PE X (.Constant (.str x) j pos) (tC (.str x)):=fun _ _ _ H _ I h=>Calls.Constant_str ⟨.str x,H,I.tok _,⟨_,rfl⟩,h⟩
noncomputable def Gl(X:Cx)(x:Str):Prop:=X.env.kindOf x=some .globalImplicit
theorem u7{E:Value->Shared->Prop}{pins:List (Addr×Obj)}{s:Shared}{σ:St}{H:Hp}{x:Str}{u:Value}{pos:Pos}{Q:Value->Shared->Prop}(I:Inv X pins σ H s)(hg:Gl X x)(hm:X.mg x=some u)(h:Q u s)
 (hd:(x==("__debug__":Str))=false:=by decide):wpAny (model X.prog X.w) X.A (eval (.Name x pos) X.env) Q E s:=
 Calls.Name_function_global I.ok.kind hg (Calls.loadGlobal_global (by rw[I.ok.glob];exact I.mod.glob.keeps I.bk) hm h) hd
theorem lX{E:Value->Shared->Prop}{pins:List (Addr×Obj)}{s:Shared}{σ:St}{H:Hp}{x:Str}{u:Value}{pos:Pos}{Q:Value->Shared->Prop}(I:Inv X pins σ H s)(hg:Gl X x)(hm:X.mg x=none)(hv:bootBuiltins x=some u)(h:Q u s)
 (hn:x≠"__name__":=by decide) (hd:(x==("__debug__":Str))=false:=by decide):wpAny (model X.prog X.w) X.A (eval (.Name x pos) X.env) Q E s:=by
 obtain⟨mb,h1,h2⟩:=I.mod.blt
 exact Calls.Name_function_global I.ok.kind hg (Calls.loadGlobal_builtin (by rw[I.ok.glob];exact I.mod.glob.keeps I.bk) hm (by rw[I.ok.blt];exact h1.keeps I.bk) ((h2 x hn).trans hv) h) hd
theorem JJ{x:Str}{v:V}{u:Value}{pos:Pos}(hg:Gl X x)(hm:X.mg x=some u)(r:RelV v u)(hd:(x==("__debug__":Str))=false:=by decide):PE X (.Name x pos) (tC v):=
 fun _ _ _ H _ I h=>u7 I hg hm ⟨v,H,I,r,h⟩ hd
variable{a b:Expr}{ta tb:TE}{pos:Pos}
noncomputable def tB(t:TE):TT:=fun σ H Q=>t σ H fun x H1=>∃c,x=.bl c/\Q c H1
theorem NN{e:Expr}{t:TE}(h:PE X e t)(he:∀whole,isTrue e X.env whole=(do let v←whole;standAt e.pos;holding [v] (truthy v)):=by intro _;rfl):PT X e (tB t):=by
 intro pins s σ H Q I hw
 refine isTrue_plain (bT (h pins s σ H _ I hw) fun v s1 ⟨x,H1,I1,r1,q1⟩=>?_) (he _)
 obtain⟨d,rfl,q⟩:=q1
 cases r1
 exact wpAny_truthy_bool ⟨H1,I1,q⟩
variable{tA VO:TT}{rest:List Expr}
noncomputable def Wk(t u:TT):TT:=fun σ H Q=>t σ H fun c H1=>if c=true then u σ H1 Q else Q false H1
noncomputable def Z0(t u:TT):TT:=fun σ H Q=>t σ H fun c H1=>if c=true then Q true H1 else u σ H1 Q
noncomputable def Wl(t:TT):TT:=fun σ H Q=>t σ H fun c H1=>Q (!c) H1
theorem JK(ha:PT X a tA):PW X (.BoolOp .And [a] pos) tA:=by
 intro wh pins s σ H Q I h
 refine isTrue_and (bT (ha pins s σ H Q I h) fun c s1 e=>?_)
 cases c with
 |true=>exact isTrue_and_nil e
 |false=>exact e
theorem NO(ha:PT X a tA):PW X (.BoolOp .Or [a] pos) tA:=by
 intro wh pins s σ H Q I h
 refine isTrue_or (bT (ha pins s σ H Q I h) fun c s1 e=>?_)
 cases c with
 |false=>exact isTrue_or_nil e
 |true=>exact e
theorem NP(ha:PT X a tA)(hb:PW X (.BoolOp .And (b::rest) pos) VO):PW X (.BoolOp .And (a::b::rest) pos) (Wk tA VO):=by
 intro wh pins s σ H Q I h
 refine isTrue_and (bT (ha pins s σ H _ I h) fun c s1 ⟨H1,I1,q1⟩=>?_)
 cases c with
 |true=>exact hb wh pins s1 σ H1 Q I1 q1
 |false=>exact⟨H1,I1,q1⟩
theorem SV(ha:PT X a tA)(hb:PW X (.BoolOp .Or (b::rest) pos) VO):PW X (.BoolOp .Or (a::b::rest) pos) (Z0 tA VO):=by
 intro wh pins s σ H Q I h
 refine isTrue_or (bT (ha pins s σ H _ I h) fun c s1 ⟨H1,I1,q1⟩=>?_)
 cases c with
 |true=>exact⟨H1,I1,q1⟩
 |false=>exact hb wh pins s1 σ H1 Q I1 q1
theorem NQ(ha:PT X a tA):PT X (.UnaryOp .Not a pos) (Wl tA):=by
 intro pins s σ H Q I h
 exact isTrue_not (ha pins s σ H (fun c H1=>Q (!c) H1) I h)
noncomputable def SW(ta tb:TE):TE:=fun σ H Q=>ta σ H fun x H1=>∃c,x=.bl c/\if c=true then tb σ H1 Q else Q (.bl false) H1
noncomputable def Wm(ta tb:TE):TE:=fun σ H Q=>ta σ H fun x H1=>∃c,x=.bl c/\if c=true then Q (.bl true) H1 else tb σ H1 Q
noncomputable def SX(ta:TE):TE:=fun σ H Q=>ta σ H fun x H1=>∃c,x=.bl c/\Q (.bl (!c)) H1
theorem FU{op}{t:TE}(h:PE X a t):PE X (.BoolOp op [a] pos) t:=fun pins s σ H Q I hw=>BoolOp_one (h pins s σ H Q I hw)
theorem NR(ha:PE X a ta)(hb:PE X (.BoolOp .And (b::rest) pos) tb):PE X (.BoolOp .And (a::b::rest) pos) (SW ta tb):=by
 intro pins s σ H Q I h
 refine BoolOp_and (bT (ha pins s σ H _ I h) fun v s1 ⟨x,H1,I1,r1,q1⟩=>?_)
 obtain⟨c,rfl,q1⟩:=q1
 cases r1
 refine wpAny_truthy_bool ?_
 cases c with
 |true=>exact hb pins s1 σ H1 Q I1 q1
 |false=>exact⟨.bl false,H1,I1,rfl,q1⟩
theorem SY(ha:PE X a ta)(hb:PE X (.BoolOp .Or (b::rest) pos) tb):PE X (.BoolOp .Or (a::b::rest) pos) (Wm ta tb):=by
 intro pins s σ H Q I h
 refine BoolOp_or (bT (ha pins s σ H _ I h) fun v s1 ⟨x,H1,I1,r1,q1⟩=>?_)
 obtain⟨c,rfl,q1⟩:=q1
 cases r1
 refine wpAny_truthy_bool ?_
 cases c with
 |false=>exact hb pins s1 σ H1 Q I1 q1
 |true=>exact⟨.bl true,H1,I1,rfl,q1⟩
theorem NS(ha:PE X a ta):PE X (.UnaryOp .Not a pos) (SX ta):=by
 intro pins s σ H Q I h
 refine UnaryOp_ (bT (ha pins s σ H _ I h) fun v s1 ⟨x,H1,I1,r1,q1⟩=>?_)
 obtain⟨c,rfl,q1⟩:=q1
 cases r1
 exact not_of (wpAny_truthy_bool ⟨.bl (!c),H1,I1,rfl,q1⟩)
noncomputable def Z1(t:TT)(ta tb:TE):TE:=fun σ H Q=>t σ H fun c H1=>if c=true then ta σ H1 Q else tb σ H1 Q
theorem FW{c:Expr}(hc:PT X c tA)(ha:PE X a ta)(hb:PE X b tb):PE X (.IfExp c a b pos) (Z1 tA ta tb):=by
 intro pins s σ H Q I h
 refine wpAny_IfExp (bT (hc pins s σ H _ I h) fun d s1 ⟨H1,I1,q1⟩=>?_)
 cases d with
 |true=>exact ha pins s1 σ H1 Q I1 q1
 |false=>exact hb pins s1 σ H1 Q I1 q1
end
noncomputable def kR(K:PySem.W.Frag)(H:Hp)(a:Addr)(xs:List V):Prop:=
 Rd H a (.lst xs)\/
  ∃(o:Obj) (its:Array Value) (n:Nat),K.lookup a=some o/\o.cls=.type "list"/\o.dict=none/\o.data=.seq its n/\its.size<=sizeLine/\Vals xs its.toList
noncomputable def lY(K:PySem.W.Frag)(H:Hp)(a:Addr)(xs:List V):Prop:=
 Rd H a (.tup xs)\/
  ∃(o:Obj) (its:Array Value) (n:Nat),K.lookup a=some o/\o.cls=.type "tuple"/\o.data=.seq its n/\its.size<=sizeLine/\Vals xs its.toList
noncomputable def Wn:Value->Option V
 |.none=>some .aX
 |.bool b=>some (.bl b)
 |.int i _=>some (.int i)
 |.str x _=>some (.str x)
 |.bytes b _=>some (.FA b)
 |.float b _=>some (.RV b)
 |.ref a=>some (.ref a)
 |.type n=>some (.ty n)
 |_=>none
theorem RelV.abs{x:V}{u:Value}(r:RelV x u):Wn u=some x:=by
 cases x with
 |aX=>cases r;rfl
 |bl _=>cases r;rfl
 |int _=>obtain⟨t,rfl⟩:=r;rfl
 |str _=>obtain⟨t,rfl⟩:=r;rfl
 |FA _=>obtain⟨t,rfl⟩:=r;rfl
 |RV _=>obtain⟨t,rfl⟩:=r;rfl
 |ref _=>cases r;rfl
 |ty _=>cases r;rfl
theorem RelV.inj{x y:V}{u:Value}(r:RelV x u)(q:RelV y u):x=y:=KE (r.abs.symm.trans q.abs)
theorem Vals.inj:∀{xs ys:List V} {us:List Value},Vals xs us->Vals ys us->xs=ys
 |_,_,_,.nil,.nil=>rfl
 |_,_,_,.cons r t,.cons r' t'=>by rw[r.inj r',Vals.inj t t']
section
variable{X:Cx}{pins:List (Addr×Obj)}{σ:St}{H:Hp}{s:Shared}{a:Addr}{xs ys:List V}
theorem lY.of{K:PySem.W.Frag}(h:H a=some (.tup xs)):lY K H a xs:=.inl (.inl h)
theorem Inv.list(I:Inv X pins σ H s)(h:kR X.K H a xs):∃its:List Value,Vals xs its/\PlainL s.heap a its.toArray/\xs.length<=sizeLine:=by
 rcases h with h|⟨o,its,n,hk,hc,hd,hs,hz,r⟩
 ·obtain⟨z,its,n,r,e⟩:=h.ok I.hok
  exact⟨its,r,⟨_,n,e,rfl,rfl,rfl⟩,z⟩
 ·refine⟨its.toList,r,⟨o,n,I.B7 a o hk,hc,hd,by simpa using hs⟩,?_⟩
  have e:=r.length
  simp only[Array.length_toList]at e
  omega
theorem Inv.tuple(I:Inv X pins σ H s)(h:lY X.K H a xs):∃its:List Value,Vals xs its/\IsTup s.heap a its.toArray/\xs.length<=sizeLine:=by
 rcases h with h|⟨o,its,n,hk,hc,hs,hz,r⟩
 ·obtain⟨z,its,r,p⟩:=h.ok I.hok
  exact⟨its,r,p,z⟩
 ·refine⟨its.toList,r,⟨o,I.B7 a o hk,hc,n,by simpa using hs⟩,?_⟩
  have e:=r.length
  simp only[Array.length_toList]at e
  omega
theorem Inv.qQ(I:Inv X pins σ H s)(h:kR X.K H a xs)(h':kR X.K H a ys):xs=ys:=by
 obtain⟨its,r,⟨o,n,e,_,_,d⟩,_⟩:=I.list h
 obtain⟨its',r',⟨o',n',e',_,_,d'⟩,_⟩:=I.list h'
 rw[e]at e';cases e'
 rw[d]at d'
 injection d' with d1 _
 have:its=its':=by simpa using SZ Array.toList d1
 subst this
 exact r.inj r'
theorem Inv.Ed(I:Inv X pins σ H s)(h:lY X.K H a xs)(h':lY X.K H a ys):xs=ys:=by
 obtain⟨its,r,⟨o,e,_,n,d⟩,_⟩:=I.tuple h
 obtain⟨its',r',⟨o',e',_,n',d'⟩,_⟩:=I.tuple h'
 rw[e]at e';cases e'
 rw[d]at d'
 injection d' with d1 _
 have:its=its':=by simpa using SZ Array.toList d1
 subst this
 exact r.inj r'
end
abbrev Cx.tM(X:Cx)(E:Value->Shared->Prop):Cx:={X with xe:=E}
abbrev Cx.tK(X:Cx):Cx:=X.tM fun _ _=>False
theorem Cx.Ok.tM{X:Cx}(ok:X.Ok)(E:Value->Shared->Prop):(X.tM E).Ok:=
 ⟨ok.mod,ok.kind,ok.glob,ok.blt,ok.above,ok.inj,ok.has,ok.SN,ok.hd,ok.frames,ok.stk,ok.VM,ok.bs,ok.JH,ok.FP,ok.Ec,ok.qg,ok.NI⟩
theorem Cx.Ok.jK{X:Cx}{E:Value->Shared->Prop}(ok:(X.tM E).Ok):X.Ok:=
 ⟨ok.mod,ok.kind,ok.glob,ok.blt,ok.above,ok.inj,ok.has,ok.SN,ok.hd,ok.frames,ok.stk,ok.VM,ok.bs,ok.JH,ok.FP,ok.Ec,ok.qg,ok.NI⟩
section
variable{X:Cx}{pins:List (Addr×Obj)}{σ:St}{H:Hp}{s:Shared}{E:Value->Shared->Prop}
theorem Inv.tM(I:Inv X pins σ H s)(E:Value->Shared->Prop):Inv (X.tM E) pins σ H s:=⟨I.ok.tM E,I.os,I.bare,I.base,I.loc,I.cell,I.free,I.kU,I.pin,I.hok,I.len⟩
theorem Inv.jK(I:Inv (X.tM E) pins σ H s):Inv X pins σ H s:=⟨I.ok.jK,I.os,I.bare,I.base,I.loc,I.cell,I.free,I.kU,I.pin,I.hok,I.len⟩
theorem SP.jK{D:Ends}{f:Flow}{s':Shared}(h:SP (X.tM E) pins D f s'):SP X pins D f s':=by
 cases f with
 |next=>obtain⟨σ',H',I,q⟩:=h;exact⟨σ',H',I.jK,q⟩
 |brk=>obtain⟨σ',H',I,q⟩:=h;exact⟨σ',H',I.jK,q⟩
 |cont=>obtain⟨σ',H',I,q⟩:=h;exact⟨σ',H',I.jK,q⟩
 |ret u=>obtain⟨v,σ',H',I,r,q⟩:=h;exact⟨v,σ',H',I.jK,r,q⟩
end
section
variable{X:Cx}{st:Stmt}{rest:List Stmt}{t u:TS}{e:Expr}{te:TE}{pos:Pos}
noncomputable def S5:TS:=fun D σ H=>D.nx σ H
noncomputable def Wo(t u:TS):TS:=fun D σ H=>t {D with nx:=u D} σ H
theorem JL:Af X [] S5:=fun _ _ σ H _ I h=>wpAny_execs_nil ⟨σ,H,I,h⟩
theorem dS(h1:PS X st t)(h2:Af X rest u):Af X (st::rest) (Wo t u):=by
 intro pins s σ H D I h
 refine wpAny_execs_cons (bT (h1 pins s σ H {D with nx:=u D} I h) fun f s1 q=>?_)
 cases f with
 |next=>
  obtain⟨σ',H',I',q⟩:=q
  exact h2 pins s1 σ' H' D I' q
 |ret v=>exact q
 |brk=>exact q
 |cont=>exact q
theorem B9(h1:PS X st t):Af X [st] t:=by
 intro pins s σ H D I h
 refine wpAny_execs_cons (bT (h1 pins s σ H D I h) fun f s1 q=>?_)
 cases f with
 |next=>exact wpAny_execs_nil q
 |ret v=>exact q
 |brk=>exact q
 |cont=>exact q
noncomputable def NT:TS:=fun D σ H=>D.bk σ H
theorem FY:PS X (.Break pos) NT:=fun _ _ σ H _ I h=>wpAny_Break ⟨σ,H,I,h⟩
theorem Inv.quiet{pins:List (Addr×Obj)}{σ:St}{H:Hp}{s:Shared}(I:Inv X pins σ H s):interactive X.env=false:=by simp[interactive,I.ok.kind]
noncomputable def FZ(te:TE):TS:=fun D σ H=>te σ H fun _ H1=>D.nx σ H1
theorem u9(he:PE X e te)(hs:swapsWith e none pos.line X.env=pure false:=by rfl):PS X (.Expr e pos) (FZ te):=by
 intro pins s σ H D I h
 exact wpAny_Expr_any (bT (he pins s σ H _ I h) fun v s1 ⟨x,H1,I1,r1,q1⟩=>⟨σ,H1,I1,q1⟩) I.quiet hs
noncomputable def Wq(te:TE):TS:=fun D σ H=>te σ H D.rt
theorem vd(he:PE X e te):PS X (.Return (some e) pos) (Wq te):=by
 intro pins s σ H D I h
 exact wpAny_Return_some (bT (he pins s σ H _ I h) fun v s1 ⟨x,H1,I1,r1,q1⟩=>⟨x,σ,H1,I1,r1,q1⟩)
noncomputable def S6:TS:=fun D _ H=>D.rt .aX H
theorem Ca:PS X (.Return none pos) S6:=fun _ _ σ H _ I h=>wpAny_Return_none ⟨.aX,σ,H,I,rfl,h⟩
noncomputable def Wr(c:TT)(t u:TS):TS:=fun D σ H=>c σ H fun b H1=>if b=true then t D σ H1 else u D σ H1
theorem S7{c:Expr}{a b:List Stmt}{tc:TT}(hc:PT X c tc)(ha:Af X a t)(hb:Af X b u):PS X (.If c a b pos) (Wr tc t u):=by
 intro pins s σ H D I h
 refine wpAny_If (bT (hc pins s σ H _ I h) fun d s1 ⟨H1,I1,q1⟩=>?_)
 cases d with
 |true=>exact ha pins s1 σ H1 D I1 q1
 |false=>exact hb pins s1 σ H1 D I1 q1
end
abbrev TG:=V->St->Hp->(St->Hp->Prop)->Prop
abbrev MG:=List V->St->Hp->(St->Hp->Prop)->Prop
noncomputable def PG(X:Cx)(target:Expr)(t:TG):Prop:=
 ∀(pins:List (Addr×Obj)) (s:Shared) (σ:St) (H:Hp) (v:V) (u:Value) (Q:St->Hp->Prop),Inv X pins σ H s->RelV v u->t v σ H Q->
  wpAny (model X.prog X.w) X.A (assign target X.env u) (fun _ s'=>∃σ' H',Inv X pins σ' H' s'/\Q σ' H') X.xe s
noncomputable def S8(X:Cx)(ts:List Expr)(t:MG):Prop:=
 ∀(pins:List (Addr×Obj)) (s:Shared) (σ:St) (H:Hp) (vs:List V) (us:List Value) (Q:St->Hp->Prop),Inv X pins σ H s->Vals vs us->t vs σ H Q->
  wpAny (model X.prog X.w) X.A (assignInOrder ((assignEach ts X.env).map (·.2)) us) (fun _ s'=>∃σ' H',Inv X pins σ' H' s'/\Q σ' H') X.xe s
abbrev NU:=V->V->V->Hp->(Hp->Prop)->Prop
noncomputable def S9(X:Cx)(t:NU):Prop:=
 ∀(pins:List (Addr×Obj)) (s:Shared) (σ:St) (H:Hp) (o i v:V) (ov iv u:Value) (Q:Hp->Prop),Inv X pins σ H s->RelV o ov->RelV i iv->RelV v u->t o i v H Q->
  wpAny (model X.prog X.w) X.A (setItem ov iv u) (fun _ s'=>∃H',Inv X pins σ H' s'/\Q H') X.xe s
section
variable{X:Cx}{pos:Pos}
noncomputable def jy(i:Nat):TG:=fun v σ H Q=>Q (σ.set i (some v)) H
theorem JM{i:Nat}{x:Str}(hN:X.N.Nodup)(hi:X.N[i]?=some x)(hx:Loc X.env.scope x)(hf:X.fn x=true\/X.env.scope.names.lookup x=some .local:=by first|exact .inl rfl|exact .inr rfl|assumption):PG X (.Name x pos) (jy i):=by
 intro pins s σ H v u Q I r h
 exact wpAny_assign_Name (gA I hN hi hx r (fun s' I'=>⟨_,H,I',h⟩) hf)
noncomputable def Tc:MG:=fun vs σ H Q=>vs=[]/\Q σ H
noncomputable def MH(t:TG)(u:MG):MG:=fun vs σ H Q=>∃v r,vs=v::r/\t v σ H fun σ' H'=>u r σ' H' Q
theorem JN:S8 X [] Tc:=by
 intro pins s σ H vs us Q I r h
 obtain⟨e,h⟩:=h
 subst e
 cases r
 exact assignInOrder_nil ⟨σ,H,I,h⟩
theorem F3{e:Expr}{es:List Expr}{t:TG}{u:MG}(h1:PG X e t)(h2:S8 X es u)
 (hs:(assignEach (e::es) X.env).map (·.2)=assign e X.env::(assignEach es X.env).map (·.2):=by rfl):S8 X (e::es) (MH t u):=by
 intro pins s σ H vs us Q I r h
 obtain⟨v,vr,e1,h⟩:=h
 subst e1
 cases r with
 |cons r rr=>
  rw[hs]
  refine assignInOrder_cons (bT (h1 pins s σ H _ _ _ I r h) fun _ s1 ⟨σ1,H1,I1,q1⟩=>?_)
  exact h2 pins s1 σ1 H1 _ _ Q I1 rr q1
noncomputable def NV(K:PySem.W.Frag)(n:Nat)(t:MG):TG:=fun v σ H Q=>∃a xs,v=.ref a/\lY K H a xs/\xs.length=n/\t xs σ H Q
theorem NW{es:List Expr}{k:Nat}{t:MG}{n:Nat}(hc:X.calm=true)(h:S8 X es t)
 (hn:(assignEach es X.env).length=n:=by rfl) (hst:(assignEach es X.env).findIdx? (·.1)=none:=by rfl):PG X (.Tuple es k pos) (NV X.K n t):=by
 intro pins s σ H v u Q I r hw
 obtain⟨a,xs,e1,hq,hl,hw⟩:=hw
 subst e1
 cases r
 obtain⟨its,rv,ht,hz⟩:=I.tuple hq
 refine assign_Tuple_tuple (I.ok.hd hc) ht (by simp[hn,←hl,rv.length]) hst fun h' hx=>?_
 have I1:Inv X pins σ H {s with heap:=h'}:=I.kept (t':=s.toks) fun b o e=>hx b o (Kk (Fs e)) e
 exact h pins _ σ H xs _ Q I1 (by simpa using rv) hw
noncomputable def Td(to ti:TE)(t:NU):TG:=fun v σ H Q=>to σ H fun o H1=>ti σ H1 fun i H2=>t o i v H2 fun H3=>Q σ H3
theorem NX{o i:Expr}{to ti:TE}{t:NU}(ho:PE X o to)(hi:PE X i ti)(hs:S9 X t)
 (ha:∀v,assign (.Subscript o i pos) X.env v=(do
   let ov←holding [v] (eval o X.env)
   let iv←holding [v,ov] (eval i X.env)
   standAt pos
   holding [v,ov,iv] (setItem ov iv v)
   release [v,ov,iv] []):=by intro _;rfl):PG X (.Subscript o i pos) (Td to ti t):=by
 intro pins s σ H v u Q I r h
 rw[ha]
 refine He (wpAny_holding (bT (ho pins s σ H _ I h) fun ov s1 ⟨x,H1,I1,r1,q1⟩=>?_))
 refine He (wpAny_holding (bT (hi pins s1 σ H1 _ I1 q1) fun iv s2 ⟨y,H2,I2,r2,q2⟩=>?_))
 refine He (wpAny_standAt (He (wpAny_holding (bT (hs pins s2 σ H2 x y v ov iv u _ I2 r1 r2 r q2) fun _ s3 ⟨H3,I3,q3⟩=>?_))))
 exact wpAny_release ⟨σ,H3,I3,q3⟩
noncomputable def qR(te:TE)(g:TG):TS:=fun D σ H=>te σ H fun x H1=>g x σ H1 D.nx
theorem An{tg e:Expr}{te:TE}{g:TG}(he:PE X e te)(hg:PG X tg g)(hs:swapsWithSole [tg] e pos.line X.env=pure false:=by rfl)(hw:swappedStores [tg] e X.env=pure none:=by rfl)
 (h1:(assignEach [tg] X.env).map (·.2)=[assign tg X.env]:=by rfl):PS X (.Assign [tg] e pos) (qR te g):=by
 intro pins s σ H D I h
 refine wpAny_Assign_stores (bT (he pins s σ H _ I h) fun v s1 ⟨x,H1,I1,r1,q1⟩=>?_) hs hw
 rw[h1]
 exact bT (hg pins s1 σ H1 x v _ I1 r1 q1) fun _ s2 q=>q
theorem Ao{i:Nat}{x:Str}{e:Expr}{te:TE}{pos':Pos}(hN:X.N.Nodup)(hi:X.N[i]?=some x)(hx:Loc X.env.scope x)(he:PE X e te)(hs:swapsWith e (some (.Name x pos')) pos.line X.env=pure false:=by rfl)(hf:X.fn x=true\/X.env.scope.names.lookup x=some .local:=by first|exact .inl rfl|exact .inr rfl|assumption):
 PS X (.Assign [.Name x pos'] e pos) (qR te (jy i)):=by
 intro pins s σ H D I h
 refine wpAny_Assign_Name (bT (he pins s σ H _ I h) fun v s1 ⟨y,H1,I1,r1,q1⟩=>?_) hs
 exact gA I1 hN hi hx r1 (fun s2 I2=>⟨_,H1,I2,q1⟩) hf
noncomputable def Ws(i j:Nat)(ta:TA):TS:=fun D σ H=>ta σ H fun vs H1=>∃v w,vs=[v,w]/\D.nx ((σ.set i (some v)).set j (some w)) H1
theorem NY{i j:Nat}{x y:Str}{a b:Expr}{ta:TA}{px py pt:Pos}{kt k2 RY}(hc:X.calm=true)(hN:X.N.Nodup)(hi:X.N[i]?=some x)(hj:X.N[j]?=some y)(hij:i≠j)
 (hx:X.env.scope.names.lookup x=some .local) (hy:X.env.scope.names.lookup y=some .local) (ha:PA X [a,b] ta)
 (hw:swappedStores [.Tuple [.Name x px,.Name y py] kt pt] (.Tuple [a,b] k2 RY) X.env=pure (some [x,y]))
 (hs:swapsWithSole [.Tuple [.Name x px,.Name y py] kt pt] (.Tuple [a,b] k2 RY) pos.line X.env=pure false:=by rfl):
 PS X (.Assign [.Tuple [.Name x px,.Name y py] kt pt] (.Tuple [a,b] k2 RY) pos) (Ws i j ta):=by
 intro pins s σ H D I h
 rw[exec_Assign_arm]
 refine He (wpAny_standAt ?_)
 rw[hs]
 refine He (PH ?_)
 rw[Bi (by decide)]
 refine He (Tuple_ (bT (ha _ pins s σ H _ I h) fun us s1 ⟨vs,H1,I1,r1,q1⟩=>?_))
 obtain⟨v,w,e1,q1⟩:=q1
 subst e1
 obtain⟨u1,u2,rfl,rv,rw'⟩:∃u1 u2,us=[u1,u2]/\RelV v u1/\RelV w u2:=by
  cases r1 with
  |cons p q=>
   cases q with
   |cons p' q'=>
    cases q'
    exact⟨_,_,rfl,p,p'⟩
 refine wpAny_newObj_type ?_ (by show 2<=sizeLine;decide)
 have I2:Inv X pins σ H1 {s1 with heap:=s1.heap.push {cls:=.type "tuple",data:=.seq [u1,u2].toArray}}:=I1.kept (t':=s1.toks) fun b o e=>FM _ e
 rw[hw]
 refine He (PH ?_)
 show wpAny (model X.prog X.w) X.A (do rule "assign.swapped-stores";let items←unpackItems (.ref s1.heap.objs.size) 2 none;assignInOrder [fun v=>bindName X.env y v,fun v=>bindName X.env x v] items.reverse;pure Flow.next) _ _ _
 refine He (wpAny_rule (He (unpackItems_tuple (items:= #[u1,u2]) (I.ok.hd hc) (IsTup.new s1.heap _) fun h' hx'=>?_)))
 have I3:=I2.kept (h':=h') (t':=s1.toks) fun b o e=>hx' b o (Kk (Fs e)) e
 show wpAny _ _ (assignInOrder [fun v=>bindName X.env y v,fun v=>bindName X.env x v] [u2,u1]>>=fun _=>pure Flow.next) _ _ _
 refine He (assignInOrder_cons (wpAny_bindName (gA I3 hN hj (.inl hy) rw' (fun s2 I4=>?_) (.inr hy))))
 refine assignInOrder_cons (wpAny_bindName (gA I4 hN hi (.inl hx) rv (fun s3 I5=>assignInOrder_nil (PH ?_)) (.inr hx)))
 rw[List.set_comm _ _ (Q1 hij)]at I5
 exact⟨_,H1,I5,q1⟩
noncomputable def NZ(c:TT)(tb:TS):TS:=fun D σ H=>∃W:Nat->St->Hp->Prop,(∃m,W m σ H)/\∀m σ H,W m σ H->
 c σ H fun b H1=>if b=true then∃N:St->Hp->Prop,(∀σ' H',N σ' H'->∃m',m'<m/\W m' σ' H')/\tb {D with nx:=N,ct:=N,bk:=D.nx} σ H1 else D.nx σ H1
theorem F4{c:Expr}{body:List Stmt}{tc:TT}{tb:TS}(hp:PassesOwn (model X.prog X.w) X.A X.env X.xe)(hc:PT X c tc)(hb:Af X body tb):PS X (.While c body [] pos) (NZ tc tb):=by
 intro pins s σ H D I h
 obtain⟨W,⟨m0,w0⟩,turn⟩:=h
 refine wpAny_While (codeAny_whileLoop (fun n s'=>∃σ' H',Inv X pins σ' H' s'/\W n σ' H') ?_ m0 ⟨σ,H,I,w0⟩)
 rintro n s1 ⟨σ1,H1,I1,w1⟩
 refine dq hp (bT (hc pins s1 σ1 H1 _ I1 (turn n σ1 H1 w1)) fun b s2 ⟨H2,I2,q2⟩=>?_)
 cases b with
 |true=>
  obtain⟨N,hN,q2⟩:=q2
  rw[Bz rfl]
  refine dq hp (bT (hb pins s2 σ1 H2 _ I2 q2) fun f s3 q3=>?_)
  cases f with
  |next=>
   obtain⟨σ3,H3,I3,n3⟩:=q3
   obtain⟨m',hm,w3⟩:=hN σ3 H3 n3
   exact⟨m',hm,σ3,H3,I3,w3⟩
  |cont=>
   obtain⟨σ3,H3,I3,n3⟩:=q3
   obtain⟨m',hm,w3⟩:=hN σ3 H3 n3
   exact⟨m',hm,σ3,H3,I3,w3⟩
  |brk=>exact q3
  |ret v=>exact q3
 |false=>
  rw[Bi Ki]
  exact wpAny_execs_nil ⟨σ1,H2,I2,q2⟩
end
set_option genInjectivity false in
set_option genSizeOf false in
structure It where
 go:Nat->Hp->Prop
 RZ:Nat->Hp->V->Hp->Prop
 stop:Nat->Hp->Prop
noncomputable def mX(X:Cx)(pins:List (Addr×Obj))(H:Hp)(b:Addr):Prop:=
 H b=none/\b≠X.env.locals/\b∉X.fs/\(b∈X.ex\/X.s₀.heap.objs.size<=b)/\(∀x c,X.env.cells.lookup x=some c->c≠b)/\∀p∈X.pn++pins,p.1≠b
theorem Inv.Aq{X:Cx}{pins:List (Addr×Obj)}{σ:St}{H H':Hp}{s:Shared}{b:Addr}(I:Inv X pins σ H s)(hb:s.heap.objs.size<=b)(hn:H' b=none):mX X pins H' b:=by
 refine⟨hn,Nat.ne_of_gt (GE I.lt hb),I.Wh hb,.inr (Dx I.sz hb),fun x c e z=>?_,fun p hp z=>?_⟩
 ·obtain⟨v,q⟩:=I.cell x c e
  exact absurd (GE q.lt (by rw[z];exact hb)) (SU _)
 ·exact absurd (GE (Fs (I.pin p hp).1) (by rw[z];exact hb)) (SU _)
structure Turn(P:Program)(w:World)(K:PySem.W.Frag)(tg:Expr)(J:It)(fp:List Addr)(it:Addr)(tn:Nat->Heap->Prop):Prop where
 mem:it∈fp
 obj:∀i h,tn i h->∀b∈fp,∃o,h.get? b=some o/\∀v,o.data≠.cell v
 keep:∀i h h',tn i h->(∀b∈fp,∀o,h.get? b=some o->h'.get? b=some o)->tn i h'
 item:∀(X:Cx),X.prog=P->X.w=w->X.K=K->X.calm=true->∀(i:Nat) (pins:List (Addr×Obj)) (s:Shared) (σ:St) (H:Hp) (E:Value->Shared->Prop),Inv X pins σ H s->(∀b∈fp,mX X pins H b)->tn i s.heap->J.go i H->
  wpAny (model P w) X.A (pyNext (.ref it)) (fun r s1=>∃u,r=some u/\
   wpAny (model P w) X.A (letOwnedTupleGo tg (.ref it) u) (fun _ s2=>∃x H',Inv X pins σ H' s2/\RelV x u/\J.RZ i H x H'/\tn (i+1) s2.heap/\∀b∈fp,H' b=none) E s1) E s
 done:∀(X:Cx),X.prog=P->X.w=w->X.K=K->X.calm=true->∀(i:Nat) (pins:List (Addr×Obj)) (s:Shared) (σ:St) (H:Hp) (E:Value->Shared->Prop),Inv X pins σ H s->(∀b∈fp,mX X pins H b)->tn i s.heap->J.stop i H->
  wpAny (model P w) X.A (pyNext (.ref it)) (fun r s1=>r=none/\Inv X pins σ H s1) E s
 self:∀(A:Around) (i:Nat) (s:Shared) (Q:Value->Shared->Prop) (E:Value->Shared->Prop),tn i s.heap->Q (.ref it) s->wpAny (model P w) A (pyIter (.ref it)) Q E s
abbrev TI:=St->Hp->(It->Hp->Prop)->Prop
noncomputable def Wt(X:Cx)(pins:List (Addr×Obj))(σ:St)(tg:Expr)(R:It->Hp->Prop)(itv:Value)(s2:Shared):Prop:=
 ∃(it:Addr) (fp:List Addr) (tn:Nat->Heap->Prop) (J:It) (H':Hp),itv=.ref it/\Inv X pins σ H' s2/\Turn X.prog X.w X.K tg J fp it tn/\tn 0 s2.heap/\(∀b∈fp,mX X pins H' b)/\R J H'
noncomputable def PI(X:Cx)(tg iter:Expr)(wi:TI):Prop:=
 ∀(pins:List (Addr×Obj)) (s:Shared) (σ:St) (H:Hp) (R:It->Hp->Prop),Inv X pins σ H s->wi σ H R->
  wpAny (model X.prog X.w) X.A (eval iter X.env) (fun v s1=>wpAny (model X.prog X.w) X.A (pyIter v) (Wt X pins σ tg R) X.xe s1) X.xe s
theorem xS{M:Model}{A:Around}{E:Value->Shared->Prop}{s:Shared}{tg:Expr}{it:Addr}{u:Value}{o:Obj}{n:String}{vs:Array Value}{Q:Unit->Shared->Prop}(ho:s.heap.get? it=some o)(hc:o.cls=.type n)(hd:o.data=.fields vs)
 (hn:["enumerate","zip","dict_itemiterator","dict_reverseitemiterator","odict_iterator","itertools.zip_longest","itertools.pairwise"].contains n=false) (hQ:Q () s):wpAny M A (letOwnedTupleGo tg (.ref it) u) Q E s:=by
 unfold letOwnedTupleGo
 cases tg<;>first
  |exact PH hQ
  |(cases u<;>first
     |exact PH hQ
     |(refine He (wpAny_load ho ?_)
       rw[hc,hd]
       show wpAny M A (if(["enumerate","zip","dict_itemiterator","dict_reverseitemiterator","odict_iterator","itertools.zip_longest","itertools.pairwise"].contains n&&vs[0]?==some (rawInt _))=true then _ else _) Q E s
       rw[Bi (by intro h;rw[hn,Bool.false_and]at h;cases h)]
       exact PH hQ))
noncomputable def Wu(K:PySem.W.Frag)(a:Addr):It:=
 ⟨fun i H=>∃xs x,kR K H a xs/\xs[i]?=some x,fun i H x H'=>H'=H/\∀xs,kR K H a xs->xs[i]?=some x,fun i H=>∃xs,kR K H a xs/\xs.length<=i⟩
noncomputable def Wv(K:PySem.W.Frag)(a:Addr):It:=
 ⟨fun i H=>∃xs x,lY K H a xs/\xs[i]?=some x,fun i H x H'=>H'=H/\∀xs,lY K H a xs->xs[i]?=some x,fun i H=>∃xs,lY K H a xs/\xs.length<=i⟩
noncomputable def Te(lo:Int)(n:Nat):It:=⟨fun i _=>i<n,fun i H x H'=>H'=H/\x=.int (lo+i),fun i _=>n<=i⟩
theorem Ef{P:Program}{w:World}{K:PySem.W.Frag}{tg:Expr}(a it:Addr):Turn P w K tg (Wu K a) [it] it (fun i h=>h.IsListIter it a i)where
 mem:=by simp
 obj:=fun i h st b hb=>by
  have e:b=it:=by simpa using hb
  subst e
  obtain⟨o,e,c,d⟩:=st
  exact⟨o,e,fun v z=>by rw[d]at z;cases z⟩
 keep:=fun i h h' st k=>st.at fun o e=>k it (by simp) o e
 item:=by
  intro X hP hw hK hc i pins s σ H E I hf st hg
  subst hP hw hK
  obtain⟨xs,x,hq,hx⟩:=hg
  obtain⟨its,rv,p,hz⟩:=I.list hq
  obtain⟨u,hu,ru⟩:=rv.get hx
  obtain⟨f0,f1,f2,f3,f4,f5⟩:=hf it (by simp)
  refine wpAny_pyNext_list_item st p.isList (x:=u) (by simpa using hu) fun h' st' sb=>?_
  have I1:Inv X pins σ H {s with heap:=h'}:=I.turned (t':=s.toks) (fun b o hb e=>(sb.2 b hb).trans e) f0 f1 f3 f4 f5
  obtain⟨o,e,c,d⟩:=id st'
  exact⟨u,rfl,xS (s:={s with heap:=h'}) e c d (by decide) ⟨x,H,I1,ru,⟨rfl,fun ys hy=>by rw[I.qQ hy hq];exact hx⟩,st',fun b hb=>(hf b hb).1⟩⟩
 done:=by
  intro X hP hw hK hc i pins s σ H E I hf st hg
  subst hP hw hK
  obtain⟨xs,hq,hx⟩:=hg
  obtain⟨its,rv,p,hz⟩:=I.list hq
  obtain⟨f0,f1,f2,f3,f4,f5⟩:=hf it (by simp)
  have hl:=rv.length
  exact wpAny_pyNext_list_end (I.ok.hd hc) st p.isList (by simp;omega) fun h' eb=>⟨rfl,I.turned (t':=s.toks) (fun b o hb e=>eb b o hb e) f0 f1 f3 f4 f5⟩
 self:=fun _ _ _ _ _ st h=>wpAny_pyIter_listiter st h
theorem Ar{P:Program}{w:World}{K:PySem.W.Frag}{tg:Expr}(a it:Addr):Turn P w K tg (Wv K a) [it] it (fun i h=>h.IsTupleIter it a i)where
 mem:=by simp
 obj:=fun i h st b hb=>by
  have e:b=it:=by simpa using hb
  subst e
  obtain⟨o,e,c,d⟩:=st
  exact⟨o,e,fun v z=>by rw[d]at z;cases z⟩
 keep:=fun i h h' st k=>st.at fun o e=>k it (by simp) o e
 item:=by
  intro X hP hw hK hc i pins s σ H E I hf st hg
  subst hP hw hK
  obtain⟨xs,x,hq,hx⟩:=hg
  obtain⟨its,rv,p,hz⟩:=I.tuple hq
  obtain⟨u,hu,ru⟩:=rv.get hx
  obtain⟨f0,f1,f2,f3,f4,f5⟩:=hf it (by simp)
  refine wpAny_pyNext_tuple_item st (show s.heap.IsTuple a its.toArray from p) (x:=u) (by simpa using hu) fun h' st' sb=>?_
  have I1:Inv X pins σ H {s with heap:=h'}:=I.turned (t':=s.toks) (fun b o hb e=>(sb.2 b hb).trans e) f0 f1 f3 f4 f5
  obtain⟨o,e,c,d⟩:=id st'
  exact⟨u,rfl,xS (s:={s with heap:=h'}) e c d (by decide) ⟨x,H,I1,ru,⟨rfl,fun ys hy=>by rw[I.Ed hy hq];exact hx⟩,st',fun b hb=>(hf b hb).1⟩⟩
 done:=by
  intro X hP hw hK hc i pins s σ H E I hf st hg
  subst hP hw hK
  obtain⟨xs,hq,hx⟩:=hg
  obtain⟨its,rv,p,hz⟩:=I.tuple hq
  obtain⟨f0,f1,f2,f3,f4,f5⟩:=hf it (by simp)
  have hl:=rv.length
  exact wpAny_pyNext_tuple_end (I.ok.hd hc) st (show s.heap.IsTuple a its.toArray from p) (by simp;omega) fun h' eb=>⟨rfl,I.turned (t':=s.toks) (fun b o hb e=>eb b o hb e) f0 f1 f3 f4 f5⟩
 self:=fun _ _ _ _ _ st h=>wpAny_pyIter_tupleiter st h
theorem As{P:Program}{w:World}{K:PySem.W.Frag}{tg:Expr}(it:Addr)(lo:Int)(n:Nat):Turn P w K tg (Te lo n) [it] it (fun i h=>IsRangeIter h it (lo+(i:Nat)*1) ((n:Int) -(i:Nat)) 1)where
 mem:=by simp
 obj:=fun i h st b hb=>by
  have e:b=it:=by simpa using hb
  subst e
  exact⟨_,st,fun v z=>by
   have z':Data.fields _=Data.cell v:=z
   cases z'⟩
 keep:=fun i h h' st k=>k it (by simp) _ st
 item:=by
  intro X hP hw hK hc i pins s σ H E I hf st hg
  subst hP hw hK
  obtain⟨f0,f1,f2,f3,f4,f5⟩:=hf it (by simp)
  have W:=Walks.range (prog:=X.prog) (w:=X.w) (I.ok.hd hc) it lo 1 n
  refine W.item i s _ _ hg st fun v h' tk hv st' kk=>?_
  obtain⟨t,rfl⟩:=hv
  have I1:Inv X pins σ H {s with heap:=h',toks:=tk}:=I.turned (fun b o hb e=>kk b o (by simpa using hb) e) f0 f1 f3 f4 f5
  refine⟨_,rfl,xS (s:={s with heap:=h',toks:=tk}) (n:="range_iterator") st' rfl rfl (by decide) ⟨.int (lo+i),H,I1,⟨t,?_⟩,⟨rfl,rfl⟩,st',fun b hb=>(hf b hb).1⟩⟩
  rw[ag]
 done:=by
  intro X hP hw hK hc i pins s σ H E I hf st hg
  subst hP hw hK
  obtain⟨f0,f1,f2,f3,f4,f5⟩:=hf it (by simp)
  exact wpAny_pyNext_range_end (I.ok.hd hc) st (by have:n<=i:=hg;omega) fun h' eb=>⟨rfl,I.turned (t':=s.toks) (fun b o hb e=>eb b o hb e) f0 f1 f3 f4 f5⟩
 self:=fun _ _ _ _ _ st h=>wpAny_pyIter_rangeiter st h
section
variable{X:Cx}{tg:Expr}
theorem xT{pins:List (Addr×Obj)}{σ:St}{H:Hp}{s:Shared}{R:It->Hp->Prop}{E:Value->Shared->Prop}{lo hi:Int}{t u v:Tok}{tk:Nat}(I:Inv X pins σ H s)(h1: -(2^62)<=lo)(h2:lo<2^62)(h3: -(2^62)<=hi)(h4:hi<2^62)
 (q:R (Te lo (hi -lo).toNat) H):wpAny (model X.prog X.w) X.A (pyIter (.ref s.heap.objs.size)) (Wt X pins σ tg R) E {s with heap:=s.heap.push {cls:=.type "range",data:=.fields #[.int lo t,.int hi u,.int 1 v]},toks:=tk}:=by
 refine wpAny_pyIter_range (IsRange.new ..) (small_one h1 h2 h3 h4) ?_
 have I1:Inv X pins σ H {s with heap:=s.heap.push {cls:=.type "range",data:=.fields #[.int lo t,.int hi u,.int 1 v]},toks:=tk}:=I.kept fun b o e=>FM _ e
 refine⟨(s.heap.push {cls:=.type "range",data:=.fields #[.int lo t,.int hi u,.int 1 v]}).objs.size,[(s.heap.push {cls:=.type "range",data:=.fields #[.int lo t,.int hi u,.int 1 v]}).objs.size],_,_,H,rfl,
  I1.kept (t':=tk) fun b o e=>FM _ e,As _ lo (hi -lo).toNat,?_,fun b hb=>?_,q⟩
 ·have e1:lo+((0:Nat):Int)*1=lo:=by simp
  have e2:(((hi -lo).toNat:Nat):Int) -((0:Nat):Int)=Builtin.Range.rangeSize lo hi 1:=by rw[rangeSize_one];split<;>omega
  show IsRangeIter _ _ (lo+((0:Nat):Int)*1) ((((hi -lo).toNat:Nat):Int) -((0:Nat):Int)) 1
  rw[e1,e2]
  exact N0 _ rfl
 ·have e:b=(s.heap.push {cls:=.type "range",data:=.fields #[.int lo t,.int hi u,.int 1 v]}).objs.size:=by simpa using hb
  subst e
  exact I1.Aq (Do _) (I1.hok.fresh (Do _))
noncomputable def Tf(ta:TA):TI:=fun σ H R=>ta σ H fun vs H1=>∃j:Int,vs=[.int j]/\-(2^62)<=j/\j<2^62/\R (Te 0 j.toNat) H1
noncomputable def Tg(ta:TA):TI:=fun σ H R=>ta σ H fun vs H1=>∃i j:Int,vs=[.int i,.int j]/\(-(2^62)<=i/\i<2^62/\-(2^62)<=j/\j<2^62)/\R (Te i (j -i).toNat) H1
theorem Eg{a:Expr}{ta:TA}{p pos:Pos}(hg:Gl X "range")(hm:X.mg "range"=none)(ha:PA X [a] ta)(hs:starEach [a] X.env=[(false,eval a X.env)]:=by rfl):PI X tg (.Call (.Name "range" p) [a] [] pos) (Tf ta):=by
 intro pins s σ H R I h
 refine Call_ (lX I hg hm boot_range (SL (bT (ha pos pins s σ H _ I h) fun us s1 ⟨vs,H1,I1,r1,q1⟩=>?_) hs rfl))
 obtain⟨j,e,q1,q2,q⟩:=q1
 subst e
 cases r1 with
 |cons r rr=>
  cases rr
  obtain⟨t,rfl⟩:=r
  exact call_range_1 (xT I1 (by omega) (by omega) q1 q2 (by simpa using q))
theorem Eh{a b:Expr}{ta:TA}{p pos:Pos}(hg:Gl X "range")(hm:X.mg "range"=none)(ha:PA X [a,b] ta)(hs:starEach [a,b] X.env=[(false,eval a X.env),(false,eval b X.env)]:=by rfl)(hs2:starEach [b] X.env=[(false,eval b X.env)]:=by rfl):
 PI X tg (.Call (.Name "range" p) [a,b] [] pos) (Tg ta):=by
 intro pins s σ H R I h
 refine Call_ (lX I hg hm boot_range (SL (bT (ha pos pins s σ H _ I h) fun us s1 ⟨vs,H1,I1,r1,q1⟩=>?_) (by rw[hs,hs2]) (by rw[hs2];rfl)))
 obtain⟨i,j,e,⟨q1,q2,q3,q4⟩,q⟩:=q1
 subst e
 cases r1 with
 |cons r rr=>
  cases rr with
  |cons r' rr=>
   cases rr
   obtain⟨t,rfl⟩:=r
   obtain⟨t',rfl⟩:=r'
   exact call_range_2 (xT I1 q1 q2 q3 q4 q)
noncomputable def Ww(wi:TI)(g:TG)(tb:TS):TS:=fun D σ H=>wi σ H fun J H1=>∃W:Nat->Nat->St->Hp->Prop,(∃m,W 0 m σ H1)/\∀i m σ H,W i m σ H->
 (J.stop i H/\D.nx σ H)\/(J.go i H/\∃N:St->Hp->Prop,(∀σ' H',N σ' H'->∃m',m'<m/\W (i+1) m' σ' H')/\∀x H',J.RZ i H x H'->g x σ H' fun σ2 H2=>tb {D with nx:=N,ct:=N,bk:=D.nx} σ2 H2)
noncomputable def oB(fp:List Addr)(h:Heap):List (Addr×Obj):=fp.filterMap fun b=>(h.get? b).map fun o=>(b,o)
theorem eX{fp:List Addr}{h:Heap}{b:Addr}{o:Obj}(hb:b∈fp)(e:h.get? b=some o):(b,o)∈oB fp h:=List.mem_filterMap.mpr ⟨b,hb,by rw[e];rfl⟩
theorem Ei{fp:List Addr}{h:Heap}{p:Addr×Obj}(hp:p∈oB fp h):p.1∈fp/\h.get? p.1=some p.2:=by
 obtain⟨b,hb,e⟩:=List.mem_filterMap.mp hp
 cases q:h.get? b with
 |none=>rw[q]at e;cases e
 |some o=>
  rw[q]at e
  have e':(b,o)=p:=KE e
  subst e'
  exact⟨hb,q⟩
theorem Inv.pinned{pins:List (Addr×Obj)}{σ:St}{H:Hp}{s:Shared}{fp:List Addr}(I:Inv X pins σ H s)(hf:∀b∈fp,mX X pins H b)(ho:∀b∈fp,∃o,s.heap.get? b=some o/\∀v,o.data≠.cell v):Inv X (pins++oB fp s.heap) σ H s:=
 I.B8 fun p hp=>(Hb.mp hp).elim (fun z=>I.pin p (Fn _ z)) fun z=>by
  obtain⟨hb,e⟩:=Ei z
  obtain⟨f0,f1,f2,_⟩:=hf p.1 hb
  obtain⟨o,e',d⟩:=ho p.1 hb
  rw[e]at e';cases e'
  exact⟨e,f0,f1,f2,d⟩
theorem Inv.jL{pins pl:List (Addr×Obj)}{σ:St}{H:Hp}{s:Shared}(I:Inv X (pins++pl) σ H s):Inv X pins σ H s:=I.B8 fun p hp=>I.pin p (Fn _ (P2 _ hp))
theorem N3{iter:Expr}{body:List Stmt}{wi:TI}{g:TG}{tb:TS}{pos:Pos}(hp:PassesOwn (model X.prog X.w) X.A X.env X.xe)(hc:X.calm=true)(hi:PI X tg iter wi)(hg:PG X tg g)(hb:Af X body tb)
 (hs:∀x,foldedSetIterable iter X.env x=pure x:=by intro _;rfl):PS X (.For tg iter body [] pos) (Ww wi g tb):=by
 intro pins s σ H D I h
 refine wpAny_For (bT (hi pins s σ H _ I h) fun v s1 h1=>bT h1 fun itv s2 h2=>?_) hs
 obtain⟨it,fp,tn,J,H2,e,I2,T,st2,f2,W,⟨m0,w0⟩,turn⟩:=h2
 subst e
 have N4:∀{H':Hp},(∀b∈fp,H' b=none)->∀b∈fp,mX X pins H' b:=fun hn b hb=>⟨hn b hb,(f2 b hb).2⟩
 refine codeAny_forLoop_any (fun n s'=>∃i σ' H',Inv X pins σ' H' s'/\tn i s'.heap/\(∀b∈fp,H' b=none)/\W i n σ' H') ?_ m0 ⟨0,σ,H2,I2,st2,fun b hb=>(f2 b hb).1,w0⟩
 rintro n s3 ⟨i,σ3,H3,I3,st3,YR,w3⟩
 rcases turn i n σ3 H3 w3 with⟨stop,qn⟩|⟨go,N,hN,step⟩
 ·refine dq hp (bT (T.done X rfl rfl rfl hc i pins s3 σ3 H3 X.xe I3 (N4 YR) st3 stop) fun r s4 ⟨hr,I4⟩=>?_)
  subst hr
  exact wpAny_execs_nil ⟨σ3,H3,I4,qn⟩
 ·refine dq hp (bT (T.item X rfl rfl rfl hc i pins s3 σ3 H3 X.xe I3 (N4 YR) st3 go) fun r s4 ⟨u,hr,h4⟩=>?_)
  subst hr
  refine dq hp (bT h4 fun _ s5 ⟨x,H5,I5,r5,y5,JO,N5⟩=>?_)
  have Z2:=I5.pinned (N4 N5) (T.obj _ _ JO)
  refine dq hp (bT (hg _ s5 σ3 H5 x u _ Z2 r5 (step x H5 y5)) fun _ s6 ⟨Z3,H6,I6,q6⟩=>?_)
  refine dq hp (bT (hb _ s6 Z3 H6 _ I6 q6) fun f s7 q7=>?_)
  have again:∀{F5:St} {H7:Hp},Inv X (pins++oB fp s5.heap) F5 H7 s7->N F5 H7->∃m,m<n/\∃i σ' H',Inv X pins σ' H' s7/\tn i s7.heap/\(∀b∈fp,H' b=none)/\W i m σ' H':=fun{F5 H7} I7 n7=>by
   obtain⟨m',hm,w7⟩:=hN F5 H7 n7
   refine⟨m',hm,i+1,F5,H7,I7.jL,T.keep _ _ _ JO fun b hb o e=>(I7.pin (b,o) (Fn _ (Fn _ (eX hb e)))).1,fun b hb=>?_,w7⟩
   obtain⟨o,e,d⟩:=T.obj _ _ JO b hb
   exact(I7.pin (b,o) (Fn _ (Fn _ (eX hb e)))).2.1
  cases f with
  |next=>obtain⟨F5,H7,I7,n7⟩:=q7;exact again I7 n7
  |cont=>obtain⟨F5,H7,I7,n7⟩:=q7;exact again I7 n7
  |brk=>obtain⟨F5,H7,I7,q7⟩:=q7;exact⟨F5,H7,I7.jL,q7⟩
  |ret v=>obtain⟨x7,F5,H7,I7,r7,q7⟩:=q7;exact⟨x7,F5,H7,I7.jL,r7,q7⟩
end
abbrev R2:=V->V->Hp->VK->Prop
noncomputable def oE(X:Cx)(f:Value->Value->Sem Value)(r:R2):Prop:=
 ∀(pins:List (Addr×Obj)) (s:Shared) (σ:St) (H:Hp) (x y:V) (v u:Value) (Q:VK),Inv X pins σ H s->RelV x v->RelV y u->r x y H Q->
  wpAny (model X.prog X.w) X.A (f v u) (EP X pins σ Q) X.xe s
noncomputable def Wx(X:Cx)(f:Value->Sem Value)(r:V->Hp->VK->Prop):Prop:=
 ∀(pins:List (Addr×Obj)) (s:Shared) (σ:St) (H:Hp) (x:V) (v:Value) (Q:VK),Inv X pins σ H s->RelV x v->r x H Q->
  wpAny (model X.prog X.w) X.A (f v) (EP X pins σ Q) X.xe s
noncomputable def gj(X:Cx)(f:Value)(r:List V->Hp->VK->Prop):Prop:=
 ∀(pins:List (Addr×Obj)) (s:Shared) (σ:St) (H:Hp) (xs:List V) (us:List Value) (Q:VK),Inv X pins σ H s->Vals xs us->r xs H Q->
  wpAny (model X.prog X.w) X.A (call f us) (EP X pins σ Q) X.xe s
noncomputable def Z4(r:R2)(ta tb:TE):TE:=fun σ H Q=>ta σ H fun x H1=>tb σ H1 fun y H2=>r x y H2 Q
noncomputable def Z5(r:V->Hp->VK->Prop)(ta:TE):TE:=fun σ H Q=>ta σ H fun x H1=>r x H1 Q
noncomputable def rI(C:Int->Int->Prop)(g:Int->Int->V):R2:=fun x y H Q=>∃i j,x=.int i/\y=.int j/\C i j/\Q (g i j) H
noncomputable def JP(g:Int->Int->V):R2:=fun x y H Q=>∃i j,x=.int i/\y=.int j/\Q (g i j) H
noncomputable def rU(g:Int->V):V->Hp->VK->Prop:=fun x H Q=>∃i,x=.int i/\Q (g i) H
section
variable{X:Cx}{a b c:Expr}{ta tb tc:TE}{pos:Pos}
theorem Wy(ha:PE X a ta)(hb:PE X b tb){pins:List (Addr×Obj)}{s:Shared}{σ:St}{H:Hp}{R:V->V->Hp->Prop}(I:Inv X pins σ H s)
 (h:ta σ H fun x H1=>tb σ H1 fun y H2=>R x y H2) {Q:Value->Shared->Prop} {f:Value->Value->Sem Value}
 (hf:∀v u s2 x y H2,Inv X pins σ H2 s2->RelV x v->RelV y u->R x y H2->wpAny (model X.prog X.w) X.A (f v u) Q X.xe s2):
 wpAny (model X.prog X.w) X.A (eval a X.env) (fun v s₁=>wpAny (model X.prog X.w) X.A (eval b X.env) (fun u s₂=>wpAny (model X.prog X.w) X.A (f v u) Q X.xe s₂) X.xe s₁) X.xe s:=by
 refine bT (ha pins s σ H _ I h) fun v s1 ⟨x,H1,I1,r1,q1⟩=>?_
 refine bT (hb pins s1 σ H1 _ I1 q1) fun u s2 ⟨y,H2,I2,r2,q2⟩=>?_
 exact hf v u s2 x y H2 I2 r1 r2 q2
theorem Th{op:UnaryOp}{r:V->Hp->VK->Prop}(ho:Wx X (unaryOp op) r)(ha:PE X a ta):PE X (.UnaryOp op a pos) (Z5 r ta):=by
 intro pins s σ H Q I h
 exact UnaryOp_ (bT (ha pins s σ H _ I h) fun v s1 ⟨x,H1,I1,r1,q1⟩=>ho pins s1 σ H1 x v Q I1 r1 q1)
theorem R3{f:Value->Value->Sem Value}{C:Int->Int->Prop}{g:Int->Int->Int}
 (rule:∀(i j:Int) (t u:Tok) (s:Shared) (Q:Value->Shared->Prop) (E:Value->Shared->Prop),C i j->Q (.int (g i j) s.toks) {s with toks:=s.toks+1}->wpAny (model X.prog X.w) X.A (f (.int i t) (.int j u)) Q E s):
 oE X f (rI C fun i j=>.int (g i j)):=by
 intro pins s σ H x y v u Q I rx ry h
 obtain⟨i,j,rfl,rfl,hc,q⟩:=h
 obtain⟨t,rfl⟩:=rx
 obtain⟨t',rfl⟩:=ry
 exact rule i j t t' s _ _ hc ⟨.int (g i j),H,I.tok _,⟨_,rfl⟩,q⟩
theorem Ti{f:Value->Value->Sem Value}{g:Int->Int->Int}
 (rule:∀(i j:Int) (t u:Tok) (s:Shared) (Q:Value->Shared->Prop) (E:Value->Shared->Prop),Q (.int (g i j) s.toks) {s with toks:=s.toks+1}->wpAny (model X.prog X.w) X.A (f (.int i t) (.int j u)) Q E s):
 oE X f (JP fun i j=>.int (g i j)):=by
 intro pins s σ H x y v u Q I rx ry h
 obtain⟨i,j,rfl,rfl,q⟩:=h
 obtain⟨t,rfl⟩:=rx
 obtain⟨t',rfl⟩:=ry
 exact rule i j t t' s _ _ ⟨.int (g i j),H,I.tok _,⟨_,rfl⟩,q⟩
theorem JQ{f:Value->Value->Sem Value}{g:Int->Int->Bool}
 (rule:∀(i j:Int) (t u:Tok) (s:Shared) (Q:Value->Shared->Prop) (E:Value->Shared->Prop),Q (.bool (g i j)) s->wpAny (model X.prog X.w) X.A (f (.int i t) (.int j u)) Q E s):
 oE X f (JP fun i j=>.bl (g i j)):=by
 intro pins s σ H x y v u Q I rx ry h
 obtain⟨i,j,rfl,rfl,q⟩:=h
 obtain⟨t,rfl⟩:=rx
 obtain⟨t',rfl⟩:=ry
 exact rule i j t t' s _ _ ⟨.bl (g i j),H,I,rfl,q⟩
noncomputable def tN(i j:Int):Prop:=0<=j/\j<=1000000/\i.natAbs<2^64
theorem Au(k:Nat):(0:Int)<=2^k:=by
 rw[two_pow_cast]
 exact Int.natCast_nonneg _
theorem N6:oE X (binaryOp .Add) (JP fun i j=>.int (i+j)):=Ti fun _ _ _ _ _ _ _ q=>add_int q
theorem N7:oE X (binaryOp .Sub) (JP fun i j=>.int (i -j)):=Ti fun _ _ _ _ _ _ _ q=>sub_int q
theorem JR:oE X (binaryOp .Mod) (rI (fun _ j=>j≠0) fun i j=>.int (i.fmod j)):=R3 fun _ _ _ _ _ _ _ hc q=>mod_int' hc q
theorem N8:oE X (binaryOp .Pow) (rI tN fun i j=>.int (i^j.toNat)):=R3 fun _ _ _ _ _ _ _ hc q=>pow_int_small hc.1 hc.2.1 hc.2.2 q
theorem N9:oE X (binaryOp .LShift) (rI tN fun i j=>.int (i*2^j.toNat)):=R3 fun _ _ _ _ _ _ _ hc q=>lshift_int_small hc.1 hc.2.1 hc.2.2 q
theorem Oa:oE X (binaryOp .RShift) (rI (fun _ j=>0<=j) fun i j=>.int (i/2^j.toNat)):=R3 fun i j _ _ _ _ _ hc q=>
 rshift_int hc (by rw[Pl i (Au _)];exact q)
theorem Z6{f:Value->Sem Value}{g:Int->Int}
 (rule:∀(i:Int) (t:Tok) (s:Shared) (Q:Value->Shared->Prop) (E:Value->Shared->Prop),Q (.int (g i) s.toks) {s with toks:=s.toks+1}->wpAny (model X.prog X.w) X.A (f (.int i t)) Q E s):
 Wx X f (rU fun i=>.int (g i)):=by
 intro pins s σ H x v Q I rx h
 obtain⟨i,rfl,q⟩:=h
 obtain⟨t,rfl⟩:=rx
 exact rule i t s _ _ ⟨.int (g i),H,I.tok _,⟨_,rfl⟩,q⟩
theorem Ob:Wx X (unaryOp .USub) (rU fun i=>.int (-i)):=Z6 fun _ _ _ _ _ q=>neg_int q
end
noncomputable def Oc:V->V->Bool
 |.aX,.aX=>true|.aX,.int _=>true|.int _,.aX=>true|.aX,.bl _=>true|.bl _,.aX=>true|.aX,.str _=>true|.str _,.aX=>true
 |.int _,.int _=>true|.bl _,.bl _=>true|.str _,.str _=>true|.FA _,.FA _=>true
 |.int _,.str _=>true|.str _,.int _=>true|.bl _,.str _=>true|.str _,.bl _=>true
 |_,_=>false
noncomputable def Z7:R2:=fun x y H Q=>Oc x y=true/\Q (.bl (decide (x=y))) H
noncomputable def Z8:R2:=fun x y H Q=>Oc x y=true/\Q (.bl (!decide (x=y))) H
theorem Cb{i j:Int}:decide (V.int i=V.int j)=(i==j):=by
 rw[Bool.eq_iff_iff]
 simp
theorem F6{i j:Bool}:decide (V.bl i=V.bl j)=(i==j):=by
 rw[Bool.eq_iff_iff]
 simp
theorem Cc{i j:Str}:decide (V.str i=V.str j)=(i==j):=by
 rw[Bool.eq_iff_iff]
 simp
theorem Ce{i j:Array UInt8}:decide (V.FA i=V.FA j)=(i.toList==j.toList):=by
 rw[Bool.eq_iff_iff]
 cases i
 cases j
 simp
section
variable{X:Cx}{a b c:Expr}{ta tb tc:TE}{pos:Pos}
theorem aO{pins:List (Addr×Obj)}{σ:St}{H:Hp}{s:Shared}{Q:VK}{k k':Bool}(I:Inv X pins σ H s)(q:Q (.bl k) H)(e:k=k'):EP X pins σ Q (.bool k') s:=by
 subst e
 exact⟨.bl k,H,I,rfl,q⟩
theorem Tj:oE X (compareOp .Eq) Z7:=by
 intro pins s σ H x y v u Q I rx ry h
 obtain⟨hs,q⟩:=h
 cases x with
 |aX=>
  cases rx
  cases y with
  |aX=>cases ry;exact PySem.EqNone.eq_none_none (aO I q (by simp))
  |bl j=>cases ry;exact PySem.EqNone.eq_none_bool (aO I q (by simp))
  |int j=>obtain⟨t',rfl⟩:=ry;exact PySem.EqNone.eq_none_int (aO I q (by simp))
  |str j=>obtain⟨t',rfl⟩:=ry;exact PySem.EqNone.eq_none_str (aO I q (by simp))
  |_=>exact absurd (show false=true from hs) Ki
 |bl i=>
  cases rx
  cases y with
  |aX=>cases ry;exact PySem.EqNone.eq_bool_none (aO I q (by simp))
  |bl j=>cases ry;exact eq_bool (aO I q F6)
  |str j=>obtain⟨t',rfl⟩:=ry;exact PySem.EqMixed.eq_bool_str (aO I q (by simp))
  |_=>exact absurd (show false=true from hs) Ki
 |int i=>
  obtain⟨t,rfl⟩:=rx
  cases y with
  |aX=>cases ry;exact PySem.EqNone.eq_int_none (aO I q (by simp))
  |int j=>obtain⟨t',rfl⟩:=ry;exact eq_int (aO I q Cb)
  |str j=>obtain⟨t',rfl⟩:=ry;exact PySem.EqMixed.eq_int_str (aO I q (by simp))
  |_=>exact absurd (show false=true from hs) Ki
 |str i=>
  obtain⟨t,rfl⟩:=rx
  cases y with
  |aX=>cases ry;exact PySem.EqNone.eq_str_none (aO I q (by simp))
  |bl j=>cases ry;exact PySem.EqMixed.eq_str_bool (aO I q (by simp))
  |int j=>obtain⟨t',rfl⟩:=ry;exact PySem.EqMixed.eq_str_int (aO I q (by simp))
  |str j=>obtain⟨t',rfl⟩:=ry;exact eq_str (aO I q Cc)
  |_=>exact absurd (show false=true from hs) Ki
 |FA i=>
  obtain⟨t,rfl⟩:=rx
  cases y with
  |FA j=>obtain⟨t',rfl⟩:=ry;exact PySem.W.eq_bytes (aO I q Ce)
  |_=>exact absurd (show false=true from hs) Ki
 |_=>cases y<;>exact absurd (show false=true from hs) Ki
theorem Tn:oE X (compareOp .NotEq) Z8:=by
 intro pins s σ H x y v u Q I rx ry h
 obtain⟨hs,q⟩:=h
 cases x with
 |aX=>
  cases rx
  cases y with
  |aX=>cases ry;exact PySem.EqNone.ne_none_none (aO I q (by simp))
  |bl j=>cases ry;exact PySem.EqNone.ne_none_bool (aO I q (by simp))
  |int j=>obtain⟨t',rfl⟩:=ry;exact PySem.EqNone.ne_none_int (aO I q (by simp))
  |str j=>obtain⟨t',rfl⟩:=ry;exact PySem.EqNone.ne_none_str (aO I q (by simp))
  |_=>exact absurd (show false=true from hs) Ki
 |bl i=>
  cases rx
  cases y with
  |aX=>cases ry;exact PySem.EqNone.ne_bool_none (aO I q (by simp))
  |bl j=>cases ry;exact ne_bool (aO I q (SZ not F6))
  |str j=>obtain⟨t',rfl⟩:=ry;exact PySem.EqMixed.ne_bool_str (aO I q (by simp))
  |_=>exact absurd (show false=true from hs) Ki
 |int i=>
  obtain⟨t,rfl⟩:=rx
  cases y with
  |aX=>cases ry;exact PySem.EqNone.ne_int_none (aO I q (by simp))
  |int j=>obtain⟨t',rfl⟩:=ry;exact ne_int (aO I q (SZ not Cb))
  |str j=>obtain⟨t',rfl⟩:=ry;exact PySem.EqMixed.ne_int_str (aO I q (by simp))
  |_=>exact absurd (show false=true from hs) Ki
 |str i=>
  obtain⟨t,rfl⟩:=rx
  cases y with
  |aX=>cases ry;exact PySem.EqNone.ne_str_none (aO I q (by simp))
  |bl j=>cases ry;exact PySem.EqMixed.ne_str_bool (aO I q (by simp))
  |int j=>obtain⟨t',rfl⟩:=ry;exact PySem.EqMixed.ne_str_int (aO I q (by simp))
  |str j=>obtain⟨t',rfl⟩:=ry;exact ne_str (aO I q (SZ not Cc))
  |_=>exact absurd (show false=true from hs) Ki
 |FA i=>
  obtain⟨t,rfl⟩:=rx
  cases y with
  |FA j=>obtain⟨t',rfl⟩:=ry;exact PySem.W.ne_bytes (aO I q (SZ not Ce))
  |_=>exact absurd (show false=true from hs) Ki
 |_=>cases y<;>exact absurd (show false=true from hs) Ki
theorem To:oE X (compareOp .Lt) (JP fun i j=>.bl (decide (i<j))):=JQ fun _ _ _ _ _ _ _ q=>lt_int q
theorem Tp:oE X (compareOp .LtE) (JP fun i j=>.bl (decide (i<=j))):=JQ fun _ _ _ _ _ _ _ q=>le_int q
theorem Tq:oE X (compareOp .Gt) (JP fun i j=>.bl (decide (j<i))):=JQ fun _ _ _ _ _ _ _ q=>gt_int q
theorem Tr:oE X (compareOp .GtE) (JP fun i j=>.bl (decide (j<=i))):=JQ fun _ _ _ _ _ _ _ q=>ge_int q
theorem Od:oE X (compareOp .Is) (fun x y H Q=>y=.aX/\Q (.bl (decide (x=.aX))) H):=by
 intro pins s σ H x y v u Q I rx ry h
 obtain⟨rfl,q⟩:=h
 cases ry
 refine is_none_gen (aO I q ?_)
 cases x<;>first
  |(cases rx;rfl)
  |(obtain⟨t,rfl⟩:=rx;rfl)
theorem JS:oE X (compareOp .IsNot) (fun x y H Q=>y=.aX/\Q (.bl (!decide (x=.aX))) H):=by
 intro pins s σ H x y v u Q I rx ry h
 obtain⟨rfl,q⟩:=h
 cases ry
 refine isnot_none_gen (aO I q ?_)
 cases x<;>first
  |(cases rx;rfl)
  |(obtain⟨t,rfl⟩:=rx;rfl)
theorem F7(b:Expr){op:CmpOp}(h:op≠.In:=by decide)(h2:op≠.NotIn:=by decide):behindInMarks op b=false:=by
 have e1:(op==CmpOp.In)=false:=by cases op<;>first|rfl|exact absurd rfl h
 have e2:(op==CmpOp.NotIn)=false:=by cases op<;>first|rfl|exact absurd rfl h2
 cases b<;>simp[behindInMarks,e1,e2]
theorem qS:(sizeLine:Nat)<2^63:=by rw[sizeLine_eq];decide
theorem Av:oE X (binaryOp .Add) (fun x y H Q=>∃i j,x=.str i/\y=.str j/\i.length+j.length<=sizeLine/\Q (.str (i++j)) H):=by
 intro pins s σ H x y v u Q I rx ry h
 obtain⟨i,j,rfl,rfl,hz,q⟩:=h
 obtain⟨t,rfl⟩:=rx
 obtain⟨t',rfl⟩:=ry
 exact add_str (fun t' tk=>⟨.str (i++j),H,I.tok _,⟨_,rfl⟩,q⟩) hz
theorem vals1{x:V}{us:List Value}(r:Vals [x] us):∃u,us=[u]/\RelV x u:=by
 cases r with
 |cons r1 r2=>cases r2;exact⟨_,rfl,r1⟩
theorem vals2{x y:V}{us:List Value}(r:Vals [x,y] us):∃u w',us=[u,w']/\RelV x u/\RelV y w':=by
 cases r with
 |cons r1 r2=>
  cases r2 with
  |cons r3 r4=>cases r4;exact⟨_,_,rfl,r1,r3⟩
theorem F8:gj X (.builtin "abs") (fun xs H Q=>∃i,xs=[.int i]/\Q (.int (if i<0 then-i else i)) H):=by
 intro pins s σ H xs us Q I r h
 obtain⟨i,rfl,q⟩:=h
 obtain⟨u,rfl,t,rfl⟩:=vals1 r
 exact call_abs_int fun u tk=>⟨.int (if i<0 then-i else i),H,I.tok _,⟨_,rfl⟩,q⟩
theorem Ej(hc:X.calm=true):gj X (.builtin "max") (fun xs H Q=>∃i j,xs=[.int i,.int j]/\Q (.int (if j>i then j else i)) H):=by
 intro pins s σ H xs us Q I r h
 obtain⟨i,j,rfl,q⟩:=h
 obtain⟨u,w',rfl,⟨t,rfl⟩,⟨t',rfl⟩⟩:=vals2 r
 refine max_two_ints (I.ok.hd hc) fun h' tk k=>⟨_,H,I.kept k,?_,q⟩
 by_cases hj:j>i
 ·rw[Bz hj,Bz hj];exact⟨_,rfl⟩
 ·rw[Bi hj,Bi hj];exact⟨_,rfl⟩
theorem Ek(hc:X.calm=true):gj X (.builtin "min") (fun xs H Q=>∃i j,xs=[.int i,.int j]/\Q (.int (if j<i then j else i)) H):=by
 intro pins s σ H xs us Q I r h
 obtain⟨i,j,rfl,q⟩:=h
 obtain⟨u,w',rfl,⟨t,rfl⟩,⟨t',rfl⟩⟩:=vals2 r
 refine min_two_ints (I.ok.hd hc) fun h' tk k=>⟨_,H,I.kept k,?_,q⟩
 by_cases hj:j<i
 ·rw[Bz hj,Bz hj];exact⟨_,rfl⟩
 ·rw[Bi hj,Bi hj];exact⟨_,rfl⟩
end
structure Aw(h:Heap)(x dx C:Addr)(mA:Str->Option Value):Prop where
 obj:h.get? x=some (PySem.W.instObj C dx)
 ns:h.Ns1 dx mA
 ne:dx≠x
theorem El{h:Heap}{dx:Addr}{mA:Str->Option Value}(n:h.Ns1 dx mA):∃od,h.get? dx=some od/\∀name,PySem.W.lookIn name od=some (mA name):=by
 obtain⟨o,es,ep,ho,hd,hk,_,hm⟩:=n
 refine⟨o,ho,fun name=>?_⟩
 have e:=hm name
 unfold nsFind findBy at e
 rw[←Array.find?_toList]at e
 unfold PySem.W.lookIn
 rw[hd]
 dsimp only
 split
 ·rename_i y q
  rw[q]at e
  exact SZ some e
 ·rename_i q
  rw[q]at e
  have a:es.toList.any (·.refKey)=false:=by
   rw[List.any_eq_false]
   intro y hy
   obtain⟨z,t,hkey⟩:=hk y (Array.mem_toList_iff.mp hy)
   simp[DictEntry.refKey,hkey]
  have a':¬es.toList.any (·.refKey)=true:=by rw[a];exact Ki
  rw[Bi a']
  exact SZ some e
theorem Aw.look{h:Heap}{x dx C:Addr}{mA:Str->Option Value}(I:Aw h x dx C mA):∃od,PySem.W.InstAt h x (PySem.W.instObj C dx) C (some od)/\∀name,PySem.W.lookIn name od=some (mA name):=
 let⟨od,ho,hl⟩:=El I.ns
 ⟨od,⟨I.obj,rfl,rfl,ho⟩,hl⟩
section
variable{prog:Program}{w:World}{A:Around}{E:Value->Shared->Prop}{s:Shared}{K:PySem.W.Frag}{x dx C f:Addr}{mA:Str->Option Value}{name:Str}{v:Value}
theorem get_map{expr:Bool}{Q:Value->Shared->Prop}(X:K.In s.heap)(I:Aw s.heap x dx C mA)(hg:PySem.W.plainGet K C name=true)(hh:PySem.W.hasDictIn K C=true)
 (ha:PySem.W.findIn K (.ref C) name=some none) (hv:mA name=some v) (hv':PySem.W.handedIn v=true) (h:Q v {s with toks:=s.toks+1}):
 wpAny (model prog w) A (getAttr (.ref x) name expr) Q E s:=by
 obtain⟨od,J,hl⟩:=I.look
 exact PySem.W.get_value X J (PySem.W.plainGet_of hg).1 (PySem.W.findObj_own hh ha rfl (by rw[hl,hv])) hv' h
theorem F9{pl:Sem Bool}{Q:Value×List Value->Shared->Prop}(X:K.In s.heap)(I:Aw s.heap x dx C mA)(hg:PySem.W.plainGet K C name=true)
 (hf:PySem.W.findIn K (.ref C) name=some (some (.ref f))) (ht:PySem.W.isFn K (.ref f)=true) (hv:mA name=none) (h:Q (.ref f,[.ref x]) s):
 wpAny (model prog w) A (getMethod (.ref x) name pl) Q E s:=by
 obtain⟨od,J,hl⟩:=I.look
 exact PySem.W.method_fn X J (PySem.W.plainGet_of hg).1 (PySem.W.plainGet_of hg).2 hf (NA.mp ht) (by show(PySem.W.lookIn name od).map (·.isSome)=some false;rw[hl,hv];rfl) h
theorem JT{ns:List Str}{Q:Unit->Shared->Prop}(X:K.In s.heap)(I:Aw s.heap x dx C mA)
 (hs:PySem.W.findIn K (.ref C) "__setattr__"=some (some (.builtin "object.__setattr__"))) (hp:PySem.W.plainOver K C=true) (ht:PySem.W.takerIn K C name=some none) (hh:PySem.W.hasDictIn K C=true)
 (hw:PySem.Within mA ns) (hsz:ns.length<=sizeLine)
 (h:∀h',Aw h' x dx C (fun y=>if y=name then some v else mA y)->Heap.SameBut dx s.heap h'->Q () {s with heap:=h',toks:=s.toks+2}):
 wpAny (model prog w) A (setAttr (.ref x) name v) Q E s:=by
 obtain⟨od,J,hl⟩:=I.look
 refine PySem.W.set_plain X J hs (PySem.W.osa_open (s:={s with toks:=s.toks+1}) (r:=none) X J hp ht fun b=>?_)
 obtain⟨cd,hc,hd'⟩:=PySem.W.any_some hh
 have hx:s.heap.get? x=some ⟨.ref C,some dx,.plain,#[]⟩:=I.obj
 refine He (PH (He (He (wpAny_loadPart hx (He (PySem.W.Looks.here (s:={s with toks:=s.toks+1}) (PySem.W.looks_clsIn X hc) ?_))))))
 rw[hd']
 refine PH (a:=some dx) (He (PH (He ?_)))
 refine wpAny_nsSet1 (s:={s with toks:=s.toks+1}) I.ns fun h' hn2 hs2=>?_
 obtain⟨oD,esD,epD,Z9,hdD,hcD⟩:=hn2.count (PySem.Within.cons name v hw)
 refine He (wpAny_lookBehind Z9 (by rw[hdD];exact pastItsLine_dict (Dx hcD (by rw[List.length_cons];omega))) ?_)
 exact PH (h _ ⟨(hs2.2 _ (Q1 I.ne)).trans I.obj,hn2,I.ne⟩ hs2)
theorem Ga{R:Result->Shared->Prop}{vs:List Value}{kw:List (Str×Value)}(X:K.In s.heap)(hm:PySem.W.makesIn K C=true)
 (hi:PySem.W.findIn K (.ref C) "__init__"=some (some (.ref f))) (hf:PySem.W.typeIn K (.ref f)=some (.type "function"))
 (h:codeAny (model prog w) (A.under (.builtin "type.__call__" ⟨.ref C::vs,kw⟩)) (.call (.ref f) ⟨.ref (s.heap.objs.size+1)::vs,kw⟩) (PySem.W.InitBack (s.heap.objs.size+1) R)
   {s with heap:=(s.heap.push PySem.W.emptyDict).push (PySem.W.instObj C s.heap.objs.size)}):
 codeAny (model prog w) A (.call (.ref C) ⟨vs,kw⟩) R s:=by
 obtain⟨hh,g,d,t,os⟩:=s
 exact PySem.W.make_core (PySem.W.makes_of X hm) (PySem.W.looks_findIn X hi) (fun self=>PySem.W.bind_fn X self hf) (.inl rfl) h
end
noncomputable def jf(f:Str)(v:V):List (Str×V)->List (Str×V)
 |[]=>[(f,v)]
 |(g,x)::r=>if g=f then(g,v)::r else(g,x)::jf f v r
theorem pF(f g:Str)(v:V):∀fs:List (Str×V),(jf f v fs).lookup g=if g=f then some v else fs.lookup g
 |[]=>by
  show List.lookup g [(f,v)]=_
  by_cases h:g=f
  ·have hb:(g==f)=true:=NA.mpr h
   simp only[List.lookup,hb,Bz h]
  ·have hb:(g==f)=false:=beq_eq_false_iff_ne.mpr h
   simp only[List.lookup,hb,Bi h]
 |(k,x)::r=>by
  have ih:=pF f g v r
  rw[show jf f v ((k,x)::r)=(if k=f then(k,v)::r else(k,x)::jf f v r)from rfl]
  by_cases hk:k=f
  ·rw[Bz hk]
   by_cases h:g=k
   ·have hb:(g==k)=true:=NA.mpr h
    simp only[List.lookup,hb,Bz (h.trans hk)]
   ·have hb:(g==k)=false:=beq_eq_false_iff_ne.mpr h
    simp only[List.lookup,hb,Bi (fun e:g=f=>h (e.trans hk.symm))]
  ·rw[Bi hk]
   by_cases h:g=k
   ·have hb:(g==k)=true:=NA.mpr h
    simp only[List.lookup,hb,Bi (fun e:g=f=>hk (h.symm.trans e))]
   ·have hb:(g==k)=false:=beq_eq_false_iff_ne.mpr h
    simp only[List.lookup,hb]
    exact ih
theorem oF(f:Str)(v:V):∀fs:List (Str×V),f∈(jf f v fs).map (·.1)/\∀g,g∈fs.map (·.1)->g∈(jf f v fs).map (·.1)
 |[]=>⟨by simp[jf],fun g h=>by simp at h⟩
 |(k,x)::r=>by
  obtain⟨i1,i2⟩:=oF f v r
  rw[show jf f v ((k,x)::r)=(if k=f then(k,v)::r else(k,x)::jf f v r)from rfl]
  by_cases hk:k=f
  ·rw[Bz hk]
   subst hk
   exact⟨by simp,fun g h=>by simpa using h⟩
  ·rw[Bi hk]
   refine⟨?_,fun g h=>?_⟩
   ·rw[On]
    exact Ee _ i1
   ·rw[On]at h⊢
    rcases FV.mp h with e|e
    ·exact FV.mpr (.inl e)
    ·exact Ee _ (i2 g e)
theorem pG(f:Str)(v:V):∀fs:List (Str×V),(jf f v fs).length<=fs.length+1
 |[]=>by simp[jf]
 |(k,x)::r=>by
  have ih:=pG f v r
  rw[show jf f v ((k,x)::r)=(if k=f then(k,v)::r else(k,x)::jf f v r)from rfl]
  by_cases hk:k=f
  ·rw[Bz hk,List.length_cons,List.length_cons];omega
  ·rw[Bi hk,List.length_cons,List.length_cons];omega
theorem tL.some_of{v:V}{o:Option Value}(r:tL (some v) o):∃u,o=some u/\RelV v u:=by
 cases o with
 |none=>exact(show False from r).elim
 |some u=>exact⟨u,rfl,r⟩
theorem tL.none_of{o:Option Value}(r:tL none o):o=none:=by
 cases o with
 |none=>rfl
 |some u=>exact(show False from r).elim
theorem Em{v:V}{u:Value}(r:RelV v u):PySem.W.handedIn u=true:=by
 cases v with
 |aX=>cases(show u=Value.none from r);rfl
 |bl b=>cases(show u=Value.bool b from r);rfl
 |int i=>obtain⟨t,e⟩:=(show∃t,u=Value.int i t from r);cases e;rfl
 |str x=>obtain⟨t,e⟩:=(show∃t,u=Value.str x t from r);cases e;rfl
 |FA b=>obtain⟨t,e⟩:=(show∃t,u=Value.bytes b t from r);cases e;rfl
 |RV b=>obtain⟨t,e⟩:=(show∃t,u=Value.float b t from r);cases e;rfl
 |ref a=>cases(show u=Value.ref a from r);rfl
 |ty n=>cases(show u=Value.type n from r);rfl
section
variable{P:Program}{w:World}{H H':Hp}{h h':Heap}{a C dx:Addr}{fs fs':List (Str×V)}
theorem ve(hok:mT P w H h)(e:H a=some (.ins C dx fs)):∃mA,Aw h a dx C mA/\(∀f,tL (fs.lookup f) (mA f))/\PySem.Within mA (fs.map (·.1))/\fs.length<=1000/\H dx=some (.own a):=by
 obtain⟨d,z,ne,ob,mA,n,r,q⟩:=(show dQ P w H h a (.ins C dx fs)from hok a _ e)
 exact⟨mA,⟨ob,n,ne⟩,r,q,z,d⟩
end
structure JU(K:PySem.W.Frag)(C:Addr):Prop where
 pg:PySem.W.plainGet K C Str.empty=true
 hd:PySem.W.hasDictIn K C=true
 po:PySem.W.plainOver K C=true
 sa:PySem.W.findIn K (.ref C) "__setattr__"=some (some (.builtin "object.__setattr__"))
theorem JU.get{K:PySem.W.Frag}{C:Addr}(c:JU K C)(f:Str):PySem.W.plainGet K C f=true:=c.pg
noncomputable def l5(K:PySem.W.Frag)(C:Addr)(f:Str):Prop:=PySem.W.findIn K (.ref C) f=some none
theorem l5.Tt{K:PySem.W.Frag}{C:Addr}{f:Str}(n:l5 K C f):PySem.W.takerIn K C f=some none:=by
 unfold PySem.W.takerIn
 rw[show PySem.W.findIn K (.ref C) f=some none from n]
 rfl
structure Meth(K:PySem.W.Frag)(C:Addr)(m:Str)(f:Addr):Prop where
 at_:PySem.W.findIn K (.ref C) m=some (some (.ref f))
 fn:PySem.W.isFn K (.ref f)=true
 kp:PySem.W.keepIn K (.ref f)=true
section
variable{X:Cx}{pins:List (Addr×Obj)}{σ:St}{H:Hp}{s:Shared}{a C dx:Addr}{fs:List (Str×V)}{f:Str}{v:V}{A:Around}{E:Value->Shared->Prop}
theorem Ax{b:Bool}{Q:Value->Shared->Prop}(I:Inv X pins σ H s)(e:H a=some (.ins C dx fs))(c:JU X.K C)(n:l5 X.K C f)(l:fs.lookup f=some v)
 (h:∀u s',Inv X pins σ H s'->RelV v u->Q u s'):wpAny (model X.prog X.w) A (getAttr (.ref a) f b) Q E s:=by
 obtain⟨mA,O,r,_,_,_⟩:=ve I.hok e
 obtain⟨u,hu,ru⟩:=tL.some_of (v:=v) (o:=mA f) (by rw[←l];exact r f)
 exact get_map I.B7 O (c.get f) c.hd n hu (Em ru) (h u _ (I.tok _) ru)
theorem qT{m:Str}{g:Addr}{pl:Sem Bool}{Q:Value×List Value->Shared->Prop}(I:Inv X pins σ H s)(e:H a=some (.ins C dx fs))(c:JU X.K C)(k:Meth X.K C m g)(l:fs.lookup m=none)
 (h:Q (.ref g,[.ref a]) s):wpAny (model X.prog X.w) A (getMethod (.ref a) m pl) Q E s:=by
 obtain⟨mA,O,r,_,_,_⟩:=ve I.hok e
 have hn:mA m=none:=tL.none_of (by rw[←l];exact r m)
 exact F9 I.B7 O (c.get m) k.at_ k.fn hn h
theorem Ay{y:V}{u:Value}{Q:Unit->Shared->Prop}(I:Inv X pins σ H s)(e:H a=some (.ins C dx fs))(c:JU X.K C)(n:l5 X.K C f)(hl:fs.length<1000)(ry:RelV y u)
 (h:∀s',Inv X pins σ (upd H a (.ins C dx (jf f y fs))) s'->Q () s'):wpAny (model X.prog X.w) A (setAttr (.ref a) f u) Q E s:=by
 obtain⟨mA,O,r,wi,_,ho⟩:=ve I.hok e
 have hz:(fs.map (·.1)).length<=sizeLine:=by rw[Ap,sizeLine_eq];omega
 refine JT I.B7 O c.sa c.po n.Tt c.hd wi hz fun h' O' sb=>h _ ?_
 have hd:∃o,h'.get? dx=some o:=let⟨o,_,_,e',_⟩:=O'.ns;⟨o,e'⟩
 refine I.write (x:=a) (e:=dx) (by rw[e];exact True.intro) (.inr ho) (fun b q hb z=>(sb.2 b hb).trans z) hd ?_
 refine⟨by rw[ao O.ne];exact ho,?_,O.ne,O'.obj,_,O'.ns,fun g=>?_,fun g hg=>?_⟩
 ·have:=pG f y fs;omega
 ·show tL ((jf f y fs).lookup g) (if g=f then some u else mA g)
  rw[pF]
  by_cases q:g=f
  ·rw[Bz q,Bz q];exact ry
  ·rw[Bi q,Bi q];exact r g
 ·by_cases q:g=f
  ·rw[q];exact(oF f y fs).1
  ·refine(oF f y fs).2 g (wi g fun z=>hg ?_)
   show(if g=f then some u else mA g)=none
   rw[Bi q];exact z
theorem Inv.made(I:Inv X pins σ H s):Inv X pins σ (upd (upd H s.heap.objs.size (.own (s.heap.objs.size+1))) (s.heap.objs.size+1) (.ins C s.heap.objs.size []))
 {s with heap:=(s.heap.push PySem.W.emptyDict).push (PySem.W.instObj C s.heap.objs.size)}:=by
 have e1:(s.heap.push PySem.W.emptyDict).get? s.heap.objs.size=some PySem.W.emptyDict:=N0 s.heap rfl
 have e2:((s.heap.push PySem.W.emptyDict).push (PySem.W.instObj C s.heap.objs.size)).get? (s.heap.objs.size+1)=some (PySem.W.instObj C s.heap.objs.size):=by
  have:=N0 (s.heap.push PySem.W.emptyDict) (o:=PySem.W.instObj C s.heap.objs.size) rfl
  rwa [Heap.size_push]at this
 have e3:(s.heap.push PySem.W.emptyDict).Ns s.heap.objs.size (fun _=>none):=⟨PySem.W.emptyDict,#[],_,e1,rfl,(fun e he=>absurd he (by simp)),fun _=>rfl⟩
 have I1:=I.laid (a:=s.heap.objs.size) (o:=.own (s.heap.objs.size+1)) (h':=s.heap.push PySem.W.emptyDict) (t':=s.toks) (fun b u q=>FM _ q) (Do _) ⟨_,e1⟩
 refine I1.laid (a:=s.heap.objs.size+1) (o:=.ins C s.heap.objs.size []) (t':=s.toks) (fun b u q=>FM _ q) (Nat.le_of_eq (Heap.size_push _ _)) ?_
 have ne:s.heap.objs.size≠s.heap.objs.size+1:=Kk (QP _)
 refine⟨by rw[ao ne,aE],KM _,ne,e2,fun _=>none,(Heap.Ns1.of_empty e3).at fun o q=>FM _ q,fun _=>True.intro,fun y hy=>absurd rfl hy⟩
theorem JV{prog:Program}{w:World}{env:Env}{e:Expr}{f:Str}{pos:Pos}{s:Shared}{Q:Value->Shared->Prop}(hb:attributeBase e f env (eval e env)=eval e env)
 (h:wpAny (model prog w) A (eval e env) (fun o s₁=>wpAny (model prog w) A (getAttr o f true) Q E s₁) E s):wpAny (model prog w) A (eval (.Attribute e f pos) env) Q E s:=
 Attribute_any_ h (by rw[arm_eval_Attribute,hb])
end
noncomputable def Wz(K:PySem.W.Frag)(ta:TE)(f:Str):TE:=fun σ H Q=>ta σ H fun x H1=>∃a C dx fs v,x=.ref a/\H1 a=some (.ins C dx fs)/\JU K C/\l5 K C f/\fs.lookup f=some v/\Q v H1
noncomputable def Tu(K:PySem.W.Frag)(ta tv:TE)(f:Str):TS:=fun D σ H=>tv σ H fun y H1=>ta σ H1 fun x H2=>∃a C dx fs,x=.ref a/\H2 a=some (.ins C dx fs)/\JU K C/\l5 K C f/\fs.length<1000/\
 D.nx σ (upd H2 a (.ins C dx (jf f y fs)))
section
variable{X:Cx}{o e value:Expr}{f:Str}{pos pos' tpos:Pos}{ta tv:TE}
theorem Oe(he:PE X e ta)(hb:attributeBase e f X.env (eval e X.env)=eval e X.env):PE X (.Attribute e f pos) (Wz X.K ta f):=by
 intro pins s σ H Q I h
 refine JV hb (bT (he pins s σ H _ I h) fun u s1 ⟨x,H1,I1,rx,a,C,dx,fs,v,ex,ea,c,n,l,q⟩=>?_)
 subst ex
 obtain rfl:u=Value.ref a:=rx
 exact Ax I1 ea c n l fun u' s2 I2 ru=>⟨v,H1,I2,ru,q⟩
theorem ia(ha:PE X o ta)(hv:PE X value tv)(hs:swapsWith value (some (.Attribute o f pos')) pos.line X.env=pure false):PS X (.Assign [.Attribute o f pos'] value pos) (Tu X.K ta tv f):=by
 intro pins s σ H D I h
 refine plainObj_wpAny_Assign_Attribute (bT (hv pins s σ H _ I h) fun u s1 ⟨y,H1,I1,ry,q⟩=>bT (ha pins s1 σ H1 _ I1 q) fun ov s2 ⟨x,H2,I2,rx,a,C,dx,fs,ex,ea,c,n,l,q2⟩=>?_) hs
 subst ex
 obtain rfl:ov=Value.ref a:=rx
 exact Ay I2 ea c n l ry fun s3 I3=>⟨σ,_,I3,q2⟩
end
section
variable{X:Cx}{pins:List (Addr×Obj)}{σ:St}{H:Hp}{s:Shared}{A:Around}{E:Value->Shared->Prop}{Q:Value->Shared->Prop}{c:Value}{b:Bool}
inductive qU(K:PySem.W.Frag)(H:Hp):V->Value->Prop where
 |aX:qU K H .aX (.type "NoneType")
 |bl (x:Bool):qU K H (.bl x) (.type "bool")
 |int (i:Int):qU K H (.int i) (.type "int")
 |str (x:Str):qU K H (.str x) (.type "str")
 |RV (x:UInt64):qU K H (.RV x) (.type "float")
 |lst {a:Addr} {xs:List V} (e:H a=some (.lst xs)):qU K H (.ref a) (.type "list")
 |B6 {a:Addr} {o:Obj} {xs:List V} (e:H a=some (.B6 o (.lst xs))):qU K H (.ref a) (.type "list")
 |tup {a:Addr} {xs:List V} (e:H a=some (.tup xs)):qU K H (.ref a) (.type "tuple")
 |dK {a:Addr} {kvs:List (Key×V)} (e:H a=some (.dK kvs)):qU K H (.ref a) (.type "dict")
 |dT {a:Addr} {kvs:List (List Key×V)} (e:H a=some (.dT kvs)):qU K H (.ref a) (.type "dict")
 |ins {a C dx:Addr} {fs:List (Str×V)} (e:H a=some (.ins C dx fs)) (cl:JU K C) (ha:PySem.W.findIn K (.ref C) "__class__"=some (some (.builtin "object.__class__")))
   (hn:PySem.W.specialIn K (.builtin "object.__class__") "__get__"=some (some (.builtin "getset_descriptor.__get__"))) (htk:PySem.W.takesIn K (.builtin "object.__class__")=some true)
   (hm:PySem.W.mroIn K C (.type "object")=some true):qU K H (.ref a) (.ref C)
end
structure dU(k:Nat)(A:Around):Prop where
 hd:A.handled=none
 dp:A.depth+3*k+5<recursionLimit
 un:A.units+16*k+200<cLine
theorem dU.mono{j k:Nat}{A:Around}(r:dU k A)(h:j<=k):dU j A:=⟨r.hd,by have:=r.dp;omega,by have:=r.un;omega⟩
theorem dU.deeper{k:Nat}{A:Around}(r:dU (k+1) A)(env:Env):dU k (A.deeper env):=
 ⟨r.hd,by have:=r.dp;show A.depth+1+3*k+5<_;omega,by have:=r.un;show A.units+3+16*k+200<_;omega⟩
theorem Az{A:Around}{C:Addr}{us:List Value}{kw:List (Str×Value)}:(A.under (.builtin "type.__call__" ⟨.ref C::us,kw⟩)).depth=A.depth+1:=by
 first|rfl|simp[Around.under,Code.weight,Code.isCreation,Code.isGuard,Code.isCaller,Code.frames,Code.isFrame,guardIds]
theorem AA{A:Around}{C:Addr}{us:List Value}{kw:List (Str×Value)}:(A.under (.builtin "type.__call__" ⟨.ref C::us,kw⟩)).units=A.units+1:=by
 first|rfl|simp[Around.under,Code.cUnits,Code.frames,Code.isFrame]
theorem dU.make{k:Nat}{A:Around}(r:dU (k+1) A)(C:Addr)(us:List Value)(kw:List (Str×Value)):dU k (A.under (.builtin "type.__call__" ⟨.ref C::us,kw⟩)):=
 ⟨r.hd,by have:=r.dp;rw[Az];omega,by have:=r.un;rw[AA];omega⟩
theorem dU.depth{k:Nat}{A:Around}(r:dU k A):A.depth<recursionLimit:=by have:=r.dp;omega
theorem dU.units{k:Nat}{A:Around}(r:dU k A):A.units+64<cLine:=by have:=r.un;omega
noncomputable def Tv:TA:=fun _ H Q=>Q [] H
noncomputable def MI(ta:TE)(tr:TA):TA:=fun σ H Q=>ta σ H fun x H1=>tr σ H1 fun xs H2=>Q (x::xs) H2
section
variable{X:Cx}{e:Expr}{es:List Expr}{te:TE}{t:TA}{pos:Pos}
theorem gc:PA X [] Tv:=fun _ _ _ _ H Q I h=>Calls.spliced_nil ⟨[],H,I,.nil,h⟩
theorem bV(ha:PE X e te)(hr:PA X es t)(hs:starEach (e::es) X.env=(false,eval e X.env)::starEach es X.env:=by rfl):PA X (e::es) (MI te t):=by
 intro pos pins s σ H Q I h
 rw[hs]
 show wpAny _ _ (spliced ((false,eval e X.env)::backTo pos (starEach es X.env))) _ _ s
 refine Calls.spliced_cons (bT (ha pins s σ H _ I h) fun u s1 ⟨x,H1,I1,r1,q1⟩=>?_)
 exact bT (hr pos pins s1 σ H1 _ I1 q1) fun us s2 ⟨xs,H2,I2,r2,q2⟩=>⟨x::xs,H2,I2,.cons r1 r2,q2⟩
noncomputable def WA(t:TA):TE:=fun σ H Q=>t σ H fun xs H1=>xs.length<=sizeLine/\∀p,H1 p=none->Q (.ref p) (upd H1 p (.tup xs))
noncomputable def WB(t:TA):TE:=fun σ H Q=>t σ H fun xs H1=>xs.length<=sizeLine/\∀p,H1 p=none->Q (.ref p) (upd H1 p (.lst xs))
theorem AB{x1}(h:PA X es t):PE X (.Tuple es x1 pos) (WA t):=by
 intro pins s σ H Q I hq
 refine wpAny_Tuple_spliced (bT (h pos pins s σ H _ I hq) fun us s1 ⟨xs,H1,I1,r,z,q⟩=>⟨by rw[←r.length];exact z,?_⟩)
 have hf:H1 s1.heap.objs.size=none:=I1.hok.fresh (Do _)
 refine⟨.ref s1.heap.objs.size,upd H1 s1.heap.objs.size (.tup xs),I1.laid (t':=s1.toks) (fun b u e=>FM _ e) (Do _) ?_,rfl,q _ hf⟩
 exact⟨z,us,r,⟨_,N0 _ rfl,rfl,_,rfl⟩⟩
theorem Gb(h:PA X es t):PE X (.List es pos) (WB t):=by
 intro pins s σ H Q I hq
 refine wpAny_List_spliced (bT (h pos pins s σ H _ I hq) fun us s1 ⟨xs,H1,I1,r,z,q⟩=>⟨by rw[←r.length];exact z,?_⟩)
 have hf:H1 s1.heap.objs.size=none:=I1.hok.fresh (Do _)
 refine⟨.ref s1.heap.objs.size,upd H1 s1.heap.objs.size (.lst xs),I1.laid (t':=s1.toks) (fun b u e=>FM _ e) (Do _) ?_,rfl,q _ hf⟩
 exact⟨z,us,0,r,N0 _ rfl⟩
end
abbrev Sp:=List V->Hp->VK->XK->Prop
abbrev En:=List Env->Hp->Shared->XK->Value->Shared->Prop
structure AD(P:Program)(w:World)(K:PySem.W.Frag)(mg:Str->Option Value)(base:Heap)(A:Around)(outer:List Env)(s:Shared)(H:Hp):Prop where
 frames:A.frames=some outer
 mod:Mod K mg base
 bs:∀b o,base.get? b=some o->s.heap.get? b=some o/\H b=none
 JH:base.objs.size<=s.heap.objs.size
 qg:s.heap.FunFrames base outer
 NI:∀b∈frs outer,H b=none
 hok:mT P w H s.heap
 bare:AllBare s.gens
noncomputable def CE(outer:List Env)(P:Program)(w:World)(H:Hp)(s:Shared)(Q:VK)(u:Value)(s':Shared):Prop:=
 ∃v H',s'.os=s.os/\AllBare s'.gens/\Un (frs outer) [] H H' s.heap s'.heap/\mT P w H' s'.heap/\RelV v u/\Q v H'
noncomputable def CR(CX:En)(outer:List Env)(P:Program)(w:World)(H:Hp)(s:Shared)(Q:VK)(E:XK)(r:Result)(s':Shared):Prop:=
 match r with
 |.ok (.ret u)=>CE outer P w H s Q u s'
 |.ok _=>False
 |.error e=>CX outer H s E e s'
structure aH(P:Program)(w:World)(K:PySem.W.Frag)(mg:Str->Option Value)(base:Heap)(CX:En)(k:Nat)(f:Addr)(fd:FuncData)(ps:List Str)(sp:Sp):Prop where
 len:∀vs H Q E,sp vs H Q E->vs.length=ps.length
 run:∀(A:Around) (outer:List Env) (s:Shared) (H:Hp) (args:Args) (us:List Value) (vs:List V) (Q:VK) (E:XK),dU k A->AD P w K mg base A outer s H->BindsTo s fd args (ps.zip us)->Vals vs us->sp vs H Q E->
  codeAny (model P w) A (.call (.ref f) args) (CR CX outer P w H s Q E) s
theorem aH.imp{P:Program}{w:World}{K:PySem.W.Frag}{mg:Str->Option Value}{base:Heap}{CX:En}{k:Nat}{f:Addr}{fd:FuncData}{ps:List Str}{sp YS:Sp}(F:aH P w K mg base CX k f fd ps sp)
 (h:∀vs H Q E,YS vs H Q E->sp vs H Q E):aH P w K mg base CX k f fd ps YS:=
 ⟨fun vs H Q E q=>F.len vs H Q E (h _ _ _ _ q),fun A outer s H args us vs Q E hr he hb hv hs=>F.run A outer s H args us vs Q E hr he hb hv (h _ _ _ _ hs)⟩
theorem AD.make{P:Program}{w:World}{K:PySem.W.Frag}{mg:Str->Option Value}{base:Heap}{A:Around}{outer:List Env}{s:Shared}{H:Hp}(e:AD P w K mg base A outer s H)(C:Addr)(us:List Value)(kw:List (Str×Value)):
 AD P w K mg base (A.under (.builtin "type.__call__" ⟨.ref C::us,kw⟩)) outer s H:=⟨by first|exact e.frames|(simpa[Around.under,Code.envs,Code.isFrame,pushEnvs]using e.frames),e.mod,e.bs,e.JH,e.qg,e.NI,e.hok,e.bare⟩
section
variable{X:Cx}{pins:List (Addr×Obj)}{σ:St}{H:Hp}{s s':Shared}
theorem Inv.Tw(I:Inv X pins σ H s):AD X.prog X.w X.K X.mg X.base X.A X.stack s H:=
 ⟨I.ok.frames,I.ok.mod,I.bs,Dx I.ok.JH I.sz,I.stack,I.mW,I.hok,I.bare⟩
theorem Inv.after{Q:VK}{u:Value}(I:Inv X pins σ H s)(h:CE X.stack X.prog X.w H s Q u s'):EP X pins σ Q u s':=by
 obtain⟨v,H',os,bare,un,hok,r,q⟩:=h
 obtain⟨hh,g,d,t,os'⟩:=s'
 obtain rfl:os'=s.os:=os
 exact⟨v,H',I.call (h':=hh) (g':=g) (d':=d) (t':=t) (ch:=[]) un hok bare (fun b z=>absurd z (by simp)),r,q⟩
end
noncomputable def Binds(K:PySem.W.Frag)(fd:FuncData)(ps:List Str)(ds:List Value):Prop:=
 ∀(s:Shared) (us:List Value),K.In s.heap->(us++ds).length=ps.length->BindsTo s fd ⟨us,[]⟩ (ps.zip (us++ds))
theorem Binds.all{K:PySem.W.Frag}{fd:FuncData}{ps:List Str}(h:∀us:List Value,us.length=ps.length->bindArgs fd ⟨us,[]⟩=pure (ps.zip us)):Binds K fd ps []:=fun s us _ hl=>by
 rw[KF]at hl⊢
 exact .of_eq (h us hl)
noncomputable def Passes(CX:En)(X:Cx)(E:XK):Prop:=∀(pins:List (Addr×Obj)) (σ:St) (H:Hp) (s:Shared) (e:Value) (s':Shared),Inv X pins σ H s->CX X.stack H s E e s'->X.xe e s'
section
variable{X:Cx}{CX:En}{k:Nat}{f C:Addr}{fd:FuncData}{ps:List Str}{sp:Sp}{Gd:List V}{ds:List Value}{E:XK}{x m:Str}{p pos apos:Pos}{e o:Expr}{es:List Expr}{ta:TE}{t:TA}
theorem AE{pins:List (Addr×Obj)}{σ:St}{H:Hp}{s:Shared}{Q:VK}{us:List Value}{vs:List V}(F:aH X.prog X.w X.K X.mg X.base CX k f fd ps sp)(hr:dU k X.A)(hb:Binds X.K fd ps ds)(hd:Vals Gd ds)(hx:Passes CX X E)
 (I:Inv X pins σ H s) (r:Vals vs us) (h:sp (vs++Gd) H Q E):wpAny (model X.prog X.w) X.A (call (.ref f) us) (EP X pins σ Q) X.xe s:=by
 have r2:Vals (vs++Gd) (us++ds):=r.append hd
 have hl:(us++ds).length=ps.length:=by rw[←r2.length];exact F.len _ _ _ _ h
 refine wpAny_call (codeAny_mono (F.run X.A X.stack s H ⟨us,[]⟩ (us++ds) (vs++Gd) Q E hr I.Tw (hb s us I.B7 hl) r2 h) fun r s' hq=>?_)
 cases r with
 |error e=>exact hx pins σ H s e s' I hq
 |ok fl=>
  cases fl with
  |ret u=>exact I.after hq
  |next=>exact False.elim hq
  |brk=>exact False.elim hq
  |cont=>exact False.elim hq
structure Mk(K:PySem.W.Frag)(C f:Addr):Prop where
 makes:PySem.W.makesIn K C=true
 init:PySem.W.findIn K (.ref C) "__init__"=some (some (.ref f))
 fn:PySem.W.isFn K (.ref f)=true
 kp:PySem.W.keepIn K (.ref C)=true
theorem Ge{pins:List (Addr×Obj)}{σ:St}{H:Hp}{s:Shared}{Q:VK}{us:List Value}{vs:List V}(M:Mk X.K C f)(F:aH X.prog X.w X.K X.mg X.base CX k f fd ps sp)(hr:dU (k+1) X.A)(hb:Binds X.K fd ps ds)(hd:Vals Gd ds)
 (hx:Passes CX X E) (I:Inv X pins σ H s) (r:Vals vs us)
 (h:∀x dx,H x=none->H dx=none->dx≠x->sp (.ref x::(vs++Gd)) (upd (upd H dx (.own x)) x (.ins C dx [])) (fun v H2=>v=.aX/\Q (.ref x) H2) E):
 wpAny (model X.prog X.w) X.A (call (.ref C) us) (EP X pins σ Q) X.xe s:=by
 have hq:=h (s.heap.objs.size+1) s.heap.objs.size (I.hok.fresh (Nat.le_succ _)) (I.hok.fresh (Do _)) (Kk (QP _))
 have I2:=Inv.made (C:=C) I
 have r2:Vals (V.ref (s.heap.objs.size+1)::(vs++Gd)) (Value.ref (s.heap.objs.size+1)::(us++ds)):=.cons rfl (r.append hd)
 have hl:(Value.ref (s.heap.objs.size+1)::us++ds).length=ps.length:=by
  have e:=r2.length
  rw[F.len _ _ _ _ hq]at e
  exact e.symm
 refine wpAny_call (Ga (f:=f) I.B7 M.makes M.init (NA.mp M.fn) (codeAny_mono (F.run _ X.stack _ _ ⟨Value.ref (s.heap.objs.size+1)::us,[]⟩ (Value.ref (s.heap.objs.size+1)::(us++ds)) _ _ E (hr.make C us [])
  (I2.Tw.make C us []) (hb _ (Value.ref (s.heap.objs.size+1)::us) I2.B7 hl) r2 hq) fun r s' hq'=>?_))
 cases r with
 |error e=>exact hx pins σ _ _ e s' I2 hq'
 |ok fl=>
  cases fl with
  |ret u=>
   obtain⟨v,H',I3,rv,ev,q3⟩:=I2.after hq'
   subst ev
   exact⟨rv,⟨V.ref (s.heap.objs.size+1),H',I3,rfl,q3⟩⟩
  |next=>exact False.elim hq'
  |brk=>exact False.elim hq'
  |cont=>exact False.elim hq'
end
section
variable{X:Cx}{CX:En}{k:Nat}{f C:Addr}{fd:FuncData}{ps ks:List Str}{sp:Sp}{E:XK}{x m:Str}{p pos apos kpos:Pos}{e o:Expr}{es:List Expr}{kws:List Keyword}{te ta:TE}{t tk:TA}{nm:Option Str}
variable{g:List Value->List Value->List Value}{gV:List V->List V->List V}
end
structure ay(N P:List Str)(sc:Scope):Prop where
 kind:sc.kind=.function
 co:sc.isCoroutine=false
 gen:sc.isGenerator=false
 nd:N.Nodup
 pre:N.take P.length=P
 par:∀x∈P,sc.names.lookup x=some .local\/sc.names.lookup x=some .cell
 Of:∀y∈sc.names,y.2≠.free
theorem uo{kindOf:Str->Option NameKind}{x:Str}:∀{binds:List (Str×Value)} {m:Str->Option Value},(∀v,(x,v)∉binds)->bindL kindOf binds m x=m x
 |[],_,_=>rfl
 |(n,v)::r,m,h=>by
  unfold bindL
  rw[uo fun w hw=>h w (Ee _ hw)]
  split
  ·have:x≠n:=by rintro rfl;exact h v FK
   simp[this]
  ·rfl
theorem uq{kindOf:Str->Option NameKind}{x:Str}:∀{binds:List (Str×Value)} {m:Str->Option Value},(∀v,(x,v)∉binds)->bindC kindOf binds m x=m x
 |[],_,_=>rfl
 |(n,v)::r,m,h=>by
  unfold bindC
  rw[uq fun w hw=>h w (Ee _ hw)]
  split
  ·rfl
  ·have:x≠n:=by rintro rfl;exact h v FK
   simp[this]
theorem ur{kindOf:Str->Option NameKind}{x:Str}{v:Value}:∀{P:List Str} {vs:List Value} {i:Nat} {m:Str->Option Value},P.Nodup->P[i]?=some x->vs[i]?=some v->kindOf x=some .local->
 bindL kindOf (P.zip vs) m x=some v
 |[],_,_,_,_,h,_,_=>by simp at h
 |_::_,[],_,_,_,_,h,_=>by simp at h
 |p::P,w::vs,0,m,nd,h1,h2,hk=>by
  simp at h1 h2;subst h1;subst h2
  show bindL kindOf ((p,w)::P.zip vs) m p=_
  unfold bindL
  rw[uo fun v hv=>(Pm.mp nd).1 (List.of_mem_zip hv).1,Bz hk]
  simp
 |p::P,w::vs,i+1,m,nd,h1,h2,hk=>by
  show bindL kindOf ((p,w)::P.zip vs) m x=_
  unfold bindL
  exact ur (i:=i) (Pm.mp nd).2 (by simpa using h1) (by simpa using h2) hk
theorem uu{kindOf:Str->Option NameKind}{x:Str}{v:Value}:∀{P:List Str} {vs:List Value} {i:Nat} {m:Str->Option Value},P.Nodup->P[i]?=some x->vs[i]?=some v->kindOf x≠some .local->
 bindC kindOf (P.zip vs) m x=some v
 |[],_,_,_,_,h,_,_=>by simp at h
 |_::_,[],_,_,_,_,h,_=>by simp at h
 |p::P,w::vs,0,m,nd,h1,h2,hk=>by
  simp at h1 h2;subst h1;subst h2
  show bindC kindOf ((p,w)::P.zip vs) m p=_
  unfold bindC
  rw[uq fun v hv=>(Pm.mp nd).1 (List.of_mem_zip hv).1,Bi hk]
  simp
 |p::P,w::vs,i+1,m,nd,h1,h2,hk=>by
  show bindC kindOf ((p,w)::P.zip vs) m x=_
  unfold bindC
  exact uu (i:=i) (Pm.mp nd).2 (by simpa using h1) (by simpa using h2) hk
noncomputable def start(N:List Str)(vs:List V):St:=vs.map some++List.replicate (N.length -vs.length) none
noncomputable def Eo(CX:En)(P:Program)(w:World)(K:PySem.W.Frag)(mg:Str->Option Value)(base:Heap)(N:List Str)(qual:Str)(scope:Scope)(f:Addr)(cd:Value)(A:Around)(outer:List Env)(s:Shared)(H:Hp)(E:XK):Cx where
 prog:=P
 w:=w
 K:=K
 mg:=mg
 base:=base
 A:=A.deeper (envOfC qual scope s.heap.objs.size f cd)
 N:=N
 s₀:=s
 H₀:=H
 env:=envOfC qual scope s.heap.objs.size f cd
 outer:=outer
 stack:=envOfC qual scope s.heap.objs.size f cd::outer
 ex:=[]
 calm:=true
 fn:=fun _=>true
 pn:=[]
 xe:=fun e s'=>wpAny (model P w) (A.deeper (envOfC qual scope s.heap.objs.size f cd)) (leaving (envOfC qual scope s.heap.objs.size f cd) e) (fun _ s''=>CX outer H s E e s'') (fun e' s''=>CX outer H s E e' s'') s'
theorem xU{sc:Scope}{n:Nat}{x:Str}(h:sc.names.lookup x=some .cell):∃c,(cellsFrom n sc.names []).lookup x=some c:=by
 have q:=PySem.W.cellsFrom_some sc.names n [] (.inl h)
 exact bj.mp q
theorem Ep{CX:En}{P:Program}{w:World}{K:PySem.W.Frag}{mg:Str->Option Value}{base:Heap}{N ps:List Str}{qual:Str}{scope:Scope}{f:Addr}{cd:Value}{A:Around}{outer:List Env}{s s1:Shared}{H:Hp}{E:XK}{us:List Value}{vs:List V}
 (S:ay N ps scope) (hd:A.handled=none) (e0:AD P w K mg base A outer s H) (hl:vs.length=ps.length) (r:Vals vs us)
 (x:InCallC s s.heap.objs.size (bindL (envOfC qual scope s.heap.objs.size f cd).kindOf (ps.zip us) fun _=>none) (cellsFrom (s.heap.objs.size+1) scope.names []) (bindC (envOfC qual scope s.heap.objs.size f cd).kindOf (ps.zip us) fun _=>none) s1):
 Inv (Eo CX P w K mg base N qual scope f cd A outer s H E) [] (start N vs) H s1:=by
 have hpl:ps.length<=N.length:=by have:=SZ List.length S.pre;rw[SC]at this;omega
 obtain⟨h1,tk,rfl,hk⟩:=x.done
 have Tz:∀b:Addr,b∉(Eo CX P w K mg base N qual scope f cd A outer s H E).ex:=fun b z=>absurd (show b∈([]:List Addr)from z) (by simp)
 refine⟨⟨e0.mod,S.kind,rfl,rfl,Do _,fun y z c h1 h2=>?_,fun y hy=>?_,fun y c _ h=>?_,fun _=>hd,Around.frames_deeper e0.frames,.inr ⟨rfl,rfl⟩,fun b z=>absurd z (Tz b),e0.bs,e0.JH,fun b _ _=>Tz b,fun b z=>absurd z (Tz b),e0.qg,e0.NI⟩,
  rfl,e0.bare,Un.kept hk,⟨_,x.toInCall.ns,fun i y v h1 h2 h3=>?_⟩,fun y c h=>⟨_,x.cell y c h⟩,e0.hok.fresh (Do _),fun y c h=>?_,fun p hp=>absurd (show p∈([]:List (Addr×Obj))from hp) (by simp),e0.hok.kept hk,?_⟩
 ·exact name_of_addr x.apart (Nw h1) (Nw h2)
 ·have hy:scope.names.lookup y=some .cell\/scope.names.lookup y=some .free:=hy
  rcases hy with hy|hy
  ·exact xU hy
  ·exact absurd rfl (S.Of _ (Nw hy))
 ·exact Yf (x.above y c (Nw h))
 ·have hi:i<vs.length:=by
   unfold start at h2
   by_cases hi:i<vs.length
   ·exact hi
   ·rw[HI (by simpa using hi)]at h2
    rw[List.getElem?_replicate]at h2
    split at h2<;>cases h2
  have ha:vs[i]?=some v:=by
   unfold start at h2
   rw[IH (by simpa using hi),FR]at h2
   cases e:vs[i]? with
   |none=>rw[e]at h2;cases h2
   |some a=>rw[e]at h2;cases h2;rfl
  obtain⟨u,hu,rv⟩:=r.get ha
  have hp:ps[i]?=some y:=by
   rw[←S.pre,List.getElem?_take_of_lt (by omega)];exact h1
  have YT:ps.Nodup:=by rw[←S.pre];exact S.nd.sublist (List.take_sublist _ _)
  refine⟨u,rv,?_⟩
  rcases S.par y (Oy hp)with k|k
  ·exact .inl ⟨k,ur YT hp hu k⟩
  ·obtain⟨c,e⟩:=xU (n:=s.heap.objs.size+1) k
   refine .inr ⟨.inl k,c,e,?_⟩
   have q:=x.cell y c e
   rw[uu YT hp hu (by show scope.names.lookup y≠_;rw[k];decide)]at q
   exact q
 ·exact e0.hok.fresh (Yf (x.above y c (Nw h)))
 ·unfold start
  show _=N.length
  rw[FC,Ap,List.length_replicate]
  omega
theorem TF{CX:En}{P:Program}{w:World}{K:PySem.W.Frag}{mg:Str->Option Value}{base:Heap}{k:Nat}{f:Addr}{name qual:Str}{params:Arguments}{body:List Stmt}{scope:Scope}{dV kV doc pm cdv ct oc:Value}{an od:Option Addr}
 {osl:Array (Option Value)} {N ps:List Str} {sp:Sp} (lk:K.lookup f=some ⟨oc,od,.func (PySem.W.fnOf name qual params body scope dV kV doc pm an cdv ct),osl⟩) (hcd:PySem.W.codeIn K cdv qual=true) (S:ay N ps scope)
 (len:∀vs H Q E,sp vs H Q E->vs.length=ps.length)
 (hbody:∀(A:Around) (outer:List Env) (s:Shared) (H:Hp) (vs:List V) (Q:VK) (E:XK),dU k (A.deeper (envOfC qual scope s.heap.objs.size f cdv))->sp vs H Q E->
   ∃t,Af (Eo CX P w K mg base N qual scope f cdv A outer s H E) body t/\t {nx:=fun _ H'=>Q .aX H',rt:=Q} (start N vs) H):
 aH P w K mg base CX (k+1) f (PySem.W.fnOf name qual params body scope dV kV doc pm an cdv ct) ps sp:=by
 refine⟨len,fun A outer s H args us vs Q E hr e0 hb r AF=>?_⟩
 have hl:=len _ _ _ _ AF
 have KX:K.In s.heap:=e0.mod.SM.keeps fun b o e=>(e0.bs b o e).1
 have lim:s.heap.NoLimit:=e0.mod.nolimit.keeps fun b o e=>(e0.bs b o e).1
 have hkind:∀y∈ps.zip us,scope.names.lookup y.1=some .local\/(scope.names.lookup y.1=some .cell/\((cellsFrom (s.heap.objs.size+1) scope.names []).lookup y.1).isSome=true):=fun⟨n,v⟩ hy=>by
  rcases S.par n (List.of_mem_zip hy).1 with q|q
  ·exact .inl q
  ·exact .inr ⟨q,PySem.W.cellsFrom_some _ _ _ (.inl q)⟩
 refine codeAny_call_function hr.depth (KX _ _ lk) rfl S.co S.gen rfl (PySem.W.codeRec_of KX hcd) (hb _ _ _ _ ?_)
 refine wpAny_newFunctionEnv_cells S.kind hkind fun env he s1 x=>?_
 subst he
 refine⟨lim.keeps x.toInCall.keep,codeAny_func ?_⟩
 obtain⟨t,ht,hq⟩:=hbody A outer s H vs Q E (hr.deeper _) AF
 have I:Inv (Eo CX P w K mg base N qual scope f cdv A outer s H E) [] (start N vs) H s1:=Ep S hr.hd e0 hl r x
 refine wpAny_mono (ht [] s1 (start N vs) H _ I hq) (fun fl s' hs=>?_) fun e s' hs=>hs
 have fin:∀{σ':St} {H':Hp} {v:V} {u:Value},Inv (Eo CX P w K mg base N qual scope f cdv A outer s H E) [] σ' H' s'->RelV v u->Q v H'->CE outer P w H s Q u s':=
  fun{σ' H' v u} J rv q=>⟨v,H',J.os,J.bare,J.base,J.hok,rv,q⟩
 cases fl with
 |ret u=>
  obtain⟨v,σ',H',J,rv,q⟩:=hs
  exact fin J rv q
 |next=>
  obtain⟨σ',H',J,q⟩:=hs
  exact fin (v:=V.aX) (u:=Value.none) J rfl q
 |brk=>
  obtain⟨_,_,_,q⟩:=hs
  exact False.elim q
 |cont=>
  obtain⟨_,_,_,q⟩:=hs
  exact False.elim q
section
variable{X:Cx}{x:Str}{p pos:Pos}{e:Expr}{es:List Expr}{t:TA}{id T:String}{r:List V->Hp->VK->Prop}
noncomputable def YU(r:List V->Hp->VK->Prop)(t:TA):TE:=fun σ H Q=>t σ H fun vs H1=>r vs H1 Q
theorem xV(hc:gj X (.builtin id) r)(hg:Gl X x)(hm:X.mg x=none)(hv:bootBuiltins x=some (.builtin id))(ha:PA X (e::es) t)(hn:x≠"__name__":=by decide)(hdb:(x==("__debug__":Str))=false:=by decide)
 (he:starEach (e::es) X.env=(false,eval e X.env)::starEach es X.env:=by rfl) (hpl:(backTo pos (starEach es X.env)).any (·.1)=false:=by rfl):PE X (.Call (.Name x p) (e::es) [] pos) (YU r t):=by
 intro pins s σ H Q I h
 refine wpAny_Call_Name_kw (lX I hg hm hv ?_ hn hdb)
 exact PyProof.Rows.callWith_builtin1 (bT (ha pos pins s σ H _ I h) fun us s1 ⟨vs,H1,I1,r1,q1⟩=>hc pins s1 σ H1 vs us Q I1 r1 q1) he hpl
theorem Er(hc:gj X (.type T) r)(hg:Gl X x)(hm:X.mg x=none)(hv:bootBuiltins x=some (.type T))(ha:PA X (e::es) t)(hn:x≠"__name__":=by decide)(hdb:(x==("__debug__":Str))=false:=by decide)
 (he:starEach (e::es) X.env=(false,eval e X.env)::starEach es X.env:=by rfl) (hpl:(backTo pos (starEach es X.env)).any (·.1)=false:=by rfl):PE X (.Call (.Name x p) (e::es) [] pos) (YU r t):=by
 intro pins s σ H Q I h
 refine wpAny_Call_Name_kw (lX I hg hm hv ?_ hn hdb)
 exact SL (bT (ha pos pins s σ H _ I h) fun us s1 ⟨vs,H1,I1,r1,q1⟩=>hc pins s1 σ H1 vs us Q I1 r1 q1) he hpl
end
end L2
namespace HT
open PySem PyProof.Rows
section
open PySem.SeqAt
open PySem.AutoSeq1 (wpAny_loadPart')
open PySem.MeetsSeq PySem.MeetsSeq2 PySem.MeetsSeq3
end
section
variable{prog:Program}{w:World}{A:Around}{E:Value->Shared->Prop}{s:Shared}
theorem JW{t b:Addr}{vs ws:List Value}{Q:Value->Shared->Prop}(ht:IsTup s.heap t vs.toArray)(hb:IsTup s.heap b ws.toArray)(hv:vs≠[])
 (h1:ws=[]->Q (.ref t) s) (h2:ws≠[]->Q (.ref s.heap.objs.size) {s with heap:=s.heap.push {cls:=.type "tuple",data:=.seq (vs++ws).toArray}})
 (hsz:vs.length+ws.length<=sizeLine):wpAny (model prog w) A (binaryOp .Add (.ref t) (.ref b)) Q E s:=by
 obtain⟨⟨cls,dd,data,sl⟩,ho,hc,n,hd⟩:=id ht
 obtain⟨⟨aac,dd2,data2,sl2⟩,ho2,hc2,n2,hd2⟩:=id hb
 simp only at hc hd hc2 hd2
 subst hc hd hc2 hd2
 have e:vs.toArray++ws.toArray=(vs++ws).toArray:=by simp
 by_cases hw:ws=[]
 ·exact concat_meets ⟨_,ho,rfl⟩ ⟨_,ho2,rfl⟩ noFill_tuple_add seq_tuple_add PySem.F.slot_tuple_add PySem.F.entry_tuple_add (PySem.F.args_tuple_add_2 _ _)
   (tuple_addW1 t b vs.toArray ws.toArray n n2 dd dd2 sl sl2 (by simpa using hv) (by simp[hw])) ⟨ho,ho2,h1 hw⟩
 ·refine concat_meets ⟨_,ho,rfl⟩ ⟨_,ho2,rfl⟩ noFill_tuple_add seq_tuple_add PySem.F.slot_tuple_add PySem.F.entry_tuple_add (PySem.F.args_tuple_add_2 _ _)
   (tuple_addW2 t b vs.toArray ws.toArray n n2 dd dd2 sl sl2 (by simpa using hv) (by simpa using hw) (by rw[Fu,Fu];exact hsz)) ⟨ho,ho2,?_⟩
  rw[e]
  exact h2 hw
noncomputable def tO(n d:Nat):Option Int->Nat
 |none=>d
 |some v=>if v<0 then(v+(n:Int)).toNat else min v.toNat n
theorem xW(n d:Nat):tO n d none=d:=rfl
theorem JX(n d k:Nat):tO n d (some (k:Int))=min k n:=by
 show(if(k:Int)<0 then((k:Int)+(n:Int)).toNat else min (k:Int).toNat n)=min k n
 rw[Bi (by omega),Int.toNat_natCast]
end
end HT
namespace L2
open PySem PySem.Spec PyProof.Rows
abbrev TO:=St->Hp->(Option Int->Hp->Prop)->Prop
noncomputable def PO(X:Cx)(e:Option Expr)(t:TO):Prop:=
 ∀(pins:List (Addr×Obj)) (s:Shared) (σ:St) (H:Hp) (Q:Option Int->Hp->Prop),Inv X pins σ H s->t σ H Q->
  wpAny (model X.prog X.w) X.A (evalPart e X.env) (fun u s'=>∃o H',Inv X pins σ H' s'/\IsPart u o/\Q o H') X.xe s
noncomputable def JY:TO:=fun _ H Q=>Q none H
noncomputable def TH(t:TE):TO:=fun σ H Q=>t σ H fun x H1=>∃i,x=.int i/\Q (some i) H1
theorem intsAre_of{ns:List Int}:∀{us:List Value},Vals (ns.map V.int) us->IntsAre us ns:=by
 induction ns with
 |nil=>intro us r;rw[List.map_nil]at r;cases r;exact .nil
 |cons n ns ih=>
  intro us r
  rw[On]at r
  cases r with
  |cons r1 r2=>
   obtain⟨t,e⟩:=r1
   subst e
   exact .cons n t (ih r2)
section
variable{X:Cx}{e:Expr}{te:TE}{lo hi:Option Expr}{tl th:TO}{pos p2:Pos}
theorem JZ:PO X none JY:=by
 intro pins s σ H Q I h
 rw[evalPart_none]
 exact PH ⟨none,H,I,.none,h⟩
theorem J0(h:PE X e te):PO X (some e) (TH te):=by
 intro pins s σ H Q I hw
 rw[evalPart_some]
 refine bT (h pins s σ H _ I hw) fun u s1 ⟨x,H1,I1,r1,q1⟩=>?_
 obtain⟨i,rfl,q⟩:=q1
 obtain⟨t,rfl⟩:=r1
 exact⟨some i,H1,I1,.int i t,q⟩
noncomputable def YV(X:Cx)(r:V->Option Int->Option Int->Hp->VK->Prop):Prop:=
 ∀(pins:List (Addr×Obj)) (s:Shared) (σ:St) (H:Hp) (x:V) (v vl vu:Value) (lo hi:Option Int) (sl:Addr) (Q:VK),Inv X pins σ H s->RelV x v->s.heap.IsSliceOf sl vl vu .none->IsPart vl lo->IsPart vu hi->r x lo hi H Q->
  ∃T id,typeLookup (.type T) "__getitem__"=pure (some (.builtin id))/\s.TypeIs v T/\wpAny (model X.prog X.w) X.A (getItem v (.ref sl)) (EP X pins σ Q) X.xe s
noncomputable def tSl(r:V->Option Int->Option Int->Hp->VK->Prop)(te:TE)(tl th:TO):TE:=fun σ H Q=>te σ H fun x H1=>tl σ H1 fun l H2=>th σ H2 fun u H3=>r x l u H3 Q
theorem Gf{r:V->Option Int->Option Int->Hp->VK->Prop}(hr:YV X r)(he:PE X e te)(hl:PO X lo tl)(hu:PO X hi th):PE X (.Subscript e (.Slice lo hi none p2) pos) (tSl r te tl th):=by
 intro pins s σ H Q I h
 refine Subscript_ (bT (he pins s σ H _ I h) fun v s1 ⟨x,H1,I1,r1,q1⟩=>?_)
 refine wpAny_Slice (bT (hl pins s1 σ H1 _ I1 q1) fun vl s2 ⟨l,H2,I2,pl,q2⟩=>bT (hu pins s2 σ H2 _ I2 q2) fun vu s3 ⟨u,H3,I3,pu,q3⟩=>?_)
 rw[evalPart_none]
 refine PH ?_
 have I4:Inv X pins σ H3 {s3 with heap:=s3.heap.push {cls:=.type "slice",data:=.fields #[vl,vu,.none]}}:=I3.kept (t':=s3.toks) fun b ob q=>FM _ q
 obtain⟨T,id,hT,ht,hg⟩:=hr pins {s3 with heap:=s3.heap.push {cls:=.type "slice",data:=.fields #[vl,vu,.none]}} σ H3 x v vl vu l u s3.heap.objs.size Q I4 r1 (Heap.IsSliceOf.new ..) pl pu q3
 show wpAny (model X.prog X.w) X.A (subscriptTail e (.Slice lo hi none p2) v (.ref s3.heap.objs.size)) (EP X pins σ Q) X.xe {s3 with heap:=s3.heap.push {cls:=.type "slice",data:=.fields #[vl,vu,.none]}}
 exact tail_any (ops:=[.ref s3.heap.objs.size,v]) ht hT hg (by with_unfolding_all rfl)
noncomputable def Es(xs:List V)(lo hi:Option Int):List V:=(xs.drop (HT.tO xs.length 0 lo)).take (HT.tO xs.length xs.length hi -HT.tO xs.length 0 lo)
theorem xX(xs:List V)(lo hi:Option Int):(Es xs lo hi).length<=xs.length:=by
 unfold Es
 rw[SC,List.length_drop]
 omega
noncomputable def TJ(K:PySem.W.Frag):R2:=fun x y H Q=>∃a b xs ys,x=.ref a/\y=.ref b/\lY K H a xs/\lY K H b ys/\xs≠[]/\xs.length+ys.length<=sizeLine/\
 (ys=[]->Q (.ref a) H)/\(ys≠[]->∀p,H p=none->Q (.ref p) (upd H p (.tup (xs++ys))))
theorem Vals.vf{xs:List V}{us:List Value}(r:Vals xs us):us=[]↔xs=[]:=by
 cases r with
 |nil=>simp
 |cons _ _=>simp
theorem J1:oE X (binaryOp .Add) (TJ X.K):=by
 intro pins s σ H x y v u Q I rx ry h
 obtain⟨a,b,xs,ys,rfl,rfl,ha,hb,hx,hz,q1,q2⟩:=h
 cases rx
 cases ry
 obtain⟨its,r1,p1,_⟩:=I.tuple ha
 obtain⟨its2,r2,p2,_⟩:=I.tuple hb
 refine HT.JW p1 p2 (fun z=>hx (r1.vf.mp z)) (fun z=>⟨.ref a,H,I,rfl,q1 (r2.vf.mp z)⟩) (fun z=>?_) (by rw[←r1.length,←r2.length];exact hz)
 refine⟨.ref s.heap.objs.size,_,I.laid (t':=s.toks) (o:=.tup (xs++ys)) (fun b ob q=>FM _ q) (Do _) ?_,rfl,q2 (fun w=>z (r2.vf.mpr w)) _ (I.hok.fresh (Do _))⟩
 exact⟨by rw[FC];exact hz,_,r1.append r2,IsTup.new _ _⟩
end
noncomputable def Ag(n:Nat)(i:Int):Option Nat:=if 0<=i then(if i<n then some i.toNat else none)else if-(n:Int)<=i then some (i+n).toNat else none
noncomputable def oG{α:Type}(xs:List α)(i:Int):Option α:=(Ag xs.length i).bind fun j=>xs[j]?
theorem Cf{n:Nat}{i:Int}{j:Nat}(h:Ag n i=some j):seqIndex? i n=some j/\j<n/\-(n:Int)<=i/\i<n:=by
 unfold Ag at h
 by_cases h0:0<=i
 ·rw[Bz h0]at h
  by_cases h1:i<n
  ·rw[Bz h1]at h
   have e:i.toNat=j:=KE h
   exact⟨by rw[seqIndex_of h0 h1,e],by omega,by omega,h1⟩
  ·rw[Bi h1]at h;cases h
 ·rw[Bi h0]at h
  by_cases h1: -(n:Int)<=i
  ·rw[Bz h1]at h
   have e:(i+n).toNat=j:=KE h
   exact⟨by rw[seqIndex_neg (by omega) h1,e],by omega,h1,by omega⟩
  ·rw[Bi h1]at h;cases h
theorem vg{α:Type}{xs:List α}{i:Int}{v:α}(h:oG xs i=some v):∃j,seqIndex? i xs.length=some j/\xs[j]?=some v/\j<xs.length/\-(xs.length:Int)<=i/\i<xs.length:=by
 unfold oG at h
 cases e:Ag xs.length i with
 |none=>rw[e]at h;cases h
 |some j=>
  rw[e]at h
  obtain⟨h1,h2,h3,h4⟩:=Cf e
  exact⟨j,h1,h,h2,h3,h4⟩
theorem cM{α:Type}{xs:List α}{j:Nat}{v:α}(h:xs[j]?=some v):oG xs (j:Int)=some v:=by
 have hj:j<xs.length:=(GM.mp h).1
 have e:Ag xs.length (j:Int)=some j:=by
  unfold Ag
  rw[Bz (by omega),Bz (by omega)];simp
 unfold oG;rw[e];exact h
noncomputable def mY(b:Expr):Prop:=∀o i,subscripted b false o i=operate [o,i] (getItem o i)
noncomputable def J2(X:Cx)(r:R2):Prop:=
 ∀(value slice:Expr) (pins:List (Addr×Obj)) (s:Shared) (σ:St) (H:Hp) (x y:V) (v u:Value) (Q:VK),Inv X pins σ H s->RelV x v->RelV y u->r x y H Q->
  subscripted slice false v u=operate [v,u] (getItem v u)->wpAny (model X.prog X.w) X.A (subscriptTail value slice v u) (EP X pins σ Q) X.xe s
noncomputable def WC(X:Cx)(id:String)(r:V->List V->Hp->VK->Prop):Prop:=
 ∀(pins:List (Addr×Obj)) (s:Shared) (σ:St) (H:Hp) (x:V) (xs:List V) (v:Value) (us:List Value) (Q:VK),Inv X pins σ H s->RelV x v->Vals xs us->r x xs H Q->
  wpAny (model X.prog X.w) X.A (call (.builtin id) (v::us)) (EP X pins σ Q) X.xe s
section
variable{X:Cx}{a b:Expr}{ta tb:TE}{pos:Pos}
theorem J2.or{r r':R2}(h:J2 X r)(h':J2 X r'):J2 X (fun x y H Q=>r x y H Q\/r' x y H Q):=by
 intro value slice pins s σ H x y v u Q I rx ry q hs
 rcases q with q|q
 ·exact h value slice pins s σ H x y v u Q I rx ry q hs
 ·exact h' value slice pins s σ H x y v u Q I rx ry q hs
theorem Gg{r:R2}(hr:J2 X r)(ha:PE X a ta)(hb:PE X b tb)(hs:mY b):PE X (.Subscript a b pos) (Z4 r ta tb):=by
 intro pins s σ H Q I h
 exact Subscript_ (Wy ha hb I h fun v u s2 x y H2 I2 rx ry q=>hr a b pins s2 σ H2 x y v u Q I2 rx ry q (hs _ _))
noncomputable def TL(K:PySem.W.Frag):R2:=fun x y H Q=>∃p xs i v,x=.ref p/\y=.int i/\kR K H p xs/\oG xs i=some v/\Q v H
noncomputable def TM(K:PySem.W.Frag):R2:=fun x y H Q=>∃p xs i v,x=.ref p/\y=.int i/\lY K H p xs/\oG xs i=some v/\Q v H
noncomputable def TN:R2:=fun x y H Q=>∃z i c,x=.str z/\y=.int i/\z.length<=sizeLine/\oG z.cps.toList i=some c/\Q (.str ⟨#[c]⟩) H
theorem J3:J2 X (TL X.K):=by
 intro value slice pins s σ H x y v u Q I rx ry h hs
 obtain⟨p,xs,i,z,rfl,rfl,hq,he,q⟩:=h
 cases rx
 obtain⟨t,rfl⟩:=ry
 obtain⟨its,r,pl,hz⟩:=I.list hq
 obtain⟨j,h1,h2,h3,h4,h5⟩:=vg he
 obtain⟨w,ew,rw'⟩:=r.get h2
 have hl:=r.length
 have hn:=qS
 have fin:EP X pins σ Q w s:=⟨z,H,I,rw',q⟩
 by_cases h0:0<=i
 ·have hj:i.toNat=j:=by
   rw[seqIndex_of h0 h5]at h1
   exact KE h1
  exact item_listR pl.isList h0 (by omega) (by rw[hj];simpa using ew) fin hs
 ·have hj:(i+(its.toArray.size:Int)).toNat=j:=by
   rw[seqIndex_neg (by omega) h4]at h1
   rw[Fu,←hl]
   exact KE h1
  exact subscriptTail_builtinR (x:=w) pl.isList.typeIs slot_list_getitem.lookup
   (wpAny_getItem_list_neg (Q:=fun r s'=>r=w/\EP X pins σ Q r s') pl.isList (by omega) (by rw[Fu]<;>omega) (by omega) (by rw[hj];simpa using ew) ⟨rfl,fin⟩) hs
theorem Og:J2 X (TM X.K):=by
 intro value slice pins s σ H x y v u Q I rx ry h hs
 obtain⟨p,xs,i,z,rfl,rfl,hq,he,q⟩:=h
 cases rx
 obtain⟨t,rfl⟩:=ry
 obtain⟨its,r,pl,hz⟩:=I.tuple hq
 obtain⟨j,h1,h2,h3,h4,h5⟩:=vg he
 obtain⟨w,ew,rw'⟩:=r.get h2
 have hl:=r.length
 have hn:=qS
 have fin:EP X pins σ Q w s:=⟨z,H,I,rw',q⟩
 exact subscriptTail_builtinR (x:=w) pl.typeIs slot_tuple_getitem.lookup
  (getItem_tuple (j:=j) (Q:=fun r s'=>r=w/\EP X pins σ Q r s') pl (by omega) (by omega) (by rw[Fu,←hl];exact h1) (by simpa using ew) ⟨rfl,fin⟩) hs
theorem Oh:J2 X TN:=by
 intro value slice pins s σ H x y v u Q I rx ry h hs
 obtain⟨z,i,c,rfl,rfl,hz,he,q⟩:=h
 obtain⟨t,rfl⟩:=rx
 obtain⟨t',rfl⟩:=ry
 obtain⟨j,h1,h2,h3,h4,h5⟩:=vg he
 have hl:z.cps.toList.length=z.length:=by simp[Str.length]
 rw[hl]at h1 h4 h5
 have hn:=qS
 exact tail_any (typeIs_str s z t) slot_str_getitem.lookup (getItem_str (c:=c) (by
  have e1:decide (i< -(2^63:Int))=false:=P3 (by omega)
  have e2:decide (i>=2^63)=false:=P3 (by omega)
  rw[e1,e2,TK]) (by rw[h1];simpa using h2) ⟨.str ⟨#[c]⟩,H,I.tok _,⟨_,rfl⟩,q⟩) hs
noncomputable def rIx(K:PySem.W.Frag):R2:=fun x y H Q=>TL K x y H Q\/TM K x y H Q\/TN x y H Q
theorem AG:J2 X (rIx X.K):=J3.or (Og.or Oh)
theorem AH(its:List Value)(n j:Nat)(u:Value):Obj.mapSeq (·.setIfInBounds j u) {cls:=.type "list",data:=.seq its.toArray n}={cls:=.type "list",data:=.seq (its.set j u).toArray n}:=by
 simp[Obj.mapSeq]
theorem Inv.lst{pins:List (Addr×Obj)}{σ:St}{H:Hp}{s:Shared}{p:Addr}{xs:List V}(I:Inv X pins σ H s)(h:H p=some (.lst xs)):
 ∃(its:List Value) (n:Nat),Vals xs its/\s.heap.get? p=some {cls:=.type "list",data:=.seq its.toArray n}/\xs.length<=sizeLine:=by
 obtain⟨z,its,n,r,e⟩:=I.hok p _ h
 exact⟨its,n,r,e,z⟩
theorem Inv.Oi{pins:List (Addr×Obj)}{σ:St}{H:Hp}{s:Shared}{p:Addr}{xs ys:List V}{its its':List Value}{n n':Nat}{f:Obj->Obj}(I:Inv X pins σ H s)(h:H p=some (.lst xs))
 (ho:s.heap.get? p=some {cls:=.type "list",data:=.seq its.toArray n}) (hf:f {cls:=.type "list",data:=.seq its.toArray n}={cls:=.type "list",data:=.seq its'.toArray n'}) (r:Vals ys its') (hz:ys.length<=sizeLine) (t:Nat):
 Inv X pins σ (upd H p (.lst ys)) {s with heap:=s.heap.update p f,toks:=t}:=by
 have e:(s.heap.update p f).get? p=some {cls:=.type "list",data:=.seq its'.toArray n'}:=by
  rw[Heap.get?_update_self f ho (by rw[hf]<;>rfl),hf]
 refine I.write (x:=p) (e:=p) (by rw[h];trivial) (.inl rfl) (fun b u hb q=>(Heap.get?_update_other _ _ (Q1 hb)).trans q) ⟨_,e⟩ ?_
 exact⟨hz,its',n',r,e⟩
noncomputable def MJ:V->V->V->Hp->(Hp->Prop)->Prop:=fun o i v H Q=>∃p xs k j,o=.ref p/\i=.int k/\H p=some (.lst xs)/\Ag xs.length k=some j/\Q (upd H p (.lst (xs.set j v)))
theorem set_list:S9 X MJ:=by
 intro pins s σ H o i v ov iv u Q I ro ri rv h
 obtain⟨p,xs,k,j,rfl,rfl,hp,hj,q⟩:=h
 cases ro
 obtain⟨t,rfl⟩:=ri
 obtain⟨its,n,r,ho,hz⟩:=I.lst hp
 obtain⟨h1,h2,h3,h4⟩:=Cf hj
 have hl:=r.length
 have hn:=qS
 have I':Inv X pins σ (upd H p (.lst (xs.set j v))) {s with heap:=s.heap.update p (Obj.mapSeq (·.setIfInBounds j u))}:=
  I.Oi hp ho (AH its n j u) (r.set rv j) (by rw[OK];exact hz) s.toks
 by_cases h0:0<=k
 ·have hk:k.toNat=j:=by
   rw[seqIndex_of h0 h4]at h1
   exact KE h1
  exact PySem.W.ki_setAt ho h0 (by omega) (by rw[Fu,←hl];exact h4) (by rw[hk];exact⟨_,I',q⟩)
 ·have hk:(k+(its.toArray.size:Int)).toNat=j:=by
   rw[seqIndex_neg (by omega) h3]at h1
   rw[Fu,←hl]
   exact KE h1
  exact PySem.W.ki_setBack ho (by omega) (by rw[Fu,←hl];exact h3) (by omega) (by rw[hk];exact⟨_,I',q⟩)
theorem vh(lo hi:Option Int)(n:Nat):(sliceBounds lo hi none n).1=((HT.tO n 0 lo:Nat):Int)/\(sliceBounds lo hi none n).2.1=((HT.tO n n hi:Nat):Int)/\(sliceBounds lo hi none n).2.2=1:=by
 refine⟨?_,?_,rfl⟩
 ·cases lo with
  |none=>simp[sliceBounds,HT.tO]
  |some i=>
   simp only[sliceBounds,HT.tO,Option.getD_none,show(1:Int)>0 by decide,if_true]
   by_cases h:i<0
   ·simp only[h,if_true]<;>omega
   ·simp only[h,if_false]<;>omega
 ·cases hi with
  |none=>simp[sliceBounds,HT.tO]
  |some i=>
   simp only[sliceBounds,HT.tO,Option.getD_none,show(1:Int)>0 by decide,if_true]
   by_cases h:i<0
   ·simp only[h,if_true]<;>omega
   ·simp only[h,if_false]<;>omega
theorem tQ(its:List Value)(lo hi:Option Int):slicePick its.toArray lo hi none=((its.drop (HT.tO its.length 0 lo)).take (HT.tO its.length its.length hi -HT.tO its.length 0 lo)).toArray:=by
 obtain⟨h1,h2,h3⟩:=vh lo hi its.toArray.size
 unfold slicePick
 rw[h1,h2,h3]
 simp only[sliceRange_one,pick_run,Fu]<;>rfl
noncomputable def WD(K:PySem.W.Frag):V->Option Int->Option Int->Hp->VK->Prop:=fun x lo hi H Q=>∃a xs,x=.ref a/\kR K H a xs/\∀p,H p=none->Q (.ref p) (upd H p (.lst (Es xs lo hi)))
theorem J5:YV X (WD X.K):=by
 intro pins s σ H x v vl vu lo hi sl Q I rx hs pl pu h
 obtain⟨a,xs,rfl,hx,q⟩:=h
 cases rx
 obtain⟨its,r,ht,hz⟩:=I.list hx
 have hlen:=r.length
 refine⟨"list",_,slot_list_getitem.lookup,ht.isList.typeIs,?_⟩
 refine wpAny_getItem_list_slice ht.isList hs pl pu .none (by simp) ?_ (by rw[Fu]<;>omega)
 rw[tQ,←hlen]
 refine⟨.ref s.heap.objs.size,_,I.laid (t':=s.toks) (o:=.lst (Es xs lo hi)) (fun b ob q=>FM _ q) (Do _) ?_,rfl,q _ (I.hok.fresh (Do _))⟩
 exact⟨Dx (xX xs lo hi) hz,_,0,(r.drop (HT.tO xs.length 0 lo)).take (HT.tO xs.length xs.length hi -HT.tO xs.length 0 lo),N0 _ rfl⟩
theorem jg:gj X (.builtin "len") (fun xs H Q=>∃p ys,xs=[.ref p]/\(kR X.K H p ys\/lY X.K H p ys)/\Q (.int ys.length) H):=by
 intro pins s σ H xs us Q I r h
 obtain⟨p,ys,rfl,hq,q⟩:=h
 obtain⟨u,rfl,rx⟩:=vals1 r
 cases rx
 have hn:=qS
 rcases hq with hq|hq
 ·obtain⟨its,r',pl,hz⟩:=I.list hq
  have hlen:=r'.length
  exact Calls.call_len_list pl.isList (by simp only[Fu]<;>omega) ⟨.int ys.length,H,I.tok _,⟨s.toks+1,by rw[Fu,hlen]⟩,q⟩
 ·obtain⟨its,r',pl,hz⟩:=I.tuple hq
  have hlen:=r'.length
  exact len_tuple pl (by simp only[Fu]<;>omega) ⟨.int ys.length,H,I.tok _,⟨s.toks+1,by rw[Fu,hlen]⟩,q⟩
theorem mZ:gj X (.type "list") (fun xs H Q=>∃p ys,xs=[.ref p]/\(kR X.K H p ys\/lY X.K H p ys)/\∀l,H l=none->Q (.ref l) (upd H l (.lst ys))):=by
 intro pins s σ H xs us Q I r h
 obtain⟨p,ys,rfl,hq,q⟩:=h
 obtain⟨u,rfl,rx⟩:=vals1 r
 cases rx
 have fin:∀(its:List Value),Vals ys its->ys.length<=sizeLine->∀(h':Heap) (c':Nat),(∀b o',s.heap.get? b=some o'->h'.get? b=some o')->
  h'.get? s.heap.objs.size=some {cls:=.type "list",dict:=none,data:=.seq its.toArray c',slots:= #[]}->EP X pins σ Q (.ref s.heap.objs.size) {s with heap:=h'}:=fun its r' hz h' c' kp e=>
  ⟨.ref s.heap.objs.size,_,I.laid (t':=s.toks) kp (Do _) (show dQ X.prog X.w _ h' _ (.lst ys)from⟨hz,its,c',r',e⟩),rfl,q _ (I.hok.fresh (Do _))⟩
 rcases hq with hq|hq
 ·obtain⟨its,r',pl,hz⟩:=I.list hq
  have hlen:=r'.length
  obtain⟨o,ho,hc,n,hd⟩:=pl.isList
  exact call_list_seq p (.inl rfl) ho hc hd (fun h' c' kp e=>fin its r' hz h' c' kp e) (by simp only[Fu]<;>omega)
 ·obtain⟨its,r',pl,hz⟩:=I.tuple hq
  have hlen:=r'.length
  obtain⟨o,ho,hc,n,hd⟩:=pl
  exact call_list_seq p (.inr rfl) ho hc hd (fun h' c' kp e=>fin its r' hz h' c' kp e) (by simp only[Fu]<;>omega)
theorem kW:gj X (.type "tuple") (fun xs H Q=>∃p ys,xs=[.ref p]/\((kR X.K H p ys/\∀l,H l=none->Q (.ref l) (upd H l (.tup ys)))\/(lY X.K H p ys/\Q (.ref p) H))):=by
 intro pins s σ H xs us Q I r h
 obtain⟨p,ys,rfl,h⟩:=h
 obtain⟨u,rfl,rx⟩:=vals1 r
 cases rx
 rcases h with⟨hq,q⟩|⟨hq,q⟩
 ·obtain⟨its,r',pl,hz⟩:=I.list hq
  have hlen:=r'.length
  refine call_tuple_list pl.isList (fun h' kp=>?_) (by simp only[Fu]<;>omega)
  have I1:Inv X pins σ H {s with heap:=h'}:=I.kept (t':=s.toks) kp
  have I2:Inv X pins σ (upd H h'.objs.size (.tup ys)) {s with heap:=h'.push {cls:=.type "tuple",data:=.seq its.toArray}}:=
   I1.laid (t':=s.toks) (fun b o e=>FM _ e) (Do _) (show dQ X.prog X.w _ _ _ (.tup ys)from⟨hz,its,r',IsTup.new _ _⟩)
  exact⟨.ref h'.objs.size,_,I2,rfl,q _ (I1.hok.fresh (Do _))⟩
 ·obtain⟨its,r',pl,hz⟩:=I.tuple hq
  exact call_tuple_same pl ⟨.ref p,H,I,rfl,q⟩
noncomputable def WE(K:PySem.W.Frag)(T:String)(x:V)(H:Hp):Prop:=match x with
 |.str _=>T="str"
 |.int _=>T="int"
 |.ref p=>(T="list"/\∃xs,kR K H p xs)\/(T="tuple"/\∃o,K.lookup p=some o/\o.cls=.type "tuple"/\o.dict=none)\/
   (T="dict"/\((∃kvs,H p=some (.dK kvs))\/∃kvs,H p=some (.dT kvs)))\/(T="set"/\∃S n,H p=some (.set S n))
 |_=>False
theorem Gh{pins:List (Addr×Obj)}{σ:St}{H:Hp}{s:Shared}{T:String}{x:V}{v:Value}(I:Inv X pins σ H s)(r:RelV x v)(ty:WE X.K T x H):
 s.TypeIs v T/\∀a,v=.ref a->∃ob,s.heap.get? a=some ob/\ob.dict=none:=by
 cases x with
 |str z=>
  obtain⟨t,rfl⟩:=r
  cases(show T="str"from ty)
  exact⟨typeIs_str s z t,fun _ e=>nomatch e⟩
 |int i=>
  obtain⟨t,rfl⟩:=r
  cases(show T="int"from ty)
  exact⟨typeIs_int s i t,fun _ e=>nomatch e⟩
 |ref p=>
  cases r
  rcases ty with⟨rfl,xs,hq⟩|⟨rfl,o,hk,hc,hd⟩|⟨rfl,hk⟩|⟨rfl,S,n,hk⟩
  ·obtain⟨its,_,pl,_⟩:=I.list hq
   refine⟨pl.isList.typeIs,fun a e=>?_⟩
   cases e
   obtain⟨o,n,e,c,hd,_⟩:=pl
   exact⟨o,e,hd⟩
  ·refine⟨⟨o,I.B7 p o hk,hc⟩,fun a e=>?_⟩
   cases e
   exact⟨o,I.B7 _ o hk,hd⟩
  ·have z:∃o,s.heap.get? p=some o/\o.ExactDict:=by
    rcases hk with⟨kvs,hk⟩|⟨kvs,hk⟩
    ·obtain⟨_,_,_,_,o,_,_,e,ex,_⟩:=I.hok p _ hk
     exact⟨o,e,ex⟩
    ·obtain⟨_,_,_,_,o,_,_,e,ex,_⟩:=I.hok p _ hk
     exact⟨o,e,ex⟩
   obtain⟨o,e,ex⟩:=z
   refine⟨⟨o,e,ex.1⟩,fun a e2=>?_⟩
   cases e2
   exact⟨o,e,ex.2.1⟩
  ·obtain⟨o,_,_,_,e,ex,_⟩:=I.hok p _ hk
   refine⟨⟨o,e,ex.1⟩,fun a e2=>?_⟩
   cases e2
   exact⟨o,e,ex.2.1⟩
 |_=>exact False.elim ty
noncomputable def WG(K:PySem.W.Frag)(T:String)(r:V->List V->Hp->VK->Prop)(to:TE):TE:=fun σ H Q=>to σ H fun x H1=>WE K T x H1/\r x [] H1 Q
noncomputable def YW(K:PySem.W.Frag)(T:String)(r:V->List V->Hp->VK->Prop)(to:TE)(t:TA):TE:=fun σ H Q=>to σ H fun x H1=>WE K T x H1/\t σ H1 fun xs H2=>r x xs H2 Q
variable{o e:Expr}{es:List Expr}{to:TE}{t:TA}{name:Str}{apos cpos:Pos}{T id:String}{r:V->List V->Hp->VK->Prop}
theorem Gi(pa:PlainAttrs T)(slot:Slot T name id)(hty:typeOf (.builtin id)=pure (.type "method_descriptor"))(hm:WC X id r)(ho:PE X o to)
 (hbase:attributeBase o name X.env (eval o X.env)=eval o X.env:=by rfl) (hline:(apos.endLine==cpos.line)=true:=by rfl):PE X (.Call (.Attribute o name apos) [] [] cpos) (WG X.K T r to):=by
 intro pins s σ H Q I h
 refine wpAny_Call_method0_late hbase hline (bT (ho pins s σ H _ I h) fun v s1 ⟨x,H1,I1,r1,ty,q1⟩=>?_)
 obtain⟨h1,h2⟩:=Gh I1 r1 ty
 exact⟨T,id,pa,slot,hty,h1,h2,Calls.callWith_builtin rfl (PySem.evalArgs_none (hm pins s1 σ H1 x [] v [] Q I1 r1 .nil q1))⟩
theorem TQ(pa:PlainAttrs T)(slot:Slot T name id)(hty:typeOf (.builtin id)=pure (.type "method_descriptor"))(hm:WC X id r)(ho:PE X o to)(ha:PA X (e::es) t)
 (hbase:attributeBase o name X.env (eval o X.env)=eval o X.env:=by rfl)
 (hfew:((backTo cpos (starEach (e::es) X.env)).all (fun x=>!x.1)&&(backToKw cpos (keywordEach [] X.env)).all (fun x=>x.1.isSome)
   &&decide ((e::es).length+([]:List Keyword).length+(if([]:List Keyword).isEmpty then 0 else 1)<30))=true:=by rfl)
 (hline:(apos.endLine==cpos.line)=true:=by rfl) (hs:starEach (e::es) X.env=(false,eval e X.env)::starEach es X.env:=by rfl) (hplain:(backTo cpos (starEach es X.env)).any (·.1)=false:=by rfl):
 PE X (.Call (.Attribute o name apos) (e::es) [] cpos) (YW X.K T r to t):=by
 intro pins s σ H Q I h
 refine wpAny_Call_method_late hbase hfew hline rfl (bT (ho pins s σ H _ I h) fun v s1 ⟨x,H1,I1,r1,ty,q1⟩=>?_)
 obtain⟨h1,h2⟩:=Gh I1 r1 ty
 refine⟨T,id,pa,slot,hty,h1,h2,?_⟩
 have hA:=ha cpos pins s1 σ H1 _ I1 q1
 rw[hs]at hA⊢
 refine Calls.callWith_builtin (by show(false||(backTo cpos (starEach es X.env)).any (·.1))=false;rw[hplain]<;>rfl) (Calls.evalArgs_plain ?_)
 exact bT hA fun us s2 ⟨vs,H2,I2,r2,q2⟩=>hm pins s2 σ H2 x vs v us Q I2 r1 r2 q2
end
noncomputable def YX(X:Cx)(id:String)(r:V->List V->Hp->VK->Prop):Prop:=
 ∀(pins:List (Addr×Obj)) (s:Shared) (σ:St) (H:Hp) (x:V) (xs:List V) (v:Value) (us:List Value) (Q:VK),Inv X pins σ H s->RelV x v->Vals xs us->r x xs H Q->
  wpAny (model X.prog X.w) X.A (call (.builtin id) (v::us)) (EP X pins σ Q) X.xe s
theorem Vals.one:∀{x:V} {us:List Value},Vals [x] us->∃u,us=[u]/\RelV x u
 |_,_,.cons r .nil=>⟨_,rfl,r⟩
theorem Vals.zero:∀{us:List Value},Vals [] us->us=[]
 |_,.nil=>rfl
theorem Vals.dropLast{xs:List V}{us:List Value}(h:Vals xs us):Vals xs.dropLast us.dropLast:=by
 induction h with
 |nil=>exact .nil
 |cons r t ih=>
  cases t with
  |nil=>exact .nil
  |cons q t'=>exact .cons r ih
theorem Vals.rep{xs:List V}{us:List Value}(h:Vals xs us):∀k:Nat,Vals (List.replicate k xs).flatten (List.replicate k us).flatten
 |0=>.nil
 |k+1=>by
  rw[List.replicate_succ,List.replicate_succ,List.flatten_cons,List.flatten_cons]
  exact Vals.append h (Vals.rep h k)
theorem AI{α:Type}(l:List α):l.eraseIdx (l.length -1)=l.dropLast:=by
 induction l with
 |nil=>rfl
 |cons a r ih=>
  cases r with
  |nil=>rfl
  |cons b r=>
   have e:(a::b::r).length -1=((b::r).length -1)+1:=by
    have h1:(a::b::r).length=r.length+2:=rfl
    have h2:(b::r).length=r.length+1:=rfl
    omega
   rw[e,List.eraseIdx_cons_succ,ih]
   all_goals rfl
theorem foldl_rep(its:List Value):∀(k:Nat) (acc:List Value),
 List.foldl (fun x1 x2=>x1++x2) acc.toArray (List.replicate k its.toArray)=(acc++(List.replicate k its).flatten).toArray
 |0,acc=>by simp
 |k+1,acc=>by
  have e:acc.toArray++its.toArray=(acc++its).toArray:=by simp
  have e2:(acc++its)++(List.replicate k its).flatten=acc++(List.replicate (k+1) its).flatten:=by
   rw[List.replicate_succ,List.flatten_cons,Kb]
  rw[←e2,←foldl_rep its k (acc++its),←e,List.replicate_succ,List.foldl_cons]
section
variable{X:Cx}{pins:List (Addr×Obj)}{σ:St}{H:Hp}{s:Shared}{l b:Addr}{xs ys zs:List V}
theorem Inv.TR{its its':List Value}{n:Nat}{f:Array Value->Array Value}{t':Nat}(I:Inv X pins σ H s)(hH:H l=some (.lst xs))
 (e:s.heap.get? l=some {cls:=.type "list",data:=.seq its.toArray n}) (hf:f its.toArray=its'.toArray) (hv:Vals ys its') (hz:ys.length<=sizeLine):
 Inv X pins σ (upd H l (.lst ys)) {s with heap:=s.heap.update l (Obj.mapSeq f),toks:=t'}:=by
 have q:=PySem.IsL.update e f
 rw[hf]at q
 refine I.write (x:=l) (e:=l) (by rw[hH];exact trivial) (.inl rfl) (fun b' u hb hu=>(Heap.get?_update_other s.heap (Obj.mapSeq f) (Q1 hb)).trans hu) ⟨_,q⟩ ?_
 exact⟨hz,its',_,hv,q⟩
theorem Inv.TU{its:List Value}{t':Nat}(I:Inv X pins σ H s)(hv:Vals ys its)(hz:ys.length<=sizeLine):
 Inv X pins σ (upd H s.heap.objs.size (.lst ys)) {s with heap:=s.heap.push {cls:=.type "list",data:=.seq its.toArray},toks:=t'}:=
 I.laid (fun _ _ q=>FM _ q) (Do _) ⟨hz,its,0,hv,N0 _ rfl⟩
theorem Inv.fresh(I:Inv X pins σ H s):H s.heap.objs.size=none:=I.hok.fresh (Do _)
theorem Inv.TV(I:Inv X pins σ H s)(hH:H l=some (.lst xs)):xs.length<=sizeLine/\∃(its:List Value) (n:Nat),Vals xs its/\xs.length=its.length/\s.heap.get? l=some {cls:=.type "list",data:=.seq its.toArray n}:=by
 obtain⟨z,its,n,r,e⟩:=I.hok l _ hH
 exact⟨z,its,n,r,r.length,e⟩
theorem Gj{n:Nat}(h:n<=sizeLine):Builtin.List.listTooLong n=false:=by
 unfold Builtin.List.listTooLong
 exact P3 (by omega)
end
section
variable{X:Cx}
noncomputable def Cg:V->List V->Hp->VK->Prop:=fun x vs H Q=>∃l xs y,x=.ref l/\vs=[y]/\H l=some (.lst xs)/\xs.length<sizeLine/\Q .aX (upd H l (.lst (xs++[y])))
theorem oH:YX X "list.append" Cg:=by
 intro pins s σ H x vs v us Q I rx rv h
 obtain⟨l,xs,y,rfl,rfl,hH,hz,q⟩:=h
 cases rx
 obtain⟨u,rfl,ru⟩:=rv.one
 obtain⟨z,its,n,r,hl,e⟩:=I.TV hH
 refine call_meets F.slot_list_append ⟨_,e,rfl⟩ F.entry_list_append (F.args_list_append_2 _ _) (PySem.list_append l its.toArray n u (by rw[Fu];omega)) ⟨e,?_⟩
 refine⟨.aX,_,I.TR (its':=its++[u]) hH e (by simp) (r.append (.cons ru .nil)) ?_,rfl,q⟩
 rw[FC,List.length_singleton]
 omega
noncomputable def WH:V->List V->Hp->VK->Prop:=fun x vs H Q=>∃l xs y,x=.ref l/\vs=[]/\H l=some (.lst xs)/\xs[xs.length -1]?=some y/\Q y (upd H l (.lst xs.dropLast))
theorem Oj:YX X "list.pop" WH:=by
 intro pins s σ H x vs v us Q I rx rv h
 obtain⟨l,xs,y,rfl,rfl,hH,hy,q⟩:=h
 cases rx
 have hus:=rv.zero
 subst hus
 obtain⟨z,its,n,r,hl,e⟩:=I.TV hH
 obtain⟨u,hu,ru⟩:=r.get hy
 have hy':its.toArray[its.toArray.size -1]?=some u:=by
  show its.toArray[its.length -1]?=some u
  rw[←Array.getElem?_toList,←hl]
  exact hu
 refine call_meets F.slot_list_pop ⟨_,e,rfl⟩ F.entry_list_pop (F.args_list_pop_1 _) (MeetsSeq.list_pop_last l its.toArray n u hy' (by rw[Fu];omega)) ⟨e,?_⟩
 refine⟨y,_,I.TR (its':=its.dropLast) hH e ?_ r.dropLast ?_,ru,q⟩
 ·show its.toArray.eraseIdxIfInBounds (its.toArray.size -1)=its.dropLast.toArray
  rw[Fu,List.eraseIdxIfInBounds_toArray,AI]
 ·rw[List.length_dropLast]
  omega
theorem len_rep{α:Type}(xs:List α)(k:Nat):(List.replicate k xs).flatten.length=k*xs.length:=by
 induction k with
 |zero=>simp
 |succ k ih=>rw[List.replicate_succ,List.flatten_cons,FC,ih,Nat.succ_mul,Nat.add_comm]
end
section
variable{prog:Program}{w:World}{A:Around}{E:Value->Shared->Prop}{s:Shared}
end
section
variable{X:Cx}
end
end L2
namespace YY
open PySem PySem.W PySem.Calls PyProof.Rows
theorem qh{P:Params}{h:Heap}:∀(ns:List Int) (vs:List Value),WellAll P h vs (ns.map WData.int)->IntsAre vs ns:=by
 intro ns
 induction ns with
 |nil=>
  intro vs w
  rw[List.map_nil]at w
  cases w
  exact .nil
 |cons n ns ih=>
  intro vs w
  rw[On]at w
  cases w with
  |cons a b=>
   cases a
   exact .cons _ _ (ih _ b)
theorem Et{l:OpenLaw}{n:Nat}(hn:l.most=some n){P:Params}{h:Heap}{args:List WData}{vals:List Value}
 (hpre:l.row.toRowW.claim.pre args=true) (hwl:WellAll P h vals args):
 ∃a vs ns,vals=[Value.ref a]/\args=[WData.list (ns.map WData.int)]/\h.get? a=some {cls:=.type "list",data:=.seq vs.toArray}/\IntsAre vs ns/\ns.length<=n:=by
 have hsh:WShape.hasAll [] args [.list .int]=true:=(pre_splitW hpre).1
 have hc:l.pre.holds [] {args:=args}=true:=(pre_splitW hpre).2
 obtain⟨d,r,rfl,h1,h2⟩:=hasAllW_cons hsh
 obtain rfl:=hasAllW_nil h2
 obtain⟨xs,rfl,h3⟩:=hasW_list h1
 obtain⟨ns,rfl⟩:=items_int h3
 have hlen:ns.length<=n:=by
  unfold OpenLaw.pre at hc
  have h4:(WTm.not (.lt (.lit (.int (n:Int))) (.len (.arg 0)))).holds [] {args:=[.list (ns.map .int)]}=true:=by
   have h4:=(holds_andW hc).1
   rw[hn]at h4
   exact h4
  have h5:=condW_of h4 (w_not (w_lt w_lit (w_len_list (w_arg rfl))))
  rw[Ap]at h5
  refine Nat.le_of_not_lt fun q=>?_
  have q':(n:Int)<((ns.length:Nat):Int):=by omega
  first
   |(rw[IR q']at h5;exact absurd h5 (by decide))
   |(simp at h5;omega)
 cases hwl with
 |cons w1 w2=>
  cases w2
  cases w1 with
  |list ho hall=>exact⟨_,_,ns,rfl,rfl,ho,qh ns _ hall,hlen⟩
theorem Eu(l:OpenLaw)(args:List WData):l.row.toRowW.claim.post args (.bool true) args=true:=
 postW_of (r:=l.row.toRowW) (X:=(true==true))
  (show WShape.has [] (.bool true) .bool=true by first|rfl|decide|simp[WShape.has,WShape.arms,WShape.armsAll])
  (show(WTm.eq .res (.lit (.bool true))).value [] {args:=args,res:=some (.bool true),after:=args}=some (.bool (true==true))from w_eq_bool (w_res rfl) w_lit) rfl
theorem xY{l:OpenLaw}{n:Nat}{q:Program}{loose:List Str}{XP:(Str->Option Value)->Heap->Prop}{YP:World->Heap->Prop}{d:DefRec}
 (hn:l.most=some n) (hdf:d.params.defaults=[])
 (call:∀(w:World) (s₀ s₁:Shared) (mg mb:Str->Option Value) (fa:Addr) (o:Obj) (pm cd doc:Value) (a:Addr) (vs:List Value) (ns:List Int),
   Ground q loose [] XP w s₀ mg mb s₁.heap->YP w s₁.heap->
   s₁.heap.get? fa=some o->o.data=.func (docDef d.name d.params d.body d.scope pm cd doc)->s₁.heap.CodeRec cd d.name->mg d.name=some (.ref fa)->
   s₁.heap.get? a=some {cls:=.type "list",data:=.seq vs.toArray}->IntsAre vs ns->ns.length<=n->s₁.gens= #[]->
   codeAny (model l.prog w) callerA (.call (.ref fa) ⟨[.ref a],[]⟩) (fun r s'=>r=.ok (.ret (.bool true))/\OldK s₁.heap s'.heap/\s'.os=s₁.os/\AllBare s'.gens) s₁):
 WalkO q loose XP YP l.row.toRowW d [] (fun f vs=>PySem.call f vs):=by
 intro w s₀ s₁ mg mb G Y fa o pm cd doc dV kV ho hd hcd hD hmg hg args vals as hpre hlay hrd hwl hlo
 obtain rfl:dV=.none:=Dflts.none hD hdf
 obtain rfl:kV=.none:=Dflts.noKw hD
 obtain⟨a,vs,ns,rfl,rfl,hobj,hints,hlen⟩:=Et hn hpre hwl
 refine enter_call (codeAny_mono (call w s₀ s₁ mg mb fa o pm cd doc a vs ns G Y ho (fd_plain hd) hcd hmg hobj hints hlen hg) fun r s' hq=>?_)
 obtain⟨rfl,h2,h3,h4⟩:=hq
 exact⟨.inl ⟨.bool true,.bool true,[],rfl,fun _=>rfl,.bool true,Eu l _,fun _=>⟨List.Pairwise.nil,fun _ hm=>(nomatch hm)⟩⟩,h2,h3,h4⟩
section
variable{prog:Program}{w:World}{A:Around}{E:Value->Shared->Prop}{s:Shared}{K:Frag}
end
end YY
namespace L2
open PySem PySem.Spec PyProof.Rows
theorem uv:∀{vs:List Value} {ns:List Int},IntsAre vs ns->Vals (ns.map V.int) vs
 |_,_,.nil=>.nil
 |_,_,.cons n t h=>.cons ⟨t,rfl⟩ (uv h)
noncomputable def Gk(H:Hp):Prop:=∀b,H b=none\/∃o xs,H b=some (.B6 o (.lst xs))
theorem Gm{P:Program}{w:World}{K:PySem.W.Frag}{mg mb:Str->Option Value}{CX:En}{k:Nat}{fa a:Addr}{fd:FuncData}{x:Str}{sp:Sp}{s₁:Shared}{vs:List Value}{ns:List Int}
 (KX:K.In s₁.heap) (hns:s₁.heap.Ns mainGlobals mg) (hb:s₁.heap.Ns builtinsNs mb) (hbb:∀x:Str,x≠"__name__"->mb x=bootBuiltins x) (hlim:s₁.heap.NoLimit) (hg:s₁.gens= #[])
 (ha:s₁.heap.get? a=some {cls:=.type "list",data:=.seq vs.toArray}) (hi:IntsAre vs ns) (hl:ns.length<=sizeLine) (hr:dU k callerA)
 (F:∀base:Heap,K.In base->base.Ns mainGlobals mg->aH P w K mg base CX k fa fd [x] sp) (hbind:∀(s:Shared) (u:Value),BindsTo s fd ⟨[u],[]⟩ [(x,u)])
 (AF:∀H:Hp,Gk H->kR K H a (ns.map V.int)->sp [.ref a] H (fun v _=>v=.bl true) fun _ _ _=>False)
 (WI:∀H e s',CX [] H s₁ (fun _ _ _=>False) e s'->False):
 codeAny (model P w) callerA (.call (.ref fa) ⟨[.ref a],[]⟩) (fun r s'=>r=.ok (.ret (.bool true))/\OldK s₁.heap s'.heap/\s'.os=s₁.os/\AllBare s'.gens) s₁:=by
 have rv:=uv hi
 have WJ:=hi.length
 have core:∀H:Hp,Gk H->kR K H a (ns.map V.int)->mT P w H s₁.heap->(∀b,H b≠none->b=a)->(H a≠none->K.lookup a=none)->
  codeAny (model P w) callerA (.call (.ref fa) ⟨[.ref a],[]⟩) (fun r s'=>r=.ok (.ret (.bool true))/\OldK s₁.heap s'.heap/\s'.os=s₁.os/\AllBare s'.gens) s₁:=by
  intro H hO hS hok hA hK
  have Ci:∀{b:Addr} {o:Obj},s₁.heap.get? b=some o->H b=none->(u6 s₁.heap H).get? b=some o:=fun e n=>FO e n
  have Tz:∀{b:Addr} {o:Obj} {es:Array DictEntry} {ep:Nat},s₁.heap.get? b=some o->o.data=.dict es ep->H b=none:=fun{b o es ep} e d=>by
   cases q:H b with
   |none=>rfl
   |some u=>
    have e':b=a:=hA b (by rw[q];simp)
    subst e'
    rw[ha]at e;cases e
    have d':Data.seq vs.toArray _=Data.dict es ep:=d
    cases d'
  have VQ:∀{b:Addr} {m:Str->Option Value},s₁.heap.Ns b m->(u6 s₁.heap H).Ns b m:=fun{b m} ⟨o,es,ep,e,d,r⟩=>⟨o,es,ep,Ci e (Tz e d),d,r⟩
  have YZ:K.In (u6 s₁.heap H):=fun b o e=>Ci (KX b o e) (by
   cases q:H b with
   |none=>rfl
   |some u=>
    have e':b=a:=hA b (by rw[q];simp)
    subst e'
    rw[hK (by rw[q];simp)]at e;cases e)
  have hM:Mod K mg (u6 s₁.heap H):=⟨YZ,VQ hns,⟨mb,VQ hb,hbb⟩,let⟨mc,h1,h2⟩:=hlim;⟨mc,VQ h1,h2⟩⟩
  have e0:AD P w K mg (u6 s₁.heap H) callerA [] s₁ H:=⟨rfl,hM,fun b o e=>JF e,Nat.le_of_eq (Eb _ _),trivial,fun b hb=>absurd (show b∈([]:List Addr)from hb) (by simp),hok,.of_eq hg⟩
  refine codeAny_mono ((F _ YZ (VQ hns)).run callerA [] s₁ H ⟨[.ref a],[]⟩ [.ref a] [.ref a] _ _ hr e0 (hbind s₁ (.ref a)) (.cons rfl .nil) (AF H hO hS)) fun r s' h=>?_
  cases r with
  |error e=>exact(WI H e s' h).elim
  |ok fl=>
   cases fl with
   |next=>exact False.elim h
   |brk=>exact False.elim h
   |cont=>exact False.elim h
   |ret u=>
    obtain⟨v,H',os,bare,un,WK,r',q⟩:=h
    have q':v=.bl true:=q
    subst q'
    obtain rfl:u=Value.bool true:=r'
    refine⟨rfl,OldK.of_keep fun b o e=>?_,os,bare⟩
    cases q:H b with
    |none=>exact un.keep b o e q (by intro z;exact absurd (show b∈([]:List Addr)from z) (by simp)) (by simp)
    |some u=>
     rcases hO b with z|⟨ob,xs,z⟩
     ·rw[q]at z;cases z
     ·have z2:=un.mV b ob _ z
      obtain⟨e1,_⟩:=hok b _ z
      obtain⟨e2,_⟩:=WK b _ z2
      rw[e]at e1;cases e1
      exact e2
 cases hk:K.lookup a with
 |some o=>
  have e:=KX a o hk
  rw[ha]at e
  cases e
  refine core (fun _=>none) (fun _=>.inl rfl) (.inr ⟨_,vs.toArray,_,hk,rfl,rfl,rfl,by rw[Fu,WJ];exact hl,by simpa using rv⟩) (fun b u z=>by have z':(none:Option HO)=some u:=z;cases z') (fun b z=>absurd rfl z) fun z=>absurd rfl z
 |none=>
  refine core (fun b=>if b=a then some (.B6 {cls:=.type "list",data:=.seq vs.toArray} (.lst (ns.map V.int)))else none) (fun b=>?_) (.inl (.inr ⟨{cls:=.type "list",data:=.seq vs.toArray},Bz rfl⟩)) (fun b u z=>?_) (fun b z=>?_) fun _=>hk
  ·by_cases hb:b=a
   ·exact .inr ⟨_,_,Bz hb⟩
   ·exact .inl (Bi hb)
  ·by_cases hb:b=a
   ·have z':=(Bz hb).symm.trans z
    cases z'
    subst hb
    exact⟨ha,by rw[Ap];exact hl,vs,_,rv,ha⟩
   ·have z':=(Bi hb).symm.trans z
    cases z'
  ·by_cases hb:b=a
   ·exact hb
   ·exact absurd (Bi hb) z
theorem J6{l:PySem.W.OpenLaw}{n k:Nat}{q:Program}{loose:List Str}{XP:(Str->Option Value)->Heap->Prop}{YP:World->Heap->Prop}{d:DefRec}{K:Params->PySem.W.Frag}{CX:World->En}{sp:World->Sp}{x:Str}
 (hn:l.most=some n) (hn2:n<=sizeLine) (hdf:d.params.defaults=[]) (hr:dU k callerA)
 (hY:∀(w:World) (h:Heap),YP w h->(K w.params).In h)
 (F:∀(w:World) (mg:Str->Option Value) (fa:Addr) (h:Heap),(K w.params).In h->h.Ns mainGlobals mg->mg d.name=some (.ref fa)->
   ∃fd:FuncData,(∀(s:Shared) (u:Value),BindsTo s fd ⟨[u],[]⟩ [(x,u)])/\
    ∀base:Heap,(K w.params).In base->base.Ns mainGlobals mg->aH l.prog w (K w.params) mg base (CX w) k fa fd [x] (sp w))
 (AF:∀(w:World) (H:Hp) (a:Addr) (ns:List Int),ns.length<=n->Gk H->kR (K w.params) H a (ns.map V.int)->sp w [.ref a] H (fun v _=>v=.bl true) fun _ _ _=>False)
 (WI:∀(w:World) (H:Hp) (s:Shared) (e:Value) (s':Shared),CX w [] H s (fun _ _ _=>False) e s'->False):
 PySem.W.WalkO q loose XP YP l.row.toRowW d [] (fun f vs=>PySem.call f vs):=by
 refine YY.xY hn hdf fun w s₀ s₁ mg mb fa o pm cd doc a vs ns G Y ho hd hcd hmg hobj hints hlen hg=>?_
 have KX:=hY w _ Y
 obtain⟨fd,hb,hF⟩:=F w mg fa _ KX G.T.g hmg
 exact Gm KX G.T.g G.T.b G.T.builtins G.T.nolimit hg hobj hints (Dx hlen hn2) hr hF hb (fun H hO hS=>AF w H a ns hlen hO hS) fun H e s'=>WI w H s₁ e s'
noncomputable def inClass(s:Stmt)(j:Nat):Stmt:=match s with
 |.ClassDef _ _ _ body _ _ _ _ _ _ _=>body.getD j (.Pass ⟨0,0,0,0⟩)
 |_=>.Pass ⟨0,0,0,0⟩
noncomputable def cN(s:Stmt):Arguments:=match s with
 |.FunctionDef _ a _ _ _ _ _ _ _ _=>a
 |_=>{posonlyargs:=[],args:=[],vararg:=none,kwonlyargs:=[],kw_defaults:=[],kwarg:=none,defaults:=[]}
noncomputable def ah(s:Stmt):List Stmt:=match s with
 |.FunctionDef _ _ b _ _ _ _ _ _ _=>b
 |_=>[]
noncomputable def aa(s:Stmt):Scope:=match s with
 |.FunctionDef _ _ _ _ _ _ sc _ _ _=>sc
 |_=>{kind:=.function,names:=[],isGenerator:=false,isCoroutine:=false}
abbrev TX:En:=fun _ _ _ _ _ _=>False
abbrev E0:XK:=fun _ _ _=>False
structure Gn(K:PySem.W.Frag)(x qual:Str)(st:Stmt)(f:Addr)(fd:FuncData):Prop where
 ex:∃(oc:Value) (od:Option Addr) (kV doc pm:Value) (an:Option Addr) (cdv ct:Value) (osl:Array (Option Value)),
  fd=PySem.W.fnOf x qual (cN st) (ah st) (aa st) .none kV doc pm an cdv ct/\K.lookup f=some ⟨oc,od,.func fd,osl⟩/\PySem.W.codeIn K cdv qual=true
 kp:PySem.W.keepIn K (.ref f)=true
section
variable{P:Program}{w:World}{K:PySem.W.Frag}{mg:Str->Option Value}{base:Heap}
theorem Gn.binds{x qual:Str}{st:Stmt}{f:Addr}{fd:FuncData}{ps:List Str}(F:Gn K x qual st f fd)
 (h:∀(kV doc pm:Value) (an:Option Addr) (cdv ct:Value) (us:List Value),us.length=ps.length->bindArgs (PySem.W.fnOf x qual (cN st) (ah st) (aa st) .none kV doc pm an cdv ct) ⟨us,[]⟩=pure (ps.zip us)):Binds K fd ps []:=by
 obtain⟨oc,od,kV,doc,pm,an,cdv,ct,osl,rfl,lk,hcd⟩:=F.ex
 exact .all (h kV doc pm an cdv ct)
theorem Gp{x qual:Str}{st:Stmt}{f:Addr}{oc:Value}{od an:Option Addr}{osl:Array (Option Value)}{kV doc pm cdv ct:Value}(l:K.lookup f=some ⟨oc,od,.func (PySem.W.fnOf x qual (cN st) (ah st) (aa st) .none kV doc pm an cdv ct),osl⟩)
 (c:PySem.W.codeIn K cdv qual=true) (k:PySem.W.keepIn K (.ref f)=true):Gn K x qual st f (PySem.W.fnOf x qual (cN st) (ah st) (aa st) .none kV doc pm an cdv ct):=⟨⟨oc,od,kV,doc,pm,an,cdv,ct,osl,rfl,l,c⟩,k⟩
end
section
variable{X:Cx}
theorem pv(i:Nat){x:Str}{pos:Pos}(hN:X.N[i]?=some x:=by rfl)(hv:RX X.env.scope x:=by first|exact Or.inl rfl|exact Or.inr (Or.inl rfl)|exact Or.inr (Or.inr rfl))(hd:(x==("__debug__":Str))=false:=by decide)
 (hcd:(x==("__classdict__":Str))=false:=by decide):PE X (.Name x pos) (kQ i):=FT hN hv hd hcd
end
noncomputable def az(H H':Hp):Prop:=∀b o,H b=some o->H' b=some o
theorem az.refl(H:Hp):az H H:=fun _ _ h=>h
theorem az.trans{H H1 H2:Hp}(a:az H H1)(b:az H1 H2):az H H2:=fun c o h=>b c o (a c o h)
theorem az.free{H H':Hp}(e:az H H'){l:Addr}(h:H' l=Option.none):H l=Option.none:=by
 cases q:H l with
 |none=>rfl
 |some o=>
  rw[e l o q]at h
  cases h
theorem bits_le{x:Int}{n:Nat}(h:x.natAbs<2^n):Builtin.Int.intBits x<=n:=by
 unfold Builtin.Int.intBits
 split
 ·exact KM _
 ·rename_i hx
  have hx':x.natAbs≠0:=fun e=>hx (by simp[Int.natAbs_eq_zero.mp e])
  have:=(Nat.log2_lt hx').mpr h
  omega
theorem AJ{i j:Int}(h:Builtin.Int.intBits i+Builtin.Int.intBits j<=134217728):IntMulOk i j:=by
 unfold IntMulOk Builtin.Int.intTooBig
 have h':¬((Builtin.Int.intBits i:Int)+(Builtin.Int.intBits j:Int)>((bitsLine:Nat):Int)):=by
  rw[bitsLine_eq]
  omega
 intro z
 rw[B1]at z
 exact h' (DD z.2)
theorem fG{i j:Int}(h1: -(2^64)<i)(h2:i<2^64):IntMulOk i j:=.of_left (intBits_le_64 h1 h2)
section
variable{X:Cx}
theorem J7:oE X (binaryOp .Mult) (rI IntMulOk fun i j=>.int (i*j)):=R3 fun _ _ _ _ _ _ _ hc q=>mul_int q hc
noncomputable def uw(_ j:Int):Prop:=j≠0/\j.natAbs.log2<9000
theorem Gq:oE X (binaryOp .FloorDiv) (rI uw fun i j=>.int (i.fdiv j)):=R3 fun _ _ _ _ _ _ _ hc q=>floordiv_int hc.1 q (.inl (PyProof.noPylong_of_log2 hc.2))
end
theorem aY{H:Hp}{p:Addr}(h:H p=none)(o:HO):az H (upd H p o):=fun b u q=>by rw[ao (aT q h)];exact q
theorem az.tup{K:PySem.W.Frag}{H H':Hp}{a:Addr}{xs:List V}(e:az H H')(h:lY K H a xs):lY K H' a xs:=by
 rcases h with(h|⟨o,h⟩)|h
 ·exact .inl (.inl (e _ _ h))
 ·exact .inl (.inr ⟨o,e _ _ h⟩)
 ·exact .inr h
theorem ux{n:Nat}(h:n<=100000):n<=sizeLine:=Dx h (by decide)
end L2
namespace L2
theorem gB{i j:Int}(h1:0<=j)(h2:j<=1000000)(h3:i.natAbs<2^64):tN i j:=⟨h1,h2,h3⟩
end L2
namespace L2
open PySem PySem.Spec PyProof.Rows
theorem Gr{H:Hp}{p q:Addr}{o u:HO}(hq:H q=some u)(hp:H p=none):upd H p o q=some u:=by
 rw[ao (aT hq hp)]
 exact hq
theorem dQ.thing{P:Program}{w:World}{H:Hp}{h:Heap}{a:Addr}{o:HO}(x:dQ P w H h a o):∃ob,h.get? a=some ob:=by
 cases o with
 |lst xs=>obtain⟨_,_,_,_,e⟩:=x;exact⟨_,e⟩
 |tup xs=>obtain⟨_,_,_,ob,e,_⟩:=x;exact⟨_,e⟩
 |dK kvs=>obtain⟨_,_,_,_,ob,_,_,e,_⟩:=x;exact⟨_,e⟩
 |dT kvs=>obtain⟨_,_,_,_,ob,_,_,e,_⟩:=x;exact⟨_,e⟩
 |set S n=>obtain⟨ob,_,_,_,e,_⟩:=x;exact⟨_,e⟩
 |ins C dx fs=>obtain⟨_,_,_,e,_⟩:=x;exact⟨_,e⟩
 |own y=>exact x
 |xd fs=>obtain⟨_,⟨_,_,_,e,_⟩,_⟩:=x;exact⟨_,e⟩
 |oz lo hi=>obtain⟨_,_,_,e⟩:=x;exact⟨_,e⟩
 |B6 ob u=>obtain⟨e,_⟩:=x;exact⟨_,e⟩
 |MD ps=>exact⟨_,x⟩
 |met f y=>exact⟨_,x⟩
 |ext φ=>obtain⟨_,e,_⟩:=x;exact e
theorem mT.gone{P:Program}{w:World}{H:Hp}{h:Heap}{a:Addr}(x:mT P w H h)(e:h.get? a=none):H a=none:=by
 cases q:H a with
 |none=>rfl
 |some u=>
  obtain⟨ob,z⟩:=(x a u q).thing
  rw[e]at z
  cases z
theorem mT.tracked{P:Program}{w:World}{H:Hp}{h h':Heap}(x:mT P w H h)(k:∀b u ob,H b=some u->h.get? b=some ob->h'.get? b=some ob):mT P w H h':=fun a o e=>
 (x a o e).stay (fun b u z q=>by
   rcases z with rfl|z
   ·exact k b o u e q
   ·exact k b _ u z q) (fun _ q=>q) fun _ _ q=>q
structure Fly(P:Program)(w:World)(outer:List Env)(H:Hp)(s:Shared)(H':Hp)(a C:Addr)(s':Shared):Prop where
 os:s'.os=s.os
 bare:AllBare s'.gens
 un:Un (frs outer) [] H H' s.heap s'.heap
 hok:mT P w H' s'.heap
 new:H' a=none
 old:s.heap.get? a=none
 fly:∃(B:Heap) (a0:Value),Heap.FlyingW B outer a (.ref C) a0 s'.heap/\∀b o,s'.heap.get? b=some o->b∉frs outer->((∃o',s.heap.get? b=some o')\/∃u,H' b=some u)->B.get? b=some o
noncomputable def cL(P:Program)(w:World):En:=fun outer H s E e s'=>∃a C H',e=.ref a/\Fly P w outer H s H' a C s'/\E (.ref C) none H'
section
variable{P:Program}{w:World}{K:PySem.W.Frag}{mg:Str->Option Value}{base:Heap}{N:List Str}{qual:Str}{scope:Scope}{f:Addr}{cd:Value}{A:Around}{outer:List Env}{s:Shared}{H:Hp}{E:XK}
abbrev mU(P:Program)(w:World)(K:PySem.W.Frag)(mg:Str->Option Value)(base:Heap)(N:List Str)(qual:Str)(scope:Scope)(f:Addr)(cd:Value)(A:Around)(outer:List Env)(s:Shared)(H:Hp)(E:XK):Cx:=
 Eo (cL P w) P w K mg base N qual scope f cd A outer s H E
theorem qV{e:Env}{l:List Env}{L b:Addr}(hf:e.frame=some L):b∈frs (e::l)↔b=L\/b∈frs l:=by
 unfold frs
 rw[List.filterMap_cons,hf]
 exact FV
theorem xZ{pins:List (Addr×Obj)}{σ:St}{H1 H2:Hp}{s1:Shared}{h2:Heap}(I:Inv (mU P w K mg base N qual scope f cd A outer s H E) pins σ H1 s1)
 (u:Un (frs (mU P w K mg base N qual scope f cd A outer s H E).stack) [] H1 H2 s1.heap h2):Un (frs outer) [] H H2 s.heap h2:=by
 have lf:(mU P w K mg base N qual scope f cd A outer s H E).env.frame=some s.heap.objs.size:=rfl
 have st:∀b,b∈frs (mU P w K mg base N qual scope f cd A outer s H E).stack↔b=s.heap.objs.size\/b∈frs outer:=fun b=>qV lf
 have FD:Un (frs outer) [] H H1 s.heap s1.heap:=I.base
 have noL:∀b o,s.heap.get? b=some o->b∉frs outer->b∉frs (mU P w K mg base N qual scope f cd A outer s H E).stack:=fun b o q hb z=>by
  rcases(st b).mp z with z|z
  ·exact absurd (Fs q) (by rw[z];exact SU _)
  ·exact hb z
 refine⟨fun b o q n hb hx=>?_,fun b o q n hb hx=>?_,fun b o q n hx=>?_,fun b o q hx=>?_,fun b xs q=>u.tups b xs (FD.tups b xs q),fun b o v q=>u.mV b o v (FD.mV b o v q),fun b ps q=>?_⟩
 ·exact u.keep b o (FD.keep b o q n hb hx) (FD.free b o q n hx) (noL b o q hb) hx
 ·obtain⟨sl,e1⟩:=FD.slot b o q n hb hx
  obtain⟨sl2,e2⟩:=u.slot b _ e1 (FD.free b o q n hx) ((st b).mpr (.inr hb)) hx
  exact⟨sl2,e2⟩
 ·obtain⟨o',e1⟩:=FD.there b o q hx
  exact u.free b o' e1 (FD.free b o q n hx) hx
 ·obtain⟨o',e1⟩:=FD.there b o q hx
  exact u.there b o' e1 hx
 ·obtain⟨m1,e1⟩:=FD.oA b ps q
  obtain⟨m2,e2⟩:=u.oA b _ e1
  exact⟨m1++m2,by rw[e2,Array.append_assoc]⟩
theorem Gs{l:List Env}{H1 H2:Hp}{h1 h2 h3:Heap}(u:Un (frs l) [] H1 H2 h1 h2)(k:∀b o,h2.get? b=some o->b∉frs l->((∃o',h1.get? b=some o')\/∃u,H2 b=some u)->h3.get? b=some o)
 (ff:∀b,b∈frs l->∃o,h2.get? b=some o/\∀vs,o.data≠.fields vs) (up:h2.UpToSlots h3):Un (frs l) [] H1 H2 h1 h3:=by
 have fr:∀b o,b∈frs l->h2.get? b=some o->∃sl,h3.get? b=some {o with slots:=sl}:=fun b o hb q=>by
  obtain⟨o',e,nf⟩:=ff b hb
  rw[q]at e
  cases e
  exact up b o q nf
 refine⟨fun b o q n hb hx=>k b o (u.keep b o q n hb hx) hb (.inl ⟨o,q⟩),fun b o q n hb hx=>?_,u.free,fun b o q hx=>?_,u.tups,u.mV,u.oA⟩
 ·obtain⟨sl,e1⟩:=u.slot b o q n hb hx
  obtain⟨sl2,e2⟩:=fr b _ hb e1
  exact⟨sl2,e2⟩
 ·obtain⟨o',e1⟩:=u.there b o q hx
  by_cases hb:b∈frs l
  ·obtain⟨sl,e2⟩:=fr b o' hb e1
   exact⟨_,e2⟩
  ·exact⟨o',k b o' e1 hb (.inl ⟨o,q⟩)⟩
theorem Gu{pins:List (Addr×Obj)}{σ:St}{H1:Hp}{s1:Shared}{a:Addr}(I:Inv (mU P w K mg base N qual scope f cd A outer s H E) pins σ H1 s1)(e:s1.heap.get? a=none):s.heap.get? a=none:=by
 have FD:Un (frs outer) [] H H1 s.heap s1.heap:=I.base
 cases q:s.heap.get? a with
 |none=>rfl
 |some o=>
  obtain⟨o',z⟩:=FD.there a o q (by simp)
  rw[e]at z
  cases z
theorem AK{pins:List (Addr×Obj)}{σ:St}{H1:Hp}{s1:Shared}{h':Heap}{a C:Addr}{args:List Value}(I:Inv (mU P w K mg base N qual scope f cd A outer s H E) pins σ H1 s1)
 (hx:Heap.MadeExcOf s1.heap h' a (.ref C) args) (q:E (.ref C) none H1):(mU P w K mg base N qual scope f cd A outer s H E).xe (.ref a) {s1 with heap:=h'}:=by
 have lf:(mU P w K mg base N qual scope f cd A outer s H E).env.frame=some s.heap.objs.size:=rfl
 have st:∀b,b∈frs (mU P w K mg base N qual scope f cd A outer s H E).stack↔b=s.heap.objs.size\/b∈frs outer:=fun b=>qV lf
 have ff:=I.stack
 have hin:∀env∈(mU P w K mg base N qual scope f cd A outer s H E).stack,∀b,env.frame=some b->b∈frs (mU P w K mg base N qual scope f cd A outer s H E).stack:=fun env he b hb=>List.mem_filterMap.mpr ⟨env,he,hb⟩
 have Y0:=PySem.W.funFrames_hide ff hin
 refine wpAny_leaves_madeW (base:=PySem.W.hideAll s1.heap (frs (mU P w K mg base N qual scope f cd A outer s H E).stack)) (h:=s1.heap) I.ok.frames lf (fun b o z=>PySem.W.of_hideAll _ z) Y0 hx fun h2 t x1 x2 x3 x4=>?_
 have Ol:∀b o,s1.heap.get? b=some o->b∉frs (mU P w K mg base N qual scope f cd A outer s H E).stack->h2.get? b=some o:=fun b o z nb=>x1.1 b o (PySem.W.hideAll_get _ z nb)
 have fm:∀b,b∈frs (mU P w K mg base N qual scope f cd A outer s H E).stack->∃o,s1.heap.get? b=some o/\∀vs,o.data≠.fields vs:=fun b hb=>(Y0.mem hb).2
 have up:s1.heap.UpToSlots h2:=(Heap.UpToSlots.of_keeps hx.keeps).trans x4
 have u1:Un (frs (mU P w K mg base N qual scope f cd A outer s H E).stack) [] H1 H1 s1.heap h2:=Gs Un.refl (fun b o z nb _=>Ol b o z nb) fm up
 refine⟨a,C,H1,rfl,⟨I.os,I.bare,xZ I u1,I.hok.tracked fun b u ob z zz=>Ol b ob zz fun m=>?_,I.hok.gone hx.new,Gu I hx.new,_,_,x1,fun b o z nb hor=>?_⟩,q⟩
 ·have:=I.mW b m
  rw[z]at this
  cases this
 ·have VR:b∉frs (mU P w K mg base N qual scope f cd A outer s H E).stack:=fun m=>by
   rcases hor with⟨o',e⟩|⟨u,e⟩
   ·rcases(st b).mp m with m|m
    ·exact absurd (Fs e) (by rw[m];exact SU _)
    ·exact nb m
   ·have:=I.mW b m
    rw[e]at this
    cases this
  have:∃o1,s1.heap.get? b=some o1:=by
   rcases hor with⟨o',e⟩|⟨u,e⟩
   ·exact Un.there (show Un (frs outer) [] H H1 s.heap s1.heap from I.base) b o' e (by simp)
   ·exact(I.hok b u e).thing
  obtain⟨o1,e1⟩:=this
  have e2:=Ol b o1 e1 VR
  have z':h2.get? b=some o:=z
  rw[e2]at z'
  cases z'
  exact PySem.W.hideAll_get _ e1 VR
theorem Gv{pins:List (Addr×Obj)}{σ:St}{H1:Hp}{s1 s':Shared}{e:Value}(I:Inv (mU P w K mg base N qual scope f cd A outer s H E) pins σ H1 s1)
 (hc:cL P w (mU P w K mg base N qual scope f cd A outer s H E).stack H1 s1 E e s'):(mU P w K mg base N qual scope f cd A outer s H E).xe e s':=by
 obtain⟨a,C,H2,rfl,F,q⟩:=hc
 obtain⟨B,a0,x,kB⟩:=F.fly
 have lf:(mU P w K mg base N qual scope f cd A outer s H E).env.frame=some s.heap.objs.size:=rfl
 have st:∀b,b∈frs (mU P w K mg base N qual scope f cd A outer s H E).stack↔b=s.heap.objs.size\/b∈frs outer:=fun b=>qV lf
 refine wpAny_leaves_onW I.ok.frames lf x fun h2 x1 x4=>?_
 have fm:∀b,b∈frs (mU P w K mg base N qual scope f cd A outer s H E).stack->∃o,s'.heap.get? b=some o/\∀vs,o.data≠.fields vs:=fun b hb=>(x.2.2.1.mem hb).2
 have JI:∀b u,H2 b=some u->b∉frs (mU P w K mg base N qual scope f cd A outer s H E).stack:=fun b u z m=>by
  have e1:=I.mW b m
  obtain⟨o,ho,_⟩:=I.stack.mem m|>.2
  rw[F.un.free b o ho e1 (by simp)]at z
  cases z
 have u1:=Gs F.un (fun b o z nb hor=>x1.1 b o (kB b o z nb hor)) fm x4
 refine⟨a,C,H2,rfl,⟨F.os.trans I.os,F.bare,xZ I u1,F.hok.tracked fun b u ob z zz=>x1.1 b ob (kB b ob zz (JI b u z) (.inr ⟨u,z⟩)),F.new,Gu I F.old,B,a0,x1,fun b o z nb hor=>?_⟩,q⟩
 have VR:b∉frs (mU P w K mg base N qual scope f cd A outer s H E).stack:=fun m=>by
  rcases hor with⟨o',e⟩|⟨u,e⟩
  ·rcases(st b).mp m with m|m
   ·exact absurd (Fs e) (by rw[m];exact SU _)
   ·exact nb m
  ·exact JI b u e m
 have TY:(∃o',s1.heap.get? b=some o')\/∃u,H2 b=some u:=by
  rcases hor with⟨o',e⟩|z
  ·exact .inl (Un.there (show Un (frs outer) [] H H1 s.heap s1.heap from I.base) b o' e (by simp))
  ·exact .inr z
 have:∃o1,s'.heap.get? b=some o1:=by
  rcases TY with⟨o',e⟩|⟨u,e⟩
  ·exact F.un.there b o' e (by simp)
  ·exact(F.hok b u e).thing
 obtain⟨o1,e1⟩:=this
 have e3:=kB b o1 e1 VR TY
 have e2:=x1.1 b o1 e3
 have z':h2.get? b=some o:=z
 rw[e2]at z'
 cases z'
 exact e3
theorem MK:Passes (cL P w) (mU P w K mg base N qual scope f cd A outer s H E) E:=fun _ _ _ _ _ _ I h=>Gv I h
end
abbrev bmV:List Value:=[.type "ValueError",.type "Exception",.type "BaseException",.type "object"]
structure Y3(K:PySem.W.Frag)(C:Addr):Prop where
 exc:PySem.W.excIn K C bmV "ValueError.__new__"=true
 ga:PySem.W.findIn K (.ref C) "__getattribute__"=some (some (.builtin "BaseException.__getattribute__"))
 gt:PySem.W.findIn K (.ref C) "__getattr__"=some none
 cl:PySem.W.findIn K (.ref C) "__class__"=some (some (.builtin "object.__class__"))
 ob:PySem.W.mroIn K C (.type "object")=some true
 bs:PySem.W.mroIn K C (.type "BaseException")=some true
noncomputable def Gw(X:Cx)(R:Addr->Hp->Prop):Prop:=∀(pins:List (Addr×Obj)) (σ:St) (H:Hp) (s:Shared) (h':Heap) (a C:Addr) (args:List Value),Inv X pins σ H s->Heap.MadeExcOf s.heap h' a (.ref C) args->R C H->X.xe (.ref a) {s with heap:=h'}
theorem Cj{P:Program}{w:World}{K:PySem.W.Frag}{mg:Str->Option Value}{base:Heap}{N:List Str}{qual:Str}{scope:Scope}{f:Addr}{cd:Value}{A:Around}{outer:List Env}{s:Shared}{H:Hp}{E:XK}:
 Gw (mU P w K mg base N qual scope f cd A outer s H E) (fun C H'=>E (.ref C) none H'):=fun _ _ _ _ _ _ _ _ I hx q=>AK I hx q
section
variable{X:Cx}{x:Str}{C:Addr}{e:Expr}{t:TA}{np cpos pos:Pos}{R:Addr->Hp->Prop}
end
theorem PS.tK{X:Cx}{st:Stmt}{t:TS}(h:PS X.tK st t):PS X st t:=fun pins s σ H D I hw=>
 wpAny_mono (h pins s σ H D (I.tM _) hw) (fun _ _ q=>q.jK) fun _ _ z=>False.elim z
theorem Gn.WL{P:Program}{w:World}{K:PySem.W.Frag}{mg:Str->Option Value}{base:Heap}{x qual:Str}{st:Stmt}{f:Addr}{fd:FuncData}{N ps:List Str}{k:Nat}{sp:Sp}(F:Gn K x qual st f fd)(S:ay N ps (aa st))
 (len:∀vs H Q E,sp vs H Q E->vs.length=ps.length)
 (hb:∀(cdv:Value) (A:Around) (outer:List Env) (s:Shared) (H:Hp) (vs:List V) (Q:VK) (E:XK),dU k (A.deeper (envOfC qual (aa st) s.heap.objs.size f cdv))->sp vs H Q E->
   ∃t,Af (mU P w K mg base N qual (aa st) f cdv A outer s H E) (ah st) t/\t {nx:=fun _ H'=>Q .aX H',rt:=Q} (start N vs) H):aH P w K mg base (cL P w) (k+1) f fd ps sp:=by
 obtain⟨oc,od,kV,doc,pm,an,cdv,ct,osl,e,lk,hcd⟩:=F.ex
 subst e
 exact TF lk hcd S len fun A outer s H vs Q E hr h=>hb cdv A outer s H vs Q E hr h
theorem aH.TZ{P:Program}{w:World}{K:PySem.W.Frag}{mg:Str->Option Value}{base:Heap}{k:Nat}{f:Addr}{fd:FuncData}{ps:List Str}{sp:Sp}(F:aH P w K mg base (cL P w) k f fd ps sp):
 aH P w K mg base TX k f fd ps (fun vs H Q _=>sp vs H Q E0):=
 ⟨fun vs H Q E h=>F.len vs H Q E0 h,fun A outer s H args us vs Q E hr e0 hb r h=>codeAny_mono (F.run A outer s H args us vs Q E0 hr e0 hb r h) fun r s' z=>by
   cases r with
   |error e=>
    obtain⟨_,_,_,_,_,q⟩:=z
    exact q.elim
   |ok fl=>cases fl<;>exact z⟩
noncomputable def FX(X:Cx)(pins:List (Addr×Obj))(σ:St)(E:XK)(e:Value)(s':Shared):Prop:=∃H1 s1,Inv X pins σ H1 s1/\cL X.prog X.w X.stack H1 s1 E e s'
section
variable{X:Cx}{k:Nat}{f:Addr}{fd:FuncData}{ps:List Str}{sp:Sp}{x:Str}{p pos:Pos}{e:Expr}{es:List Expr}{t:TA}
end
noncomputable def T3(a C:Addr)(h:Heap):Prop:=∃ob vs,h.get? a=some ob/\ob.cls=.ref C/\ob.data=.fields vs
noncomputable def WM(a C:Addr):HO:=.ext (T3 a C)
section
variable{X:Cx}{pins:List (Addr×Obj)}{σ:St}{H:Hp}{s:Shared}
end
section
variable{prog:Program}{w:World}{A:Around}{E:Value->Shared->Prop}{s:Shared}{K:PySem.W.Frag}{a C:Addr}
end
inductive T4:V->Value->Prop where
 |own (D:Addr):T4 (.ref D) (.ref D)
 |ty (n:String):T4 (.ty n) (.type n)
noncomputable def l6(cells:List (Str×Addr)):List (Str×NameKind)->List (Str×Addr)->List (Str×Addr)
 |[],acc=>acc
 |(n,k)::r,acc=>l6 cells r (if k=.free then(n,(cells.lookup n).getD 0)::acc else acc)
theorem qW{env:Env}:∀(l:List (Str×NameKind)) (acc:List (Str×Addr)),(∀p∈l,p.2=.free->∃c,env.cells.lookup p.1=some c)->
 (forIn l acc fun(x:Str×NameKind) (cs:List (Str×Addr))=>if(x.2==NameKind.free)=true then(do let c←cellOf env x.1;pure (ForInStep.yield ((x.1,c)::cs)))else(pure (ForInStep.yield cs):Sem _))=pure (l6 env.cells l acc)
 |[],acc,_=>rfl
 |(n,k)::r,acc,h=>by
  have ih:=fun acc=>qW (env:=env) r acc fun p hp=>h p (Ee _ hp)
  rw[List.forIn_cons]
  by_cases hk:k=.free
  ·obtain⟨c,hc⟩:=h (n,k) FK hk
   have hc':env.cells.lookup n=some c:=hc
   have e:cellOf env n=pure c:=by unfold cellOf;rw[hc']
   have e2:(k==NameKind.free)=true:=by simp[hk]
   simp only[e2,if_true,e,pure_bind,ih]
   simp only[l6,hk,if_true,hc',Option.getD_some]
  ·have e2:(k==NameKind.free)=false:=by simpa using hk
   simp only[e2,Bool.false_eq_true,if_false,pure_bind,ih]
   simp only[l6,hk,if_false]
theorem qX{scope:Scope}{env:Env}(h:∀p∈scope.names,p.2=.free->∃c,env.cells.lookup p.1=some c):closureFor scope env=pure (l6 env.cells scope.names []):=by
 have:=qW (env:=env) scope.names [] h
 unfold closureFor
 simp only[bind_pure]
 exact this
theorem x8{cells:List (Str×Addr)}:∀(l:List (Str×NameKind)) (acc:List (Str×Addr)),(∀p∈l,p.2=.free->∃c,cells.lookup p.1=some c)->(∀y c,acc.lookup y=some c->cells.lookup y=some c)->
 ∀y c,(l6 cells l acc).lookup y=some c->cells.lookup y=some c
 |[],_,_,ha,y,c,h=>ha y c h
 |(n,k)::r,acc,hl,ha,y,c,h=>by
  refine x8 r _ (fun p hp=>hl p (Ee _ hp)) (fun z d hz=>?_) y c h
  by_cases hk:k=.free
  ·rw[Bz hk,List.lookup_cons]at hz
   obtain⟨c',hc'⟩:=hl (n,k) FK hk
   have hc2:cells.lookup n=some c':=hc'
   split at hz
   ·rename_i e
    have e':z=n:=by simpa using e
    subst e'
    rw[hc2]at hz⊢
    exact hz
   ·exact ha z d hz
  ·rw[Bi hk]at hz
   exact ha z d hz
theorem qY{cells:List (Str×Addr)}:∀(l:List (Str×NameKind)) (acc:List (Str×Addr)) (y:Str),((acc.lookup y).isSome=true\/(y,NameKind.free)∈l)->((l6 cells l acc).lookup y).isSome=true
 |[],_,_,h=>h.elim id fun z=>nomatch z
 |(n,k)::r,acc,y,h=>by
  refine qY r _ y ?_
  by_cases hk:k=.free
  ·rw[Bz hk,List.lookup_cons]
   by_cases e:(y==n)=true
   ·left;rw[e];rfl
   ·rw[cc]at e
    rw[e]
    rcases h with h|h
    ·exact .inl h
    ·rcases FV.mp h with h|h
     ·have:y=n:=SZ Prod.fst h
      subst this
      simp at e
     ·exact .inr h
  ·rw[Bi hk]
   rcases h with h|h
   ·exact .inl h
   ·rcases FV.mp h with h|h
    ·have:NameKind.free=k:=SZ Prod.snd h
     exact absurd this.symm hk
    ·exact .inr h
theorem uy{cells:List (Str×Addr)}:∀(l:List (Str×NameKind)) (acc:List (Str×Addr)) (y:Str) (c:Addr),(l6 cells l acc).lookup y=some c->(∃c',acc.lookup y=some c')\/(y,NameKind.free)∈l
 |[],_,y,c,h=>.inl ⟨c,h⟩
 |(n,k)::r,acc,y,c,h=>by
  rcases uy r _ y c h with⟨c',h'⟩|h'
  ·by_cases hk:k=.free
   ·rw[Bz hk,List.lookup_cons]at h'
    split at h'
    ·rename_i e
     have e':y=n:=by simpa using e
     subst e'
     subst hk
     exact .inr FK
    ·exact .inl ⟨c',h'⟩
   ·rw[Bi hk]at h'
    exact .inl ⟨c',h'⟩
  ·exact .inr (Ee _ h')
theorem jM{env:Env}(hk:env.scope.kind=.function):∀(l:List (Str×NameKind)) (y:Str),
 (l.map fun(n,k)=>if(k==NameKind.free&&env.scope.kind==.function&&env.kindOf n==some .cell)then(n,NameKind.cell)else(n,k)).lookup y=(l.lookup y).map fun k=>if(k==NameKind.free&&env.kindOf y==some .cell)=true then NameKind.cell else k
 |[],_=>rfl
 |(n,k)::r,y=>by
  have ih:=jM hk r y
  have hk':(env.scope.kind==ScopeKind.function)=true:=by rw[hk];rfl
  rw[On,List.lookup_cons]
  by_cases e:(y==n)=true
  ·have e':y=n:=by simpa using e
   subst e'
   by_cases hc:(k==NameKind.free&&env.kindOf y==some .cell)=true
   ·have hc2:(k==NameKind.free&&env.scope.kind==.function&&env.kindOf y==some .cell)=true:=by
     rw[hk',Bool.and_true];exact hc
    simp only[hc2,if_true,List.lookup_cons,beq_self_eq_true,Option.map_some,hc]
   ·have hc2:¬(k==NameKind.free&&env.scope.kind==.function&&env.kindOf y==some .cell)=true:=by
     rw[hk',Bool.and_true];exact hc
    rw[Bi hc2]
    simp only[List.lookup_cons,beq_self_eq_true,Option.map_some]
    rw[Bi hc]
  ·rw[cc]at e
   by_cases hc2:(k==NameKind.free&&env.scope.kind==.function&&env.kindOf n==some .cell)=true
   ·simp only[hc2,if_true,e,List.lookup_cons]
    exact ih
   ·rw[cc]at hc2
    simp only[hc2,Bool.false_eq_true,if_false,e,List.lookup_cons]
    exact ih
noncomputable def gf(sc R4:Scope)(N N' xs:List Str):Bool:=
 sc.kind==.function&&xs.all (fun x=>sc.names.lookup x==some .local&&!N'.contains x)&&
 sc.names.all (fun p=>p.2 !=.cell&&(p.2 !=.local||sc.names.lookup p.1==some .local)&&(p.2 !=.free||(R4.names.lookup p.1==some .cell&&sc.names.lookup p.1==some .free)))&&
 N'.all (fun y=>sc.names.lookup y !=some .local)&&(N.length==N'.length&&(N.zip N').all (fun p=>p.1==p.2||sc.names.lookup p.2==none))
structure gC(sc R4:Scope)(N N' xs:List Str):Prop where
 kind:sc.kind=.function
 own:∀x∈xs,sc.names.lookup x=some .local/\x∉N'
 vj:∀p∈sc.names,p.2≠.cell
 loc:∀p∈sc.names,p.2=.local->sc.names.lookup p.1=some .local
 free:∀p∈sc.names,p.2=.free->R4.names.lookup p.1=some .cell/\sc.names.lookup p.1=some .free
 out:∀y∈N',sc.names.lookup y≠some .local
 len:N.length=N'.length
 pair:∀(i:Nat) (y:Str),N'[i]?=some y->sc.names.lookup y≠none->N[i]?=some y
theorem gC.of{sc R4:Scope}{N N' xs:List Str}(h:gf sc R4 N N' xs=true):gC sc R4 N N' xs:=by
 unfold gf at h
 simp only[B1,Hn,Bool.or_eq_true,bne_iff_ne,NA,Bool.not_eq_true',ne_eq]at h
 obtain⟨⟨⟨⟨h1,h2⟩,h3⟩,h4⟩,h5,h6⟩:=h
 refine⟨h1,fun x hx=>⟨(h2 x hx).1,fun z=>?_⟩,fun p hp=>(h3 p hp).1.1,fun p hp e=>?_,fun p hp e=>?_,h4,h5,fun i y hy hn=>?_⟩
 ·have:=(h2 x hx).2
  rw[List.contains_eq_mem]at this
  simp[z]at this
 ·rcases(h3 p hp).1.2 with z|z
  ·exact absurd e z
  ·exact z
 ·rcases(h3 p hp).2 with z|z
  ·exact absurd e z
  ·exact z
 ·have hi:i<N'.length:=(GM.mp hy).1
  have hN:N[i]?=some (N[i]'(by lia)):=BM (by lia)
  have hm:(N[i]'(by lia),y)∈N.zip N':=by
   refine Oy (i:=i) ?_
   rw[List.getElem?_zip_eq_some]
   exact⟨hN,hy⟩
  rcases h6 _ hm with z|z
  ·rw[hN]
   exact SZ some z
  ·exact absurd z hn
noncomputable def aI(X:Cx)(scope:Scope)(C:Addr)(xs N':List Str)(s:Shared)(H:Hp)(fp:List Addr):Cx:=
 {X with N:=xs++N',s₀:=s,H₀:=H,env:=compEnvC scope (l6 X.env.cells scope.names []) C X.env,outer:=X.stack,stack:=X.stack,ex:=fp,fn:=fun y=>xs.contains y,pn:=[],xe:=fun _ _=>False}
section
variable{X:Cx}{pins:List (Addr×Obj)}{σ:St}{H:Hp}{s:Shared}{scope:Scope}{xs N':List Str}{fp:List Addr}
theorem l7(I:Inv X pins σ H s)(O:gC scope X.env.scope X.N N' xs):∀p∈scope.names,p.2=.free->∃c,X.env.cells.lookup p.1=some c:=fun p hp e=>
 I.ok.has p.1 (.inl (O.free p hp e).1)
theorem iK(I:Inv X pins σ H s)(O:gC scope X.env.scope X.N N' xs)(y:Str):(relabel scope X.env).names.lookup y=(scope.names.lookup y).map fun k=>if k=.free then NameKind.cell else k:=by
 unfold relabel
 show(List.map _ scope.names).lookup y=_
 rw[jM I.ok.kind]
 cases e:scope.names.lookup y with
 |none=>rfl
 |some k=>
  rw[Option.map_some,Option.map_some]
  by_cases hk:k=.free
  ·subst hk
   have:=(O.free (y,.free) (Nw e) rfl).1
   have h2:X.env.kindOf y=some .cell:=this
   rw[h2]
   rfl
  ·rw[Bi hk,Bi (by simp[hk])]
theorem x9{h1:Heap}{tk:Nat}(I:Inv X pins σ H s)(O:gC scope X.env.scope X.N N' xs)(hf:∀b∈fp,mX X pins H b)(hlt:∀b∈fp,b<s.heap.objs.size){m0:Str->Option Value}
 (hn:h1.Ns s.heap.objs.size m0) (hk:∀b o,s.heap.get? b=some o->h1.get? b=some o):
 Inv (aI X scope s.heap.objs.size xs N' s H fp) [] (xs.map (fun _=>none)++σ) H {s with heap:=h1,toks:=tk}:=by
 have hcl:=x8 (cells:=X.env.cells) scope.names [] (l7 I O) (fun y c z=>nomatch z)
 refine⟨⟨I.ok.mod,?_,I.ok.glob,I.ok.blt,Do _,fun x y c h1 h2=>I.ok.inj x y c (hcl x c h1) (hcl y c h2),fun y hy=>?_,fun y c h1 h2=>?_,I.ok.hd,I.ok.frames,.inl rfl,fun b hb=>⟨Kk (hlt b hb),fun x c e=>(hf b hb).2.2.2.2.1 x c (hcl x c e)⟩,
  I.bs,Dx I.ok.JH I.sz,fun b o e hb=>?_,fun b hb z=>?_,I.stack,I.mW⟩,rfl,I.bare,Un.kept hk,⟨m0,hn,fun i y v e1 e2 e3=>?_⟩,fun y c e=>?_,I.hok.fresh (Do _),fun y c e=>I.kU y c (hcl y c e),fun p hp=>absurd (show p∈([]:List (Addr×Obj))from hp) (by simp),I.hok.kept hk,?_⟩
 ·show scope.kind=_
  exact O.kind
 ·have hy':(relabel scope X.env).names.lookup y=some .cell\/(relabel scope X.env).names.lookup y=some .free:=hy
  rw[iK I O]at hy'
  have hfree:scope.names.lookup y=some .free:=by
   cases e:scope.names.lookup y with
   |none=>rw[e]at hy';rcases hy' with z|z<;>cases z
   |some k=>
    rw[e]at hy'
    by_cases hk:k=.free
    ·rw[hk]
    ·rw[Option.map_some,Bi hk]at hy'
     rcases hy' with z|z
     ·have:k=.cell:=KE z
      exact absurd this (O.vj (y,k) (Nw e))
     ·exact absurd (KE z) hk
  exact bj.mp (qY scope.names [] y (.inr (Nw hfree)))
 ·have h2':(l6 X.env.cells scope.names []).lookup y=some c:=h2
  have hy:y∈xs:=by
   have h1':xs.contains y=true:=h1
   simpa using h1'
  rcases uy scope.names [] y c h2' with⟨_,z⟩|z
  ·cases z
  ·have q1:=(O.free (y,.free) z rfl).2
   rw[(O.own y hy).1]at q1
   cases q1
 ·have e':X.base.get? b=some o:=e
  rcases(hf b hb).2.2.2.1 with z|z
  ·exact I.ok.FP b o e' z
  ·exact absurd (GE (Fs e') (Dx I.ok.JH z)) (SU _)
 ·rcases FV.mp (I.Am b z)with q|q
  ·exact(hf b hb).2.1 q
  ·exact(hf b hb).2.2.1 q
 ·have J8:(xs++N')[i]?=some y:=e1
  by_cases hi:i<xs.length
  ·rw[IH (by simpa using hi),FR]at e2
   cases q:xs[i]? with
   |none=>rw[q]at e2;cases e2
   |some z=>rw[q]at e2;cases e2
  ·rw[HI (by simpa using hi)]at e2
   rw[HI (by lia)]at J8
   rw[Ap]at e2
   have hyN:y∈N':=Oy J8
   have Om:RX (relabel scope X.env) y:=e3
   unfold RX at Om
   rw[iK I O]at Om
   have hfree:scope.names.lookup y=some .free:=by
    cases e:scope.names.lookup y with
    |none=>rw[e]at Om;rcases Om with z|z|z<;>cases z
    |some k=>
     rw[e]at Om
     by_cases hk:k=.free
     ·rw[hk]
     ·rw[Option.map_some,Bi hk]at Om
      rcases Om with z|z|z
      ·have:k=.local:=KE z
       subst this
       exact absurd e (O.out y hyN)
      ·have:k=.cell:=KE z
       exact absurd this (O.vj (y,k) (Nw e))
      ·exact absurd (KE z) hk
   have Y4:=(O.free (y,.free) (Nw hfree) rfl).1
   obtain⟨m,hn0,hl⟩:=I.loc
   have e1N:=O.pair _ y J8 (by rw[hfree];simp)
   obtain⟨u,r,l⟩:=hl _ y v e1N e2 (.inr (.inl Y4))
   refine⟨u,r,?_⟩
   rcases l with⟨l1,_⟩|⟨_,c,hc,o,ho,hd⟩
   ·have:X.env.scope.names.lookup y=some .local:=l1
    rw[Y4]at this
    cases this
   ·refine .inr ⟨.inl ?_,c,?_,o,hk c o ho,hd⟩
    ·show(relabel scope X.env).names.lookup y=_
     rw[iK I O,hfree]
     rfl
    ·obtain⟨c',hc'⟩:=bj.mp (qY (cells:=X.env.cells) scope.names [] y (.inr (Nw hfree)))
     have q:=hcl y c' hc'
     rw[hc]at q
     show(l6 X.env.cells scope.names []).lookup y=some c
     rw[hc',←KE q]
 ·obtain⟨v,o,ho,hd⟩:=I.cell y c (hcl y c e)
  exact⟨v,o,hk c o ho,hd⟩
 ·show(xs.map (fun _=>none)++σ).length=(xs++N').length
  rw[FC,FC,Ap,I.len,O.len]
end
noncomputable def PF(X:Cx)(ifs:List Expr)(t:TT):Prop:=
 ∀(pins:List (Addr×Obj)) (s:Shared) (σ:St) (H:Hp) (Q:Bool->Hp->Prop),Inv X pins σ H s->t σ H Q->
  wpAny (model X.prog X.w) X.A (forIn ifs true fun c r=>if r=true then do let ok←isTrue c X.env (eval c X.env);pure (ForInStep.yield ok)else pure (ForInStep.yield r)) (TP X pins σ Q) X.xe s
noncomputable def WO:TT:=fun _ H Q=>Q true H
theorem Oo{X:Cx}:PF X [] WO:=fun _ _ _ H _ I h=>wpAny_tests_nil ⟨H,I,h⟩
theorem Oq{X:Cx}{c:Expr}{t:TT}(h:PT X c t):PF X [c] t:=fun pins s σ H Q I q=>wpAny_tests_one (h pins s σ H Q I q)
noncomputable def Gx(k:Nat)(wi:TI)(g:TG)(tc:TT)(te:TE):TE:=fun σ H Q=>wi σ H fun J H1=>∀D,H1 D=none->∃W:Nat->Nat->Hp->Prop,(∃m,W 0 m (upd H1 D (.lst [])))/\∀i m H2,W i m H2->
 (J.stop i H2/\Q (.ref D) H2)\/(J.go i H2/\∀x H3,J.RZ i H2 x H3->∀v0:List (Option V),v0.length=k->g x (v0++σ) H3 fun σ2 H4=>∃v1:List (Option V),v1.length=k/\σ2=v1++σ/\
   tc σ2 H4 fun b H5=>if b=true then te σ2 H5 fun y H6=>∃ys,H6 D=some (.lst ys)/\ys.length<sizeLine/\∃m',m'<m/\W (i+1) m' (upd H6 D (.lst (ys++[y])))else∃m',m'<m/\W (i+1) m' H5)
theorem m5{prog:Program}{w:World}{A:Around}{R:Result->Shared->Prop}{s:Shared}{elt target iter:Expr}{ifs:List Expr}{scope:Scope}{pos:Pos}{it acc:Value}{env:Env}(I:Nat->Shared->Prop)
 (turn:∀n s,I n s->wpAny (model prog w) A (pyNext it) (fun r s₁=>match r with
   |none=>R (.ok .next) s₁
   |some v=>wpAny (model prog w) A (letOwnedTupleGo target it v) (fun _ s₁'=>wpAny (model prog w) A (assign target env v) (fun _ s₂=>
     wpAny (model prog w) A (forIn ifs true fun c r=>if r=true then do let ok←isTrue c env (eval c env);pure (ForInStep.yield ok)else pure (ForInStep.yield r)) (fun ok s₃=>
      if ok=true then wpAny (model prog w) A (eval elt env) (fun x s₄=>
       wpAny (model prog w) A (call (.builtin "list.append") [acc,x]) (fun _ s₅=>∃m,m<n/\I m s₅) (fun _ _=>False) s₄) (fun _ _=>False) s₃
      else∃m,m<n/\I m s₃) (fun _ _=>False) s₂) (fun _ _=>False) s₁') (fun _ _=>False) s₁) (fun _ _=>False) s)
 (n:Nat) (h:I n s):
 codeAny (model prog w) A (.compLoop (.ListComp elt [⟨target,iter,ifs,0⟩] scope pos) 0 it acc env) R s:=by
 refine codeAny_loop rfl I (fun n s hI=>?_) n h
 show wpAny _ A ((compTurn (.ListComp elt [⟨target,iter,ifs,0⟩] scope pos) 0 it acc env).onRaise (fun x=>do noteFrame x env;theTreesLotGoes x)) _ _ s
 refine wpAny_noted ?_
 rw[compTurn_list]
 refine He (wpAny_standAt (He (wpAny_mono (turn n s hI) (fun r s₁ h₁=>?_) fun _ _ h'=>h'.elim)))
 cases r with
 |none=>exact PH h₁
 |some v=>
  refine He (wpAny_mono h₁ (fun _ s₁' h₁'=>?_) fun _ _ h'=>h'.elim)
  refine He (wpAny_mono h₁' (fun _ s₂ h₂=>He (wpAny_mono h₂ (fun ok s₃ h₃=>?_) fun _ _ h'=>h'.elim)) fun _ _ h'=>h'.elim)
  cases ok with
  |false=>exact PH ⟨rfl,h₃⟩
  |true=>
   exact He (He (wpAny_mono h₃ (fun x s₄ h₄=>He (wpAny_mono h₄ (fun _ s₅ h₅=>PH (PH ⟨rfl,h₅⟩)) fun _ _ h'=>h'.elim)) fun _ _ h'=>h'.elim))
section
variable{X:Cx}
theorem AL{tg iter elt:Expr}{ifs:List Expr}{scope:Scope}{xs N':List Str}{pos:Pos}{g:TG}{tc:TT}{te:TE}(hc:X.calm=true)(O:gC scope X.env.scope X.N N' xs)
 (hg:∀C s0 H0 fp,PG (aI X scope C xs N' s0 H0 fp) tg g) (hf:∀C s0 H0 fp,PF (aI X scope C xs N' s0 H0 fp) ifs tc) (he:∀C s0 H0 fp,PE (aI X scope C xs N' s0 H0 fp) elt te)
 {pins:List (Addr×Obj)} {σ:St} {H1:Hp} {s2:Shared} {it:Addr} {fp:List Addr} {tn:Nat->Heap->Prop} {J:It} {Q:VK} {E:Value->Shared->Prop} {RR:Value->Addr->Result->Shared->Prop}
 (I2:Inv X pins σ H1 s2) (T:Turn X.prog X.w X.K tg J fp it tn) (st2:tn 0 s2.heap) (f2:∀b∈fp,mX X pins H1 b)
 (h:∀D,H1 D=none->∃W:Nat->Nat->Hp->Prop,(∃m,W 0 m (upd H1 D (.lst [])))/\∀i m H2,W i m H2->
   (J.stop i H2/\Q (.ref D) H2)\/(J.go i H2/\∀x H3,J.RZ i H2 x H3->∀v0:List (Option V),v0.length=xs.length->g x (v0++σ) H3 fun σ2 H4=>∃v1:List (Option V),v1.length=xs.length/\σ2=v1++σ/\
     tc σ2 H4 fun b H5=>if b=true then te σ2 H5 fun y H6=>∃ys,H6 D=some (.lst ys)/\ys.length<sizeLine/\∃m',m'<m/\W (i+1) m' (upd H6 D (.lst (ys++[y])))else∃m',m'<m/\W (i+1) m' H5))
 (hRR:∀D C s' H',(∃m,s'.heap.Ns C m)->(∀h',Heap.SameBut C s'.heap h'->Inv X pins σ H' {s' with heap:=h'})->s2.heap.objs.size<=D->s2.heap.objs.size<=C->Q (.ref D) H'->RR (.ref D) C (.ok .next) s'):
 wpAny (model X.prog X.w) X.A (newList []) (fun acc s₃=>wpAny (model X.prog X.w) X.A (newFunctionEnv scope X.env.globals (l6 X.env.cells scope.names []) [] X.env.qual none .none (some X.env)) (fun cenv s₄=>
  codeAny (model X.prog X.w) X.A (.compStart (.ListComp elt [⟨tg,iter,ifs,0⟩] scope pos) 0 (.ref it) acc {cenv with scope:=relabel scope X.env}) (RR acc cenv.locals) s₄) E s₃) E s2:=by
 refine wpAny_newObj_type (wpAny_newFunctionEnv O.vj (by intro y hy;simp at hy) (fun h₁ qZ rj=>?_) O.kind)
 dsimp only at qZ rj⊢
 have hD:H1 s2.heap.objs.size=none:=I2.hok.fresh (Do _)
 obtain⟨W,⟨m0,w0⟩,turn⟩:=h s2.heap.objs.size hD
 have I3:Inv X pins σ (upd H1 s2.heap.objs.size (.lst [])) {s2 with heap:=s2.heap.push {cls:=.type "list",dict:=none,data:=.seq ([]:List Value).toArray}}:=
  I2.laid (t':=s2.toks) (fun b u e=>FM _ e) (Do _) ⟨KM _,[],0,.nil,N0 _ rfl⟩
 have Ot:∀b∈fp,b<s2.heap.objs.size:=fun b hb=>by
  obtain⟨o,e,_⟩:=T.obj _ _ st2 b hb
  exact Fs e
 have f3:∀b∈fp,mX X pins (upd H1 s2.heap.objs.size (.lst [])) b:=fun b hb=>by
  obtain⟨q0,q⟩:=f2 b hb
  exact⟨by rw[ao (Kk (Ot b hb))];exact q0,q⟩
 generalize J9:({s2 with heap:=s2.heap.push {cls:=.type "list",dict:=none,data:=.seq ([]:List Value).toArray}}:Shared)=s3 at I3
 have iL:s3.heap=s2.heap.push {cls:=.type "list",dict:=none,data:=.seq ([]:List Value).toArray}:=by rw[←J9]
 have hsz:s3.heap.objs.size=s2.heap.objs.size+1:=by rw[iL,Heap.size_push]
 have old:∀b o,s3.heap.get? b=some o->h₁.get? b=some o:=fun b o e=>
  rj.extBut b o (by rw[←iL];exact Kk (Fs e)) (FM _ (by rw[←iL];exact e))
 have J4:Inv (aI X scope s3.heap.objs.size xs N' s3 (upd H1 s2.heap.objs.size (.lst [])) fp) [] (xs.map (fun _=>none)++σ) (upd H1 s2.heap.objs.size (.lst [])) {s3 with heap:=h₁,toks:=s2.toks+([]:List (Str×Value)).length}:=
  x9 I3 O f3 (fun b hb=>by rw[hsz];exact Nat.lt_succ_of_lt (Ot b hb)) (by rw[iL];exact qZ) old
 have WQ:({s3 with heap:=h₁,toks:=s2.toks+([]:List (Str×Value)).length}:Shared)={s2 with heap:=h₁,toks:=s2.toks+([]:List (Str×Value)).length}:=by rw[←J9]
 rw[WQ]at J4
 have T5:tn 0 h₁:=T.keep _ _ _ st2 fun b hb o e=>old b o (by rw[iL];exact FM _ e)
 have hC:(s2.heap.push {cls:=.type "list",dict:=none,data:=.seq ([]:List Value).toArray}).objs.size=s3.heap.objs.size:=by rw[iL]
 have Ou:∀{H':Hp},(∀b∈fp,H' b=none)->∀b∈fp,mX (aI X scope s3.heap.objs.size xs N' s3 (upd H1 s2.heap.objs.size (.lst [])) fp) [] H' b:=fun hn b hb=>
  ⟨hn b hb,Kk (by rw[hsz];exact Nat.lt_succ_of_lt (Ot b hb)),J4.ok.Ec b hb,.inl hb,fun x c e=>((J4.ok.VM b hb).2 x c e),fun p hp=>absurd (show p∈([]:List (Addr×Obj))from hp) (by simp)⟩
 have loop:codeAny (model X.prog X.w) X.A (.compLoop (.ListComp elt [⟨tg,iter,ifs,0⟩] scope pos) 0 (.ref it) (.ref s2.heap.objs.size) (compEnvC scope (l6 X.env.cells scope.names []) s3.heap.objs.size X.env))
  (RR (.ref s2.heap.objs.size) s3.heap.objs.size) {s2 with heap:=h₁,toks:=s2.toks+([]:List (Str×Value)).length}:=by
  refine m5 (fun n s'=>∃(i:Nat) (v0:List (Option V)) (H':Hp),v0.length=xs.length/\Inv (aI X scope s3.heap.objs.size xs N' s3 (upd H1 s2.heap.objs.size (.lst [])) fp) [] (v0++σ) H' s'/\tn i s'.heap/\(∀b∈fp,H' b=none)/\W i n H') ?_ m0
   ⟨0,xs.map (fun _=>none),_,Ap _,J4,T5,fun b hb=>(f3 b hb).1,w0⟩
  rintro n s5 ⟨i,v0,H5,hv0,I5,JO,N5,w5⟩
  rcases turn i n H5 w5 with⟨stop,qn⟩|⟨go,step⟩
  ·refine bT (T.done (aI X scope s3.heap.objs.size xs N' s3 (upd H1 s2.heap.objs.size (.lst [])) fp) rfl rfl rfl hc i [] s5 (v0++σ) H5 _ I5 (Ou N5) JO stop) ?_
   rintro r s6 ⟨hr,I6⟩
   subst hr
   obtain⟨m,hnm,_⟩:=I6.loc
   refine hRR _ _ s6 H5 ⟨m,hnm⟩ (fun h' Ew=>?_) (Do _) (by rw[hsz];exact Nat.le_succ _) qn
   have Ov:∀b o,s3.heap.get? b=some o->b≠s3.heap.objs.size:=fun b o e=>Kk (Fs e)
   have u:=I6.base
   have WR:=I3.FQ (s':={s6 with heap:=h'}) (H':=H5) (ch:=fp) I6.os ⟨fun b o e n hb hx=>Ew.extBut b _ (Ov b o e) (u.keep b o e n hb hx),fun b o e n hb hx=>by
    obtain⟨sl,q⟩:=u.slot b o e n hb hx
    exact⟨sl,Ew.extBut b _ (Ov b o e) q⟩,u.free,fun b o e hx=>by
    obtain⟨o',q⟩:=u.there b o e hx
    exact⟨o',Ew.extBut b _ (Ov b o e) q⟩,u.tups,u.mV,u.oA⟩ (fun a o e=>?_) I6.bare (fun b hb=>?_)
   ·exact WR
   ·have T6:∀b u,H5 b=some u->b≠s3.heap.objs.size:=fun b u e z=>by
     subst z
     have:=I6.free
     have e2:H5 s3.heap.objs.size=none:=this
     rw[e2]at e
     cases e
    refine(I6.hok a o e).stay (fun b u hb q=>Ew.extBut b u ?_ q) (fun _ q=>q) fun _ _ q=>q
    rcases hb with rfl|hb
    ·exact T6 _ _ e
    ·exact T6 _ _ hb
   ·obtain⟨q0,q1,q2,q3,q4,q5⟩:=f3 b hb
    exact⟨q3,q1,q4,q5⟩
  ·refine bT (T.item (aI X scope s3.heap.objs.size xs N' s3 (upd H1 s2.heap.objs.size (.lst [])) fp) rfl rfl rfl hc i [] s5 (v0++σ) H5 _ I5 (Ou N5) JO go) ?_
   rintro r s6 ⟨u,hr,h6⟩
   subst hr
   refine bT h6 ?_
   rintro _ s7 ⟨x,H7,I7,r7,y7,Ow,WU⟩
   have WV:=I7.pinned (Ou WU) (T.obj _ _ Ow)
   refine bT (hg _ _ _ _ _ s7 (v0++σ) H7 x u _ WV r7 (step x H7 y7 v0 hv0)) ?_
   rintro _ s8 ⟨σ8,H8,I8,v1,hv1,e8,q8⟩
   subst e8
   have fin:∀{s9:Shared} {H9:Hp},Inv (aI X scope s3.heap.objs.size xs N' s3 (upd H1 s2.heap.objs.size (.lst [])) fp) ([]++oB fp s7.heap) (v1++σ) H9 s9->(∃m',m'<n/\W (i+1) m' H9)->
    ∃m,m<n/\∃(i:Nat) (v0:List (Option V)) (H':Hp),v0.length=xs.length/\Inv (aI X scope s3.heap.objs.size xs N' s3 (upd H1 s2.heap.objs.size (.lst [])) fp) [] (v0++σ) H' s9/\tn i s9.heap/\(∀b∈fp,H' b=none)/\W i m H':=fun{s9 H9} I9 ⟨m',hm,w9⟩=>by
    refine⟨m',hm,i+1,v1,H9,hv1,I9.jL,T.keep _ _ _ Ow fun b hb o e=>(I9.pin (b,o) (Fn _ (Fn _ (eX hb e)))).1,fun b hb=>?_,w9⟩
    obtain⟨o,e,d⟩:=T.obj _ _ Ow b hb
    exact(I9.pin (b,o) (Fn _ (Fn _ (eX hb e)))).2.1
   refine bT (hf _ _ _ _ _ s8 (v1++σ) H8 _ I8 q8) ?_
   rintro ok s9 ⟨H9,I9,q9⟩
   cases ok with
   |false=>exact fin I9 q9
   |true=>
    show wpAny _ _ _ _ _ _
    refine bT (he _ _ _ _ _ s9 (v1++σ) H9 _ I9 q9) ?_
    rintro y WW ⟨vy,WX,WY,WZ,ys,hys,hl,W0⟩
    refine bT (oH (X:=aI X scope s3.heap.objs.size xs N' s3 (upd H1 s2.heap.objs.size (.lst [])) fp) _ WW (v1++σ) WX (.ref s2.heap.objs.size) [vy] _ [y] (fun _ H'=>∃m',m'<n/\W (i+1) m' H') WY rfl (.cons WZ .nil) ⟨_,ys,vy,rfl,rfl,hys,hl,W0⟩) ?_
    rintro _ s11 ⟨_,H11,W2,_,W3⟩
    exact fin W2 W3
 rw[hC]
 exact codeAny_compStart_list loop (T.self X.A 0 _ _ _ T5 loop)
theorem Ka{tg iter elt:Expr}{ifs:List Expr}{scope:Scope}(xs N':List Str){pos:Pos}{wi:TI}{g:TG}{tc:TT}{te:TE}(hc:X.calm=true)(ho:gf scope X.env.scope X.N N' xs=true)(hi:PI X tg iter wi)
 (hg:∀C s0 H0 fp,PG (aI X scope C xs N' s0 H0 fp) tg g) (hf:∀C s0 H0 fp,PF (aI X scope C xs N' s0 H0 fp) ifs tc) (he:∀C s0 H0 fp,PE (aI X scope C xs N' s0 H0 fp) elt te)
 (hs:∀z,foldedSetIterable iter X.env z=pure z:=by intro _;rfl):PE X (.ListComp elt [⟨tg,iter,ifs,0⟩] scope pos) (Gx xs.length wi g tc te):=by
 intro pins s σ H Q I h
 have O:=gC.of ho
 rw[eval_ListComp]
 refine wpAny_comprehension_free (use:=none) rfl hs (qX (l7 I O)) O.kind O.loc (bT (hi pins s σ H _ I h) fun v s1 h1=>bT h1 fun itv s2 h2=>?_)
 obtain⟨it,fp,tn,J,H2,e,I2,T,st2,f2,hq⟩:=h2
 subst e
 refine AL (RR:=fun acc C=>compPost (model X.prog X.w) X.A X.xe none (EP X pins σ Q) acc C) hc O hg hf he I2 T st2 f2 hq ?_
 rintro D C s' H' ⟨m,hm⟩ hI _ _ q
 exact⟨m,hm,fun h' Ew=>⟨.ref D,H',hI h' Ew,rfl,q⟩⟩
end
theorem Ex{bs:List Bool}:∀{us:List Value},Vals (bs.map V.bl) us->us=bs.map Value.bool:=by
 induction bs with
 |nil=>intro us r;rw[List.map_nil]at r;cases r;rfl
 |cons b bs ih=>
  intro us r
  rw[On]at r
  cases r with
  |cons r1 r2=>
   have e:_=Value.bool b:=r1
   rw[e,ih r2]
   rfl
theorem AM(bs:List Bool):((List.range bs.length).all fun i=>(bs[i]?).getD true)=bs.all id:=by
 rw[Bool.eq_iff_iff,Hn,Hn]
 constructor
 ·intro h b hb
  obtain⟨i,hi,rfl⟩:=List.getElem_of_mem hb
  have:=h i (eA.mpr hi)
  simp only[BM hi,Option.getD_some]at this
  exact this
 ·intro h i hi
  have hi':=eA.mp hi
  simp only[BM hi',Option.getD_some]
  exact h _ (PP hi')
section
variable{X:Cx}
theorem Ey(hc:X.calm=true):gj X (.builtin "sum") (fun xs H Q=>∃(p:Addr) (ns:List Int),xs=[.ref p]/\kR X.K H p (ns.map V.int)/\Q (.int ns.sum) H):=by
 intro pins s σ H xs us Q I r h
 obtain⟨p,ns,rfl,hS,q⟩:=h
 obtain⟨u,rfl,ru⟩:=Vals.one r
 cases(show u=Value.ref p from ru)
 obtain⟨its,rv,pl,_⟩:=I.list hS
 have hi:=intsAre_of rv
 obtain⟨xs,hx⟩:=hi.allInts.items
 have hl':s.heap.IsList p (intItems xs):=hx▸pl.isList
 refine sum_intListG (I.ok.hd hc) hl' fun h' tk t' hk=>?_
 have e1:ns=xs.toList.map (·.1):=by
  rw[←nums_intItems,←hx]
  exact(show numsOf its.toArray.toList=ns from hi.numsOf).symm
 have e2:preSum (numAt xs) xs.size=ns.sum:=by
  rw[preSum_eq,List.take_of_length_le (by simp),e1]
 rw[e2]
 exact⟨.int ns.sum,H,I.kept hk,⟨_,rfl⟩,q⟩
theorem Ez(hc:X.calm=true):gj X (.builtin "all") (fun xs H Q=>∃(p:Addr) (bs:List Bool),xs=[.ref p]/\kR X.K H p (bs.map V.bl)/\Q (.bl (bs.all id)) H):=by
 intro pins s σ H xs us Q I r h
 obtain⟨p,bs,rfl,hS,q⟩:=h
 obtain⟨u,rfl,ru⟩:=Vals.one r
 cases(show u=Value.ref p from ru)
 obtain⟨its,rv,pl,_⟩:=I.list hS
 have hb:=Ex rv
 have hl:=pl.isList
 have hlt:p<s.heap.objs.size:=by obtain⟨_,e,_⟩:=hl;exact Fs e
 refine call_all_walk (wpAny_pyIter_list hl ?_)
 refine⟨s.heap.objs.size,[s.heap.objs.size,p],[s.heap.objs.size],its.toArray.size,_,_,fun i=>(bs[i]?).getD true,rfl,Walks.list (A:=X.A.in1) (I.ok.hd hc) _ p (Kk hlt) its.toArray,
  ⟨⟨_,N0 _ rfl,rfl,rfl⟩,hl.push _⟩,fun i v s' Q' E' hP hQ=>?_,fun h' tk hk=>?_⟩
 ·have hv:its[i]?=some v:=by simpa using hP
  rw[hb,FR]at hv
  cases e:bs[i]? with
  |none=>rw[e]at hv;cases hv
  |some b=>
   rw[e]at hv
   simp only[e,Option.getD_some]at hQ
   have:v=Value.bool b:=(KE hv).symm
   subst this
   exact wpAny_truthy_bool hQ
 ·have e:((List.range its.toArray.size).all fun i=>(bs[i]?).getD true)=bs.all id:=by
   have el:its.toArray.size=bs.length:=by rw[Fu,hb,Ap]
   rw[el]
   exact AM bs
  rw[e]
  exact⟨.bl _,H,I.kept fun b o z=>hk b o (fun hm=>by rw[Fm.mp hm]at z;exact SU _ (Fs z)) (FM _ z),rfl,q⟩
theorem ya{tg iter elt:Expr}{ifs:List Expr}{scope:Scope}{xs N':List Str}{pos:Pos}{g:TG}{tc:TT}{te:TE}(hc:X.calm=true)(O:gC scope X.env.scope X.N N' xs)
 (hg:∀C s0 H0 fp,PG (aI X scope C xs N' s0 H0 fp) tg g) (hf:∀C s0 H0 fp,PF (aI X scope C xs N' s0 H0 fp) ifs tc) (he:∀C s0 H0 fp,PE (aI X scope C xs N' s0 H0 fp) elt te)
 {pins:List (Addr×Obj)} {σ:St} {H1:Hp} {s2:Shared} {it:Addr} {fp:List Addr} {tn:Nat->Heap->Prop} {J:It} {Q:VK} {E:Value->Shared->Prop} {RR:Value->Addr->Result->Shared->Prop}
 (I2:Inv X pins σ H1 s2) (T:Turn X.prog X.w X.K tg J fp it tn) (st2:tn 0 s2.heap) (f2:∀b∈fp,mX X pins H1 b)
 (h:∀D,H1 D=none->∃W:Nat->Nat->Hp->Prop,(∃m,W 0 m (upd H1 D (.lst [])))/\∀i m H2,W i m H2->
   (J.stop i H2/\Q (.ref D) H2)\/(J.go i H2/\∀x H3,J.RZ i H2 x H3->∀v0:List (Option V),v0.length=xs.length->g x (v0++σ) H3 fun σ2 H4=>∃v1:List (Option V),v1.length=xs.length/\σ2=v1++σ/\
     tc σ2 H4 fun b H5=>if b=true then te σ2 H5 fun y H6=>∃ys,H6 D=some (.lst ys)/\ys.length<sizeLine/\∃m',m'<m/\W (i+1) m' (upd H6 D (.lst (ys++[y])))else∃m',m'<m/\W (i+1) m' H5))
 (hRR:∀D C s' H',(∃m,s'.heap.Ns C m)->(∀h',Heap.SameBut C s'.heap h'->Inv X pins σ H' {s' with heap:=h'})->s2.heap.objs.size<=D->s2.heap.objs.size<=C->H' C=none->Q (.ref D) H'->RR (.ref D) C (.ok .next) s'):
 wpAny (model X.prog X.w) X.A (newList []) (fun acc s₃=>wpAny (model X.prog X.w) X.A (newFunctionEnv scope X.env.globals (l6 X.env.cells scope.names []) [] X.env.qual none .none (some X.env)) (fun cenv s₄=>
  codeAny (model X.prog X.w) X.A (.compStart (.ListComp elt [⟨tg,iter,ifs,0⟩] scope pos) 0 (.ref it) acc {cenv with scope:=relabel scope X.env}) (RR acc cenv.locals) s₄) E s₃) E s2:=by
 refine wpAny_newObj_type (wpAny_newFunctionEnv O.vj (by intro y hy;simp at hy) (fun h₁ qZ rj=>?_) O.kind)
 dsimp only at qZ rj⊢
 have hD:H1 s2.heap.objs.size=none:=I2.hok.fresh (Do _)
 obtain⟨W,⟨m0,w0⟩,turn⟩:=h s2.heap.objs.size hD
 have I3:Inv X pins σ (upd H1 s2.heap.objs.size (.lst [])) {s2 with heap:=s2.heap.push {cls:=.type "list",dict:=none,data:=.seq ([]:List Value).toArray}}:=
  I2.laid (t':=s2.toks) (fun b u e=>FM _ e) (Do _) ⟨KM _,[],0,.nil,N0 _ rfl⟩
 have Ot:∀b∈fp,b<s2.heap.objs.size:=fun b hb=>by
  obtain⟨o,e,_⟩:=T.obj _ _ st2 b hb
  exact Fs e
 have f3:∀b∈fp,mX X pins (upd H1 s2.heap.objs.size (.lst [])) b:=fun b hb=>by
  obtain⟨q0,q⟩:=f2 b hb
  exact⟨by rw[ao (Kk (Ot b hb))];exact q0,q⟩
 generalize J9:({s2 with heap:=s2.heap.push {cls:=.type "list",dict:=none,data:=.seq ([]:List Value).toArray}}:Shared)=s3 at I3
 have iL:s3.heap=s2.heap.push {cls:=.type "list",dict:=none,data:=.seq ([]:List Value).toArray}:=by rw[←J9]
 have hsz:s3.heap.objs.size=s2.heap.objs.size+1:=by rw[iL,Heap.size_push]
 have old:∀b o,s3.heap.get? b=some o->h₁.get? b=some o:=fun b o e=>
  rj.extBut b o (by rw[←iL];exact Kk (Fs e)) (FM _ (by rw[←iL];exact e))
 have J4:Inv (aI X scope s3.heap.objs.size xs N' s3 (upd H1 s2.heap.objs.size (.lst [])) fp) [] (xs.map (fun _=>none)++σ) (upd H1 s2.heap.objs.size (.lst [])) {s3 with heap:=h₁,toks:=s2.toks+([]:List (Str×Value)).length}:=
  x9 I3 O f3 (fun b hb=>by rw[hsz];exact Nat.lt_succ_of_lt (Ot b hb)) (by rw[iL];exact qZ) old
 have WQ:({s3 with heap:=h₁,toks:=s2.toks+([]:List (Str×Value)).length}:Shared)={s2 with heap:=h₁,toks:=s2.toks+([]:List (Str×Value)).length}:=by rw[←J9]
 rw[WQ]at J4
 have T5:tn 0 h₁:=T.keep _ _ _ st2 fun b hb o e=>old b o (by rw[iL];exact FM _ e)
 have hC:(s2.heap.push {cls:=.type "list",dict:=none,data:=.seq ([]:List Value).toArray}).objs.size=s3.heap.objs.size:=by rw[iL]
 have Ou:∀{H':Hp},(∀b∈fp,H' b=none)->∀b∈fp,mX (aI X scope s3.heap.objs.size xs N' s3 (upd H1 s2.heap.objs.size (.lst [])) fp) [] H' b:=fun hn b hb=>
  ⟨hn b hb,Kk (by rw[hsz];exact Nat.lt_succ_of_lt (Ot b hb)),J4.ok.Ec b hb,.inl hb,fun x c e=>((J4.ok.VM b hb).2 x c e),fun p hp=>absurd (show p∈([]:List (Addr×Obj))from hp) (by simp)⟩
 have loop:codeAny (model X.prog X.w) X.A (.compLoop (.ListComp elt [⟨tg,iter,ifs,0⟩] scope pos) 0 (.ref it) (.ref s2.heap.objs.size) (compEnvC scope (l6 X.env.cells scope.names []) s3.heap.objs.size X.env))
  (RR (.ref s2.heap.objs.size) s3.heap.objs.size) {s2 with heap:=h₁,toks:=s2.toks+([]:List (Str×Value)).length}:=by
  refine m5 (fun n s'=>∃(i:Nat) (v0:List (Option V)) (H':Hp),v0.length=xs.length/\Inv (aI X scope s3.heap.objs.size xs N' s3 (upd H1 s2.heap.objs.size (.lst [])) fp) [] (v0++σ) H' s'/\tn i s'.heap/\(∀b∈fp,H' b=none)/\W i n H') ?_ m0
   ⟨0,xs.map (fun _=>none),_,Ap _,J4,T5,fun b hb=>(f3 b hb).1,w0⟩
  rintro n s5 ⟨i,v0,H5,hv0,I5,JO,N5,w5⟩
  rcases turn i n H5 w5 with⟨stop,qn⟩|⟨go,step⟩
  ·refine bT (T.done (aI X scope s3.heap.objs.size xs N' s3 (upd H1 s2.heap.objs.size (.lst [])) fp) rfl rfl rfl hc i [] s5 (v0++σ) H5 _ I5 (Ou N5) JO stop) ?_
   rintro r s6 ⟨hr,I6⟩
   subst hr
   obtain⟨m,hnm,_⟩:=I6.loc
   refine hRR _ _ s6 H5 ⟨m,hnm⟩ (fun h' Ew=>?_) (Do _) (by rw[hsz];exact Nat.le_succ _) I6.free qn
   have Ov:∀b o,s3.heap.get? b=some o->b≠s3.heap.objs.size:=fun b o e=>Kk (Fs e)
   have u:=I6.base
   have WR:=I3.FQ (s':={s6 with heap:=h'}) (H':=H5) (ch:=fp) I6.os ⟨fun b o e n hb hx=>Ew.extBut b _ (Ov b o e) (u.keep b o e n hb hx),fun b o e n hb hx=>by
    obtain⟨sl,q⟩:=u.slot b o e n hb hx
    exact⟨sl,Ew.extBut b _ (Ov b o e) q⟩,u.free,fun b o e hx=>by
    obtain⟨o',q⟩:=u.there b o e hx
    exact⟨o',Ew.extBut b _ (Ov b o e) q⟩,u.tups,u.mV,u.oA⟩ (fun a o e=>?_) I6.bare (fun b hb=>?_)
   ·exact WR
   ·have T6:∀b u,H5 b=some u->b≠s3.heap.objs.size:=fun b u e z=>by
     subst z
     have:=I6.free
     have e2:H5 s3.heap.objs.size=none:=this
     rw[e2]at e
     cases e
    refine(I6.hok a o e).stay (fun b u hb q=>Ew.extBut b u ?_ q) (fun _ q=>q) fun _ _ q=>q
    rcases hb with rfl|hb
    ·exact T6 _ _ e
    ·exact T6 _ _ hb
   ·obtain⟨q0,q1,q2,q3,q4,q5⟩:=f3 b hb
    exact⟨q3,q1,q4,q5⟩
  ·refine bT (T.item (aI X scope s3.heap.objs.size xs N' s3 (upd H1 s2.heap.objs.size (.lst [])) fp) rfl rfl rfl hc i [] s5 (v0++σ) H5 _ I5 (Ou N5) JO go) ?_
   rintro r s6 ⟨u,hr,h6⟩
   subst hr
   refine bT h6 ?_
   rintro _ s7 ⟨x,H7,I7,r7,y7,Ow,WU⟩
   have WV:=I7.pinned (Ou WU) (T.obj _ _ Ow)
   refine bT (hg _ _ _ _ _ s7 (v0++σ) H7 x u _ WV r7 (step x H7 y7 v0 hv0)) ?_
   rintro _ s8 ⟨σ8,H8,I8,v1,hv1,e8,q8⟩
   subst e8
   have fin:∀{s9:Shared} {H9:Hp},Inv (aI X scope s3.heap.objs.size xs N' s3 (upd H1 s2.heap.objs.size (.lst [])) fp) ([]++oB fp s7.heap) (v1++σ) H9 s9->(∃m',m'<n/\W (i+1) m' H9)->
    ∃m,m<n/\∃(i:Nat) (v0:List (Option V)) (H':Hp),v0.length=xs.length/\Inv (aI X scope s3.heap.objs.size xs N' s3 (upd H1 s2.heap.objs.size (.lst [])) fp) [] (v0++σ) H' s9/\tn i s9.heap/\(∀b∈fp,H' b=none)/\W i m H':=fun{s9 H9} I9 ⟨m',hm,w9⟩=>by
    refine⟨m',hm,i+1,v1,H9,hv1,I9.jL,T.keep _ _ _ Ow fun b hb o e=>(I9.pin (b,o) (Fn _ (Fn _ (eX hb e)))).1,fun b hb=>?_,w9⟩
    obtain⟨o,e,d⟩:=T.obj _ _ Ow b hb
    exact(I9.pin (b,o) (Fn _ (Fn _ (eX hb e)))).2.1
   refine bT (hf _ _ _ _ _ s8 (v1++σ) H8 _ I8 q8) ?_
   rintro ok s9 ⟨H9,I9,q9⟩
   cases ok with
   |false=>exact fin I9 q9
   |true=>
    show wpAny _ _ _ _ _ _
    refine bT (he _ _ _ _ _ s9 (v1++σ) H9 _ I9 q9) ?_
    rintro y WW ⟨vy,WX,WY,WZ,ys,hys,hl,W0⟩
    refine bT (oH (X:=aI X scope s3.heap.objs.size xs N' s3 (upd H1 s2.heap.objs.size (.lst [])) fp) _ WW (v1++σ) WX (.ref s2.heap.objs.size) [vy] _ [y] (fun _ H'=>∃m',m'<n/\W (i+1) m' H') WY rfl (.cons WZ .nil) ⟨_,ys,vy,rfl,rfl,hys,hl,W0⟩) ?_
    rintro _ s11 ⟨_,H11,W2,_,W3⟩
    exact fin W2 W3
 rw[hC]
 exact codeAny_compStart_list loop (T.self X.A 0 _ _ _ T5 loop)
theorem Kc{i:Nat}{x:Str}{tg iter elt:Expr}{ifs:List Expr}{scope:Scope}{pos' pos spos:Pos}(xs N':List Str){wi:TI}{g:TG}{tc:TT}{te:TE}(hN:X.N.Nodup)(hi:X.N[i]?=some x)(hx:Loc X.env.scope x)(hc:X.calm=true)(ho:gf scope X.env.scope X.N N' xs=true)(T7:PI X tg iter wi)
 (hg:∀C s0 H0 fp,PG (aI X scope C xs N' s0 H0 fp) tg g) (hf:∀C s0 H0 fp,PF (aI X scope C xs N' s0 H0 fp) ifs tc) (he:∀C s0 H0 fp,PE (aI X scope C xs N' s0 H0 fp) elt te)
 (hsw:swapsWith (.ListComp elt [⟨tg,iter,ifs,0⟩] scope pos) (some (.Name x pos')) spos.line X.env=pure true:=by rfl)
 (hs:∀z,foldedSetIterable iter X.env z=pure z:=by intro _;rfl) (hfn:X.fn x=true\/X.env.scope.names.lookup x=some .local:=by first|exact .inl rfl|exact .inr rfl|assumption):
 PS X (.Assign [.Name x pos'] (.ListComp elt [⟨tg,iter,ifs,0⟩] scope pos) spos) (qR (Gx xs.length wi g tc te) (jy i)):=by
 intro pins s σ H W I h
 have O:=gC.of ho
 rw[exec_Assign_Name_used _ _ _ _ hsw]
 refine He (wpAny_standAt (He ?_))
 show wpAny _ X.A (do let _←comprehension (.ListComp elt [⟨tg,iter,ifs,0⟩] scope pos) scope X.env _ (newList []) false (eval iter X.env) (some (assign (.Name x pos') X.env))) _ _ s
 refine He (wpAny_mono (wpAny_comprehension_free (use:=some (assign (.Name x pos') X.env)) (Q:=fun _ s'=>SP X pins W .next s') rfl hs (qX (l7 I O)) O.kind O.loc (bT (T7 pins s σ H _ I h) fun v s1 h1=>bT h1 fun itv s2 h2=>?_)) (fun _ s' hq=>PH (PH hq)) fun _ _ e=>e)
 obtain⟨it,fp,tn,J,H2,e,I2,T,st2,f2,hq⟩:=h2
 subst e
 refine ya (Q:=fun x H1=>jy i x σ H1 W.nx) (RR:=fun acc C=>compPost (model X.prog X.w) X.A X.xe (some (assign (.Name x pos') X.env)) (fun _ s'=>SP X pins W .next s') acc C) hc O hg hf he I2 T st2 f2 hq ?_
 rintro D C s' H' ⟨m,hm⟩ hI _ hC fC q
 have I':Inv X pins σ H' s':=hI s'.heap ⟨rfl,fun _ _=>rfl⟩
 have lt:∀b o,s2.heap.get? b=some o->b≠C:=fun b o e=>Kk (GE (Fs e) hC)
 have nL:C≠X.env.locals:=fun e=>by
  obtain⟨m2,hn2,_⟩:=I2.loc
  obtain⟨o,_,_,ho2,_⟩:=hn2
  exact lt _ o ho2 e.symm
 have nC:∀y c,X.env.cells.lookup y=some c->c≠C:=fun y c e z=>by
  obtain⟨v,o,e1,_⟩:=I2.cell y c e
  exact lt _ o e1 z
 have nP:∀p∈X.pn++pins,p.1≠C:=fun p hp z=>lt _ _ (I2.pin p hp).1 z
 show wpAny _ X.A (assign (.Name x pos') X.env (.ref D)) _ _ _
 refine wpAny_assign_Name (um I' hN hi hx (v:=.ref D) rfl (fun s'' W4 hsm=>?_) hfn)
 obtain⟨a,Ew,ha⟩:=hsm
 have aC:a≠C:=by
  rcases ha with rfl|ha
  ·exact Q1 nL
  ·exact nC x a ha
 refine⟨m,hm.sameBut Ew (Q1 aC),fun h' hs'=>⟨_,H',?_,q⟩⟩
 refine W4.FQ (s':={s'' with heap:=h'}) (H':=H') (ch:=[C]) rfl ⟨fun b o e n hb hx=>hs'.extBut b o (fun z=>hx (by rw[z];exact Fm.mpr rfl)) e,fun b o e n hb hx=>⟨o.slots,hs'.extBut b o (fun z=>hx (by rw[z];exact Fm.mpr rfl)) e⟩,fun b o e n hx=>n,fun b o e hx=>⟨o,hs'.extBut b o (fun z=>hx (by rw[z];exact Fm.mpr rfl)) e⟩,fun b xs q=>q,fun b o u q=>q,fun b ps q=>⟨#[],by rw[Array.append_empty];exact q⟩⟩ (fun a o e=>?_) W4.bare (fun b hb=>?_)
 ·refine(W4.hok a o e).stay (fun b u hb q=>hs'.extBut b u ?_ q) (fun _ q=>q) fun _ _ q=>q
  rintro rfl
  rcases hb with rfl|hb
  ·rw[fC]at e;cases e
  ·rw[fC]at hb;cases hb
 ·rw[Fm.mp hb]
  exact⟨.inr (Dx I2.sz hC),nL,fun y c e z=>nC y c e z,nP⟩
theorem Kd:WC X "int.bit_length" (fun x xs H Q=>∃i:Int,x=.int i/\xs=[]/\Q (.int (Builtin.Int.intBits i:Nat)) H):=by
 intro pins s σ H x xs v us Q I rx rv h
 obtain⟨i,rfl,rfl,q⟩:=h
 obtain⟨t,rfl⟩:=rx
 cases rv
 exact call_gives F.slot_int_bit_length (typeIs_int s i t) F.entry_int_bit_length (F.args_int_bit_length_1 _) (PySem.AutoIntG2.int_bit_length_int_0 i t) (show EP X pins σ Q (.int _ _) _ from⟨.int _,H,I.tok _,⟨_,rfl⟩,q⟩)
noncomputable def VU(lo st:Int)(n:Nat):It:=⟨fun i _=>i<n,fun i H x H'=>H'=H/\x=.int (lo+i*st),fun i _=>n<=i⟩
theorem yb{P:Program}{w:World}{K:PySem.W.Frag}{tg:Expr}(it:Addr)(lo st:Int)(n:Nat):Turn P w K tg (VU lo st n) [it] it (fun i h=>IsRangeIter h it (lo+(i:Nat)*st) ((n:Int) -(i:Nat)) st)where
 mem:=by simp
 obj:=fun i h st b hb=>by
  have e:b=it:=by simpa using hb
  subst e
  exact⟨_,st,fun v z=>by
   have z':Data.fields _=Data.cell v:=z
   cases z'⟩
 keep:=fun i h h' st k=>k it (by simp) _ st
 item:=by
  intro X hP hw hK hc i pins s σ H E I hf W5 hg
  subst hP hw hK
  obtain⟨f0,f1,f2,f3,f4,f5⟩:=hf it (by simp)
  have W:=Walks.range (prog:=X.prog) (w:=X.w) (I.ok.hd hc) it lo st n
  refine W.item i s _ _ hg W5 fun v h' tk hv st' kk=>?_
  obtain⟨t,rfl⟩:=hv
  have I1:Inv X pins σ H {s with heap:=h',toks:=tk}:=I.turned (fun b o hb e=>kk b o (by simpa using hb) e) f0 f1 f3 f4 f5
  exact⟨_,rfl,xS (s:={s with heap:=h',toks:=tk}) (n:="range_iterator") st' rfl rfl (by decide) ⟨.int (lo+i*st),H,I1,⟨t,rfl⟩,⟨rfl,rfl⟩,st',fun b hb=>(hf b hb).1⟩⟩
 done:=by
  intro X hP hw hK hc i pins s σ H E I hf W5 hg
  subst hP hw hK
  obtain⟨f0,f1,f2,f3,f4,f5⟩:=hf it (by simp)
  exact wpAny_pyNext_range_end (I.ok.hd hc) W5 (by have:n<=i:=hg;omega) fun h' eb=>⟨rfl,I.turned (t':=s.toks) (fun b o hb e=>eb b o hb e) f0 f1 f3 f4 f5⟩
 self:=fun _ _ _ _ _ st h=>wpAny_pyIter_rangeiter st h
theorem EA{tg:Expr}{pins:List (Addr×Obj)}{σ:St}{H:Hp}{s:Shared}{R:It->Hp->Prop}{E:Value->Shared->Prop}{lo hi st:Int}{n:Nat}{t u v:Tok}{tk:Nat}(I:Inv X pins σ H s)(hs:Builtin.Range.small lo hi st=true)(hn:Builtin.Range.rangeSize lo hi st=(n:Int))
 (q:R (VU lo st n) H):wpAny (model X.prog X.w) X.A (pyIter (.ref s.heap.objs.size)) (Wt X pins σ tg R) E {s with heap:=s.heap.push {cls:=.type "range",data:=.fields #[.int lo t,.int hi u,.int st v]},toks:=tk}:=by
 refine wpAny_pyIter_range (IsRange.new ..) hs ?_
 have I1:Inv X pins σ H {s with heap:=s.heap.push {cls:=.type "range",data:=.fields #[.int lo t,.int hi u,.int st v]},toks:=tk}:=I.kept fun b o e=>FM _ e
 refine⟨(s.heap.push {cls:=.type "range",data:=.fields #[.int lo t,.int hi u,.int st v]}).objs.size,[(s.heap.push {cls:=.type "range",data:=.fields #[.int lo t,.int hi u,.int st v]}).objs.size],_,_,H,rfl,
  I1.kept (t':=tk) fun b o e=>FM _ e,yb _ lo st n,?_,fun b hb=>?_,q⟩
 ·have e1:lo+((0:Nat):Int)*st=lo:=by simp
  have e2:(n:Int) -((0:Nat):Int)=Builtin.Range.rangeSize lo hi st:=by rw[hn];simp
  show IsRangeIter _ _ (lo+((0:Nat):Int)*st) ((n:Int) -((0:Nat):Int)) st
  rw[e1,e2]
  exact N0 _ rfl
 ·have e:b=(s.heap.push {cls:=.type "range",data:=.fields #[.int lo t,.int hi u,.int st v]}).objs.size:=by simpa using hb
  subst e
  exact I1.Aq (Do _) (I1.hok.fresh (Do _))
noncomputable def T8(ta:TA):TI:=fun σ H R=>ta σ H fun vs H1=>∃(i j k:Int) (n:Nat),vs=[.int i,.int j,.int k]/\(k≠0/\k.natAbs<1073741824/\Builtin.Range.small i j k=true/\Builtin.Range.rangeSize i j k=(n:Int))/\R (VU i k n) H1
theorem EB{tg a b c:Expr}{ta:TA}{p pos:Pos}(hg:Gl X "range")(hm:X.mg "range"=none)(ha:PA X [a,b,c] ta)(hs:starEach [a,b,c] X.env=[(false,eval a X.env),(false,eval b X.env),(false,eval c X.env)]:=by rfl)(hs2:starEach [b,c] X.env=[(false,eval b X.env),(false,eval c X.env)]:=by rfl):
 PI X tg (.Call (.Name "range" p) [a,b,c] [] pos) (T8 ta):=by
 intro pins s σ H R I h
 refine Call_ (lX I hg hm boot_range (SL (bT (ha pos pins s σ H _ I h) fun us s1 ⟨vs,H1,I1,r1,q1⟩=>?_) (by rw[hs,hs2]) (by rw[hs2];rfl)))
 obtain⟨i,j,k,n,e,⟨q1,q2,q3,q4⟩,q⟩:=q1
 subst e
 cases r1 with
 |cons r rr=>
  cases rr with
  |cons r' rr=>
   cases rr with
   |cons r'' rr=>
    cases rr
    obtain⟨t,rfl⟩:=r
    obtain⟨t',rfl⟩:=r'
    obtain⟨t'',rfl⟩:=r''
    exact call_range_3 q1 (EA I1 q3 q4 q) (.inl (PyProof.noPylong_small q2))
end
end L2
namespace L2
open PySem
end L2
namespace L2
open PySem PySem.Spec PyProof.Rows
noncomputable def Dt(X:Cx)(H:Hp)(x:V)(d:PyData):Prop:=
 ∀(pins:List (Addr×Obj)) (σ:St) (s:Shared) (u:Value),Inv X pins σ H s->RelV x u->∃as,Reads s.heap u d as
section
variable{X:Cx}{H:Hp}
theorem Ox(i:Int):Dt X H (.int i) (.int i):=fun _ _ s u _ r=>by
 obtain⟨t,rfl⟩:=r
 exact⟨_,.int i t⟩
theorem T9(b:Bool):Dt X H (.bl b) (.bool b):=fun _ _ s u _ r=>by
 cases(show u=Value.bool b from r)
 exact⟨_,.bool b⟩
theorem Oz(x:Str):Dt X H (.str x) (.str x):=fun _ _ s u _ r=>by
 obtain⟨t,rfl⟩:=r
 exact⟨_,.str x t⟩
theorem OA:Dt X H .aX .none:=fun _ _ s u _ r=>by
 cases(show u=Value.none from r)
 exact⟨_,.none⟩
theorem AN{pins:List (Addr×Obj)}{σ:St}{s:Shared}(I:Inv X pins σ H s):∀{xs:List V} {ds:List PyData} {us:List Value},Paired (Dt X H) xs ds->Vals xs us->∃as,ReadsAll s.heap us ds as
 |_,_,_,.nil,.nil=>⟨_,.nil⟩
 |_,_,_,.cons h t,.cons r rr=>by
  obtain⟨as,q⟩:=h _ _ _ _ I r
  obtain⟨bs,q2⟩:=AN I t rr
  exact⟨_,.cons q q2⟩
theorem Gy{a:Addr}{xs:List V}{ds:List PyData}(h:kR X.K H a xs)(hall:Paired (Dt X H) xs ds):Dt X H (.ref a) (.list ds):=fun _ _ s u I r=>by
 cases(show u=Value.ref a from r)
 obtain⟨its,rv,pl,_⟩:=I.list h
 obtain⟨as,q⟩:=AN I hall rv
 obtain⟨o,ho,hc,n,hd⟩:=pl.isList
 exact⟨_,.list ho hc hd (by simpa using q)⟩
theorem OB{a:Addr}{xs:List V}{ds:List PyData}(h:lY X.K H a xs)(hall:Paired (Dt X H) xs ds):Dt X H (.ref a) (.tuple ds):=fun _ _ s u I r=>by
 cases(show u=Value.ref a from r)
 obtain⟨its,rv,ht,_⟩:=I.tuple h
 obtain⟨as,q⟩:=AN I hall rv
 obtain⟨o,ho,hc,n,hd⟩:=ht
 exact⟨_,.tuple ho hc hd (by simpa using q)⟩
noncomputable def W6(X:Cx):R2:=fun x y H Q=>∃dx dy,Dt X H x dx/\Dt X H y dy/\(SeqAt.shaped dx=true/\SeqAt.shaped dy=true/\SeqAt.noMix dx dy=true)/\Q (.bl (PySem.Spec.same dx dy)) H
noncomputable def W7(X:Cx):R2:=fun x y H Q=>∃dx dy,Dt X H x dx/\Dt X H y dy/\(SeqAt.shaped dx=true/\SeqAt.shaped dy=true/\SeqAt.noMix dx dy=true)/\Q (.bl (!PySem.Spec.same dx dy)) H
theorem OC(hu:X.A.units+64<cLine):oE X (compareOp .Eq) (W6 X):=by
 intro pins s σ H x y v u Q I rx ry h
 obtain⟨dx,dy,h1,h2,⟨q1,q2,q3⟩,q⟩:=h
 obtain⟨as,r1⟩:=h1 _ _ _ _ I rx
 obtain⟨bs,r2⟩:=h2 _ _ _ _ I ry
 exact eq_dataH_same r1 r2 q1 q2 hu q3 ⟨.bl _,H,I,rfl,q⟩
theorem OD(hu:X.A.units+64<cLine):oE X (compareOp .NotEq) (W7 X):=by
 intro pins s σ H x y v u Q I rx ry h
 obtain⟨dx,dy,h1,h2,⟨q1,q2,q3⟩,q⟩:=h
 obtain⟨as,r1⟩:=h1 _ _ _ _ I rx
 obtain⟨bs,r2⟩:=h2 _ _ _ _ I ry
 exact ne_dataH_same r1 r2 q1 q2 hu q3 ⟨.bl _,H,I,rfl,q⟩
end
noncomputable def W8(K:PySem.W.Frag)(a:Addr):It:=⟨fun i H=>∃xs x,kR K H a xs/\xs[i]?=some x,fun i H x H'=>∃p y,H p=none/\x=.ref p/\H'=upd H p (.tup [.int i,y])/\∀xs,kR K H a xs->xs[i]?=some y,fun i H=>∃xs,kR K H a xs/\xs.length=i⟩
theorem Inv.Ua{X:Cx}{pins:List (Addr×Obj)}{σ:St}{H:Hp}{s:Shared}{h':Heap}{t':Nat}{ch:List Addr}{p:Addr}{xs:List V}(I:Inv X pins σ H s)(hf:∀b∈ch,mX X pins H b)
 (k:∀b o,b∉ch->s.heap.get? b=some o->h'.get? b=some o) (hp:s.heap.objs.size<=p) (new:dQ X.prog X.w (upd H p (.tup xs)) h' p (.tup xs)) (ht:∀b∈ch,∃o,h'.get? b=some o):Inv X pins σ (upd H p (.tup xs)) {s with heap:=h',toks:=t'}:=by
 have hn:H p=none:=I.hok.fresh hp
 have ME:∀b u,H b=some u->b∉ch:=fun b u e z=>by rw[(hf b z).1]at e;cases e
 have nep:∀b o,s.heap.get? b=some o->b≠p:=fun b o e z=>absurd (GE (Fs e) hp) (by rw[z];exact SU _)
 refine I.step (g':=s.gens) (d':=s.drawn) (ch:=ch) (fun b hb=>?_) (fun b o _ _ hc e _=>k b o hc e) (fun b o _ _ hc e _=>⟨o.slots,k b o hc e⟩) (fun b o _ e n=>by rw[ao (nep b o e)];exact n)
  (fun b o hc e=>⟨o,k b o hc e⟩) (fun b ys e=>by rw[ao (aT e hn)];exact e) (fun b o u e=>by rw[ao (aT e hn)];exact e) (fun b ps e=>⟨#[],by rw[ao (aT e hn),e];simp⟩) (fun m hm=>?_) (fun b u e=>?_) I.bare
 ·obtain⟨f0,f1,f2,f3,f4,f5⟩:=hf b hb
  exact⟨f3,f1,f4,f5⟩
 ·obtain⟨o,es,ep,ho,r⟩:=hm
  exact⟨o,es,ep,k _ o (fun z=>(hf _ z).2.1 rfl) ho,r⟩
 ·by_cases hb:b=p
  ·subst hb
   rw[aE]at e
   cases e
   exact new
  ·rw[ao hb]at e
   refine(I.hok b u e).stay (fun c v hc q=>k c v ?_ q) (fun c q=>by rw[ao (aT q hn)];exact q) fun c ys q=>by rw[ao (aT q hn)];exact q
   rcases hc with z|z
   ·rw[z];exact ME b u e
   ·exact ME c _ z
theorem EC{P:Program}{w:World}{K:PySem.W.Frag}{elts:List Expr}{kk:Nat}{pos:Pos}(a e it:Addr)(hei:e≠it):
 Turn P w K (.Tuple elts kk pos) (W8 K a) [e,it] e (fun i h=>(∃old,IsEnum h e it i old)/\h.IsListIter it a i)where
 mem:=by simp
 obj:=fun i h st b hb=>by
  obtain⟨⟨old,he⟩,o,ho,c,d⟩:=st
  rcases FV.mp hb with z|z
  ·subst z
   exact⟨_,he,fun v z=>by cases z⟩
  ·rw[Fm.mp z]
   exact⟨o,ho,fun v z=>by rw[d]at z;cases z⟩
 keep:=fun i h h' st k=>by
  obtain⟨⟨old,he⟩,hl⟩:=st
  exact⟨⟨old,k e (by simp) _ he⟩,hl.at fun o x=>k it (by simp) o x⟩
 item:=by
  intro X hP hw hK hc i pins s σ H E I hf st hg
  subst hP hw hK
  obtain⟨xs,x,hq,hx⟩:=hg
  obtain⟨its,rv,p,hz⟩:=I.list hq
  obtain⟨u,hu,ru⟩:=rv.get hx
  obtain⟨⟨old,he⟩,hl⟩:=st
  have hit:=hf it (by simp)
  have hee:=hf e (by simp)
  have hai:a≠it:=fun z=>by
   obtain⟨o,ho,c,d⟩:=hl
   obtain⟨o',ho',c',_⟩:=p.isList
   rw[z,ho]at ho'
   cases ho'
   rw[c]at c'
   exact absurd c' (by decide)
  have hae:a≠e:=fun z=>by
   obtain⟨o',ho',c',_⟩:=p.isList
   have he':s.heap.get? e=some _:=he
   rw[z,he']at ho'
   cases ho'
   exact absurd (show Value.type "enumerate"=Value.type "list"from c') (by decide)
  have D:=Draws.list (prog:=X.prog) (w:=X.w) (A:=X.A.in1) (I.ok.hd hc) it a hai its.toArray
  have W:=WalksT.enumerateD D e hei (by simp[hei,hae.symm]) (by simp)
  have hlt:i<its.toArray.size:=by
   have:=(GM.mp hu).1
   simpa using this
  refine W.item i s _ _ hlt ⟨⟨old,he⟩,hl,p.isList⟩ fun T vals h' tk hPt hT W9 Ub hk=>?_
  obtain⟨t,y,hy,rfl⟩:=hPt
  have hyu:y=u:=by
   have:its[i]?=some y:=by simpa using hy
   rw[hu]at this
   exact(KE this).symm
  subst hyu
  refine⟨.ref T,rfl,W.go elts kk pos i T _ _ _ Ub fun h'' hst hk2=>?_⟩
  have Y5:T∉[e,it]:=W.apart i T h' Ub
  obtain⟨⟨old',he'⟩,hl',_⟩:=hst
  have Uc:IsTup h'' T #[.int i t,y]:=by
   obtain⟨o,ho,c⟩:=W9
   exact⟨o,hk2 T o Y5 ho,c⟩
  have obj:dQ X.prog X.w (upd H T (.tup [.int i,x])) h'' T (.tup [.int i,x]):=⟨ux (by show 2<=100000;decide),[.int i t,y],.cons ⟨t,rfl⟩ (.cons ru .nil),Uc⟩
  have I2:=I.Ua (t':=tk) (ch:=[e,it]) hf (fun b o hb eo=>hk2 b o hb (hk b o hb eo)) hT obj (fun b hb=>by
   rcases FV.mp hb with z|z
   ·rw[z];exact⟨_,he'⟩
   ·rw[Fm.mp z]
    obtain⟨o,ho,_⟩:=hl'
    exact⟨o,ho⟩)
  refine⟨.ref T,upd H T (.tup [.int i,x]),I2,rfl,⟨T,x,I.hok.fresh hT,rfl,rfl,fun ys hy=>by rw[I.qQ hy hq];exact hx⟩,⟨⟨old',he'⟩,hl'⟩,fun b hb=>?_⟩
  rw[ao (show b≠T from fun z=>Y5 (by rw[←z];exact hb))]
  exact(hf b hb).1
 done:=by
  intro X hP hw hK hc i pins s σ H E I hf st hg
  subst hP hw hK
  obtain⟨xs,hq,hx⟩:=hg
  obtain⟨its,rv,p,hz⟩:=I.list hq
  obtain⟨⟨old,he⟩,hl⟩:=st
  obtain⟨f0,f1,f2,f3,f4,f5⟩:=hf it (by simp)
  have hai:a≠it:=fun z=>by
   obtain⟨o,ho,c,d⟩:=hl
   obtain⟨o',ho',c',_⟩:=p.isList
   rw[z,ho]at ho'
   cases ho'
   rw[c]at c'
   exact absurd c' (by decide)
  have D:=Draws.list (prog:=X.prog) (w:=X.w) (A:=X.A.in1) (I.ok.hd hc) it a hai its.toArray
  have hn:its.toArray.size=i:=by
   rw[Fu,←rv.length]
   exact hx
  exact wpAny_pyNext_enum_endD D he ⟨by rw[hn];exact hl,p.isList⟩ fun h' eb=>⟨rfl,I.turned (t':=s.toks) (fun b o hb x=>eb b o hb x) f0 f1 f3 f4 f5⟩
 self:=fun _ _ _ _ _ st h=>by
  obtain⟨⟨old,he⟩,_⟩:=st
  exact wpAny_pyIter_enum he h
section
variable{X:Cx}
noncomputable def Ud(K:PySem.W.Frag)(ta:TA):TI:=fun σ H R=>ta σ H fun vs H1=>∃a,vs=[.ref a]/\(∃xs,kR K H1 a xs)/\R (W8 K a) H1
theorem Ke{a:Expr}{ta:TA}{elts:List Expr}{kk:Nat}{tp p pos:Pos}(hg:Gl X "enumerate")(hm:X.mg "enumerate"=none)(ha:PA X [a] ta)(hv:bootBuiltins "enumerate"=some (.type "enumerate"):=by rfl)(hs:starEach [a] X.env=[(false,eval a X.env)]:=by rfl):
 PI X (.Tuple elts kk tp) (.Call (.Name "enumerate" p) [a] [] pos) (Ud X.K ta):=by
 intro pins s σ H R I h
 refine Call_ (lX I hg hm hv (SL (bT (ha pos pins s σ H _ I h) fun us s1 ⟨vs,H1,I1,r1,q1⟩=>?_) hs rfl))
 obtain⟨l,e,⟨xs,hq⟩,q⟩:=q1
 subst e
 obtain⟨u,rfl,ru⟩:=Vals.one r1
 cases(show u=Value.ref l from ru)
 obtain⟨its,rv,pl,_⟩:=I1.list hq
 refine call_enumerate_list pl.isList fun h' he hl hsz hk=>?_
 refine wpAny_pyIter_enum he ?_
 have I2:Inv X pins σ H1 {s1 with heap:=h'}:=I1.kept (t':=s1.toks) hk
 refine⟨s1.heap.objs.size+1,[s1.heap.objs.size+1,s1.heap.objs.size],_,_,H1,rfl,I2,EC l (s1.heap.objs.size+1) s1.heap.objs.size (Nat.succ_ne_self _),⟨⟨_,he⟩,hl⟩,fun b hb=>?_,q⟩
 rcases FV.mp hb with z|z
 ·rw[z];exact I1.Aq (by lia) (I1.hok.fresh (by lia))
 ·rw[Fm.mp z];exact I1.Aq (Do _) (I1.hok.fresh (Do _))
end
noncomputable def Xa(K:PySem.W.Frag)(a:Addr)(n:Nat):It:=
 ⟨fun i H=>∃xs,kR K H a xs/\xs.length=n/\i<n,fun i H x H'=>H'=H/\∀xs,kR K H a xs->xs.length=n->xs[n -1 -i]?=some x,fun i _=>i=n⟩
theorem Gz{P:Program}{w:World}{K:PySem.W.Frag}{tg:Expr}(a it:Addr)(n:Nat):Turn P w K tg (Xa K a n) [it] it (fun i h=>h.IsRevIter it a ((n:Int) -1 -(i:Int)))where
 mem:=by simp
 obj:=fun i h st b hb=>by
  have e:b=it:=by simpa using hb
  subst e
  obtain⟨o,e,c,d⟩:=st
  refine⟨o,e,fun v z=>?_⟩
  rw[d]at z
  cases z
 keep:=fun i h h' st k=>st.at fun o e=>k it (Fm.mpr rfl) o e
 item:=by
  intro X hP hw hK hc i pins s σ H E I hf st hg
  subst hP hw hK
  obtain⟨xs,hq,hn,hi⟩:=hg
  obtain⟨its,rv,p,hz⟩:=I.list hq
  have hx:xs[n -1 -i]?=some (xs[n -1 -i]'(by omega)):=BM (by omega)
  obtain⟨u,hu,ru⟩:=rv.get hx
  obtain⟨f0,f1,f2,f3,f4,f5⟩:=hf it (Fm.mpr rfl)
  have e:(n:Int) -1 -(i:Int)=((n -1 -i:Nat):Int):=by omega
  rw[e]at st
  refine wpAny_pyNext_rev_item st p.isList (x:=u) (by simpa using hu) fun h' st' sb=>?_
  have e2:((n -1 -i:Nat):Int) -1=(n:Int) -1 -((i+1:Nat):Int):=by omega
  rw[e2]at st'
  have I1:Inv X pins σ H {s with heap:=h'}:=I.turned (t':=s.toks) (fun b o hb z=>(sb.2 b hb).trans z) f0 f1 f3 f4 f5
  obtain⟨o,e3,c,d⟩:=id st'
  exact⟨u,rfl,xS (s:={s with heap:=h'}) e3 c d (by decide) ⟨_,H,I1,ru,⟨rfl,fun ys hy _=>by rw[I.qQ hy hq];exact hx⟩,st',fun b hb=>(hf b hb).1⟩⟩
 done:=by
  intro X hP hw hK hc i pins s σ H E I hf st hg
  subst hP hw hK
  have hg':i=n:=hg
  subst hg'
  obtain⟨f0,f1,f2,f3,f4,f5⟩:=hf it (Fm.mpr rfl)
  have e:(i:Int) -1 -(i:Int)= -1:=by omega
  rw[e]at st
  exact wpAny_pyNext_rev_end (I.ok.hd hc) st fun h' eb=>⟨rfl,I.turned (t':=s.toks) (fun b o hb z=>eb b o hb z) f0 f1 f3 f4 f5⟩
 self:=fun _ _ _ _ _ st h=>wpAny_pyIter_revIter st h
section
variable{X:Cx}{tg:Expr}
noncomputable def Xb(K:PySem.W.Frag)(ta:TA):TI:=fun σ H R=>ta σ H fun vs H1=>∃a xs,vs=[.ref a]/\kR K H1 a xs/\R (Xa K a xs.length) H1
theorem OE{a:Expr}{ta:TA}{p pos:Pos}(hg:Gl X "reversed")(hm:X.mg "reversed"=none)(ha:PA X [a] ta)(hv:bootBuiltins "reversed"=some (.type "reversed"):=by rfl)(hs:starEach [a] X.env=[(false,eval a X.env)]:=by rfl):
 PI X tg (.Call (.Name "reversed" p) [a] [] pos) (Xb X.K ta):=by
 intro pins s σ H R I h
 refine Call_ (lX I hg hm hv (SL (bT (ha pos pins s σ H _ I h) fun us s1 ⟨vs,H1,I1,r1,q1⟩=>?_) hs rfl))
 obtain⟨l,xs,e,hq,q⟩:=q1
 subst e
 obtain⟨u,rfl,ru⟩:=Vals.one r1
 cases(show u=Value.ref l from ru)
 obtain⟨its,rv,pl,_⟩:=I1.list hq
 refine call_reversed_list pl.isList ?_
 have e0:((its.toArray.size:Nat):Int) -1=(xs.length:Int) -1 -((0:Nat):Int):=by
  have:=rv.length
  simp
  omega
 rw[e0]
 have st:Heap.IsRevIter (s1.heap.push (revObj l ((xs.length:Int) -1 -((0:Nat):Int)))) s1.heap.objs.size l ((xs.length:Int) -1 -((0:Nat):Int)):=⟨_,N0 _ rfl,rfl,rfl⟩
 refine wpAny_pyIter_revIter st ?_
 refine⟨s1.heap.objs.size,[s1.heap.objs.size],_,_,H1,rfl,I1.kept (t':=s1.toks) fun b o z=>FM _ z,Gz l _ xs.length,st,fun b hb=>?_,q⟩
 have e:b=s1.heap.objs.size:=by simpa using hb
 subst e
 exact I1.Aq (Do _) (I1.hok.fresh (Do _))
end
end L2
namespace L2
open PySem
variable{r:List Expr}{env:Env}{pos:Pos}
inductive OG:List Expr->List (Int×Int)->Prop where
 |nil:OG [] []
 |cons {a b:Int} {j1 j2 k:Nat} {p1 p2 pos:Pos} {es:List Expr} {qs:List (Int×Int)} (h:OG es qs):OG (.Tuple [.Constant (.int a) j1 p1,.Constant (.int b) j2 p2] k pos::es) ((a,b)::qs)
end L2
namespace L2
open PySem PySem.Spec PyProof.Rows
section
variable{X:Cx}{H:Hp}
end
mutual
noncomputable def aJ:PyData->Bool
 |.int _=>true
 |.list xs=>gD xs
 |.tuple xs=>gD xs
 |.none=>false
 |.bool _=>false
 |.str _=>false
 |.dict _=>false
noncomputable def gD:List PyData->Bool
 |[]=>true
 |x::xs=>aJ x&&gD xs
end
mutual
theorem GA:∀d:PyData,aJ d=true->d.canLay0=true
 |.int _,_=>by simp[PyData.canLay0]
 |.list xs,h=>by rw[aJ]at h;rw[PyData.canLay0];exact oJ xs h
 |.tuple xs,h=>by rw[aJ]at h;rw[PyData.canLay0];exact oJ xs h
 |.none,h=>by simp[aJ]at h
 |.bool _,h=>by simp[aJ]at h
 |.str _,h=>by simp[aJ]at h
 |.dict _,h=>by simp[aJ]at h
theorem oJ:∀xs:List PyData,gD xs=true->PyData.canLayAll0 xs=true
 |[],_=>by simp[PyData.canLayAll0]
 |x::xs,h=>by
  rw[gD,B1]at h
  rw[PyData.canLayAll0,GA x h.1,oJ xs h.2]
  rfl
end
mutual
theorem GC:∀d e:PyData,aJ d=true->aJ e=true->SeqAt.noMix d e=true
 |.int _,.int _,_,_=>by simp[SeqAt.noMix]
 |.int _,.list _,_,_=>by simp[SeqAt.noMix]
 |.int _,.tuple _,_,_=>by simp[SeqAt.noMix]
 |.list _,.int _,_,_=>by simp[SeqAt.noMix]
 |.list _,.tuple _,_,_=>by simp[SeqAt.noMix]
 |.tuple _,.int _,_,_=>by simp[SeqAt.noMix]
 |.tuple _,.list _,_,_=>by simp[SeqAt.noMix]
 |.list xs,.list ys,h,h2=>by rw[aJ]at h h2;rw[SeqAt.noMix];exact oK xs ys h h2
 |.tuple xs,.tuple ys,h,h2=>by rw[aJ]at h h2;rw[SeqAt.noMix];exact oK xs ys h h2
 |.none,_,h,_=>by simp[aJ]at h
 |.bool _,_,h,_=>by simp[aJ]at h
 |.str _,_,h,_=>by simp[aJ]at h
 |.dict _,_,h,_=>by simp[aJ]at h
 |.int _,.none,_,h=>by simp[aJ]at h
 |.int _,.bool _,_,h=>by simp[aJ]at h
 |.int _,.str _,_,h=>by simp[aJ]at h
 |.int _,.dict _,_,h=>by simp[aJ]at h
 |.list _,.none,_,h=>by simp[aJ]at h
 |.list _,.bool _,_,h=>by simp[aJ]at h
 |.list _,.str _,_,h=>by simp[aJ]at h
 |.list _,.dict _,_,h=>by simp[aJ]at h
 |.tuple _,.none,_,h=>by simp[aJ]at h
 |.tuple _,.bool _,_,h=>by simp[aJ]at h
 |.tuple _,.str _,_,h=>by simp[aJ]at h
 |.tuple _,.dict _,_,h=>by simp[aJ]at h
theorem oK:∀xs ys:List PyData,gD xs=true->gD ys=true->SeqAt.noMixAll xs ys=true
 |[],[],_,_=>by simp[SeqAt.noMixAll]
 |[],_::_,_,_=>by simp[SeqAt.noMixAll]
 |_::_,[],_,_=>by simp[SeqAt.noMixAll]
 |x::xs,y::ys,h,h2=>by
  rw[gD,B1]at h h2
  rw[SeqAt.noMixAll,GC x y h.1 h2.1,oK xs ys h.2 h2.2]
  rfl
end
mutual
theorem ED:∀d e:PyData,aJ d=true->aJ e=true->(same d e=true↔d=e)
 |.int a,.int b,_,_=>by simp[same]
 |.int _,.list _,_,_=>by simp[same]
 |.int _,.tuple _,_,_=>by simp[same]
 |.list _,.int _,_,_=>by simp[same]
 |.list _,.tuple _,_,_=>by simp[same]
 |.tuple _,.int _,_,_=>by simp[same]
 |.tuple _,.list _,_,_=>by simp[same]
 |.list xs,.list ys,h,h2=>by rw[aJ]at h h2;rw[same,l9 xs ys h h2,PyData.list.injEq]
 |.tuple xs,.tuple ys,h,h2=>by rw[aJ]at h h2;rw[same,l9 xs ys h h2,PyData.tuple.injEq]
 |.none,_,h,_=>by simp[aJ]at h
 |.bool _,_,h,_=>by simp[aJ]at h
 |.str _,_,h,_=>by simp[aJ]at h
 |.dict _,_,h,_=>by simp[aJ]at h
 |.int _,.none,_,h=>by simp[aJ]at h
 |.int _,.bool _,_,h=>by simp[aJ]at h
 |.int _,.str _,_,h=>by simp[aJ]at h
 |.int _,.dict _,_,h=>by simp[aJ]at h
 |.list _,.none,_,h=>by simp[aJ]at h
 |.list _,.bool _,_,h=>by simp[aJ]at h
 |.list _,.str _,_,h=>by simp[aJ]at h
 |.list _,.dict _,_,h=>by simp[aJ]at h
 |.tuple _,.none,_,h=>by simp[aJ]at h
 |.tuple _,.bool _,_,h=>by simp[aJ]at h
 |.tuple _,.str _,_,h=>by simp[aJ]at h
 |.tuple _,.dict _,_,h=>by simp[aJ]at h
theorem l9:∀xs ys:List PyData,gD xs=true->gD ys=true->(sameAll xs ys=true↔xs=ys)
 |[],[],_,_=>by simp[sameAll]
 |[],_::_,_,_=>by simp[sameAll]
 |_::_,[],_,_=>by simp[sameAll]
 |x::xs,y::ys,h,h2=>by
  rw[gD,B1]at h h2
  rw[sameAll,B1,ED x y h.1 h2.1,l9 xs ys h.2 h2.2,List.cons.injEq]
end
section
variable{X:Cx}
end
theorem yc{xs:List PyData}{n:Nat}(h:∀x∈xs,x.depth<=n):PyData.depthAll xs<=n:=by
 induction xs with
 |nil=>simp[PyData.depthAll]
 |cons x xs ih=>
  rw[PyData.depthAll]
  have:=h x (FK ..)
  have:=ih fun y hy=>h y (Ee _ hy)
  lia
end L2
namespace VL
open PySem PySem.Spec PyProof.Rows L2
theorem ff{C:Prop}(h:false=true):C:=Bool.noConfusion h
theorem nn{α:Type}{a:α}{C:Prop}(h:none=some a):C:=Option.noConfusion rfl (heq_of_eq h)
inductive W where
 |aX|bl (b:Bool)|int (i:Int)|str (x:Str)|ty (n:String)|cls (C:Addr)|err (C:Addr)
 |tup (l:List W)|lst (l:List W)|dct (ks vs:List W)|obj (C:Addr) (fs:List Str) (vs:List W)|iJ (ns:List Int)
noncomputable def FE:HO->Bool
 |.lst _|.ins _ _ _|.dK _|.dT _|.set _ _=>true
 |_=>false
noncomputable def Xc:Key->W
 |.inl i=>.int i
 |.inr x=>.str x
noncomputable def AO(K:PySem.W.Frag)(C:Addr)(fs:List Str):Prop:=JU K C/\fs.length<1000/\fs.Nodup/\∀x∈fs,l5 K C x
mutual
noncomputable def Rep(K:PySem.W.Frag)(A:Addr->Prop)(H:Hp):W->V->Prop
 |.aX,v=>v=.aX
 |.bl b,v=>v=.bl b
 |.int i,v=>v=.int i
 |.str x,v=>v=.str x
 |.ty n,v=>v=.ty n
 |.cls C,v=>v=.ref C
 |.err C,v=>∃a,v=.ref a/\H a=some (WM a C)/\¬A a
 |.tup l,v=>∃p vs,v=.ref p/\H p=some (.tup vs)/\aj K A H l vs
 |.lst l,v=>∃p vs,v=.ref p/\¬A p/\Rd H p (.lst vs)/\aj K A H l vs
 |.dct ks ws,v=>∃p kvs,v=.ref p/\¬A p/\H p=some (.dK kvs)/\ks=kvs.map (fun x=>Xc x.1)/\aj K A H ws (kvs.map (·.2))
 |.obj C fs ws,v=>∃p dx vs,v=.ref p/\¬A p/\H p=some (.ins C dx (fs.zip vs))/\vs.length=fs.length/\AO K C fs/\aj K A H ws vs
 |.iJ ns,v=>∃p,v=.ref p/\((∃o,H p=some (.B6 o (.lst (ns.map V.int))))\/kR K (fun _=>none) p (ns.map V.int))
noncomputable def aj(K:PySem.W.Frag)(A:Addr->Prop)(H:Hp):List W->List V->Prop
 |[],vs=>vs=[]
 |w::ws,vs=>∃v r,vs=v::r/\Rep K A H w v/\aj K A H ws r
end
section
variable{K:PySem.W.Frag}{A B:Addr->Prop}{H H':Hp}
theorem az.rd{p:Addr}{u:HO}(s:az H H')(h:Rd H p u):Rd H' p u:=by
 rcases h with h|⟨o,h⟩
 ·exact .inl (s _ _ h)
 ·exact .inr ⟨o,s _ _ h⟩
noncomputable def xM(B:Addr->Prop)(H H':Hp):Prop:=∀p o,H p=some o->(FE o=true/\B p)\/H' p=some o
theorem xM.un{p:Addr}{o:HO}(h:xM A H H')(e:H p=some o)(n:FE o=true->¬A p):H' p=some o:=by
 rcases h p o e with⟨z,y⟩|z
 ·exact(n z y).elim
 ·exact z
mutual
theorem Rep.chg(h:xM A H H')(ha:∀p o,H p=some o->B p->A p):∀(w:W) {v:V},Rep K A H w v->Rep K B H' w v
 |.aX,_,r=>by rw[Rep]at r⊢;exact r
 |.bl _,_,r=>by rw[Rep]at r⊢;exact r
 |.int _,_,r=>by rw[Rep]at r⊢;exact r
 |.str _,_,r=>by rw[Rep]at r⊢;exact r
 |.ty _,_,r=>by rw[Rep]at r⊢;exact r
 |.cls _,_,r=>by rw[Rep]at r⊢;exact r
 |.err C,v,r=>by
  rw[Rep]at r⊢
  obtain⟨a,e,h1,h2⟩:=r
  exact⟨a,e,h.un h1 (fun z=>by cases z),fun z=>h2 (ha a _ h1 z)⟩
 |.tup l,v,r=>by
  rw[Rep]at r⊢
  obtain⟨p,vs,e,h1,h2⟩:=r
  exact⟨p,vs,e,h.un h1 (fun z=>by cases z),aj.chg h ha l h2⟩
 |.lst l,v,r=>by
  rw[Rep]at r⊢
  obtain⟨p,vs,e,n,h1,h2⟩:=r
  refine⟨p,vs,e,fun z=>?_,?_,aj.chg h ha l h2⟩
  ·rcases h1 with h1|⟨o,h1⟩<;>exact n (ha p _ h1 z)
  ·rcases h1 with h1|⟨o,h1⟩
   ·exact .inl (h.un h1 fun _=>n)
   ·exact .inr ⟨o,h.un h1 fun z=>by cases z⟩
 |.dct ks ws,v,r=>by
  rw[Rep]at r⊢
  obtain⟨p,kvs,e,n,h1,h2,h3⟩:=r
  exact⟨p,kvs,e,fun z=>n (ha p _ h1 z),h.un h1 fun _=>n,h2,aj.chg h ha ws h3⟩
 |.obj C fs ws,v,r=>by
  rw[Rep]at r⊢
  obtain⟨p,dx,vs,e,n,h1,h2,hc,h3⟩:=r
  exact⟨p,dx,vs,e,fun z=>n (ha p _ h1 z),h.un h1 fun _=>n,h2,hc,aj.chg h ha ws h3⟩
 |.iJ ns,v,r=>by
  rw[Rep]at r⊢
  obtain⟨p,e,h1⟩:=r
  exact⟨p,e,h1.imp (by rintro⟨o,z⟩;exact⟨o,h.un z fun z=>by cases z⟩) id⟩
theorem aj.chg(h:xM A H H')(ha:∀p o,H p=some o->B p->A p):∀(l:List W) {vs:List V},aj K A H l vs->aj K B H' l vs
 |[],_,r=>by rw[aj]at r⊢;exact r
 |w::l,vs,r=>by
  rw[aj]at r⊢
  obtain⟨v,r',e,h1,h2⟩:=r
  exact⟨v,r',e,Rep.chg h ha w h1,aj.chg h ha l h2⟩
end
theorem xM.same(s:az H H'):xM A H H':=fun _ _ e=>.inr (s _ _ e)
theorem xM.put{p:Addr}{o0 o:HO}(hp:H p=some o0)(hm:FE o0=true)(hA:A p):xM A H (upd H p o):=fun q u e=>by
 by_cases n:q=p
 ·subst n
  rw[hp]at e
  cases e
  exact .inl ⟨hm,hA⟩
 ·exact .inr (by rw[ao n];exact e)
theorem Rep.mv(s:az H H')(ha:∀p o,H p=some o->B p->A p)(w:W){v:V}(h:Rep K A H w v):Rep K B H' w v:=Rep.chg (.same s) ha w h
theorem aj.mv(s:az H H')(ha:∀p o,H p=some o->B p->A p)(l:List W){vs:List V}(h:aj K A H l vs):aj K B H' l vs:=aj.chg (.same s) ha l h
theorem Rep.same{w:W}{v:V}(s:az H H')(h:Rep K A H w v):Rep K A H' w v:=Rep.mv s (fun _ _ _ z=>z) w h
theorem aj.same{l:List W}{vs:List V}(s:az H H')(h:aj K A H l vs):aj K A H' l vs:=aj.mv s (fun _ _ _ z=>z) l h
theorem Rep.less{w:W}{v:V}(ha:∀p,B p->A p)(h:Rep K A H w v):Rep K B H w v:=Rep.mv (az.refl H) (fun p _ _ z=>ha p z) w h
theorem aj.less{l:List W}{vs:List V}(ha:∀p,B p->A p)(h:aj K A H l vs):aj K B H l vs:=aj.mv (az.refl H) (fun p _ _ z=>ha p z) l h
theorem aj.put{p:Addr}{xs:List V}{o:HO}(hp:H p=some (.lst xs))(hA:A p)(l:List W){vs:List V}(h:aj K A H l vs):aj K A (upd H p o) l vs:=aj.chg (.put hp rfl hA) (fun _ _ _ z=>z) l h
theorem aj.nil:aj K A H [] []:=by rw[aj]
theorem aj.cons{w:W}{v:V}{l:List W}{vs:List V}(h1:Rep K A H w v)(h2:aj K A H l vs):aj K A H (w::l) (v::vs):=by rw[aj];exact⟨v,vs,rfl,h1,h2⟩
theorem aj.nil_inv{vs:List V}(h:aj K A H [] vs):vs=[]:=by rw[aj]at h;exact h
theorem aj.cons_inv{w:W}{l:List W}{vs:List V}(h:aj K A H (w::l) vs):∃v r,vs=v::r/\Rep K A H w v/\aj K A H l r:=by rw[aj]at h;exact h
theorem aj.len:∀{l:List W} {vs:List V},aj K A H l vs->vs.length=l.length
 |[],vs,h=>by rw[h.nil_inv];rfl
 |w::l,vs,h=>by
  obtain⟨v,r,rfl,_,h2⟩:=h.cons_inv
  rw[List.length_cons,List.length_cons,h2.len]
theorem aj.app:∀{l m:List W} {vs us:List V},aj K A H l vs->aj K A H m us->aj K A H (l++m) (vs++us)
 |[],m,vs,us,h,k=>by rw[h.nil_inv];exact k
 |w::l,m,vs,us,h,k=>by
  obtain⟨v,r,rfl,h1,h2⟩:=h.cons_inv
  exact .cons h1 (h2.app k)
theorem aj.get:∀{l:List W} {vs:List V} {i:Nat} {w:W},aj K A H l vs->l[i]?=some w->∃v,vs[i]?=some v/\Rep K A H w v
 |[],_,_,_,_,e=>by simp at e
 |x::l,vs,0,w,h,e=>by
  obtain⟨v,r,rfl,h1,h2⟩:=h.cons_inv
  simp at e
  subst e
  exact⟨v,rfl,h1⟩
 |x::l,vs,i+1,w,h,e=>by
  obtain⟨v,r,rfl,h1,h2⟩:=h.cons_inv
  obtain⟨u,e2,h3⟩:=h2.get (i:=i) (by simpa using e)
  exact⟨u,by simpa using e2,h3⟩
theorem aj.set:∀{l:List W} {vs:List V} {i:Nat} {w:W} {v:V},aj K A H l vs->Rep K A H w v->aj K A H (l.set i w) (vs.set i v)
 |[],_,_,_,_,h,_=>by rw[h.nil_inv];exact .nil
 |x::l,vs,0,w,v,h,e=>by
  obtain⟨v',r,rfl,h1,h2⟩:=h.cons_inv
  exact .cons e h2
 |x::l,vs,i+1,w,v,h,e=>by
  obtain⟨v',r,rfl,h1,h2⟩:=h.cons_inv
  exact .cons h1 (h2.set e)
theorem aj.take:∀{l:List W} {vs:List V} (n:Nat),aj K A H l vs->aj K A H (l.take n) (vs.take n)
 |_,_,0,_=>.nil
 |[],vs,n+1,h=>by rw[h.nil_inv];exact .nil
 |x::l,vs,n+1,h=>by
  obtain⟨v',r,rfl,h1,h2⟩:=h.cons_inv
  exact .cons h1 (h2.take n)
theorem aj.drop:∀{l:List W} {vs:List V} (n:Nat),aj K A H l vs->aj K A H (l.drop n) (vs.drop n)
 |_,_,0,h=>h
 |[],vs,n+1,h=>by rw[h.nil_inv];exact .nil
 |x::l,vs,n+1,h=>by
  obtain⟨v',r,rfl,h1,h2⟩:=h.cons_inv
  exact h2.drop n
theorem aj.dropLast{l:List W}{vs:List V}(h:aj K A H l vs):aj K A H l.dropLast vs.dropLast:=by
 rw[List.dropLast_eq_take,List.dropLast_eq_take,h.len]
 exact h.take _
theorem aj.rep{l:List W}{vs:List V}(h:aj K A H l vs):∀n:Nat,aj K A H (List.replicate n l).flatten (List.replicate n vs).flatten
 |0=>.nil
 |n+1=>by
  rw[List.replicate_succ,List.replicate_succ,List.flatten_cons,List.flatten_cons]
  exact h.app (h.rep n)
theorem aj.ints{ns:List Int}:∀{vs:List V},aj K A H (ns.map W.int) vs->vs=ns.map V.int:=by
 induction ns with
 |nil=>intro vs h;exact h.nil_inv
 |cons n ns ih=>
  intro vs h
  obtain⟨v,r,rfl,h1,h2⟩:=h.cons_inv
  rw[Rep]at h1
  rw[h1,ih h2]
  rfl
theorem aj.Kf(ns:List Int):aj K A H (ns.map W.int) (ns.map V.int):=by
 induction ns with
 |nil=>exact .nil
 |cons n ns ih=>exact .cons (by rw[Rep]) ih
theorem aj.bls{bs:List Bool}:∀{vs:List V},aj K A H (bs.map W.bl) vs->vs=bs.map V.bl:=by
 induction bs with
 |nil=>intro vs h;exact h.nil_inv
 |cons n ns ih=>
  intro vs h
  obtain⟨v,r,rfl,h1,h2⟩:=h.cons_inv
  rw[Rep]at h1
  rw[h1,ih h2]
  rfl
end
end VL
namespace VL
open PySem PySem.Spec
open PyProof.Rows hiding St
open L2
inductive Md where
 |s|f|t (ms:List Md)|o (fs:List Str) (ms:List Md)
 |io (m:Md)
mutual
noncomputable def Fp(K:PySem.W.Frag)(B:Addr->Prop)(H:Hp):Md->W->V->List Addr->Prop
 |.s,w,v,F=>F=[]/\Rep K B H w v
 |.f,w,v,F=>∃ws p vs,w=.lst ws/\v=.ref p/\F=[p]/\H p=some (.lst vs)/\aj K B H ws vs
 |.t ms,w,v,F=>∃ws p vs,w=.tup ws/\v=.ref p/\H p=some (.tup vs)/\cX K B H ms ws vs F
 |.o fs ms,w,v,F=>∃C dx ws p vs F',w=.obj C fs ws/\v=.ref p/\F=p::F'/\H p=some (.ins C dx (fs.zip vs))/\vs.length=fs.length/\AO K C fs/\cX K B H ms ws vs F'
 |.io _,_,_,_=>False
noncomputable def cX(K:PySem.W.Frag)(B:Addr->Prop)(H:Hp):List Md->List W->List V->List Addr->Prop
 |[],ws,vs,F=>ws=[]/\vs=[]/\F=[]
 |m::ms,ws,vs,F=>∃w oq v vs' F1 F2,ws=w::oq/\vs=v::vs'/\F=F1++F2/\Fp K B H m w v F1/\cX K B H ms oq vs' F2
end
noncomputable def tR(B G:Addr->Prop)(H H':Hp):Prop:=∀p o,H p=some o->(FE o=true/\B p/\¬G p)\/H' p=some o
section
variable{K:PySem.W.Frag}{A B G:Addr->Prop}{H H':Hp}
theorem tR.c(h:tR A G H H'):xM A H H':=fun p o e=>(h p o e).imp (fun z=>⟨z.1,z.2.1⟩) id
theorem tR.un{p:Addr}{o:HO}(h:tR A G H H')(e:H p=some o)(g:FE o=true->G p):H' p=some o:=by
 rcases h p o e with⟨z,_,y⟩|z
 ·exact(y (g z)).elim
 ·exact z
mutual
theorem Fp.chg(h:tR A G H H')(ha:∀p o,H p=some o->B p->A p):∀(m:Md) {w:W} {v:V} {F:List Addr},(∀p∈F,G p)->Fp K A H m w v F->Fp K B H' m w v F
 |.s,w,v,F,hF,r=>by
  rw[Fp]at r⊢
  exact⟨r.1,Rep.chg h.c ha w r.2⟩
 |.f,w,v,F,hF,r=>by
  rw[Fp]at r⊢
  obtain⟨ws,p,vs,e1,e2,e3,h1,h2⟩:=r
  exact⟨ws,p,vs,e1,e2,e3,h.un h1 (fun _=>hF p (by rw[e3];exact FK)),aj.chg h.c ha ws h2⟩
 |.t ms,w,v,F,hF,r=>by
  rw[Fp]at r⊢
  obtain⟨ws,p,vs,e1,e2,h1,h2⟩:=r
  exact⟨ws,p,vs,e1,e2,h.un h1 (fun z=>by cases z),cX.chg h ha ms hF h2⟩
 |.o fs ms,w,v,F,hF,r=>by
  rw[Fp]at r⊢
  obtain⟨C,dx,ws,p,vs,F',e1,e2,e3,h1,h2,hc,h3⟩:=r
  exact⟨C,dx,ws,p,vs,F',e1,e2,e3,h.un h1 (fun _=>hF p (by rw[e3];exact FK)),h2,hc,cX.chg h ha ms (fun q hq=>hF q (by rw[e3];exact Ee _ hq)) h3⟩
 |.io _,w,v,F,hF,r=>by rw[Fp]at r;exact r.elim
theorem cX.chg(h:tR A G H H')(ha:∀p o,H p=some o->B p->A p):∀(ms:List Md) {ws:List W} {vs:List V} {F:List Addr},(∀p∈F,G p)->cX K A H ms ws vs F->cX K B H' ms ws vs F
 |[],_,_,_,_,r=>by rw[cX]at r⊢;exact r
 |m::ms,ws,vs,F,hF,r=>by
  rw[cX]at r⊢
  obtain⟨w,oq,v,vs',F1,F2,e1,e2,e3,h1,h2⟩:=r
  exact⟨w,oq,v,vs',F1,F2,e1,e2,e3,Fp.chg h ha m (fun p hp=>hF p (by rw[e3];exact P2 _ hp)) h1,cX.chg h ha ms (fun p hp=>hF p (by rw[e3];exact Fn _ hp)) h2⟩
end
theorem tR.same(s:az H H'):tR A (fun _=>True) H H':=fun _ _ e=>.inr (s _ _ e)
theorem Fp.mv(s:az H H')(ha:∀p o,H p=some o->B p->A p)(m:Md){w:W}{v:V}{F:List Addr}(h:Fp K A H m w v F):Fp K B H' m w v F:=Fp.chg (.same s) ha m (fun _ _=>trivial) h
theorem cX.mv(s:az H H')(ha:∀p o,H p=some o->B p->A p)(ms:List Md){w:List W}{v:List V}{F:List Addr}(h:cX K A H ms w v F):cX K B H' ms w v F:=cX.chg (.same s) ha ms (fun _ _=>trivial) h
mutual
theorem Fp.rep(hb:∀p,B p->A p):∀(m:Md) {w:W} {v:V} {F:List Addr},(∀p∈F,¬B p)->Fp K A H m w v F->Rep K B H w v
 |.s,w,v,F,hf,h=>by
  rw[Fp]at h
  exact h.2.less hb
 |.f,w,v,F,hf,h=>by
  rw[Fp]at h
  obtain⟨ws,p,vs,rfl,rfl,rfl,h1,h2⟩:=h
  rw[Rep]
  exact⟨p,vs,rfl,hf p (Fm.mpr rfl),.inl h1,h2.less hb⟩
 |.t ms,w,v,F,hf,h=>by
  rw[Fp]at h
  obtain⟨ws,p,vs,rfl,rfl,h1,h2⟩:=h
  rw[Rep]
  exact⟨p,vs,rfl,h1,cX.rep hb ms hf h2⟩
 |.o fs ms,w,v,F,hf,h=>by
  rw[Fp]at h
  obtain⟨C,dx,ws,p,vs,F',rfl,rfl,rfl,h1,h2,hc,h3⟩:=h
  rw[Rep]
  exact⟨p,dx,vs,rfl,hf p FK,h1,h2,hc,cX.rep hb ms (fun q hq=>hf q (Ee _ hq)) h3⟩
 |.io _,w,v,F,hf,h=>by rw[Fp]at h;exact h.elim
theorem cX.rep(hb:∀p,B p->A p):∀(ms:List Md) {ws:List W} {vs:List V} {F:List Addr},(∀p∈F,¬B p)->cX K A H ms ws vs F->aj K B H ws vs
 |[],_,_,_,_,h=>by
  rw[cX]at h
  obtain⟨rfl,rfl,_⟩:=h
  exact .nil
 |m::ms,ws,vs,F,hf,h=>by
  rw[cX]at h
  obtain⟨w,oq,v,vs',F1,F2,rfl,rfl,rfl,h1,h2⟩:=h
  exact .cons (Fp.rep hb m (fun p hp=>hf p (P2 _ hp)) h1) (cX.rep hb ms (fun p hp=>hf p (Fn _ hp)) h2)
end
mutual
theorem Fp.mu:∀(m:Md) {w:W} {v:V} {F:List Addr},Fp K A H m w v F->∀p∈F,∃o,H p=some o/\FE o=true
 |.s,w,v,F,h,p,hp=>by
  rw[Fp]at h
  rw[h.1]at hp
  cases hp
 |.f,w,v,F,h,p,hp=>by
  rw[Fp]at h
  obtain⟨ws,q,vs,_,_,rfl,h1,_⟩:=h
  rw[Fm.mp hp]
  exact⟨_,h1,rfl⟩
 |.t ms,w,v,F,h,p,hp=>by
  rw[Fp]at h
  obtain⟨ws,q,vs,_,_,h1,h2⟩:=h
  exact cX.mu ms h2 p hp
 |.o fs ms,w,v,F,h,p,hp=>by
  rw[Fp]at h
  obtain⟨C,dx,ws,q,vs,F',_,_,rfl,h1,_,_,h3⟩:=h
  rcases FV.mp hp with rfl|hp
  ·exact⟨_,h1,rfl⟩
  ·exact cX.mu ms h3 p hp
 |.io _,w,v,F,h,p,hp=>by rw[Fp]at h;exact h.elim
theorem cX.mu:∀(ms:List Md) {ws:List W} {vs:List V} {F:List Addr},cX K A H ms ws vs F->∀p∈F,∃o,H p=some o/\FE o=true
 |[],_,_,_,h,p,hp=>by
  rw[cX]at h
  rw[h.2.2]at hp
  cases hp
 |m::ms,ws,vs,F,h,p,hp=>by
  rw[cX]at h
  obtain⟨w,oq,v,vs',F1,F2,_,_,rfl,h1,h2⟩:=h
  rcases Hb.mp hp with hp|hp
  ·exact Fp.mu m h1 p hp
  ·exact cX.mu ms h2 p hp
end
inductive pH where
 |ix (n:Nat)|fl (n:Nat) (x:Str)
noncomputable def cW:W->List pH->Option W
 |w,[]=>some w
 |.tup l,.ix n::π=>match l[n]? with
  |some u=>cW u π
  |none=>none
 |.obj _ _ l,.fl n _::π=>match l[n]? with
  |some u=>cW u π
  |none=>none
 |_,_=>none
noncomputable def setAt:W->List pH->W->W
 |_,[],u=>u
 |.tup l,.ix n::π,u=>match l[n]? with
  |some x=>.tup (l.set n (setAt x π u))
  |none=>.tup l
 |.obj C fs l,.fl n _::π,u=>match l[n]? with
  |some x=>.obj C fs (l.set n (setAt x π u))
  |none=>.obj C fs l
 |w,_,_=>w
noncomputable def mh:Md->List pH->Option Md
 |m,[]=>some m
 |.t ms,.ix n::π=>match ms[n]? with
  |some m=>mh m π
  |none=>none
 |.o fs ms,.fl n x::π=>if fs[n]?=some x then(match ms[n]? with
  |some m=>mh m π
  |none=>none)else none
 |_,_=>none
noncomputable def xN(K:PySem.W.Frag)(H:Hp):V->List pH->V->Prop
 |v,[],u=>u=v
 |v,.ix n::π,u=>∃p vs x,v=.ref p/\H p=some (.tup vs)/\vs[n]?=some x/\xN K H x π u
 |v,.fl n f::π,u=>∃p vs x,v=.ref p/\(∃(C dx:Addr) (fs:List Str),H p=some (.ins C dx (fs.zip vs))/\vs.length=fs.length/\AO K C fs/\fs[n]?=some f)/\vs[n]?=some x/\xN K H x π u
theorem rm{α:Type}:∀{l:List α} {n:Nat} {x:α},l[n]?=some x->l.set n x=l
 |[],_,_,e=>by cases e
 |y::l,0,x,e=>by cases e;rfl
 |y::l,n+1,x,e=>by rw[List.set_cons_succ,rm (by simpa using e)]
theorem cX.at:∀(ms:List Md) {ws:List W} {vs:List V} {F:List Addr} {n:Nat} {m:Md} {w:W},cX K A H ms ws vs F->ms[n]?=some m->ws[n]?=some w->
 ∃v F1 F' F2,vs[n]?=some v/\F=F1++F'++F2/\Fp K A H m w v F'/\∀(H':Hp) (B:Addr->Prop) w' v' Ah,Fp K B H' m w' v' Ah->tR A (·∈F1++F2) H H'->(∀p o,H p=some o->B p->A p)->cX K B H' ms (ws.set n w') (vs.set n v') (F1++Ah++F2)
 |[],_,_,_,n,m,w,_,e,_=>by cases e
 |m0::ms,ws,vs,F,0,m,w,h,e1,e2=>by
  rw[cX]at h
  obtain⟨w0,oq,v,vs',F1,F2,rfl,rfl,rfl,h1,h2⟩:=h
  cases e1
  cases e2
  refine⟨v,[],F1,F2,rfl,by simp,h1,fun H' B w' v' Ah h' hc ha=>?_⟩
  rw[cX]
  exact⟨w',oq,v',vs',Ah,F2,rfl,rfl,by simp,h',cX.chg hc ha ms (fun p hp=>by simpa using hp) h2⟩
 |m0::ms,ws,vs,F,n+1,m,w,h,e1,e2=>by
  rw[cX]at h
  obtain⟨w0,oq,v,vs',F1,F2,rfl,rfl,rfl,h1,h2⟩:=h
  obtain⟨u,G1,G',G2,q1,rfl,q3,q4⟩:=cX.at ms h2 (n:=n) (by simpa using e1) (by simpa using e2)
  refine⟨u,F1++G1,G',G2,by simpa using q1,by simp,q3,fun H' B w' v' Ah h' hc ha=>?_⟩
  rw[cX]
  refine⟨w0,oq.set n w',v,vs'.set n v',F1,G1++Ah++G2,rfl,rfl,by simp,Fp.chg hc ha m0 (fun p hp=>by simp[hp]) h1,q4 H' B w' v' Ah h' (fun p o e=>(hc p o e).imp (fun⟨a,b,c⟩=>⟨a,b,fun z=>c ?_⟩) id) ha⟩
  rcases Hb.mp z with z|z<;>simp[z]
theorem Fp.path:∀(π:List pH) (m:Md) {w:W} {v:V} {F:List Addr} {m':Md} {w':W},Fp K A H m w v F->mh m π=some m'->cW w π=some w'->
 ∃v' F1 F' F2,F=F1++F'++F2/\xN K H v π v'/\Fp K A H m' w' v' F'/\∀(H':Hp) (B:Addr->Prop) w'' Ah,Fp K B H' m' w'' v' Ah->tR A (·∈F1++F2) H H'->(∀p o,H p=some o->B p->A p)->Fp K B H' m (setAt w π w'') v (F1++Ah++F2)
 |[],m,w,v,F,m',w',h,e1,e2=>by
  rw[mh]at e1
  rw[cW]at e2
  cases e1
  cases e2
  refine⟨v,[],F,[],by simp,rfl,h,fun H' B w'' Ah h' _ _=>?_⟩
  rw[setAt]
  simpa using h'
 |n::π,.s,w,v,F,m',w',h,e1,e2=>by cases n<;>exact nn e1
 |n::π,.f,w,v,F,m',w',h,e1,e2=>by cases n<;>exact nn e1
 |n::π,.io _,w,v,F,m',w',h,e1,e2=>by cases n<;>exact nn e1
 |.fl n _::π,.t ms,w,v,F,m',w',h,e1,e2=>by cases e1
 |.ix n::π,.o fs ms,w,v,F,m',w',h,e1,e2=>by cases e1
 |.ix n::π,.t ms,w,v,F,m',w',h,e1,e2=>by
  rw[Fp]at h
  obtain⟨ws,p,vs,rfl,rfl,h1,h2⟩:=h
  rw[mh]at e1
  rw[cW]at e2
  cases em:ms[n]? with
  |none=>rw[em]at e1;exact nn e1
  |some m1=>
   cases ew:ws[n]? with
   |none=>rw[ew]at e2;exact nn e2
   |some w1=>
    rw[em]at e1
    rw[ew]at e2
    obtain⟨v1,F1,F',F2,q1,rfl,q3,q4⟩:=cX.at ms h2 em ew
    obtain⟨v',G1,G',G2,rfl,r2,r3,r4⟩:=Fp.path π m1 q3 e1 e2
    refine⟨v',F1++G1,G',G2++F2,by simp,⟨p,vs,v1,rfl,h1,q1,r2⟩,r3,fun H' B w'' Ah h' hc ha=>?_⟩
    rw[setAt,ew,Fp]
    have a:=q4 H' B _ v1 _ (r4 H' B w'' Ah h' (fun p o e=>(hc p o e).imp (by rintro⟨a,b,c⟩;exact⟨a,b,fun z=>c (by rcases Hb.mp z with z|z<;>simp[z])⟩) id) ha) (fun p o e=>(hc p o e).imp (by rintro⟨a,b,c⟩;exact⟨a,b,fun z=>c (by rcases Hb.mp z with z|z<;>simp[z])⟩) id) ha
    rw[rm q1]at a
    refine⟨_,p,vs,rfl,rfl,hc.un h1 (fun z=>by cases z),?_⟩
    simpa using a
 |.fl n f::π,.o fs ms,w,v,F,m',w',h,e1,e2=>by
  rw[Fp]at h
  obtain⟨C,dx,ws,p,vs,F0,rfl,rfl,rfl,h1,hl,hcl,h2⟩:=h
  rw[mh]at e1
  rw[cW]at e2
  by_cases hf:fs[n]?=some f
  rotate_left
  ·rw[Bi hf]at e1
   cases e1
  rw[Bz hf]at e1
  cases em:ms[n]? with
  |none=>rw[em]at e1;exact nn e1
  |some m1=>
   cases ew:ws[n]? with
   |none=>rw[ew]at e2;exact nn e2
   |some w1=>
    rw[em]at e1
    rw[ew]at e2
    obtain⟨v1,F1,F',F2,q1,rfl,q3,q4⟩:=cX.at ms h2 em ew
    obtain⟨v',G1,G',G2,rfl,r2,r3,r4⟩:=Fp.path π m1 q3 e1 e2
    refine⟨v',p::F1++G1,G',G2++F2,by simp,⟨p,vs,v1,rfl,⟨C,dx,fs,h1,hl,hcl,hf⟩,q1,r2⟩,r3,fun H' B w'' Ah h' hc ha=>?_⟩
    rw[setAt,ew,Fp]
    have a:=q4 H' B _ v1 _ (r4 H' B w'' Ah h' (fun p o e=>(hc p o e).imp (by rintro⟨a,b,c⟩;exact⟨a,b,fun z=>c (by rcases Hb.mp z with z|z<;>simp[z])⟩) id) ha) (fun p o e=>(hc p o e).imp (by rintro⟨a,b,c⟩;exact⟨a,b,fun z=>c (by rcases Hb.mp z with z|z<;>simp[z])⟩) id) ha
    rw[rm q1]at a
    refine⟨C,dx,_,p,vs,F1++(G1++Ah++G2)++F2,rfl,rfl,by simp,hc.un h1 (fun _=>by simp),hl,hcl,a⟩
end
noncomputable def fH(K:PySem.W.Frag)(A:Addr->Prop)(H H':Hp)(m:Md)(w:W)(v:V):Prop:=
 ∃F:List Addr,F.Nodup/\(∀p∈F,H p=none)/\Fp K (fun q=>A q\/q∈F) H' m w v F
noncomputable def Dom(A:Addr->Prop)(H:Hp):Prop:=∀p,A p->∃o,H p=some o
theorem Dom.no{A:Addr->Prop}{H:Hp}(d:Dom A H){p:Addr}(h:H p=none):¬A p:=fun z=>by
 obtain⟨o,e⟩:=d p z
 rw[h]at e
 cases e
theorem Dom.same{A:Addr->Prop}{H H':Hp}(d:Dom A H)(s:az H H'):Dom A H':=fun p z=>by
 obtain⟨o,e⟩:=d p z
 exact⟨o,s _ _ e⟩
section
variable{K:PySem.W.Frag}{A B:Addr->Prop}{H H':Hp}{m:Md}{w:W}{v:V}
theorem fH.rep(d:Dom A H)(h:fH K A H H' m w v):Rep K A H' w v:=by
 obtain⟨F,nd,nw,h⟩:=h
 exact Fp.rep (fun p z=>.inl z) m (fun p hp=>d.no (nw p hp)) h
theorem fH.of(h:Rep K A H' w v):fH K A H H' .s w v:=⟨[],List.nodup_nil,by simp,by rw[Fp];exact⟨rfl,h.less fun p z=>by simpa using z⟩⟩
theorem fH.s(d:Dom A H)(h:fH K A H H' m w v):fH K A H H' .s w v:=.of (h.rep d)
theorem fH.new{ws:List W}{p:Addr}{vs:List V}(hp:H p=none)(h1:H' p=some (.lst vs))(h2:aj K A H' ws vs)(hn:aj K (fun q=>A q\/q=p) H' ws vs):fH K A H H' .f (.lst ws) (.ref p):=
 ⟨[p],(by simp),(by simpa using hp),by rw[Fp];exact⟨ws,p,vs,rfl,rfl,rfl,h1,hn.less fun q z=>by simpa using z⟩⟩
theorem fH.fresh{ws:List W}{p:Addr}{vs:List V}{H1:Hp}(s:az H H1)(hp:H1 p=none)(h:aj K A H1 ws vs):fH K A H (upd H1 p (.lst vs)) .f (.lst ws) (.ref p):=by
 have sm:=aY hp (.lst vs)
 refine .new (s.free hp) aE (h.same sm) (aj.mv sm (fun q o z y=>?_) ws h)
 rcases y with y|y
 ·exact y
 ·rw[y,hp]at z
  cases z
theorem fH.Ue(h:fH K A H H' .f w v):∃ws p vs,w=.lst ws/\v=.ref p/\H p=none/\H' p=some (.lst vs)/\aj K (fun q=>A q\/q=p) H' ws vs:=by
 obtain⟨F,nd,nw,h⟩:=h
 rw[Fp]at h
 obtain⟨ws,p,vs,rfl,rfl,rfl,h1,h2⟩:=h
 exact⟨ws,p,vs,rfl,rfl,nw p (Fm.mpr rfl),h1,h2.less fun q z=>by simpa using z⟩
theorem fH.back{H0:Hp}(s:az H0 H)(hb:∀p,B p->A p)(h:fH K A H H' m w v):fH K B H0 H' m w v:=by
 obtain⟨F,nd,nw,h⟩:=h
 exact⟨F,nd,fun p hp=>s.free (nw p hp),Fp.mv (az.refl _) (fun p o _ z=>z.imp (hb p) id) m h⟩
end
abbrev Ev:=List (Option W)
noncomputable def look:Ev->Nat->Option W
 |[],_=>none
 |x::_,0=>x
 |_::l,n+1=>look l n
theorem bE:∀{ε:Ev} {i:Nat} {w:W},look ε i=some w↔ε[i]?=some (some w)
 |[],i,w=>by simp[look]
 |x::l,0,w=>by simp[look]
 |x::l,i+1,w=>by rw[look,bE];simp
abbrev Ms:=List (Nat×Md)
noncomputable def aS(M:Ms)(i:Nat):Prop:=∃m,(i,m)∈M
structure Fz where
 ab:Addr->Prop
 B:Addr->Prop
 s0:Option V
abbrev FB(A:Fz)(M:Ms)(σ:St):Addr->Prop:=A.B
structure R5(K:PySem.W.Frag)(M:Ms)(A:Fz)(H0:Hp)(σ:St)(H:Hp)(ε:Ev)(F:Nat->List Addr):Prop where
 un:∀i m m',(i,m)∈M->(i,m')∈M->m=m'
 val:∀i m w,(i,m)∈M->look ε i=some w->∃v,σ[i]?=some (some v)/\Fp K A.B H m w v (F i)
 emp:∀i,aS M i->look ε i=none->F i=[]
 nd:∀i,aS M i->(F i).Nodup
 ds:∀i j p,aS M i->aS M j->p∈F i->p∈F j->i=j
 nw:∀i p,aS M i->p∈F i->H0 p=none
 na:∀i p,aS M i->p∈F i->¬A.ab p
 all:∀p,A.B p↔A.ab p\/∃i,aS M i/\p∈F i
structure SR(K:PySem.W.Frag)(M:Ms)(A:Fz)(H0:Hp)(σ:St)(H:Hp)(ε:Ev):Prop where
 len:σ.length=ε.length
 sh:∀i w,¬aS M i->look ε i=some w->∃v,σ[i]?=some (some v)/\Rep K A.B H w v
 sm:az H0 H
 dm:Dom A.ab H
 sl:∀v,A.s0=some v->σ[0]?=some (some v)/\aS M 0
 ow:∃F,R5 K M A H0 σ H ε F
theorem aW{ε:Ev}{i j:Nat}{x:Option W}(h:i≠j):look (ε.set i x) j=look ε j:=by
 cases e:look ε j with
 |none=>
  cases e2:look (ε.set i x) j with
  |none=>rfl
  |some w=>
   rw[bE,Mo h,←bE,e]at e2
   cases e2
 |some w=>
  rw[bE,Mo h,←bE]
  exact e
theorem m6{ε:Ev}{i:Nat}{w w':W}(h:look (ε.set i (some w)) i=some w'):w'=w:=by
 rw[bE,List.getElem?_set]at h
 rw[Bz rfl]at h
 split at h
 ·cases h
  rfl
 ·cases h
theorem vm{ε:Ev}{i:Nat}{w:W}(h:look ε i=some w):i<ε.length:=by
 rw[bE]at h
 exact(GM.mp h).1
section
variable{K:PySem.W.Frag}{M M':Ms}{A:Fz}{H0 H H1:Hp}{σ:St}{ε:Ev}{F:Nat->List Addr}
theorem R5.has(O:R5 K M A H0 σ H ε F){i:Nat}{p:Addr}(hi:aS M i)(hp:p∈F i):∃o,H p=some o/\FE o=true:=by
 cases hl:look ε i with
 |none=>
  rw[O.emp i hi hl]at hp
  cases hp
 |some w=>
  obtain⟨m,hm⟩:=hi
  obtain⟨v,_,h⟩:=O.val i m w hm hl
  exact Fp.mu m h p hp
theorem SR.dom(S:SR K M A H0 σ H ε):Dom A.B H:=fun p z=>by
 obtain⟨F,O⟩:=S.ow
 rcases(O.all p).mp z with z|⟨i,hi,hp⟩
 ·exact S.dm p z
 ·obtain⟨o,e,_⟩:=O.has hi hp
  exact⟨o,e⟩
theorem SR.sub'(S:SR K M A H0 σ H ε):∀p,A.ab p->A.B p:=fun p z=>by
 obtain⟨F,O⟩:=S.ow
 exact(O.all p).mpr (.inl z)
theorem SR.same(S:SR K M A H0 σ H ε)(s:az H H1):SR K M A H0 σ H1 ε:=by
 obtain⟨F,O⟩:=S.ow
 exact⟨S.len,fun i w hi e=>let⟨v,h1,h2⟩:=S.sh i w hi e;⟨v,h1,h2.same s⟩,S.sm.trans s,S.dm.same s,S.sl,F,
  ⟨O.un,fun i m w hm e=>let⟨v,h1,h2⟩:=O.val i m w hm e;⟨v,h1,Fp.mv s (fun _ _ _ z=>z) m h2⟩,O.emp,O.nd,O.ds,O.nw,O.na,O.all⟩⟩
theorem SR.sub(S:SR K M A H0 σ H ε)(h:∀x∈M',x∈M)(z0:Option V)(hz:∀v,z0=some v->A.s0=some v/\aS M' 0):∃A',A'.ab=A.ab/\A'.s0=z0/\(∀p,A'.B p->A.B p)/\SR K M' A' H0 σ H ε:=by
 obtain⟨F,O⟩:=S.ow
 have hh:∀i,aS M' i->aS M i:=by rintro i ⟨m,hm⟩;exact⟨m,h _ hm⟩
 have hb:∀p,(A.ab p\/∃i,aS M' i/\p∈F i)->A.B p:=fun p z=>(O.all p).mpr (z.imp id<|by rintro⟨i,hi,hp⟩;exact⟨i,hh i hi,hp⟩)
 refine⟨⟨A.ab,fun p=>A.ab p\/∃i,aS M' i/\p∈F i,z0⟩,rfl,rfl,hb,S.len,fun i w hi' e=>?_,S.sm,S.dm,fun v e=>⟨(S.sl v (hz v e).1).1,(hz v e).2⟩,F,⟨fun i m m' a b=>O.un i m m' (h _ a) (h _ b),fun i m w hm e=>?_,fun i hi=>O.emp i (hh i hi),fun i hi=>O.nd i (hh i hi),fun i j p hi hj=>O.ds i j p (hh i hi) (hh j hj),fun i p hi=>O.nw i p (hh i hi),fun i p hi=>O.na i p (hh i hi),fun p=>Iff.rfl⟩⟩
 ·by_cases hi:aS M i
  ·have hi0:=hi
   obtain⟨m,hm⟩:=hi
   obtain⟨v,h1,h2⟩:=O.val i m w hm e
   refine⟨v,h1,Fp.rep hb m (fun p hp z=>?_) h2⟩
   rcases z with z|⟨j,hj,Xd⟩
   ·exact O.na i p hi0 hp z
   ·have:=O.ds i j p hi0 (hh j hj) hp Xd
    subst this
    exact hi' hj
  ·obtain⟨v,h1,h2⟩:=S.sh i w hi e
   exact⟨v,h1,h2.less hb⟩
 ·obtain⟨v,h1,h2⟩:=O.val i m w (h _ hm) e
  exact⟨v,h1,Fp.mv (az.refl _) (fun p _ _ z=>hb p z) m h2⟩
theorem SR.go(S:SR K M A H0 σ H ε):SR K [] ⟨A.ab,A.ab,none⟩ H0 σ H ε:=by
 obtain⟨A',e1,e0,e2,S'⟩:=S.sub (M':=[]) (fun x hx=>by cases hx) none (fun v e=>by cases e)
 obtain⟨F,O⟩:=S'.ow
 have e:∀p,A'.B p↔A.ab p:=fun p=>by
  rw[O.all p,e1]
  exact⟨fun z=>z.elim id (by rintro⟨i,⟨m,hm⟩,_⟩;cases hm),.inl⟩
 have:A'.B=A.ab:=funext fun p=>propext (e p)
 have:A'=⟨A.ab,A.ab,none⟩:=by
  cases A'
  simp only at e1 e0 this
  rw[e1,this,e0]
 rw[←this]
 exact S'
theorem SR.set(S:SR K M A H0 σ H ε){i:Nat}{w:W}{v:V}(hi:¬aS M i)(h:Rep K A.B H w v):SR K M A H0 (σ.set i (some v)) H (ε.set i (some w)):=by
 obtain⟨F,O⟩:=S.ow
 refine⟨by rw[OK,OK];exact S.len,fun j w' hj e=>?_,S.sm,S.dm,fun u e=>?_,F,⟨O.un,fun j m w' hm e=>?_,fun j hj e=>?_,O.nd,O.ds,O.nw,O.na,O.all⟩⟩
 ·by_cases ne:i=j
  ·subst ne
   have hl:i<σ.length:=by
    rw[S.len]
    have:=vm e
    rwa [OK]at this
   have:=m6 e
   subst this
   exact⟨v,QR hl,h⟩
  ·rw[aW ne]at e
   obtain⟨u,h1,h2⟩:=S.sh j w' hj e
   exact⟨u,by rw[Mo ne];exact h1,h2⟩
 ·obtain⟨h1,h2⟩:=S.sl u e
  exact⟨by rw[Mo (by rintro rfl;exact hi h2)];exact h1,h2⟩
 ·have ne:i≠j:=by rintro rfl;exact hi ⟨m,hm⟩
  rw[aW ne]at e
  obtain⟨u,h1,h2⟩:=O.val j m w' hm e
  exact⟨u,by rw[Mo ne];exact h1,h2⟩
 ·have ne:i≠j:=by rintro rfl;exact hi hj
  rw[aW ne]at e
  exact O.emp j hj e
theorem SR.own(S:SR K M' A H0 σ H ε){i:Nat}{m:Md}{w:W}{v:V}(hM:∀x,x∈M↔x=(i,m)\/x∈M')(hi:¬aS M' i)(s:az H H1)(h:fH K A.B H H1 m w v):
 ∃A',A'.ab=A.ab/\A'.s0=A.s0/\(∀p o,H p=some o->A'.B p->A.B p)/\SR K M A' H0 (σ.set i (some v)) H1 (ε.set i (some w)):=by
 obtain⟨F,O⟩:=S.ow
 obtain⟨G,nd,nw,fp⟩:∃G:List Addr,G.Nodup/\(∀p∈G,H p=none)/\(i<ε.length->Fp K (fun q=>A.B q\/q∈G) H1 m w v G)/\(ε.length<=i->G=[]):=by
  by_cases hil:i<ε.length
  ·obtain⟨G,nd,nw,fp⟩:=h
   exact⟨G,nd,nw,fun _=>fp,fun z=>by lia⟩
  ·exact⟨[],List.nodup_nil,by simp,fun z=>(hil z).elim,fun _=>rfl⟩
 have hm:∀j,aS M j↔j=i\/aS M' j:=fun j=>by
  constructor
  ·rintro⟨m',h'⟩
   rcases(hM _).mp h' with e|e
   ·cases e
    exact .inl rfl
   ·exact .inr ⟨m',e⟩
  ·rintro(rfl|⟨m',h'⟩)
   ·exact⟨m,(hM _).mpr (.inl rfl)⟩
   ·exact⟨m',(hM _).mpr (.inr h')⟩
 have ne:∀j,aS M' j->j≠i:=fun j hj e=>by subst e;exact hi hj
 have old:∀j p,aS M' j->p∈F j->p∉G:=fun j p hj hp z=>by
  obtain⟨o,e,_⟩:=O.has hj hp
  rw[nw p z]at e
  cases e
 have ba:∀p o,H p=some o->(A.B p\/p∈G)->A.B p:=fun p o e z=>by
  rcases z with z|z
  ·exact z
  ·rw[nw p z]at e
   cases e
 refine⟨⟨A.ab,fun p=>A.B p\/p∈G,A.s0⟩,rfl,rfl,ba,by rw[OK,OK];exact S.len,fun j w' hj e=>?_,S.sm.trans s,S.dm.same s,fun u e=>?_,fun j=>if j=i then G else F j,⟨fun j m1 m2 a b=>?_,fun j m' w' hj e=>?_,fun j hj e=>?_,fun j hj=>?_,fun j k p hj hk a b=>?_,fun j p hj hp=>?_,fun j p hj hp=>?_,fun p=>?_⟩⟩
 ·have hj2:j≠i/\¬aS M' j:=⟨fun z=>hj ((hm j).mpr (.inl z)),fun z=>hj ((hm j).mpr (.inr z))⟩
  rw[aW (Q1 hj2.1)]at e
  obtain⟨u,h1,h2⟩:=S.sh j w' hj2.2 e
  exact⟨u,by rw[Mo (Q1 hj2.1)];exact h1,Rep.mv s ba w' h2⟩
 ·obtain⟨h1,h2⟩:=S.sl u e
  exact⟨by rw[Mo (Q1 (ne 0 h2))];exact h1,(hm 0).mpr (.inr h2)⟩
 ·rcases(hM _).mp a with a|a
  ·rcases(hM _).mp b with b|b
   ·cases a
    cases b
    rfl
   ·cases a
    exact(hi ⟨_,b⟩).elim
  ·rcases(hM _).mp b with b|b
   ·cases b
    exact(hi ⟨_,a⟩).elim
   ·exact O.un j m1 m2 a b
 ·rcases(hM _).mp hj with a|a
  ·cases a
   have hil:i<ε.length:=by have:=vm e;rwa [OK]at this
   have:=m6 e
   subst this
   exact⟨v,QR (by rw[S.len];exact hil),by rw[Bz rfl];exact fp.1 hil⟩
  ·have n:=ne j ⟨m',a⟩
   rw[aW (Q1 n)]at e
   obtain⟨u,h1,h2⟩:=O.val j m' w' a e
   exact⟨u,by rw[Mo (Q1 n)];exact h1,by rw[Bi n];exact Fp.mv s ba m' h2⟩
 ·by_cases n:j=i
  ·subst n
   rw[Bz rfl]
   refine fp.2 (Nat.le_of_not_lt fun hil=>?_)
   have:look (ε.set j (some w)) j=some w:=by rw[bE];exact QR hil
   rw[this]at e
   cases e
  ·rw[aW (Q1 n)]at e
   rw[Bi n]
   exact O.emp j (((hm j).mp hj).resolve_left n) e
 ·by_cases n:j=i
  ·rw[Bz n]
   exact nd
  ·rw[Bi n]
   exact O.nd j (((hm j).mp hj).resolve_left n)
 ·by_cases n1:j=i
  ·by_cases n2:k=i
   ·rw[n1,n2]
   ·rw[Bz n1]at a
    rw[Bi n2]at b
    exact(old k p (((hm k).mp hk).resolve_left n2) b a).elim
  ·by_cases n2:k=i
   ·rw[Bi n1]at a
    rw[Bz n2]at b
    exact(old j p (((hm j).mp hj).resolve_left n1) a b).elim
   ·rw[Bi n1]at a
    rw[Bi n2]at b
    exact O.ds j k p (((hm j).mp hj).resolve_left n1) (((hm k).mp hk).resolve_left n2) a b
 ·by_cases n:j=i
  ·rw[Bz n]at hp
   exact S.sm.free (nw p hp)
  ·rw[Bi n]at hp
   exact O.nw j p (((hm j).mp hj).resolve_left n) hp
 ·by_cases n:j=i
  ·rw[Bz n]at hp
   exact S.dm.no (nw p hp)
  ·rw[Bi n]at hp
   exact O.na j p (((hm j).mp hj).resolve_left n) hp
 ·constructor
  ·rintro(z|z)
   ·rcases(O.all p).mp z with z|⟨j,hj,hp⟩
    ·exact .inl z
    ·exact .inr ⟨j,(hm j).mpr (.inr hj),by rw[Bi (ne j hj)];exact hp⟩
   ·exact .inr ⟨i,(hm i).mpr (.inl rfl),by rw[Bz rfl];exact z⟩
  ·rintro(z|⟨j,hj,hp⟩)
   ·exact .inl ((O.all p).mpr (.inl z))
   ·by_cases n:j=i
    ·rw[Bz n]at hp
     exact .inr hp
    ·rw[Bi n]at hp
     exact .inl ((O.all p).mpr (.inr ⟨j,((hm j).mp hj).resolve_left n,hp⟩))
theorem R5.chg(S:SR K M A H0 σ H ε)(O:R5 K M A H0 σ H ε F){i:Nat}{m:Md}{w w':W}{v:V}{F':List Addr}(hi:(i,m)∈M)(hl:look ε i=some w)(hv:σ[i]?=some (some v))
 (hc:∀p o,H p=some o->(FE o=true/\p∈F i)\/H1 p=some o) (nd:F'.Nodup) (nw:∀p∈F',p∈F i\/H p=none) (h:Fp K (fun p=>(A.B p/\p∉F i)\/p∈F') H1 m w' v F'):
 ∃A',A'.ab=A.ab/\A'.s0=A.s0/\(∀p,A'.B p↔(A.B p/\p∉F i)\/p∈F')/\(∀p o,H p=some o->A'.B p->A.B p)/\xM A.B H H1/\SR K M A' H0 σ H1 (ε.set i (some w')):=by
 have hhi:aS M i:=⟨m,hi⟩
 have Ol:∀p,p∈F i->A.B p:=fun p hp=>(O.all p).mpr (.inr ⟨i,hhi,hp⟩)
 have cB:xM A.B H H1:=fun p o e=>(hc p o e).imp (fun z=>⟨z.1,Ol p z.2⟩) id
 have ba:∀p o,H p=some o->((A.B p/\p∉F i)\/p∈F')->A.B p:=fun p o e z=>by
  rcases z with z|z
  ·exact z.1
  ·rcases nw p z with z|z
   ·exact Ol p z
   ·rw[z]at e
    cases e
 have VV:∀j p,aS M j->j≠i->p∈F j->p∉F i/\p∉F':=fun j p hj n hp=>by
  have a:p∉F i:=fun z=>n (O.ds j i p hj hhi hp z)
  refine⟨a,fun z=>?_⟩
  rcases nw p z with z|z
  ·exact a z
  ·obtain⟨o,e,_⟩:=O.has hj hp
   rw[z]at e
   cases e
 refine⟨⟨A.ab,fun p=>(A.B p/\p∉F i)\/p∈F',A.s0⟩,rfl,rfl,fun _=>Iff.rfl,ba,cB,by rw[OK];exact S.len,fun j w'' hj e=>?_,fun p o e=>?_,fun p z=>?_,S.sl,fun j=>if j=i then F' else F j,⟨O.un,fun j m' w'' hj e=>?_,fun j hj e=>?_,fun j hj=>?_,fun j k p hj hk a b=>?_,fun j p hj hp=>?_,fun j p hj hp=>?_,fun p=>?_⟩⟩
 ·have n:i≠j:=by rintro rfl;exact hj hhi
  rw[aW n]at e
  obtain⟨u,h1,h2⟩:=S.sh j w'' hj e
  exact⟨u,h1,Rep.chg cB ba w'' h2⟩
 ·rcases hc p o (S.sm p o e)with⟨_,z⟩|z
  ·rw[O.nw i p hhi z]at e
   cases e
  ·exact z
 ·obtain⟨o,e⟩:=S.dm p z
  rcases hc p o e with⟨_,y⟩|y
  ·exact(O.na i p hhi y z).elim
  ·exact⟨o,y⟩
 ·by_cases n:j=i
  ·subst n
   have em:=O.un j m m' hi hj
   subst em
   have:=m6 e
   subst this
   exact⟨v,hv,by rw[Bz rfl];exact h⟩
  ·rw[aW (Q1 n)]at e
   obtain⟨u,h1,h2⟩:=O.val j m' w'' hj e
   refine⟨u,h1,?_⟩
   rw[Bi n]
   refine Fp.chg (G:=fun p=>p∈F j) (fun p o e=>?_) ba m' (fun p hp=>hp) h2
   rcases hc p o e with⟨z,y⟩|z
   ·exact .inl ⟨z,Ol p y,fun q=>(VV j p ⟨m',hj⟩ n q).1 y⟩
   ·exact .inr z
 ·by_cases n:j=i
  ·subst n
   have:look (ε.set j (some w')) j=some w':=by rw[bE];exact QR (vm hl)
   rw[this]at e
   cases e
  ·rw[aW (Q1 n)]at e
   rw[Bi n]
   exact O.emp j hj e
 ·by_cases n:j=i
  ·rw[Bz n]
   exact nd
  ·rw[Bi n]
   exact O.nd j hj
 ·by_cases n1:j=i
  ·by_cases n2:k=i
   ·rw[n1,n2]
   ·rw[Bz n1]at a
    rw[Bi n2]at b
    exact((VV k p hk n2 b).2 a).elim
  ·by_cases n2:k=i
   ·rw[Bi n1]at a
    rw[Bz n2]at b
    exact((VV j p hj n1 a).2 b).elim
   ·rw[Bi n1]at a
    rw[Bi n2]at b
    exact O.ds j k p hj hk a b
 ·by_cases n:j=i
  ·rw[Bz n]at hp
   rcases nw p hp with z|z
   ·exact O.nw i p hhi z
   ·exact S.sm.free z
  ·rw[Bi n]at hp
   exact O.nw j p hj hp
 ·by_cases n:j=i
  ·rw[Bz n]at hp
   rcases nw p hp with z|z
   ·exact O.na i p hhi z
   ·exact S.dm.no z
  ·rw[Bi n]at hp
   exact O.na j p hj hp
 ·constructor
  ·rintro(⟨z,y⟩|z)
   ·rcases(O.all p).mp z with z|⟨j,hj,hp⟩
    ·exact .inl z
    ·have n:j≠i:=by rintro rfl;exact y hp
     exact .inr ⟨j,hj,by rw[Bi n];exact hp⟩
   ·exact .inr ⟨i,hhi,by rw[Bz rfl];exact z⟩
  ·rintro(z|⟨j,hj,hp⟩)
   ·exact .inl ⟨(O.all p).mpr (.inl z),fun y=>O.na i p hhi y z⟩
   ·by_cases n:j=i
    ·rw[Bz n]at hp
     exact .inr hp
    ·rw[Bi n]at hp
     exact .inl ⟨(O.all p).mpr (.inr ⟨j,hj,hp⟩),(VV j p hj n hp).1⟩
end
inductive BI where
 |len|abs|max2|min2|sum|all|any|list|tuple
 deriving DecidableEq
inductive CE where
 |var (i:Nat)|int (i:Int)|bl (b:Bool)|str (x:Str)|aX|glob (g:Nat)
 |bin (op:Operator) (a b:CE)|neg (a:CE)|not (a:CE)
 |cmp (op:CmpOp) (a b:CE)
 |and (as:List CE)|or (as:List CE)|ite (c a b:CE)
 |tup (as:List CE)|lst (as:List CE)
 |ix (a i:CE)|sl (a lo hi:CE)
 |call (f:Nat) (as:List CE)|blt (b:BI) (as:List CE)|bits (a:CE)
 |comp (ts:List Nat) (one:Bool) (n:Nat) (it:CE) (c:CE) (e:CE)
 |oz (as:List CE)|vn (a:CE)|rev (a:CE)
 |pop (i:Nat)
 |own (i:Nat) (π:List pH)|GD (i g f:Nat) (as:List CE)
inductive CS where
 |set (i:Nat) (e:CE)|rA (ts:List Nat) (e:CE)|par (ts:List Nat) (es:List CE)
 |app (i:Nat) (e:CE)|put (i:Nat) (k e:CE)|drop (i:Nat)|yd (j:Nat) (e:CE)
 |ret (e:CE)|iff (c:CE) (a b:List CS)|GF (c:CE) (b:List CS)
 |fr (ts:List Nat) (one:Bool) (it:CE) (b:List CS)
 |brk
 |EF (i n:Nat) (e:CE)
 |ML (e:CE)|R6 (e:CE)
 |Ug (ts:List Nat) (e:CE)|mj|Uh (i j k:Nat)
noncomputable def Ui:W->W->(W->Prop)->Prop
 |.int i,.int j,Q=>Q (.int (i+j))
 |.lst a,.lst b,Q=>a.length+b.length<=sizeLine/\Q (.lst (a++b))
 |.tup a,.tup b,Q=>a≠[]/\a.length+b.length<=sizeLine/\Q (.tup (a++b))
 |.str a,.str b,Q=>a.length+b.length<=sizeLine/\Q (.str (a++b))
 |_,_,_=>False
noncomputable def Uj:W->W->(W->Prop)->Prop
 |.int i,.int j,Q=>IntMulOk i j/\Q (.int (i*j))
 |.lst a,.int k,Q=> -(2^63)<=k/\k<2^63/\a.length*k.toNat<=sizeLine/\Q (.lst (List.replicate k.toNat a).flatten)
 |_,_,_=>False
noncomputable def R7(C:Int->Int->Prop)(g:Int->Int->Int):W->W->(W->Prop)->Prop
 |.int i,.int j,Q=>C i j/\Q (.int (g i j))
 |_,_,_=>False
noncomputable def Uk:W->W->(W->Prop)->Prop
 |.int i,.int j,Q=>Q (.int (i -j))
 |_,_,_=>False
noncomputable def gE:Operator->W->W->(W->Prop)->Prop
 |.Add=>Ui
 |.Sub=>Uk
 |.Mult=>Uj
 |.FloorDiv=>R7 uw fun i j=>i.fdiv j
 |.Mod=>R7 (fun _ j=>j≠0) fun i j=>i.fmod j
 |.Pow=>R7 tN fun i j=>i^j.toNat
 |.LShift=>R7 tN fun i j=>i*2^j.toNat
 |.RShift=>R7 (fun _ j=>0<=j) fun i j=>i/2^j.toNat
 |_=>fun _ _ _=>False
noncomputable def fY:Nat->W->Bool
 |_,.int _=>true
 |_,.str x=>PyData.strOk x
 |_,.aX=>true
 |n+1,.lst l=>l.all (fY n)
 |n+1,.tup l=>l.all (fY n)
 |_,_=>false
noncomputable def g5:Nat->W->Bool
 |_,.bl _=>true
 |_,.str x=>PyData.strOk x
 |_,.aX=>true
 |n+1,.lst l=>l.all (g5 n)
 |n+1,.tup l=>l.all (g5 n)
 |_,_=>false
noncomputable def Xe(ne:Bool):W->W->(W->Prop)->Prop
 |.int i,.int j,Q=>Q (.bl (if ne then !decide (i=j)else decide (i=j)))
 |.str i,.str j,Q=>Q (.bl (if ne then !decide (i=j)else decide (i=j)))
 |.bl i,.bl j,Q=>Q (.bl (if ne then !decide (i=j)else decide (i=j)))
 |x,y,Q=>((fY 9 x=true/\fY 9 y=true)\/(g5 9 x=true/\g5 9 y=true))/\∀b:Bool,(b=true↔x=y)->Q (.bl (if ne then !b else b))
noncomputable def GG(p:Int->Int->Bool):W->W->(W->Prop)->Prop
 |.int i,.int j,Q=>Q (.bl (p i j))
 |_,_,_=>False
noncomputable def Xf(ne:Bool):W->W->(W->Prop)->Prop
 |.aX,.aX,Q=>Q (.bl (!ne))
 |.bl _,.aX,Q=>Q (.bl ne)
 |.int _,.aX,Q=>Q (.bl ne)
 |.str _,.aX,Q=>Q (.bl ne)
 |.lst _,.aX,Q=>Q (.bl ne)
 |.tup _,.aX,Q=>Q (.bl ne)
 |.err _,.aX,Q=>Q (.bl ne)
 |_,_,_=>False
noncomputable def gg:CmpOp->W->W->(W->Prop)->Prop
 |.Eq=>Xe false
 |.NotEq=>Xe true
 |.Lt=>GG fun i j=>decide (i<j)
 |.LtE=>GG fun i j=>decide (i<=j)
 |.Gt=>GG fun i j=>decide (j<i)
 |.GtE=>GG fun i j=>decide (j<=i)
 |.Is=>Xf false
 |.IsNot=>Xf true
 |_=>fun _ _ _=>False
noncomputable def OH:W->W->(W->Prop)->Prop
 |.lst l,.int i,Q=>∃w,oG l i=some w/\Q w
 |.tup l,.int i,Q=>∃w,oG l i=some w/\Q w
 |.iJ ns,.int i,Q=>∃n,oG ns i=some n/\Q (.int n)
 |_,_,_=>False
noncomputable def oM(l:List W)(lo hi:Option Int):List W:=(l.drop (HT.tO l.length 0 lo)).take (HT.tO l.length l.length hi -HT.tO l.length 0 lo)
noncomputable def kX:CE->Bool
 |.aX=>true
 |_=>false
noncomputable def prI:W->(Option Int->Prop)->Prop
 |.int i,Q=>Q (some i)
 |_,_=>False
noncomputable def JB(c:CE)(y:W)(Q:Option Int->Prop):Prop:=cond (kX c) (Q none) (prI y Q)
noncomputable def VW:W->Option Int->Option Int->(W->Prop)->Prop
 |.lst l,lo,hi,Q=>Q (.lst (oM l lo hi))
 |.iJ ns,lo,hi,Q=>Q (.lst (oM (ns.map W.int) lo hi))
 |_,_,_,_=>False
noncomputable def Xg(a b:String):Bool:=a==b||(a=="bool"&&b=="int")
noncomputable def vo:BI->List W->(W->Prop)->Prop
 |.len,[.lst l],Q=>Q (.int l.length)
 |.len,[.tup l],Q=>Q (.int l.length)
 |.len,[.iJ ns],Q=>Q (.int ns.length)
 |.abs,[.int i],Q=>Q (.int (if i<0 then-i else i))
 |.max2,[.int i,.int j],Q=>Q (.int (if j>i then j else i))
 |.min2,[.int i,.int j],Q=>Q (.int (if j<i then j else i))
 |.sum,[.lst l],Q=>∃ns:List Int,l=ns.map W.int/\Q (.int ns.sum)
 |.all,[.lst l],Q=>∃bs:List Bool,l=bs.map W.bl/\Q (.bl (bs.all id))
 |.list,[.lst l],Q=>Q (.lst l)
 |.list,[.tup l],Q=>Q (.lst l)
 |.tuple,[.lst l],Q=>Q (.tup l)
 |.tuple,[.tup l],Q=>Q (.tup l)
 |_,_,_=>False
noncomputable def bD(ε:Ev):List Nat->List W->Ev
 |i::is,w::ws=>bD (ε.set i (some w)) is ws
 |_,_=>ε
noncomputable def wT(one:Bool)(ts:List Nat)(w:W)(ε:Ev)(Q:Ev->Prop):Prop:=
 match one,ts,w with
 |true,[i],w=>Q (ε.set i (some w))
 |false,ts,.tup l=>l.length=ts.length/\Q (bD ε ts l)
 |_,_,_=>False
noncomputable def qi(f:W->(Option W->Prop)->Prop):List W->List W->(List W->Prop)->Prop
 |[],acc,Q=>Q acc
 |w::ws,acc,Q=>f w fun r=>match r with
  |some y=>acc.length<sizeLine/\qi f ws (acc++[y]) Q
  |none=>qi f ws acc Q
noncomputable def truth:W->(Bool->Prop)->Prop
 |.bl b,Q=>Q b
 |_,_=>False
noncomputable def items:W->(List W->Prop)->Prop
 |.lst l,Q=>Q l
 |.tup l,Q=>Q l
 |_,_=>False
noncomputable def iM(lo st:Int)(n:Nat):List W:=(List.range n).map fun(i:Nat)=>W.int (lo+(i:Int)*st)
noncomputable def GH:List W->(List W->Prop)->Prop
 |[.int j],Q=> -(2^62)<=j/\j<2^62/\Q (iM 0 1 j.toNat)
 |[.int i,.int j],Q=>(-(2^62)<=i/\i<2^62/\-(2^62)<=j/\j<2^62)/\Q (iM i 1 (j -i).toNat)
 |[.int i,.int j,.int k],Q=>∃n:Nat,(k≠0/\k.natAbs<1073741824/\Builtin.Range.small i j k=true/\Builtin.Range.rangeSize i j k=(n:Int))/\Q (iM i k n)
 |_,_=>False
noncomputable def jz(l:List W):List W:=List.zipWith (fun(i:Nat) w=>W.tup [.int i,w]) (List.range l.length) l
abbrev bN:=List W->(W->Prop)->(Addr->Prop)->Prop
section
variable(Φ:Nat->bN)(G:Nat->W)
mutual
noncomputable def wE(R:Addr->Prop):CE->Ev->(W->Prop)->Prop
 |.var i,ε,Q=>match look ε i with
  |some w=>Q w
  |none=>False
 |.int i,_,Q=>Q (.int i)
 |.bl b,_,Q=>Q (.bl b)
 |.str x,_,Q=>Q (.str x)
 |.aX,_,Q=>Q .aX
 |.glob g,_,Q=>Q (G g)
 |.bin op a b,ε,Q=>wE R a ε fun x=>wE R b ε fun y=>gE op x y Q
 |.neg a,ε,Q=>wE R a ε fun x=>match x with
  |.int i=>Q (.int (-i))
  |_=>False
 |.not a,ε,Q=>wE R a ε fun x=>truth x fun b=>Q (.bl (!b))
 |.cmp op a b,ε,Q=>wE R a ε fun x=>wE R b ε fun y=>gg op x y Q
 |.and as,ε,Q=>Al R as ε Q
 |.or as,ε,Q=>Nz R as ε Q
 |.ite c a b,ε,Q=>wE R c ε fun x=>truth x fun k=>if k=true then wE R a ε Q else wE R b ε Q
 |.tup as,ε,Q=>wA R as ε fun ws=>ws.length<=sizeLine/\Q (.tup ws)
 |.lst as,ε,Q=>wA R as ε fun ws=>ws.length<=sizeLine/\Q (.lst ws)
 |.ix a i,ε,Q=>wE R a ε fun x=>wE R i ε fun y=>OH x y Q
 |.sl a lo hi,ε,Q=>wE R a ε fun x=>wE R lo ε fun y=>JB lo y fun l=>wE R hi ε fun z=>JB hi z fun h=>VW x l h Q
 |.call f as,ε,Q=>wA R as ε fun ws=>Φ f ws Q R
 |.blt b as,ε,Q=>wA R as ε fun ws=>vo b ws Q
 |.bits a,ε,Q=>wE R a ε fun x=>match x with
  |.int i=>Q (.int (Builtin.Int.intBits i:Nat))
  |_=>False
 |.comp ts one n it c e,ε,Q=>wE R it ε fun z=>items z fun ws=>qi (fun w K=>wT one ts w (List.replicate n none++ε) fun ε'=>wE (fun _=>False) c ε' fun x=>truth x fun k=>if k=true then wE (fun _=>False) e ε' fun y=>K (some y)else K none) ws [] fun l=>Q (.lst l)
 |.oz as,ε,Q=>wA R as ε fun ws=>GH ws fun l=>Q (.lst l)
 |.vn a,ε,Q=>wE R a ε fun x=>match x with
  |.lst l=>Q (.lst (jz l))
  |_=>False
 |.rev a,ε,Q=>wE R a ε fun x=>match x with
  |.lst l=>Q (.lst l.reverse)
  |_=>False
 |.pop _,_,_=>False
 |.own i π,ε,Q=>match look ε i with
  |some w=>match cW w π with
   |some u=>Q u
   |none=>False
  |none=>False
 |.GD _ _ _ _,_,_=>False
noncomputable def wA(R:Addr->Prop):List CE->Ev->(List W->Prop)->Prop
 |[],_,Q=>Q []
 |a::as,ε,Q=>wE R a ε fun x=>wA R as ε fun xs=>Q (x::xs)
noncomputable def Al(R:Addr->Prop):List CE->Ev->(W->Prop)->Prop
 |[],_,_=>False
 |a::as,ε,Q=>match as with
  |[]=>wE R a ε Q
  |b::bs=>wE R a ε fun x=>truth x fun k=>if k=true then Al R (b::bs) ε Q else Q (.bl false)
noncomputable def Nz(R:Addr->Prop):List CE->Ev->(W->Prop)->Prop
 |[],_,_=>False
 |a::as,ε,Q=>match as with
  |[]=>wE R a ε Q
  |b::bs=>wE R a ε fun x=>truth x fun k=>if k=true then Q (.bl true)else Nz R (b::bs) ε Q
end
structure Dn where
 nx:Ev->Prop
 rt:W->Prop
 bk:Ev->Prop
 ct:Ev->Prop
 ex:Addr->Prop
mutual
noncomputable def wP(R:Addr->Prop):CE->Ev->(W->Ev->Prop)->Prop
 |.pop i,ε,Q=>match look ε i with
  |some (.lst l)=>∃w,l[l.length -1]?=some w/\Q w (ε.set i (some (.lst l.dropLast)))
  |_=>False
 |.GD i g f as,ε,Q=>match look ε i with
  |some (.obj C _ _)=>G g=.cls C/\NB R as ε fun ws ε'=>match look ε' i with
   |some w0=>Φ f (w0::ws) (fun r=>∃w y,r=.tup [w,y]/\Q w (ε'.set i (some y))) R
   |none=>False
  |_=>False
 |.bin op a b,ε,Q=>wP R a ε fun x gX=>wP R b gX fun y jJ=>gE op x y fun z=>Q z jJ
 |.cmp op a b,ε,Q=>wP R a ε fun x gX=>wP R b gX fun y jJ=>gg op x y fun z=>Q z jJ
 |.call f as,ε,Q=>NB R as ε fun ws ε'=>Φ f ws (fun w=>Q w ε') R
 |.blt b as,ε,Q=>NB R as ε fun ws ε'=>vo b ws fun w=>Q w ε'
 |.ix a b,ε,Q=>wP R a ε fun x gX=>wP R b gX fun y jJ=>OH x y fun z=>Q z jJ
 |.and as,ε,Q=>BW R as ε Q
 |e,ε,Q=>wE Φ G R e ε fun w=>Q w ε
noncomputable def NB(R:Addr->Prop):List CE->Ev->(List W->Ev->Prop)->Prop
 |[],ε,Q=>Q [] ε
 |a::as,ε,Q=>wP R a ε fun x gX=>NB R as gX fun xs jJ=>Q (x::xs) jJ
noncomputable def BW(R:Addr->Prop):List CE->Ev->(W->Ev->Prop)->Prop
 |[],_,_=>False
 |a::as,ε,Q=>match as with
  |[]=>wP R a ε Q
  |b::bs=>wP R a ε fun x ε'=>truth x fun k=>if k=true then BW R (b::bs) ε' Q else Q (.bl false) ε'
end
noncomputable def qj(b:W->Dn->Ev->Prop)(D:Dn):List W->Ev->Prop
 |[],ε=>D.nx ε
 |w::ws,ε=>b w {nx:=qj b D ws,rt:=D.rt,bk:=D.nx,ct:=qj b D ws,ex:=fun _=>False} ε
noncomputable def OI(c:Ev->(Bool->Prop)->Prop)(b:Dn->Ev->Prop)(D:Dn)(ε:Ev):Prop:=
 ∃J:Nat->Ev->Prop,(∃m,J m ε)/\∀m ε,J m ε->c ε fun k=>if k=true then∃N:Ev->Prop,(∀ε',N ε'->∃m',m'<m/\J m' ε')/\b {nx:=N,rt:=D.rt,bk:=D.nx,ct:=N,ex:=fun _=>False} ε else D.nx ε
mutual
noncomputable def wS:CS->Dn->Ev->Prop
 |.set i e,D,ε=>wE Φ G D.ex e ε fun w=>D.nx (ε.set i (some w))
 |.rA ts e,D,ε=>wE Φ G D.ex e ε fun w=>match w with
  |.tup l=>l.length=ts.length/\D.nx (bD ε ts l)
  |_=>False
 |.par ts es,D,ε=>wA Φ G D.ex es ε fun ws=>ws.length=ts.length/\D.nx (bD ε ts ws)
 |.app i e,D,ε=>match look ε i with
  |some (.lst l)=>wE Φ G D.ex e ε fun w=>l.length<sizeLine/\D.nx (ε.set i (some (.lst (l++[w]))))
  |_=>False
 |.put i k e,D,ε=>wE Φ G D.ex e ε fun w=>match look ε i with
  |some (.lst l)=>wE Φ G D.ex k ε fun x=>match x with
   |.int j=>∃n,Ag l.length j=some n/\D.nx (ε.set i (some (.lst (l.set n w))))
   |_=>False
  |_=>False
 |.drop i,D,ε=>wP Φ G D.ex (.pop i) ε fun _ ε'=>D.nx ε'
 |.yd j e,D,ε=>wP Φ G D.ex e ε fun w ε'=>D.nx (ε'.set j (some w))
 |.ret e,D,ε=>wE Φ G D.ex e ε D.rt
 |.iff c a b,D,ε=>wE Φ G D.ex c ε fun x=>truth x fun k=>if k=true then wSs a D ε else wSs b D ε
 |.GF c b,D,ε=>OI (fun ε Q=>wE Φ G (fun _=>False) c ε fun x=>truth x Q) (wSs b) D ε
 |.fr ts one it b,D,ε=>wE Φ G (fun _=>False) it ε fun z=>items z fun ws=>qj (fun w D' ε'=>wT one ts w ε' fun qk=>wSs b D' qk) D ws ε
 |.brk,D,ε=>D.bk ε
 |.EF i n e,D,ε=>wE Φ G D.ex e ε fun w=>match look ε i with
  |some (.obj C fs ws)=>n<ws.length/\D.nx (ε.set i (some (.obj C fs (ws.set n w))))
  |_=>False
 |.ML e,D,ε=>wE Φ G D.ex e ε fun w=>match look ε 0 with
  |some w0=>D.rt (.tup [w,w0])
  |none=>False
 |.R6 e,D,ε=>wP Φ G D.ex e ε fun _ ε'=>D.nx ε'
 |.Ug ts e,D,ε=>wE Φ G D.ex e ε fun w=>match w with
  |.tup l=>l.length=ts.length/\D.nx (bD ε ts l)
  |_=>False
 |.mj,_,_=>False
 |.Uh i j k,D,ε=>match look ε i with
  |some x=>match look ε j with
   |some y=>match look ε k with
    |some z=>D.rt (.tup [x,y,z])
    |none=>False
   |none=>False
  |none=>False
noncomputable def wSs:List CS->Dn->Ev->Prop
 |[],D,ε=>D.nx ε
 |s::ss,D,ε=>match ss with
  |[]=>wS s D ε
  |t::ts=>wS s {D with nx:=wSs (t::ts) D} ε
end
end
noncomputable def bw(K:PySem.W.Frag)(B:Addr->Prop)(H:Hp)(w:W)(v:V):Prop:=
 match w with
 |.lst l=>∃p vs,v=.ref p/\Rd H p (.lst vs)/\aj K B H l vs
 |w=>Rep K B H w v
section
variable{K:PySem.W.Frag}{A B:Addr->Prop}{H H':Hp}{w:W}{v:V}
theorem Rep.b(h:Rep K B H w v):bw K B H w v:=by
 cases w with
 |lst l=>
  rw[Rep]at h
  obtain⟨p,vs,e,_,h1,h2⟩:=h
  exact⟨p,vs,e,h1,h2⟩
 |_=>exact h
theorem bw.same(s:az H H')(h:bw K B H w v):bw K B H' w v:=by
 cases w with
 |lst l=>
  obtain⟨p,vs,e,h1,h2⟩:=h
  exact⟨p,vs,e,VL.az.rd s h1,h2.same s⟩
 |_=>exact Rep.same s h
theorem bw.lst{l:List W}(h:bw K B H (.lst l) v):∃p vs,v=.ref p/\Rd H p (.lst vs)/\aj K B H l vs:=h
theorem bw.Ul{l:List W}(h:bw K B H (.tup l) v):∃p vs,v=.ref p/\H p=some (.tup vs)/\aj K B H l vs:=by
 have h:Rep K B H (.tup l) v:=h
 rw[Rep]at h
 exact h
theorem bw.tup{l:List W}(h:bw K B H (.tup l) v):∃p vs,v=.ref p/\lY K H p vs/\aj K B H l vs:=by
 have h:Rep K B H (.tup l) v:=h
 rw[Rep]at h
 obtain⟨p,vs,e,h1,h2⟩:=h
 exact⟨p,vs,e,lY.of h1,h2⟩
theorem bw.int{i:Int}(h:bw K B H (.int i) v):v=.int i:=by
 have h:Rep K B H (.int i) v:=h
 rw[Rep]at h
 exact h
theorem bw.bl{i:Bool}(h:bw K B H (.bl i) v):v=.bl i:=by
 have h:Rep K B H (.bl i) v:=h
 rw[Rep]at h
 exact h
theorem bw.str{i:Str}(h:bw K B H (.str i) v):v=.str i:=by
 have h:Rep K B H (.str i) v:=h
 rw[Rep]at h
 exact h
theorem bw.aX(h:bw K B H .aX v):v=.aX:=by
 have h:Rep K B H .aX v:=h
 rw[Rep]at h
 exact h
theorem bw.ty{n:String}(h:bw K B H (.ty n) v):v=.ty n:=by
 have h:Rep K B H (.ty n) v:=h
 rw[Rep]at h
 exact h
theorem jh(i:Int):Rep K B H (.int i) (.int i):=by rw[Rep]
theorem EG(i:Bool):Rep K B H (.bl i) (.bl i):=by rw[Rep]
theorem Um(i:Str):Rep K B H (.str i) (.str i):=by rw[Rep]
theorem Uo:Rep K B H .aX .aX:=by rw[Rep]
theorem EH{l:List W}{p:Addr}{vs:List V}(h1:H p=some (.tup vs))(h2:aj K B H l vs):Rep K B H (.tup l) (.ref p):=by rw[Rep];exact⟨p,vs,rfl,h1,h2⟩
end
abbrev KP:=W->Prop
noncomputable def Cont(K:PySem.W.Frag)(B:Addr->Prop)(H:Hp)(m:Md)(P:KP)(Q:VK):Prop:=∀w v H',P w->az H H'->fH K B H H' m w v->Q v H'
theorem Cont.now{K:PySem.W.Frag}{B:Addr->Prop}{H:Hp}{P:KP}{Q:VK}(c:Cont K B H .s P Q){w:W}{v:V}(p:P w)(h:Rep K B H w v):Q v H:=c w v H p (az.refl H) (.of h)
theorem Cont.s{K:PySem.W.Frag}{B:Addr->Prop}{H:Hp}{m:Md}{P:KP}{Q:VK}(d:Dom B H)(c:Cont K B H .s P Q):Cont K B H m P Q:=fun w v H' p s' h=>c w v H' p s' (h.s d)
noncomputable def Kg(X:Cx)(f:Value->Value->Sem Value)(r:W->W->KP->Prop)(m:W->W->Md):Prop:=
 ∀(pins:List (Addr×Obj)) (s:Shared) (σ:St) (H:Hp) (B:Addr->Prop) (x y:W) (vx vy:V) (v u:Value) (P:KP) (Q:VK),Inv X pins σ H s->Dom B H->RelV vx v->RelV vy u->bw X.K B H x vx->bw X.K B H y vy->r x y P->Cont X.K B H (m x y) P Q->
  wpAny (model X.prog X.w) X.A (f v u) (EP X pins σ Q) X.xe s
section
variable{X:Cx}
theorem Kh:oE X (binaryOp .Add) (fun x y H Q=>∃l b xs zs,x=.ref l/\y=.ref b/\Rd H l (.lst xs)/\Rd H b (.lst zs)/\xs.length+zs.length<=sizeLine/\∀p,H p=none->Q (.ref p) (upd H p (.lst (xs++zs)))):=by
 intro pins s σ H x y v u Q I rx ry h
 obtain⟨l,b,xs,zs,rfl,rfl,hH,hB,hz,q⟩:=h
 cases rx
 cases ry
 obtain⟨z,its,n,r,e⟩:=hH.ok I.hok
 obtain⟨z2,its2,n2,r2,e2⟩:=hB.ok I.hok
 have hl:=r.length
 have hl2:=r2.length
 refine PySem.P.add_list e e2 ?_ (by rw[Fu,Fu];lia)
 have ea:its.toArray++its2.toArray=(its++its2).toArray:=by simp
 rw[ea]
 exact⟨.ref _,_,I.TU (t':=s.toks) (r.append r2) (by rw[FC];lia),rfl,q _ I.fresh⟩
theorem Kl:oE X (binaryOp .Mult) (fun x y H Q=>∃l k xs,x=.ref l/\y=.int k/\Rd H l (.lst xs)/\-(2^63)<=k/\k<2^63/\xs.length*k.toNat<=sizeLine/\∀p,H p=none->Q (.ref p) (upd H p (.lst (List.replicate k.toNat xs).flatten))):=by
 intro pins s σ H x y v u Q I rx ry h
 obtain⟨l,k,xs,rfl,rfl,hH,h1,h2,hz,q⟩:=h
 cases rx
 obtain⟨t,rfl⟩:=ry
 obtain⟨z,its,n,r,e⟩:=hH.ok I.hok
 have hl:=r.length
 have hlen:its.toArray.size*k.toNat<=sizeLine:=by rw[Fu,←hl];exact hz
 have hcap:¬its.toArray.size*k.toNat>(2^63 -1)/8:=by
  have:(sizeLine:Nat)<=(2^63 -1)/8:=by decide
  lia
 have hfit:¬(!Builtin.List.listFitsIndex k)=true:=by
  rw[fitsIndex_both h1 h2]
  exact Ki
 have Up:¬Builtin.List.listTooLong (its.toArray.size*k.toNat)=true:=by
  rw[Gj hlen]
  exact Ki
 have hnew:List.foldl (fun x1 x2=>x1++x2) #[] (List.replicate (if its.toArray.isEmpty=true then 0 else k.toNat) its.toArray)=(List.replicate k.toNat its).flatten.toArray:=by
  have f0:∀m:Nat,List.foldl (fun x1 x2=>x1++x2) #[] (List.replicate m its.toArray)=(List.replicate m its).flatten.toArray:=fun m=>by
   have:=foldl_rep its m []
   rw[List.nil_append]at this
   exact this
  rw[f0]
  cases its with
  |nil=>simp
  |cons a r'=>rw[Bi (by simp)]
 refine wpAny_binaryOp_repeat_ref (T:="list") (U:="int") (by decide) ⟨_,e,rfl⟩ (fun s'=>typeIs_int s' k t) noFill_list_mul F.fills_int_mul F.slot_int_rmul repeat_list F.slot_int_index.lookup
  (call_meets F.slot_int_rmul (typeIs_int s k t) F.entry_int_rmul (F.args_int_rmul_2 _ _) (int___rmul___int_list k t l its.toArray n)
    ⟨e,rfl,⟨_,e,rfl⟩,call_meets F.slot_list_mul ⟨_,e,rfl⟩ F.entry_list_mul (F.args_list_mul_2 _ _) (AutoListH.list___mul___list_int_3 l its.toArray n k t hfit hcap Up) ⟨e,?_⟩⟩)
 rw[hnew]
 exact⟨.ref _,_,I.TU (t':=s.toks) (r.rep k.toNat) (by rw[len_rep,cw];exact hz),rfl,q _ I.fresh⟩
noncomputable def Km:W->W->Md
 |.lst _,_=>.f
 |_,_=>.s
theorem OJ:Kg X (binaryOp .Add) Ui Km:=by
 intro pins s σ H B x y vx vy v u P Q I d rx ry hx hy h c
 cases x with
 |int i=>
  cases y with
  |int j=>
   cases hx.int
   cases hy.int
   exact N6 pins s σ H _ _ v u Q I rx ry ⟨i,j,rfl,rfl,c.now h (jh _)⟩
  |_=>exact h.elim
 |str i=>
  cases y with
  |str j=>
   cases hx.str
   cases hy.str
   exact Av pins s σ H _ _ v u Q I rx ry ⟨i,j,rfl,rfl,h.1,c.now h.2 (Um _)⟩
  |_=>exact h.elim
 |lst a=>
  cases y with
  |lst b=>
   obtain⟨p,vs,rfl,h1,h2⟩:=hx.lst
   obtain⟨q,us,rfl,k1,k2⟩:=hy.lst
   obtain⟨hl,h⟩:=h
   refine Kh pins s σ H _ _ v u Q I rx ry ⟨p,q,vs,us,rfl,rfl,h1,k1,by rw[h2.len,k2.len];exact hl,fun r hr=>?_⟩
   exact c _ _ _ h (aY hr _) (.fresh (az.refl H) hr (h2.app k2))
  |_=>exact h.elim
 |tup a=>
  cases y with
  |tup b=>
   obtain⟨p,vs,rfl,OL,h2⟩:=hx.Ul
   have h1:lY X.K H p vs:=lY.of OL
   obtain⟨q,us,rfl,k1,k2⟩:=hy.tup
   obtain⟨hne,hl,h⟩:=h
   refine J1 pins s σ H _ _ v u Q I rx ry ⟨p,q,vs,us,rfl,rfl,h1,k1,fun z=>hne ?_,by rw[h2.len,k2.len];exact hl,fun z=>?_,fun _ r hr=>?_⟩
   ·have:=h2.len
    rw[z]at this
    exact Kj.mp this.symm
   ·have:=k2.len
    rw[z]at this
    have e:b=[]:=Kj.mp this.symm
    subst e
    rw[KF]at h
    exact c.now h (EH OL h2)
   ·exact c _ _ _ h (aY hr _) (.of (EH aE ((h2.app k2).same (aY hr _))))
  |_=>exact h.elim
 |_=>exact h.elim
theorem OM:Kg X (binaryOp .Mult) Uj Km:=by
 intro pins s σ H B x y vx vy v u P Q I d rx ry hx hy h c
 cases x with
 |int i=>
  cases y with
  |int j=>
   cases hx.int
   cases hy.int
   exact J7 pins s σ H _ _ v u Q I rx ry ⟨i,j,rfl,rfl,h.1,c.now h.2 (jh _)⟩
  |_=>exact h.elim
 |lst a=>
  cases y with
  |int k=>
   obtain⟨p,vs,rfl,h1,h2⟩:=hx.lst
   cases hy.int
   obtain⟨l1,l2,hl,h⟩:=h
   refine Kl pins s σ H _ _ v u Q I rx ry ⟨p,k,vs,rfl,rfl,h1,l1,l2,by rw[h2.len];exact hl,fun r hr=>?_⟩
   exact c _ _ _ h (aY hr _) (.fresh (az.refl H) hr (h2.rep _))
  |_=>exact h.elim
 |_=>exact h.elim
noncomputable def mS:W->W->Md:=fun _ _=>.s
theorem ON:Kg X (binaryOp .Sub) Uk mS:=by
 intro pins s σ H B x y vx vy v u P Q I d rx ry hx hy h c
 cases x with
 |int i=>
  cases y with
  |int j=>
   cases hx.int
   cases hy.int
   exact N7 pins s σ H _ _ v u Q I rx ry ⟨i,j,rfl,rfl,c.now h (jh _)⟩
  |_=>exact h.elim
 |_=>exact h.elim
theorem ye{f:Value->Value->Sem Value}{C:Int->Int->Prop}{g:Int->Int->Int}(ho:oE X f (rI C fun i j=>.int (g i j))):Kg X f (R7 C g) mS:=by
 intro pins s σ H B x y vx vy v u P Q I d rx ry hx hy h c
 cases x with
 |int i=>
  cases y with
  |int j=>
   cases hx.int
   cases hy.int
   exact ho pins s σ H _ _ v u Q I rx ry ⟨i,j,rfl,rfl,h.1,c.now h.2 (jh _)⟩
  |_=>exact h.elim
 |_=>exact h.elim
noncomputable def Kn:Operator->W->W->Md
 |.Add=>Km
 |.Mult=>Km
 |_=>mS
theorem AQ(op:Operator):Kg X (binaryOp op) (gE op) (Kn op):=by
 cases op with
 |Add=>exact OJ
 |Sub=>exact ON
 |Mult=>exact OM
 |FloorDiv=>exact ye Gq
 |Mod=>exact ye JR
 |Pow=>exact ye N8
 |LShift=>exact ye N9
 |RShift=>exact ye Oa
 |_=>exact fun pins s σ H B x y vx vy v u P Q I d rx ry hx hy h c=>h.elim
theorem vp{f:Value->Value->Sem Value}{p:Int->Int->Bool}(ho:oE X f (JP fun i j=>.bl (p i j))):Kg X f (GG p) mS:=by
 intro pins s σ H B x y vx vy v u P Q I d rx ry hx hy h c
 cases x with
 |int i=>
  cases y with
  |int j=>
   cases hx.int
   cases hy.int
   exact ho pins s σ H _ _ v u Q I rx ry ⟨i,j,rfl,rfl,c.now h (EG _)⟩
  |_=>exact h.elim
 |_=>exact h.elim
end
mutual
noncomputable def toD:W->PyData
 |.aX=>.none
 |.bl b=>.bool b
 |.int i=>.int i
 |.str x=>.str x
 |.lst l=>.list (toDL l)
 |.tup l=>.tuple (toDL l)
 |_=>.none
noncomputable def toDL:List W->List PyData
 |[]=>[]
 |w::l=>toD w::toDL l
end
mutual
noncomputable def gu:W->Bool
 |.aX=>true
 |.bl _=>true
 |.int _=>true
 |.str x=>PyData.strOk x
 |.lst l=>oN l
 |.tup l=>oN l
 |_=>false
noncomputable def oN:List W->Bool
 |[]=>true
 |w::l=>gu w&&oN l
end
section
variable{X:Cx}{B:Addr->Prop}{H:Hp}
mutual
theorem Uq:∀(w:W) {v:V},gu w=true->Rep X.K B H w v->Dt X H v (toD w)
 |.aX,v,_,h=>by rw[Rep]at h;subst h;rw[toD];exact OA
 |.bl b,v,_,h=>by rw[Rep]at h;subst h;rw[toD];exact T9 b
 |.int i,v,_,h=>by rw[Rep]at h;subst h;rw[toD];exact Ox i
 |.str x,v,_,h=>by rw[Rep]at h;subst h;rw[toD];exact Oz x
 |.lst l,v,d,h=>by
  rw[Rep]at h
  rw[gu]at d
  rw[toD]
  obtain⟨p,vs,rfl,_,h1,h2⟩:=h
  exact Gy (.inl h1) (Ck l d h2)
 |.tup l,v,d,h=>by
  rw[Rep]at h
  rw[gu]at d
  rw[toD]
  obtain⟨p,vs,rfl,h1,h2⟩:=h
  exact OB (lY.of h1) (Ck l d h2)
 |.ty _,_,d,_=>by simp[gu]at d
 |.cls _,_,d,_=>by simp[gu]at d
 |.err _,_,d,_=>by simp[gu]at d
 |.dct _ _,_,d,_=>by simp[gu]at d
 |.obj _ _ _,_,d,_=>by simp[gu]at d
 |.iJ _,_,d,_=>by simp[gu]at d
theorem Ck:∀(l:List W) {vs:List V},oN l=true->aj X.K B H l vs->Paired (Dt X H) vs (toDL l)
 |[],vs,_,h=>by rw[h.nil_inv,toDL];exact .nil
 |w::l,vs,d,h=>by
  obtain⟨v,r,rfl,h1,h2⟩:=h.cons_inv
  rw[oN,B1]at d
  rw[toDL]
  exact .cons (Uq w d.1 h1) (Ck l d.2 h2)
end
theorem Ko{w:W}{v:V}(d:gu w=true)(h:bw X.K B H w v):Dt X H v (toD w):=by
 cases w with
 |lst l=>
  obtain⟨p,vs,rfl,h1,h2⟩:=h.lst
  rw[gu]at d
  rw[toD]
  exact Gy (.inl h1) (Ck l d h2)
 |_=>exact Uq (B:=B) _ d h
end
mutual
theorem toD_lay:∀w:W,gu w=true->(toD w).canLay0=true
 |.aX,_=>by simp[toD,PyData.canLay0]
 |.bl _,_=>by simp[toD,PyData.canLay0]
 |.int _,_=>by simp[toD,PyData.canLay0]
 |.str x,d=>by rw[gu]at d;simp[toD,PyData.canLay0,d]
 |.lst l,d=>by rw[gu]at d;rw[toD,PyData.canLay0];exact toDL_lay l d
 |.tup l,d=>by rw[gu]at d;rw[toD,PyData.canLay0];exact toDL_lay l d
 |.ty _,d=>by simp[gu]at d
 |.cls _,d=>by simp[gu]at d
 |.err _,d=>by simp[gu]at d
 |.dct _ _,d=>by simp[gu]at d
 |.obj _ _ _,d=>by simp[gu]at d
 |.iJ _,d=>by simp[gu]at d
theorem toDL_lay:∀l:List W,oN l=true->PyData.canLayAll0 (toDL l)=true
 |[],_=>by simp[toDL,PyData.canLayAll0]
 |w::l,d=>by
  rw[oN,B1]at d
  rw[toDL,PyData.canLayAll0,toD_lay w d.1,toDL_lay l d.2]
  rfl
end
mutual
theorem toD_same:∀x y:W,gu x=true->gu y=true->(same (toD x) (toD y)=true↔x=y)
 |.aX,.aX,_,_=>by simp[toD,same]
 |.aX,.bl _,_,_=>by simp[toD,same]
 |.aX,.int _,_,_=>by simp[toD,same]
 |.aX,.str _,_,_=>by simp[toD,same]
 |.aX,.lst _,_,_=>by simp[toD,same]
 |.aX,.tup _,_,_=>by simp[toD,same]
 |.bl _,.aX,_,_=>by simp[toD,same]
 |.bl a,.bl b,_,_=>by simp[toD,same]
 |.bl _,.int _,_,_=>by simp[toD,same]
 |.bl _,.str _,_,_=>by simp[toD,same]
 |.bl _,.lst _,_,_=>by simp[toD,same]
 |.bl _,.tup _,_,_=>by simp[toD,same]
 |.int _,.aX,_,_=>by simp[toD,same]
 |.int _,.bl _,_,_=>by simp[toD,same]
 |.int _,.int _,_,_=>by simp[toD,same]
 |.int _,.str _,_,_=>by simp[toD,same]
 |.int _,.lst _,_,_=>by simp[toD,same]
 |.int _,.tup _,_,_=>by simp[toD,same]
 |.str _,.aX,_,_=>by simp[toD,same]
 |.str _,.bl _,_,_=>by simp[toD,same]
 |.str _,.int _,_,_=>by simp[toD,same]
 |.str _,.str _,_,_=>by simp[toD,same]
 |.str _,.lst _,_,_=>by simp[toD,same]
 |.str _,.tup _,_,_=>by simp[toD,same]
 |.lst _,.aX,_,_=>by simp[toD,same]
 |.lst _,.bl _,_,_=>by simp[toD,same]
 |.lst _,.int _,_,_=>by simp[toD,same]
 |.lst _,.str _,_,_=>by simp[toD,same]
 |.lst a,.lst b,d,e=>by
  rw[gu]at d e
  rw[toD,toD,same,toDL_same a b d e,W.lst.injEq]
 |.lst _,.tup _,_,_=>by simp[toD,same]
 |.tup _,.aX,_,_=>by simp[toD,same]
 |.tup _,.bl _,_,_=>by simp[toD,same]
 |.tup _,.int _,_,_=>by simp[toD,same]
 |.tup _,.str _,_,_=>by simp[toD,same]
 |.tup _,.lst _,_,_=>by simp[toD,same]
 |.tup a,.tup b,d,e=>by
  rw[gu]at d e
  rw[toD,toD,same,toDL_same a b d e,W.tup.injEq]
 |.ty _,_,d,_=>by simp[gu]at d
 |.cls _,_,d,_=>by simp[gu]at d
 |.err _,_,d,_=>by simp[gu]at d
 |.dct _ _,_,d,_=>by simp[gu]at d
 |.obj _ _ _,_,d,_=>by simp[gu]at d
 |.iJ _,_,d,_=>by simp[gu]at d
 |_,.ty _,_,d=>by simp[gu]at d
 |_,.cls _,_,d=>by simp[gu]at d
 |_,.err _,_,d=>by simp[gu]at d
 |_,.dct _ _,_,d=>by simp[gu]at d
 |_,.obj _ _ _,_,d=>by simp[gu]at d
 |_,.iJ _,_,d=>by simp[gu]at d
theorem toDL_same:∀x y:List W,oN x=true->oN y=true->(sameAll (toDL x) (toDL y)=true↔x=y)
 |[],[],_,_=>by simp[toDL,sameAll]
 |[],_::_,_,_=>by simp[toDL,sameAll]
 |_::_,[],_,_=>by simp[toDL,sameAll]
 |x::xs,y::ys,d,e=>by
  rw[oN,B1]at d e
  rw[toDL,toDL,sameAll,B1,toD_same x y d.1 e.1,toDL_same xs ys d.2 e.2,List.cons.injEq]
end
theorem toDL_map:∀l:List W,toDL l=l.map toD
 |[]=>by rw[toDL];rfl
 |w::l=>by rw[toDL,toDL_map l];rfl
theorem rC:∀l:List W,oN l=l.all gu
 |[]=>by rw[oN];rfl
 |w::l=>by rw[oN,rC l];rfl
theorem Kp:∀(n:Nat) (w:W),(fY n w=true\/g5 n w=true)->gu w=true/\(toD w).depth<=n+1
 |n,.aX,_=>by simp[gu,toD,PyData.depth]
 |n,.bl _,_=>by simp[gu,toD,PyData.depth]
 |n,.int _,_=>by simp[gu,toD,PyData.depth]
 |n,.str x,h=>by
  have:PyData.strOk x=true:=by
   rcases h with h|h
   ·unfold fY at h;exact h
   ·unfold g5 at h;exact h
  simp[gu,toD,PyData.depth,this]
 |0,.lst l,h=>by rcases h with h|h<;>simp[fY,g5]at h
 |0,.tup l,h=>by rcases h with h|h<;>simp[fY,g5]at h
 |n+1,.lst l,h=>by
  have h1:∀w∈l,gu w=true/\(toD w).depth<=n+1:=fun w hw=>by
   refine Kp n w ?_
   rcases h with h|h
   ·rw[fY]at h;exact .inl (Hn.mp h w hw)
   ·rw[g5]at h;exact .inr (Hn.mp h w hw)
  refine⟨by rw[gu,rC];exact Hn.mpr fun w hw=>(h1 w hw).1,?_⟩
  rw[toD,toDL_map]
  exact Nat.succ_le_succ (yc fun x hx=>by
   obtain⟨w,hw,rfl⟩:=Kx.mp hx
   exact(h1 w hw).2)
 |n+1,.tup l,h=>by
  have h1:∀w∈l,gu w=true/\(toD w).depth<=n+1:=fun w hw=>by
   refine Kp n w ?_
   rcases h with h|h
   ·rw[fY]at h;exact .inl (Hn.mp h w hw)
   ·rw[g5]at h;exact .inr (Hn.mp h w hw)
  refine⟨by rw[gu,rC];exact Hn.mpr fun w hw=>(h1 w hw).1,?_⟩
  rw[toD,toDL_map]
  exact Nat.succ_le_succ (yc fun x hx=>by
   obtain⟨w,hw,rfl⟩:=Kx.mp hx
   exact(h1 w hw).2)
 |0,.ty _,h=>by rcases h with h|h<;>simp[fY,g5]at h
 |0,.cls _,h=>by rcases h with h|h<;>simp[fY,g5]at h
 |0,.err _,h=>by rcases h with h|h<;>simp[fY,g5]at h
 |0,.dct _ _,h=>by rcases h with h|h<;>simp[fY,g5]at h
 |0,.obj _ _ _,h=>by rcases h with h|h<;>simp[fY,g5]at h
 |0,.iJ _,h=>by rcases h with h|h<;>simp[fY,g5]at h
 |n+1,.ty _,h=>by rcases h with h|h<;>simp[fY,g5]at h
 |n+1,.cls _,h=>by rcases h with h|h<;>simp[fY,g5]at h
 |n+1,.err _,h=>by rcases h with h|h<;>simp[fY,g5]at h
 |n+1,.dct _ _,h=>by rcases h with h|h<;>simp[fY,g5]at h
 |n+1,.obj _ _ _,h=>by rcases h with h|h<;>simp[fY,g5]at h
 |n+1,.iJ _,h=>by rcases h with h|h<;>simp[fY,g5]at h
inductive Cm(b:Bool):PyData->Prop where
 |none:Cm b .none
 |str (x:Str):Cm b (.str x)
 |bool (x:Bool) (h:b=true):Cm b (.bool x)
 |int (x:Int) (h:b=false):Cm b (.int x)
 |list {l:List PyData} (h:∀x∈l,Cm b x):Cm b (.list l)
 |tuple {l:List PyData} (h:∀x∈l,Cm b x):Cm b (.tuple l)
mutual
theorem vt{b:Bool}:∀d e:PyData,Cm b d->Cm b e->SeqAt.noMix d e=true
 |.list xs,.list ys,h,k=>by
  cases h with
  |list h=>
   cases k with
   |list k=>rw[SeqAt.noMix];exact rD xs ys h k
 |.tuple xs,.tuple ys,h,k=>by
  cases h with
  |tuple h=>
   cases k with
   |tuple k=>rw[SeqAt.noMix];exact rD xs ys h k
 |.bool _,.int _,h,k=>by
  cases h with
  |bool _ h=>
   cases k with
   |int _ k=>rw[h]at k;cases k
 |.int _,.bool _,h,k=>by
  cases h with
  |int _ h=>
   cases k with
   |bool _ k=>rw[h]at k;exact ff k
 |.dict _,_,h,_=>by cases h
 |.none,.none,_,_=>by simp[SeqAt.noMix]
 |.none,.bool _,_,_=>by simp[SeqAt.noMix]
 |.none,.int _,_,_=>by simp[SeqAt.noMix]
 |.none,.str _,_,_=>by simp[SeqAt.noMix]
 |.none,.list _,_,_=>by simp[SeqAt.noMix]
 |.none,.tuple _,_,_=>by simp[SeqAt.noMix]
 |.none,.dict _,_,_=>by simp[SeqAt.noMix]
 |.bool _,.none,_,_=>by simp[SeqAt.noMix]
 |.bool _,.bool _,_,_=>by simp[SeqAt.noMix]
 |.bool _,.str _,_,_=>by simp[SeqAt.noMix]
 |.bool _,.list _,_,_=>by simp[SeqAt.noMix]
 |.bool _,.tuple _,_,_=>by simp[SeqAt.noMix]
 |.bool _,.dict _,_,_=>by simp[SeqAt.noMix]
 |.int _,.none,_,_=>by simp[SeqAt.noMix]
 |.int _,.int _,_,_=>by simp[SeqAt.noMix]
 |.int _,.str _,_,_=>by simp[SeqAt.noMix]
 |.int _,.list _,_,_=>by simp[SeqAt.noMix]
 |.int _,.tuple _,_,_=>by simp[SeqAt.noMix]
 |.int _,.dict _,_,_=>by simp[SeqAt.noMix]
 |.str _,.none,_,_=>by simp[SeqAt.noMix]
 |.str _,.bool _,_,_=>by simp[SeqAt.noMix]
 |.str _,.int _,_,_=>by simp[SeqAt.noMix]
 |.str _,.str _,_,_=>by simp[SeqAt.noMix]
 |.str _,.list _,_,_=>by simp[SeqAt.noMix]
 |.str _,.tuple _,_,_=>by simp[SeqAt.noMix]
 |.str _,.dict _,_,_=>by simp[SeqAt.noMix]
 |.list _,.none,_,_=>by simp[SeqAt.noMix]
 |.list _,.bool _,_,_=>by simp[SeqAt.noMix]
 |.list _,.int _,_,_=>by simp[SeqAt.noMix]
 |.list _,.str _,_,_=>by simp[SeqAt.noMix]
 |.list _,.tuple _,_,_=>by simp[SeqAt.noMix]
 |.list _,.dict _,_,_=>by simp[SeqAt.noMix]
 |.tuple _,.none,_,_=>by simp[SeqAt.noMix]
 |.tuple _,.bool _,_,_=>by simp[SeqAt.noMix]
 |.tuple _,.int _,_,_=>by simp[SeqAt.noMix]
 |.tuple _,.str _,_,_=>by simp[SeqAt.noMix]
 |.tuple _,.list _,_,_=>by simp[SeqAt.noMix]
 |.tuple _,.dict _,_,_=>by simp[SeqAt.noMix]
theorem rD{b:Bool}:∀xs ys:List PyData,(∀x∈xs,Cm b x)->(∀y∈ys,Cm b y)->SeqAt.noMixAll xs ys=true
 |[],[],_,_=>by simp[SeqAt.noMixAll]
 |[],_::_,_,_=>by simp[SeqAt.noMixAll]
 |_::_,[],_,_=>by simp[SeqAt.noMixAll]
 |x::xs,y::ys,h,k=>by
  rw[SeqAt.noMixAll,vt x y (h x FK) (k y FK),rD xs ys (fun z hz=>h z (Ee _ hz)) fun z hz=>k z (Ee _ hz)]
  rfl
end
theorem vv:∀(n:Nat) (w:W),fY n w=true->Cm false (toD w)
 |n,.aX,_=>by rw[toD];exact .none
 |n,.int i,_=>by rw[toD];exact .int i rfl
 |n,.str x,_=>by rw[toD];exact .str x
 |n,.bl _,h=>by cases n<;>simp[fY]at h
 |n+1,.lst l,h=>by
  rw[fY]at h
  rw[toD,toDL_map]
  exact .list fun x hx=>by
   obtain⟨w,hw,rfl⟩:=Kx.mp hx
   exact vv n w (Hn.mp h w hw)
 |n+1,.tup l,h=>by
  rw[fY]at h
  rw[toD,toDL_map]
  exact .tuple fun x hx=>by
   obtain⟨w,hw,rfl⟩:=Kx.mp hx
   exact vv n w (Hn.mp h w hw)
 |0,.lst l,h=>by simp[fY]at h
 |0,.tup l,h=>by simp[fY]at h
 |n,.ty _,h=>by cases n<;>simp[fY]at h
 |n,.cls _,h=>by cases n<;>simp[fY]at h
 |n,.err _,h=>by cases n<;>simp[fY]at h
 |n,.dct _ _,h=>by cases n<;>simp[fY]at h
 |n,.obj _ _ _,h=>by cases n<;>simp[fY]at h
 |n,.iJ _,h=>by cases n<;>simp[fY]at h
theorem vC:∀(n:Nat) (w:W),g5 n w=true->Cm true (toD w)
 |n,.aX,_=>by rw[toD];exact .none
 |n,.bl i,_=>by rw[toD];exact .bool i rfl
 |n,.str x,_=>by rw[toD];exact .str x
 |n,.int _,h=>by cases n<;>simp[g5]at h
 |n+1,.lst l,h=>by
  rw[g5]at h
  rw[toD,toDL_map]
  exact .list fun x hx=>by
   obtain⟨w,hw,rfl⟩:=Kx.mp hx
   exact vC n w (Hn.mp h w hw)
 |n+1,.tup l,h=>by
  rw[g5]at h
  rw[toD,toDL_map]
  exact .tuple fun x hx=>by
   obtain⟨w,hw,rfl⟩:=Kx.mp hx
   exact vC n w (Hn.mp h w hw)
 |0,.lst l,h=>by simp[g5]at h
 |0,.tup l,h=>by simp[g5]at h
 |n,.ty _,h=>by cases n<;>simp[g5]at h
 |n,.cls _,h=>by cases n<;>simp[g5]at h
 |n,.err _,h=>by cases n<;>simp[g5]at h
 |n,.dct _ _,h=>by cases n<;>simp[g5]at h
 |n,.obj _ _ _,h=>by cases n<;>simp[g5]at h
 |n,.iJ _,h=>by cases n<;>simp[g5]at h
section
variable{X:Cx}
theorem vD(hu:X.A.units+64<cLine)(ne:Bool){pins:List (Addr×Obj)}{s:Shared}{σ:St}{H:Hp}{B:Addr->Prop}{x y:W}{vx vy:V}{v u:Value}{P:KP}{Q:VK}(I:Inv X pins σ H s)(rx:RelV vx v)(ry:RelV vy u)(hx:bw X.K B H x vx)(hy:bw X.K B H y vy)
 (h:((fY 9 x=true/\fY 9 y=true)\/(g5 9 x=true/\g5 9 y=true))/\∀b:Bool,(b=true↔x=y)->P (.bl (if ne then !b else b))) (c:Cont X.K B H .s P Q):
 wpAny (model X.prog X.w) X.A (compareOp (if ne then .NotEq else .Eq) v u) (EP X pins σ Q) X.xe s:=by
 obtain⟨hp,h⟩:=h
 have d1:=Kp 9 x (hp.imp And.left And.left)
 have d2:=Kp 9 y (hp.imp And.right And.right)
 have sx:SeqAt.shaped (toD x)=true:=by
  unfold SeqAt.shaped
  rw[toD_lay x d1.1,IR (Dx d1.2 (by decide))]
  rfl
 have sy:SeqAt.shaped (toD y)=true:=by
  unfold SeqAt.shaped
  rw[toD_lay y d2.1,IR (Dx d2.2 (by decide))]
  rfl
 have mx:SeqAt.noMix (toD x) (toD y)=true:=by
  rcases hp with⟨h1,h2⟩|⟨h1,h2⟩
  ·exact vt _ _ (vv 9 x h1) (vv 9 y h2)
  ·exact vt _ _ (vC 9 x h1) (vC 9 y h2)
 have q:=h (same (toD x) (toD y)) (toD_same x y d1.1 d2.1)
 cases ne with
 |true=>exact OD hu pins s σ H _ _ v u Q I rx ry ⟨_,_,Ko d1.1 hx,Ko d2.1 hy,⟨sx,sy,mx⟩,c.now q (EG _)⟩
 |false=>exact OC hu pins s σ H _ _ v u Q I rx ry ⟨_,_,Ko d1.1 hx,Ko d2.1 hy,⟨sx,sy,mx⟩,c.now q (EG _)⟩
theorem MM(hu:X.A.units+64<cLine)(ne:Bool):Kg X (compareOp (if ne then .NotEq else .Eq)) (Xe ne) mS:=by
 intro pins s σ H B x y vx vy v u P Q I d rx ry hx hy h c
 have sc:∀a b:V,Oc a b=true->(∀k:Bool,k=decide (a=b)->Q (.bl (if ne then !k else k)) H)->RelV a v->RelV b u->wpAny (model X.prog X.w) X.A (compareOp (if ne then .NotEq else .Eq) v u) (EP X pins σ Q) X.xe s:=fun a b hs q ra rb=>by
  cases ne with
  |true=>exact Tn pins s σ H _ _ v u Q I ra rb ⟨hs,q _ rfl⟩
  |false=>exact Tj pins s σ H _ _ v u Q I ra rb ⟨hs,q _ rfl⟩
 cases x with
 |int i=>
  cases y with
  |int j=>
   cases hx.int
   cases hy.int
   refine sc _ _ rfl (fun k hk=>c.now (w:=.bl (if ne then !k else k)) ?_ (EG _)) rx ry
   rw[hk,show decide (V.int i=V.int j)=decide (i=j)from by simp]
   exact h
  |_=>exact vD hu ne I rx ry hx hy h c
 |str i=>
  cases y with
  |str j=>
   cases hx.str
   cases hy.str
   refine sc _ _ rfl (fun k hk=>c.now (w:=.bl (if ne then !k else k)) ?_ (EG _)) rx ry
   rw[hk,show decide (V.str i=V.str j)=decide (i=j)from by simp]
   exact h
  |_=>exact vD hu ne I rx ry hx hy h c
 |bl i=>
  cases y with
  |bl j=>
   cases hx.bl
   cases hy.bl
   refine sc _ _ rfl (fun k hk=>c.now (w:=.bl (if ne then !k else k)) ?_ (EG _)) rx ry
   rw[hk,show decide (V.bl i=V.bl j)=decide (i=j)from by simp]
   exact h
  |_=>exact vD hu ne I rx ry hx hy h c
 |_=>exact vD hu ne I rx ry hx hy h c
theorem MN(ne:Bool):Kg X (compareOp (if ne then .IsNot else .Is)) (Xf ne) mS:=by
 intro pins s σ H B x y vx vy v u P Q I d rx ry hx hy h c
 have fin:vy=.aX->(∀k:Bool,k=decide (vx=.aX)->P (.bl (if ne then !k else k)))->wpAny (model X.prog X.w) X.A (compareOp (if ne then .IsNot else .Is) v u) (EP X pins σ Q) X.xe s:=fun e q=>by
  cases ne with
  |true=>exact JS pins s σ H _ _ v u Q I rx ry ⟨e,c.now (q _ rfl) (EG _)⟩
  |false=>exact Od pins s σ H _ _ v u Q I rx ry ⟨e,c.now (q _ rfl) (EG _)⟩
 cases y with
 |aX=>
  have e:=hy.aX
  cases x with
  |aX=>
   have e2:=hx.aX
   refine fin e fun k hk=>?_
   rw[hk,e2]
   cases ne<;>exact h
  |bl b=>
   have e2:=hx.bl
   refine fin e fun k hk=>?_
   rw[hk,e2]
   cases ne<;>exact h
  |int b=>
   have e2:=hx.int
   refine fin e fun k hk=>?_
   rw[hk,e2]
   cases ne<;>exact h
  |str b=>
   have e2:=hx.str
   refine fin e fun k hk=>?_
   rw[hk,e2]
   cases ne<;>exact h
  |lst b=>
   obtain⟨p,vs,e2,_⟩:=hx.lst
   refine fin e fun k hk=>?_
   rw[hk,e2]
   cases ne<;>exact h
  |tup b=>
   obtain⟨p,vs,e2,_⟩:=hx.tup
   refine fin e fun k hk=>?_
   rw[hk,e2]
   cases ne<;>exact h
  |err b=>
   have hx:Rep X.K B H (.err b) vx:=hx
   rw[Rep]at hx
   obtain⟨p,e2,_⟩:=hx
   refine fin e fun k hk=>?_
   rw[hk,e2]
   cases ne<;>exact h
  |_=>exact h.elim
 |_=>
  exfalso
  cases x<;>exact h
theorem AR(hu:X.A.units+64<cLine)(op:CmpOp):Kg X (compareOp op) (gg op) mS:=by
 cases op with
 |Eq=>exact MM hu false
 |NotEq=>exact MM hu true
 |Lt=>exact vp To
 |LtE=>exact vp Tp
 |Gt=>exact vp Tq
 |GtE=>exact vp Tr
 |Is=>exact MN false
 |IsNot=>exact MN true
 |_=>exact fun pins s σ H B x y vx vy v u P Q I d rx ry hx hy h c=>h.elim
end
noncomputable def ER(X:Cx)(H0:Hp)(R:Addr->Prop):Prop:=∃E:XK,Passes (cL X.prog X.w) X E/\(∀C H',R C->az H0 H'->E (.ref C) none H')/\Gw X (fun C H'=>R C/\az H0 H')
theorem EI{X:Cx}:Passes (cL X.prog X.w) X E0:=fun _ _ _ _ _ _ _ h=>by
 obtain⟨_,_,_,_,_,q⟩:=h
 exact q.elim
theorem ER.none{X:Cx}{H0:Hp}:ER X H0 fun _=>False:=⟨E0,EI,fun _ _ z=>z.elim,fun _ _ _ _ _ _ _ _ _ _ z=>z.1.elim⟩
abbrev RL:=(Addr->Prop)->Hp->Hp->W->V->Prop
abbrev WT:=Ev->(W->Prop)->Prop
noncomputable def MO(K:PySem.W.Frag)(m:Md):RL:=fun B H H' w v=>fH K B H H' m w v
noncomputable def Y6(K:PySem.W.Frag):RL:=fun B _ H' w v=>bw K B H' w v
noncomputable def tV(X:Cx)(M:Ms)(R:Addr->Prop)(ρ:RL)(t:WT):TE:=fun σ H Q=>∃A H0 ε P,SR X.K M A H0 σ H ε/\ER X H0 R/\t ε P/\∀w v H',P w->az H H'->ρ (FB A M σ) H H' w v->Q v H'
noncomputable def Y7(X:Cx)(M:Ms)(R:Addr->Prop)(t:WT):TT:=fun σ H Q=>∃A H0 ε P,SR X.K M A H0 σ H ε/\ER X H0 R/\t ε P/\∀x H',P x->az H H'->∃b,x=.bl b/\Q b H'
abbrev Xh:=(Addr->Prop)->Hp->List W->List V->Prop
noncomputable def Y8(X:Cx)(M:Ms)(R:Addr->Prop)(ρ:Xh)(t:Ev->(List W->Prop)->Prop):TA:=fun σ H Q=>∃A H0 ε P,SR X.K M A H0 σ H ε/\ER X H0 R/\t ε P/\∀ws vs H',P ws->az H H'->ρ (FB A M σ) H' ws vs->Q vs H'
abbrev VE(X:Cx)(M:Ms)(R:Addr->Prop)(m:Md)(e:Expr)(t:WT):Prop:=PE X e (tV X M R (MO X.K m) t)
abbrev VB(X:Cx)(M:Ms)(R:Addr->Prop)(e:Expr)(t:WT):Prop:=PE X e (tV X M R (Y6 X.K) t)
abbrev VT(X:Cx)(M:Ms)(R:Addr->Prop)(e:Expr)(t:WT):Prop:=PT X e (Y7 X M R t)
noncomputable def rE(K:PySem.W.Frag)(B:Addr->Prop)(H:Hp):List W->List V->Prop
 |[],vs=>vs=[]
 |w::ws,vs=>∃v r,vs=v::r/\bw K B H w v/\rE K B H ws r
noncomputable def ρL(K:PySem.W.Frag):Xh:=fun B H ws vs=>aj K B H ws vs
noncomputable def Xi(K:PySem.W.Frag):Xh:=fun B H ws vs=>rE K B H ws vs
abbrev VA(X:Cx)(M:Ms)(R:Addr->Prop)(es:List Expr)(t:Ev->(List W->Prop)->Prop):Prop:=PA X es (Y8 X M R (ρL X.K) t)
abbrev R8(X:Cx)(M:Ms)(R:Addr->Prop)(es:List Expr)(t:Ev->(List W->Prop)->Prop):Prop:=PA X es (Y8 X M R (Xi X.K) t)
theorem PE.imp{X:Cx}{e:Expr}{t t':TE}(h:PE X e t)(k:∀σ H Q,t' σ H Q->t σ H Q):PE X e t':=fun pins s σ H Q I w=>h pins s σ H Q I (k σ H Q w)
theorem PT.imp{X:Cx}{e:Expr}{t t':TT}(h:PT X e t)(k:∀σ H Q,t' σ H Q->t σ H Q):PT X e t':=fun pins s σ H Q I w=>h pins s σ H Q I (k σ H Q w)
theorem PW.imp{X:Cx}{e:Expr}{t t':TT}(h:PW X e t)(k:∀σ H Q,t' σ H Q->t σ H Q):PW X e t':=fun wh pins s σ H Q I w=>h wh pins s σ H Q I (k σ H Q w)
theorem PA.imp{X:Cx}{e:List Expr}{t t':TA}(h:PA X e t)(k:∀σ H Q,t' σ H Q->t σ H Q):PA X e t':=fun pos pins s σ H Q I w=>h pos pins s σ H Q I (k σ H Q w)
section
variable{X:Cx}{M:Ms}{R:Addr->Prop}{e a b c:Expr}{t ta tb tc:WT}{m:Md}{pos:Pos}
theorem GJ(h:VE X M R m e t):VE X M R .s e t:=PE.imp h<|by rintro σ H Q ⟨A,H0,ε,P,S,er,p,k⟩;exact⟨A,H0,ε,P,S,er,p,fun w v H' pw s r=>k w v H' pw s (r.s S.dom)⟩
theorem Ur(h:VE X M R m e t):VB X M R e t:=PE.imp h<|by rintro σ H Q ⟨A,H0,ε,P,S,er,p,k⟩;exact⟨A,H0,ε,P,S,er,p,fun w v H' pw s r=>k w v H' pw s (r.rep S.dom).b⟩
theorem GK{i:Nat}(h:PE X e (kQ i))(hm:aS M i->(i,.f)∈M):VB X M R e (fun ε Q=>match look ε i with|some w=>Q w|none=>False):=PE.imp h<|by
 rintro σ H Q ⟨A,H0,ε,P,S,er,p,k⟩
 revert p
 cases hl:look ε i with
 |none=>exact fun p=>p.elim
 |some w=>
  intro p
  by_cases hi:aS M i
  ·obtain⟨F,O⟩:=S.ow
   obtain⟨v,h1,h2⟩:=O.val i .f w (hm hi) hl
   rw[Fp]at h2
   obtain⟨ws,q,vs,rfl,rfl,_,h3,h4⟩:=h2
   exact⟨_,h1,k _ _ H p (az.refl H) ⟨q,vs,rfl,.inl h3,h4⟩⟩
  ·obtain⟨v,h1,h2⟩:=S.sh i w hi hl
   exact⟨v,h1,k _ _ H p (az.refl H) h2.b⟩
theorem OO{i:Nat}(h:PE X e (kQ i))(hi:¬aS M i):VE X M R .s e (fun ε Q=>match look ε i with|some w=>Q w|none=>False):=PE.imp h<|by
 rintro σ H Q ⟨A,H0,ε,P,S,er,p,k⟩
 revert p
 cases hl:look ε i with
 |none=>exact fun p=>p.elim
 |some w=>
  intro p
  obtain⟨v,h1,h2⟩:=S.sh i w hi hl
  exact⟨v,h1,k _ _ H p (az.refl H) (.of h2)⟩
noncomputable def vE(K:PySem.W.Frag)(i:Nat)(π:List pH):TE:=fun σ H Q=>∃v u,σ[i]?=some (some v)/\xN K H v π u/\Q u H
theorem GL{i:Nat}{π:List pH}{m m':Md}{K:PySem.W.Frag}{A:Fz}{H0 H:Hp}{σ:St}{ε:Ev}{w u:W}(S:SR K M A H0 σ H ε)(hm:(i,m)∈M)(hp:mh m π=some m')(hl:look ε i=some w)(hu:cW w π=some u):
 ∃v v' F,σ[i]?=some (some v)/\xN K H v π v'/\Fp K A.B H m' u v' F:=by
 obtain⟨F,O⟩:=S.ow
 obtain⟨v,h1,h2⟩:=O.val i m w hm hl
 obtain⟨v',F1,F',F2,_,r,fp,_⟩:=Fp.path π m h2 hp hu
 exact⟨v,v',F',h1,r,fp⟩
theorem yf{ε:Ev}{i:Nat}{π:List pH}{Q:W->Prop}(h:match look ε i with|some w=>(match cW w π with|some u=>Q u|none=>False)|none=>False):∃w u,look ε i=some w/\cW w π=some u/\Q u:=by
 cases hl:look ε i with
 |none=>rw[hl]at h;exact h.elim
 |some w=>
  rw[hl]at h
  dsimp only at h
  cases hu:cW w π with
  |none=>rw[hu]at h;exact h.elim
  |some u=>rw[hu]at h;exact⟨w,u,rfl,hu,h⟩
theorem OP{i:Nat}{π:List pH}{m0:Md}(h:PE X e (vE X.K i π))(hm:(i,m0)∈M)(hp:mh m0 π=some .f):VB X M R e (fun ε Q=>match look ε i with|some w=>(match cW w π with|some u=>Q u|none=>False)|none=>False):=PE.imp h<|by
 rintro σ H Q ⟨A,H0,ε,P,S,er,p,k⟩
 obtain⟨w,u,e1,e2,q⟩:=yf p
 obtain⟨v,v',F,h1,h2,h3⟩:=GL S hm hp e1 e2
 rw[Fp]at h3
 obtain⟨ws,q',vs,rfl,rfl,_,h3,h4⟩:=h3
 exact⟨v,_,h1,h2,k _ _ H q (az.refl H) ⟨q',vs,rfl,.inl h3,h4⟩⟩
theorem OQ{i:Nat}{π:List pH}{m0:Md}(h:PE X e (vE X.K i π))(hm:(i,m0)∈M)(hp:mh m0 π=some .s):VE X M R .s e (fun ε Q=>match look ε i with|some w=>(match cW w π with|some u=>Q u|none=>False)|none=>False):=PE.imp h<|by
 rintro σ H Q ⟨A,H0,ε,P,S,er,p,k⟩
 obtain⟨w,u,e1,e2,q⟩:=yf p
 obtain⟨v,v',F,h1,h2,h3⟩:=GL S hm hp e1 e2
 rw[Fp]at h3
 exact⟨v,v',h1,h2,k _ _ H q (az.refl H) (.of h3.2)⟩
theorem GN{v:V}{w:W}(h:PE X e (tC v))(hr:∀B H,Rep X.K B H w v):VE X M R .s e (fun _ Q=>Q w):=PE.imp h<|by rintro σ H Q ⟨A,H0,ε,P,S,er,p,k⟩;exact k _ _ H p (az.refl H) (.of (hr _ _))
theorem GO{op:Operator}(ha:VB X M R a ta)(hb:VB X M R b tb)(hm:∀x y,Kn op x y=m\/m=.s):VE X M R m (.BinOp a op b pos) (fun ε Q=>ta ε fun x=>tb ε fun y=>gE op x y Q):=by
 rintro pins s σ H Q I ⟨A,H0,ε,P,S,er,p,k⟩
 refine wpAny_BinOp (bin ha hb I (R:=fun vx vy H2=>∃x y,gE op x y P/\az H H2/\bw X.K (FB A M σ) H2 x vx/\bw X.K (FB A M σ) H2 y vy) ⟨A,H0,ε,_,S,er,p,fun x vx H1 hx s1 rx=>⟨A,H0,ε,_,S.same s1,er,hx,fun y vy H2 hy s2 ry=>⟨x,y,hy,s1.trans s2,bw.same s2 rx,ry⟩⟩⟩ ?_)
 rintro v u s2 vx vy H2 I2 rv ru ⟨x,y,h,sm,hx,hy⟩
 have d:=(S.same sm).dom
 refine AQ op pins s2 σ H2 (FB A M σ) x y vx vy v u P Q I2 d rv ru hx hy h ?_
 have c:Cont X.K (FB A M σ) H2 m P Q:=fun w z H' pw s' r=>k w z H' pw (sm.trans s') (r.back sm fun _ z=>z)
 rcases hm x y with e|e
 ·rw[e];exact c
 ·subst e;exact Cont.s d c
end
theorem cC{x:W}{Q:Bool->Prop}(h:truth x Q):∃b,x=.bl b/\Q b:=by
 cases x with
 |bl b=>exact⟨b,rfl,h⟩
 |_=>exact h.elim
theorem Rep.rF{K:PySem.W.Frag}{B:Addr->Prop}{H:Hp}{b:Bool}{v:V}(h:Rep K B H (.bl b) v):v=.bl b:=by rw[Rep]at h;exact h
theorem Rep.int_inv{K:PySem.W.Frag}{B:Addr->Prop}{H:Hp}{b:Int}{v:V}(h:Rep K B H (.int b) v):v=.int b:=by rw[Rep]at h;exact h
theorem fH.bO{K:PySem.W.Frag}{B:Addr->Prop}{H H':Hp}{w:W}{v:V}(h:fH K B H H' .s w v):Rep K B H' w v:=by
 obtain⟨F,_,_,h⟩:=h
 rw[Fp]at h
 obtain⟨rfl,h⟩:=h
 exact h.less fun p z=>.inl z
section
variable{X:Cx}{M:Ms}{R:Addr->Prop}{e a b c:Expr}{t ta tb tc:WT}{m:Md}{pos:Pos}{rest es:List Expr}
noncomputable def OR:W->Bool
 |.lst _=>true
 |_=>false
theorem OS{op:Operator}{x y:W}{P:W->Prop}(h:gE op x y P)(ho:(op=.Add/\(OR x=true\/OR y=true))\/(op=.Mult/\OR x=true)):Kn op x y=.f:=by
 rcases ho with⟨rfl,ho⟩|⟨rfl,ho⟩
 ·cases x with
  |lst l=>rfl
  |_=>
   rcases ho with ho|ho
   ·cases ho
   ·cases y<;>first|exact h.elim|exact ff ho
 ·cases x<;>first|rfl|exact ff ho
theorem AS{op:Operator}{Xj Xk:RL}(ha:PE X a (tV X M R Xj ta))(hb:PE X b (tV X M R Xk tb))(h1:∀B H H' w v,Dom B H->Xj B H H' w v->bw X.K B H' w v)(h2:∀B H H' w v,Dom B H->Xk B H H' w v->bw X.K B H' w v)
 (ho:∀B H H' w v B2 H2 H2' w2 v2,Xj B H H' w v->Xk B2 H2 H2' w2 v2->(op=.Add/\(OR w=true\/OR w2=true))\/(op=.Mult/\OR w=true)):VE X M R .f (.BinOp a op b pos) (fun ε Q=>ta ε fun x=>tb ε fun y=>gE op x y Q):=by
 rintro pins s σ H Q I ⟨A,H0,ε,P,S,er,p,k⟩
 refine wpAny_BinOp (bin ha hb I (R:=fun vx vy H2=>∃x y,gE op x y P/\az H H2/\bw X.K (FB A M σ) H2 x vx/\bw X.K (FB A M σ) H2 y vy/\Kn op x y=.f) ⟨A,H0,ε,_,S,er,p,fun x vx H1 hx s1 rx=>⟨A,H0,ε,_,S.same s1,er,hx,fun y vy H2 hy s2 ry=>⟨x,y,hy,s1.trans s2,bw.same s2 (h1 _ _ _ _ _ S.dom rx),h2 _ _ _ _ _ (S.same s1).dom ry,OS hy (ho _ _ _ _ _ _ _ _ _ _ rx ry)⟩⟩⟩ ?_)
 rintro v u s2 vx vy H2 I2 rv ru ⟨x,y,h,sm,hx,hy,em⟩
 have d:=(S.same sm).dom
 refine AQ op pins s2 σ H2 (FB A M σ) x y vx vy v u P Q I2 d rv ru hx hy h ?_
 rw[em]
 exact fun w z H' pw s' r=>k w z H' pw (sm.trans s') (r.back sm fun _ z=>z)
theorem OT(ha:VE X M R .s a ta):VE X M R .s (.UnaryOp .USub a pos) (fun ε Q=>ta ε fun x=>match x with|.int i=>Q (.int (-i))|_=>False):=PE.imp (Th Ob ha)<|by
 rintro σ H Q ⟨A,H0,ε,P,S,er,p,k⟩
 refine⟨A,H0,ε,_,S,er,p,fun x vx H1 hx s1 rx=>?_⟩
 cases x with
 |int i=>exact⟨i,rx.bO.int_inv,k _ _ H1 hx s1 (.of (jh _))⟩
 |_=>exact hx.elim
theorem OU(ha:VE X M R .s a ta):VE X M R .s (.UnaryOp .Not a pos) (fun ε Q=>ta ε fun x=>truth x fun b=>Q (.bl (!b))):=PE.imp (NS ha)<|by
 rintro σ H Q ⟨A,H0,ε,P,S,er,p,k⟩
 refine⟨A,H0,ε,_,S,er,p,fun x vx H1 hx s1 rx=>?_⟩
 obtain⟨b,rfl,hx⟩:=cC hx
 exact⟨b,rx.bO.rF,k _ _ H1 hx s1 (.of (EG _))⟩
theorem OV{op:CmpOp}(hu:X.A.units+64<cLine)(hm:behindInMarks op b=false)(ha:VB X M R a ta)(hb:VB X M R b tb):VE X M R .s (.Compare a [op] [b] pos) (fun ε Q=>ta ε fun x=>tb ε fun y=>gg op x y Q):=by
 rintro pins s σ H Q I ⟨A,H0,ε,P,S,er,p,k⟩
 refine wpAny_Compare1 (bin ha hb I (R:=fun vx vy H2=>∃x y,gg op x y P/\az H H2/\bw X.K (FB A M σ) H2 x vx/\bw X.K (FB A M σ) H2 y vy) ⟨A,H0,ε,_,S,er,p,fun x vx H1 hx s1 rx=>⟨A,H0,ε,_,S.same s1,er,hx,fun y vy H2 hy s2 ry=>⟨x,y,hy,s1.trans s2,bw.same s2 rx,ry⟩⟩⟩ ?_) hm
 rintro v u s2 vx vy H2 I2 rv ru ⟨x,y,h,sm,hx,hy⟩
 exact AR hu op pins s2 σ H2 (FB A M σ) x y vx vy v u P Q I2 (S.same sm).dom rv ru hx hy h fun w z H' pw s' r=>k w z H' pw (sm.trans s') (r.back sm fun _ z=>z)
theorem OW{op:CmpOp}(hu:X.A.units+64<cLine)(hm:behindInMarks op b=false)(ha:VB X M R a ta)(hb:VB X M R b tb):VT X M R (.Compare a [op] [b] pos) (fun ε Q=>ta ε fun x=>tb ε fun y=>gg op x y Q):=by
 rintro pins s σ H Q I ⟨A,H0,ε,P,S,er,p,k⟩
 have q:=bin ha hb I (R:=fun vx vy H2=>∃x y,gg op x y P/\az H H2/\bw X.K (FB A M σ) H2 x vx/\bw X.K (FB A M σ) H2 y vy) ⟨A,H0,ε,_,S,er,p,fun x vx H1 hx s1 rx=>⟨A,H0,ε,_,S.same s1,er,hx,fun y vy H2 hy s2 ry=>⟨x,y,hy,s1.trans s2,bw.same s2 rx,ry⟩⟩⟩
  (f:=compareOp op) (Q:=EP X pins σ fun z H'=>∃b,z=.bl b/\Q b H')<|by
    rintro v u s2 vx vy H2 I2 rv ru ⟨x,y,h,sm,hx,hy⟩
    refine AR hu op pins s2 σ H2 (FB A M σ) x y vx vy v u _ _ I2 (S.same sm).dom rv ru hx hy h fun w z H' pw s' r=>?_
    obtain⟨b,rfl,q⟩:=k w H' pw (sm.trans s')
    exact⟨b,r.bO.rF,q⟩
 refine wpAny_isTrue_Compare1 (bT q fun v s1 q1=>bT q1 fun u s2 q2=>bT q2 fun c s3 ⟨z,H3,I3,r3,b,ez,q3⟩=>?_) hm
 subst ez
 cases r3
 exact wpAny_truthy_bool ⟨H3,I3,q3⟩
theorem OX(ha:VE X M R .s a ta)(hb:VE X M R .s (.BoolOp .And (b::rest) pos) tb):VE X M R .s (.BoolOp .And (a::b::rest) pos) (fun ε Q=>ta ε fun x=>truth x fun k=>if k=true then tb ε Q else Q (.bl false)):=
 PE.imp (NR ha hb)<|by
  rintro σ H Q ⟨A,H0,ε,P,S,er,h,k⟩
  refine⟨A,H0,ε,_,S,er,h,fun x vx H1 hx s1 rx=>?_⟩
  obtain⟨q,rfl,hx⟩:=cC hx
  refine⟨q,rx.bO.rF,?_⟩
  cases q with
  |true=>exact⟨A,H0,ε,_,S.same s1,er,hx,fun y vy H2 hy s2 ry=>k _ _ H2 hy (s1.trans s2) (ry.back s1 fun _ z=>z)⟩
  |false=>exact k _ _ H1 hx s1 (.of (EG _))
theorem Us(ha:VE X M R .s a ta)(hb:VE X M R .s (.BoolOp .Or (b::rest) pos) tb):VE X M R .s (.BoolOp .Or (a::b::rest) pos) (fun ε Q=>ta ε fun x=>truth x fun k=>if k=true then Q (.bl true)else tb ε Q):=
 PE.imp (SY ha hb)<|by
  rintro σ H Q ⟨A,H0,ε,P,S,er,h,k⟩
  refine⟨A,H0,ε,_,S,er,h,fun x vx H1 hx s1 rx=>?_⟩
  obtain⟨q,rfl,hx⟩:=cC hx
  refine⟨q,rx.bO.rF,?_⟩
  cases q with
  |false=>exact⟨A,H0,ε,_,S.same s1,er,hx,fun y vy H2 hy s2 ry=>k _ _ H2 hy (s1.trans s2) (ry.back s1 fun _ z=>z)⟩
  |true=>exact k _ _ H1 hx s1 (.of (EG _))
abbrev MP(X:Cx)(M:Ms)(R:Addr->Prop)(e:Expr)(t:WT):Prop:=PW X e (Y7 X M R t)
theorem Kq(ha:VT X M R a ta):MP X M R (.BoolOp .And [a] pos) ta:=JK ha
theorem OY(ha:VT X M R a ta):MP X M R (.BoolOp .Or [a] pos) ta:=NO ha
theorem OZ(ha:VT X M R a ta)(hb:MP X M R (.BoolOp .And (b::rest) pos) tb):MP X M R (.BoolOp .And (a::b::rest) pos) (fun ε Q=>ta ε fun x=>truth x fun k=>if k=true then tb ε Q else Q (.bl false)):=
 PW.imp (NP ha hb)<|by
  rintro σ H Q ⟨A,H0,ε,P,S,er,h,k⟩
  refine⟨A,H0,ε,_,S,er,h,fun x H1 hx s1=>?_⟩
  obtain⟨q,rfl,hx⟩:=cC hx
  refine⟨q,rfl,?_⟩
  cases q with
  |true=>exact⟨A,H0,ε,P,S.same s1,er,hx,fun y H2 hy s2=>k _ H2 hy (s1.trans s2)⟩
  |false=>
   obtain⟨b,e,q⟩:=k _ H1 hx s1
   cases e
   exact q
theorem Ut(ha:VT X M R a ta)(hb:MP X M R (.BoolOp .Or (b::rest) pos) tb):MP X M R (.BoolOp .Or (a::b::rest) pos) (fun ε Q=>ta ε fun x=>truth x fun k=>if k=true then Q (.bl true)else tb ε Q):=
 PW.imp (SV ha hb)<|by
  rintro σ H Q ⟨A,H0,ε,P,S,er,h,k⟩
  refine⟨A,H0,ε,_,S,er,h,fun x H1 hx s1=>?_⟩
  obtain⟨q,rfl,hx⟩:=cC hx
  refine⟨q,rfl,?_⟩
  cases q with
  |false=>exact⟨A,H0,ε,P,S.same s1,er,hx,fun y H2 hy s2=>k _ H2 hy (s1.trans s2)⟩
  |true=>
   obtain⟨b,e,q⟩:=k _ H1 hx s1
   cases e
   exact q
theorem O2(ha:VT X M R a ta):VT X M R (.UnaryOp .Not a pos) (fun ε Q=>ta ε fun x=>truth x fun b=>Q (.bl (!b))):=PT.imp (NQ ha)<|by
 rintro σ H Q ⟨A,H0,ε,P,S,er,h,k⟩
 refine⟨A,H0,ε,_,S,er,h,fun x H1 hx s1=>?_⟩
 obtain⟨q,rfl,hx⟩:=cC hx
 obtain⟨b,e,z⟩:=k _ H1 hx s1
 cases e
 exact⟨q,rfl,z⟩
theorem AU(he:∀whole,isTrue e X.env whole=(do let v←whole;standAt e.pos;holding [v] (truthy v)))(h:VE X M R .s e t):VT X M R e t:=PT.imp (NN h he)<|by
 rintro σ H Q ⟨A,H0,ε,P,S,er,h,k⟩
 refine⟨A,H0,ε,P,S,er,h,fun x vx H1 hx s1 rx=>?_⟩
 obtain⟨b,rfl,z⟩:=k _ H1 hx s1
 exact⟨b,rx.bO.rF,z⟩
theorem GQ(hc:VT X M R c tc)(ha:VE X M R m a ta)(hb:VE X M R m b tb):VE X M R m (.IfExp c a b pos) (fun ε Q=>tc ε fun x=>truth x fun k=>if k=true then ta ε Q else tb ε Q):=PE.imp (FW hc ha hb)<|by
 rintro σ H Q ⟨A,H0,ε,P,S,er,h,k⟩
 refine⟨A,H0,ε,_,S,er,h,fun x H1 hx s1=>?_⟩
 obtain⟨q,rfl,hx⟩:=cC hx
 refine⟨q,rfl,?_⟩
 cases q with
 |true=>exact⟨A,H0,ε,_,S.same s1,er,hx,fun y vy H2 hy s2 ry=>k _ _ H2 hy (s1.trans s2) (ry.back s1 fun _ z=>z)⟩
 |false=>exact⟨A,H0,ε,_,S.same s1,er,hx,fun y vy H2 hy s2 ry=>k _ _ H2 hy (s1.trans s2) (ry.back s1 fun _ z=>z)⟩
theorem O3:VA X M R [] (fun _ Q=>Q []):=PA.imp gc<|by rintro σ H Q ⟨A,H0,ε,P,S,er,h,k⟩;exact k [] [] H h (az.refl H) .nil
theorem Kr{tr:Ev->(List W->Prop)->Prop}(hs:starEach (a::es) X.env=(false,eval a X.env)::starEach es X.env)(ha:VE X M R .s a ta)(hr:VA X M R es tr):VA X M R (a::es) (fun ε Q=>ta ε fun x=>tr ε fun xs=>Q (x::xs)):=
 PA.imp (bV ha hr hs)<|by
  rintro σ H Q ⟨A,H0,ε,P,S,er,h,k⟩
  refine⟨A,H0,ε,_,S,er,h,fun x vx H1 hx s1 rx=>⟨A,H0,ε,_,S.same s1,er,hx,fun xs vs H2 hxs s2 rs=>?_⟩⟩
  exact k _ _ H2 hxs (s1.trans s2) (.cons (rx.bO.same s2) rs)
theorem Ks:R8 X M R [] (fun _ Q=>Q []):=PA.imp gc<|by rintro σ H Q ⟨A,H0,ε,P,S,er,h,k⟩;exact k [] [] H h (az.refl H) rfl
theorem GR{tr:Ev->(List W->Prop)->Prop}(hs:starEach (a::es) X.env=(false,eval a X.env)::starEach es X.env)(ha:VB X M R a ta)(hr:R8 X M R es tr):R8 X M R (a::es) (fun ε Q=>ta ε fun x=>tr ε fun xs=>Q (x::xs)):=
 PA.imp (bV ha hr hs)<|by
  rintro σ H Q ⟨A,H0,ε,P,S,er,h,k⟩
  refine⟨A,H0,ε,_,S,er,h,fun x vx H1 hx s1 rx=>⟨A,H0,ε,_,S.same s1,er,hx,fun xs vs H2 hxs s2 rs=>?_⟩⟩
  exact k _ _ H2 hxs (s1.trans s2) ⟨vx,vs,rfl,bw.same s2 rx,rs⟩
theorem O4{ts:Ev->(List W->Prop)->Prop}(h:VA X M R es ts):VE X M R .f (.List es pos) (fun ε Q=>ts ε fun ws=>ws.length<=sizeLine/\Q (.lst ws)):=PE.imp (Gb h)<|by
 rintro σ H Q ⟨A,H0,ε,P,S,er,h,k⟩
 refine⟨A,H0,ε,_,S,er,h,fun ws vs H1 hx s1 rs=>?_⟩
 refine⟨by rw[aj.len rs];exact hx.1,fun p hp=>?_⟩
 exact k _ _ _ hx.2 (s1.trans (aY hp _)) (.fresh s1 hp rs)
theorem O5{ts:Ev->(List W->Prop)->Prop}{x1:Nat}(h:VA X M R es ts):VE X M R .s (.Tuple es x1 pos) (fun ε Q=>ts ε fun ws=>ws.length<=sizeLine/\Q (.tup ws)):=PE.imp (AB h)<|by
 rintro σ H Q ⟨A,H0,ε,P,S,er,h,k⟩
 refine⟨A,H0,ε,_,S,er,h,fun ws vs H1 hx s1 rs=>?_⟩
 refine⟨by rw[aj.len rs];exact hx.1,fun p hp=>?_⟩
 exact k _ _ _ hx.2 (s1.trans (aY hp _)) (.of (EH aE (aj.same (aY hp _) rs)))
theorem Cn{K:PySem.W.Frag}{B:Addr->Prop}{H:Hp}{l:List W}{vs:List V}{i:Int}{w:W}(h:aj K B H l vs)(e:oG l i=some w):∃v,oG vs i=some v/\Rep K B H w v:=by
 unfold oG at e⊢
 rw[h.len]
 cases hj:Ag l.length i with
 |none=>rw[hj]at e;exact nn e
 |some j=>
  rw[hj]at e
  exact h.get e
theorem bw.iJ{K:PySem.W.Frag}{B:Addr->Prop}{H:Hp}{ns:List Int}{v:V}(h:bw K B H (.iJ ns) v):∃p,v=.ref p/\kR K H p (ns.map V.int):=by
 have h:Rep K B H (.iJ ns) v:=h
 rw[Rep]at h
 obtain⟨p,e,h⟩:=h
 refine⟨p,e,?_⟩
 rcases h with⟨o,h⟩|h
 ·exact .inl (.inr ⟨o,h⟩)
 ·rcases h with(h|⟨o,h⟩)|h
  ·cases h
  ·cases h
  ·exact .inr h
theorem Co{ns:List Int}{i n:Int}(e:oG ns i=some n):oG (ns.map V.int) i=some (.int n):=by
 unfold oG at e⊢
 rw[Ap]
 cases hj:Ag ns.length i with
 |none=>rw[hj]at e;exact nn e
 |some j=>
  rw[hj]at e
  show(ns.map V.int)[j]?=_
  have e:ns[j]?=some n:=e
  rw[FR,e]
  rfl
theorem Uu(hs:mY b)(ha:VB X M R a ta)(hb:VE X M R .s b tb):VE X M R .s (.Subscript a b pos) (fun ε Q=>ta ε fun x=>tb ε fun y=>OH x y Q):=PE.imp (Gg AG ha hb hs)<|by
 rintro σ H Q ⟨A,H0,ε,P,S,er,h,k⟩
 refine⟨A,H0,ε,_,S,er,h,fun x vx H1 hx s1 rx=>⟨A,H0,ε,_,S.same s1,er,hx,fun y vy H2 hy s2 ry=>?_⟩⟩
 have rx:=bw.same s2 rx
 cases x with
 |lst l=>
  cases y with
  |int i=>
   obtain⟨p,vs,rfl,h1,h2⟩:=rx.lst
   obtain⟨w,e,hy⟩:=hy
   obtain⟨v,e2,h3⟩:=Cn h2 e
   exact .inl ⟨p,vs,i,v,rfl,ry.bO.int_inv,.inl h1,e2,k _ _ H2 hy (s1.trans s2) (.of h3)⟩
  |_=>exact hy.elim
 |tup l=>
  cases y with
  |int i=>
   obtain⟨p,vs,rfl,h1,h2⟩:=rx.tup
   obtain⟨w,e,hy⟩:=hy
   obtain⟨v,e2,h3⟩:=Cn h2 e
   exact .inr (.inl ⟨p,vs,i,v,rfl,ry.bO.int_inv,h1,e2,k _ _ H2 hy (s1.trans s2) (.of h3)⟩)
  |_=>exact hy.elim
 |iJ ns=>
  cases y with
  |int i=>
   obtain⟨p,rfl,h1⟩:=rx.iJ
   obtain⟨n,e,hy⟩:=hy
   exact .inl ⟨p,_,i,_,rfl,ry.bO.int_inv,h1,Co e,k _ _ H2 hy (s1.trans s2) (.of (jh _))⟩
  |_=>exact hy.elim
 |_=>exact hy.elim
theorem MQ{K:PySem.W.Frag}{B:Addr->Prop}{H:Hp}{l:List W}{vs:List V}(h:aj K B H l vs)(lo hi:Option Int):aj K B H (oM l lo hi) (Es vs lo hi):=by
 unfold oM Es
 rw[h.len]
 exact(h.drop _).take _
noncomputable def Uv(X:Cx)(M:Ms)(R:Addr->Prop)(t:Ev->(Option Int->Prop)->Prop):TO:=fun σ H Q=>∃A H0 ε P,SR X.K M A H0 σ H ε/\ER X H0 R/\t ε P/\∀o H',P o->az H H'->Q o H'
theorem PO.imp{e:Option Expr}{t t':TO}(h:PO X e t)(k:∀σ H Q,t' σ H Q->t σ H Q):PO X e t':=fun pins s σ H Q I w=>h pins s σ H Q I (k σ H Q w)
theorem Ku:PO X none (Uv X M R fun _ Q=>Q none):=PO.imp JZ<|by rintro σ H Q ⟨A,H0,ε,P,S,er,h,k⟩;exact k none H h (az.refl H)
theorem Kv(ha:VE X M R .s a ta):PO X (some a) (Uv X M R fun ε Q=>ta ε fun y=>match y with|.int i=>Q (some i)|_=>False):=PO.imp (J0 ha)<|by
 rintro σ H Q ⟨A,H0,ε,P,S,er,h,k⟩
 refine⟨A,H0,ε,_,S,er,h,fun x vx H1 hx s1 rx=>?_⟩
 cases x with
 |int i=>exact⟨i,rx.bO.int_inv,k _ H1 hx s1⟩
 |_=>exact hx.elim
theorem Uw{lo hi:Option Expr}{p2:Pos}{tl th:Ev->(Option Int->Prop)->Prop}(ha:VB X M R a ta)(hl:PO X lo (Uv X M R tl))(hh:PO X hi (Uv X M R th)):VE X M R .f (.Subscript a (.Slice lo hi none p2) pos) (fun ε Q=>ta ε fun x=>tl ε fun l=>th ε fun h=>VW x l h Q):=
 PE.imp (Gf J5 ha hl hh)<|by
  rintro σ H Q ⟨A,H0,ε,P,S,er,h,k⟩
  refine⟨A,H0,ε,_,S,er,h,fun x vx H1 hx s1 rx=>⟨A,H0,ε,_,S.same s1,er,hx,fun l H2 hl s2=>⟨A,H0,ε,_,S.same (s1.trans s2),er,hl,fun h H3 hh s3=>?_⟩⟩⟩
  have rx:=bw.same (s2.trans s3) rx
  cases x with
  |lst ws=>
   obtain⟨p,vs,rfl,h1,h2⟩:=rx.lst
   refine⟨p,vs,rfl,.inl h1,fun q hq=>?_⟩
   exact k _ _ _ hh (((s1.trans s2).trans s3).trans (aY hq _)) (.fresh ((s1.trans s2).trans s3) hq (MQ h2 l h))
  |iJ ns=>
   obtain⟨p,rfl,h1⟩:=rx.iJ
   refine⟨p,_,rfl,h1,fun q hq=>?_⟩
   exact k _ _ _ hh (((s1.trans s2).trans s3).trans (aY hq _)) (.fresh ((s1.trans s2).trans s3) hq (MQ (aj.Kf ns) l h))
  |_=>exact hh.elim
noncomputable def Ux:BI->Md
 |.list=>.f
 |_=>.s
noncomputable def kY(X:Cx)(f:Value)(b:BI):Prop:=
 ∀(pins:List (Addr×Obj)) (s:Shared) (σ:St) (H:Hp) (B:Addr->Prop) (ws:List W) (vs:List V) (us:List Value) (P:KP) (Q:VK),Inv X pins σ H s->Dom B H->Vals vs us->rE X.K B H ws vs->vo b ws P->Cont X.K B H (Ux b) P Q->
  wpAny (model X.prog X.w) X.A (call f us) (EP X pins σ Q) X.xe s
noncomputable def R9(K:PySem.W.Frag)(b:BI):List V->Hp->VK->Prop:=fun vs H Q=>∃(B:Addr->Prop) (ws:List W) (P:KP),Dom B H/\rE K B H ws vs/\vo b ws P/\Cont K B H (Ux b) P Q
theorem kY.r{f:Value}{b:BI}(h:kY X f b):gj X f (R9 X.K b):=by rintro pins s σ H vs us Q I r ⟨B,ws,P,d,h1,h2,k⟩;exact h pins s σ H B ws vs us P Q I d r h1 h2 k
theorem jN{K:PySem.W.Frag}{B:Addr->Prop}{H:Hp}{w:W}{vs:List V}(h:rE K B H [w] vs):∃v,vs=[v]/\bw K B H w v:=by
 obtain⟨v,r,rfl,h1,h2⟩:=h
 cases(show r=[]from h2)
 exact⟨v,rfl,h1⟩
theorem MR{K:PySem.W.Frag}{B:Addr->Prop}{H:Hp}{w w':W}{vs:List V}(h:rE K B H [w,w'] vs):∃v v',vs=[v,v']/\bw K B H w v/\bw K B H w' v':=by
 obtain⟨v,r,rfl,h1,h2⟩:=h
 obtain⟨v',rfl,h3⟩:=jN h2
 exact⟨v,v',rfl,h1,h3⟩
theorem cw_len:kY X (.builtin "len") .len:=by
 intro pins s σ H B ws vs us P Q I d r hb h c
 match ws,h with
 |[.lst l],h=>
  obtain⟨v,rfl,h1⟩:=jN hb
  obtain⟨p,xs,rfl,h1,h2⟩:=h1.lst
  exact jg pins s σ H _ us Q I r ⟨p,xs,rfl,.inl (.inl h1),c.now (w:=.int xs.length) (by rw[h2.len];exact h) (jh _)⟩
 |[.tup l],h=>
  obtain⟨v,rfl,h1⟩:=jN hb
  obtain⟨p,xs,rfl,h1,h2⟩:=h1.tup
  exact jg pins s σ H _ us Q I r ⟨p,xs,rfl,.inr h1,c.now (w:=.int xs.length) (by rw[h2.len];exact h) (jh _)⟩
 |[.iJ ns],h=>
  obtain⟨v,rfl,h1⟩:=jN hb
  obtain⟨p,rfl,h2⟩:=h1.iJ
  exact jg pins s σ H _ us Q I r ⟨p,_,rfl,.inl h2,c.now (w:=.int ns.length) h (by rw[Ap];exact jh _)⟩
theorem cw_abs:kY X (.builtin "abs") .abs:=by
 intro pins s σ H B ws vs us P Q I d r hb h c
 match ws,h with
 |[.int i],h=>
  obtain⟨v,rfl,h1⟩:=jN hb
  cases h1.int
  exact F8 pins s σ H _ us Q I r ⟨i,rfl,c.now h (jh _)⟩
theorem cw_max(hc:X.calm=true):kY X (.builtin "max") .max2:=by
 intro pins s σ H B ws vs us P Q I d r hb h c
 match ws,h with
 |[.int i,.int j],h=>
  obtain⟨v,v',rfl,h1,h2⟩:=MR hb
  cases h1.int
  cases h2.int
  exact Ej hc pins s σ H _ us Q I r ⟨i,j,rfl,c.now h (jh _)⟩
theorem cw_min(hc:X.calm=true):kY X (.builtin "min") .min2:=by
 intro pins s σ H B ws vs us P Q I d r hb h c
 match ws,h with
 |[.int i,.int j],h=>
  obtain⟨v,v',rfl,h1,h2⟩:=MR hb
  cases h1.int
  cases h2.int
  exact Ek hc pins s σ H _ us Q I r ⟨i,j,rfl,c.now h (jh _)⟩
theorem cw_sum(hc:X.calm=true):kY X (.builtin "sum") .sum:=by
 intro pins s σ H B ws vs us P Q I d r hb h c
 match ws,h with
 |[.lst l],h=>
  obtain⟨ns,rfl,h⟩:=h
  obtain⟨v,rfl,h1⟩:=jN hb
  obtain⟨p,xs,rfl,h1,h2⟩:=h1.lst
  have e:=aj.ints h2
  subst e
  exact Ey hc pins s σ H _ us Q I r ⟨p,ns,rfl,.inl h1,c.now h (jh _)⟩
theorem cw_all(hc:X.calm=true):kY X (.builtin "all") .all:=by
 intro pins s σ H B ws vs us P Q I d r hb h c
 match ws,h with
 |[.lst l],h=>
  obtain⟨bs,rfl,h⟩:=h
  obtain⟨v,rfl,h1⟩:=jN hb
  obtain⟨p,xs,rfl,h1,h2⟩:=h1.lst
  have e:=aj.bls h2
  subst e
  exact Ez hc pins s σ H _ us Q I r ⟨p,bs,rfl,.inl h1,c.now h (EG _)⟩
theorem cw_list:kY X (.type "list") .list:=by
 intro pins s σ H B ws vs us P Q I d r hb h c
 match ws,h with
 |[.lst l],h=>
  obtain⟨v,rfl,h1⟩:=jN hb
  obtain⟨p,xs,rfl,h1,h2⟩:=h1.lst
  exact mZ pins s σ H _ us Q I r ⟨p,xs,rfl,.inl (.inl h1),fun q hq=>c _ _ _ h (aY hq _) (.fresh (az.refl H) hq h2)⟩
 |[.tup l],h=>
  obtain⟨v,rfl,h1⟩:=jN hb
  obtain⟨p,xs,rfl,h1,h2⟩:=h1.tup
  exact mZ pins s σ H _ us Q I r ⟨p,xs,rfl,.inr h1,fun q hq=>c _ _ _ h (aY hq _) (.fresh (az.refl H) hq h2)⟩
theorem cw_tuple:kY X (.type "tuple") .tuple:=by
 intro pins s σ H B ws vs us P Q I d r hb h c
 match ws,h with
 |[.lst l],h=>
  obtain⟨v,rfl,h1⟩:=jN hb
  obtain⟨p,xs,rfl,h1,h2⟩:=h1.lst
  exact kW pins s σ H _ us Q I r ⟨p,xs,rfl,.inl ⟨.inl h1,fun q hq=>c _ _ _ h (aY hq _) (.of (EH aE (aj.same (aY hq _) h2)))⟩⟩
 |[.tup l],h=>
  obtain⟨v,rfl,h1⟩:=jN hb
  obtain⟨p,xs,rfl,OL,h2⟩:=h1.Ul
  have h1:lY X.K H p xs:=lY.of OL
  exact kW pins s σ H _ us Q I r ⟨p,xs,rfl,.inr ⟨h1,c.now h (EH OL h2)⟩⟩
noncomputable def GS(K:PySem.W.Frag):Prop:=∀a∈["NoneType","bool","int","str","list","tuple"],∀b∈["int","bool","tuple","list","str","dict"],PySem.W.kitOne K (.type a) (.type b)=some (Xg a b)
end
noncomputable def MS(K:PySem.W.Frag)(n:Nat)(m:Md)(sp:bN):Sp:=fun vs H Q E=>∃A ws P R,ws.length=n/\aj K A H ws vs/\Dom A H/\sp ws P R/\Cont K A H m P Q/\∀C H',R C->az H H'->E (.ref C) none H'
noncomputable def Uy(K:PySem.W.Frag)(n:Nat)(m0:Md)(sp:bN):Sp:=fun vs H Q E=>∃(ab:Addr->Prop) (F:List Addr) (w0:W) (v0:V) (ws:List W) (vs':List V) (P:W->Prop) (R:Addr->Prop),vs=v0::vs'/\ws.length+1=n/\F.Nodup/\(∀p∈F,¬ab p)/\Dom ab H/\Fp K (fun p=>ab p\/p∈F) H m0 w0 v0 F/\aj K (fun p=>ab p\/p∈F) H ws vs'/\sp (w0::ws) P R/\
 (∀w y v F' H',P (.tup [w,y])->xM (·∈F) H H'->F'.Nodup->(∀p∈F',p∈F\/H p=none)->Fp K (fun p=>ab p\/p∈F') H' m0 y v0 F'->Rep K (fun p=>ab p\/p∈F') H' w v->Q v H')/\(∀C H',R C->xM (·∈F) H H'->E (.ref C) none H')
noncomputable def cY(K:PySem.W.Frag)(n:Nat)(m:Md)(sp:bN):Sp:=
 match m with
 |.io m0=>Uy K n m0 sp
 |m=>MS K n m sp
inductive eV(P:Program)(w:World)(K:PySem.W.Frag)(mg:Str->Option Value)(base:Heap):Nat->Value->Nat->Sp->Prop where
 |fn {k:Nat} {f:Addr} {fd:FuncData} {ps:List Str} {sp:Sp} (kp:PySem.W.keepIn K (.ref f)=true) (b:Binds K fd ps []) (F:aH P w K mg base (cL P w) k f fd ps sp):eV P w K mg base k (.ref f) ps.length sp
 |mk {k n:Nat} {C f:Addr} {fd:FuncData} {ps:List Str} {sp Y9:Sp} (M:Mk K C f) (b:Binds K fd ps []) (F:aH P w K mg base (cL P w) k f fd ps Y9)
  (h:∀vs H Q E,sp vs H Q E->∀x dx,H x=none->H dx=none->dx≠x->Y9 (.ref x::vs) (upd (upd H dx (.own x)) x (.ins C dx [])) (fun v H2=>v=.aX/\Q (.ref x) H2) E):eV P w K mg base (k+1) (.ref C) n sp
theorem eV.keep{P:Program}{w:World}{K:PySem.W.Frag}{mg:Str->Option Value}{base:Heap}{k n:Nat}{fv:Value}{sp:Sp}(c:eV P w K mg base k fv n sp):PySem.W.keepIn K fv=true:=by
 cases c with
 |fn kp _ _=>exact kp
 |mk M _ _ _=>exact M.kp
theorem eV.run{X:Cx}{k n:Nat}{fv:Value}{sp:Sp}{pins:List (Addr×Obj)}{σ:St}{H:Hp}{s:Shared}{Q:VK}{E:XK}{us:List Value}{vs:List V}(c:eV X.prog X.w X.K X.mg X.base k fv n sp)(hr:dU k X.A)(hx:Passes (cL X.prog X.w) X E)(I:Inv X pins σ H s)(r:Vals vs us)(h:sp vs H Q E):
 wpAny (model X.prog X.w) X.A (call fv us) (EP X pins σ Q) X.xe s:=by
 cases c with
 |fn kp b F=>exact AE (ds:=[]) (Gd:=[]) F hr b .nil hx I r (by rw[KF];exact h)
 |mk M b F l=>exact Ge (ds:=[]) (Gd:=[]) M F hr b .nil hx I r (fun x dx h1 h2 h3=>by rw[KF];exact l vs H Q E h x dx h1 h2 h3)
section
variable{X:Cx}{M:Ms}{R:Addr->Prop}{e a b c:Expr}{t ta tb tc:WT}{m:Md}{pos p:Pos}{es:List Expr}{x:Str}
theorem Cp{ts:Ev->(List W->Prop)->Prop}{k n:Nat}{fv:Value}{sp:bN}(F:eV X.prog X.w X.K X.mg X.base k fv n (MS X.K n m sp))(hr:dU k X.A)(hg:Gl X x)(hm:X.mg x=some fv)
 (hn:∀ws P R,sp ws P R->ws.length=n) (ha:VA X M R (e::es) ts) (hdb:(x==("__debug__":Str))=false) (he:starEach (e::es) X.env=(false,eval e X.env)::starEach es X.env) (hpl:(backTo pos (starEach es X.env)).any (·.1)=false):
 VE X M R m (.Call (.Name x p) (e::es) [] pos) (fun ε Q=>ts ε fun ws=>sp ws Q R):=by
 rintro pins s σ H Q I ⟨A,H0,ε,P,S,er,h,kk⟩
 obtain⟨E,pE,hE,hR⟩:=er
 refine wpAny_Call_Name_kw (u7 I hg hm ?_ hdb)
 refine PySem.W.callWith_K (h₀:=X.base) I.ok.mod.SM F.keep (bT (ha pos pins s σ H (fun vs H1=>∃ws,az H H1/\aj X.K (FB A M σ) H1 ws vs/\sp ws P R) I ⟨A,H0,ε,_,S,⟨E,pE,hE,hR⟩,h,fun ws vs H1 hw s1 rs=>⟨ws,s1,rs,hw⟩⟩) fun us s1 ⟨vs,H1,I1,r,ws,sm,rs,AF⟩=>⟨I1.B7,?_⟩) he hpl
 exact F.run hr pE I1 r ⟨FB A M σ,ws,P,R,hn _ _ _ AF,rs,(S.same sm).dom,AF,fun w v H' pw s' r'=>kk w v H' pw (sm.trans s') (r'.back sm fun _ z=>z),fun C H' rc s'=>hE C H' rc (S.sm.trans (sm.trans s'))⟩
theorem O6{ts:Ev->(List W->Prop)->Prop}{bi:BI}{id:String}(hc:gj X (.builtin id) (R9 X.K bi))(hg:Gl X x)(hm:X.mg x=none)(hv:bootBuiltins x=some (.builtin id))(ha:R8 X M R (e::es) ts)(hn:x≠"__name__")(hdb:(x==("__debug__":Str))=false)
 (he:starEach (e::es) X.env=(false,eval e X.env)::starEach es X.env) (hpl:(backTo pos (starEach es X.env)).any (·.1)=false):VE X M R (Ux bi) (.Call (.Name x p) (e::es) [] pos) (fun ε Q=>ts ε fun ws=>vo bi ws Q):=
 PE.imp (xV hc hg hm hv ha hn hdb he hpl)<|by rintro σ H Q ⟨A,H0,ε,P,S,er,h,k⟩;exact⟨A,H0,ε,_,S,er,h,fun ws vs H1 hw s1 rs=>⟨FB A M σ,ws,P,(S.same s1).dom,rs,hw,fun w v H' pw s' r=>k w v H' pw (s1.trans s') (r.back s1 fun _ z=>z)⟩⟩
theorem O7{ts:Ev->(List W->Prop)->Prop}{bi:BI}{id:String}(hc:gj X (.type id) (R9 X.K bi))(hg:Gl X x)(hm:X.mg x=none)(hv:bootBuiltins x=some (.type id))(ha:R8 X M R (e::es) ts)(hn:x≠"__name__")(hdb:(x==("__debug__":Str))=false)
 (he:starEach (e::es) X.env=(false,eval e X.env)::starEach es X.env) (hpl:(backTo pos (starEach es X.env)).any (·.1)=false):VE X M R (Ux bi) (.Call (.Name x p) (e::es) [] pos) (fun ε Q=>ts ε fun ws=>vo bi ws Q):=
 PE.imp (Er hc hg hm hv ha hn hdb he hpl)<|by rintro σ H Q ⟨A,H0,ε,P,S,er,h,k⟩;exact⟨A,H0,ε,_,S,er,h,fun ws vs H1 hw s1 rs=>⟨FB A M σ,ws,P,(S.same s1).dom,rs,hw,fun w v H' pw s' r=>k w v H' pw (s1.trans s') (r.back s1 fun _ z=>z)⟩⟩
theorem Kw{cpos apos:Pos}(ha:VE X M R .s a ta)(hbase:attributeBase a "bit_length" X.env (eval a X.env)=eval a X.env)(hline:(apos.endLine==cpos.line)=true):
 VE X M R .s (.Call (.Attribute a "bit_length" apos) [] [] cpos) (fun ε Q=>ta ε fun x=>match x with|.int i=>Q (.int (Builtin.Int.intBits i:Nat))|_=>False):=
 PE.imp (Gi PySem.F.plainAttrs_int PySem.F.slot_int_bit_length PySem.F.type_int_bit_length Kd ha hbase hline)<|by
  rintro σ H Q ⟨A,H0,ε,P,S,er,h,k⟩
  refine⟨A,H0,ε,_,S,er,h,fun w v H1 hw s1 r1=>?_⟩
  cases w with
  |int i=>
   have e:=r1.bO.int_inv
   subst e
   exact⟨rfl,i,rfl,rfl,k _ _ H1 hw s1 (.of (jh _))⟩
  |_=>exact hw.elim
end
inductive EJ(K:PySem.W.Frag)(br:Bool)(B:Addr->Prop)(H:Hp):It->List W->Prop where
 |lst {a:Addr} {vs:List V} {ws:List W} (h:Rd H a (.lst vs)) (n:br=false->¬B a) (r:aj K B H ws vs):EJ K br B H (Wu K a) ws
 |tup {a:Addr} {vs:List V} {ws:List W} (h:lY K H a vs) (r:aj K B H ws vs):EJ K br B H (Wv K a) ws
 |oz (lo:Int) (n:Nat):EJ K br B H (Te lo n) (iM lo 1 n)
 |Ky (lo st:Int) (n:Nat):EJ K br B H (VU lo st n) (iM lo st n)
 |vn {a:Addr} {vs:List V} {ws:List W} (h:Rd H a (.lst vs)) (n:br=false->¬B a) (r:aj K B H ws vs):EJ K br B H (W8 K a) (jz ws)
 |rev {a:Addr} {vs:List V} {ws:List W} (h:Rd H a (.lst vs)) (n:br=false->¬B a) (r:aj K B H ws vs):EJ K br B H (Xa K a vs.length) ws.reverse
structure IW(K:PySem.W.Frag)(B:Addr->Prop)(Hs:Hp)(J:It)(ws:List W):Prop where
 go:∀i H,az Hs H->i<ws.length->J.go i H
 yl:∀i H x H' w,az Hs H->ws[i]?=some w->J.RZ i H x H'->az H H'/\∀B':Addr->Prop,(∀p o,Hs p=some o->B' p->B p)->Rep K B' H' w x
 st:∀i H,az Hs H->i=ws.length->J.stop i H
theorem m7(lo st:Int)(n:Nat):(iM lo st n).length=n:=by unfold iM;simp
theorem yg{lo st:Int}{n i:Nat}{w:W}(h:(iM lo st n)[i]?=some w):w=.int (lo+i*st)/\i<n:=by
 unfold iM at h
 rw[FR]at h
 by_cases hi:i<n
 ·rw[T2 hi]at h
  cases h
  exact⟨rfl,hi⟩
 ·rw[FS (by simpa using hi)]at h
  cases h
theorem uz(l:List W):(jz l).length=l.length:=by unfold jz;simp
theorem oO{l:List W}{i:Nat}{w:W}(h:(jz l)[i]?=some w):∃x,l[i]?=some x/\w=.tup [.int i,x]:=by
 unfold jz at h
 rw[List.getElem?_zipWith]at h
 by_cases hi:i<l.length
 ·rw[T2 hi,BM hi]at h
  cases h
  exact⟨_,BM hi,rfl⟩
 ·rw[FS (by simpa using hi)]at h
  cases h
theorem EJ.iw{K:PySem.W.Frag}{br:Bool}{B:Addr->Prop}{Hs:Hp}{J:It}{ws:List W}(h:EJ K br B Hs J ws):IW K B Hs J ws:=by
 cases h with
 |@lst a vs _ h n r=>
  have q:∀H,az Hs H->kR K H a vs:=fun H s=>.inl (VL.az.rd s h)
  refine⟨fun i H s hi=>?_,fun i H x H' w s hw y=>?_,fun i H s hi=>⟨vs,q H s,by rw[r.len,hi];exact Do _⟩⟩
  ·have hi':i<vs.length:=by rw[r.len];exact hi
   exact⟨vs,vs[i],q H s,BM hi'⟩
  ·obtain⟨rfl,y⟩:=y
   obtain⟨v,e,hr⟩:=r.get hw
   have:=y vs (q _ s)
   rw[e]at this
   cases this
   exact⟨az.refl _,fun B' hB=>Rep.mv s hB w hr⟩
 |@tup a vs _ h r=>
  have q:∀H,az Hs H->lY K H a vs:=fun H s=>L2.az.tup s h
  refine⟨fun i H s hi=>?_,fun i H x H' w s hw y=>?_,fun i H s hi=>⟨vs,q H s,by rw[r.len,hi];exact Do _⟩⟩
  ·have hi':i<vs.length:=by rw[r.len];exact hi
   exact⟨vs,vs[i],q H s,BM hi'⟩
  ·obtain⟨rfl,y⟩:=y
   obtain⟨v,e,hr⟩:=r.get hw
   have:=y vs (q _ s)
   rw[e]at this
   cases this
   exact⟨az.refl _,fun B' hB=>Rep.mv s hB w hr⟩
 |oz lo n=>
  refine⟨fun i H s hi=>by rw[m7]at hi;exact hi,fun i H x H' w s hw y=>?_,fun i H s hi=>by rw[m7]at hi;exact Nat.le_of_eq hi.symm⟩
  obtain⟨rfl,rfl⟩:=y
  obtain⟨rfl,_⟩:=yg hw
  exact⟨az.refl _,fun B' _=>by rw[ag];exact jh _⟩
 |Ky lo st n=>
  refine⟨fun i H s hi=>by rw[m7]at hi;exact hi,fun i H x H' w s hw y=>?_,fun i H s hi=>by rw[m7]at hi;exact Nat.le_of_eq hi.symm⟩
  obtain⟨rfl,rfl⟩:=y
  obtain⟨rfl,_⟩:=yg hw
  exact⟨az.refl _,fun B' _=>jh _⟩
 |@vn a vs ws h n r=>
  have q:∀H,az Hs H->kR K H a vs:=fun H s=>.inl (VL.az.rd s h)
  refine⟨fun i H s hi=>?_,fun i H x H' w s hw y=>?_,fun i H s hi=>⟨vs,q H s,by rw[r.len,hi,uz]⟩⟩
  ·rw[uz]at hi
   have hi':i<vs.length:=by rw[r.len];exact hi
   exact⟨vs,vs[i],q H s,BM hi'⟩
  ·obtain⟨p,y,hp,rfl,rfl,hy⟩:=y
   obtain⟨w',hw',rfl⟩:=oO hw
   obtain⟨v,e,hr⟩:=r.get hw'
   have e2:=hy vs (q _ s)
   rw[e]at e2
   obtain rfl:v=y:=KE e2
   have s2:=aY (H:=H) hp (.tup [.int i,v])
   exact⟨s2,fun B' hB=>EH aE (.cons (jh _) (.cons (Rep.mv (s.trans s2) hB w' hr) .nil))⟩
 |@rev a vs ws h n r=>
  have q:∀H,az Hs H->kR K H a vs:=fun H s=>.inl (VL.az.rd s h)
  have hl:=r.len
  refine⟨fun i H s hi=>?_,fun i H x H' w s hw y=>?_,fun i H s hi=>?_⟩
  ·rw[List.length_reverse]at hi
   exact⟨vs,q H s,rfl,by rw[hl];exact hi⟩
  ·obtain⟨rfl,y⟩:=y
   have hi:i<ws.length:=by
    have:=(GM.mp hw).1
    rwa [List.length_reverse]at this
   rw[List.getElem?_reverse hi]at hw
   obtain⟨v,e,hr⟩:=r.get hw
   have:=y vs (q _ s) rfl
   rw[hl,e]at this
   cases this
   exact⟨az.refl _,fun B' hB=>Rep.mv s hB w hr⟩
  ·rw[List.length_reverse]at hi
   show i=vs.length
   rw[hl,hi]
noncomputable def itemsOf:W->Option (List W)
 |.lst l=>some l
 |.tup l=>some l
 |_=>none
theorem uA{z:W}{Q:List W->Prop}:items z Q↔∃ws,itemsOf z=some ws/\Q ws:=by
 cases z<;>simp[items,itemsOf]
noncomputable def GU(X:Cx)(M:Ms)(R:Addr->Prop)(br:Bool)(t:WT):TI:=fun σ H Q=>∃A H0 ε P,SR X.K M A H0 σ H ε/\ER X H0 R/\t ε P/\∀z,P z->∃ws,itemsOf z=some ws/\∀J H1,az H H1->EJ X.K br (FB A M σ) H1 J ws->Q J H1
theorem PI.imp{X:Cx}{tg e:Expr}{t t':TI}(h:PI X tg e t)(k:∀σ H Q,t' σ H Q->t σ H Q):PI X tg e t':=fun pins s σ H Q I w=>h pins s σ H Q I (k σ H Q w)
section
variable{X:Cx}{M:Ms}{R:Addr->Prop}{e a b c tg:Expr}{t ta tb tc:WT}{m:Md}{pos p:Pos}{es:List Expr}{x:Str}{br:Bool}
theorem O8{l:Expr}{tl:TE}(hl:PE X l tl):PI X tg l (fun σ H Q=>tl σ H fun x H1=>∃a,x=.ref a/\(((∃xs,kR X.K H1 a xs)/\Q (Wu X.K a) H1)\/((∃xs,lY X.K H1 a xs)/\Q (Wv X.K a) H1))):=by
 intro pins s σ H Q I h
 refine bT (hl pins s σ H _ I h) ?_
 rintro v s1 ⟨x,H1,I1,r1,q1⟩
 obtain⟨a,e,q⟩:=q1
 subst e
 cases r1
 rcases q with⟨⟨xs,hq⟩,q⟩|⟨⟨xs,hq⟩,q⟩
 ·obtain⟨its,rv,p,hz⟩:=I1.list hq
  refine wpAny_pyIter_list p.isList ?_
  refine⟨s1.heap.objs.size,[s1.heap.objs.size],_,_,H1,rfl,I1.kept (t':=s1.toks) fun b o e=>FM _ e,Ef a _,⟨_,N0 _ rfl,rfl,rfl⟩,fun b hb=>?_,q⟩
  have e:b=s1.heap.objs.size:=by simpa using hb
  subst e
  exact I1.Aq (Do _) (I1.hok.fresh (Do _))
 ·obtain⟨its,rv,p,hz⟩:=I1.tuple hq
  refine wpAny_pyIter_tuple (show s1.heap.IsTuple a its.toArray from p) ?_
  refine⟨s1.heap.objs.size,[s1.heap.objs.size],_,_,H1,rfl,I1.kept (t':=s1.toks) fun b o e=>FM _ e,Ar a _,⟨_,N0 _ rfl,rfl,rfl⟩,fun b hb=>?_,q⟩
  have e:b=s1.heap.objs.size:=by simpa using hb
  subst e
  exact I1.Aq (Do _) (I1.hok.fresh (Do _))
noncomputable def O9(K:PySem.W.Frag)(br:Bool):RL:=fun B _ H' w v=>bw K B H' w v/\(br=false->Rep K B H' w v)
theorem kZ(h:VE X M R m e t):PE X e (tV X M R (O9 X.K br) t):=PE.imp h<|by rintro σ H Q ⟨A,H0,ε,P,S,er,p,k⟩;exact⟨A,H0,ε,P,S,er,p,fun w v H' pw s r=>k w v H' pw s ⟨(r.rep S.dom).b,fun _=>r.rep S.dom⟩⟩
theorem Uz(h:VB X M R e t):PE X e (tV X M R (O9 X.K true) t):=PE.imp h<|by rintro σ H Q ⟨A,H0,ε,P,S,er,p,k⟩;exact⟨A,H0,ε,P,S,er,p,fun w v H' pw s r=>k w v H' pw s ⟨r,fun z=>by cases z⟩⟩
theorem O9.lst{K:PySem.W.Frag}{B:Addr->Prop}{H H':Hp}{l:List W}{v:V}(h:O9 K br B H H' (.lst l) v):∃p vs,v=.ref p/\Rd H' p (.lst vs)/\(br=false->¬B p)/\aj K B H' l vs:=by
 obtain⟨p,vs,rfl,h1,h2⟩:=h.1.lst
 refine⟨p,vs,rfl,h1,fun e=>?_,h2⟩
 have:=h.2 e
 rw[Rep]at this
 obtain⟨p',_,e',n,_⟩:=this
 cases e'
 exact n
theorem ic(hl:PE X a (tV X M R (O9 X.K br) ta)):PI X tg a (GU X M R br ta):=PI.imp (O8 hl)<|by
 rintro σ H Q ⟨A,H0,ε,P,S,er,h,k⟩
 refine⟨A,H0,ε,P,S,er,h,fun z v H1 hz s1 r1=>?_⟩
 obtain⟨ws,hi,k⟩:=k z hz
 cases z with
 |lst l=>
  cases hi
  obtain⟨p,vs,rfl,h1,h2,h3⟩:=r1.lst
  exact⟨p,rfl,.inl ⟨⟨vs,.inl h1⟩,k _ H1 s1 (.lst h1 h2 h3)⟩⟩
 |tup l=>
  cases hi
  obtain⟨p,vs,rfl,h1,h2⟩:=r1.1.tup
  exact⟨p,rfl,.inr ⟨⟨vs,h1⟩,k _ H1 s1 (.tup h1 h2)⟩⟩
 |_=>exact nn hi
theorem Pa{elts:List Expr}{kk:Nat}{tp:Pos}(hg:Gl X "enumerate")(hm:X.mg "enumerate"=none)(ha:PE X a (tV X M R (O9 X.K br) ta))(hs:starEach [a] X.env=(false,eval a X.env)::starEach [] X.env):
 PI X (.Tuple elts kk tp) (.Call (.Name "enumerate" p) [a] [] pos) (GU X M R br (fun ε Q=>ta ε fun x=>match x with|.lst l=>Q (.lst (jz l))|_=>False)):=
 PI.imp (Ke hg hm (bV ha gc hs) rfl hs)<|by
  rintro σ H Q ⟨A,H0,ε,P,S,er,h,k⟩
  refine⟨A,H0,ε,_,S,er,h,fun z v H1 hz s1 r1=>?_⟩
  cases z with
  |lst l=>
   obtain⟨ws,hi,k⟩:=k _ hz
   cases hi
   obtain⟨p,vs,rfl,h1,h2,h3⟩:=r1.lst
   exact⟨p,rfl,⟨vs,.inl h1⟩,k _ H1 s1 (.vn h1 h2 h3)⟩
  |_=>exact hz.elim
theorem Pb(hg:Gl X "reversed")(hm:X.mg "reversed"=none)(ha:PE X a (tV X M R (O9 X.K br) ta))(hs:starEach [a] X.env=(false,eval a X.env)::starEach [] X.env):
 PI X tg (.Call (.Name "reversed" p) [a] [] pos) (GU X M R br (fun ε Q=>ta ε fun x=>match x with|.lst l=>Q (.lst l.reverse)|_=>False)):=
 PI.imp (OE hg hm (bV ha gc hs) rfl hs)<|by
  rintro σ H Q ⟨A,H0,ε,P,S,er,h,k⟩
  refine⟨A,H0,ε,_,S,er,h,fun z v H1 hz s1 r1=>?_⟩
  cases z with
  |lst l=>
   obtain⟨ws,hi,k⟩:=k _ hz
   cases hi
   obtain⟨p,vs,rfl,h1,h2,h3⟩:=r1.lst
   exact⟨p,vs,rfl,.inl h1,k _ H1 s1 (.rev h1 h2 h3)⟩
  |_=>exact hz.elim
theorem Kz(hg:Gl X "range")(hm:X.mg "range"=none)(ha:VE X M R .s a ta)(hs:starEach [a] X.env=(false,eval a X.env)::starEach [] X.env):
 PI X tg (.Call (.Name "range" p) [a] [] pos) (GU X M R br (fun ε Q=>ta ε fun x=>GH [x] fun l=>Q (.lst l))):=
 PI.imp (Eg hg hm (bV ha gc hs) hs)<|by
  rintro σ H Q ⟨A,H0,ε,P,S,er,h,k⟩
  refine⟨A,H0,ε,_,S,er,h,fun x vx H1 hz s1 r1=>?_⟩
  cases x with
  |int j=>
   obtain⟨l1,l2,hz⟩:=hz
   obtain⟨oq,hi,k⟩:=k _ hz
   cases hi
   cases r1.bO.int_inv
   exact⟨j,rfl,l1,l2,k _ H1 s1 (.oz 0 j.toNat)⟩
  |_=>exact hz.elim
theorem KA(hg:Gl X "range")(hm:X.mg "range"=none)(ha:VE X M R .s a ta)(hb:VE X M R .s b tb)(hs:starEach [a,b] X.env=(false,eval a X.env)::starEach [b] X.env)(hs2:starEach [b] X.env=(false,eval b X.env)::starEach [] X.env):
 PI X tg (.Call (.Name "range" p) [a,b] [] pos) (GU X M R br (fun ε Q=>ta ε fun x=>tb ε fun y=>GH [x,y] fun l=>Q (.lst l))):=
 PI.imp (Eh hg hm (bV ha (bV hb gc hs2) hs) (by rw[hs,hs2];rfl) hs2)<|by
  rintro σ H Q ⟨A,H0,ε,P,S,er,h,k⟩
  refine⟨A,H0,ε,_,S,er,h,fun x vx H1 hz s1 r1=>⟨A,H0,ε,_,S.same s1,er,hz,fun y vy H2 hz s2 r2=>?_⟩⟩
  cases x with
  |int i=>
   cases y with
   |int j=>
    obtain⟨l1,hz⟩:=hz
    obtain⟨oq,hi,k⟩:=k _ hz
    cases hi
    cases r1.bO.int_inv
    cases r2.bO.int_inv
    exact⟨i,j,rfl,l1,k _ H2 (s1.trans s2) (.oz i (j -i).toNat)⟩
   |_=>exact hz.elim
  |_=>exact hz.elim
theorem KC(hg:Gl X "range")(hm:X.mg "range"=none)(ha:VE X M R .s a ta)(hb:VE X M R .s b tb)(hc:VE X M R .s c tc)(hs:starEach [a,b,c] X.env=(false,eval a X.env)::starEach [b,c] X.env)(hs2:starEach [b,c] X.env=(false,eval b X.env)::starEach [c] X.env)(J9:starEach [c] X.env=(false,eval c X.env)::starEach [] X.env):
 PI X tg (.Call (.Name "range" p) [a,b,c] [] pos) (GU X M R br (fun ε Q=>ta ε fun x=>tb ε fun y=>tc ε fun z=>GH [x,y,z] fun l=>Q (.lst l))):=
 PI.imp (EB hg hm (bV ha (bV hb (bV hc gc J9) hs2) hs) (by rw[hs,hs2,J9];rfl) (by rw[hs2,J9];rfl))<|by
  rintro σ H Q ⟨A,H0,ε,P,S,er,h,k⟩
  refine⟨A,H0,ε,_,S,er,h,fun x vx H1 hz s1 r1=>⟨A,H0,ε,_,S.same s1,er,hz,fun y vy H2 hz s2 r2=>⟨A,H0,ε,_,S.same (s1.trans s2),er,hz,fun z vz H3 hz s3 r3=>?_⟩⟩⟩
  cases x with
  |int i=>
   cases y with
   |int j=>
    cases z with
    |int l=>
     obtain⟨n,l1,hz⟩:=hz
     obtain⟨oq,hi,k⟩:=k _ hz
     cases hi
     cases r1.bO.int_inv
     cases r2.bO.int_inv
     cases r3.bO.int_inv
     exact⟨i,j,l,n,rfl,l1,k _ H3 ((s1.trans s2).trans s3) (.Ky i l n)⟩
    |_=>exact hz.elim
   |_=>exact hz.elim
  |_=>exact hz.elim
end
noncomputable def up(M:Ms)(n:Nat):Ms:=M.map fun x=>(x.1+n,x.2)
section
variable{K:PySem.W.Frag}{M:Ms}{A:Fz}{H0 H H1:Hp}{σ v0:St}{ε δ:Ev}
theorem oQ{n i:Nat}{m:Md}:(i,m)∈up M n↔n<=i/\(i -n,m)∈M:=by
 unfold up
 rw[Kx]
 constructor
 ·rintro⟨⟨j,m'⟩,hj,e⟩
  cases e
  exact⟨Nat.le_add_left _ _,by rw[Wp];exact hj⟩
 ·rintro⟨h,hj⟩
  exact⟨(i -n,m),hj,by simp;omega⟩
theorem eY{n i:Nat}:aS (up M n) i↔n<=i/\aS M (i -n):=by
 constructor
 ·rintro⟨m,h⟩
  exact⟨(oQ.mp h).1,m,(oQ.mp h).2⟩
 ·rintro⟨h,m,h'⟩
  exact⟨m,oQ.mpr ⟨h,h'⟩⟩
theorem rG{n i:Nat}(hn:δ.length=n)(h:n<=i):look (δ++ε) i=look ε (i -n):=by
 have e:∀w,look (δ++ε) i=some w↔look ε (i -n)=some w:=fun w=>by
  rw[bE,bE,HI (by lia),hn]
 cases h1:look ε (i -n)with
 |none=>
  cases h2:look (δ++ε) i with
  |none=>rfl
  |some w=>
   rw[e]at h2
   rw[h1]at h2
   cases h2
 |some w=>exact(e w).mpr h1
theorem SR.block(S:SR K M A H0 σ H ε){n:Nat}(hv:v0.length=n)(s:az H H1){D:Addr}{o:HO}(hD:H D=none)(h1D:H1 D=some o):SR K (up M n) ⟨fun q=>A.ab q\/q=D,fun q=>A.B q\/q=D,none⟩ H0 (v0++σ) H1 (List.replicate n none++ε):=by
 obtain⟨F,O⟩:=S.ow
 have hd:(List.replicate n (none:Option W)).length=n:=by simp
 have ax:∀{i:Nat},n<=i->(v0++σ)[i]?=σ[i -n]?:=fun{i} h=>by rw[HI (by lia),hv]
 have hb:∀p o,H p=some o->(A.B p\/p=D)->A.B p:=fun p o e z=>by
  rcases z with z|rfl
  ·exact z
  ·rw[hD]at e
   cases e
 refine⟨by rw[FC,FC,hv,hd,S.len],fun i w hi e=>?_,S.sm.trans s,fun p z=>?_,(fun v e=>by cases e),fun i=>F (i -n),⟨fun i m m' a b=>O.un _ m m' (oQ.mp a).2 (oQ.mp b).2,fun i m w hm e=>?_,fun i hi e=>?_,fun i hi=>O.nd _ (eY.mp hi).2,fun i j p hi hj a b=>?_,fun i p hi hp=>O.nw _ p (eY.mp hi).2 hp,fun i p hi hp z=>?_,fun p=>?_⟩⟩
 ·by_cases h1:n<=i
  ·rw[rG hd h1]at e
   rw[ax h1]
   obtain⟨v,q1,q2⟩:=S.sh (i -n) w (fun z=>hi (eY.mpr ⟨h1,z⟩)) e
   exact⟨v,q1,Rep.mv s hb w q2⟩
  ·rw[bE,IH (by rw[hd];lia),List.getElem?_replicate,Bz (by lia)]at e
   cases e
 ·rcases z with z|rfl
  ·exact(S.dm.same s) p z
  ·exact⟨_,h1D⟩
 ·obtain⟨h1,h2⟩:=oQ.mp hm
  rw[rG hd h1]at e
  rw[ax h1]
  obtain⟨v,q1,q2⟩:=O.val _ m w h2 e
  exact⟨v,q1,Fp.mv s hb m q2⟩
 ·obtain⟨h1,h2⟩:=eY.mp hi
  rw[rG hd h1]at e
  exact O.emp _ h2 e
 ·have:=O.ds _ _ p (eY.mp hi).2 (eY.mp hj).2 a b
  have:=(eY.mp hi).1
  have:=(eY.mp hj).1
  lia
 ·rcases z with z|rfl
  ·exact O.na _ p (eY.mp hi).2 hp z
  ·obtain⟨o,e,_⟩:=O.has (eY.mp hi).2 hp
   rw[hD]at e
   cases e
 ·constructor
  ·rintro(z|rfl)
   ·rcases(O.all p).mp z with z|⟨i,hi,hp⟩
    ·exact .inl (.inl z)
    ·exact .inr ⟨i+n,eY.mpr ⟨by lia,by rw[Wp];exact hi⟩,by rw[Wp];exact hp⟩
   ·exact .inl (.inr rfl)
  ·rintro((z|rfl)|⟨i,hi,hp⟩)
   ·exact .inl ((O.all p).mpr (.inl z))
   ·exact .inr rfl
   ·exact .inl ((O.all p).mpr (.inr ⟨i -n,(eY.mp hi).2,hp⟩))
end
noncomputable def UA:List Nat->MG
 |[]=>Tc
 |i::is=>MH (jy i) (UA is)
noncomputable def gT(K:PySem.W.Frag)(one:Bool)(ts:List Nat):TG:=
 match one,ts with
 |true,[i]=>jy i
 |true,_=>fun _ _ _ _=>False
 |false,ts=>NV K ts.length (UA ts)
noncomputable def cO(σ:St):List Nat->List V->St
 |i::is,v::vs=>cO (σ.set i (some v)) is vs
 |_,_=>σ
theorem yh:∀(is:List Nat) (vs:List V) (σ:St),(cO σ is vs).length=σ.length
 |[],vs,σ=>by rw[cO];simp
 |i::is,[],σ=>by rw[cO];simp
 |i::is,v::vs,σ=>by rw[cO,yh is vs,OK]
theorem yi{n:Nat}:∀(is:List Nat) (vs:List V) (v0 σ:St),v0.length=n->(∀i∈is,i<n)->cO (v0++σ) is vs=cO v0 is vs++σ
 |[],vs,v0,σ,_,_=>by rw[cO,cO]<;>simp
 |i::is,[],v0,σ,_,_=>by rw[cO,cO]<;>simp
 |i::is,v::vs,v0,σ,hn,h=>by
  have hi:=h i FK
  rw[cO,cO,List.set_append_left _ _ (by lia),yi is vs _ σ (by rw[OK];exact hn) fun j hj=>h j (Ee _ hj)]
section
variable{K:PySem.W.Frag}{M:Ms}{A:Fz}{H0 H:Hp}
theorem AV:∀(is:List Nat) (vs:List V) (σ:St) (Q:St->Hp->Prop),vs.length=is.length->Q (cO σ is vs) H->UA is vs σ H Q
 |[],[],σ,Q,_,q=>⟨rfl,q⟩
 |[],_::_,_,_,h,_=>by cases h
 |_::_,[],_,_,h,_=>by cases h
 |i::is,v::vs,σ,Q,h,q=>⟨v,vs,rfl,AV is vs _ Q (by simpa using h) (by rw[cO]at q;exact q)⟩
theorem SR.bD:∀(is:List Nat) (ws:List W) (vs:List V) {σ:St} {ε:Ev},(∀i∈is,¬aS M i)->SR K M A H0 σ H ε->aj K (FB A M σ) H ws vs->ws.length=is.length->SR K M A H0 (cO σ is vs) H (bD ε is ws)
 |[],ws,vs,σ,ε,_,S,_,_=>by
  rw[cO,VL.bD]<;>first|exact S|simp
 |i::is,[],vs,σ,ε,_,S,_,h=>by cases h
 |i::is,w::ws,vs,σ,ε,hm,S,r,h=>by
  obtain⟨v,r',rfl,h1,h2⟩:=r.cons_inv
  rw[cO,VL.bD]
  have hi:=hm i FK
  exact SR.bD is ws r' (fun j hj=>hm j (Ee _ hj)) (S.set hi h1) h2 (by simpa using h)
theorem tgt{σ:St}{ε:Ev}{one:Bool}{ts:List Nat}{w:W}{v:V}{P:Ev->Prop}{Q:St->Hp->Prop}(hM:∀i∈ts,¬aS M i)(S:SR K M A H0 σ H ε)(hr:Rep K (FB A M σ) H w v)(h:wT one ts w ε P)
 (k:∀vs ε',P ε'->SR K M A H0 (cO σ ts vs) H ε'->Q (cO σ ts vs) H):gT K one ts v σ H Q:=by
 cases one with
 |true=>
  match ts,h with
  |[i],h=>
   have:=k [v] (ε.set i (some w)) h (by rw[cO,cO]<;>first|exact S.set (hM i FK) hr|simp)
   rw[cO,cO]at this
   ·exact this
   ·simp
 |false=>
  cases w with
  |tup l=>
   obtain⟨hl,h⟩:=h
   rw[Rep]at hr
   obtain⟨p,vs,rfl,h1,h2⟩:=hr
   exact⟨p,vs,rfl,lY.of h1,by rw[h2.len,hl],AV ts vs σ Q (by rw[h2.len,hl]) (k vs _ h (SR.bD ts l vs hM S h2 hl))⟩
  |_=>exact h.elim
end
theorem PF.imp{X:Cx}{e:List Expr}{t t':TT}(h:PF X e t)(k:∀σ H Q,t' σ H Q->t σ H Q):PF X e t':=fun pins s σ H Q I w=>h pins s σ H Q I (k σ H Q w)
noncomputable def Xl(K:PySem.W.Frag)(M:Ms)(t:WT):TE:=fun σ H Q=>∃A H0 ε P,SR K M A H0 σ H ε/\t ε P/\∀w v H',P w->az H H'->Rep K (FB A M σ) H' w v->Q v H'
noncomputable def Xm(K:PySem.W.Frag)(M:Ms)(t:WT):TT:=fun σ H Q=>∃A H0 ε P,SR K M A H0 σ H ε/\t ε P/\∀x H',P x->az H H'->∃b,x=.bl b/\Q b H'
section
variable{X:Cx}{M:Ms}{R:Addr->Prop}{tg iter elt:Expr}{ifs:List Expr}{scope:Scope}{xs N':List Str}{pos:Pos}{ti tc te:WT}{one:Bool}{ts:List Nat}
theorem yj(hlt:∀i∈ts,i<xs.length)(σ:St)(H:Hp)(Q:VK)
 (hh:tV X M R (MO X.K .f) (fun ε Q=>ti ε fun z=>items z fun ws=>qi (fun w K=>wT one ts w (List.replicate xs.length none++ε) fun ε'=>tc ε' fun x=>truth x fun k=>if k=true then te ε' fun y=>K (some y)else K none) ws [] fun l=>Q (.lst l)) σ H Q):
 Gx xs.length (GU X M R true ti) (gT X.K one ts) (Xm X.K (up M xs.length) tc) (Xl X.K (up M xs.length) te) σ H Q:=by
 obtain⟨A,H0,ε,P,S,er,h,k⟩:=hh
 refine⟨A,H0,ε,_,S,er,h,fun z hz=>?_⟩
 obtain⟨ws,ez,hw⟩:=uA.mp hz
 refine⟨ws,ez,fun J H1 s1 it D hD=>?_⟩
 have iw:=it.iw
 generalize hf':(fun(w:W) (K:Option W->Prop)=>wT one ts w (List.replicate xs.length none++ε) fun ε'=>tc ε' fun x=>truth x fun k=>if k=true then te ε' fun y=>K (some y)else K none)=f at hw
 have Za:H D=none:=s1.free hD
 refine⟨fun i m H2=>∃acc vs,m=ws.length -i/\i<=ws.length/\az H1 H2/\H2 D=some (.lst vs)/\aj X.K (fun q=>FB A M σ q\/q=D) H2 acc vs/\qi f (ws.drop i) acc (fun l=>P (.lst l)),
  ⟨ws.length,[],[],rfl,KM _,aY hD _,aE,.nil,hw⟩,?_⟩
 rintro i m H2 ⟨acc,vs,rfl,hi,s2,VX,ra,hm⟩
 by_cases GV:i<ws.length
 ·refine .inr ⟨iw.go i H2 s2 GV,fun x H3 y v0 hv0=>?_⟩
  have hwi:ws[i]?=some ws[i]:=BM GV
  rw[List.drop_eq_getElem_cons GV]at hm
  generalize ws[i]=w at*
  obtain⟨s3,hrep⟩:=iw.yl i H2 x H3 w s2 hwi y
  have s13:az H H3:=s1.trans (s2.trans s3)
  have h3D:H3 D=some (.lst vs):=s3 _ _ VX
  have S3:SR X.K (up M xs.length) ⟨fun q=>A.ab q\/q=D,fun q=>A.B q\/q=D,none⟩ H0 (v0++σ) H3 (List.replicate xs.length none++ε):=S.block hv0 s13 Za h3D
  have hr3:Rep X.K (fun q=>A.B q\/q=D) H3 w x:=by
   refine hrep _ fun p o e z=>?_
   rcases z with z|rfl
   ·exact z
   ·rw[hD]at e
    cases e
  have hM:∀j∈ts,¬aS (up M xs.length) j:=fun j hj z=>by
   have:=(eY.mp z).1
   have:=hlt j hj
   lia
  rw[qi,←hf']at hm
  rw[hf']at hm
  refine tgt hM S3 hr3 hm fun us ε' hp S4=>?_
  have e4:cO (v0++σ) ts us=cO v0 ts us++σ:=yi ts us v0 σ hv0 hlt
  rw[e4]at S4⊢
  have hv1:(cO v0 ts us).length=xs.length:=by rw[yh];exact hv0
  refine⟨cO v0 ts us,hv1,rfl,⟨_,H0,ε',_,S4,hp,fun q H5 hq s5=>?_⟩⟩
  obtain⟨b,rfl,hq⟩:=cC hq
  refine⟨b,rfl,?_⟩
  have VY:az H2 H5:=s3.trans s5
  cases b with
  |false=>exact⟨ws.length -(i+1),by lia,acc,vs,rfl,GV,s2.trans VY,VY _ _ VX,ra.same VY,hq⟩
  |true=>
   refine⟨_,H0,ε',_,S4.same s5,hq,fun y vy H6 hy s6 ry=>?_⟩
   obtain⟨hlen,hy⟩:=hy
   have Xn:=VY.trans s6
   have Zb:=Xn _ _ VX
   refine⟨vs,Zb,by rw[ra.len];exact hlen,ws.length -(i+1),by lia,acc++[y],vs++[vy],rfl,GV,fun b o e=>?_,aE,?_,hy⟩
   ·rw[ao (aT e hD)]
    exact Xn _ _ (s2 _ _ e)
   ·have ry2:Rep X.K (fun q=>A.B q\/q=D) H6 y vy:=ry
    exact aj.put Zb (.inr rfl) _ ((ra.same Xn).app (.cons ry2 .nil))
 ·have e:i=ws.length:=by lia
  subst e
  refine .inl ⟨iw.st _ H2 s2 rfl,?_⟩
  rw[List.drop_length,qi]at hm
  exact k _ _ H2 hm (s1.trans s2) (.new Za VX (ra.less fun p z=>.inl z) ra)
theorem KD(hc:X.calm=true)(ho:gf scope X.env.scope X.N N' xs=true)(hlt:∀i∈ts,i<xs.length)(hi:PI X tg iter (GU X M R true ti))(hg:∀C s0 H0 fp,PG (aI X scope C xs N' s0 H0 fp) tg (gT X.K one ts))
 (hf:∀C s0 H0 fp,PF (aI X scope C xs N' s0 H0 fp) ifs (Xm X.K (up M xs.length) tc)) (he:∀C s0 H0 fp,PE (aI X scope C xs N' s0 H0 fp) elt (Xl X.K (up M xs.length) te)) (hs:∀z,foldedSetIterable iter X.env z=pure z):
 VE X M R .f (.ListComp elt [⟨tg,iter,ifs,0⟩] scope pos) (fun ε Q=>ti ε fun z=>items z fun ws=>qi (fun w K=>wT one ts w (List.replicate xs.length none++ε) fun ε'=>tc ε' fun x=>truth x fun k=>if k=true then te ε' fun y=>K (some y)else K none) ws [] fun l=>Q (.lst l)):=
 PE.imp (Ka xs N' hc ho hi hg hf he hs) fun σ H Q h=>yj hlt σ H Q h
end
section
variable{K:PySem.W.Frag}{M M':Ms}{A:Fz}{H0 H H1:Hp}{σ:St}{ε:Ev}
theorem SR.rb(S:SR K M A H0 σ H ε):∃Hs,SR K M A Hs σ H ε/\az H0 Hs/\az Hs H/\(∀p o,H p=some o->(FE o=true/\A.B p)\/Hs p=some o):=by
 classical
 obtain⟨F,O⟩:=S.ow
 have get:∀p o,(if(∃i,aS M i/\p∈F i)then none else H p)=some o->H p=some o:=fun p o z=>by
  split at z
  ·cases z
  ·exact z
 refine⟨fun p=>if(∃i,aS M i/\p∈F i)then none else H p,⟨S.len,S.sh,get,S.dm,S.sl,F,⟨O.un,O.val,O.emp,O.nd,O.ds,fun i p hi hp=>Bz ⟨i,hi,hp⟩,O.na,O.all⟩⟩,fun b o z=>?_,get,fun p o z=>?_⟩
 ·try dsimp only
  rw[Bi]
  ·exact S.sm _ _ z
  ·rintro⟨i,hi,e⟩
   rw[O.nw i b hi e]at z
   cases z
 ·by_cases hp:∃i,aS M i/\p∈F i
  ·have hp0:=hp
   obtain⟨i,hi,hp⟩:=hp
   obtain⟨o',e,hm⟩:=O.has hi hp
   rw[z]at e
   cases e
   exact .inl ⟨hm,(O.all p).mpr (.inr hp0)⟩
  ·exact .inr ((Bi hp).trans z)
end
section
variable{K:PySem.W.Frag}{B A:Addr->Prop}{H Hs:Hp}
theorem EJ.low{J:It}{ws:List W}(h:∀p o,H p=some o->(FE o=true/\B p)\/Hs p=some o)(ha:∀p,A p->B p)(i:EJ K false B H J ws):EJ K false A Hs J ws:=by
 have rd:∀{a:Addr} {vs:List V},Rd H a (.lst vs)->¬B a->Rd Hs a (.lst vs):=fun{a vs} r n=>by
  rcases r with r|⟨o,r⟩
  ·rcases h a _ r with⟨_,z⟩|z
   ·exact(n z).elim
   ·exact .inl z
  ·rcases h a _ r with⟨_,z⟩|z
   ·exact(n z).elim
   ·exact .inr ⟨o,z⟩
 cases i with
 |lst q n r=>exact .lst (rd q (n rfl)) (fun e z=>n e (ha _ z)) (aj.chg h (fun p _ _ z=>ha p z) _ r)
 |@tup a vs _ q r=>
  refine .tup ?_ (aj.chg h (fun p _ _ z=>ha p z) _ r)
  rcases q with(q|⟨o,q⟩)|q
  ·rcases h a _ q with⟨z,_⟩|z
   ·cases z
   ·exact .inl (.inl z)
  ·rcases h a _ q with⟨z,_⟩|z
   ·cases z
   ·exact .inl (.inr ⟨o,z⟩)
  ·exact .inr q
 |oz lo n=>exact .oz lo n
 |Ky lo st n=>exact .Ky lo st n
 |vn q n r=>exact .vn (rd q (n rfl)) (fun e z=>n e (ha _ z)) (aj.chg h (fun p _ _ z=>ha p z) _ r)
 |rev q n r=>exact .rev (rd q (n rfl)) (fun e z=>n e (ha _ z)) (aj.chg h (fun p _ _ z=>ha p z) _ r)
end
abbrev WS:=Dn->Ev->Prop
noncomputable def kT:Md->Bool
 |.io _=>true
 |_=>false
noncomputable def AW(K:PySem.W.Frag)(ab:Addr->Prop)(s0:Option V)(H0 H':Hp)(m:Md)(w:W)(v:V):Prop:=
 match m with
 |.io m0=>∃wr w0 v0 F',w=.tup [wr,w0]/\s0=some v0/\F'.Nodup/\(∀p∈F',H0 p=none/\¬ab p)/\Fp K (fun p=>ab p\/p∈F') H' m0 w0 v0 F'/\Rep K (fun p=>ab p\/p∈F') H' wr v
 |m=>fH K ab H0 H' m w v
theorem AW.of{K:PySem.W.Frag}{ab:Addr->Prop}{s0:Option V}{H0 H':Hp}{m:Md}{w:W}{v:V}(hm:kT m=false)(h:fH K ab H0 H' m w v):AW K ab s0 H0 H' m w v:=by
 cases m with
 |io _=>cases hm
 |_=>exact h
theorem AW.back{K:PySem.W.Frag}{ab:Addr->Prop}{s0:Option V}{H0 Hs H':Hp}{m:Md}{w:W}{v:V}(s:az H0 Hs)(h:AW K ab s0 Hs H' m w v):AW K ab s0 H0 H' m w v:=by
 cases m with
 |io m0=>
  obtain⟨wr,w0,v0,F',h1,h2,h3,h4,h5⟩:=h
  exact⟨wr,w0,v0,F',h1,h2,h3,fun p hp=>⟨s.free (h4 p hp).1,(h4 p hp).2⟩,h5⟩
 |_=>exact fH.back s (fun _ z=>z) h
structure KS(X:Cx)(M:Ms)(m:Md)(ab:Addr->Prop)(s0:Option V)(H0:Hp)(d:Dn)(D:Ends):Prop where
 nx:∀A ε σ H,A.ab=ab->A.s0=s0->d.nx ε->SR X.K M A H0 σ H ε->D.nx σ H
 rt:∀w v H',d.rt w->az H0 H'->AW X.K ab s0 H0 H' m w v->D.rt v H'
 bk:∀A ε σ H,A.ab=ab->A.s0=s0->d.bk ε->SR X.K M A H0 σ H ε->D.bk σ H
 ct:∀A ε σ H,A.ab=ab->A.s0=s0->d.ct ε->SR X.K M A H0 σ H ε->D.ct σ H
noncomputable def sV(X:Cx)(M:Ms)(m:Md)(t:WS):TS:=fun D σ H=>∃A H0 ε d,SR X.K M A H0 σ H ε/\ER X H0 d.ex/\A.s0.isSome=kT m/\t d ε/\KS X M m A.ab A.s0 H0 d D
abbrev VS(X:Cx)(M:Ms)(m:Md)(st:Stmt)(t:WS):Prop:=PS X st (sV X M m t)
abbrev KG(X:Cx)(M:Ms)(m:Md)(st:List Stmt)(t:WS):Prop:=Af X st (sV X M m t)
theorem PS.imp{X:Cx}{e:Stmt}{t t':TS}(h:PS X e t)(k:∀D σ H,t' D σ H->t D σ H):PS X e t':=fun pins s σ H D I w=>h pins s σ H D I (k D σ H w)
theorem Af.imp{X:Cx}{e:List Stmt}{t t':TS}(h:Af X e t)(k:∀D σ H,t' D σ H->t D σ H):Af X e t':=fun pins s σ H D I w=>h pins s σ H D I (k D σ H w)
section
variable{X:Cx}{M M':Ms}{R:Addr->Prop}{m mr m0:Md}{st:Stmt}{rest:List Stmt}{t u:WS}{e e1 e2 c:Expr}{te t1 t2 tc:(Addr->Prop)->WT}{pos pos':Pos}{x:Str}{i:Nat}{π:List pH}
theorem KH:KG X M m [] (fun d ε=>d.nx ε):=Af.imp JL<|by rintro D σ H ⟨A,H0,ε,d,S,er,hz,h,k⟩;exact k.nx A ε σ H rfl rfl h S
theorem KI(h:VS X M m st t):KG X M m [st] t:=B9 h
theorem GW(h:VS X M m st t)(k:KG X M m rest u):KG X M m (st::rest) (fun d ε=>t {d with nx:=u d} ε):=
 Af.imp (dS h k)<|by rintro D σ H ⟨A,H0,ε,d,S,er,hz,h,k⟩;exact⟨A,H0,ε,{d with nx:=u d},S,er,hz,h,fun A' ε' σ' H' ea eb hn S'=>⟨A',H0,ε',d,S',er,(by rw[eb];exact hz),hn,by rw[ea,eb];exact k⟩,k.rt,k.bk,k.ct⟩
theorem Pc:VS X M m (.Break pos) (fun d ε=>d.bk ε):=PS.imp FY<|by rintro D σ H ⟨A,H0,ε,d,S,er,hz,h,k⟩;exact k.bk A ε σ H rfl rfl h S
theorem Pd{ts:List Nat}(hps:∀{tv:TE},PE X e tv->PS X st (qR tv (gT X.K false ts)))(hi:∀i∈ts,¬aS M i)(he:∀R,VE X M R .s e (te R)):
 VS X M m st (fun d ε=>te d.ex ε fun w=>match w with|.tup l=>l.length=ts.length/\d.nx (bD ε ts l)|_=>False):=by
 rintro pins s σ H D I ⟨A,H0,ε,d,S,er,hz,h,k⟩
 refine hps (he d.ex) pins s σ H D I ⟨A,H0,ε,_,S,er,h,fun w v H1 hw s1 r=>?_⟩
 cases w with
 |tup l=>exact tgt (P:=d.nx) hi (S.same s1) r.bO hw fun vs ε' hp S'=>k.nx A _ _ H1 rfl rfl hp S'
 |_=>exact hw.elim
theorem Pe{ts:List Nat}{es:List Expr}{ta:(Addr->Prop)->Ev->(List W->Prop)->Prop}(hps:∀{tv:TA},PA X es tv->PS X st (fun D σ H=>tv σ H fun vs H1=>vs.length=ts.length/\D.nx (cO σ ts vs) H1))(hi:∀i∈ts,¬aS M i)(he:∀R,VA X M R es (ta R)):
 VS X M m st (fun d ε=>ta d.ex ε fun ws=>ws.length=ts.length/\d.nx (bD ε ts ws)):=by
 rintro pins s σ H D I ⟨A,H0,ε,d,S,er,hz,h,k⟩
 refine hps (he d.ex) pins s σ H D I ⟨A,H0,ε,_,S,er,h,fun ws vs H1 hw s1 r=>?_⟩
 exact⟨by rw[aj.len r,hw.1],k.nx A _ _ H1 rfl rfl hw.2 (SR.bD ts ws vs hi (S.same s1) r hw.1)⟩
theorem vF{K:PySem.W.Frag}{A:Fz}{H0 H:Hp}{σ:St}{ε:Ev}{w:W}{l:List W}(S:SR K M A H0 σ H ε)(hm:(i,m0)∈M)(hp:mh m0 π=some .f)(hl:look ε i=some w)(hu:cW w π=some (.lst l)):
 ∃v p vs,σ[i]?=some (some v)/\xN K H v π (.ref p)/\H p=some (.lst vs)/\aj K A.B H l vs/\A.B p/\∀H1,az H H1->∀(oq:List W) (vs':List V),aj K A.B H1 oq vs'->
  ∃A',A'.ab=A.ab/\A'.s0=A.s0/\(∀q o,H1 q=some o->A'.B q->A.B q)/\xM A.B H1 (upd H1 p (.lst vs'))/\SR K M A' H0 σ (upd H1 p (.lst vs')) (ε.set i (some (setAt w π (.lst oq)))):=by
 obtain⟨F,O⟩:=S.ow
 obtain⟨v,h1,h2⟩:=O.val i m0 w hm hl
 obtain⟨v',F1,F',F2,eF,r,fp,back⟩:=Fp.path π m0 h2 hp hu
 rw[Fp]at fp
 obtain⟨ws,p,vs,e1,rfl,rfl,h3,h4⟩:=fp
 cases e1
 have Sa:p∈F i:=by rw[eF];simp
 have Xo:A.B p:=(O.all p).mpr (.inr ⟨i,⟨m0,hm⟩,Sa⟩)
 refine⟨v,p,vs,h1,r,h3,h4,Xo,fun H1 s oq vs' hr=>?_⟩
 have S1:=S.same s
 obtain⟨F0,O0⟩:=S1.ow
 have O1:R5 K M A H0 σ H1 ε F:=⟨O.un,fun i m w hm e=>let⟨v,h1,h2⟩:=O.val i m w hm e;⟨v,h1,Fp.mv s (fun _ _ _ z=>z) m h2⟩,O.emp,O.nd,O.ds,O.nw,O.na,O.all⟩
 have Zc:=s _ _ h3
 have cB:xM A.B H1 (upd H1 p (.lst vs')):=.put Zc rfl Xo
 have Xp:p∉F1++F2:=by
  have:=O.nd i ⟨m0,hm⟩
  rw[eF]at this
  intro z
  have h1:=de.mp this
  rcases Hb.mp z with z|z
  ·have h2:=de.mp h1.1
   exact h2.2.2 p z p (by simp) rfl
  ·exact h1.2.2 p (by simp) p z rfl
 have fp':Fp K A.B (upd H1 p (.lst vs')) m0 (setAt w π (.lst oq)) v (F1++[p]++F2):=by
  refine back (upd H1 p (.lst vs')) A.B (.lst oq) [p] ?_ (fun q o e=>?_) (fun q _ _ z=>z)
  ·rw[Fp]
   exact⟨oq,p,vs',rfl,rfl,rfl,aE,aj.chg cB (fun _ _ _ z=>z) oq hr⟩
  ·by_cases n:q=p
   ·subst n
    rw[h3]at e
    cases e
    exact .inl ⟨rfl,Xo,Xp⟩
   ·exact .inr (by rw[ao n];exact s _ _ e)
 rw[←eF]at fp'
 have hc:∀q o,H1 q=some o->(FE o=true/\q∈F i)\/upd H1 p (.lst vs') q=some o:=fun q o e=>by
  by_cases n:q=p
  ·subst n
   rw[Zc]at e
   cases e
   exact .inl ⟨rfl,Sa⟩
  ·exact .inr (by rw[ao n];exact e)
 have Xq:Fp K (fun q=>(A.B q/\q∉F i)\/q∈F i) (upd H1 p (.lst vs')) m0 (setAt w π (.lst oq)) v (F i):=Fp.mv (az.refl _) (fun q _ _ z=>by
  rcases z with z|z
  ·exact z.1
  ·exact(O.all q).mpr (.inr ⟨i,⟨m0,hm⟩,z⟩)) m0 fp'
 obtain⟨A',a1,a2,_,a3,a4,a5⟩:=O1.chg (F':=F i) S1 hm hl h1 hc (O.nd i ⟨m0,hm⟩) (fun q hq=>.inl hq) Xq
 exact⟨A',a1,a2,a3,cB,a5⟩
theorem AX{ε:Ev}{P:List W->Prop}(h:match look ε i with|some (.lst l)=>P l|_=>False):∃l,look ε i=some (.lst l)/\P l:=by
 cases hl:look ε i with
 |none=>rw[hl]at h;exact h.elim
 |some w0=>
  rw[hl]at h
  cases w0 with
  |lst l=>exact⟨l,rfl,h⟩
  |_=>exact h.elim
theorem Xr:mh m0 []=some m0:=by cases m0<;>rw[mh]
theorem Pf{w:W}:cW w []=some w:=by cases w<;>rw[cW]
theorem Pg{w u:W}:setAt w [] u=u:=by cases w<;>rw[setAt]
theorem Ph(hps:∀{tv:TE},PE X e tv->PS X st (FZ (YW X.K "list" Cg (kQ i) (MI tv Tv))))(hi:(i,.f)∈M)(he:∀R,VE X M R .s e (te R)):
 VS X M m st (fun d ε=>match look ε i with|some (.lst l)=>te d.ex ε fun w=>l.length<sizeLine/\d.nx (ε.set i (some (.lst (l++[w]))))|_=>False):=by
 rintro pins s σ H D I ⟨A,H0,ε,d,S,er,hz,h,k⟩
 obtain⟨l,e1,h⟩:=AX h
 obtain⟨v0,p,vs,h1,h2,h3,h4,hB,upd'⟩:=vF (π:=[]) S hi Xr e1 Pf
 cases h2
 refine hps (he d.ex) pins s σ H D I ⟨_,h1,.inl ⟨rfl,vs,.inl (.inl h3)⟩,A,H0,ε,_,S,er,h,fun w v H1 hw s1 r=>?_⟩
 obtain⟨A',a1,a2,_,_,S'⟩:=upd' H1 s1 (l++[w]) (vs++[v]) ((h4.same s1).app (.cons r.bO .nil))
 rw[Pg]at S'
 exact⟨p,vs,v,rfl,rfl,s1 _ _ h3,by rw[h4.len];exact hw.1,k.nx A' _ _ _ a1 a2 hw.2 S'⟩
theorem Pj(hps:∀{tv tk:TE},PE X e tv->PE X e1 tk->PS X st (qR tv (Td (kQ i) tk MJ)))(hi:(i,.f)∈M)(he:∀R,VE X M R .s e (te R))(hk:∀R,VE X M R .s e1 (t1 R)):
 VS X M m st (fun d ε=>te d.ex ε fun w=>match look ε i with|some (.lst l)=>(t1 d.ex ε fun x=>(match x with|.int j=>∃n,Ag l.length j=some n/\d.nx (ε.set i (some (.lst (l.set n w))))|_=>False))|_=>False):=by
 rintro pins s σ H D I ⟨A,H0,ε,d,S,er,hz,h,k⟩
 refine hps (he d.ex) (hk d.ex) pins s σ H D I ⟨A,H0,ε,_,S,er,h,fun w v H1 hw s1 r=>?_⟩
 obtain⟨l,e1,hw⟩:=AX hw
 obtain⟨v0,p,vs,h1,h2,h3,h4,hB,upd'⟩:=vF (π:=[]) S hi Xr e1 Pf
 cases h2
 refine⟨_,h1,A,H0,ε,_,S.same s1,er,hw,fun z vz H2 hz' s2 rz=>?_⟩
 cases z with
 |int j=>
  obtain⟨n,e,hz'⟩:=hz'
  have s12:=s1.trans s2
  obtain⟨A',a1,a2,_,_,S'⟩:=upd' H2 s12 (l.set n w) (vs.set n v) ((h4.same s12).set (r.bO.same s2))
  rw[Pg]at S'
  exact⟨p,vs,j,n,rfl,rz.bO.int_inv,s12 _ _ h3,by rw[h4.len];exact e,k.nx A' _ _ _ a1 a2 hz' S'⟩
 |_=>exact hz'.elim
theorem GX(he:∀R,VE X [] R mr e (te R))(hm:mr=m\/m=.s)(ho:kT m=false):VS X M m (.Return (some e) pos) (fun d ε=>te d.ex ε d.rt):=by
 rintro pins s σ H D I ⟨A,H0,ε,d,S,er,hz,h,k⟩
 refine vd (he d.ex) pins s σ H D I ⟨_,H0,ε,_,S.go,er,h,fun w v H1 hw s1 r=>?_⟩
 rcases hm with rfl|rfl
 ·exact k.rt w v H1 hw (S.sm.trans s1) (.of ho (r.back S.sm fun _ z=>z))
 ·exact k.rt w v H1 hw (S.sm.trans s1) (.of ho ((r.s S.dm).back S.sm fun _ z=>z))
theorem KJ(he:PE X e (kQ i))(hi:(i,m)∈M)(ho:kT m=false):VS X M m (.Return (some e) pos) (fun d ε=>match look ε i with|some w=>d.rt w|none=>False):=by
 rintro pins s σ H D I ⟨A,H0,ε,d,S,er,hz,h,k⟩
 try dsimp only at h
 cases hl:look ε i with
 |none=>rw[hl]at h;exact h.elim
 |some w=>
  rw[hl]at h
  obtain⟨F,O⟩:=S.ow
  obtain⟨v,h1,h2⟩:=O.val i m w hi hl
  refine vd he pins s σ H D I ⟨_,h1,k.rt _ _ H h S.sm (.of ho ⟨F i,O.nd i ⟨m,hi⟩,fun p hp=>O.nw i p ⟨m,hi⟩ hp,Fp.mv (az.refl _) (fun q _ _ z=>?_) m h2⟩)⟩
  rcases z with z|z
  ·exact(O.all q).mpr (.inl z)
  ·exact(O.all q).mpr (.inr ⟨i,⟨m,hi⟩,z⟩)
theorem vG{K:PySem.W.Frag}{A:Fz}{H0 H:Hp}{σ:St}{ε:Ev}{wr w0:W}{v:V}(S:SR K M A H0 σ H ε)(h0:(0,m0)∈M)(hl:look ε 0=some w0)(hs:∃v0,A.s0=some v0)(r:Rep K A.B H wr v):AW K A.ab A.s0 H0 H (.io m0) (.tup [wr,w0]) v:=by
 obtain⟨v0,hs⟩:=hs
 obtain⟨F,O⟩:=S.ow
 obtain⟨u,h1,h2⟩:=O.val 0 m0 w0 h0 hl
 rw[(S.sl v0 hs).1]at h1
 cases h1
 have hb:∀p,(A.ab p\/p∈F 0)->A.B p:=fun p z=>(O.all p).mpr (z.imp id fun z=>⟨0,⟨m0,h0⟩,z⟩)
 exact⟨wr,w0,v0,F 0,rfl,hs,O.nd 0 ⟨m0,h0⟩,fun p hp=>⟨O.nw 0 p ⟨m0,h0⟩ hp,O.na 0 p ⟨m0,h0⟩ hp⟩,Fp.mv (az.refl _) (fun p _ _ z=>hb p z) m0 h2,r.less hb⟩
theorem UB{a b:List Stmt}(hc:∀R,VT X M R c (tc R))(ha:KG X M m a t)(hb:KG X M m b u):VS X M m (.If c a b pos) (fun d ε=>tc d.ex ε fun x=>truth x fun k=>if k=true then t d ε else u d ε):=by
 rintro pins s σ H D I ⟨A,H0,ε,d,S,er,hz,h,k⟩
 refine S7 (hc d.ex) ha hb pins s σ H D I ⟨A,H0,ε,_,S,er,h,fun x H1 hx s1=>?_⟩
 obtain⟨q,rfl,hx⟩:=cC hx
 refine⟨q,rfl,?_⟩
 cases q with
 |true=>exact⟨A,H0,ε,d,S.same s1,er,hz,hx,k⟩
 |false=>exact⟨A,H0,ε,d,S.same s1,er,hz,hx,k⟩
end
theorem GY{X:Cx}{st:Stmt}{t:TS}(h:PS X.tK st t):PS X st t:=PS.tK h
section
variable{X:Cx}{M:Ms}{m:Md}{body:List Stmt}{tb:WS}{c iter tg:Expr}{tc:WT}{ti:(Addr->Prop)->WT}{pos:Pos}{one:Bool}{ts:List Nat}
theorem Pk(hc:VT X.tK M (fun _=>False) c tc)(hb:KG X.tK M m body tb):VS X M m (.While c body [] pos) (fun d ε=>OI (fun ε Q=>tc ε fun x=>truth x Q) tb d ε):=by
 refine PS.imp (GY (F4 PassesOwn.never hc hb)) ?_
 rintro D σ H ⟨A,H0,ε,d,S,er,hz,h,k⟩
 obtain⟨J,⟨m0,j0⟩,turn⟩:=h
 refine⟨fun n σ' H'=>∃A' ε',A'.ab=A.ab/\A'.s0=A.s0/\J n ε'/\SR X.K M A' H0 σ' H' ε',⟨m0,A,ε,rfl,rfl,j0,S⟩,?_⟩
 rintro n σ1 H1 ⟨A1,gX,ea,eb,j1,S1⟩
 refine⟨A1,H0,gX,_,S1,.none,turn n gX j1,fun x H2 hx s2=>?_⟩
 obtain⟨q,rfl,hx⟩:=cC hx
 refine⟨q,rfl,?_⟩
 cases q with
 |true=>
  obtain⟨N,hN,hx⟩:=hx
  refine⟨fun σ' H'=>∃A' ε',A'.ab=A.ab/\A'.s0=A.s0/\N ε'/\SR X.K M A' H0 σ' H' ε',fun σ' H' ⟨A',ε',a1,a2,q1,q2⟩=>?_,A1,H0,gX,_,S1.same s2,.none,(by rw[eb];exact hz),hx,⟨fun A' ε' σ' H' a1 a2 q1 q2=>⟨A',ε',a1.trans ea,a2.trans eb,q1,q2⟩,by rw[ea,eb];exact k.rt,fun A' ε' σ' H' a1 a2 q1 q2=>k.nx A' ε' σ' H' (a1.trans ea) (a2.trans eb) q1 q2,fun A' ε' σ' H' a1 a2 q1 q2=>⟨A',ε',a1.trans ea,a2.trans eb,q1,q2⟩⟩⟩
  obtain⟨m',l,j'⟩:=hN ε' q1
  exact⟨m',l,A',ε',a1,a2,j',q2⟩
 |false=>exact k.nx A1 _ _ H2 ea eb hx (S1.same s2)
theorem Pn(hc:X.calm=true)(hM:∀i∈ts,¬aS M i)(hi:PI X.tK tg iter (GU X.tK M (fun _=>False) false (ti fun _=>False)))(hg:PG X.tK tg (gT X.K one ts))(hb:KG X.tK M m body tb)(hs:∀x,foldedSetIterable iter X.env x=pure x):
 VS X M m (.For tg iter body [] pos) (fun d ε=>ti (fun _=>False) ε fun z=>items z fun ws=>qj (fun w D' ε'=>wT one ts w ε' fun qk=>tb D' qk) d ws ε):=by
 refine PS.imp (GY (N3 PassesOwn.never hc hi hg hb hs)) ?_
 rintro D σ H ⟨A,H0,ε,d,S,er,hz,h,k⟩
 refine⟨A,H0,ε,_,S,.none,h,fun z hz'=>?_⟩
 obtain⟨ws,ez,hw⟩:=uA.mp hz'
 refine⟨ws,ez,fun J H1 s1 it=>?_⟩
 have S1:=S.same s1
 obtain⟨Hs,Ss,b0,b1,b2⟩:=S1.rb
 have low:EJ X.K false A.ab Hs J ws:=it.low (fun p o e=>b2 p o e) fun p z=>S.sub' p z
 have iw:=low.iw
 refine⟨fun i n σ' H'=>n=ws.length -i/\i<=ws.length/\∃A' ε',A'.ab=A.ab/\A'.s0=A.s0/\SR X.K M A' Hs σ' H' ε'/\qj (fun w D' ε'=>wT one ts w ε' fun qk=>tb D' qk) d (ws.drop i) ε',⟨ws.length,rfl,KM _,A,ε,rfl,rfl,Ss,hw⟩,?_⟩
 have up:∀{A':Fz} {σ':St} {H':Hp} {ε':Ev},SR X.K M A' Hs σ' H' ε'->SR X.K M A' H0 σ' H' ε':=fun{A' σ' H' ε'} q=>by
  obtain⟨F,O⟩:=q.ow
  exact⟨q.len,q.sh,b0.trans q.sm,q.dm,q.sl,F,⟨O.un,O.val,O.emp,O.nd,O.ds,fun i p hi e=>b0.free (O.nw i p hi e),O.na,O.all⟩⟩
 rintro i n σ2 H2 ⟨rfl,hi2,A2,jJ,ea,eb,S2,Cq⟩
 by_cases hlt:i<ws.length
 ·refine .inr ⟨iw.go i H2 S2.sm hlt,fun σ' H'=>∃A' ε',A'.ab=A.ab/\A'.s0=A.s0/\SR X.K M A' Hs σ' H' ε'/\qj (fun w D' ε'=>wT one ts w ε' fun qk=>tb D' qk) d (ws.drop (i+1)) ε',by rintro σ' H' ⟨A',ε',a1,a2,q1,q2⟩;exact⟨ws.length -(i+1),by omega,rfl,hlt,A',ε',a1,a2,q1,q2⟩,fun x H3 y=>?_⟩
  have hwi:ws[i]?=some ws[i]:=BM hlt
  rw[List.drop_eq_getElem_cons hlt,qj]at Cq
  generalize ws[i]=w at*
  obtain⟨s3,hrep⟩:=iw.yl i H2 x H3 w S2.sm hwi y
  have hr:Rep X.K (FB A2 M σ2) H3 w x:=hrep _ fun p o e z=>by
   obtain⟨F,O⟩:=S2.ow
   rcases(O.all p).mp z with z|⟨j,hj,e2⟩
   ·rw[ea]at z
    exact z
   ·rw[O.nw j p hj e2]at e
    cases e
  refine tgt hM (S2.same s3) hr Cq fun vs ε' hp S4=>?_
  exact⟨A2,Hs,ε',_,S4,.none,(by rw[eb];exact hz),hp,⟨fun A' qk UC Zd a1 a2 q1 q2=>⟨A',qk,a1.trans ea,a2.trans eb,q2,q1⟩,fun w' v' H' q1 q2 q3=>k.rt w' v' H' q1 (b0.trans q2) (by rw[ea,eb]at q3;exact q3.back b0),fun A' qk UC Zd a1 a2 q1 q2=>k.nx A' _ _ _ (a1.trans ea) (a2.trans eb) q1 (up q2),fun A' qk UC Zd a1 a2 q1 q2=>⟨A',qk,a1.trans ea,a2.trans eb,q2,q1⟩⟩⟩
 ·have e:i=ws.length:=by omega
  subst e
  refine .inl ⟨iw.st _ H2 S2.sm rfl,?_⟩
  rw[List.drop_length,qj]at Cq
  exact k.nx A2 _ _ _ ea eb Cq (up S2)
end
structure Go(A:Fz)(H:Hp)(A':Fz)(H':Hp):Prop where
 ab:A'.ab=A.ab
 s0:A'.s0=A.s0
 B:∀p o,H p=some o->A'.B p->A.B p
 ch:xM A.B H H'
theorem Go.same{A:Fz}{H H':Hp}(s:az H H'):Go A H A H':=⟨rfl,rfl,fun _ _ _ z=>z,.same s⟩
theorem Go.trans{A A1 A2:Fz}{H H1 H2:Hp}(g:Go A H A1 H1)(k:Go A1 H1 A2 H2):Go A H A2 H2:=by
 refine⟨k.ab.trans g.ab,k.s0.trans g.s0,fun p o e z=>?_,fun p o e=>?_⟩
 ·rcases g.ch p o e with⟨_,y⟩|y
  ·exact y
  ·exact g.B p o e (k.B p o y z)
 ·rcases g.ch p o e with y|y
  ·exact .inl y
  ·rcases k.ch p o y with⟨h1,h2⟩|h
   ·exact .inl ⟨h1,g.B p o e h2⟩
   ·exact .inr h
theorem Go.rep{K:PySem.W.Frag}{A A1:Fz}{H H1:Hp}{w:W}{v:V}(g:Go A H A1 H1)(h:Rep K A.B H w v):Rep K A1.B H1 w v:=Rep.chg g.ch g.B w h
abbrev Po:=Ev->(W->Ev->Prop)->Prop
abbrev UD:=Ev->(List W->Ev->Prop)->Prop
noncomputable def tP(X:Cx)(M:Ms)(R:Addr->Prop)(t:Po):TE:=fun σ H Q=>∃A H0 ε P,SR X.K M A H0 σ H ε/\ER X H0 R/\t ε P/\∀A' w v H' ε',P w ε'->Go A H A' H'->SR X.K M A' H0 σ H' ε'->Rep X.K A'.B H' w v->Q v H'
noncomputable def tPA(X:Cx)(M:Ms)(R:Addr->Prop)(t:UD):TA:=fun σ H Q=>∃A H0 ε P,SR X.K M A H0 σ H ε/\ER X H0 R/\t ε P/\∀A' ws vs H' ε',P ws ε'->Go A H A' H'->SR X.K M A' H0 σ H' ε'->aj X.K A'.B H' ws vs->Q vs H'
abbrev VP(X:Cx)(M:Ms)(R:Addr->Prop)(e:Expr)(t:Po):Prop:=PE X e (tP X M R t)
abbrev Pp(X:Cx)(M:Ms)(R:Addr->Prop)(es:List Expr)(t:UD):Prop:=PA X es (tPA X M R t)
section
variable{X:Cx}{M:Ms}{R:Addr->Prop}{m m0:Md}{e a b c:Expr}{es rest:List Expr}{t ta tb:Po}{tl:UD}{pos apos cpos p:Pos}{i j:Nat}{st:Stmt}{x:Str}{π:List pH}
theorem UE{t:WT}(h:VE X M R .s e t):VP X M R e (fun ε Q=>t ε fun w=>Q w ε):=PE.imp h<|by rintro σ H Q ⟨A,H0,ε,P,S,er,h,k⟩;exact⟨A,H0,ε,_,S,er,h,fun w v H' hw s r=>k A w v H' ε hw (.same s) (S.same s) r.bO⟩
theorem Pq(hi:(i,.f)∈M)(hv:PE X e (kQ i))(hbase:attributeBase e "pop" X.env (eval e X.env)=eval e X.env)(hline:(apos.endLine==cpos.line)=true):
 VP X M R (.Call (.Attribute e "pop" apos) [] [] cpos) (fun ε Q=>match look ε i with|some (.lst l)=>∃w,l[l.length -1]?=some w/\Q w (ε.set i (some (.lst l.dropLast)))|_=>False):=
 PE.imp (Gi PySem.F.plainAttrs_list PySem.F.slot_list_pop PySem.F.type_list_pop Oj hv hbase hline)<|by
  rintro σ H Q ⟨A,H0,ε,P,S,er,h,k⟩
  obtain⟨l,e1,w,e2,h⟩:=AX h
  obtain⟨v0,q,vs,h1,h2,h3,h4,hB,upd'⟩:=vF (π:=[]) S hi Xr e1 Pf
  cases h2
  obtain⟨v,e3,hr⟩:=h4.get e2
  obtain⟨A',a1,a2,a3,a4,S'⟩:=upd' H (az.refl H) l.dropLast vs.dropLast h4.dropLast
  rw[Pg]at S'
  have g:Go A H A' (upd H q (.lst vs.dropLast)):=⟨a1,a2,a3,a4⟩
  exact⟨_,h1,.inl ⟨rfl,vs,.inl (.inl h3)⟩,q,vs,v,rfl,rfl,h3,by rw[h4.len];exact e3,k A' w v _ _ h g S' (g.rep hr)⟩
theorem Pr{op:Operator}(ha:VP X M R a ta)(hb:VP X M R b tb):VP X M R (.BinOp a op b pos) (fun ε Q=>ta ε fun x gX=>tb gX fun y jJ=>gE op x y fun z=>Q z jJ):=by
 rintro pins s σ H Q I ⟨A,H0,ε,P,S,er,p,k⟩
 refine wpAny_BinOp (bin ha hb I (R:=fun vx vy H2=>∃x y A2 jJ,gE op x y (fun z=>P z jJ)/\Go A H A2 H2/\SR X.K M A2 H0 σ H2 jJ/\Rep X.K A2.B H2 x vx/\Rep X.K A2.B H2 y vy) ⟨A,H0,ε,_,S,er,p,fun A1 x vx H1 gX hx g1 S1 rx=>⟨A1,H0,gX,_,S1,er,hx,fun A2 y vy H2 jJ hy g2 S2 ry=>⟨x,y,A2,jJ,hy,g1.trans g2,S2,g2.rep rx,ry⟩⟩⟩ ?_)
 rintro v u s2 vx vy H2 I2 rv ru ⟨x,y,A2,jJ,h,g,S2,hx,hy⟩
 exact AQ op pins s2 σ H2 A2.B x y vx vy v u _ Q I2 S2.dom rv ru hx.b hy.b h fun w z H' pw s' r=>k A2 w z H' jJ pw (g.trans (.same s')) (S2.same s') (r.rep S2.dom)
theorem Pu{op:CmpOp}(hu:X.A.units+64<cLine)(hm:behindInMarks op b=false)(ha:VP X M R a ta)(hb:VP X M R b tb):VP X M R (.Compare a [op] [b] pos) (fun ε Q=>ta ε fun x gX=>tb gX fun y jJ=>gg op x y fun z=>Q z jJ):=by
 rintro pins s σ H Q I ⟨A,H0,ε,P,S,er,p,k⟩
 refine wpAny_Compare1 (bin ha hb I (R:=fun vx vy H2=>∃x y A2 jJ,gg op x y (fun z=>P z jJ)/\Go A H A2 H2/\SR X.K M A2 H0 σ H2 jJ/\Rep X.K A2.B H2 x vx/\Rep X.K A2.B H2 y vy) ⟨A,H0,ε,_,S,er,p,fun A1 x vx H1 gX hx g1 S1 rx=>⟨A1,H0,gX,_,S1,er,hx,fun A2 y vy H2 jJ hy g2 S2 ry=>⟨x,y,A2,jJ,hy,g1.trans g2,S2,g2.rep rx,ry⟩⟩⟩ ?_) hm
 rintro v u s2 vx vy H2 I2 rv ru ⟨x,y,A2,jJ,h,g,S2,hx,hy⟩
 exact AR hu op pins s2 σ H2 A2.B x y vx vy v u _ Q I2 S2.dom rv ru hx.b hy.b h fun w z H' pw s' r=>k A2 w z H' jJ pw (g.trans (.same s')) (S2.same s') (r.rep S2.dom)
theorem KL:Pp X M R [] (fun ε Q=>Q [] ε):=PA.imp gc<|by rintro σ H Q ⟨A,H0,ε,P,S,er,h,k⟩;exact k A [] [] H ε h (.same (az.refl H)) S .nil
theorem GZ(hs:starEach (a::es) X.env=(false,eval a X.env)::starEach es X.env)(ha:VP X M R a ta)(hr:Pp X M R es tl):Pp X M R (a::es) (fun ε Q=>ta ε fun x gX=>tl gX fun xs jJ=>Q (x::xs) jJ):=
 PA.imp (bV ha hr hs)<|by
  rintro σ H Q ⟨A,H0,ε,P,S,er,h,k⟩
  refine⟨A,H0,ε,_,S,er,h,fun A1 x vx H1 gX hx g1 S1 rx=>⟨A1,H0,gX,_,S1,er,hx,fun A2 xs vs H2 jJ hxs g2 S2 rs=>?_⟩⟩
  exact k A2 _ _ H2 jJ hxs (g1.trans g2) S2 (.cons (g2.rep rx) rs)
theorem UG(hs:mY b)(ha:VP X M R a ta)(hb:VP X M R b tb):VP X M R (.Subscript a b pos) (fun ε Q=>ta ε fun x gX=>tb gX fun y jJ=>OH x y fun z=>Q z jJ):=PE.imp (Gg AG ha hb hs)<|by
 rintro σ H Q ⟨A,H0,ε,P,S,er,h,k⟩
 refine⟨A,H0,ε,_,S,er,h,fun A1 x vx H1 gX hx g1 S1 rx=>⟨A1,H0,gX,_,S1,er,hx,fun A2 y vy H2 jJ hy g2 S2 ry=>?_⟩⟩
 have rx:=(g2.rep rx).b
 cases x with
 |lst l=>
  cases y with
  |int i=>
   obtain⟨p,vs,rfl,h1,h2⟩:=rx.lst
   obtain⟨w,e,hy⟩:=hy
   obtain⟨v,e2,h3⟩:=Cn h2 e
   exact .inl ⟨p,vs,i,v,rfl,ry.int_inv,.inl h1,e2,k A2 _ _ H2 jJ hy (g1.trans g2) S2 h3⟩
  |_=>exact hy.elim
 |tup l=>
  cases y with
  |int i=>
   obtain⟨p,vs,rfl,h1,h2⟩:=rx.tup
   obtain⟨w,e,hy⟩:=hy
   obtain⟨v,e2,h3⟩:=Cn h2 e
   exact .inr (.inl ⟨p,vs,i,v,rfl,ry.int_inv,h1,e2,k A2 _ _ H2 jJ hy (g1.trans g2) S2 h3⟩)
  |_=>exact hy.elim
 |iJ ns=>
  cases y with
  |int i=>
   obtain⟨p,rfl,h1⟩:=rx.iJ
   obtain⟨n,e,hy⟩:=hy
   exact .inl ⟨p,_,i,_,rfl,ry.int_inv,h1,Co e,k A2 _ _ H2 jJ hy (g1.trans g2) S2 (jh _)⟩
  |_=>exact hy.elim
 |_=>exact hy.elim
theorem aj.bl{K:PySem.W.Frag}{B:Addr->Prop}{H:Hp}:∀{ws:List W} {vs:List V},aj K B H ws vs->rE K B H ws vs
 |[],_,h=>h.nil_inv
 |w::ws,_,h=>by
  obtain⟨v,r,rfl,h1,h2⟩:=h.cons_inv
  exact⟨v,r,rfl,h1.b,h2.bl⟩
theorem Pw{bi:BI}{id:String}(hc:gj X (.builtin id) (R9 X.K bi))(hg:Gl X x)(hm:X.mg x=none)(hv:bootBuiltins x=some (.builtin id))(ha:Pp X M R (e::es) tl)(hn:x≠"__name__")(hdb:(x==("__debug__":Str))=false)
 (he:starEach (e::es) X.env=(false,eval e X.env)::starEach es X.env) (hpl:(backTo pos (starEach es X.env)).any (·.1)=false):VP X M R (.Call (.Name x p) (e::es) [] pos) (fun ε Q=>tl ε fun ws ε'=>vo bi ws fun w=>Q w ε'):=
 PE.imp (xV hc hg hm hv ha hn hdb he hpl)<|by rintro σ H Q ⟨A,H0,ε,P,S,er,h,k⟩;exact⟨A,H0,ε,_,S,er,h,fun A1 ws vs H1 gX hw g1 S1 rs=>⟨A1.B,ws,fun w=>P w gX,S1.dom,rs.bl,hw,fun w v H' pw s' r=>k A1 w v H' gX pw (g1.trans (.same s')) (S1.same s') (r.rep S1.dom)⟩⟩
theorem KN(hps:∀{tv:TE},PE X e tv->PS X st (qR tv (jy j)))(hj:¬aS M j){tt:(Addr->Prop)->Po}(he:∀R,VP X M R e (tt R)):VS X M m st (fun d ε=>tt d.ex ε fun w ε'=>d.nx (ε'.set j (some w))):=by
 rintro pins s σ H D I ⟨A,H0,ε,d,S,er,hz,h,k⟩
 exact hps (he d.ex) pins s σ H D I ⟨A,H0,ε,_,S,er,h,fun A1 w v H1 ε' hw g S1 r=>k.nx A1 _ _ H1 g.ab g.s0 hw (S1.set hj r)⟩
theorem Cr{tt:(Addr->Prop)->Po}(hps:∀R,PS X st (FZ (tP X M R (tt R)))):VS X M m st (fun d ε=>tt d.ex ε fun w ε'=>d.nx ε'):=by
 rintro pins s σ H D I ⟨A,H0,ε,d,S,er,hz,h,k⟩
 exact hps d.ex pins s σ H D I ⟨A,H0,ε,_,S,er,h,fun A1 w v H1 ε' hw g S1 r=>k.nx A1 _ _ H1 g.ab g.s0 hw S1⟩
theorem Px{te:(Addr->Prop)->WT}(he:∀R,VE X M R .s e (te R))(h0:(0,m0)∈M):VS X M (.io m0) (.Return (some e) pos) (fun d ε=>te d.ex ε fun w=>match look ε 0 with|some w0=>(d.rt (.tup [w,w0]))|none=>False):=by
 rintro pins s σ H D I ⟨A,H0,ε,d,S,er,hz,h,k⟩
 refine vd (he d.ex) pins s σ H D I ⟨A,H0,ε,_,S,er,h,fun w v H1 hw s1 r=>?_⟩
 cases hl:look ε 0 with
 |none=>rw[hl]at hw;exact hw.elim
 |some w0=>
  rw[hl]at hw
  exact k.rt _ v H1 hw (S.sm.trans s1) (vG (S.same s1) h0 hl (bj.mp hz) r.bO)
theorem Py(h0:(0,m0)∈M):VS X M (.io m0) (.Return none pos) (fun d ε=>match look ε 0 with|some w0=>(d.rt (.tup [.aX,w0]))|none=>False):=by
 rintro pins s σ H D I ⟨A,H0,ε,d,S,er,hz,h,k⟩
 try dsimp only at h
 cases hl:look ε 0 with
 |none=>rw[hl]at h;exact h.elim
 |some w0=>
  rw[hl]at h
  exact Ca pins s σ H D I (k.rt _ _ H h S.sm (vG S h0 hl (bj.mp hz) Uo))
end
section
variable{X:Cx}{M:Ms}{R:Addr->Prop}{m m0:Md}{e o a b c:Expr}{es rest:List Expr}{t ta tb:Po}{tl:UD}{pos apos cpos p:Pos}{i j n:Nat}{st:Stmt}{x:Str}{π:List pH}
theorem KO{k n:Nat}{fv:Value}{sp:bN}(F:eV X.prog X.w X.K X.mg X.base k fv n (MS X.K n m sp))(hr:dU k X.A)(hg:Gl X x)(hm:X.mg x=some fv)
 (hn:∀ws P R,sp ws P R->ws.length=n) (ha:Pp X M R (e::es) tl) (hdb:(x==("__debug__":Str))=false) (he:starEach (e::es) X.env=(false,eval e X.env)::starEach es X.env) (hpl:(backTo pos (starEach es X.env)).any (·.1)=false):
 VP X M R (.Call (.Name x p) (e::es) [] pos) (fun ε Q=>tl ε fun ws ε'=>sp ws (fun w=>Q w ε') R):=by
 rintro pins s σ H Q I ⟨A,H0,ε,P,S,er,h,kk⟩
 obtain⟨E,pE,hE,hR⟩:=er
 refine wpAny_Call_Name_kw (u7 I hg hm ?_ hdb)
 refine PySem.W.callWith_K (h₀:=X.base) I.ok.mod.SM F.keep (bT (ha pos pins s σ H (fun vs H1=>∃ws A1 gX,Go A H A1 H1/\SR X.K M A1 H0 σ H1 gX/\aj X.K A1.B H1 ws vs/\sp ws (fun w=>P w gX) R) I ⟨A,H0,ε,_,S,⟨E,pE,hE,hR⟩,h,fun A1 ws vs H1 gX hw g1 S1 rs=>⟨ws,A1,gX,g1,S1,rs,hw⟩⟩) fun us s1 ⟨vs,H1,I1,r,ws,A1,gX,g1,S1,rs,AF⟩=>⟨I1.B7,?_⟩) he hpl
 exact F.run hr pE I1 r ⟨A1.B,ws,_,R,hn _ _ _ AF,rs,S1.dom,AF,fun w v H' pw s' r'=>kk A1 w v H' gX pw (g1.trans (.same s')) (S1.same s') (r'.rep S1.dom),fun C H' rc s'=>hE C H' rc (S1.sm.trans s')⟩
theorem MT{K:PySem.W.Frag}{A:Fz}{H0 H:Hp}{σ:St}{ε:Ev}{w0:W}{sp:bN}{ws:List W}{vs:List V}{P:W->Ev->Prop}{Q:VK}{E:XK}{v0:V}(S:SR K M A H0 σ H ε)(hi:(i,m0)∈M)(hl:look ε i=some w0)(hv:σ[i]?=some (some v0))(rs:aj K A.B H ws vs)(hn:ws.length+1=n)
 (h:sp (w0::ws) (fun r=>∃w y,r=.tup [w,y]/\P w (ε.set i (some y))) R) (hE:∀C H',R C->az H0 H'->E (.ref C) none H') (kk:∀A' w v H' ε',P w ε'->Go A H A' H'->SR K M A' H0 σ H' ε'->Rep K A'.B H' w v->Q v H'):Uy K n m0 sp (v0::vs) H Q E:=by
 obtain⟨F,O⟩:=S.ow
 obtain⟨v,h1,h2⟩:=O.val i m0 w0 hi hl
 rw[hv]at h1
 cases h1
 have hh:aS M i:=⟨m0,hi⟩
 have eB:∀p,((A.B p/\p∉F i)\/p∈F i)->A.B p:=fun p z=>by
  rcases z with z|z
  ·exact z.1
  ·exact(O.all p).mpr (.inr ⟨i,hh,z⟩)
 refine⟨fun p=>A.B p/\p∉F i,F i,w0,v0,ws,vs,_,R,rfl,hn,O.nd i hh,fun p hp z=>z.2 hp,fun p z=>S.dom p z.1,Fp.mv (az.refl _) (fun p _ _ z=>eB p z) m0 h2,rs.less eB,h,fun w y v F' H' hw hc nd nw fp rw'=>?_,fun C H' rc hc=>hE C H' rc fun p o e=>?_⟩
 ·obtain⟨w',y',e,hw⟩:=hw
  cases e
  obtain⟨A',a1,a2,aB,a3,a4,S'⟩:=O.chg (F':=F') S hi hl hv (fun p o e=>(hc p o e).imp (fun z=>⟨z.1,z.2⟩) id) nd nw fp
  exact kk A' w v H' _ hw ⟨a1,a2,a3,a4⟩ S' (rw'.less fun p z=>(aB p).mp z)
 ·rcases hc p o (S.sm p o e)with⟨_,z⟩|z
  ·rw[O.nw i p hh z]at e
   cases e
  ·exact z
theorem Pz{pl:Sem Bool}{G:W}{k n:Nat}{f:Addr}{fd:FuncData}{ps fs:List Str}{ms:List Md}{sp:bN}(hG:∀C,G=.cls C->Meth X.K C x f)(F:aH X.prog X.w X.K X.mg X.base (cL X.prog X.w) k f fd ps (Uy X.K n (.o fs ms) sp))(hr:dU k X.A)(hb:Binds X.K fd ps [])(hi:(i,.o fs ms)∈M)(hx:fs.contains x=false)
 (hn:∀ws P R,sp ws P R->ws.length=n) (hv:PE X o (kQ i)) (ha:Pp X M R (e::es) tl) (hst:starEach (e::es) X.env=(false,eval e X.env)::starEach es X.env) (hpl:(backTo pos (starEach es X.env)).any (·.1)=false)
 (ht:eval (.Call (.Attribute o x apos) (e::es) [] pos) X.env=(do
   let ov←eval o X.env
   standAt apos.atName
   let(f,first)←holding [ov] (getMethod ov x pl)
   callWith pos f first (backTo pos (starEach (e::es) X.env)) (backToKw pos (keywordEach [] X.env)))):
 VP X M R (.Call (.Attribute o x apos) (e::es) [] pos) (fun ε Q=>match look ε i with|some (.obj C _ _)=>G=.cls C/\(tl ε fun ws ε'=>match look ε' i with|some w0=>sp (w0::ws) (fun r=>∃w y,r=.tup [w,y]/\Q w (ε'.set i (some y))) R|none=>False)|_=>False):=by
 rintro pins s σ H Q I ⟨A,H0,ε,P,S,er,h,kk⟩
 obtain⟨E,pE,hE,hR⟩:=er
 try dsimp only at h
 cases hl:look ε i with
 |none=>rw[hl]at h;exact h.elim
 |some w1=>
  rw[hl]at h
  cases w1 with
  |obj C fs' ws1=>
   obtain⟨hg,h⟩:=h
   obtain⟨F0,O0⟩:=S.ow
   obtain⟨v0,hv0,UH⟩:=O0.val i _ _ hi hl
   rw[Fp]at UH
   obtain⟨C',dx,oq,q,VZ,F',e1,rfl,e3,h1,h2,hc,_⟩:=UH
   cases e1
   have lk:(fs.zip VZ).lookup x=none:=by
    have:∀(l:List Str) (r:List V),l.contains x=false->(l.zip r).lookup x=none:=fun l=>by
     induction l with
     |nil=>intro r _;rfl
     |cons y l ih=>
      intro r hx
      cases r with
      |nil=>rfl
      |cons z r=>
       rw[List.contains_cons,Bool.or_eq_false_iff]at hx
       rw[List.zip_cons_cons,List.lookup_cons,hx.1]
       exact ih r hx.2
    exact this fs VZ hx
   have mt:=hG C hg
   refine PySem.W.methodCall_KW (pl:=pl) (bT (hv pins s σ H (fun v' H'=>v'=V.ref q/\H'=H) I ⟨_,hv0,rfl,rfl⟩) fun u s1 ⟨x1,H1,I1,rx,ex,eh⟩=>?_) ht
   subst ex
   subst eh
   obtain rfl:u=Value.ref q:=rx
   refine qT I1 h1 hc.1 mt lk ?_
   refine PySem.W.callWith_K (first:=[.ref q]) (h₀:=X.base) I.ok.mod.SM mt.kp (bT (ha pos pins s1 σ H1 (fun vs' Xs=>∃ws A1 gX w0,Go A H1 A1 Xs/\SR X.K M A1 H0 σ Xs gX/\aj X.K A1.B Xs ws vs'/\look gX i=some w0/\sp (w0::ws) (fun r=>∃w y,r=.tup [w,y]/\P w (gX.set i (some y))) R) I1 ⟨A,H0,ε,_,S,⟨E,pE,hE,hR⟩,h,fun A1 ws vs H1 gX hw g1 S1 rs=>?_⟩) fun us s2 ⟨vs,H2,I2,r,ws,A1,gX,w0,g1,S1,rs,hl1,AF⟩=>⟨I2.B7,?_⟩) hst hpl
   ·try dsimp only at hw
    cases hl1:look gX i with
    |none=>rw[hl1]at hw;exact hw.elim
    |some w0=>
     rw[hl1]at hw
     exact⟨ws,A1,gX,w0,g1,S1,rs,hl1,hw⟩
   ·refine AE (us:=.ref q::us) (vs:=.ref q::vs) (ds:=[]) (Gd:=[]) F hr hb .nil pE I2 (.cons rfl r) ?_
    rw[KF]
    exact MT S1 hi hl1 hv0 rs (by have:=hn _ _ _ AF;simpa using this) AF hE fun A' w v H' ε' hw g S' rr=>kk A' w v H' ε' hw (g1.trans g) S' rr
  |_=>exact h.elim
end
theorem PB{x:Str}:∀(l:List Str) (r:List V),l.contains x=false->(l.zip r).lookup x=none:=fun l=>by
 induction l with
 |nil=>intro r _;rfl
 |cons y l ih=>
  intro r hx
  cases r with
  |nil=>rfl
  |cons z r=>
   rw[List.contains_cons,Bool.or_eq_false_iff]at hx
   rw[List.zip_cons_cons,List.lookup_cons,hx.1]
   exact ih r hx.2
theorem PC{x:Str}{n:Nat}{v:V}:∀(l:List Str) (r:List V) (n:Nat),l.Nodup->l[n]?=some x->r[n]?=some v->(l.zip r).lookup x=some v:=fun l=>by
 induction l with
 |nil=>intro r n _ e _;exact nn e
 |cons y l ih=>
  intro r n nd e1 e2
  cases r with
  |nil=>exact nn e2
  |cons z r=>
   rw[List.zip_cons_cons,List.lookup_cons]
   cases n with
   |zero=>
    cases e1
    cases e2
    rw[beq_self_eq_true]
   |succ n=>
    have J8:l[n]?=some x:=by simpa using e1
    have ne:(x==y)=false:=by
     rw[beq_eq_false_iff_ne]
     rintro rfl
     exact(Pm.mp nd).1 (Oy J8)
    rw[ne]
    exact ih r n (Pm.mp nd).2 J8 (by simpa using e2)
theorem KQ{x:Str}{v:V}:∀(l:List Str) (r:List V) (n:Nat),l.Nodup->l[n]?=some x->r.length=l.length->jf x v (l.zip r)=l.zip (r.set n v):=fun l=>by
 induction l with
 |nil=>intro r n _ e _;exact nn e
 |cons y l ih=>
  intro r n nd e1 hl
  cases r with
  |nil=>cases hl
  |cons z r=>
   cases n with
   |zero=>
    cases e1
    rw[List.set_cons_zero,List.zip_cons_cons,List.zip_cons_cons,jf]
    rw[Bz (by first|rfl|simp)]
   |succ n=>
    have J8:l[n]?=some x:=by simpa using e1
    have ne:y≠x:=by
     rintro rfl
     exact(Pm.mp nd).1 (Oy J8)
    rw[List.set_cons_succ,List.zip_cons_cons,List.zip_cons_cons,jf]
    rw[Bi (by first|exact ne|simpa using ne),ih r n (Pm.mp nd).2 J8 (by simpa using hl)]
section
variable{X:Cx}{M:Ms}{R:Addr->Prop}{m m0:Md}{e o a b c:Expr}{es rest:List Expr}{t ta tb:Po}{tl:UD}{pos apos cpos p:Pos}{i j n:Nat}{st:Stmt}{x:Str}{π:List pH}
theorem KR{pl:Sem Bool}{G:W}{k n:Nat}{f:Addr}{fd:FuncData}{ps fs:List Str}{ms:List Md}{sp:bN}(hG:∀C,G=.cls C->Meth X.K C x f)(F:aH X.prog X.w X.K X.mg X.base (cL X.prog X.w) k f fd ps (Uy X.K n (.o fs ms) sp))(hr:dU k X.A)(hb:Binds X.K fd ps [])(hi:(i,.o fs ms)∈M)(hx:fs.contains x=false)
 (hn:∀ws P R,sp ws P R->ws.length=n) (hv:PE X o (kQ i))
 (ht:eval (.Call (.Attribute o x apos) [] [] pos) X.env=(do
   let ov←eval o X.env
   standAt apos.atName
   let(f,first)←holding [ov] (getMethod ov x pl)
   callWith pos f first (backTo pos (starEach [] X.env)) (backToKw pos (keywordEach [] X.env)))):
 VP X M R (.Call (.Attribute o x apos) [] [] pos) (fun ε Q=>match look ε i with|some (.obj C _ _)=>G=.cls C/\(match look ε i with|some w0=>sp [w0] (fun r=>∃w y,r=.tup [w,y]/\Q w (ε.set i (some y))) R|none=>False)|_=>False):=by
 rintro pins s σ H Q I ⟨A,H0,ε,P,S,er,h,kk⟩
 obtain⟨E,pE,hE,hR⟩:=er
 try dsimp only at h
 cases hl:look ε i with
 |none=>rw[hl]at h;exact h.elim
 |some w1=>
  rw[hl]at h
  cases w1 with
  |obj C fs' ws1=>
   obtain⟨hg,h⟩:=h
   obtain⟨F0,O0⟩:=S.ow
   obtain⟨v0,hv0,UH⟩:=O0.val i _ _ hi hl
   rw[Fp]at UH
   obtain⟨C',dx,oq,q,VZ,F',e1,rfl,e3,h1,h2,hc,_⟩:=UH
   cases e1
   have mt:=hG C hg
   refine PySem.W.methodCall_KW (pl:=pl) (bT (hv pins s σ H (fun v' H'=>v'=V.ref q/\H'=H) I ⟨_,hv0,rfl,rfl⟩) fun u s1 ⟨x1,H1,I1,rx,ex,eh⟩=>?_) ht
   subst ex
   subst eh
   obtain rfl:u=Value.ref q:=rx
   refine qT I1 h1 hc.1 mt (PB fs VZ hx) ?_
   refine PySem.W.callWith_K0 (first:=[.ref q]) I1.B7 mt.kp (AE (us:=[.ref q]) (vs:=[.ref q]) (ds:=[]) (Gd:=[]) F hr hb .nil pE I1 (.cons rfl .nil) ?_)
   exact MT S hi hl hv0 .nil (by have:=hn _ _ _ h;simpa using this) h hE fun A' w v H' ε' hw g S' rr=>kk A' w v H' ε' hw g S' rr
  |_=>exact h.elim
theorem SR.more{K:PySem.W.Frag}{A:Fz}{H0 H H1:Hp}{σ:St}{ε:Ev}{G:List Addr}(S:SR K M A H0 σ H ε)(s:az H H1)(nw:∀q∈G,H q=none)(ex:∀q∈G,∃o,H1 q=some o):SR K M ⟨fun q=>A.ab q\/q∈G,fun q=>A.B q\/q∈G,A.s0⟩ H0 σ H1 ε:=by
 obtain⟨F,O⟩:=S.ow
 have hb:∀p o,H p=some o->(A.B p\/p∈G)->A.B p:=fun p o e z=>by
  rcases z with z|z
  ·exact z
  ·rw[nw p z]at e
   cases e
 refine⟨S.len,fun i w hi e=>?_,S.sm.trans s,fun p z=>?_,S.sl,F,⟨O.un,fun i m w hm e=>?_,O.emp,O.nd,O.ds,O.nw,fun i p hi hp z=>?_,fun p=>?_⟩⟩
 ·obtain⟨v,h1,h2⟩:=S.sh i w hi e
  exact⟨v,h1,Rep.mv s hb w h2⟩
 ·rcases z with z|z
  ·exact S.dm.same s p z
  ·exact ex p z
 ·obtain⟨v,h1,h2⟩:=O.val i m w hm e
  exact⟨v,h1,Fp.mv s hb m h2⟩
 ·rcases z with z|z
  ·exact O.na i p hi hp z
  ·obtain⟨o,e,_⟩:=O.has hi hp
   rw[nw p z]at e
   cases e
 ·show(A.B p\/p∈G)↔_
  rw[O.all p]
  constructor
  ·rintro((z|z)|z)
   ·exact .inl (.inl z)
   ·exact .inr z
   ·exact .inl (.inr z)
  ·rintro((z|z)|z)
   ·exact .inl (.inl z)
   ·exact .inr z
   ·exact .inl (.inr z)
theorem PD(h:PE X e (kQ i)):PE X e (vE X.K i []):=PE.imp h<|by
 rintro σ H Q ⟨v,u,h1,h2,q⟩
 cases h2
 exact⟨v,h1,q⟩
theorem xN.ix{K:PySem.W.Frag}{H:Hp}{n:Nat}:∀(π:List pH) {v u:V},xN K H v (π++[.ix n]) u->∃p vs,xN K H v π (.ref p)/\H p=some (.tup vs)/\vs[n]?=some u
 |[],v,u,⟨p,vs,x,e,h1,h2,h3⟩=>by
  cases h3
  exact⟨p,vs,by rw[e];rfl,h1,h2⟩
 |.ix m::π,v,u,⟨p,vs,x,e,h1,h2,h3⟩=>by
  obtain⟨q,vs',a,b,c⟩:=xN.ix π h3
  exact⟨q,vs',⟨p,vs,x,e,h1,h2,a⟩,b,c⟩
 |.fl m _::π,v,u,⟨p,vs,x,e,h1,h2,h3⟩=>by
  obtain⟨q,vs',a,b,c⟩:=xN.ix π h3
  exact⟨q,vs',⟨p,vs,x,e,h1,h2,a⟩,b,c⟩
theorem UI(h:PE X a (vE X.K i π))(hb:PE X b (tC (.int n)))(hs:mY b):PE X (.Subscript a b pos) (vE X.K i (π++[.ix n])):=
 PE.imp (Gg AG h hb hs)<|by
  rintro σ H Q ⟨v,u,h1,h2,hq⟩
  obtain⟨q,vs,r,h3,h4⟩:=xN.ix π h2
  exact⟨v,.ref q,h1,r,.inr (.inl ⟨q,vs,n,u,rfl,rfl,lY.of h3,cM h4,hq⟩)⟩
theorem xN.fl{K:PySem.W.Frag}{H:Hp}{n:Nat}{f:Str}:∀(π:List pH) {v u:V},xN K H v (π++[.fl n f]) u->∃p vs C dx fs,xN K H v π (.ref p)/\H p=some (.ins C dx (List.zip fs vs))/\AO K C fs/\fs[n]?=some f/\vs[n]?=some u
 |[],v,u,⟨p,vs,x,e,⟨C,dx,fs,h1,_,h4,h5⟩,h2,h3⟩=>by
  cases h3
  exact⟨p,vs,C,dx,fs,by rw[e];rfl,h1,h4,h5,h2⟩
 |.ix m::π,v,u,⟨p,vs,x,e,h1,h2,h3⟩=>by
  obtain⟨q,vs',C,dx,fs,a,b,c⟩:=xN.fl π h3
  exact⟨q,vs',C,dx,fs,⟨p,vs,x,e,h1,h2,a⟩,b,c⟩
 |.fl m _::π,v,u,⟨p,vs,x,e,h1,h2,h3⟩=>by
  obtain⟨q,vs',C,dx,fs,a,b,c⟩:=xN.fl π h3
  exact⟨q,vs',C,dx,fs,⟨p,vs,x,e,h1,h2,a⟩,b,c⟩
theorem PJ{f:Str}(h:PE X a (vE X.K i π))(hb:attributeBase a f X.env (eval a X.env)=eval a X.env):PE X (.Attribute a f pos) (vE X.K i (π++[.fl n f])):=
 PE.imp (Oe h hb)<|by
  rintro σ H Q ⟨v,u,h1,h2,hq⟩
  obtain⟨q,vs,C,dx,fs,r,h3,h4,h5,h6⟩:=xN.fl π h2
  exact⟨v,.ref q,h1,r,q,C,dx,_,u,rfl,h3,h4.1,h4.2.2.2 f (Oy h5),PC (v:=u) (n:=n) fs vs n h4.2.2.1 h5 h6,hq⟩
theorem PK{f:Str}{fs:List Str}{ms:List Md}{te:(Addr->Prop)->WT}(hps:∀{tv:TE},PE X e tv->PS X st (Tu X.K (kQ i) tv f))(hi:(i,.o fs ms)∈M)(hf:fs[n]?=some f)(hm:ms[n]?=some .s)(he:∀R,VE X M R .s e (te R)):
 VS X M m st (fun d ε=>te d.ex ε fun w=>match look ε i with|some (.obj C fs ws)=>n<ws.length/\d.nx (ε.set i (some (.obj C fs (ws.set n w))))|_=>False):=by
 rintro pins s σ H D I ⟨A,H0,ε,d,S,er,hz,h,k⟩
 refine hps (he d.ex) pins s σ H D I ⟨A,H0,ε,_,S,er,h,fun w v H1 hw s1 r=>?_⟩
 try dsimp only at hw
 cases hl:look ε i with
 |none=>rw[hl]at hw;exact hw.elim
 |some w1=>
  rw[hl]at hw
  cases w1 with
  |obj C fs' ws=>
   obtain⟨hn,hw⟩:=hw
   have S1:=S.same s1
   obtain⟨F,O⟩:=S1.ow
   obtain⟨v0,hv0,fp⟩:=O.val i _ _ hi hl
   rw[Fp]at fp
   obtain⟨C',dx,oq,q,vs,F',e1,rfl,e3,h1,h2,hc,h3⟩:=fp
   cases e1
   have r:=r.bO
   have hB:A.B q:=(O.all q).mpr (.inr ⟨i,⟨_,hi⟩,by rw[e3];exact FK⟩)
   obtain⟨w0,hw0⟩:∃w0,ws[n]?=some w0:=⟨_,BM hn⟩
   obtain⟨v1,F1,G,F2,q1,e4,q3,q4⟩:=cX.at ms h3 hm hw0
   rw[Fp]at q3
   obtain⟨rfl,_⟩:=q3
   have cB:xM A.B H1 (upd H1 q (.ins C dx (fs.zip (vs.set n v)))):=.put h1 rfl hB
   have Xp:q∉F':=by
    have:=O.nd i ⟨_,hi⟩
    rw[e3]at this
    exact(Pm.mp this).1
   have fp':cX X.K A.B (upd H1 q (.ins C dx (fs.zip (vs.set n v)))) ms (ws.set n w) (vs.set n v) F':=by
    rw[e4]
    refine q4 _ A.B w v [] ?_ (fun p o e=>?_) (fun _ _ _ z=>z)
    ·rw[Fp]
     exact⟨rfl,Rep.chg cB (fun _ _ _ z=>z) w r⟩
    ·by_cases ne:p=q
     ·subst ne
      rw[h1]at e
      cases e
      refine .inl ⟨rfl,hB,fun z=>Xp ?_⟩
      rw[e4]
      rcases Hb.mp z with z|z<;>simp[z]
     ·exact .inr (by rw[ao ne];exact e)
   refine⟨_,hv0,q,C,dx,_,rfl,h1,hc.1,hc.2.2.2 f (Oy hf),?_,?_⟩
   ·rw[List.length_zip,h2,Nat.min_self]
    exact hc.2.1
   ·rw[KQ fs vs n hc.2.2.1 hf h2]
    obtain⟨A',a1,a2,_,_,_,S'⟩:=O.chg (F':=F i) (H1:=upd H1 q (.ins C dx (fs.zip (vs.set n v)))) (w':=.obj C fs (ws.set n w)) S1 hi hl hv0 (fun p o e=>by
     by_cases ne:p=q
     ·subst ne
      rw[h1]at e
      cases e
      exact .inl ⟨rfl,by rw[e3];exact FK⟩
     ·exact .inr (by rw[ao ne];exact e)) (O.nd i ⟨_,hi⟩) (fun p hp=>.inl hp) (Fp.mv (az.refl _) (fun p _ _ z=>by
      rcases z with z|z
      ·exact z.1
      ·exact(O.all p).mpr (.inr ⟨i,⟨_,hi⟩,z⟩)) _ (by
       rw[Fp]
       exact⟨C,dx,ws.set n w,q,vs.set n v,F',rfl,rfl,e3,aE,by rw[OK];exact h2,hc,fp'⟩))
    exact k.nx A' _ _ _ a1 a2 hw S'
  |_=>exact hw.elim
end
end VL
namespace L2
open PySem PySem.Spec PyProof.Rows
section
variable{pr:Program}{wo:World}{B:Around}{EE:Value->Shared->Prop}
end
section
variable{X:Cx}{pos:Pos}
end
end L2
namespace VL
open PySem PySem.Spec
open PyProof.Rows hiding St
open L2
section
variable{K:PySem.W.Frag}{M M':Ms}{A:Fz}{H0 H H1:Hp}{σ:St}{ε:Ev}
theorem SR.Xu(S:SR K M' A H0 σ H ε)(h:∀x,x∈M↔x∈M'):SR K M A H0 σ H ε:=by
 obtain⟨F,O⟩:=S.ow
 have hh:∀i,aS M i↔aS M' i:=fun i=>⟨by rintro⟨m,hm⟩;exact⟨m,(h _).mp hm⟩,by rintro⟨m,hm⟩;exact⟨m,(h _).mpr hm⟩⟩
 exact⟨S.len,fun i w hi e=>S.sh i w (fun z=>hi ((hh i).mpr z)) e,S.sm,S.dm,fun v e=>⟨(S.sl v e).1,(hh 0).mpr (S.sl v e).2⟩,F,
  ⟨fun i m m' a b=>O.un i m m' ((h _).mp a) ((h _).mp b),fun i m w hm e=>O.val i m w ((h _).mp hm) e,fun i hi=>O.emp i ((hh i).mp hi),fun i hi=>O.nd i ((hh i).mp hi),fun i j p hi hj=>O.ds i j p ((hh i).mp hi) ((hh j).mp hj),fun i p hi=>O.nw i p ((hh i).mp hi),fun i p hi=>O.na i p ((hh i).mp hi),fun p=>(O.all p).trans ⟨fun z=>z.imp id<|by rintro⟨i,hi,hp⟩;exact⟨i,(hh i).mpr hi,hp⟩,fun z=>z.imp id<|by rintro⟨i,hi,hp⟩;exact⟨i,(hh i).mp hi,hp⟩⟩⟩⟩
theorem SR.rsv(S:SR K M A H0 σ H ε)(s:az H H1){F:List Addr}(nw:∀p∈F,H p=none)(dm:∀p∈F,∃o,H1 p=some o):SR K M ⟨fun p=>A.ab p\/p∈F,fun p=>A.B p\/p∈F,A.s0⟩ H0 σ H1 ε:=by
 obtain⟨G,O⟩:=S.ow
 have ba:∀p o,H p=some o->(A.B p\/p∈F)->A.B p:=fun p o e z=>by
  rcases z with z|z
  ·exact z
  ·rw[nw p z]at e
   cases e
 refine⟨S.len,fun j w' hj e=>?_,S.sm.trans s,fun p z=>?_,S.sl,G,⟨O.un,fun j m' w' hj e=>?_,O.emp,O.nd,O.ds,O.nw,fun j p hj hp z=>?_,fun p=>?_⟩⟩
 ·obtain⟨u,h1,h2⟩:=S.sh j w' hj e
  exact⟨u,h1,Rep.mv s ba w' h2⟩
 ·rcases z with z|z
  ·exact S.dm.same s p z
  ·exact dm p z
 ·obtain⟨u,h1,h2⟩:=O.val j m' w' hj e
  exact⟨u,h1,Fp.mv s ba m' h2⟩
 ·rcases z with z|z
  ·exact O.na j p hj hp z
  ·obtain⟨o,e,_⟩:=O.has hj hp
   rw[nw p z]at e
   cases e
 ·constructor
  ·rintro(z|z)
   ·rcases(O.all p).mp z with z|z
    ·exact .inl (.inl z)
    ·exact .inr z
   ·exact .inl (.inr z)
  ·rintro((z|z)|z)
   ·exact .inl ((O.all p).mpr (.inl z))
   ·exact .inr z
   ·exact .inl ((O.all p).mpr (.inr z))
theorem SR.take(S:SR K M' A H0 σ H ε){i:Nat}{m:Md}{w:W}{v:V}{F:List Addr}(hM:∀x,x∈M↔x=(i,m)\/x∈M')(hi:¬aS M' i)(hil:i<ε.length)(nd:F.Nodup)(ha:∀p∈F,A.ab p)(nw:∀p∈F,H0 p=none)(fp:Fp K A.B H m w v F):
 SR K M ⟨fun p=>A.ab p/\p∉F,A.B,A.s0⟩ H0 (σ.set i (some v)) H (ε.set i (some w)):=by
 obtain⟨G,O⟩:=S.ow
 have hm:∀j,aS M j↔j=i\/aS M' j:=fun j=>by
  constructor
  ·rintro⟨m',h'⟩
   rcases(hM _).mp h' with e|e
   ·cases e
    exact .inl rfl
   ·exact .inr ⟨m',e⟩
  ·rintro(rfl|⟨m',h'⟩)
   ·exact⟨m,(hM _).mpr (.inl rfl)⟩
   ·exact⟨m',(hM _).mpr (.inr h')⟩
 have ne:∀j,aS M' j->j≠i:=fun j hj e=>by subst e;exact hi hj
 refine⟨by rw[OK,OK];exact S.len,fun j w' hj e=>?_,S.sm,fun p z=>S.dm p z.1,fun u e=>?_,fun j=>if j=i then F else G j,⟨fun j m1 m2 a b=>?_,fun j m' w' hj e=>?_,fun j hj e=>?_,fun j hj=>?_,fun j k p hj hk a b=>?_,fun j p hj hp=>?_,fun j p hj hp=>?_,fun p=>?_⟩⟩
 ·have hj2:j≠i/\¬aS M' j:=⟨fun z=>hj ((hm j).mpr (.inl z)),fun z=>hj ((hm j).mpr (.inr z))⟩
  rw[aW (Q1 hj2.1)]at e
  obtain⟨u,h1,h2⟩:=S.sh j w' hj2.2 e
  exact⟨u,by rw[Mo (Q1 hj2.1)];exact h1,h2⟩
 ·obtain⟨h1,h2⟩:=S.sl u e
  exact⟨by rw[Mo (Q1 (ne 0 h2))];exact h1,(hm 0).mpr (.inr h2)⟩
 ·rcases(hM _).mp a with a|a
  ·rcases(hM _).mp b with b|b
   ·cases a
    cases b
    rfl
   ·cases a
    exact(hi ⟨_,b⟩).elim
  ·rcases(hM _).mp b with b|b
   ·cases b
    exact(hi ⟨_,a⟩).elim
   ·exact O.un j m1 m2 a b
 ·rcases(hM _).mp hj with a|a
  ·cases a
   have:=m6 e
   subst this
   exact⟨v,QR (by rw[S.len];exact hil),by rw[Bz rfl];exact fp⟩
  ·have n:=ne j ⟨m',a⟩
   rw[aW (Q1 n)]at e
   obtain⟨u,h1,h2⟩:=O.val j m' w' a e
   exact⟨u,by rw[Mo (Q1 n)];exact h1,by rw[Bi n];exact h2⟩
 ·by_cases n:j=i
  ·subst n
   have:look (ε.set j (some w)) j=some w:=by rw[bE];exact QR hil
   rw[this]at e
   cases e
  ·rw[aW (Q1 n)]at e
   rw[Bi n]
   exact O.emp j (((hm j).mp hj).resolve_left n) e
 ·by_cases n:j=i
  ·rw[Bz n]
   exact nd
  ·rw[Bi n]
   exact O.nd j (((hm j).mp hj).resolve_left n)
 ·by_cases n1:j=i
  ·by_cases n2:k=i
   ·rw[n1,n2]
   ·rw[Bz n1]at a
    rw[Bi n2]at b
    exact(O.na k p (((hm k).mp hk).resolve_left n2) b (ha p a)).elim
  ·by_cases n2:k=i
   ·rw[Bi n1]at a
    rw[Bz n2]at b
    exact(O.na j p (((hm j).mp hj).resolve_left n1) a (ha p b)).elim
   ·rw[Bi n1]at a
    rw[Bi n2]at b
    exact O.ds j k p (((hm j).mp hj).resolve_left n1) (((hm k).mp hk).resolve_left n2) a b
 ·by_cases n:j=i
  ·rw[Bz n]at hp
   exact nw p hp
  ·rw[Bi n]at hp
   exact O.nw j p (((hm j).mp hj).resolve_left n) hp
 ·by_cases n:j=i
  ·rw[Bz n]at hp
   exact fun z=>z.2 hp
  ·rw[Bi n]at hp
   exact fun z=>O.na j p (((hm j).mp hj).resolve_left n) hp z.1
 ·constructor
  ·intro z
   by_cases hp:p∈F
   ·exact .inr ⟨i,(hm i).mpr (.inl rfl),by rw[Bz rfl];exact hp⟩
   ·rcases(O.all p).mp z with z|⟨j,hj,Xd⟩
    ·exact .inl ⟨z,hp⟩
    ·exact .inr ⟨j,(hm j).mpr (.inr hj),by rw[Bi (ne j hj)];exact Xd⟩
  ·rintro(z|⟨j,hj,hp⟩)
   ·exact(O.all p).mpr (.inl z.1)
   ·by_cases n:j=i
    ·rw[Bz n]at hp
     exact(O.all p).mpr (.inl (ha p hp))
    ·rw[Bi n]at hp
     exact(O.all p).mpr (.inr ⟨j,((hm j).mp hj).resolve_left n,hp⟩)
theorem SR.takes{K:PySem.W.Frag}{H0 H:Hp}:∀(ts:List Nat) (ms:List Md) {ws:List W} {vs:List V} {F:List Addr} {M M':Ms} {A:Fz} {σ:St} {ε:Ev},SR K M' A H0 σ H ε->cX K A.B H ms ws vs F->F.Nodup->(∀p∈F,A.ab p)->(∀p∈F,H0 p=none)->ts.length=ms.length->(∀x,x∈M↔x∈ts.zip ms\/x∈M')->(∀i∈ts,¬aS M' i)->ts.Nodup->(∀i∈ts,i<ε.length)->
 SR K M ⟨fun p=>A.ab p/\p∉F,A.B,A.s0⟩ H0 (cO σ ts vs) H (VL.bD ε ts ws)
 |[],[],ws,vs,F,M,M',A,σ,ε,S,h,_,_,_,_,hM,_,_,_=>by
  rw[cX]at h
  obtain⟨rfl,rfl,rfl⟩:=h
  have e:(fun p=>A.ab p/\p∉([]:List Addr))=A.ab:=funext fun p=>propext ⟨fun z=>z.1,fun z=>⟨z,by simp⟩⟩
  rw[e,cO,VL.bD]
  ·exact S.Xu fun x=>by rw[hM x];simp
  ·simp
  ·simp
 |[],_::_,ws,vs,F,M,M',A,σ,ε,_,_,_,_,_,hl,_,_,_,_=>by cases hl
 |_::_,[],ws,vs,F,M,M',A,σ,ε,_,_,_,_,_,hl,_,_,_,_=>by cases hl
 |i::ts,m::ms,ws,vs,F,M,M',A,σ,ε,S,h,nd,ha,nw,hl,hM,hi,un,lt=>by
  rw[cX]at h
  obtain⟨w,oq,v,vs',F1,F2,rfl,rfl,rfl,h1,h2⟩:=h
  obtain⟨n1,n2,n3⟩:=de.mp nd
  obtain⟨u1,u2⟩:=Pm.mp un
  rw[cO,VL.bD]
  have S1:=S.take (M:=(i,m)::M') (fun x=>FV) (hi i FK) (lt i FK) n1 (fun p hp=>ha p (P2 _ hp)) (fun p hp=>nw p (P2 _ hp)) h1
  have S2:=SR.takes ts ms (M:=M) S1 h2 n2 (fun p hp=>⟨ha p (Fn _ hp),fun z=>n3 p z p hp rfl⟩) (fun p hp=>nw p (Fn _ hp)) (by simpa using hl) (fun x=>by
   rw[hM x,List.zip_cons_cons,FV,FV]
   exact⟨fun z=>by
    rcases z with(z|z)|z
    ·exact .inr (.inl z)
    ·exact .inl z
    ·exact .inr (.inr z),fun z=>by
    rcases z with z|z|z
    ·exact .inl (.inr z)
    ·exact .inl (.inl z)
    ·exact .inr z⟩) (fun j hj=>by
   rintro⟨m',z⟩
   rcases FV.mp z with z|z
   ·cases z
    exact u1 hj
   ·exact hi j (Ee _ hj) ⟨m',z⟩) u2 (fun j hj=>by rw[OK];exact lt j (Ee _ hj))
  have e:(fun p=>(A.ab p/\p∉F1)/\p∉F2)=fun p=>A.ab p/\p∉F1++F2:=funext fun p=>propext ⟨fun z=>⟨z.1.1,fun y=>(Hb.mp y).elim z.1.2 z.2⟩,fun z=>⟨⟨z.1,fun y=>z.2 (P2 _ y)⟩,fun y=>z.2 (Fn _ y)⟩⟩
  rw[←e]
  exact S2
end
theorem Cs{K:PySem.W.Frag}{B:Addr->Prop}{H:Hp}:∀(ms:List Md) {ws:List W} {vs:List V} {F:List Addr},cX K B H ms ws vs F->vs.length=ms.length
 |[],ws,vs,F,h=>by
  rw[cX]at h
  rw[h.2.1]
  rfl
 |m::ms,ws,vs,F,h=>by
  rw[cX]at h
  obtain⟨w,oq,v,vs',F1,F2,rfl,rfl,rfl,_,h2⟩:=h
  rw[List.length_cons,List.length_cons,Cs ms h2]
section
variable{X:Cx}{M M':Ms}{m:Md}{st:Stmt}{te:(Addr->Prop)->WT}
theorem PL{ts:List Nat}{ms:List Md}(hps:∀R,PS X st (qR (tV X M' R (MO X.K (.t ms)) (te R)) (gT X.K false ts)))(hl:ts.length=ms.length)(hM:∀x,x∈M↔x∈ts.zip ms\/x∈M')(hi:∀i∈ts,¬aS M' i)(un:ts.Nodup)(lt:∀i∈ts,i<X.N.length)(hio:kT m=true->0∉ts):
 VS X M m st (fun d ε=>te d.ex ε fun w=>match w with|.tup l=>l.length=ts.length/\d.nx (bD ε ts l)|_=>False):=by
 rintro pins s σ H D I ⟨A,H0,ε,d,S,er,hz,h,k⟩
 have h0:∀v,A.s0=some v->A.s0=some v/\aS M' 0:=fun v e=>by
  refine⟨e,?_⟩
  have ho:kT m=true:=by rw[←hz,e];rfl
  obtain⟨m1,h1⟩:=(S.sl v e).2
  rcases(hM _).mp h1 with z|z
  ·exact(hio ho (List.of_mem_zip z).1).elim
  ·exact⟨m1,z⟩
 have le:∀i∈ts,i<ε.length:=fun i hi=>by rw[←S.len,I.len];exact lt i hi
 obtain⟨A1,ea,eb,hb,S'⟩:=S.sub (M':=M') (fun x hx=>(hM x).mpr (.inr hx)) A.s0 h0
 refine hps d.ex pins s σ H D I ⟨A1,H0,ε,_,S',er,h,fun w v H1 hw s1 r=>?_⟩
 cases w with
 |tup l=>
  obtain⟨F,nd,nw,fp⟩:=r
  rw[Fp]at fp
  obtain⟨ws,p,vs,e,rfl,hp,fl⟩:=fp
  cases e
  have mu:∀q∈F,∃o,H1 q=some o:=fun q hq=>by
   obtain⟨o,e,_⟩:=Fp.mu (K:=X.K) (A:=fun q=>A1.B q\/q∈F) (H:=H1) (.t ms) (w:=.tup l) (v:=.ref p) (by rw[Fp];exact⟨l,p,vs,rfl,rfl,hp,fl⟩) q hq
   exact⟨o,e⟩
  have S1:=S'.rsv s1 nw mu
  have S2:=SR.takes (M:=M) ts ms S1 fl nd (fun q hq=>.inr hq) (fun q hq=>by
   cases e:H0 q with
   |none=>rfl
   |some o=>
    have:=S'.sm q o e
    rw[nw q hq]at this
    cases this) hl hM hi un le
  have lv:vs.length=ts.length:=by
   rw[Cs ms fl,hl]
  have eab:(fun q=>(A1.ab q\/q∈F)/\q∉F)=A.ab:=by
   rw[←ea]
   refine funext fun q=>propext ⟨fun z=>z.1.resolve_right z.2,fun z=>⟨.inl z,fun y=>?_⟩⟩
   obtain⟨o,e⟩:=S'.dm q z
   rw[nw q y]at e
   cases e
  refine⟨p,vs,rfl,lY.of hp,lv,AV ts vs σ _ lv (k.nx ⟨fun q=>(A1.ab q\/q∈F)/\q∉F,fun q=>A1.B q\/q∈F,A1.s0⟩ _ _ H1 eab eb hw.2 S2)⟩
 |_=>exact hw.elim
theorem PM{a b c:Expr}{i j k kd:Nat}{m1 m2 m3:Md}{p q:Pos}(ha:PE X a (kQ i))(hb:PE X b (kQ j))(hc:PE X c (kQ k))(e1:starEach [a,b,c] X.env=(false,eval a X.env)::starEach [b,c] X.env)(e2:starEach [b,c] X.env=(false,eval b X.env)::starEach [c] X.env)(e3:starEach [c] X.env=(false,eval c X.env)::starEach [] X.env)(hi:(i,m1)∈M)(hj:(j,m2)∈M)(hk:(k,m3)∈M)(n1:i≠j)(n2:i≠k)(n3:j≠k):
 VS X M (.t [m1,m2,m3]) (.Return (some (.Tuple [a,b,c] kd p)) q) (fun d ε=>match look ε i with|some x=>(match look ε j with|some y=>(match look ε k with|some z=>d.rt (.tup [x,y,z])|none=>False)|none=>False)|none=>False):=by
 rintro pins s σ H D I ⟨A,H0,ε,d,S,er,hz,h,kk⟩
 try dsimp only at h
 cases l1:look ε i with
 |none=>rw[l1]at h;exact h.elim
 |some x=>
 cases l2:look ε j with
 |none=>rw[l1,l2]at h;exact h.elim
 |some y=>
 cases l3:look ε k with
 |none=>rw[l1,l2,l3]at h;exact h.elim
 |some z=>
  rw[l1,l2,l3]at h
  obtain⟨F,O⟩:=S.ow
  obtain⟨v1,h1,f1⟩:=O.val i m1 x hi l1
  obtain⟨v2,h2,f2⟩:=O.val j m2 y hj l2
  obtain⟨v3,h3,f3⟩:=O.val k m3 z hk l3
  refine vd (AB (bV ha (bV hb (bV hc gc e3) e2) e1)) pins s σ H D I ⟨v1,h1,v2,h2,v3,h3,by show 3<=sizeLine;decide,fun r hr=>?_⟩
  have sm:=aY (H:=H) hr (.tup [v1,v2,v3])
  have sub:∀q o,H q=some o->(A.ab q\/q∈F i++(F j++(F k++[])))->A.B q:=fun q _ _ z=>by
   rcases z with z|z
   ·exact(O.all q).mpr (.inl z)
   ·simp only[KF,Hb]at z
    rcases z with z|z|z
    ·exact(O.all q).mpr (.inr ⟨i,⟨m1,hi⟩,z⟩)
    ·exact(O.all q).mpr (.inr ⟨j,⟨m2,hj⟩,z⟩)
    ·exact(O.all q).mpr (.inr ⟨k,⟨m3,hk⟩,z⟩)
  refine kk.rt _ _ _ h (S.sm.trans sm) (.of rfl ⟨F i++(F j++(F k++[])),?_,fun q hq=>?_,?_⟩)
  ·rw[KF,de,de]
   refine⟨O.nd i ⟨m1,hi⟩,⟨O.nd j ⟨m2,hj⟩,O.nd k ⟨m3,hk⟩,fun u hu t ht e=>?_⟩,fun u hu t ht e=>?_⟩
   ·subst e
    exact n3 (O.ds j k u ⟨m2,hj⟩ ⟨m3,hk⟩ hu ht)
   ·subst e
    rcases Hb.mp ht with ht|ht
    ·exact n1 (O.ds i j u ⟨m1,hi⟩ ⟨m2,hj⟩ hu ht)
    ·exact n2 (O.ds i k u ⟨m1,hi⟩ ⟨m3,hk⟩ hu ht)
  ·simp only[KF,Hb]at hq
   rcases hq with z|z|z
   ·exact O.nw i q ⟨m1,hi⟩ z
   ·exact O.nw j q ⟨m2,hj⟩ z
   ·exact O.nw k q ⟨m3,hk⟩ z
  ·rw[Fp]
   refine⟨_,r,_,rfl,rfl,aE,?_⟩
   rw[cX]
   refine⟨x,[y,z],v1,[v2,v3],F i,F j++(F k++[]),rfl,rfl,rfl,Fp.mv sm sub m1 f1,?_⟩
   rw[cX]
   refine⟨y,[z],v2,[v3],F j,F k++[],rfl,rfl,rfl,Fp.mv sm sub m2 f2,?_⟩
   rw[cX]
   refine⟨z,[],v3,[],F k,[],rfl,rfl,rfl,Fp.mv sm sub m3 f3,?_⟩
   rw[cX]
   exact⟨rfl,rfl,rfl⟩
end
theorem a2{a b:Bool}(z:(a&&b)=true):a=true/\b=true:=by cases a<;>cases b<;>first|exact⟨rfl,rfl⟩|exact ff z
theorem a3{a b c:Bool}(z:((a&&b)&&c)=true):(a=true/\b=true)/\c=true:=⟨a2 (a2 z).1,(a2 z).2⟩
structure SE where
 N:List Str
 nk:List (Str×NameKind)
 M:Ms
 fn:List Str
 gn:List Str
 zn:List Str
 md:List Md
 mt:List (Nat×Nat)
noncomputable def bz:List Md->Nat->Md
 |[],_=>.s
 |x::_,0=>x
 |_::l,n+1=>bz l n
noncomputable def UJ:Md->Bool
 |.f=>true
 |_=>false
noncomputable def KU:Md->Bool
 |.s=>true
 |_=>false
noncomputable def yk(M:Ms)(i:Nat):Bool:=(M.lookup i).isSome
theorem m8{M:Ms}{i:Nat}(h:yk M i=false):¬aS M i:=by
 rintro⟨m,hm⟩
 unfold yk at h
 have:∀M:Ms,(i,m)∈M->(M.lookup i).isSome=true:=fun M=>by
  induction M with
  |nil=>intro z;cases z
  |cons x M ih=>
   intro z
   obtain⟨a,b⟩:=x
   rw[List.lookup_cons]
   cases e:i==a with
   |true=>rfl
   |false=>
    rcases FV.mp z with z|z
    ·cases z
     rw[beq_self_eq_true]at e
     cases e
    ·exact ih z
 rw[this M hm]at h
 cases h
theorem jO{M:Ms}{i:Nat}{m:Md}(h:M.lookup i=some m):(i,m)∈M:=by
 induction M with
 |nil=>exact nn h
 |cons x M ih=>
  obtain⟨a,b⟩:=x
  rw[List.lookup_cons]at h
  cases e:i==a with
  |true=>
   rw[e]at h
   cases h
   cases NA.mp e
   exact FK
  |false=>
   rw[e]at h
   exact Ee _ (ih h)
noncomputable def ym(M:Ms)(i:Nat):Bool:=match M.lookup i with
 |none=>true
 |some m=>UJ m
theorem yo{M:Ms}{i:Nat}(h:ym M i=true):aS M i->(i,.f)∈M:=fun hi=>by
 unfold ym at h
 cases e:M.lookup i with
 |none=>exact(m8 (by unfold yk;rw[e];rfl) hi).elim
 |some m=>
  rw[e]at h
  cases m<;>first|exact jO e|exact ff h
noncomputable def EK(M:Ms)(i:Nat):Bool:=match M.lookup i with
 |none=>false
 |some m=>UJ m
theorem qx{M:Ms}{i:Nat}(h:EK M i=true):(i,.f)∈M:=by
 unfold EK at h
 cases e:M.lookup i with
 |none=>rw[e]at h;exact ff h
 |some m=>
  rw[e]at h
  cases m<;>first|exact jO e|exact ff h
noncomputable def SE.sc(S:SE):Scope:={kind:=.function,names:=S.nk,isGenerator:=false,isCoroutine:=false}
noncomputable def UK(S:SE)(x:Str):Bool:=match S.nk.lookup x with
 |some .local=>true
 |some .cell=>true
 |some .free=>true
 |_=>false
noncomputable def okN(x:Str):Bool:=!(x==("__debug__":Str))&&!(x==("__classdict__":Str))&&!(x==("__name__":Str))
noncomputable def tS(S:SE)(x:Str):Bool:=(S.nk.lookup x==some .globalImplicit)&&okN x
noncomputable def vH:Expr->Bool
 |.Call _ _ _ _=>false
 |_=>true
noncomputable def jG(S:SE)(i:Nat):Expr->Bool
 |.Name x _=>S.N[i]?==some x&&UK S x&&okN x
 |_=>false
noncomputable def mC(f:Const->Bool):Expr->Bool
 |.Constant c _ _=>f c
 |_=>false
noncomputable def Xv(f:Str->Pos->Bool):Expr->Bool
 |.Name x p=>f x p
 |_=>false
noncomputable def G3(f:Str->Bool):Expr->Bool:=Xv fun x _=>f x
noncomputable def o1{α:Type}(f:α->Bool):List α->Bool
 |[a]=>f a
 |_=>false
noncomputable def UL(f:Expr->List CmpOp->List Expr->Bool):Expr->Bool
 |.Compare l os rs _=>f l os rs
 |_=>false
noncomputable def yp(f:Expr->List Expr->Bool->Pos->Bool):Expr->Bool
 |.Call g es ks p=>f g es ks.isEmpty p
 |_=>false
noncomputable def EL(f:Expr->Str->Pos->Bool):Expr->Bool
 |.Attribute o m p=>f o m p
 |_=>false
noncomputable def Ze(f:Option Expr->Option Expr->Option Expr->Bool):Expr->Bool
 |.Slice l h t _=>f l h t
 |_=>false
noncomputable def Zf(f:Expr->List Comprehension->Scope->Bool):Expr->Bool
 |.ListComp x gs s _=>f x gs s
 |_=>false
noncomputable def G4(f:Operator->Expr->Expr->Bool):Expr->Bool
 |.BinOp l o r _=>f o l r
 |_=>false
noncomputable def Xw(f:UnaryOp->Expr->Bool):Expr->Bool
 |.UnaryOp o x _=>f o x
 |_=>false
noncomputable def G5(f:CmpOp->Expr->Expr->Bool):Expr->Bool:=UL fun l os rs=>o1 (fun o=>o1 (fun r=>f o l r) rs) os
noncomputable def o2{α:Type}(f:α->α->Bool):List α->Bool
 |a::l=>o1 (f a) l
 |_=>false
noncomputable def o3{α:Type}(f:α->α->α->Bool):List α->Bool
 |a::l=>o2 (f a) l
 |_=>false
noncomputable def Xx(f:BoolOp->List Expr->Bool):Expr->Bool
 |.BoolOp o es _=>f o es
 |_=>false
noncomputable def Zg(f:Expr->Expr->Expr->Bool):Expr->Bool
 |.IfExp t x y _=>f t x y
 |_=>false
noncomputable def AY(f:List Expr->Bool):Expr->Bool
 |.Tuple es _ _=>f es
 |_=>false
noncomputable def UM(f:List Expr->Bool):Expr->Bool
 |.List es _=>f es
 |_=>false
noncomputable def EM(f:Expr->Expr->Bool):Expr->Bool
 |.Subscript v s _=>f v s
 |_=>false
noncomputable def Zh(f:Expr->Option Expr->Option Expr->Bool):Expr->Bool:=EM fun v s=>Ze (fun l h t=>t.isNone&&f v l h) s
noncomputable def pI(f:Str->List Expr->Bool):Expr->Bool:=yp fun g es k _=>k&&G3 (fun x=>f x es) g
noncomputable def AZ(f:Expr->Str->Pos->Pos->Bool):Expr->Bool:=yp fun g es k c=>k&&es.isEmpty&&EL (fun o m a=>f o m a c) g
noncomputable def MU(f:Expr->Expr->Expr->List Expr->Scope->Bool):Expr->Bool:=Zf fun x gs s=>o1 (fun g=>decide (g.is_async=0)&&f x g.target g.iter g.ifs s) gs
theorem ie{f:Const->Bool}{e:Expr}(h:mC f e=true):∃c k p,e=.Constant c k p/\f c=true:=by cases e<;>first|exact⟨_,_,_,rfl,h⟩|exact ff h
theorem Ct{f:Str->Pos->Bool}{e:Expr}(h:Xv f e=true):∃x p,e=.Name x p/\f x p=true:=by cases e<;>first|exact⟨_,_,rfl,h⟩|exact ff h
theorem G6{f:Expr->List CmpOp->List Expr->Bool}{e:Expr}(h:UL f e=true):∃l os rs p,e=.Compare l os rs p/\f l os rs=true:=by cases e<;>first|exact⟨_,_,_,_,rfl,h⟩|exact ff h
theorem kD{f:Expr->List Expr->Bool->Pos->Bool}{e:Expr}(h:yp f e=true):∃g es ks p,e=.Call g es ks p/\f g es ks.isEmpty p=true:=by cases e<;>first|exact⟨_,_,_,_,rfl,h⟩|exact ff h
theorem iN{f:Expr->Str->Pos->Bool}{e:Expr}(h:EL f e=true):∃o m p,e=.Attribute o m p/\f o m p=true:=by cases e<;>first|exact⟨_,_,_,rfl,h⟩|exact ff h
theorem KW{f:Option Expr->Option Expr->Option Expr->Bool}{e:Expr}(h:Ze f e=true):∃l r t p,e=.Slice l r t p/\f l r t=true:=by cases e<;>first|exact⟨_,_,_,_,rfl,h⟩|exact ff h
theorem KY{f:Expr->List Comprehension->Scope->Bool}{e:Expr}(h:Zf f e=true):∃x gs s p,e=.ListComp x gs s p/\f x gs s=true:=by cases e<;>first|exact⟨_,_,_,_,rfl,h⟩|exact ff h
theorem gF{α:Type}{f:α->Bool}{l:List α}(h:o1 f l=true):∃a,l=[a]/\f a=true:=by rcases l with _|⟨a,_|_⟩<;>first|exact⟨_,rfl,h⟩|exact ff h
theorem PN{α:Type}{f:α->α->Bool}{l:List α}(h:o2 f l=true):∃a b,l=[a,b]/\f a b=true:=by
 cases l with
 |nil=>exact ff h
 |cons a l=>
  obtain⟨b,rfl,h1⟩:=gF h
  exact⟨_,_,rfl,h1⟩
theorem G7{α:Type}{f:α->α->α->Bool}{l:List α}(h:o3 f l=true):∃a b c,l=[a,b,c]/\f a b c=true:=by
 cases l with
 |nil=>exact ff h
 |cons a l=>
  obtain⟨b,c,rfl,h1⟩:=PN h
  exact⟨_,_,_,rfl,h1⟩
theorem oR{f:Str->Bool}{e:Expr}(h:G3 f e=true):∃x p,e=.Name x p/\f x=true:=Ct h
theorem oS{f:Operator->Expr->Expr->Bool}{e:Expr}(h:G4 f e=true):∃l o r p,e=.BinOp l o r p/\f o l r=true:=by cases e<;>first|exact⟨_,_,_,_,rfl,h⟩|exact ff h
theorem qy{f:UnaryOp->Expr->Bool}{e:Expr}(h:Xw f e=true):∃o x p,e=.UnaryOp o x p/\f o x=true:=by cases e<;>first|exact⟨_,_,_,rfl,h⟩|exact ff h
theorem uB{f:CmpOp->Expr->Expr->Bool}{e:Expr}(h:G5 f e=true):∃l o r p,e=.Compare l [o] [r] p/\f o l r=true:=by
 obtain⟨l,os,rs,p,rfl,h1⟩:=G6 h
 obtain⟨o,rfl,h2⟩:=gF h1
 obtain⟨r,rfl,h3⟩:=gF h2
 exact⟨_,_,_,_,rfl,h3⟩
theorem qz{f:BoolOp->List Expr->Bool}{e:Expr}(h:Xx f e=true):∃o es p,e=.BoolOp o es p/\f o es=true:=by cases e<;>first|exact⟨_,_,_,rfl,h⟩|exact ff h
theorem KZ{f:Expr->Expr->Expr->Bool}{e:Expr}(h:Zg f e=true):∃t x y p,e=.IfExp t x y p/\f t x y=true:=by cases e<;>first|exact⟨_,_,_,_,rfl,h⟩|exact ff h
theorem fJ{f:List Expr->Bool}{e:Expr}(h:AY f e=true):∃es k p,e=.Tuple es k p/\f es=true:=by cases e<;>first|exact⟨_,_,_,rfl,h⟩|exact ff h
theorem yq{f:List Expr->Bool}{e:Expr}(h:UM f e=true):∃es p,e=.List es p/\f es=true:=by cases e<;>first|exact⟨_,_,rfl,h⟩|exact ff h
theorem gG{f:Expr->Expr->Bool}{e:Expr}(h:EM f e=true):∃v s p,e=.Subscript v s p/\f v s=true:=by cases e<;>first|exact⟨_,_,_,rfl,h⟩|exact ff h
theorem Cu{f:Expr->Option Expr->Option Expr->Bool}{e:Expr}(h:Zh f e=true):∃v l r q p,e=.Subscript v (.Slice l r none q) p/\f v l r=true:=by
 obtain⟨v,s,p,rfl,h1⟩:=gG h
 obtain⟨l,r,t,q,rfl,h2⟩:=KW h1
 obtain⟨k,h3⟩:=a2 h2
 rw[Option.isNone_iff_eq_none.mp k]
 exact⟨_,_,_,_,_,rfl,h3⟩
theorem aV{f:Str->List Expr->Bool}{e:Expr}(h:pI f e=true):∃x q es p,e=.Call (.Name x q) es [] p/\f x es=true:=by
 obtain⟨g,es,ks,p,rfl,h1⟩:=kD h
 obtain⟨k,h2⟩:=a2 h1
 obtain⟨x,q,rfl,h3⟩:=oR h2
 rw[Hk.mp k]
 exact⟨_,_,_,_,rfl,h3⟩
theorem mq{f:Expr->Str->Pos->Pos->Bool}{e:Expr}(h:AZ f e=true):∃o m a c,e=.Call (.Attribute o m a) [] [] c/\f o m a c=true:=by
 obtain⟨g,es,ks,p,rfl,h1⟩:=kD h
 obtain⟨⟨k,l⟩,h2⟩:=a3 h1
 obtain⟨o,m,a,rfl,h3⟩:=iN h2
 rw[Hk.mp k,Hk.mp l]
 exact⟨_,_,_,_,rfl,h3⟩
theorem uC{f:Expr->Expr->Expr->List Expr->Scope->Bool}{e:Expr}(h:MU f e=true):∃elt tg iter ifs scope p,e=.ListComp elt [⟨tg,iter,ifs,0⟩] scope p/\f elt tg iter ifs scope=true:=by
 obtain⟨x,gs,s,p,rfl,h1⟩:=KY h
 obtain⟨⟨tg,it,fs,z⟩,rfl,h2⟩:=gF h1
 obtain⟨k,h3⟩:=a2 h2
 cases DD k
 exact⟨_,_,_,_,_,_,rfl,h3⟩
noncomputable def isI(n:Int):Const->Bool
 |.int j=>decide (j=n)
 |_=>false
noncomputable def yr(S:SE)(i:Nat):List pH->Expr->Bool
 |[],e=>jG S i e
 |.fl _ x::π,e=>EL (fun a f _=>decide (f=x)&&vH a&&yr S i π a) e
 |.ix n::π,e=>EM (fun a k=>mC (isI n) k&&yr S i π a) e
noncomputable def pJ(S:SE)(m:Md->Bool)(i:Nat)(π:List pH)(e:Expr):Bool:=!π.isEmpty&&yr S i π.reverse e&&(match S.M.lookup i with
 |some m0=>(match mh m0 π with
  |some k=>m k
  |none=>false)
 |none=>false)
noncomputable def ig(S:SE):CE->Expr->Bool
 |.var i,e=>jG S i e&&ym S.M i
 |.own i π,e=>pJ S UJ i π e
 |_,_=>false
noncomputable def UN:BI->Str
 |.len=>"len"
 |.abs=>"abs"
 |.max2=>"max"
 |.min2=>"min"
 |.sum=>"sum"
 |.all=>"all"
 |.any=>"any"
 |.list=>"list"
 |.tuple=>"tuple"
noncomputable def Zi:BI->Nat->Bool
 |.any,_=>false
 |_,n=>0<n
noncomputable def JC:CE->Bool
 |.ite _ _ _=>false
 |.not a=>JC a
 |.and as=>G8 as
 |.or as=>G8 as
 |_=>true
where G8:List CE->Bool
 |[]=>true
 |a::as=>JC a&&G8 as
noncomputable def Cv:Expr->Bool
 |.Slice _ _ _ _=>false
 |_=>true
noncomputable def A3:Expr->Bool
 |.Set _ _ _=>false
 |_=>true
noncomputable def EN:List Expr->Option (List Str)
 |[]=>some []
 |.Name x _::es=>(EN es).map fun l=>x::l
 |_::_=>none
noncomputable def Sd:Expr->Option (Bool×List Str)
 |.Name x _=>some (true,[x])
 |.Tuple es _ _=>(EN es).map fun l=>(false,l)
 |_=>none
noncomputable def mask(xs:List Str)(N:List Str):List Str:=N.map fun y=>if xs.contains y then y++("!":Str)else y
noncomputable def SE.comp(S:SE)(scope:Scope)(xs:List Str):SE:=
 {S with N:=xs++mask xs S.N,nk:=scope.names.map fun p=>(p.1,if p.2=.free then .cell else p.2),M:=up S.M xs.length}
noncomputable def G9:CE->Bool
 |.vn _=>true
 |_=>false
noncomputable def PR(n:Bool)(f:Expr->Bool):Option Expr->Bool
 |none=>n
 |some e=>!n&&f e
noncomputable def MV:CE->Bool
 |.bl b=>b
 |_=>false
noncomputable def UO:BI->List CE->Bool
 |_,_=>true
noncomputable def Xy(y:Bool)(f:Expr->Bool):List Expr->Bool
 |[]=>y
 |[e]=>f e
 |_=>false
noncomputable def yt(f:Expr->Bool)(g:List Expr->Bool):List Expr->Bool
 |e::es=>f e&&g es
 |[]=>false
noncomputable def PU(f:Expr->Bool):List Expr->Bool:=o1 f
noncomputable def yu(S:SE)(ts:List Nat)(one:Bool)(n:Nat)(vn:Bool)(fi:Expr->Bool)(fc:SE->List Expr->Bool)(fx:SE->Expr->Bool)(elt tg iter:Expr)(ifs:List Expr)(scope:Scope):Bool:=
 match Sd tg with
 |some (o,xs)=>(one==o)&&(n==xs.length)&&(ts==List.range n)&&gf scope S.sc S.N (mask xs S.N) xs&&decide (xs++mask xs S.N).Nodup&&A3 iter&&(!vn||!one)&&fi iter&&fc (S.comp scope xs) ifs&&fx (S.comp scope xs) elt
 |none=>false
noncomputable def jH(Ψ:Nat->Md):CE->Bool
 |.lst _=>true
 |.comp _ _ _ _ _ _=>true
 |.blt .list _=>true
 |.sl _ _ _=>true
 |.bin .Add a b=>jH Ψ a||jH Ψ b
 |.bin .Mult a _=>jH Ψ a
 |.call f _=>match Ψ f with
  |.f=>true
  |_=>false
 |.ite _ a b=>jH Ψ a&&jH Ψ b
 |_=>false
noncomputable def mo(Ψ:Nat->Md)(c:CE):Md:=if jH Ψ c=true then .f else .s
mutual
noncomputable def aN(S:SE)(it:Bool):CE->Expr->Bool
 |.var i,e=>jG S i e&&!yk S.M i
 |.int i,e=>mC (fun c=>decide (c=.int i)) e
 |.bl b,e=>mC (fun c=>decide (c=.bool b)) e
 |.str x,e=>mC (fun c=>decide (c=.str x)) e
 |.aX,e=>mC (fun c=>decide (c=.none)) e
 |.glob g,e=>G3 (fun x=>S.gn[g]?==some x&&tS S x) e
 |.bin op a b,e=>G4 (fun o l r=>decide (op=o)&&(aN S false a l||ig S a l)&&(aN S false b r||ig S b r)) e
 |.neg a,e=>Xw (fun o x=>decide (o=.USub)&&aN S false a x) e
 |.not a,e=>Xw (fun o x=>decide (o=.Not)&&aN S false a x) e
 |.cmp op a b,e=>G5 (fun o l r=>decide (op=o)&&!decide (op=.In)&&!decide (op=.NotIn)&&(aN S false a l||ig S a l)&&(aN S false b r||ig S b r)) e
 |.and as,e=>Xx (fun o es=>decide (o=.And)&&!es.isEmpty&&gY S as es) e
 |.or as,e=>Xx (fun o es=>decide (o=.Or)&&!es.isEmpty&&gY S as es) e
 |.ite c a b,e=>Zg (fun t x y=>aN S false c t&&JC c&&aN S false a x&&aN S false b y) e
 |.tup as,e=>AY (fun es=>gY S as es) e
 |.lst as,e=>UM (fun es=>gY S as es) e
 |.ix a i,e=>EM (fun v s=>Cv s&&(aN S false a v||ig S a v)&&aN S false i s) e
 |.sl a lo hi,e=>Zh (fun v l h=>(aN S false a v||ig S a v)&&PR (kX lo) (fun x=>aN S false lo x) l&&PR (kX hi) (fun x=>aN S false hi x) h) e
 |.call f as,e=>pI (fun x es=>S.fn[f]?==some x&&tS S x&&!es.isEmpty&&!kT (bz S.md f)&&!S.mt.any (·.1==f)&&gY S as es) e
 |.blt b as,e=>pI (fun x es=>decide (x=UN b)&&tS S x&&S.zn.contains x&&Zi b es.length&&UO b as&&uD S as es) e
 |.bits a,e=>AZ (fun o m ap cp=>decide (m=("bit_length":Str))&&(ap.endLine==cp.line)&&vH o&&aN S false a o) e
 |.comp ts one n i c x,e=>MU (fun elt tg iter ifs scope=>yu S ts one n (G9 i) (fun iter=>aN S true i iter||ig S i iter) (fun S' ifs=>Xy (MV c) (fun f=>aN S' false c f&&JC c) ifs) (fun S' elt=>aN S' false x elt) elt tg iter ifs scope) e
 |.oz as,e=>pI (fun x es=>it&&decide (x=("range":Str))&&tS S x&&S.zn.contains x&&(as.length==1||as.length==2||as.length==3)&&gY S as es) e
 |.vn a,e=>pI (fun x es=>it&&decide (x=("enumerate":Str))&&tS S x&&S.zn.contains x&&PU (fun v=>aN S false a v) es) e
 |.rev a,e=>pI (fun x es=>it&&decide (x=("reversed":Str))&&tS S x&&S.zn.contains x&&PU (fun v=>aN S false a v) es) e
 |.pop _,_=>false
 |.own i π,e=>pJ S KU i π e
 |.GD _ _ _ _,_=>false
noncomputable def gY(S:SE):List CE->List Expr->Bool
 |[],es=>es.isEmpty
 |a::as,es=>yt (fun e=>aN S false a e) (fun es=>gY S as es) es
noncomputable def uD(S:SE):List CE->List Expr->Bool
 |[],es=>es.isEmpty
 |a::as,es=>yt (fun e=>aN S false a e||ig S a e) (fun es=>uD S as es) es
end
structure XOk(S:SE)(Φ:Nat->bN)(Ψ:Nat->Md)(G:Nat->W)(X:Cx):Prop where
 hN:X.N=S.N
 nd:X.N.Nodup
 calm:X.calm=true
 un:X.A.units+64<cLine
 nk:∀x,X.env.scope.names.lookup x=S.nk.lookup x
 fns:∀(j:Nat) (x:Str),S.fn[j]?=some x->S.mt.any (·.1==j)=false->∃fv n k,X.mg x=some fv/\eV X.prog X.w X.K X.mg X.base k fv n (cY X.K n (Ψ j) (Φ j))/\dU k X.A/\∀ws P R,Φ j ws P R->ws.length=n
 PV:∀(j g:Nat) (x:Str),S.fn[j]?=some x->(j,g)∈S.mt->∃f fd ps n k,(∀C,G g=.cls C->Meth X.K C x f)/\Binds X.K fd ps []/\aH X.prog X.w X.K X.mg X.base (cL X.prog X.w) k f fd ps (cY X.K n (Ψ j) (Φ j))/\dU k X.A/\∀ws P R,Φ j ws P R->ws.length=n
 MW:Ψ=bz S.md
 PX:∀(j:Nat) (x:Str),S.gn[j]?=some x->∃u v,X.mg x=some u/\RelV v u/\∀B H,Rep X.K B H (G j) v
 Ai:∀x∈S.zn,X.mg x=none
 kit:GS X.K
section
variable{S:SE}{Φ:Nat->bN}{Ψ:Nat->Md}{G:Nat->W}{X:Cx}
theorem XOk.tK(h:XOk S Φ Ψ G X):XOk S Φ Ψ G X.tK:=⟨h.hN,h.nd,h.calm,h.un,h.nk,h.fns,h.PV,h.MW,h.PX,h.Ai,h.kit⟩
theorem Cw{x:Str}(h:okN x=true):(x==("__debug__":Str))=false/\(x==("__classdict__":Str))=false/\x≠"__name__":=by
 unfold okN at h
 simp only[B1,Bool.not_eq_true']at h
 exact⟨h.1.1,h.1.2,fun z=>by rw[z]at h;exact absurd h.2 (by simp)⟩
theorem dW{x:Str}(hX:XOk S Φ Ψ G X)(h:tS S x=true):Gl X x/\(x==("__debug__":Str))=false/\x≠"__name__":=by
 unfold tS at h
 rw[B1]at h
 obtain⟨h1,h2,h3⟩:=Cw h.2
 refine⟨?_,h1,h3⟩
 show X.env.scope.names.lookup x=_
 rw[hX.nk]
 exact NA.mp h.1
theorem dX(hX:XOk S Φ Ψ G X){i:Nat}{e:Expr}(h:jG S i e=true):PE X e (kQ i):=by
 cases e with
 |Name x pos=>
  simp only[jG,B1]at h
  obtain⟨⟨h1,h2⟩,h3⟩:=h
  obtain⟨d1,d2,_⟩:=Cw h3
  refine FT (by rw[hX.hN];exact NA.mp h1) ?_ d1 d2
  unfold UK at h2
  rw[←hX.nk]at h2
  unfold RX
  split at h2<;>first|exact .inl (by assumption)|exact .inr (.inl (by assumption))|exact .inr (.inr (by assumption))|exact ff h2
 |_=>exact ff h
noncomputable def noStar:Expr->Bool
 |.Starred _ _=>false
 |_=>true
theorem aP{e:Expr}(h:noStar e=true)(es:List Expr)(env:Env):starEach (e::es) env=(false,eval e env)::starEach es env:=by
 cases e<;>first|rfl|exact ff h
theorem cZ:∀{es:List Expr} (h:es.all noStar=true) (pos:Pos) (env:Env),(backTo pos (starEach es env)).any (·.1)=false
 |[],_,_,_=>rfl
 |e::es,h,pos,env=>by
  rw[List.all_cons,B1]at h
  rw[aP h.1]
  show(false||(backTo pos (starEach es env)).any (·.1))=false
  rw[cZ h.2]
  rfl
theorem gv{m:Md->Bool}{i:Nat}{π:List pH}{e:Expr}(h:pJ S m i π e=true):
 (∃m0 k,π≠[]/\yr S i π.reverse e=true/\S.M.lookup i=some m0/\mh m0 π=some k/\m k=true)/\((∃a f q,e=.Attribute a f q)\/∃a j c d q,e=.Subscript a (.Constant (.int j) c d) q):=by
 unfold pJ at h
 rw[B1,B1]at h
 obtain⟨⟨h0,h1⟩,h2⟩:=h
 have hn:π≠[]:=fun z=>by rw[z]at h0;exact ff h0
 constructor
 ·split at h2
  ·rename_i m0 hl
   split at h2
   ·rename_i k hk
    exact⟨m0,k,hn,h1,hl,hk,h2⟩
   ·cases h2
  ·cases h2
 ·cases hr:π.reverse with
  |nil=>exact(hn (by simpa using hr)).elim
  |cons s r=>
   rw[hr]at h1
   cases s with
   |ix n=>
    obtain⟨v,s,p,rfl,h3⟩:=gG h1
    obtain⟨c,k,q,rfl,h4⟩:=ie (a2 h3).1
    cases c<;>first|exact .inr ⟨_,_,_,_,_,rfl⟩|exact ff h4
   |fl n x=>
    obtain⟨o,m,p,rfl,h3⟩:=iN h1
    exact .inl ⟨_,_,_,rfl⟩
theorem rH{m:Md->Bool}{i:Nat}{π:List pH}{v:Expr}{p:Pos}(h:pJ S m i π (.Starred v p)=true):False:=by
 rcases(gv h).2 with⟨_,_,_,e⟩|⟨_,_,_,_,_,e⟩<;>cases e
theorem bH{it:Bool}{c:CE}{e:Expr}(h:aN S it c e=true\/ig S c e=true):noStar e=true:=by
 cases e with
 |Starred v p=>
  rcases h with h|h
  ·cases c with
   |own i π=>exact(rH h).elim
   |_=>exact ff h
  ·cases c<;>first|exact ff h|exact(rH h).elim
 |_=>rfl
theorem jP{a b:Bool}(h:(a||b)=true):a=true\/b=true:=by
 cases a
 ·exact .inr h
 ·exact .inl rfl
theorem oU:∀{cs:List CE} {es:List Expr},gY S cs es=true->es.all noStar=true
 |[],es,h=>by
  cases es with
  |nil=>rfl
  |cons _ _=>exact ff h
 |c::cs,[],h=>by cases h
 |c::cs,e::es,h=>by
  have h:=a2 h
  rw[List.all_cons,bH (.inl h.1),oU h.2]
  rfl
theorem rJ:∀{cs:List CE} {es:List Expr},uD S cs es=true->es.all noStar=true
 |[],es,h=>by
  cases es with
  |nil=>rfl
  |cons _ _=>exact ff h
 |c::cs,[],h=>by cases h
 |c::cs,e::es,h=>by
  have h:=a2 h
  rw[List.all_cons,bH (jP h.1),rJ h.2]
  rfl
theorem vI{b:Expr}(h:Cv b=true):mY b:=fun o i=>by cases b<;>first|rfl|exact ff h
theorem uE{a:Expr}(h:vH a=true)(f:Str)(env:Env)(wh:Sem Value):attributeBase a f env wh=wh:=by cases a<;>first|rfl|exact ff h
theorem rK(hX:XOk S Φ Ψ G X){i:Nat}:∀(π:List pH) (e:Expr),yr S i π e=true->PE X e (vE X.K i π.reverse)
 |[],e,h=>PD (dX hX h)
 |.fl n x::π,e,h=>by
  obtain⟨o,m,p,rfl,h0⟩:=iN h
  obtain⟨⟨h1,h2⟩,h3⟩:=a3 h0
  have h1:=DD h1
  subst h1
  rw[List.reverse_cons]
  exact PJ (rK hX π _ h3) (uE h2 _ _ _)
 |.ix n::π,e,h=>by
  obtain⟨v,s,p,rfl,h0⟩:=gG h
  obtain⟨h2,h3⟩:=a2 h0
  obtain⟨c,k,q,rfl,h4⟩:=ie h2
  cases c<;>try exact ff h4
  have h1:=DD h4
  subst h1
  rw[List.reverse_cons]
  exact UI (rK hX π _ h3) lV (vI rfl)
theorem Hf(hX:XOk S Φ Ψ G X){m:Md->Bool}{i:Nat}{π:List pH}{e:Expr}(h:pJ S m i π e=true):∃m0 k,(i,m0)∈S.M/\mh m0 π=some k/\m k=true/\PE X e (vE X.K i π):=by
 obtain⟨⟨m0,k,_,h1,h2,h3,h4⟩,_⟩:=gv h
 have:=rK hX π.reverse e h1
 rw[List.reverse_reverse]at this
 exact⟨m0,k,jO h2,h3,h4,this⟩
theorem UP(hX:XOk S Φ Ψ G X){i:Nat}{π:List pH}{e:Expr}(h:pJ S KU i π e=true)(R:Addr->Prop):VE X S.M R .s e (fun ε Q=>match look ε i with|some w=>(match cW w π with|some u=>Q u|none=>False)|none=>False):=by
 obtain⟨m0,k,hm,hp,hk,pe⟩:=Hf hX h
 cases k<;>first|(cases hk;done)|skip
 exact OQ pe hm hp
theorem MX(hX:XOk S Φ Ψ G X){i:Nat}{π:List pH}{e:Expr}(h:pJ S UJ i π e=true)(R:Addr->Prop):VB X S.M R e (fun ε Q=>match look ε i with|some w=>(match cW w π with|some u=>Q u|none=>False)|none=>False):=by
 obtain⟨m0,k,hm,hp,hk,pe⟩:=Hf hX h
 cases k<;>first|(cases hk;done)|skip
 exact OP pe hm hp
end
structure dM(Φ:Nat->bN)(Ψ:Nat->Md)(G:Nat->W)(c:CE):Prop where
 e:∀{S:SE} {X:Cx},XOk S Φ Ψ G X->∀ex,aN S false c ex=true->∀R,VE X S.M R (mo Ψ c) ex (wE Φ G R c)
 t:∀{S:SE} {X:Cx},XOk S Φ Ψ G X->∀ex,aN S false c ex=true->JC c=true->∀R,VT X S.M R ex (wE Φ G R c)
 i:∀{S:SE} {X:Cx},XOk S Φ Ψ G X->∀tg br ex,(aN S true c ex||(br&&ig S c ex))=true->(G9 c=true->∃elts kk tp,tg=Expr.Tuple elts kk tp)->∀R,PI X tg ex (GU X S.M R br (wE Φ G R c))
structure tT(Φ:Nat->bN)(Ψ:Nat->Md)(G:Nat->W)(cs:List CE):Prop where
 a:∀{S:SE} {X:Cx},XOk S Φ Ψ G X->∀es,gY S cs es=true->∀R,VA X S.M R es (wA Φ G R cs)
 b:∀{S:SE} {X:Cx},XOk S Φ Ψ G X->∀es,uD S cs es=true->∀R,R8 X S.M R es (wA Φ G R cs)
 av:∀{S:SE} {X:Cx},XOk S Φ Ψ G X->∀es pos,es≠[]->gY S cs es=true->∀R,VE X S.M R .s (.BoolOp .And es pos) (Al Φ G R cs)
 ov:∀{S:SE} {X:Cx},XOk S Φ Ψ G X->∀es pos,es≠[]->gY S cs es=true->∀R,VE X S.M R .s (.BoolOp .Or es pos) (Nz Φ G R cs)
 «at»:∀{S:SE} {X:Cx},XOk S Φ Ψ G X->∀es pos,es≠[]->gY S cs es=true->JC.G8 cs=true->∀R,MP X S.M R (.BoolOp .And es pos) (Al Φ G R cs)
 ot:∀{S:SE} {X:Cx},XOk S Φ Ψ G X->∀es pos,es≠[]->gY S cs es=true->JC.G8 cs=true->∀R,MP X S.M R (.BoolOp .Or es pos) (Nz Φ G R cs)
section
variable{Φ:Nat->bN}{Ψ:Nat->Md}{G:Nat->W}
theorem ir{c:CE}(h:jH Ψ c=false):mo Ψ c=.s:=by unfold mo;rw[h];rfl
theorem mw{c:CE}(h:jH Ψ c=true):mo Ψ c=.f:=by unfold mo;rw[h];rfl
theorem dM.s{c:CE}(h:dM Φ Ψ G c){S:SE}{X:Cx}(hX:XOk S Φ Ψ G X){ex:Expr}(k:aN S false c ex=true)(R:Addr->Prop):VE X S.M R .s ex (wE Φ G R c):=GJ (h.e hX ex k R)
theorem dM.b{c:CE}(h:dM Φ Ψ G c){S:SE}{X:Cx}(hX:XOk S Φ Ψ G X){ex:Expr}(k:(aN S false c ex||ig S c ex)=true)(R:Addr->Prop):VB X S.M R ex (wE Φ G R c):=by
 rcases jP k with k|k
 ·exact Ur (h.e hX ex k R)
 ·cases c with
  |var i=>
   have k:(jG S i ex&&ym S.M i)=true:=k
   rw[B1]at k
   exact GK (dX hX k.1) (yo k.2)
  |own i π=>exact MX hX k R
  |_=>exact ff k
theorem dM.mk1{c:CE}(he:∀{S:SE} {X:Cx},XOk S Φ Ψ G X->∀ex,aN S false c ex=true->∀R,VE X S.M R (mo Ψ c) ex (wE Φ G R c))
 (ht:∀{S:SE} {ex:Expr} (env:Env),aN S false c ex=true->∀whole,isTrue ex env whole=(do let v←whole;standAt ex.pos;holding [v] (truthy v)))
 (hi:∀(S:SE) (ex:Expr),aN S true c ex=true->aN S false c ex=true) (hv:∀(S:SE) (ex:Expr),ig S c ex=false):dM Φ Ψ G c:=
 ⟨he,fun hX ex k _ R=>AU (ht _ k) (GJ (he hX ex k R)),fun{S X} hX tg br ex k _ R=>by
   rw[hv,XB,TK]at k
   exact ic (kZ (he hX ex (hi _ _ k) R))⟩
theorem PY(i:Nat):dM Φ Ψ G (.var i):=by
 have he:∀{S:SE} {X:Cx},XOk S Φ Ψ G X->∀ex,aN S false (.var i) ex=true->∀R,VE X S.M R (mo Ψ (.var i)) ex (wE Φ G R (.var i)):=fun{S X} hX ex k R=>by
  have k:=a2 k
  have hm:¬aS S.M i:=m8 (by simpa using k.2)
  rw[ir rfl]
  exact OO (dX hX k.1) hm
 refine⟨he,fun{S X} hX ex k _ R=>AU (fun whole=>?_) (GJ (he hX ex k R)),fun{S X} hX tg br ex k _ R=>?_⟩
 ·have k:=a2 k
  cases ex<;>first|rfl|(have:=k.1;exact ff this)
 ·rcases jP k with k|k
  ·exact ic (kZ (he hX ex (by exact k) R))
  ·rw[B1]at k
   obtain⟨rfl,k2⟩:=k
   have k2:(jG S i ex&&ym S.M i)=true:=k2
   rw[B1]at k2
   exact ic (Uz (GK (dX hX k2.1) (yo k2.2)))
theorem PZ(i:Nat)(π:List pH):dM Φ Ψ G (.own i π):=by
 have ew:∀R,wE Φ G R (.own i π)=fun ε Q=>match look ε i with|some w=>(match cW w π with|some u=>Q u|none=>False)|none=>False:=fun R=>rfl
 have he:∀{S:SE} {X:Cx},XOk S Φ Ψ G X->∀ex,aN S false (.own i π) ex=true->∀R,VE X S.M R (mo Ψ (.own i π)) ex (wE Φ G R (.own i π)):=fun{S X} hX ex k R=>by
  rw[ir rfl,ew]
  exact UP hX k R
 refine⟨he,fun{S X} hX ex k _ R=>AU (fun whole=>?_) (GJ (he hX ex k R)),fun{S X} hX tg br ex k _ R=>?_⟩
 ·rcases(gv k).2 with⟨_,_,_,rfl⟩|⟨_,_,_,_,_,rfl⟩<;>rfl
 ·rcases jP k with k|k
  ·exact ic (kZ (he hX ex (by exact k) R))
  ·rw[B1]at k
   obtain⟨rfl,k2⟩:=k
   rw[ew]
   exact ic (Uz (MX hX k2 R))
theorem P1(i:Int):dM Φ Ψ G (.int i):=by
 refine .mk1 (fun{S X} hX ex k R=>?_) (fun{S ex} env k whole=>?_) (fun S ex k=>by exact k) (fun _ _=>rfl)
 ·obtain⟨c,q,p,rfl,k⟩:=ie k
  cases DD k
  rw[ir rfl]
  exact GN lV fun _ _=>jh _
 ·obtain⟨c,q,p,rfl,k⟩:=ie k
  rfl
theorem UQ(i:Bool):dM Φ Ψ G (.bl i):=by
 refine .mk1 (fun{S X} hX ex k R=>?_) (fun{S ex} env k whole=>?_) (fun S ex k=>by exact k) (fun _ _=>rfl)
 ·obtain⟨c,q,p,rfl,k⟩:=ie k
  cases DD k
  rw[ir rfl]
  exact GN SQ fun _ _=>EG _
 ·obtain⟨c,q,p,rfl,k⟩:=ie k
  rfl
theorem P4(i:Str):dM Φ Ψ G (.str i):=by
 refine .mk1 (fun{S X} hX ex k R=>?_) (fun{S ex} env k whole=>?_) (fun S ex k=>by exact k) (fun _ _=>rfl)
 ·obtain⟨c,q,p,rfl,k⟩:=ie k
  cases DD k
  rw[ir rfl]
  exact GN NL fun _ _=>Um _
 ·obtain⟨c,q,p,rfl,k⟩:=ie k
  rfl
theorem P5:dM Φ Ψ G .aX:=by
 refine .mk1 (fun{S X} hX ex k R=>?_) (fun{S ex} env k whole=>?_) (fun S ex k=>by exact k) (fun _ _=>rfl)
 ·obtain⟨c,q,p,rfl,k⟩:=ie k
  cases DD k
  rw[ir rfl]
  exact GN NK fun _ _=>Uo
 ·obtain⟨c,q,p,rfl,k⟩:=ie k
  rfl
theorem K0(g:Nat):dM Φ Ψ G (.glob g):=by
 refine .mk1 (fun{S X} hX ex k R=>?_) (fun{S ex} env k whole=>?_) (fun S ex k=>by exact k) (fun _ _=>rfl)
 ·obtain⟨x,q,rfl,kk⟩:=oR k
  replace k:=kk
  simp only[B1]at k
  obtain⟨k1,k2⟩:=k
  obtain⟨g1,g2,g3⟩:=dW hX k2
  obtain⟨u,v,h1,h2,h3⟩:=hX.PX g _ (NA.mp k1)
  rw[ir rfl]
  exact GN (JJ g1 h1 h2 g2) h3
 ·obtain⟨x,q,rfl,kk⟩:=oR k
  replace k:=kk
  rfl
theorem A4{K:PySem.W.Frag}{B:Addr->Prop}{H H':Hp}{w:W}{v:V}(h:fH K B H H' .f w v):OR w=true:=by
 obtain⟨ws,p,vs,rfl,_⟩:=h.Ue
 rfl
theorem Hg{S:SE}{a:CE}{l:Expr}(k:ig S a l=true)(z:jH Ψ a=true):False:=by cases a<;>first|exact ff k|exact ff z
theorem P6(op:Operator){a b:CE}(ha:dM Φ Ψ G a)(hb:dM Φ Ψ G b):dM Φ Ψ G (.bin op a b):=by
 refine .mk1 (fun{S X} hX ex k R=>?_) (fun{S ex} env k whole=>?_) (fun S ex k=>by exact k) (fun _ _=>rfl)
 ·obtain⟨l,o,r,pos,rfl,kk⟩:=oS k
  replace k:=kk
  simp only[B1]at k
  obtain⟨⟨k1,k2⟩,k3⟩:=k
  have k1:=DD k1
  subst k1
  show VE X S.M R _ _ fun ε Q=>wE Φ G R a ε fun x=>wE Φ G R b ε fun y=>gE op x y Q
  have bB:∀B H H' w v,Dom B H->Y6 X.K B H H' w v->bw X.K B H' w v:=fun _ _ _ _ _ _ h=>h
  have bM:∀B H H' w v,Dom B H->MO X.K .f B H H' w v->bw X.K B H' w v:=fun _ _ _ _ _ d h=>(fH.rep d h).b
  have bA:=ha.b hX k2 R
  have P7:=hb.b hX k3 R
  have fa:jH Ψ a=true->VE X S.M R .f l (wE Φ G R a):=fun z=>by
   rcases jP k2 with k2|k2
   ·have:=ha.e hX l k2 R
    rw[mw z]at this
    exact this
   ·exact(Hg k2 z).elim
  have fb:jH Ψ b=true->VE X S.M R .f r (wE Φ G R b):=fun z=>by
   rcases jP k3 with k3|k3
   ·have:=hb.e hX r k3 R
    rw[mw z]at this
    exact this
   ·exact(Hg k3 z).elim
  cases op with
  |Add=>
   by_cases za:jH Ψ a=true
   ·rw[mw (show jH Ψ (.bin .Add a b)=true by show(jH Ψ a||jH Ψ b)=true;rw[za];rfl)]
    exact AS (fa za) P7 bM bB fun _ _ _ _ _ _ _ _ _ _ h1 _=>.inl ⟨rfl,.inl (A4 h1)⟩
   ·by_cases zb:jH Ψ b=true
    ·rw[mw (show jH Ψ (.bin .Add a b)=true by show(jH Ψ a||jH Ψ b)=true;rw[zb,Bool.or_true])]
     exact AS bA (fb zb) bB bM fun _ _ _ _ _ _ _ _ _ _ _ h2=>.inl ⟨rfl,.inr (A4 h2)⟩
    ·rw[ir (show jH Ψ (.bin .Add a b)=false by show(jH Ψ a||jH Ψ b)=false;rw[cc _|>.mp za,cc _|>.mp zb];rfl)]
     exact GO bA P7 fun _ _=>.inr rfl
  |Mult=>
   by_cases za:jH Ψ a=true
   ·rw[mw (show jH Ψ (.bin .Mult a b)=true from za)]
    exact AS (fa za) P7 bM bB fun _ _ _ _ _ _ _ _ _ _ h1 _=>.inr ⟨rfl,A4 h1⟩
   ·rw[ir (show jH Ψ (.bin .Mult a b)=false from cc _|>.mp za)]
    exact GO bA P7 fun _ _=>.inr rfl
  |_=>
   rw[ir rfl]
   exact GO bA P7 fun _ _=>.inr rfl
 ·obtain⟨l,o,r,pos,rfl,kk⟩:=oS k
  replace k:=kk
  rfl
theorem P8{a:CE}(ha:dM Φ Ψ G a):dM Φ Ψ G (.neg a):=by
 refine .mk1 (fun{S X} hX ex k R=>?_) (fun{S ex} env k whole=>?_) (fun S ex k=>by exact k) (fun _ _=>rfl)
 ·obtain⟨o,x,pos,rfl,kk⟩:=qy k
  replace k:=kk
  rw[B1]at k
  cases DD k.1
  rw[ir rfl]
  exact OT (ha.s hX k.2 R)
 ·obtain⟨o,x,pos,rfl,kk⟩:=qy k
  replace k:=kk
  rw[B1]at k
  cases DD k.1
  rfl
theorem P9{a:CE}(ha:dM Φ Ψ G a):dM Φ Ψ G (.not a):=by
 have e:∀R,wE Φ G R (.not a)=fun ε Q=>wE Φ G R a ε fun x=>truth x fun b=>Q (.bl (!b)):=fun R=>rfl
 have he:∀{S:SE} {X:Cx},XOk S Φ Ψ G X->∀ex,aN S false (.not a) ex=true->∀R,VE X S.M R (mo Ψ (.not a)) ex (wE Φ G R (.not a)):=fun{S X} hX ex k R=>by
  obtain⟨o,x,pos,rfl,kk⟩:=qy k
  replace k:=kk
  rw[B1]at k
  cases DD k.1
  rw[ir rfl,e]
  exact OU (ha.s hX k.2 R)
 refine⟨he,fun{S X} hX ex k kt R=>?_,fun{S X} hX tg br ex k _ R=>?_⟩
 ·obtain⟨o,x,pos,rfl,kk⟩:=qy k
  replace k:=kk
  rw[B1]at k
  cases DD k.1
  rw[e]
  exact O2 (ha.t hX _ k.2 (by exact kt) R)
 ·have hv:ig S (.not a) ex=false:=rfl
  rw[hv,XB,TK]at k
  exact ic (kZ (he hX ex (by exact k) R))
theorem Qa(op:CmpOp){a b:CE}(ha:dM Φ Ψ G a)(hb:dM Φ Ψ G b):dM Φ Ψ G (.cmp op a b):=by
 have e:∀R,wE Φ G R (.cmp op a b)=fun ε Q=>wE Φ G R a ε fun x=>wE Φ G R b ε fun y=>gg op x y Q:=fun R=>rfl
 have he:∀{S:SE} {X:Cx},XOk S Φ Ψ G X->∀ex,aN S false (.cmp op a b) ex=true->∀R,VE X S.M R .s ex (wE Φ G R (.cmp op a b))/\VT X S.M R ex (wE Φ G R (.cmp op a b)):=fun{S X} hX ex k R=>by
  obtain⟨l,o,r,pos,rfl,kk⟩:=uB k
  replace k:=kk
  simp only[B1,Bool.not_eq_true']at k
  obtain⟨⟨⟨⟨k1,k2⟩,k3⟩,k4⟩,k5⟩:=k
  have k1:=DD k1
  subst k1
  have hm:=F7 r (op:=op) (of_decide_eq_false k2) (of_decide_eq_false k3)
  rw[e]
  exact⟨OV hX.un hm (ha.b hX k4 R) (hb.b hX k5 R),OW hX.un hm (ha.b hX k4 R) (hb.b hX k5 R)⟩
 refine⟨fun hX ex k R=>by rw[ir rfl];exact(he hX ex k R).1,fun hX ex k _ R=>(he hX ex k R).2,fun{S X} hX tg br ex k _ R=>?_⟩
 have hv:ig S (.cmp op a b) ex=false:=rfl
 rw[hv,XB,TK]at k
 exact ic (kZ (he hX ex (by exact k) R).1)
theorem kF{es:List Expr}(h:(!es.isEmpty)=true):es≠[]:=by
 rintro rfl
 cases h
theorem Qc{as:List CE}(ha:tT Φ Ψ G as):dM Φ Ψ G (.and as):=by
 have e:∀R,wE Φ G R (.and as)=Al Φ G R as:=fun R=>rfl
 have he:∀{S:SE} {X:Cx},XOk S Φ Ψ G X->∀ex,aN S false (.and as) ex=true->∀R,VE X S.M R .s ex (wE Φ G R (.and as)):=fun{S X} hX ex k R=>by
  obtain⟨o,es,pos,rfl,kk⟩:=qz k
  replace k:=kk
  rw[B1,B1]at k
  cases DD k.1.1
  rw[e]
  exact ha.av hX _ _ (kF k.1.2) k.2 R
 refine⟨fun hX ex k R=>by rw[ir rfl];exact he hX ex k R,fun{S X} hX ex k kt R=>?_,fun{S X} hX tg br ex k _ R=>?_⟩
 ·obtain⟨o,es,pos,rfl,kk⟩:=qz k
  replace k:=kk
  rw[B1,B1]at k
  cases DD k.1.1
  rw[e]
  exact(ha.at hX _ _ (kF k.1.2) k.2 (by exact kt) R).pt
 ·have hv:ig S (.and as) ex=false:=rfl
  rw[hv,XB,TK]at k
  exact ic (kZ (he hX ex (by exact k) R))
theorem UR{as:List CE}(ha:tT Φ Ψ G as):dM Φ Ψ G (.or as):=by
 have e:∀R,wE Φ G R (.or as)=Nz Φ G R as:=fun R=>rfl
 have he:∀{S:SE} {X:Cx},XOk S Φ Ψ G X->∀ex,aN S false (.or as) ex=true->∀R,VE X S.M R .s ex (wE Φ G R (.or as)):=fun{S X} hX ex k R=>by
  obtain⟨o,es,pos,rfl,kk⟩:=qz k
  replace k:=kk
  rw[B1,B1]at k
  cases DD k.1.1
  rw[e]
  exact ha.ov hX _ _ (kF k.1.2) k.2 R
 refine⟨fun hX ex k R=>by rw[ir rfl];exact he hX ex k R,fun{S X} hX ex k kt R=>?_,fun{S X} hX tg br ex k _ R=>?_⟩
 ·obtain⟨o,es,pos,rfl,kk⟩:=qz k
  replace k:=kk
  rw[B1,B1]at k
  cases DD k.1.1
  rw[e]
  exact(ha.ot hX _ _ (kF k.1.2) k.2 (by exact kt) R).pt
 ·have hv:ig S (.or as) ex=false:=rfl
  rw[hv,XB,TK]at k
  exact ic (kZ (he hX ex (by exact k) R))
theorem US{X:Cx}{M:Ms}{R:Addr->Prop}{m:Md}{e:Expr}{t:WT}{c:CE}(h:VE X M R m e t)(hm:mo Ψ c=m\/mo Ψ c=.s):VE X M R (mo Ψ c) e t:=by
 rcases hm with z|z
 ·rw[z];exact h
 ·rw[z];exact GJ h
theorem Qd{c a b:CE}(hc:dM Φ Ψ G c)(ha:dM Φ Ψ G a)(hb:dM Φ Ψ G b):dM Φ Ψ G (.ite c a b):=by
 have e:∀R,wE Φ G R (.ite c a b)=fun ε Q=>wE Φ G R c ε fun x=>truth x fun k=>if k=true then wE Φ G R a ε Q else wE Φ G R b ε Q:=fun R=>rfl
 have he:∀{S:SE} {X:Cx},XOk S Φ Ψ G X->∀ex,aN S false (.ite c a b) ex=true->∀R,VE X S.M R (mo Ψ (.ite c a b)) ex (wE Φ G R (.ite c a b)):=fun{S X} hX ex k R=>by
  obtain⟨t,x,y,p,rfl,kk⟩:=KZ k
  simp only[B1]at kk
  obtain⟨⟨⟨k1,k2⟩,k3⟩,k4⟩:=kk
  rw[e]
  by_cases z:jH Ψ a=true/\jH Ψ b=true
  ·rw[mw (show jH Ψ (.ite c a b)=true by show(jH Ψ a&&jH Ψ b)=true;rw[z.1,z.2];rfl)]
   have h1:=ha.e hX x k3 R
   have h2:=hb.e hX y k4 R
   rw[mw z.1]at h1
   rw[mw z.2]at h2
   exact GQ (hc.t hX t k1 k2 R) h1 h2
  ·rw[ir (show jH Ψ (.ite c a b)=false by
    show(jH Ψ a&&jH Ψ b)=false
    cases h1:jH Ψ a
    ·rfl
    ·cases h2:jH Ψ b
     ·rfl
     ·exact absurd ⟨h1,h2⟩ z)]
   exact GQ (hc.t hX t k1 k2 R) (ha.s hX k3 R) (hb.s hX k4 R)
 refine⟨he,(fun hX ex k kt R=>by exact ff kt),fun{S X} hX tg br ex k _ R=>?_⟩
 have hv:ig S (.ite c a b) ex=false:=rfl
 rw[hv,XB,TK]at k
 exact ic (kZ (he hX ex (by exact k) R))
theorem Qe{as:List CE}(ha:tT Φ Ψ G as):dM Φ Ψ G (.tup as):=by
 refine .mk1 (fun{S X} hX ex k R=>?_) (fun{S ex} env k whole=>?_) (fun S ex k=>by exact k) (fun _ _=>rfl)
 ·obtain⟨es,q,p,rfl,kk⟩:=fJ k
  rw[ir rfl]
  exact O5 (ha.a hX es kk R)
 ·obtain⟨es,q,p,rfl,kk⟩:=fJ k
  rfl
theorem Qg{as:List CE}(ha:tT Φ Ψ G as):dM Φ Ψ G (.lst as):=by
 refine .mk1 (fun{S X} hX ex k R=>?_) (fun{S ex} env k whole=>?_) (fun S ex k=>by exact k) (fun _ _=>rfl)
 ·obtain⟨es,p,rfl,kk⟩:=yq k
  rw[mw rfl]
  exact O4 (ha.a hX es kk R)
 ·obtain⟨es,p,rfl,kk⟩:=yq k
  rfl
theorem UT{a i:CE}(ha:dM Φ Ψ G a)(hi:dM Φ Ψ G i):dM Φ Ψ G (.ix a i):=by
 refine .mk1 (fun{S X} hX ex k R=>?_) (fun{S ex} env k whole=>?_) (fun S ex k=>by exact k) (fun _ _=>rfl)
 ·obtain⟨v,s,p,rfl,kk⟩:=gG k
  simp only[B1]at kk
  rw[ir rfl]
  exact Uu (vI kk.1.1) (ha.b hX kk.1.2 R) (hi.s hX kk.2 R)
 ·obtain⟨v,s,p,rfl,kk⟩:=gG k
  rfl
theorem MY{lo:CE}(hl:dM Φ Ψ G lo){S:SE}{X:Cx}(hX:XOk S Φ Ψ G X){l:Option Expr}(k:PR (kX lo) (fun x=>aN S false lo x) l=true)(R:Addr->Prop):PO X l (Uv X S.M R fun ε Q=>wE Φ G R lo ε fun y=>JB lo y Q):=by
 cases l with
 |none=>
  have z:kX lo=true:=k
  cases lo with
  |aX=>
   exact Ku
  |_=>exact ff z
 |some x=>
  have k:(!kX lo&&aN S false lo x)=true:=k
  rw[B1]at k
  have e:(fun(ε:Ev) (Q:Option Int->Prop)=>wE Φ G R lo ε fun y=>JB lo y Q)=fun ε Q=>wE Φ G R lo ε fun y=>match y with|.int i=>Q (some i)|_=>False:=by
   have hn:kX lo=false:=by simpa using k.1
   unfold JB
   rw[hn]
   funext ε Q
   congr 1
   funext y
   cases y<;>rfl
  rw[e]
  exact Kv (hl.s hX k.2 R)
theorem UU{a lo hi:CE}(ha:dM Φ Ψ G a)(hl:dM Φ Ψ G lo)(hh:dM Φ Ψ G hi):dM Φ Ψ G (.sl a lo hi):=by
 refine .mk1 (fun{S X} hX ex k R=>?_) (fun{S ex} env k whole=>?_) (fun S ex k=>by exact k) (fun _ _=>rfl)
 ·obtain⟨v,l,r,q,p,rfl,kk⟩:=Cu k
  simp only[B1]at kk
  rw[mw rfl]
  exact Uw (ha.b hX kk.1.1 R) (MY hl hX kk.1.2 R) (MY hh hX kk.2 R)
 ·obtain⟨v,l,r,q,p,rfl,kk⟩:=Cu k
  rfl
theorem K1(f:Nat){as:List CE}(ha:tT Φ Ψ G as):dM Φ Ψ G (.call f as):=by
 refine .mk1 (fun{S X} hX ex k R=>?_) (fun{S ex} env k whole=>?_) (fun S ex k=>by exact k) (fun _ _=>rfl)
 ·obtain⟨x,q,es,p,rfl,kk⟩:=aV k
  simp only[B1]at kk
  obtain⟨⟨⟨⟨⟨k1,k2⟩,k3⟩,k5⟩,k6⟩,k4⟩:=kk
  obtain⟨g1,g2,g3⟩:=dW hX k2
  obtain⟨fv,n,kl,hm,F,hr,hn⟩:=hX.fns f x (NA.mp k1) (by simpa using k6)
  have F:eV X.prog X.w X.K X.mg X.base kl fv n (MS X.K n (Ψ f) (Φ f)):=by
   rw[←hX.MW]at k5
   cases hp:Ψ f<;>rw[hp]at k5 F<;>first|exact F|exact ff k5
  have st:=oU k4
  cases es with
  |nil=>exact ff k3
  |cons e es=>
   rw[List.all_cons,B1]at st
   have h:=Cp (M:=S.M) (R:=R) (p:=q) (pos:=p) F hr g1 hm hn (ha.a hX _ k4 R) g2 (aP st.1 _ _) (cZ st.2 _ _)
   refine US h ?_
   by_cases z:jH Ψ (.call f as)=true
   ·rw[mw z]
    left
    have z:(match Ψ f with|.f=>true|_=>false)=true:=z
    cases hp:Ψ f<;>rw[hp]at z<;>first|rfl|exact ff z
   ·exact .inr (ir (by simpa using z))
 ·obtain⟨x,q,es,p,rfl,kk⟩:=aV k
  rfl
theorem yv{X:Cx}(hc:X.calm=true):∀b:BI,b≠.any->(∃id,bootBuiltins (UN b)=some (.builtin id)/\gj X (.builtin id) (R9 X.K b))\/(∃id,bootBuiltins (UN b)=some (.type id)/\gj X (.type id) (R9 X.K b))
 |.len,_=>.inl ⟨"len",rfl,cw_len.r⟩
 |.abs,_=>.inl ⟨"abs",rfl,cw_abs.r⟩
 |.max2,_=>.inl ⟨"max",rfl,(cw_max hc).r⟩
 |.min2,_=>.inl ⟨"min",rfl,(cw_min hc).r⟩
 |.sum,_=>.inl ⟨"sum",rfl,(cw_sum hc).r⟩
 |.all,_=>.inl ⟨"all",rfl,(cw_all hc).r⟩
 |.list,_=>.inr ⟨"list",rfl,cw_list.r⟩
 |.tuple,_=>.inr ⟨"tuple",rfl,cw_tuple.r⟩
 |.any,h=>absurd rfl h
theorem gw{S:SE}{a:CE}{as:List CE}{es:List Expr}(k:gY S (a::as) es=true):∃e r,es=e::r/\aN S false a e=true/\gY S as r=true:=by
 cases es with
 |nil=>exact ff k
 |cons e r=>exact⟨e,r,rfl,a2 k⟩
theorem rL{S:SE}{es:List Expr}(k:gY S [] es=true):es=[]:=Hk.mp k
theorem Qh(b:BI){as:List CE}(ha:tT Φ Ψ G as)(hall:∀c∈as,dM Φ Ψ G c):dM Φ Ψ G (.blt b as):=by
 refine .mk1 (fun{S X} hX ex k R=>?_) (fun{S ex} env k whole=>?_) (fun S ex k=>by exact k) (fun _ _=>rfl)
 ·obtain⟨x,q,es,p,rfl,kk⟩:=aV k
  simp only[B1]at kk
  obtain⟨⟨⟨⟨⟨k1,k2⟩,k3⟩,k4⟩,k5⟩,k6⟩:=kk
  have k1:=DD k1
  obtain⟨g1,g2,g3⟩:=dW hX k2
  have hz:=hX.Ai x (by simpa using k3)
  have st:=rJ k6
  cases es with
  |nil=>cases b<;>exact ff k4
  |cons e es=>
   rw[List.all_cons,B1]at st
   ·have hm:mo Ψ (.blt b as)=Ux b:=by
     cases b<;>first|rfl|exact ir rfl|exact mw rfl
    rw[hm]
    rcases yv hX.calm b (by rintro rfl;exact ff k4)with⟨id,hv,hc⟩|⟨id,hv,hc⟩
    ·exact O6 hc g1 hz (by rw[k1];exact hv) (ha.b hX _ k6 R) g3 g2 (aP st.1 _ _) (cZ st.2 _ _)
    ·exact O7 hc g1 hz (by rw[k1];exact hv) (ha.b hX _ k6 R) g3 g2 (aP st.1 _ _) (cZ st.2 _ _)
 ·obtain⟨x,q,es,p,rfl,kk⟩:=aV k
  rfl
theorem K2{a:CE}(ha:dM Φ Ψ G a):dM Φ Ψ G (.bits a):=by
 refine .mk1 (fun{S X} hX ex k R=>?_) (fun{S ex} env k whole=>?_) (fun S ex k=>by exact k) (fun _ _=>rfl)
 ·obtain⟨o,m,ap,cp,rfl,kk⟩:=mq k
  simp only[B1]at kk
  obtain⟨⟨⟨k1,k2⟩,k4⟩,k3⟩:=kk
  have k1:=DD k1
  subst k1
  rw[ir rfl]
  exact Kw (ha.s hX k3 R) (uE k4 _ _ _) k2
 ·obtain⟨o,m,ap,cp,rfl,kk⟩:=mq k
  rfl
theorem Qi(i g f:Nat)(as:List CE):dM Φ Ψ G (.GD i g f as):=.mk1 (fun hX ex k R=>by cases k) (fun env k whole=>by cases k) (fun S ex k=>by cases k) (fun _ _=>rfl)
theorem Qj(i:Nat):dM Φ Ψ G (.pop i):=.mk1 (fun hX ex k R=>by cases k) (fun env k whole=>by cases k) (fun S ex k=>by cases k) (fun _ _=>rfl)
theorem Qk{as:List CE}(hall:∀c∈as,dM Φ Ψ G c):dM Φ Ψ G (.oz as):=by
 refine⟨fun{S X} hX ex k R=>?_,fun{S X} hX ex k _ R=>?_,fun{S X} hX tg br ex k _ R=>?_⟩
 ·obtain⟨x,q,es,p,rfl,kk⟩:=aV k
  simp at kk
 ·obtain⟨x,q,es,p,rfl,kk⟩:=aV k
  simp at kk
 ·have hv:ig S (.oz as) ex=false:=rfl
  rw[hv,XB,TK]at k
  obtain⟨x,q,es,p,rfl,kk⟩:=aV k
  simp only[B1]at kk
  obtain⟨⟨⟨⟨⟨_,k1⟩,k2⟩,k3⟩,k4⟩,k5⟩:=kk
  have k1:=DD k1
  subst k1
  obtain⟨g1,g2,g3⟩:=dW hX k2
  have hz:=hX.Ai _ (by simpa using k3)
  rcases as with _|⟨a,_|⟨b,_|⟨c,_|⟨d,as⟩⟩⟩⟩
  ·simp at k4
  ·obtain⟨e,r,rfl,k6,k7⟩:=gw k5
   cases rL k7
   exact Kz (M:=S.M) (R:=R) (br:=br) (tg:=tg) (p:=q) (pos:=p) g1 hz ((hall a FK).s hX k6 R) (aP (bH (.inl k6)) _ _)
  ·obtain⟨e,r,rfl,k6,k7⟩:=gw k5
   obtain⟨f,r,rfl,k8,k9⟩:=gw k7
   cases rL k9
   exact KA (M:=S.M) (R:=R) (br:=br) (tg:=tg) (p:=q) (pos:=p) g1 hz ((hall a (by simp)).s hX k6 R) ((hall b (by simp)).s hX k8 R) (aP (bH (.inl k6)) _ _) (aP (bH (.inl k8)) _ _)
  ·obtain⟨e,r,rfl,k6,k7⟩:=gw k5
   obtain⟨f,r,rfl,k8,k9⟩:=gw k7
   obtain⟨g,r,rfl,V1,k11⟩:=gw k9
   cases rL k11
   exact KC (M:=S.M) (R:=R) (br:=br) (tg:=tg) (p:=q) (pos:=p) g1 hz ((hall a (by simp)).s hX k6 R) ((hall b (by simp)).s hX k8 R) ((hall c (by simp)).s hX V1 R) (aP (bH (.inl k6)) _ _) (aP (bH (.inl k8)) _ _) (aP (bH (.inl V1)) _ _)
  ·simp at k4
theorem yw{f:Expr->Bool}{es:List Expr}(h:PU f es=true):∃e,es=[e]/\f e=true:=gF h
theorem Ql{a:CE}(ha:dM Φ Ψ G a):dM Φ Ψ G (.vn a):=by
 refine⟨fun{S X} hX ex k R=>?_,fun{S X} hX ex k _ R=>?_,fun{S X} hX tg br ex k ht R=>?_⟩
 ·obtain⟨x,q,es,p,rfl,kk⟩:=aV k
  simp at kk
 ·obtain⟨x,q,es,p,rfl,kk⟩:=aV k
  simp at kk
 ·have hv:ig S (.vn a) ex=false:=rfl
  rw[hv,XB,TK]at k
  obtain⟨x,q,es,p,rfl,kk⟩:=aV k
  simp only[B1]at kk
  obtain⟨⟨⟨⟨_,k1⟩,k2⟩,k3⟩,k5⟩:=kk
  have k1:=DD k1
  subst k1
  obtain⟨e,rfl,k5⟩:=yw k5
  obtain⟨g1,g2,g3⟩:=dW hX k2
  obtain⟨elts,kk,tp,rfl⟩:=ht rfl
  exact Pa g1 (hX.Ai _ (by simpa using k3)) (kZ (ha.e hX e k5 R)) (aP (bH (.inl k5)) _ _)
theorem Qm{a:CE}(ha:dM Φ Ψ G a):dM Φ Ψ G (.rev a):=by
 refine⟨fun{S X} hX ex k R=>?_,fun{S X} hX ex k _ R=>?_,fun{S X} hX tg br ex k ht R=>?_⟩
 ·obtain⟨x,q,es,p,rfl,kk⟩:=aV k
  simp at kk
 ·obtain⟨x,q,es,p,rfl,kk⟩:=aV k
  simp at kk
 ·have hv:ig S (.rev a) ex=false:=rfl
  rw[hv,XB,TK]at k
  obtain⟨x,q,es,p,rfl,kk⟩:=aV k
  simp only[B1]at kk
  obtain⟨⟨⟨⟨_,k1⟩,k2⟩,k3⟩,k5⟩:=kk
  have k1:=DD k1
  subst k1
  obtain⟨e,rfl,k5⟩:=yw k5
  obtain⟨g1,g2,g3⟩:=dW hX k2
  exact Pb g1 (hX.Ai _ (by simpa using k3)) (kZ (ha.e hX e k5 R)) (aP (bH (.inl k5)) _ _)
theorem rM{f:NameKind->NameKind}:∀(l:List (Str×NameKind)) (y:Str),(l.map fun p=>(p.1,f p.2)).lookup y=(l.lookup y).map f
 |[],_=>rfl
 |(n,k)::r,y=>by
  rw[On,List.lookup_cons,List.lookup_cons]
  by_cases e:(y==n)=true
  ·rw[e];rfl
  ·rw[cc]at e
   rw[e]
   exact rM r y
theorem vJ{sc a b:Scope}{N N' xs:List Str}(h:∀x,a.names.lookup x=b.names.lookup x):gf sc a N N' xs=gf sc b N N' xs:=by
 unfold gf
 simp only[h]
theorem vK{S:SE}{X:Cx}(hX:XOk S Φ Ψ G X){scope:Scope}{xs:List Str}(ho:gf scope X.env.scope X.N (mask xs S.N) xs=true)(hn:(xs++mask xs S.N).Nodup){pins:List (Addr×Obj)}{σ:St}{H:Hp}{s:Shared}(I:Inv X pins σ H s)(C:Addr)(s0:Shared)(H0:Hp)(fp:List Addr):
 XOk (S.comp scope xs) Φ Ψ G (aI X scope C xs (mask xs S.N) s0 H0 fp):=by
 refine⟨rfl,hn,hX.calm,hX.un,fun x=>?_,hX.fns,hX.PV,hX.MW,hX.PX,hX.Ai,hX.kit⟩
 show(relabel scope X.env).names.lookup x=_
 rw[iK I (gC.of ho)]
 show _=(scope.names.map fun p=>(p.1,if p.2=.free then NameKind.cell else p.2)).lookup x
 rw[rM (f:=fun k=>if k=.free then NameKind.cell else k)]
noncomputable def iu(X:Cx)(i:Nat)(x:Str):Prop:=X.N[i]?=some x/\Loc X.env.scope x/\(X.fn x=true\/X.env.scope.names.lookup x=some .local)
noncomputable def dD(X:Cx):List Nat->List Str->Prop
 |[],xs=>xs=[]
 |i::is,xs=>∃x r,xs=x::r/\iu X i x/\dD X is r
theorem M0{X:Cx}(hN:X.N.Nodup){i:Nat}{x:Str}{p:Pos}(h:iu X i x):PG X (.Name x p) (jy i):=JM hN h.1 h.2.1 h.2.2
theorem Hh{X:Cx}(hN:X.N.Nodup):∀(es:List Expr) (xs:List Str) (ts:List Nat),EN es=some xs->dD X ts xs->S8 X es (UA ts)/\(assignEach es X.env).length=ts.length/\(assignEach es X.env).findIdx? (·.1)=none
 |[],xs,ts,h,k=>by
  cases h
  cases ts with
  |nil=>exact⟨JN,rfl,rfl⟩
  |cons i is=>
   obtain⟨x,r,e,_⟩:=k
   cases e
 |.Name x p::es,xs,ts,h,k=>by
  rw[EN]at h
  obtain⟨l,hl,rfl⟩:=Pv.mp h
  cases ts with
  |nil=>cases k
  |cons i is=>
   obtain⟨x',r,e,h1,h2⟩:=k
   cases e
   obtain⟨q1,q2,q3⟩:=Hh hN es l is hl h2
   have e:assignEach (.Name x p::es) X.env=(false,assign (.Name x p) X.env)::assignEach es X.env:=rfl
   refine⟨F3 (M0 hN h1) q1 rfl,by rw[e,List.length_cons,q2,List.length_cons],?_⟩
   rw[e,List.findIdx?_cons,q3]
   rfl
 |.BoolOp ..::es,xs,ts,h,k=>by cases h
 |.NamedExpr ..::es,xs,ts,h,k=>by cases h
 |.BinOp ..::es,xs,ts,h,k=>by cases h
 |.UnaryOp ..::es,xs,ts,h,k=>by cases h
 |.Lambda ..::es,xs,ts,h,k=>by cases h
 |.IfExp ..::es,xs,ts,h,k=>by cases h
 |.Dict ..::es,xs,ts,h,k=>by cases h
 |.Set ..::es,xs,ts,h,k=>by cases h
 |.ListComp ..::es,xs,ts,h,k=>by cases h
 |.SetComp ..::es,xs,ts,h,k=>by cases h
 |.DictComp ..::es,xs,ts,h,k=>by cases h
 |.GeneratorExp ..::es,xs,ts,h,k=>by cases h
 |.Await ..::es,xs,ts,h,k=>by cases h
 |.Yield ..::es,xs,ts,h,k=>by cases h
 |.YieldFrom ..::es,xs,ts,h,k=>by cases h
 |.Compare ..::es,xs,ts,h,k=>by cases h
 |.Call ..::es,xs,ts,h,k=>by cases h
 |.FormattedValue ..::es,xs,ts,h,k=>by cases h
 |.JoinedStr ..::es,xs,ts,h,k=>by cases h
 |.Constant ..::es,xs,ts,h,k=>by cases h
 |.Attribute ..::es,xs,ts,h,k=>by cases h
 |.Subscript ..::es,xs,ts,h,k=>by cases h
 |.Starred ..::es,xs,ts,h,k=>by cases h
 |.List ..::es,xs,ts,h,k=>by cases h
 |.Tuple ..::es,xs,ts,h,k=>by cases h
 |.Slice ..::es,xs,ts,h,k=>by cases h
theorem K3{X:Cx}(hc:X.calm=true)(hN:X.N.Nodup){tg:Expr}{one:Bool}{xs:List Str}{ts:List Nat}(h:Sd tg=some (one,xs))(k:dD X ts xs):PG X tg (gT X.K one ts):=by
 cases tg with
 |Name x p=>
  cases h
  match ts,k with
  |[i],k=>
   obtain⟨x',r,e,h1,h2⟩:=k
   cases e
   exact M0 hN h1
  |[],k=>cases k
  |_::_::_,k=>
   obtain⟨x',r,e,h1,h2⟩:=k
   cases e
   obtain⟨x2,r2,e2,_⟩:=h2
   cases e2
 |Tuple es kk p=>
  rw[Sd]at h
  obtain⟨l,hl,e⟩:=Pv.mp h
  cases e
  obtain⟨q1,q2,q3⟩:=Hh hN es xs ts hl k
  have:gT X.K false ts=NV X.K ts.length (UA ts):=by cases ts<;>rfl
  rw[this]
  exact NW hc q1 q2 q3
 |_=>exact nn h
theorem pK{X:Cx}:∀(xs:List Str) (n:Nat),(∀k x,xs[k]?=some x->iu X (n+k) x)->dD X ((List.range xs.length).map (n+·)) xs
 |[],n,_=>by simp[dD]
 |x::xs,n,h=>by
  rw[List.length_cons,List.range_succ_eq_map,On]
  refine⟨x,xs,rfl,h 0 x rfl,?_⟩
  have:=pK xs (n+1) fun k y hy=>by
   have:=h (k+1) y (by simpa using hy)
   rw[show n+1+k=n+(k+1) by lia]
   exact this
  rw[List.map_map]
  have e:(List.range xs.length).map (n+1+·)=(List.range xs.length).map ((n+·)∘Nat.succ):=List.map_congr_left fun k _=>by
   show n+1+k=n+(k+1)
   lia
  rw[←e]
  exact this
theorem yx{iter:Expr}(h:A3 iter=true)(env:Env)(x:Value):foldedSetIterable iter env x=pure x:=by
 cases iter<;>first|rfl|exact ff h
theorem Cy{ts:List Nat}{one:Bool}{n:Nat}{i c x:CE}{R:Addr->Prop}:wE Φ G R (.comp ts one n i c x)=fun ε Q=>wE Φ G R i ε fun z=>items z fun ws=>qi (fun w K=>wT one ts w (List.replicate n none++ε) fun ε'=>wE Φ G (fun _=>False) c ε' fun x'=>truth x' fun k=>if k=true then wE Φ G (fun _=>False) x ε' fun y=>K (some y)else K none) ws [] fun l=>Q (.lst l):=rfl
theorem rN{ts:List Nat}{one:Bool}{n:Nat}{i c x:CE}(hi:dM Φ Ψ G i)(hc:dM Φ Ψ G c)(hx:dM Φ Ψ G x){S:SE}{X:Cx}(hX:XOk S Φ Ψ G X){ex:Expr}(k:aN S false (.comp ts one n i c x) ex=true)(R:Addr->Prop):
 ∃elt tg iter ifs scope p xs,ex=.ListComp elt [⟨tg,iter,ifs,0⟩] scope p/\n=xs.length/\(∀j∈ts,j<xs.length)/\gf scope X.env.scope X.N (mask xs S.N) xs=true/\(∀z,foldedSetIterable iter X.env z=pure z)/\PI X tg iter (GU X S.M R true (wE Φ G R i))/\
  ∀pins s σ H,Inv X pins σ H s->(∀C s0 H0 fp,PG (aI X scope C xs (mask xs S.N) s0 H0 fp) tg (gT X.K one ts))/\(∀C s0 H0 fp,PF (aI X scope C xs (mask xs S.N) s0 H0 fp) ifs (Xm X.K (up S.M xs.length) (wE Φ G (fun _=>False) c)))/\
   ∀C s0 H0 fp,PE (aI X scope C xs (mask xs S.N) s0 H0 fp) elt (Xl X.K (up S.M xs.length) (wE Φ G (fun _=>False) x)):=by
 obtain⟨elt,tg,iter,ifs,scope,p,rfl,kk⟩:=uC k
 unfold yu at kk
 split at kk
 rotate_left
 ·cases kk
 rename_i o xs Qn
 simp only[B1]at kk
 obtain⟨⟨⟨⟨⟨⟨⟨⟨⟨k1,k2⟩,k3⟩,k4⟩,k5⟩,k6⟩,k7⟩,k8⟩,k9⟩,V1⟩:=kk
 have k1:=NA.mp k1
 have k2:=NA.mp k2
 have k3:=NA.mp k3
 subst k1 k2 k3
 have hnd:=DD k5
 have ho:gf scope X.env.scope X.N (mask xs S.N) xs=true:=by
  rw[hX.hN,vJ (b:=S.sc) fun y=>hX.nk y]
  exact k4
 have O:=gC.of ho
 refine⟨elt,tg,iter,ifs,scope,p,xs,rfl,rfl,fun j hj=>eA.mp hj,ho,yx k6 _,hi.i hX tg true iter (by rw[Bool.true_and];exact k8) (fun z=>?_) R,fun pins s σ H I=>⟨fun C s0 H0 fp=>?_,fun C s0 H0 fp=>?_,fun C s0 H0 fp=>?_⟩⟩
 ·have:one=false:=by
   rw[z]at k7
   simpa using k7
  subst this
  cases tg with
  |Tuple es kk p=>exact⟨_,_,_,rfl⟩
  |Name y p=>cases Qn
  |_=>exact nn Qn
 ·have Se:=vK hX ho hnd I C s0 H0 fp
  refine K3 Se.calm Se.nd Qn ?_
  have:=pK (X:=aI X scope C xs (mask xs S.N) s0 H0 fp) xs 0 fun k y hy=>?_
  ·simpa using this
  ·have hm:y∈xs:=Oy hy
   have l1:(aI X scope C xs (mask xs S.N) s0 H0 fp).env.scope.names.lookup y=some .local:=by
    show(relabel scope X.env).names.lookup y=_
    rw[iK I O,(O.own y hm).1]
    rfl
   refine⟨?_,.inl l1,.inr l1⟩
   show(xs++mask xs S.N)[0+k]?=some y
   rw[Nat.zero_add,IH (GM.mp hy).1]
   exact hy
 ·have Se:=vK hX ho hnd I C s0 H0 fp
  match ifs,k9 with
  |[],k9=>
   have k9:MV c=true:=k9
   cases c with
   |bl b=>
    have:b=true:=k9
    subst this
    refine PF.imp Oo ?_
    rintro σ H Q ⟨A,H0,ε,P,S',h,k⟩
    obtain⟨b,e,q⟩:=k _ H h (az.refl H)
    cases e
    exact q
   |_=>exact ff k9
  |[f],k9=>
   have k9:(aN (S.comp scope xs) false c f&&JC c)=true:=k9
   rw[B1]at k9
   exact PF.imp (Oq (hc.t Se f k9.1 k9.2 fun _=>False))<|by rintro σ H Q ⟨A,H0,ε,P,S',h,k⟩;exact⟨A,H0,ε,P,S',.none,h,k⟩
  |_::_::_,k9=>exact ff k9
 ·have Se:=vK hX ho hnd I C s0 H0 fp
  exact PE.imp (hx.s Se V1 fun _=>False)<|by rintro σ H Q ⟨A,H0,ε,P,S',h,k⟩;exact⟨A,H0,ε,P,S',.none,h,fun w v H' pw s r=>k w v H' pw s r.bO⟩
theorem K4(ts:List Nat)(one:Bool)(n:Nat){i c x:CE}(hi:dM Φ Ψ G i)(hc:dM Φ Ψ G c)(hx:dM Φ Ψ G x):dM Φ Ψ G (.comp ts one n i c x):=by
 refine .mk1 (fun{S X} hX ex k R=>?_) (fun{S ex} env k whole=>?_) (fun S ex k=>by exact k) (fun _ _=>rfl)
 ·obtain⟨elt,tg,iter,ifs,scope,p,xs,rfl,rfl,hlt,ho,hfs,T7,hr⟩:=rN hi hc hx hX k R
  rw[mw rfl]
  rw[Cy]
  intro pins s σ H Q I hw
  obtain⟨q1,q2,q3⟩:=hr pins s σ H I
  exact KD hX.calm ho hlt T7 q1 q2 q3 hfs pins s σ H Q I hw
 ·obtain⟨elt,tg,iter,ifs,scope,p,rfl,kk⟩:=uC k
  rfl
theorem Qo:tT Φ Ψ G []:=by
 have en:∀{S:SE} {es:List Expr},gY S [] es=true->es=[]:=fun{S es} h=>by
  exact Hk.mp h
 have enb:∀{S:SE} {es:List Expr},uD S [] es=true->es=[]:=fun{S es} h=>by
  exact Hk.mp h
 refine⟨fun hX es k R=>?_,fun hX es k R=>?_,fun hX es pos hn k R=>absurd (en k) hn,fun hX es pos hn k R=>absurd (en k) hn,fun hX es pos hn k _ R=>absurd (en k) hn,fun hX es pos hn k _ R=>absurd (en k) hn⟩
 ·rw[en k]
  exact O3
 ·rw[enb k]
  exact Ks
theorem K5{a:CE}{as:List CE}(ha:dM Φ Ψ G a)(hs:tT Φ Ψ G as):tT Φ Ψ G (a::as):=by
 have ec:∀{S:SE} {es:List Expr},gY S (a::as) es=true->∃e r,es=e::r/\aN S false a e=true/\gY S as r=true:=fun{S es} h=>by
  rw[gY]at h
  cases es with
  |nil=>exact ff h
  |cons e r=>
   rw[yt,B1]at h
   exact⟨e,r,rfl,h.1,h.2⟩
 have ea:∀R,wA Φ G R (a::as)=fun ε Q=>wE Φ G R a ε fun x=>wA Φ G R as ε fun xs=>Q (x::xs):=fun R=>rfl
 refine⟨fun hX es k R=>?_,fun{S X} hX es k R=>?_,fun{S X} hX es pos hn k R=>?_,fun{S X} hX es pos hn k R=>?_,fun{S X} hX es pos hn k kt R=>?_,fun{S X} hX es pos hn k kt R=>?_⟩
 ·obtain⟨e,r,rfl,h1,h2⟩:=ec k
  rw[ea]
  exact Kr (aP (bH (.inl h1)) _ _) (ha.s hX h1 R) (hs.a hX r h2 R)
 ·rw[uD]at k
  cases es with
  |nil=>exact ff k
  |cons e r=>
   rw[yt,B1]at k
   rw[ea]
   exact GR (aP (bH (jP k.1)) _ _) (ha.b hX k.1 R) (hs.b hX r k.2 R)
 ·obtain⟨e,r,rfl,h1,h2⟩:=ec k
  cases as with
  |nil=>
   have:r=[]:=by
    exact Hk.mp h2
   subst this
   exact FU (ha.s hX h1 R)
  |cons b bs=>
   cases r with
   |nil=>exact ff h2
   |cons e2 r=>exact OX (ha.s hX h1 R) (hs.av hX (e2::r) pos (by simp) h2 R)
 ·obtain⟨e,r,rfl,h1,h2⟩:=ec k
  cases as with
  |nil=>
   have:r=[]:=by
    exact Hk.mp h2
   subst this
   exact FU (ha.s hX h1 R)
  |cons b bs=>
   cases r with
   |nil=>exact ff h2
   |cons e2 r=>exact Us (ha.s hX h1 R) (hs.ov hX (e2::r) pos (by simp) h2 R)
 ·obtain⟨e,r,rfl,h1,h2⟩:=ec k
  have kt:=a2 kt
  cases as with
  |nil=>
   have:r=[]:=by
    exact Hk.mp h2
   subst this
   exact Kq (ha.t hX e h1 kt.1 R)
  |cons b bs=>
   cases r with
   |nil=>exact ff h2
   |cons e2 r=>exact OZ (ha.t hX e h1 kt.1 R) (hs.at hX (e2::r) pos (by simp) h2 kt.2 R)
 ·obtain⟨e,r,rfl,h1,h2⟩:=ec k
  have kt:=a2 kt
  cases as with
  |nil=>
   have:r=[]:=by
    exact Hk.mp h2
   subst this
   exact OY (ha.t hX e h1 kt.1 R)
  |cons b bs=>
   cases r with
   |nil=>exact ff h2
   |cons e2 r=>exact Ut (ha.t hX e h1 kt.1 R) (hs.ot hX (e2::r) pos (by simp) h2 kt.2 R)
variable(Φ Ψ G)
mutual
theorem snd:∀c:CE,dM Φ Ψ G c
 |.var i=>PY i
 |.int i=>P1 i
 |.bl b=>UQ b
 |.str x=>P4 x
 |.aX=>P5
 |.glob g=>K0 g
 |.bin op a b=>P6 op (snd a) (snd b)
 |.neg a=>P8 (snd a)
 |.not a=>P9 (snd a)
 |.cmp op a b=>Qa op (snd a) (snd b)
 |.and as=>Qc (qm as).1
 |.or as=>UR (qm as).1
 |.ite c a b=>Qd (snd c) (snd a) (snd b)
 |.tup as=>Qe (qm as).1
 |.lst as=>Qg (qm as).1
 |.ix a i=>UT (snd a) (snd i)
 |.sl a lo hi=>UU (snd a) (snd lo) (snd hi)
 |.call f as=>K1 f (qm as).1
 |.blt b as=>Qh b (qm as).1 (qm as).2
 |.bits a=>K2 (snd a)
 |.comp ts one n i c x=>K4 ts one n (snd i) (snd c) (snd x)
 |.oz as=>Qk (qm as).2
 |.vn a=>Ql (snd a)
 |.rev a=>Qm (snd a)
 |.pop i=>Qj i
 |.own i π=>PZ i π
 |.GD i g f as=>Qi i g f as
theorem qm:∀cs:List CE,tT Φ Ψ G cs/\∀c∈cs,dM Φ Ψ G c
 |[]=>⟨Qo,by simp⟩
 |c::cs=>⟨K5 (snd c) (qm cs).1,fun d hd=>by
  rcases FV.mp hd with e|h
  ·rw[e];exact snd c
  ·exact(qm cs).2 d h⟩
end
end
noncomputable def Sg(S:SE)(i:Nat)(x:Str):Bool:=S.N[i]?==some x&&(S.nk.lookup x==some .local||S.nk.lookup x==some .cell)
noncomputable def A5(S:SE):List Nat->List Str->Bool
 |[],xs=>xs.isEmpty
 |i::is,xs=>match xs with
  |x::r=>Sg S i x&&A5 S is r
  |[]=>false
noncomputable def K6(S:SE)(ts:List Nat):Bool:=ts.all fun i=>!yk S.M i
noncomputable def SE.less(S:SE)(i:Nat):SE:={S with M:=S.M.filter (·.1 !=i)}
noncomputable def SE.Cz(S:SE)(ts:List Nat):SE:={S with M:=S.M.filter fun x=>!ts.contains x.1}
noncomputable def SE.bare(S:SE):SE:={S with M:=[]}
noncomputable def A6:Expr->Bool
 |.Tuple _ _ _=>false
 |_=>true
noncomputable def CA:Expr->Bool
 |.ListComp _ _ _ _=>false
 |_=>true
noncomputable def Sh(S:SE)(ts vs:List Expr):Option (Option (List Str)):=
 if !(ts.length==2||ts.length==3)||vs.length !=ts.length then some none
 else if vs.any fun|.Starred ..=>true|_=>false then some none
 else
  let line:=(ts.head?.map (·.pos.line)).getD 0
  let names:=ts.filterMap fun
   |.Name id pos=>if S.nk.lookup id==some .local&&pos.line==line then some id else none
   |_=>none
  if names.length !=ts.length||names.eraseDups.length !=names.length then some none
  else if vs.all (foldedForSure 8)then some none
  else if vs.all (constantsAlone 8)then none
  else some (some names)
noncomputable def EO(f:List Expr->Expr->Bool):Stmt->Bool
 |.Assign ts v _=>f ts v
 |_=>false
noncomputable def Zj(f:Expr->List Stmt->List Stmt->Bool):Stmt->Bool
 |.While c a b _=>f c a b
 |_=>false
noncomputable def Zk(f:Expr->Expr->List Stmt->List Stmt->Bool):Stmt->Bool
 |.For t i a b _=>f t i a b
 |_=>false
noncomputable def K7(f:Expr->Bool):Stmt->Bool
 |.Expr v _=>f v
 |_=>false
noncomputable def Hi(f:Str->Pos->Expr->Bool):Stmt->Bool:=EO fun ts v=>o1 (Xv fun x p=>f x p v) ts
noncomputable def Hj(f:List Expr->Expr->Bool):Stmt->Bool:=EO fun ts v=>o1 (AY fun es=>f es v) ts
noncomputable def M1(f:List Expr->List Expr->Bool):Stmt->Bool:=EO fun ts v=>o1 (AY fun es=>AY (fun vs=>f es vs) v) ts
noncomputable def M3(f:Expr->Expr->Expr->Bool):Stmt->Bool:=EO fun ts v=>o1 (EM fun o k=>f o k v) ts
noncomputable def UW(f:Expr->Str->Pos->Pos->Expr->Bool):Stmt->Bool:=K7 (yp fun g es k c=>k&&o1 (fun v=>EL (fun o m a=>f o m a c v) g) es)
noncomputable def K8(n:Bool)(f:Expr->Bool):Stmt->Bool
 |.Return (some v) _=>f v
 |.Return none _=>n
 |_=>false
noncomputable def UX(f:Expr->List Stmt->List Stmt->Bool):Stmt->Bool
 |.If c a b _=>f c a b
 |_=>false
noncomputable def UY(f:Expr->List Stmt->Bool):Stmt->Bool:=Zj fun c a b=>b.isEmpty&&f c a
noncomputable def UZ(f:Expr->Expr->List Stmt->Bool):Stmt->Bool:=Zk fun t i a b=>b.isEmpty&&f t i a
noncomputable def Xz:Stmt->Bool
 |.Break _=>true
 |_=>false
noncomputable def Qp(f:Stmt->Bool)(g:List Stmt->Bool):List Stmt->Bool
 |e::es=>f e&&g es
 |[]=>false
mutual
noncomputable def ES:Md->Md->Bool
 |.s,m=>KU m
 |.f,m=>UJ m
 |.t a,m=>match m with
  |.t b=>A7 a b
  |_=>false
 |.o fs a,m=>match m with
  |.o gs b=>decide (fs=gs)&&A7 a b
  |_=>false
 |.io a,m=>match m with
  |.io b=>ES a b
  |_=>false
noncomputable def A7:List Md->List Md->Bool
 |[],l=>l.isEmpty
 |a::as,l=>match l with
  |b::bs=>ES a b&&A7 as bs
  |[]=>false
end
mutual
theorem vL:∀{a b:Md},ES a b=true->a=b
 |.s,m,h=>by rw[ES]at h;cases m<;>first|rfl|exact ff h
 |.f,m,h=>by rw[ES]at h;cases m<;>first|rfl|exact ff h
 |.t a,m,h=>by
  cases m with
  |t b=>
   simp only[ES]at h
   rw[vM h]
  |_=>simp[ES]at h
 |.o fs a,m,h=>by
  cases m with
  |o gs b=>
   simp only[ES,B1]at h
   rw[DD h.1,vM h.2]
  |_=>simp[ES]at h
 |.io a,m,h=>by
  cases m with
  |io b=>
   simp only[ES]at h
   rw[vL h]
  |_=>simp[ES]at h
theorem vM:∀{a b:List Md},A7 a b=true->a=b
 |[],l,h=>by
  cases l with
  |nil=>rfl
  |cons b bs=>simp[A7]at h
 |a::as,l,h=>by
  cases l with
  |nil=>simp[A7]at h
  |cons b bs=>
   simp only[A7,B1]at h
   rw[vL h.1,vM h.2]
end
noncomputable def hasB(M:Ms)(i:Nat)(m:Md):Bool:=match M.lookup i with
 |some k=>ES k m
 |none=>false
theorem fq{M:Ms}{i:Nat}{m:Md}(h:hasB M i m=true):(i,m)∈M:=by
 unfold hasB at h
 cases e:M.lookup i with
 |none=>rw[e]at h;exact ff h
 |some k=>
  rw[e]at h
  rw[←vL h]
  exact jO e
noncomputable def M4(f:Expr->Str->List Expr->Bool):Expr->Bool:=yp fun g es k c=>k&&EL (fun o m a=>(a.endLine==c.line)&&decide (es.length<30)&&f o m es) g
mutual
noncomputable def m9(S:SE):CE->Expr->Bool
 |.pop i,e=>AZ (fun o m ap cp=>decide (m=("pop":Str))&&(ap.endLine==cp.line)&&EK S.M i&&jG S i o) e
 |.GD i g f as,e=>M4 (fun o x es=>S.fn[f]?==some x&&S.mt.any (fun y=>y.1==f&&y.2==g)&&(match bz S.md f with
  |.io (.o fs ms)=>hasB S.M i (.o fs ms)&&!fs.contains x
  |_=>false)&&jG S i o&&uF S as es) e
 |.bin op a b,e=>G4 (fun o l r=>decide (op=o)&&m9 S a l&&m9 S b r) e
 |.cmp op a b,e=>G5 (fun o l r=>decide (op=o)&&!decide (op=.In)&&!decide (op=.NotIn)&&m9 S a l&&m9 S b r) e
 |.call f as,e=>pI (fun x es=>S.fn[f]?==some x&&tS S x&&!es.isEmpty&&!kT (bz S.md f)&&!S.mt.any (·.1==f)&&uF S as es) e
 |.blt b as,e=>pI (fun x es=>decide (x=UN b)&&tS S x&&S.zn.contains x&&Zi b es.length&&!decide (b=.list)&&!decide (b=.tuple)&&!es.isEmpty&&uF S as es) e
 |.ix a b,e=>EM (fun v s=>Cv s&&m9 S a v&&m9 S b s) e
 |.and _,_=>false
 |c,e=>aN S false c e
noncomputable def uF(S:SE):List CE->List Expr->Bool
 |[],es=>es.isEmpty
 |a::as,es=>yt (fun e=>m9 S a e) (fun es=>uF S as es) es
end
noncomputable def Zl:Md->Bool
 |.s=>true
 |_=>false
noncomputable def U0(Ψ:Nat->Md):CE->Md
 |.tup as=>.t (as.map (mo Ψ))
 |.call f _=>Ψ f
 |c=>mo Ψ c
noncomputable def isVar:CE->Option Nat
 |.var i=>some i
 |_=>none
noncomputable def U1(S:SE)(m:Md)(e:CE)(v:Expr):Bool:=match isVar e with
 |some i=>hasB S.M i m&&jG S i v
 |none=>false
noncomputable def U3(S:SE)(Ψ:Nat->Md)(m:Md)(e:CE)(v:Expr):Bool:=
 !kT m&&((Zl m&&aN S.bare false e v)||(ES (U0 Ψ e) m&&aN S.bare false e v)||U1 S m e v)
noncomputable def Qq(S:SE)(m:Md):Bool:=match m with
 |.io k=>hasB S.M 0 k
 |_=>false
noncomputable def M5(f:Expr->Str->Expr->Bool):Stmt->Bool:=EO fun ts v=>o1 (EL fun o x _=>f o x v) ts
noncomputable def oT(f:List Md->Bool):Md->Bool
 |.t ms=>f ms
 |_=>false
noncomputable def isCall:CE->Bool
 |.call _ _=>true
 |_=>false
noncomputable def Qt(S:SE)(i n:Nat)(x:Str):Bool:=match S.M.lookup i with
 |some (.o fs ms)=>fs[n]?==some x&&(match ms[n]? with
  |some k=>KU k
  |none=>false)
 |_=>false
noncomputable def Zm(S:SE)(ts:List Nat)(one vn:Bool)(fi:Expr->Bool)(fb:List Stmt->Bool)(tg it:Expr)(b:List Stmt):Bool:=
 match Sd tg with
 |some (o,xs)=>(one==o)&&A5 S ts xs&&K6 S ts&&A3 it&&(!vn||!one)&&fi it&&fb b
 |none=>false
noncomputable def vN:Expr->Bool
 |.SetComp _ _ _ _=>false
 |.DictComp _ _ _ _ _=>false
 |_=>true
mutual
noncomputable def Qu(S:SE)(Ψ:Nat->Md)(m:Md):CS->Stmt->Bool
 |.set i e,st=>Hi (fun x _ v=>Sg S i x&&(if yk S.M i=true then(!kT m||!(i==0))&&((EK S.M i&&jH Ψ e)||(isCall e&&hasB S.M i (U0 Ψ e)))&&aN (S.less i) false e v else aN S false e v)) st
 |.rA ts e,st=>Hj (fun es v=>(match EN es with|some xs=>A5 S ts xs|none=>false)&&K6 S ts&&aN S false e v&&(A6 v||AY (fun vs=>decide (Sh S es vs=some none)) v)) st
 |.par ts es,st=>M1 (fun tg vs=>(match EN tg with|some xs=>A5 S ts xs&&decide (Sh S tg vs=some (some xs))&&decide xs.Nodup&&xs.all (fun x=>S.nk.lookup x==some .local)|none=>false)&&K6 S ts&&gY S es vs) st
 |.app i e,st=>UW (fun o mt ap cp v=>decide (mt=("append":Str))&&(ap.endLine==cp.line)&&EK S.M i&&jG S i o&&aN S false e v) st
 |.put i k e,st=>M3 (fun o j v=>EK S.M i&&jG S i o&&Cv j&&aN S false k j&&aN S false e v) st
 |.drop i,st=>K7 (fun v=>CA v&&vN v&&m9 S (.pop i) v) st
 |.yd j e,st=>Hi (fun x _ v=>Sg S j x&&!yk S.M j&&CA v&&vN v&&m9 S e v) st
 |.ret e,st=>K8 (kX e&&Zl m) (fun v=>U3 S Ψ m e v) st
 |.iff c a b,st=>UX (fun t x y=>aN S false c t&&JC c&&aK S Ψ m a x&&aK S Ψ m b y) st
 |.GF c b,st=>UY (fun t x=>aN S false c t&&JC c&&aK S Ψ m b x) st
 |.fr ts one it b,st=>UZ (fun tg i x=>Zm S ts one (G9 it) (fun i=>aN S true it i) (fun x=>aK S Ψ m b x) tg i x) st
 |.brk,st=>Xz st
 |.EF i n e,st=>M5 (fun o x v=>Qt S i n x&&jG S i o&&aN S false e v) st
 |.ML e,st=>K8 (kX e&&Qq S m) (fun v=>Qq S m&&aN S false e v) st
 |.R6 e,st=>K7 (fun v=>CA v&&vN v&&m9 S e v) st
 |.Ug ts e,st=>Hj (fun es v=>(match EN es with|some xs=>A5 S ts xs|none=>false)&&decide ts.Nodup&&(!kT m||!ts.contains 0)&&isCall e&&(match U0 Ψ e with|.t ms=>(ts.length==ms.length)&&(ts.zip ms).all (fun x=>hasB S.M x.1 x.2)|_=>false)&&aN (S.Cz ts) false e v&&A6 v) st
 |.mj,_=>true
 |.Uh i j k,st=>K8 false (fun v=>AY (fun es=>o3 (fun a b c=>oT (o3 fun m1 m2 m3=>jG S i a&&jG S j b&&jG S k c&&hasB S.M i m1&&hasB S.M j m2&&hasB S.M k m3&&decide (i≠j)&&decide (i≠k)&&decide (j≠k)) m) es) v) st
noncomputable def aK(S:SE)(Ψ:Nat->Md)(m:Md):List CS->List Stmt->Bool
 |[],es=>es.isEmpty
 |a::as,es=>Qp (fun e=>Qu S Ψ m a e) (fun es=>aK S Ψ m as es) es
end
structure Aj(S:SE)(Φ:Nat->bN)(Ψ:Nat->Md)(G:Nat->W)(X:Cx):Prop extends XOk S Φ Ψ G X where
 bk:X.env.blockKind=.function
 Si:∀x,X.fn x=true
 CB:∀j x C,S.gn[j]?=some x->G j=.cls C->Y3 X.K C
 M6:∀i m m',(i,m)∈S.M->(i,m')∈S.M->m=m'
section
variable{S:SE}{Φ:Nat->bN}{Ψ:Nat->Md}{G:Nat->W}{X:Cx}
theorem Aj.tK(h:Aj S Φ Ψ G X):Aj S Φ Ψ G X.tK:={toXOk:=h.toXOk.tK,bk:=h.bk,Si:=h.Si,CB:=h.CB,M6:=h.M6}
theorem XOk.Sj(h:XOk S Φ Ψ G X)(M:Ms):XOk {S with M:=M} Φ Ψ G X:=⟨h.hN,h.nd,h.calm,h.un,h.nk,h.fns,h.PV,h.MW,h.PX,h.Ai,h.kit⟩
theorem vO(h:Aj S Φ Ψ G X){i:Nat}{x:Str}(k:Sg S i x=true):iu X i x:=by
 unfold Sg at k
 simp only[B1,Bool.or_eq_true,NA]at k
 refine⟨by rw[h.hN];exact k.1,?_,.inl (h.Si x)⟩
 unfold L2.Loc
 rw[h.nk]
 exact k.2
theorem kG(h:Aj S Φ Ψ G X):∀{ts:List Nat} {xs:List Str},A5 S ts xs=true->dD X ts xs
 |[],xs,k=>Hk.mp k
 |i::is,[],k=>by cases k
 |i::is,x::r,k=>by
  rw[A5,B1]at k
  exact⟨x,r,rfl,vO h k.1,kG h k.2⟩
theorem vP{ts:List Nat}(h:K6 S ts=true):∀i∈ts,¬aS S.M i:=fun i hi=>m8 (by simpa using Hn.mp h i hi)
theorem Hl{i:Nat}{m:Md}(hi:(i,m)∈S.M)(hu:∀m',(i,m')∈S.M->m'=m){x:Nat×Md}:x∈S.M↔x=(i,m)\/x∈(S.less i).M:=by
 show _↔_\/x∈S.M.filter (·.1 !=i)
 rw[Re,bne_iff_ne]
 obtain⟨a,b⟩:=x
 constructor
 ·intro h
  by_cases e:a=i
  ·subst e
   rw[hu b h]
   exact .inl rfl
  ·exact .inr ⟨h,e⟩
 ·rintro(e|h)
  ·cases e
   exact hi
  ·exact h.1
theorem Ho{i:Nat}:¬aS (S.less i).M i:=by
 rintro⟨m,h⟩
 have h:(i,m)∈S.M.filter (·.1 !=i):=h
 rw[Re,bne_iff_ne]at h
 exact h.2 rfl
noncomputable def CC:Expr->Bool
 |.SetComp _ _ _ _=>false
 |.DictComp _ _ _ _ _=>false
 |_=>true
theorem Qv{it:Bool}{c:CE}{e:Expr}(h:aN S it c e=true):CC e=true:=by
 cases e with
 |SetComp _ _ _ _=>
  cases c with
  |own i π=>
   rcases(gv h).2 with⟨_,_,_,e⟩|⟨_,_,_,_,_,e⟩<;>cases e
  |_=>exact ff h
 |DictComp _ _ _ _ _=>
  cases c with
  |own i π=>
   rcases(gv h).2 with⟨_,_,_,e⟩|⟨_,_,_,_,_,e⟩<;>cases e
  |_=>exact ff h
 |_=>rfl
noncomputable def XA(S:SE)(x:Str)(p:Pos):Expr->Bool
 |.ListComp _ _ scope q=>(S.nk.lookup x==some .local)&&(p.line==q.line)&&!(scope.names.any fun(n,k)=>n==x&&(k==.local||k==.cell))
 |_=>false
theorem U4(h:Aj S Φ Ψ G X){e:Expr}(he:CC e=true)(x:Str)(p:Pos)(l:Nat):swapsWith e (some (.Name x p)) l X.env=pure (XA S x p e):=by
 cases e with
 |ListComp a b scope q=>
  show(pure _:Sem Bool)=pure _
  rw[h.bk]
  show(pure (true&&(X.env.scope.names.lookup x==some .local)&&(p.line==q.line)&&_):Sem Bool)=_
  rw[h.nk,Bool.true_and]
  rfl
 |SetComp _ _ _ _=>exact ff he
 |DictComp _ _ _ _ _=>exact ff he
 |_=>rfl
theorem CF{e:Expr}{es:List Expr}{k:Nat}{p:Pos}(l:Nat)(env:Env):swapsWithSole [.Tuple es k p] e l env=pure false:=by
 cases e<;>rfl
theorem Hq{e o i:Expr}{p:Pos}(l:Nat)(env:Env):swapsWithSole [.Subscript o i p] e l env=pure false:=by
 cases e<;>rfl
theorem CG{e:Expr}(he:A6 e=true)(es:List Expr)(k:Nat)(p:Pos)(env:Env):swappedStores [.Tuple es k p] e env=pure none:=by
 cases e<;>first|rfl|exact ff he
theorem Hr{e o i:Expr}{p:Pos}(env:Env):swappedStores [.Subscript o i p] e env=pure none:=by
 cases e<;>rfl
theorem Ht(h:Aj S Φ Ψ G X){ts vs:List Expr}{k k2:Nat}{p p2:Pos}{o:Option (List Str)}(e:Sh S ts vs=some o):swappedStores [.Tuple ts k p] (.Tuple vs k2 p2) X.env=pure o:=by
 unfold swappedStores
 unfold Sh at e
 have hk:∀x,X.env.kindOf x=S.nk.lookup x:=fun x=>h.nk x
 simp only[hk,h.bk,bne_self_eq_false,TK]
 dsimp only at e
 split at e
 ·rename_i c
  cases e
  exact Bz c
 rename_i c1
 refine(Bi c1).trans ?_
 split at e
 ·rename_i c
  cases e
  exact Bz c
 rename_i c2
 refine(Bi c2).trans ?_
 split at e
 ·rename_i c
  cases e
  exact Bz c
 rename_i c3
 refine(Bi c3).trans ?_
 split at e
 ·rename_i c
  cases e
  exact Bz c
 rename_i c4
 refine(Bi c4).trans ?_
 split at e
 ·cases e
 rename_i c5
 cases e
 exact Bi c5
end
theorem jQ{f:List Expr->Expr->Bool}{e:Stmt}(h:EO f e=true):∃ts v q,e=.Assign ts v q/\f ts v=true:=by cases e<;>first|exact⟨_,_,_,rfl,h⟩|exact ff h
theorem K9{f:Expr->List Stmt->List Stmt->Bool}{e:Stmt}(h:Zj f e=true):∃c a b q,e=.While c a b q/\f c a b=true:=by cases e<;>first|exact⟨_,_,_,_,rfl,h⟩|exact ff h
theorem La{f:Expr->Expr->List Stmt->List Stmt->Bool}{e:Stmt}(h:Zk f e=true):∃t i a b q,e=.For t i a b q/\f t i a b=true:=by cases e<;>first|exact⟨_,_,_,_,_,rfl,h⟩|exact ff h
theorem rO{f:Expr->Bool}{st:Stmt}(h:K7 f st=true):∃v q,st=.Expr v q/\f v=true:=by cases st<;>first|exact⟨_,_,rfl,h⟩|exact ff h
theorem uG{f:Str->Pos->Expr->Bool}{st:Stmt}(h:Hi f st=true):∃x p v q,st=.Assign [.Name x p] v q/\f x p v=true:=by
 obtain⟨ts,v,q,rfl,h1⟩:=jQ h
 obtain⟨t,rfl,h2⟩:=gF h1
 obtain⟨x,p,rfl,h3⟩:=Ct h2
 exact⟨_,_,_,_,rfl,h3⟩
theorem uH{f:List Expr->Expr->Bool}{st:Stmt}(h:Hj f st=true):∃es k p v q,st=.Assign [.Tuple es k p] v q/\f es v=true:=by
 obtain⟨ts,v,q,rfl,h1⟩:=jQ h
 obtain⟨t,rfl,h2⟩:=gF h1
 obtain⟨es,k,p,rfl,h3⟩:=fJ h2
 exact⟨_,_,_,_,_,rfl,h3⟩
theorem ET{f:List Expr->List Expr->Bool}{st:Stmt}(h:M1 f st=true):∃es k p vs k' p' q,st=.Assign [.Tuple es k p] (.Tuple vs k' p') q/\f es vs=true:=by
 obtain⟨ts,v,q,rfl,h1⟩:=jQ h
 obtain⟨t,rfl,h2⟩:=gF h1
 obtain⟨es,k,p,rfl,h3⟩:=fJ h2
 obtain⟨vs,k',p',rfl,h4⟩:=fJ h3
 exact⟨_,_,_,_,_,_,_,rfl,h4⟩
theorem EU{f:Expr->Expr->Expr->Bool}{st:Stmt}(h:M3 f st=true):∃o k p v q,st=.Assign [.Subscript o k p] v q/\f o k v=true:=by
 obtain⟨ts,v,q,rfl,h1⟩:=jQ h
 obtain⟨t,rfl,h2⟩:=gF h1
 obtain⟨o,k,p,rfl,h3⟩:=gG h2
 exact⟨_,_,_,_,_,rfl,h3⟩
theorem Hu{f:Expr->Str->Pos->Pos->Expr->Bool}{st:Stmt}(h:UW f st=true):∃o m ap v cp q,st=.Expr (.Call (.Attribute o m ap) [v] [] cp) q/\f o m ap cp v=true:=by
 obtain⟨v,q,rfl,h1⟩:=rO h
 obtain⟨g,es,ks,p,rfl,h2⟩:=kD h1
 obtain⟨k,h3⟩:=a2 h2
 obtain⟨e,rfl,h4⟩:=gF h3
 obtain⟨o,m,a,rfl,h5⟩:=iN h4
 rw[Hk.mp k]
 exact⟨_,_,_,_,_,_,rfl,h5⟩
theorem rP{n:Bool}{f:Expr->Bool}{st:Stmt}(h:K8 n f st=true):(∃v q,st=.Return (some v) q/\f v=true)\/∃q,st=.Return none q/\n=true:=by
 cases st<;>try exact ff h
 rename_i v q
 cases v
 ·exact .inr ⟨_,rfl,h⟩
 ·exact .inl ⟨_,_,rfl,h⟩
theorem Hv{f:Expr->List Stmt->List Stmt->Bool}{st:Stmt}(h:UX f st=true):∃c a b q,st=.If c a b q/\f c a b=true:=by
 cases st<;>try exact ff h
 exact⟨_,_,_,_,rfl,h⟩
theorem Hw{f:Expr->List Stmt->Bool}{st:Stmt}(h:UY f st=true):∃c a q,st=.While c a [] q/\f c a=true:=by
 obtain⟨c,a,b,q,rfl,h1⟩:=K9 h
 obtain⟨k,h2⟩:=a2 h1
 rw[Hk.mp k]
 exact⟨_,_,_,rfl,h2⟩
theorem Hx{f:Expr->Expr->List Stmt->Bool}{st:Stmt}(h:UZ f st=true):∃tg it a q,st=.For tg it a [] q/\f tg it a=true:=by
 obtain⟨t,i,a,b,q,rfl,h1⟩:=La h
 obtain⟨k,h2⟩:=a2 h1
 rw[Hk.mp k]
 exact⟨_,_,_,_,rfl,h2⟩
section
variable{X:Cx}{M:Ms}{m:Md}{st:Stmt}{i j k:Nat}{e:Expr}{te:(Addr->Prop)->WT}{M':Ms}{m0:Md}
theorem Lb{x y z:Str}{a b c:Expr}{ta:TA}{px py pz pt pos:Pos}{kt k2 RY}(hc:X.calm=true)(hN:X.N.Nodup)(hi:X.N[i]?=some x)(hj:X.N[j]?=some y)(hk:X.N[k]?=some z)(hij:i≠j)(hik:i≠k)(hjk:j≠k)
 (hx:X.env.scope.names.lookup x=some .local) (hy:X.env.scope.names.lookup y=some .local) (hz:X.env.scope.names.lookup z=some .local) (ha:PA X [a,b,c] ta)
 (hw:swappedStores [.Tuple [.Name x px,.Name y py,.Name z pz] kt pt] (.Tuple [a,b,c] k2 RY) X.env=pure (some [x,y,z])):
 PS X (.Assign [.Tuple [.Name x px,.Name y py,.Name z pz] kt pt] (.Tuple [a,b,c] k2 RY) pos) (fun D σ H=>ta σ H fun vs H1=>∃v w u,vs=[v,w,u]/\D.nx (((σ.set i (some v)).set j (some w)).set k (some u)) H1):=by
 intro pins s σ H D I h
 rw[exec_Assign_arm]
 refine He (wpAny_standAt ?_)
 refine He (PH ?_)
 rw[Bi (by decide)]
 refine He (Tuple_ (bT (ha _ pins s σ H _ I h) fun us s1 ⟨vs,H1,I1,r1,q1⟩=>?_))
 obtain⟨v,w,u,e1,q1⟩:=q1
 subst e1
 obtain⟨u1,u2,u3,rfl,rv,rw',ru⟩:∃u1 u2 u3,us=[u1,u2,u3]/\RelV v u1/\RelV w u2/\RelV u u3:=by
  cases r1 with
  |cons p q=>
   cases q with
   |cons p' q'=>
    cases q' with
    |cons p'' q''=>
     cases q''
     exact⟨_,_,_,rfl,p,p',p''⟩
 refine wpAny_newObj_type ?_ (by show 3<=sizeLine;decide)
 have I2:Inv X pins σ H1 {s1 with heap:=s1.heap.push {cls:=.type "tuple",data:=.seq [u1,u2,u3].toArray}}:=I1.kept (t':=s1.toks) fun b o e=>FM _ e
 rw[hw]
 refine He (PH ?_)
 show wpAny (model X.prog X.w) X.A (do rule "assign.swapped-stores";let items←unpackItems (.ref s1.heap.objs.size) 3 none;assignInOrder [fun v=>bindName X.env z v,fun v=>bindName X.env y v,fun v=>bindName X.env x v] items.reverse;pure Flow.next) _ _ _
 refine He (wpAny_rule (He (unpackItems_tuple (items:= #[u1,u2,u3]) (I.ok.hd hc) (IsTup.new s1.heap _) fun h' hx'=>?_)))
 have I3:=I2.kept (h':=h') (t':=s1.toks) fun b o e=>hx' b o (Kk (Fs e)) e
 show wpAny _ _ (assignInOrder [fun v=>bindName X.env z v,fun v=>bindName X.env y v,fun v=>bindName X.env x v] [u3,u2,u1]>>=fun _=>pure Flow.next) _ _ _
 refine He (assignInOrder_cons (wpAny_bindName (gA I3 hN hk (.inl hz) ru (fun s2 I4=>?_) (.inr hz))))
 refine assignInOrder_cons (wpAny_bindName (gA I4 hN hj (.inl hy) rw' (fun s3 I5=>?_) (.inr hy)))
 refine assignInOrder_cons (wpAny_bindName (gA I5 hN hi (.inl hx) rv (fun s4 I6=>assignInOrder_nil (PH ?_)) (.inr hx)))
 have e6:((σ.set k (some u)).set j (some w)).set i (some v)=((σ.set i (some v)).set j (some w)).set k (some u):=by
  rw[List.set_comm _ _ (Q1 hjk),List.set_comm _ _ (Q1 hik),List.set_comm _ _ (Q1 hij)]
 rw[e6]at I6
 exact⟨_,H1,I6,q1⟩
theorem Lc(hps:∀R,PS X st (qR (tV X M R (MO X.K .s) (te R)) (jy i)))(hi:¬aS M i):VS X M m st (fun d ε=>te d.ex ε fun w=>d.nx (ε.set i (some w))):=by
 rintro pins s σ H D I ⟨A,H0,ε,d,S,er,hz,h,k⟩
 refine hps d.ex pins s σ H D I ⟨A,H0,ε,_,S,er,h,fun w v H1 hw s1 r=>?_⟩
 exact k.nx A _ _ H1 rfl rfl hw ((S.same s1).set hi r.bO)
theorem Hy(hps:∀R,PS X st (qR (tV X M' R (MO X.K m0) (te R)) (jy i)))(hM:∀x,x∈M↔x=(i,m0)\/x∈M')(hi:¬aS M' i)(hio:kT m=true->i≠0):VS X M m st (fun d ε=>te d.ex ε fun w=>d.nx (ε.set i (some w))):=by
 rintro pins s σ H D I ⟨A,H0,ε,d,S,er,hz,h,k⟩
 have h0:∀v,A.s0=some v->A.s0=some v/\aS M' 0:=fun v e=>by
  refine⟨e,?_⟩
  have ho:kT m=true:=by rw[←hz,e];rfl
  obtain⟨m1,h1⟩:=(S.sl v e).2
  rcases(hM _).mp h1 with z|z
  ·cases z
   exact(hio ho rfl).elim
  ·exact⟨m1,z⟩
 obtain⟨A1,ea,eb,hb,S'⟩:=S.sub (M':=M') (fun x hx=>(hM x).mpr (.inr hx)) A.s0 h0
 refine hps d.ex pins s σ H D I ⟨A1,H0,ε,_,S',er,h,fun w v H1 hw s1 r=>?_⟩
 obtain⟨A2,ea2,eb2,_,S2⟩:=S'.own hM hi s1 r
 exact k.nx A2 _ _ H1 (ea2.trans ea) (eb2.trans eb) hw S2
theorem Ld{pos:Pos}:VS X M .s (.Return none pos) (fun d ε=>d.rt .aX):=by
 rintro pins s σ H D I ⟨A,H0,ε,d,S,er,hz,h,k⟩
 exact Ca pins s σ H D I (k.rt _ _ H h S.sm (.of rfl (.of (by rw[Rep]))))
end
theorem EV{f:Expr->Str->List Expr->Bool}{e:Expr}(h:M4 f e=true):∃o m a es c,e=.Call (.Attribute o m a) es [] c/\f o m es=true/\(a.endLine==c.line)=true/\es.length<30:=by
 obtain⟨g,es,ks,p,rfl,h1⟩:=kD h
 obtain⟨k,h2⟩:=a2 h1
 obtain⟨o,m,a,rfl,h3⟩:=iN h2
 rw[Hk.mp k]
 have h4:=a3 h3
 exact⟨_,_,_,_,_,rfl,h4.2,h4.1.1,DD h4.1.2⟩
theorem uI{y x:Str}{py apos pos:Pos}{es:List Expr}{env:Env}(hst:(backTo pos (starEach es env)).any (·.1)=false)(hlen:es.length<30)(hline:(apos.endLine==pos.line)=true):
 eval (.Call (.Attribute (.Name y py) x apos) es [] pos) env=(do
  let ov←eval (.Name y py) env
  standAt apos.atName
  let(f,first)←holding [ov] (getMethod ov x (do return (←importBound (.Name y py) env).getD true))
  callWith pos f first (backTo pos (starEach es env)) (backToKw pos (keywordEach [] env))):=by
 have U5:methodCallForm (es.length+([]:List Keyword).length) (backTo pos (starEach es env)) (backToKw pos (keywordEach [] env))=true:=by
  unfold methodCallForm
  have e1:(backTo pos (starEach es env)).all (fun x=>!x.1)=true:=by
   rw[Hn]
   intro z hz
   rw[List.any_eq_false]at hst
   simpa using hst z hz
  rw[e1]
  show(true&&true&&decide (es.length+0+0<30))=true
  simpa using hlen
 have hpos:methodCallPos true (.Name y py) env apos pos=pure pos:=by unfold methodCallPos;simp[hline]
 rw[arm_eval_Call,show attributeBase (.Name y py) x env (eval (.Name y py) env)=eval (.Name y py) env from rfl]
 unfold methodCall
 rw[U5,hpos]
 rfl
theorem EW{f:Expr->Str->Expr->Bool}{st:Stmt}(h:M5 f st=true):∃o x p v q,st=.Assign [.Attribute o x p] v q/\f o x v=true:=by
 obtain⟨ts,v,q,rfl,h1⟩:=jQ h
 obtain⟨t,rfl,h2⟩:=gF h1
 obtain⟨o,x,p,rfl,h3⟩:=iN h2
 exact⟨_,_,_,_,_,rfl,h3⟩
noncomputable def Hz(X:Cx)(M:Ms)(R:Addr->Prop)(ms:List Md)(t:Ev->(List W->Prop)->Prop):TA:=fun σ H Q=>∃A H0 ε P,SR X.K M A H0 σ H ε/\ER X H0 R/\t ε P/\∀ws vs H' F,P ws->az H H'->F.Nodup->(∀p∈F,H p=none)->cX X.K (fun q=>A.B q\/q∈F) H' ms ws vs F->Q vs H'
section
variable{X:Cx}{M:Ms}{R:Addr->Prop}{a:Expr}{es:List Expr}{ta:WT}{m:Md}{ms:List Md}{pos:Pos}
theorem Le:PA X [] (Hz X M R [] fun _ Q=>Q []):=PA.imp gc<|by rintro σ H Q ⟨A,H0,ε,P,S,er,h,k⟩;exact k [] [] H [] h (az.refl H) List.nodup_nil (by simp) (by rw[cX];exact⟨rfl,rfl,rfl⟩)
theorem HA{tr:Ev->(List W->Prop)->Prop}(hs:starEach (a::es) X.env=(false,eval a X.env)::starEach es X.env)(ha:VE X M R m a ta)(hr:PA X es (Hz X M R ms tr)):PA X (a::es) (Hz X M R (m::ms) fun ε Q=>ta ε fun x=>tr ε fun xs=>Q (x::xs)):=
 PA.imp (bV ha hr hs)<|by
  rintro σ H Q ⟨A,H0,ε,P,S,er,h,k⟩
  refine⟨A,H0,ε,_,S,er,h,fun x vx H1 hx s1 rx=>?_⟩
  obtain⟨G,nd,nw,fp⟩:=rx
  have hex:∀q∈G,∃o,H1 q=some o:=fun q hq=>let⟨o,e,_⟩:=Fp.mu m fp q hq;⟨o,e⟩
  refine⟨_,H0,ε,_,S.more s1 nw hex,er,hx,fun xs vs H2 F hxs s2 nd2 XC Xq=>?_⟩
  refine k _ _ H2 (G++F) hxs (s1.trans s2) ?_ (fun p hp=>?_) ?_
  ·refine de.mpr ⟨nd,nd2,fun p hp q hq e=>?_⟩
   subst e
   obtain⟨o,e⟩:=hex p hp
   rw[XC p hq]at e
   cases e
  ·rcases Hb.mp hp with hp|hp
   ·exact nw p hp
   ·exact s1.free (XC p hp)
  ·rw[cX]
   refine⟨x,xs,vx,vs,G,F,rfl,rfl,rfl,Fp.mv s2 (fun p o e z=>?_) m fp,cX.mv (az.refl _) (fun p o e z=>?_) ms Xq⟩
   ·rcases z with z|z
    ·exact .inl z
    ·rcases Hb.mp z with z|z
     ·exact .inr z
     ·rw[XC p z]at e
      cases e
   ·rcases z with z|z
    ·exact .inl (.inl z)
    ·rcases Hb.mp z with z|z
     ·exact .inl (.inr z)
     ·exact .inr z
theorem Lf{ts:Ev->(List W->Prop)->Prop}{x1:Nat}(h:PA X es (Hz X M R ms ts)):VE X M R (.t ms) (.Tuple es x1 pos) (fun ε Q=>ts ε fun ws=>ws.length<=sizeLine/\Q (.tup ws)):=PE.imp (AB h)<|by
 rintro σ H Q ⟨A,H0,ε,P,S,er,h,k⟩
 refine⟨A,H0,ε,_,S,er,h,fun ws vs H1 F hx s1 nd nw fp=>?_⟩
 have hl:∀(ms:List Md) {ws:List W} {vs:List V} {F:List Addr} {B:Addr->Prop},cX X.K B H1 ms ws vs F->vs.length=ws.length:=fun ms=>by
  induction ms with
  |nil=>
   intro ws vs F B h
   rw[cX]at h
   rw[h.1,h.2.1]
   rfl
  |cons m ms ih=>
   intro ws vs F B h
   rw[cX]at h
   obtain⟨w,oq,v,vs',F1,F2,rfl,rfl,_,_,h2⟩:=h
   rw[List.length_cons,List.length_cons,ih h2]
 refine⟨by rw[hl ms fp];exact hx.1,fun p hp=>?_⟩
 have sn:=aY hp (.tup vs)
 refine k _ _ _ hx.2 (s1.trans sn) ⟨F,nd,nw,?_⟩
 rw[Fp]
 exact⟨ws,p,vs,rfl,rfl,aE,cX.mv sn (fun _ _ _ z=>z) ms fp⟩
end
noncomputable def iO(Φ:Nat->bN)(Ψ:Nat->Md)(G:Nat->W)(s:CS):Prop:=∀{S:SE} {X:Cx} {m:Md},Aj S Φ Ψ G X->∀st,Qu S Ψ m s st=true->VS X S.M m st (wS Φ G s)
noncomputable def pL(Φ:Nat->bN)(Ψ:Nat->Md)(G:Nat->W)(s:List CS):Prop:=∀{S:SE} {X:Cx} {m:Md},Aj S Φ Ψ G X->∀st,aK S Ψ m s st=true->KG X S.M m st (wSs Φ G s)
section
variable{Φ:Nat->bN}{Ψ:Nat->Md}{G:Nat->W}
theorem Aj.Sj{S:SE}{X:Cx}(h:Aj S Φ Ψ G X)(M:Ms)(un:∀i m m',(i,m)∈M->(i,m')∈M->m=m'):Aj {S with M:=M} Φ Ψ G X:={toXOk:=h.toXOk.Sj M,bk:=h.bk,Si:=h.Si,CB:=h.CB,M6:=un}
theorem A8{S:SE}{X:Cx}(hX:XOk S Φ Ψ G X){f:Nat}{as:List CE}{v:Expr}(k:aN S false (.call f as) v=true)(R:Addr->Prop):VE X S.M R (Ψ f) v (wE Φ G R (.call f as))/\∃g es p,v=.Call g es [] p:=by
 obtain⟨x,q,es,p,rfl,kk⟩:=aV k
 simp only[B1]at kk
 obtain⟨⟨⟨⟨⟨k1,k2⟩,k3⟩,k5⟩,k6⟩,k4⟩:=kk
 obtain⟨g1,g2,g3⟩:=dW hX k2
 obtain⟨fv,n,kl,hm,F,hr,hn⟩:=hX.fns f x (NA.mp k1) (by simpa using k6)
 have F:eV X.prog X.w X.K X.mg X.base kl fv n (MS X.K n (Ψ f) (Φ f)):=by
  rw[←hX.MW]at k5
  cases hp:Ψ f<;>rw[hp]at k5 F<;>first|exact F|exact ff k5
 have st:=oU k4
 cases es with
 |nil=>exact ff k3
 |cons e es=>
  rw[List.all_cons,B1]at st
  refine⟨?_,_,_,_,rfl⟩
  exact Cp (M:=S.M) (R:=R) (p:=q) (pos:=p) F hr g1 hm hn ((qm Φ Ψ G as).1.a hX _ k4 R) g2 (aP st.1 _ _) (cZ st.2 _ _)
theorem HB{S:SE}{X:Cx}(hX:XOk S Φ Ψ G X):∀(as:List CE) (es:List Expr),gY S as es=true->∀R,PA X es (Hz X S.M R (as.map (mo Ψ)) (wA Φ G R as))
 |[],es,k,R=>by
  rw[Hk.mp k]
  exact Le
 |a::as,[],k,R=>by cases k
 |a::as,e::es,k,R=>by
  have k:=a2 k
  exact HA (aP (bH (.inl k.1)) _ _) ((snd Φ Ψ G a).e hX e k.1 R) (HB hX as es k.2 R)
theorem Qw{S:SE}{X:Cx}(hX:XOk S Φ Ψ G X){e:CE}{v:Expr}(k:aN S false e v=true)(R:Addr->Prop):VE X S.M R (U0 Ψ e) v (wE Φ G R e):=by
 cases e with
 |tup as=>
  obtain⟨es,kd,p,rfl,k⟩:=fJ k
  exact Lf (HB hX as es k R)
 |call f as=>exact(A8 hX k R).1
 |_=>exact(snd Φ Ψ G _).e hX v k R
theorem rQ{e:CE}(h:isCall e=true):∃f as,e=.call f as:=by cases e<;>first|exact⟨_,_,rfl⟩|exact ff h
theorem uJ{e:CE}(h:kX e=true):e=.aX:=by cases e<;>first|rfl|exact ff h
theorem EX{e:CE}{i:Nat}(h:isVar e=some i):e=.var i:=by cases e<;>first|(cases h;rfl)|exact nn h
theorem Lg{S:SE}{x:Str}{p:Pos}{v:Expr}(h:XA S x p v=true):∃a b c d,v=.ListComp a b c d:=by cases v<;>first|exact⟨_,_,_,_,rfl⟩|exact ff h
theorem Qx{S:SE}{e:CE}{a:Expr}{b:List Comprehension}{c:Scope}{d:Pos}(k:aN S false e (.ListComp a b c d)=true):∃ts one n i c x,e=.comp ts one n i c x:=by
 cases e with
 |comp ts one n i c x=>exact⟨_,_,_,_,_,_,rfl⟩
 |own i π=>rcases(gv k).2 with⟨_,_,_,e⟩|⟨_,_,_,_,_,e⟩<;>cases e
 |_=>exact ff k
theorem CH{S:SE}{X:Cx}(hX:Aj S Φ Ψ G X){i:Nat}{x:Str}{p q:Pos}{e:CE}{v:Expr}(hn:Sg S i x=true)(k:aN S false e v=true)(R:Addr->Prop):
 PS X (.Assign [.Name x p] v q) (qR (tV X S.M R (MO X.K (mo Ψ e)) (wE Φ G R e)) (jy i)):=by
 have n:=vO hX hn
 have hsw:=U4 hX (Qv k) x p q.line
 cases hb:XA S x p v with
 |false=>
  rw[hb]at hsw
  exact Ao hX.nd n.1 n.2.1 ((snd Φ Ψ G e).e hX.toXOk v k R) hsw n.2.2
 |true=>
  rw[hb]at hsw
  obtain⟨elt,gs,scope,pp,rfl⟩:=Lg hb
  obtain⟨ts,one,n',it,c,y,rfl⟩:=Qx k
  obtain⟨elt',tg,iter,ifs,scope',p',xs,e1,rfl,hlt,ho,hfs,T7,hr⟩:=rN (snd Φ Ψ G it) (snd Φ Ψ G c) (snd Φ Ψ G y) hX.toXOk k R
  cases e1
  rw[mw rfl,Cy]
  intro pins s σ H D I hw
  obtain⟨q1,q2,q3⟩:=hr pins s σ H I
  exact Kc xs (mask xs S.N) hX.nd n.1 n.2.1 hX.calm ho T7 q1 q2 q3 hsw hfs n.2.2 pins s σ H D I (yj hlt σ H _ hw)
theorem Qy(i:Nat)(e:CE):iO Φ Ψ G (.set i e):=by
 intro S X m hX st k
 obtain⟨x,p,v,q,rfl,kk⟩:=uG k
 rw[B1]at kk
 by_cases hM:yk S.M i=true
 ·rw[Bz hM]at kk
  simp only[B1]at kk
  obtain⟨k0,⟨k1,k2⟩,k3⟩:=kk
  have hio:kT m=true->i≠0:=fun z e=>by
   rw[z,e]at k1
   cases k1
  have go:∀{m0:Md},(i,m0)∈S.M->(∀R,PS X (.Assign [.Name x p] v q) (qR (tV X (S.less i).M R (MO X.K m0) (wE Φ G R e)) (jy i)))->VS X S.M m (.Assign [.Name x p] v q) (fun D ε=>wE Φ G D.ex e ε fun w=>D.nx (ε.set i (some w))):=fun{m0} hm hp=>
   Hy (M':=(S.less i).M) (te:=fun R=>wE Φ G R e) hp (fun j=>Hl hm (fun m' h'=>hX.M6 i _ _ h' hm)) Ho hio
  have hL:Aj (S.less i) Φ Ψ G X:=hX.Sj (S.less i).M fun a b c h1 h2=>hX.M6 a b c (Re.mp h1).1 (Re.mp h2).1
  rcases jP k2 with k2|k2
  ·rw[B1]at k2
   refine go (qx k2.1) fun R=>?_
   have:=CH hL (p:=p) (q:=q) k0 k3 R
   rw[mw k2.2]at this
   exact this
  ·rw[B1]at k2
   refine go (fq k2.2) fun R=>?_
   obtain⟨f,as,rfl⟩:=rQ k2.1
   obtain⟨h1,g,es,pp,rfl⟩:=A8 hL.toXOk k3 R
   have n:=vO hX k0
   exact Ao hX.nd n.1 n.2.1 h1 rfl n.2.2
 ·rw[Bi hM]at kk
  refine Lc (te:=fun R=>wE Φ G R e) (fun R=>?_) (m8 (by simpa using hM))
  refine PS.imp (CH hX (p:=p) (q:=q) kk.1 kk.2 R)<|by rintro D σ H ⟨A,H0,ε,P,S,er,p,k⟩;exact⟨A,H0,ε,P,S,er,p,fun w v H' pw s r=>k w v H' pw s (r.s S.dom)⟩
theorem Qz(ts:List Nat)(e:CE):iO Φ Ψ G (.rA ts e):=by
 intro S X m hX st k
 obtain⟨es,kd,p,v,q,rfl,kk⟩:=uH k
 simp only[B1]at kk
 obtain⟨⟨⟨k1,k2⟩,k3⟩,k4⟩:=kk
 split at k1
 rotate_left
 ·cases k1
 rename_i xs hxs
 have hg:PG X (.Tuple es kd p) (gT X.K false ts):=K3 hX.calm hX.nd (by rw[Sd,hxs];rfl) (kG hX k1)
 have hst:swappedStores [.Tuple es kd p] v X.env=pure none:=by
  rcases jP k4 with k4|k4
  ·exact CG k4 _ _ _ _
  ·obtain⟨vs,k2,p2,rfl,k5⟩:=fJ k4
   exact Ht hX (DD k5)
 exact Pd (te:=fun R=>wE Φ G R e) (fun{tv} hv=>An hv hg (CF _ _) hst rfl) (vP k2) fun R=>(snd Φ Ψ G e).s hX.toXOk k3 R
theorem rR{X:Cx}{ts:List Nat}{x:Str}{xs:List Str}(h:dD X ts (x::xs)):∃i r,ts=i::r/\iu X i x/\dD X r xs:=by
 cases ts with
 |nil=>cases h
 |cons i r=>
  obtain⟨_,_,e,h1,h2⟩:=h
  cases e
  exact⟨i,r,rfl,h1,h2⟩
theorem Lh{X:Cx}{ts:List Nat}(h:dD X ts []):ts=[]:=by
 cases ts with
 |nil=>rfl
 |cons i r=>
  obtain⟨_,_,e,_⟩:=h
  cases e
theorem CJ{X:Cx}{ts:List Nat}{x y:Str}(h:dD X ts [x,y]):∃i j,ts=[i,j]/\iu X i x/\iu X j y:=by
 obtain⟨i,r,rfl,h1,h2⟩:=rR h
 obtain⟨j,r,rfl,h3,h4⟩:=rR h2
 cases Lh h4
 exact⟨i,j,rfl,h1,h3⟩
theorem EY{X:Cx}{ts:List Nat}{x y z:Str}(h:dD X ts [x,y,z]):∃i j k,ts=[i,j,k]/\iu X i x/\iu X j y/\iu X k z:=by
 obtain⟨i,r,rfl,h1,h2⟩:=rR h
 obtain⟨j,k,rfl,h3,h4⟩:=CJ h2
 exact⟨i,j,k,rfl,h1,h3,h4⟩
theorem Li{α:Type}{l:List α}(h:l.length=2):∃a b,l=[a,b]:=by
 rcases l with _|⟨a,_|⟨b,_|_⟩⟩<;>first|exact⟨_,_,rfl⟩|(simp at h;done)
theorem Lj{α:Type}{l:List α}(h:l.length=3):∃a b c,l=[a,b,c]:=by
 cases l with
 |nil=>cases h
 |cons a l=>
  obtain⟨b,c,rfl⟩:=Li (Nat.succ.inj h)
  exact⟨_,_,_,rfl⟩
theorem nc{es:List Expr}{x:Str}{xs:List Str}(h:EN es=some (x::xs)):∃p r,es=.Name x p::r/\EN r=some xs:=by
 cases es with
 |nil=>cases h
 |cons e es=>
  cases e with
  |Name a p=>
   obtain⟨l,hl,e⟩:=Pv.mp h
   cases e
   exact⟨_,_,rfl,hl⟩
  |_=>exact nn h
theorem CK{es:List Expr}(h:EN es=some []):es=[]:=by
 cases es with
 |nil=>rfl
 |cons e es=>
  cases e with
  |Name a p=>
   obtain⟨l,hl,e⟩:=Pv.mp h
   cases e
  |_=>exact nn h
theorem CL{es:List Expr}{x y:Str}(h:EN es=some [x,y]):∃p q,es=[.Name x p,.Name y q]:=by
 obtain⟨p,r,rfl,h1⟩:=nc h
 obtain⟨q,r,rfl,h2⟩:=nc h1
 rw[CK h2]
 exact⟨_,_,rfl⟩
theorem EZ{es:List Expr}{x y z:Str}(h:EN es=some [x,y,z]):∃p q r,es=[.Name x p,.Name y q,.Name z r]:=by
 obtain⟨p,r,rfl,h1⟩:=nc h
 obtain⟨q,s,rfl⟩:=CL h1
 exact⟨_,_,_,rfl⟩
theorem Lk{S:SE}{ts vs:List Expr}{xs:List Str}(h:Sh S ts vs=some (some xs)):(ts.length=2\/ts.length=3)/\vs.length=ts.length:=by
 unfold Sh at h
 split at h
 ·cases h
 ·rename_i c
  simp only[Bool.or_eq_true,Bool.not_eq_true',bne_iff_ne,not_or,Bool.not_eq_false,NA,ne_eq,Decidable.not_not]at c
  exact c
theorem CM{es:List Expr}{xs:List Str}(h:EN es=some xs):es.length=xs.length:=by
 induction xs generalizing es with
 |nil=>rw[CK h];rfl
 |cons x xs ih=>
  obtain⟨p,r,rfl,h1⟩:=nc h
  rw[List.length_cons,List.length_cons,ih h1]
theorem QA(ts:List Nat)(es:List CE):iO Φ Ψ G (.par ts es):=by
 intro S X m hX st k
 obtain⟨tg,kd,p,vs,kd',p',q,rfl,kk⟩:=ET k
 simp only[B1]at kk
 obtain⟨⟨k1,k2⟩,k3⟩:=kk
 split at k1
 rotate_left
 ·cases k1
 rename_i xs hxs
 simp only[B1]at k1
 obtain⟨⟨⟨k1,k4⟩,k5⟩,k6⟩:=k1
 have k4:=DD k4
 have k5:=DD k5
 obtain⟨hl,hv⟩:=Lk k4
 have hw:=Ht hX (k:=kd) (k2:=kd') (p:=p) (p2:=p') k4
 have hloc:∀x∈xs,X.env.scope.names.lookup x=some .local:=fun x hx=>by
  rw[hX.nk]
  exact NA.mp (Hn.mp k6 x hx)
 have hk:=kG hX k1
 refine Pe (ta:=fun R=>wA Φ G R es) (fun{tv} ha=>?_) (vP k2) fun R=>(qm Φ Ψ G es).1.a hX.toXOk vs k3 R
 have hd:∀{a b:Nat} {x y:Str},x≠y->X.N[a]?=some x->X.N[b]?=some y->a≠b:=fun n h1 h2 e=>by
  rw[e,h2]at h1
  exact n (KE h1).symm
 rcases hl with hl|hl
 ·obtain⟨x,y,rfl⟩:=Li ((CM hxs).symm.trans hl)
  obtain⟨p1,p2,rfl⟩:=CL hxs
  obtain⟨i,j,rfl,n1,n2⟩:=CJ hk
  obtain⟨a,b,rfl⟩:=Li (hv.trans hl)
  refine PS.imp (NY hX.calm hX.nd n1.1 n2.1 (hd (by simpa using k5) n1.1 n2.1) (hloc x (by simp)) (hloc y (by simp)) ha hw) fun D σ H h=>?_
  have e:(fun(vs:List V) H1=>vs.length=[i,j].length/\D.nx (cO σ [i,j] vs) H1)=fun vs H1=>∃v w,vs=[v,w]/\D.nx ((σ.set i (some v)).set j (some w)) H1:=by
   funext vs H1
   refine propext ⟨?_,?_⟩
   ·rintro⟨h1,h2⟩
    obtain⟨v,w,rfl⟩:=Li h1
    exact⟨v,w,rfl,h2⟩
   ·rintro⟨v,w,rfl,h2⟩
    exact⟨rfl,h2⟩
  rw[e]at h
  exact h
 ·obtain⟨x,y,z,rfl⟩:=Lj ((CM hxs).symm.trans hl)
  obtain⟨p1,p2,p3,rfl⟩:=EZ hxs
  obtain⟨i,j,kk,rfl,n1,n2,n3⟩:=EY hk
  obtain⟨a,b,c,rfl⟩:=Lj (hv.trans hl)
  have k7:(x≠y/\x≠z)/\y≠z:=by
   simp only[Pm,FV,QQ,or_false,not_or]at k5
   exact⟨k5.1,k5.2.1⟩
  refine PS.imp (Lb hX.calm hX.nd n1.1 n2.1 n3.1 (hd k7.1.1 n1.1 n2.1) (hd k7.1.2 n1.1 n3.1) (hd k7.2 n2.1 n3.1) (hloc x (by simp)) (hloc y (by simp)) (hloc z (by simp)) ha hw) fun D σ H h=>?_
  have e:(fun(vs:List V) H1=>vs.length=[i,j,kk].length/\D.nx (cO σ [i,j,kk] vs) H1)=fun vs H1=>∃v w u,vs=[v,w,u]/\D.nx (((σ.set i (some v)).set j (some w)).set kk (some u)) H1:=by
   funext vs H1
   refine propext ⟨?_,?_⟩
   ·rintro⟨h1,h2⟩
    obtain⟨v,w,u,rfl⟩:=Lj h1
    exact⟨v,w,u,rfl,h2⟩
   ·rintro⟨v,w,u,rfl,h2⟩
    exact⟨rfl,h2⟩
  rw[e]at h
  exact h
theorem yy{S:SE}{i:Nat}{o:Expr}(h:jG S i o=true)(nm:Str)(env:Env):attributeBase o nm env (eval o env)=eval o env:=by
 cases o with
 |Name x p=>rfl
 |_=>exact ff h
theorem QB(i:Nat)(e:CE):iO Φ Ψ G (.app i e):=by
 intro S X m hX st k
 obtain⟨o,mt,ap,v,cp,q,rfl,kk⟩:=Hu k
 simp only[B1]at kk
 obtain⟨⟨⟨⟨k1,k2⟩,k3⟩,k4⟩,k5⟩:=kk
 have k1:=DD k1
 subst k1
 have hs:=aP (bH (.inl k5)) [] X.env
 refine Ph (te:=fun R=>wE Φ G R e) (fun{tv} hv=>?_) (qx k3) fun R=>(snd Φ Ψ G e).s hX.toXOk k5 R
 exact u9 (TQ PySem.F.plainAttrs_list PySem.F.slot_list_append PySem.F.type_list_append oH (dX hX.toXOk k4) (bV hv gc hs) (yy k4 _ _) (by rw[hs];rfl) k2 hs rfl) rfl
theorem QC(i:Nat)(kx e:CE):iO Φ Ψ G (.put i kx e):=by
 intro S X m hX st k
 obtain⟨o,j,p,v,q,rfl,kk⟩:=EU k
 simp only[B1]at kk
 obtain⟨⟨⟨⟨k1,k2⟩,k3⟩,k4⟩,k5⟩:=kk
 have ha:∀u,assign (.Subscript o j p) X.env u=(do
  let ov←holding [u] (eval o X.env)
  let iv←holding [u,ov] (eval j X.env)
  standAt p
  holding [u,ov,iv] (setItem ov iv u)
  release [u,ov,iv] []):=by
  intro u
  cases j with
  |Slice _ _ _ _=>exact ff k3
  |_=>rfl
 refine Pj (te:=fun R=>wE Φ G R e) (t1:=fun R=>wE Φ G R kx) (fun{tv tk} hv hk=>?_) (qx k1) (fun R=>(snd Φ Ψ G e).s hX.toXOk k5 R) fun R=>(snd Φ Ψ G kx).s hX.toXOk k4 R
 exact An (pos:=q) hv (NX (dX hX.toXOk k2) hk set_list ha) (Hq _ _) (Hr _) rfl
theorem QD{mt:List (Nat×Nat)}{f g:Nat}(h:mt.any (fun y=>y.1==f&&y.2==g)=true):(f,g)∈mt:=by
 obtain⟨⟨a,b⟩,hy,e⟩:=List.any_eq_true.mp h
 rw[B1]at e
 cases NA.mp e.1
 cases NA.mp e.2
 exact hy
theorem HC:∀{S:SE} {c:CE} {e:Expr},m9 S c e=true->noStar e=true:=fun{S c e} h=>by
 cases e with
 |Starred v p=>
  have f:aN S false c (.Starred v p)=true->False:=fun z=>by have:=bH (.inl z);exact ff this
  cases c<;>first|exact ff h;done|exact(f h).elim
 |_=>rfl
theorem oV{S:SE}:∀{as:List CE} {es:List Expr},uF S as es=true->es.all noStar=true
 |[],es,h=>by
  rw[Hk.mp h]
  rfl
 |a::as,[],h=>by cases h
 |a::as,e::es,h=>by
  have h:=a2 h
  rw[List.all_cons,HC h.1,oV h.2]
  rfl
theorem dY{S:SE}{X:Cx}(hX:XOk S Φ Ψ G X)(R:Addr->Prop){c:CE}{v:Expr}(e1:m9 S c v=aN S false c v)(e2:wP Φ G R c=fun ε Q=>wE Φ G R c ε fun w=>Q w ε)(k:m9 S c v=true):VP X S.M R v (wP Φ G R c):=by
 rw[e1]at k
 rw[e2]
 exact UE ((snd Φ Ψ G c).s hX k R)
mutual
theorem fy{S:SE}{X:Cx}(hX:XOk S Φ Ψ G X)(R:Addr->Prop):∀(e:CE) (v:Expr),m9 S e v=true->VP X S.M R v (wP Φ G R e)
 |.pop i,v,k=>by
  obtain⟨o,mt,ap,cp,rfl,kk⟩:=mq k
  simp only[B1]at kk
  obtain⟨⟨⟨k1,k2⟩,k3⟩,k4⟩:=kk
  have k1:=DD k1
  subst k1
  exact Pq (qx k3) (dX hX k4) (yy k4 _ _) k2
 |.GD i g f as,v,k=>by
  obtain⟨o,x,ap,es,p,rfl,kk,Zn,Zo⟩:=EV k
  simp only[B1]at kk
  obtain⟨⟨⟨⟨k1,k2⟩,k3⟩,k4⟩,k5⟩:=kk
  obtain⟨fa,fd,ps,n,kl,hG,hb,F,hr,hn⟩:=hX.PV f g x (NA.mp k1) (QD k2)
  rw[←hX.MW]at k3
  cases o with
  |Name y py=>
   cases hp:Ψ f with
   |io m0=>
    rw[hp]at k3 F
    cases m0 with
    |o fs ms=>
     have k3:(hasB S.M i (.o fs ms)&&!fs.contains x)=true:=k3
     rw[B1]at k3
     cases as with
     |nil=>
      have:es=[]:=by
       exact Hk.mp k5
      subst this
      exact KR (G:=G g) hG F hr hb (fq k3.1) (by simpa using k3.2) hn (dX hX k4) (uI (cZ (oV k5) _ _) Zo Zn)
     |cons a as=>
      cases es with
      |nil=>exact ff k5
      |cons e es=>
       have V2:=k5
       have V2:=a2 V2
       exact Pz (G:=G g) hG F hr hb (fq k3.1) (by simpa using k3.2) hn (dX hX k4) (nh hX R (a::as) (e::es) k5) (aP (HC V2.1) _ _) (cZ (oV V2.2) _ _) (uI (cZ (oV k5) _ _) Zo Zn)
    |_=>exact ff k3
   |_=>rw[hp]at k3;exact ff k3
  |_=>exact ff k4
 |.bin op a b,v,k=>by
  obtain⟨l,o,r,p,rfl,kk⟩:=oS k
  simp only[B1]at kk
  obtain⟨⟨k1,k2⟩,k3⟩:=kk
  have k1:=DD k1
  subst k1
  exact Pr (fy hX R a l k2) (fy hX R b r k3)
 |.cmp op a b,v,k=>by
  obtain⟨l,o,r,p,rfl,kk⟩:=uB k
  simp only[B1]at kk
  obtain⟨⟨⟨⟨k1,k4⟩,k5⟩,k2⟩,k3⟩:=kk
  have k1:=DD k1
  subst k1
  exact Pu hX.un (F7 r (op:=op) (by simpa using k4) (by simpa using k5)) (fy hX R a l k2) (fy hX R b r k3)
 |.call f as,v,k=>by
  obtain⟨x,q,es,p,rfl,kk⟩:=aV k
  simp only[B1]at kk
  obtain⟨⟨⟨⟨⟨k1,k2⟩,k3⟩,k5⟩,k6⟩,k4⟩:=kk
  obtain⟨g1,g2,g3⟩:=dW hX k2
  obtain⟨fv,n,kl,hm,F,hr,hn⟩:=hX.fns f x (NA.mp k1) (by simpa using k6)
  have F:eV X.prog X.w X.K X.mg X.base kl fv n (MS X.K n (Ψ f) (Φ f)):=by
   rw[←hX.MW]at k5
   cases hp:Ψ f<;>rw[hp]at k5 F<;>first|exact F|exact ff k5
  have st:=oV k4
  cases es with
  |nil=>exact ff k3
  |cons e es=>
   rw[List.all_cons,B1]at st
   exact KO (p:=q) (pos:=p) F hr g1 hm hn (nh hX R as _ k4) g2 (aP st.1 _ _) (cZ st.2 _ _)
 |.blt b as,v,k=>by
  obtain⟨x,q,es,p,rfl,kk⟩:=aV k
  simp only[B1]at kk
  obtain⟨⟨⟨⟨⟨⟨⟨k1,k2⟩,k3⟩,k4⟩,k7⟩,k8⟩,k9⟩,k6⟩:=kk
  have k1:=DD k1
  obtain⟨g1,g2,g3⟩:=dW hX k2
  have hz:=hX.Ai x (List.contains_iff_mem.mp k3)
  have st:=oV k6
  cases es with
  |nil=>exact ff k9
  |cons e es=>
   rw[List.all_cons,B1]at st
   rcases yv hX.calm b (by rintro rfl;exact ff k4)with⟨id,hv,hc⟩|⟨id,hv,hc⟩
   ·exact Pw hc g1 hz (by rw[k1];exact hv) (nh hX R as _ k6) g3 g2 (aP st.1 _ _) (cZ st.2 _ _)
   ·exfalso
    cases b<;>first|(cases k7;done)|(cases k8;done)|(simp[UN]at hv;done)|cases hv
 |.ix a b,v,k=>by
  obtain⟨l,r,p,rfl,kk⟩:=gG k
  simp only[B1]at kk
  obtain⟨⟨k1,k2⟩,k3⟩:=kk
  exact UG (vI k1) (fy hX R a l k2) (fy hX R b r k3)
 |.and _,v,k=>by cases k
 |.var i,v,k=>dY hX R rfl rfl k
 |.int i,v,k=>dY hX R rfl rfl k
 |.bl i,v,k=>dY hX R rfl rfl k
 |.str i,v,k=>dY hX R rfl rfl k
 |.aX,v,k=>dY hX R rfl rfl k
 |.glob g,v,k=>dY hX R rfl rfl k
 |.neg a,v,k=>dY hX R rfl rfl k
 |.not a,v,k=>dY hX R rfl rfl k
 |.or as,v,k=>dY hX R rfl rfl k
 |.ite c a b,v,k=>dY hX R rfl rfl k
 |.tup as,v,k=>dY hX R rfl rfl k
 |.lst as,v,k=>dY hX R rfl rfl k
 |.sl a b c,v,k=>dY hX R rfl rfl k
 |.bits a,v,k=>dY hX R rfl rfl k
 |.comp ts one n i c x,v,k=>dY hX R rfl rfl k
 |.oz as,v,k=>dY hX R rfl rfl k
 |.vn a,v,k=>dY hX R rfl rfl k
 |.rev a,v,k=>dY hX R rfl rfl k
 |.own i π,v,k=>dY hX R rfl rfl k
theorem nh{S:SE}{X:Cx}(hX:XOk S Φ Ψ G X)(R:Addr->Prop):∀(as:List CE) (es:List Expr),uF S as es=true->Pp X S.M R es (NB Φ G R as)
 |[],es,k=>by
  rw[Hk.mp k]
  exact KL
 |a::as,[],k=>by cases k
 |a::as,e::es,k=>by
  have k:=a2 k
  exact GZ (aP (HC k.1) _ _) (fy hX R a e k.1) (nh hX R as es k.2)
end
theorem vQ{v:Expr}(h1:CC v=true)(h2:CA v=true)(t:Option Expr)(l:Nat)(env:Env):swapsWith v t l env=pure false:=by
 cases v with
 |ListComp _ _ _ _=>exact ff h2
 |SetComp _ _ _ _=>exact ff h1
 |DictComp _ _ _ _ _=>exact ff h1
 |_=>rfl
theorem XD{v:Expr}(h:vN v=true):CC v=true:=by cases v<;>first|rfl|exact ff h
theorem Ll(i:Nat):iO Φ Ψ G (.drop i):=by
 intro S X m hX st k
 obtain⟨v,q,rfl,kk⟩:=rO k
 simp only[B1]at kk
 obtain⟨⟨k1,k2⟩,k3⟩:=kk
 exact Cr (tt:=fun R=>wP Φ G R (.pop i)) fun R=>u9 (fy hX.toXOk R _ v k3) (vQ (XD k2) k1 _ _ _)
theorem QE(e:CE):iO Φ Ψ G (.R6 e):=by
 intro S X m hX st k
 obtain⟨v,q,rfl,kk⟩:=rO k
 simp only[B1]at kk
 obtain⟨⟨k1,k2⟩,k3⟩:=kk
 exact Cr (tt:=fun R=>wP Φ G R e) fun R=>u9 (fy hX.toXOk R _ v k3) (vQ (XD k2) k1 _ _ _)
theorem Lm(j:Nat)(e:CE):iO Φ Ψ G (.yd j e):=by
 intro S X m hX st k
 obtain⟨x,p,v,q,rfl,kk⟩:=uG k
 simp only[B1]at kk
 obtain⟨⟨⟨⟨k1,k2⟩,k4⟩,k5⟩,k3⟩:=kk
 have n:=vO hX k1
 exact KN (tt:=fun R=>wP Φ G R e) (fun{tv} hv=>Ao hX.nd n.1 n.2.1 hv (vQ (XD k5) k4 _ _ _) n.2.2) (m8 (by simpa using k2)) fun R=>fy hX.toXOk R _ v k3
theorem QF(e:CE):iO Φ Ψ G (.ret e):=by
 intro S X m hX st k
 rcases rP k with⟨v,q,rfl,kk⟩|⟨q,rfl,kk⟩
 ·unfold U3 at kk
  rw[B1]at kk
  obtain⟨ho,kk⟩:=kk
  have ho:kT m=false:=by simpa using ho
  rcases jP kk with kk|k9
  ·rcases jP kk with kk|kk
   ·rw[B1]at kk
    have hm:m=.s:=by cases m<;>first|rfl|exact ff kk.1
    exact GX (te:=fun R=>wE Φ G R e) (fun R=>(snd Φ Ψ G e).e (hX.toXOk.Sj []) v kk.2 R) (.inr hm) ho
   ·rw[B1]at kk
    exact GX (te:=fun R=>wE Φ G R e) (fun R=>Qw (hX.toXOk.Sj []) kk.2 R) (.inl (vL kk.1)) ho
  ·unfold U1 at k9
   split at k9
   ·rename_i i hv
    obtain rfl:=EX hv
    have k8:=a2 k9
    exact KJ (dX hX.toXOk k8.2) (fq k8.1) ho
   ·exact ff k9
 ·rw[B1]at kk
  obtain rfl:=uJ kk.1
  cases m<;>try exact ff kk.2
  exact Ld
theorem CN{S:SE}{m:Md}(h:Qq S m=true):∃k,m=.io k/\(0,k)∈S.M:=by
 cases m with
 |io k=>exact⟨k,rfl,fq h⟩
 |_=>exact ff h
theorem QG(e:CE):iO Φ Ψ G (.ML e):=by
 intro S X m hX st k
 rcases rP k with⟨v,q,rfl,kk⟩|⟨q,rfl,kk⟩
 ·rw[B1]at kk
  obtain⟨m0,rfl,h0⟩:=CN kk.1
  exact Px (te:=fun R=>wE Φ G R e) (fun R=>(snd Φ Ψ G e).s hX.toXOk kk.2 R) h0
 ·rw[B1]at kk
  obtain⟨m0,rfl,h0⟩:=CN kk.2
  obtain rfl:=uJ kk.1
  exact Py h0
theorem Ln{S:SE}{i n:Nat}{x:Str}(h:Qt S i n x=true):∃fs ms,(i,.o fs ms)∈S.M/\fs[n]?=some x/\ms[n]?=some .s:=by
 unfold Qt at h
 split at h
 ·rename_i fs ms hl
  rw[B1]at h
  obtain⟨h1,h2⟩:=h
  split at h2
  ·rename_i k hk
   have:k=.s:=by cases k<;>first|rfl|exact ff h2
   subst this
   exact⟨fs,ms,jO hl,NA.mp h1,hk⟩
  ·cases h2
 ·cases h
theorem QH(i n:Nat)(e:CE):iO Φ Ψ G (.EF i n e):=by
 intro S X m hX st k
 obtain⟨o,x,p,v,q,rfl,kk⟩:=EW k
 simp only[B1]at kk
 obtain⟨⟨k1,k2⟩,k4⟩:=kk
 obtain⟨fs,ms,h1,h2,h3⟩:=Ln k1
 exact PK (te:=fun R=>wE Φ G R e) (fun{tv} hv=>ia (dX hX.toXOk k2) hv (by cases v<;>rfl)) h1 h2 h3 fun R=>(snd Φ Ψ G e).s hX.toXOk k4 R
theorem QI:iO Φ Ψ G .brk:=by
 intro S X m hX st k
 cases st with
 |Break _=>exact Pc
 |_=>exact ff k
theorem U6(c:CE){a b:List CS}(ha:pL Φ Ψ G a)(hb:pL Φ Ψ G b):iO Φ Ψ G (.iff c a b):=by
 intro S X m hX st k
 obtain⟨t,x,y,q,rfl,kk⟩:=Hv k
 simp only[B1]at kk
 obtain⟨⟨⟨k1,k2⟩,k3⟩,k4⟩:=kk
 exact UB (tc:=fun R=>wE Φ G R c) (fun R=>(snd Φ Ψ G c).t hX.toXOk t k1 k2 R) (ha hX x k3) (hb hX y k4)
theorem QJ(c:CE){b:List CS}(hb:pL Φ Ψ G b):iO Φ Ψ G (.GF c b):=by
 intro S X m hX st k
 obtain⟨t,x,q,rfl,kk⟩:=Hw k
 simp only[B1]at kk
 obtain⟨⟨k1,k2⟩,k3⟩:=kk
 exact Pk ((snd Φ Ψ G c).t hX.tK.toXOk t k1 k2 _) (hb hX.tK x k3)
theorem QK(ts:List Nat)(one:Bool)(it:CE){b:List CS}(hb:pL Φ Ψ G b):iO Φ Ψ G (.fr ts one it b):=by
 intro S X m hX st k
 obtain⟨tg,i,x,q,rfl,kk⟩:=Hx k
 unfold Zm at kk
 split at kk
 rotate_left
 ·cases kk
 rename_i o xs Qn
 simp only[B1]at kk
 obtain⟨⟨⟨⟨⟨⟨k1,k2⟩,k3⟩,k4⟩,k5⟩,k6⟩,k7⟩:=kk
 have k1:=NA.mp k1
 subst k1
 refine Pn (ti:=fun R=>wE Φ G R it) hX.calm (vP k3) ((snd Φ Ψ G it).i hX.tK.toXOk tg false i (by rw[k6];rfl) (fun z=>?_) _) (K3 (X:=X.tK) hX.calm hX.tK.nd Qn (kG hX.tK k2)) (hb hX.tK x k7) (yx k4 _)
 have:one=false:=by
  rw[z]at k5
  simpa using k5
 subst this
 cases tg with
 |Tuple es kk p=>exact⟨_,_,_,rfl⟩
 |Name y p=>cases Qn
 |_=>exact nn Qn
theorem Lo:pL Φ Ψ G []:=by
 intro S X m hX st k
 rw[Hk.mp k]
 exact KH
theorem HD{s:CS}{ss:List CS}(h:iO Φ Ψ G s)(hs:pL Φ Ψ G ss):pL Φ Ψ G (s::ss):=by
 intro S X m hX st k
 cases st with
 |nil=>exact ff k
 |cons e r=>
  have k:Qu S Ψ m s e=true/\aK S Ψ m ss r=true:=a2 k
  cases ss with
  |nil=>
   have:r=[]:=by
    have:=k.2
    exact Hk.mp this
   subst this
   exact KI (h hX e k.1)
  |cons t ts=>exact(show wSs Φ G (s::t::ts)=_ from by funext D ε;rw[wSs])▸GW (h hX e k.1) (hs hX r k.2)
theorem HE{X:Cx}:∀{ts:List Nat} {xs:List Str},dD X ts xs->∀i∈ts,i<X.N.length
 |[],_,_,i,hi=>by cases hi
 |j::is,xs,h,i,hi=>by
  obtain⟨x,r,rfl,h1,h2⟩:=h
  rcases FV.mp hi with z|z
  ·rw[z]
   exact(GM.mp h1.1).1
  ·exact HE h2 i z
theorem Lp{ms:List Md}:∀{ts:List Nat},ts.length=ms.length->∀i∈ts,∃m,(i,m)∈ts.zip ms:=by
 induction ms with
 |nil=>
  intro ts h i hi
  rw[Kj.mp h]at hi
  cases hi
 |cons m ms ih=>
  intro ts h i hi
  cases ts with
  |nil=>cases h
  |cons t ts=>
   rw[List.zip_cons_cons]
   rcases FV.mp hi with z|z
   ·exact⟨m,by rw[z];exact FK⟩
   ·obtain⟨m',h'⟩:=ih (by simpa using h) i z
    exact⟨m',Ee _ h'⟩
theorem QL(ts:List Nat)(e:CE):iO Φ Ψ G (.Ug ts e):=by
 intro S X m hX st k
 obtain⟨es,kd,p,v,q,rfl,kk⟩:=uH k
 simp only[B1]at kk
 obtain⟨⟨⟨⟨⟨⟨k1,k2⟩,k3⟩,k4⟩,k5⟩,k6⟩,k7⟩:=kk
 split at k1
 rotate_left
 ·cases k1
 rename_i xs hxs
 have hg:PG X (.Tuple es kd p) (gT X.K false ts):=K3 hX.calm hX.nd (by rw[Sd,hxs];rfl) (kG hX k1)
 have hst:swappedStores [.Tuple es kd p] v X.env=pure none:=CG k7 _ _ _ _
 obtain⟨f,as,rfl⟩:=rQ k4
 have hr:U0 Ψ (.call f as)=Ψ f:=rfl
 rw[hr]at k5
 cases hm:Ψ f with
 |t ms=>
  rw[hm]at k5
  simp only[B1,Hn,NA]at k5
  obtain⟨kl,kh⟩:=k5
  have has:∀x∈ts.zip ms,x∈S.M:=fun x hx=>fq (kh x hx)
  have hL:Aj (S.Cz ts) Φ Ψ G X:=hX.Sj (S.Cz ts).M fun a b c h1 h2=>hX.M6 a b c (Re.mp h1).1 (Re.mp h2).1
  refine PL (M':=(S.Cz ts).M) (ms:=ms) (te:=fun R=>wE Φ G R (.call f as)) (fun R=>?_) kl (fun x=>?_) (fun i hi=>?_) (DD k2) (HE (kG hX k1)) (fun z hz=>?_)
  ·obtain⟨h1,_⟩:=A8 hL.toXOk k6 R
   rw[hm]at h1
   exact An h1 hg (CF _ _) hst rfl
  ·constructor
   ·intro hx
    by_cases hc:x.1∈ts
    ·obtain⟨m',h'⟩:=Lp kl x.1 hc
     have:=hX.M6 x.1 _ _ hx (has _ h')
     obtain⟨a,b⟩:=x
     simp only at this
     subst this
     exact .inl h'
    ·refine .inr (Re.mpr ⟨hx,?_⟩)
     simpa using hc
   ·rintro(hx|hx)
    ·exact has x hx
    ·exact(Re.mp hx).1
  ·rintro⟨m',h'⟩
   have:=(Re.mp h').2
   simp at this
   exact this hi
  ·rw[z]at k3
   simp at k3
   exact k3 hz
 |_=>rw[hm]at k5;exact ff k5
theorem oW{S:SE}{i:Nat}{e:Expr}(h:jG S i e=true):∃x p,e=.Name x p:=by
 cases e<;>first|exact⟨_,_,rfl⟩|exact ff h
theorem QM(i j k:Nat):iO Φ Ψ G (.Uh i j k):=by
 intro S X m hX st kk
 rcases rP kk with⟨v,q,rfl,k1⟩|⟨q,rfl,k1⟩
 ·obtain⟨es,kd,p,rfl,k2⟩:=fJ k1
  obtain⟨a,b,c,rfl,k3⟩:=G7 k2
  cases m<;>try exact ff k3
  obtain⟨m1,m2,m3,rfl,k4⟩:=G7 k3
  simp only[B1,Ha]at k4
  obtain⟨⟨⟨⟨⟨⟨⟨⟨a1,a2⟩,a3⟩,b1⟩,b2⟩,b3⟩,c1⟩,c2⟩,c3⟩:=k4
  have p1:=dX hX.toXOk a1
  have p2:=dX hX.toXOk a2
  have p3:=dX hX.toXOk a3
  obtain⟨_,_,rfl⟩:=oW a1
  obtain⟨_,_,rfl⟩:=oW a2
  obtain⟨_,_,rfl⟩:=oW a3
  exact PM p1 p2 p3 rfl rfl rfl (fq b1) (fq b2) (fq b3) c1 c2 c3
 ·cases k1
theorem QN:iO Φ Ψ G .mj:=by
 rintro S X m hX st k pins s σ H D I ⟨A,H0,ε,d,S,er,hz,h,kk⟩
 exact False.elim h
variable(Φ Ψ G)
mutual
theorem XE:∀s:CS,iO Φ Ψ G s
 |.set i e=>Qy i e
 |.rA ts e=>Qz ts e
 |.par ts es=>QA ts es
 |.app i e=>QB i e
 |.put i k e=>QC i k e
 |.drop i=>Ll i
 |.yd j e=>Lm j e
 |.ret e=>QF e
 |.iff c a b=>U6 c (rS a) (rS b)
 |.GF c b=>QJ c (rS b)
 |.fr ts one it b=>QK ts one it (rS b)
 |.brk=>QI
 |.EF i n e=>QH i n e
 |.ML e=>QG e
 |.R6 e=>QE e
 |.Ug ts e=>QL ts e
 |.mj=>QN
 |.Uh i j k=>QM i j k
theorem rS:∀ss:List CS,pL Φ Ψ G ss
 |[]=>Lo
 |s::ss=>HD (XE s) (rS ss)
end
end
structure Tab(P:Program)(w:World)(K:PySem.W.Frag)(mg:Str->Option Value)(base:Heap)(fn gn zn:List Str)(md:List Md)(mt:List (Nat×Nat))(Φ:Nat->bN)(G:Nat->W)(k:Nat):Prop where
 fns:∀(j:Nat) (x:Str),fn[j]?=some x->mt.any (·.1==j)=false->∃fv n k',mg x=some fv/\eV P w K mg base k' fv n (cY K n (bz md j) (Φ j))/\k'<=k/\∀ws P R,Φ j ws P R->ws.length=n
 PV:∀(j g:Nat) (x:Str),fn[j]?=some x->(j,g)∈mt->∃f fd ps n k',(∀C,G g=.cls C->Meth K C x f)/\Binds K fd ps []/\aH P w K mg base (cL P w) k' f fd ps (cY K n (bz md j) (Φ j))/\k'<=k/\∀ws P R,Φ j ws P R->ws.length=n
 PX:∀(j:Nat) (x:Str),gn[j]?=some x->∃u v,mg x=some u/\RelV v u/\∀B H,Rep K B H (G j) v
 Ai:∀x∈zn,mg x=none
 kit:GS K
 CB:∀j x C,gn[j]?=some x->G j=.cls C->Y3 K C
noncomputable def au(n:Nat)(ws:List W):Ev:=ws.map some++List.replicate (n -ws.length) none
noncomputable def fall:Md->(W->Prop)->Ev->Prop
 |.s,P,_=>P .aX
 |.io _,P,ε=>match look ε 0 with
  |some w0=>P (.tup [.aX,w0])
  |none=>False
 |_,_,_=>False
section
variable{K:PySem.W.Frag}{A:Addr->Prop}{H:Hp}{N:List Str}{ws:List W}{vs:List V}{M:Ms}
theorem mD{i:Nat}{w:W}(hi:ws.length<=i)(e:look (au N.length ws) i=some w):False:=by
 rw[bE]at e
 unfold au at e
 rw[HI (by simp;omega),List.getElem?_replicate]at e
 split at e
 ·cases e
 ·cases e
theorem uK{i:Nat}{w:W}(h:aj K A H ws vs)(e:look (au N.length ws) i=some w):∃v,(start N vs)[i]?=some (some v)/\Rep K A H w v:=by
 have hl:=h.len
 by_cases hlt:i<ws.length
 ·rw[bE]at e
  unfold au at e
  rw[IH (by simpa using hlt),FR]at e
  obtain⟨w',e1,e2⟩:=Pv.mp e
  cases e2
  obtain⟨v,e2,r⟩:=h.get e1
  refine⟨v,?_,r⟩
  unfold L2.start
  rw[IH (by simp;lia),FR,e2]
  rfl
 ·exact(mD (by lia) e).elim
theorem HF(h:aj K A H ws vs)(d:Dom A H)(hM:∀i m,(i,m)∈M->ws.length<=i)(un:∀i m m',(i,m)∈M->(i,m')∈M->m=m'):SR K M ⟨A,A,none⟩ H (start N vs) H (au N.length ws):=by
 have hl:=h.len
 refine⟨by simp[L2.start,au,hl],fun i w hi e=>uK h e,az.refl _,d,(fun v e=>by cases e),fun _=>[],⟨un,fun i m w hm e=>(mD (hM i m hm) e).elim,fun _ _ _=>rfl,fun _ _=>List.nodup_nil,(fun i j p _ _ z=>by cases z),(fun i p _ z=>by cases z),(fun i p _ z=>by cases z),fun p=>⟨.inl,fun z=>z.elim id<|by rintro⟨_,_,z⟩;cases z⟩⟩⟩
open Classical in
noncomputable def era(F:List Addr)(H:Hp):Hp:=fun p=>if p∈F then none else H p
theorem HG{F:List Addr}{p:Addr}{o:HO}(h:era F H p=some o):p∉F/\H p=some o:=by
 unfold era at h
 split at h
 ·cases h
 ·exact⟨by assumption,h⟩
theorem HH{F:List Addr}{p:Addr}(h:era F H p=none):p∈F\/H p=none:=by
 unfold era at h
 split at h
 ·exact .inl (by assumption)
 ·exact .inr h
theorem QO{F:List Addr}{p:Addr}(h:p∈F):era F H p=none:=by
 unfold era
 rw[Bz h]
theorem Lq{F:List Addr}{p:Addr}(h:p∉F):era F H p=H p:=by
 unfold era
 rw[Bi h]
theorem HJ{F:List Addr}{w0:W}{v0:V}{m0:Md}(nd:F.Nodup)(na:∀p∈F,¬A p)(d:Dom A H)(fp:Fp K (fun p=>A p\/p∈F) H m0 w0 v0 F)(h:aj K (fun p=>A p\/p∈F) H ws vs)
 (h0:(0,m0)∈M) (hM:∀i m,(i,m)∈M->i=0\/ws.length+1<=i) (un:∀i m m',(i,m)∈M->(i,m')∈M->m=m') (hN:0<N.length):
 SR K M ⟨A,fun p=>A p\/p∈F,some v0⟩ (era F H) (start N (v0::vs)) H (au N.length (w0::ws)):=by
 have hl:=h.len
 have M7:look (au N.length (w0::ws)) 0=some w0:=rfl
 have Zp:(start N (v0::vs))[0]?=some (some v0):=rfl
 have hs0:∀i,aS M i->i≠0->∀w,look (au N.length (w0::ws)) i=some w->False:=fun i ⟨m,hm⟩ n w e=>mD (by rcases hM i m hm with z|z;exact(n z).elim;simpa using z) e
 refine⟨by simp[L2.start,au,hl],fun i w hi e=>?_,fun p o e=>(HG e).2,d,fun v e=>?_,fun i=>if i=0 then F else[],⟨un,fun i m w hm e=>?_,fun i hi e=>?_,fun i hi=>?_,fun i j p hi hj a b=>?_,fun i p hi hp=>?_,fun i p hi hp=>?_,fun p=>?_⟩⟩
 ·cases i with
  |zero=>exact(hi ⟨m0,h0⟩).elim
  |succ i=>
   have e':look (ws.map some++List.replicate (N.length -(w0::ws).length) none) i=some w:=e
   have:look (au (N.length -1) ws) i=some w:=by
    unfold au
    rw[show N.length -1 -ws.length=N.length -(w0::ws).length by simp;lia]
    exact e'
   cases N with
   |nil=>cases hN
   |cons x N=>
    obtain⟨v,e1,e2⟩:=uK (N:=N) h this
    refine⟨v,?_,e2⟩
    unfold L2.start at e1⊢
    rw[On,List.cons_append,List.getElem?_cons_succ,show(x::N).length -(v0::vs).length=N.length -vs.length by simp]
    exact e1
 ·cases e
  exact⟨Zp,m0,h0⟩
 ·rcases TC i with rfl|hi
  ·have:=un 0 m m0 hm h0
   subst this
   rw[M7]at e
   cases e
   exact⟨v0,Zp,by rw[Bz rfl];exact fp⟩
  ·exact(hs0 i ⟨m,hm⟩ (by lia) w e).elim
 ·rcases TC i with rfl|hi'
  ·rw[M7]at e
   cases e
  ·rw[Bi (by lia)]
 ·split
  ·exact nd
  ·exact List.nodup_nil
 ·by_cases e1:i=0
  ·by_cases e2:j=0
   ·rw[e1,e2]
   ·rw[Bi e2]at b
    cases b
  ·rw[Bi e1]at a
   cases a
 ·by_cases e1:i=0
  ·rw[Bz e1]at hp
   exact QO hp
  ·rw[Bi e1]at hp
   cases hp
 ·by_cases e1:i=0
  ·rw[Bz e1]at hp
   exact na p hp
  ·rw[Bi e1]at hp
   cases hp
 ·constructor
  ·rintro(z|z)
   ·exact .inl z
   ·exact .inr ⟨0,⟨m0,h0⟩,by rw[Bz rfl];exact z⟩
  ·rintro(z|⟨i,hi,hp⟩)
   ·exact .inl z
   ·by_cases e1:i=0
    ·rw[Bz e1]at hp
     exact .inr hp
    ·rw[Bi e1]at hp
     cases hp
end
theorem M8{M:Ms}(h:(M.map (·.1)).Nodup):∀i m m',(i,m)∈M->(i,m')∈M->m=m':=by
 induction M with
 |nil=>intro i m m' a;cases a
 |cons x M ih=>
  obtain⟨j,k⟩:=x
  rw[On,Pm]at h
  intro i m m' a b
  rcases FV.mp a with a|a
  ·rcases FV.mp b with b|b
   ·cases a
    cases b
    rfl
   ·cases a
    exact(h.1 (Kx.mpr ⟨_,b,rfl⟩)).elim
  ·rcases FV.mp b with b|b
   ·cases b
    exact(h.1 (Kx.mpr ⟨_,a,rfl⟩)).elim
   ·exact ih h.2 i m m' a b
section
variable{P:Program}{w:World}{K:PySem.W.Frag}{mg:Str->Option Value}{base:Heap}{x qual:Str}{st:Stmt}{f:Addr}{fd:FuncData}{N ps:List Str}{k:Nat}{fn gn zn:List Str}{md:List Md}{mt:List (Nat×Nat)}{Φ:Nat->bN}{G:Nat->W}
theorem HK{M:Ms}{cdv:Value}{A:Around}{outer:List Env}{s:Shared}{H:Hp}{E:XK}(Sc:ay N ps (aa st))(T:Tab P w K mg base fn gn zn md mt Φ G k)(hr:dU k (mU P w K mg base N qual (aa st) f cdv A outer s H E).A)(un:∀i m m',(i,m)∈M->(i,m')∈M->m=m'):
 Aj ⟨N,(aa st).names,M,fn,gn,zn,md,mt⟩ Φ (bz md) G (mU P w K mg base N qual (aa st) f cdv A outer s H E):=
 {hN:=rfl,nd:=Sc.nd,calm:=rfl,un:=hr.units,nk:=fun _=>rfl,
  fns:=fun j x e h=>by
   obtain⟨fv,n,k',q1,q2,q3,q4⟩:=T.fns j x e h
   exact⟨fv,n,k',q1,q2,hr.mono q3,q4⟩
  PV:=fun j g x e h=>by
   obtain⟨f,fd,ps,n,k',q1,q2,q3,q4,q5⟩:=T.PV j g x e h
   exact⟨f,fd,ps,n,k',q1,q2,q3,hr.mono q4,q5⟩
  MW:=rfl,PX:=T.PX,Ai:=T.Ai,kit:=T.kit,
  bk:=by
   show(if(aa st).kind.isAnnotationScope then ScopeKind.function else(aa st).kind)=_
   rw[Sc.kind]
   rfl
  Si:=fun _=>rfl,CB:=T.CB,M6:=un}
theorem aL(F:Gn K x qual st f fd)(Sc:ay N ps (aa st))(T:Tab P w K mg base fn gn zn md mt Φ G k)(code:List CS)(M:Ms)(m:Md)(Sf:bN)(hM:M.all (fun i=>decide (ps.length<=i.1))=true)(hu:(M.map (·.1)).Nodup)(hio:kT m=false)
 (hchk:aK ⟨N,(aa st).names,M,fn,gn,zn,md,mt⟩ (bz md) m code (ah st)=true) (hlen:∀ws P R,Sf ws P R->ws.length=ps.length)
 (hp:∀ws P R,Sf ws P R->wSs Φ G code ⟨fall m P,P,fun _=>False,fun _=>False,R⟩ (au N.length ws)):aH P w K mg base (cL P w) (k+1) f fd ps (MS K ps.length m Sf):=by
 refine Gn.WL F Sc (by rintro vs H Q E ⟨A,ws,P,R,h1,h2,_⟩;rw[h2.len,h1]) fun cdv A outer s H vs Q E hr ⟨A0,ws,P0,R,h1,h2,h3,h4,h5,h6⟩=>?_
 have un:=M8 hu
 refine⟨_,rS Φ (bz md) G code (HK Sc T hr un) (ah st) hchk,⟨A0,A0,none⟩,H,au N.length ws,⟨fall m P0,P0,fun _=>False,fun _=>False,R⟩,HF h2 h3 (fun i m hi=>?_) un,⟨E,MK,fun C H' rc s'=>h6 C H' rc s',fun pins σ H1 s1 h' a C args I hx q=>Cj pins σ H1 s1 h' a C args I hx (h6 C H1 q.1 q.2)⟩,(by rw[hio];rfl),hp ws P0 R h4,⟨fun A' ε' σ' H' ea eb hf S'=>?_,fun w v H' hw s' r=>?_,fun _ _ _ _ _ _ z=>z.elim,fun _ _ _ _ _ _ z=>z.elim⟩⟩
 ·rw[h1]
  exact DD (Hn.mp hM (i,m) hi)
 ·cases m with
  |s=>exact h5 .aX .aX H' hf S'.sm (.of (by rw[Rep]))
  |io _=>cases hio
  |_=>exact hf.elim
 ·cases m with
  |io _=>cases hio
  |_=>exact h5 w v H' hw s' r
theorem vR(F:Gn K x qual st f fd)(Sc:ay N ps (aa st))(T:Tab P w K mg base fn gn zn md mt Φ G k)(code:List CS)(M:Ms)(m0:Md)(Sf:bN)(hM:M.all (fun i=>i.1==0||decide (ps.length<=i.1))=true)(hu:(M.map (·.1)).Nodup)(h0:hasB M 0 m0=true)(hN:0<N.length)
 (hchk:aK ⟨N,(aa st).names,M,fn,gn,zn,md,mt⟩ (bz md) (.io m0) code (ah st)=true) (hlen:∀ws P R,Sf ws P R->ws.length=ps.length)
 (hp:∀ws P R,Sf ws P R->wSs Φ G code ⟨fall (.io m0) P,P,fun _=>False,fun _=>False,R⟩ (au N.length ws)):aH P w K mg base (cL P w) (k+1) f fd ps (Uy K ps.length m0 Sf):=by
 refine Gn.WL F Sc (by rintro vs H Q E ⟨ab,F,w0,v0,ws,vs',P,R,e,h1,_,_,_,_,h2,_⟩;rw[e,List.length_cons,h2.len,h1]) fun cdv A outer s H vs Q E hr ⟨ab,F,w0,v0,ws,vs',P0,R,e,h1,nd,na,d,fp,h2,h4,h5,h6⟩=>?_
 subst e
 have un:=M8 hu
 have h0:=fq h0
 have ch:∀{H'},az (era F H) H'->xM (·∈F) H H':=fun{H'} s' p o e=>by
  by_cases Sa:p∈F
  ·obtain⟨o',e',hm⟩:=Fp.mu m0 fp p Sa
   rw[e]at e'
   cases e'
   exact .inl ⟨hm,Sa⟩
  ·exact .inr (s' p o (by rw[Lq Sa];exact e))
 refine⟨_,rS Φ (bz md) G code (HK Sc T hr un) (ah st) hchk,⟨ab,fun p=>ab p\/p∈F,some v0⟩,era F H,au N.length (w0::ws),⟨fall (.io m0) P0,P0,fun _=>False,fun _=>False,R⟩,HJ nd na d fp h2 h0 (fun i m hi=>?_) un hN,⟨E,MK,fun C H' rc s'=>h6 C H' rc (ch s'),fun pins σ H1 s1 h' a C args I hx q=>Cj pins σ H1 s1 h' a C args I hx (h6 C H1 q.1 (ch q.2))⟩,rfl,hp _ P0 R h4,⟨fun A' ε' σ' H' ea eb hf S'=>?_,fun w v H' hw s' r=>?_,fun _ _ _ _ _ _ z=>z.elim,fun _ _ _ _ _ _ z=>z.elim⟩⟩
 ·have:=Hn.mp hM (i,m) hi
  rw[Bool.or_eq_true]at this
  rcases this with z|z
  ·exact .inl (NA.mp z)
  ·exact .inr (by rw[h1];exact DD z)
 ·have hf:(match look ε' 0 with|some w0=>P0 (.tup [.aX,w0])|none=>False):=hf
  cases hl:look ε' 0 with
  |none=>rw[hl]at hf;exact hf.elim
  |some y=>
   rw[hl]at hf
   obtain⟨wr,y',v0',F',e1,e2,XF,V3,fp',rr⟩:=vG (v:=.aX) S' h0 hl ⟨v0,eb⟩ (by rw[Rep]:Rep K A'.B H' .aX .aX)
   cases e1
   rw[eb]at e2
   cases e2
   rw[ea]at fp' rr V3
   exact h5 .aX y .aX F' H' hf (ch S'.sm) XF (fun p hp=>HH (V3 p hp).1) fp' rr
 ·obtain⟨wr,y,v0',F',rfl,e2,XF,V3,fp',rr⟩:=r
  cases e2
  exact h5 wr y v F' H' hw (ch s') XF (fun p hp=>HH (V3 p hp).1) fp' rr
end
end VL
namespace L2
open PySem PySem.Spec PyProof.Rows
abbrev rv(as:List (Addr×Rat)):List V:=as.map fun x=>V.ref x.1
abbrev rq(as:List (Addr×Rat)):List Rat:=as.map fun x=>x.2
section
variable{X:Cx}{H:Hp}
end
theorem uL{α:Type}{xs:List α}{x:α}(h:xs.getLast?=some x):oG xs (-1)=some x:=by
 have hl:xs≠[]:=by intro z;rw[z]at h;cases h
 have hl2:0<xs.length:=Bn.mpr hl
 unfold oG
 have e:Ag xs.length (-1)=some (xs.length -1):=by
  unfold Ag
  rw[Bi (by decide),Bz (by lia)]
  congr 1
  lia
 rw[e]
 show xs[xs.length -1]?=_
 rw[←h,Qb]
end L2
namespace Num
theorem yz(a b q:Int):Int.gcd b (a -q*b)=Int.gcd a b:=by
 apply Nat.dvd_antisymm
 ·apply Int.dvd_gcd
  ·have h1:((Int.gcd b (a -q*b):Nat):Int)∣b:=Int.gcd_dvd_left ..
   have h2:((Int.gcd b (a -q*b):Nat):Int)∣(a -q*b):=Pi ..
   have h3:=Int.dvd_add h2 (Int.dvd_mul_of_dvd_right h1:_∣q*b)
   have e:a -q*b+q*b=a:=by lia
   rw[e]at h3
   exact h3
  ·exact Int.gcd_dvd_left ..
 ·apply Int.dvd_gcd
  ·exact Pi ..
  ·exact Int.dvd_sub (Int.gcd_dvd_left ..) (Int.dvd_mul_of_dvd_right (Pi ..))
theorem fl(a b:Int)(hb:b≠0):(0<b->0<=a -a.fdiv b*b/\a -a.fdiv b*b<b)/\(b<0->b<a -a.fdiv b*b/\a -a.fdiv b*b<=0):=by
 have e:=Int.mul_ediv_add_emod a b
 have h0:=Int.emod_nonneg a hb
 have h1:a%b<(b.natAbs:Int):=by
  rcases Int.lt_or_le 0 b with z|z
  ·have:=Int.emod_lt_of_pos a z
   lia
  ·have:=Int.emod_lt_of_pos a (show 0< -b by lia)
   rw[Int.emod_neg]at this
   lia
 rw[Int.fdiv_eq_ediv]
 have eb:b*(a/b)=(a/b)*b:=ar _ _
 constructor
 ·intro h
  rw[Bz (Or.inl (by lia)),Int.sub_zero]
  lia
 ·intro h
  split
  ·rename_i hd
   have hz:a%b=0:=Int.emod_eq_zero_of_dvd (by lia)
   rw[Int.sub_zero]
   lia
  ·rename_i hd
   have hz:a%b≠0:=fun z=>hd (.inr (Int.dvd_of_emod_eq_zero z))
   have:(a/b -1)*b=a/b*b -b:=by rw[Int.sub_mul];lia
   lia
theorem HL(a b:Int)(hb:b≠0):(a -a.fdiv b*b).natAbs<b.natAbs:=by
 have:=fl a b hb
 omega
theorem fmod_eq(a b:Int):a.fmod b=a -a.fdiv b*b:=by
 have:=Int.mul_fdiv_add_fmod a b
 have:b*a.fdiv b=a.fdiv b*b:=ar _ _
 omega
theorem dz(r:Rat):(r.den:Int)≠0:=by have:=r.den_nz;lia
theorem dpos(r:Rat):(0:Int)<r.den:=by have:=r.den_pos;omega
theorem QS{n:Int}{d:Nat}{r:Rat}(hd:d≠0)(hc:Nat.gcd n.natAbs d=1)(h:n*r.den=r.num*d):r.num=n/\(r.den:Int)=d:=by
 have e:r=⟨n,d,hd,hc⟩:=by
  rw[←UV r,Rat.mk_eq_divInt,aw (dz r) (by lia)]
  exact h.symm
 rw[e]
 exact⟨rfl,rfl⟩
theorem tU(a b:Rat):(a*b).num*(a.den*b.den:Int)=(a.num*b.num)*(a*b).den:=by
 have h2:a*b=Rat.divInt (a.num*b.num) (a.den*b.den):=by
  conv=>lhs;rw[←UV a,←UV b]
  exact Rat.divInt_mul_divInt _ _
 exact(aw (dz _) (Fh (dz a) (dz b))).mp ((UV (a*b)).trans h2)
theorem vU{x y m:Int}(h1:Int.gcd x m=1)(h2:Int.gcd y m=1):Int.gcd (x*y) m=1:=by
 unfold Int.gcd at*
 rw[Fk]
 exact Nat.Coprime.mul_left h1 h2
theorem HM{x y m:Int}(h1:Int.gcd m x=1)(h2:Int.gcd m y=1):Int.gcd m (x*y)=1:=by
 rw[Int.gcd_comm]at*
 exact vU h1 h2
theorem vV{x y m:Int}(h:Int.gcd x m=1)(hd:y∣m):Int.gcd x y=1:=by
 unfold Int.gcd at*
 exact Nat.Coprime.coprime_dvd_right (Int.natAbs_dvd_natAbs.mpr hd) h
theorem yC{x y m:Int}(h:Int.gcd m x=1)(hd:y∣m):Int.gcd y x=1:=by
 rw[Int.gcd_comm]at*
 exact vV h hd
theorem red(r:Rat):Int.gcd r.num r.den=1:=r.reduced
theorem qA(x y:Int)(h:y≠0):∃x' y':Int,x=(Int.gcd x y:Nat)*x'/\y=(Int.gcd x y:Nat)*y'/\Int.gcd x' y'=1/\0<((Int.gcd x y:Nat):Int):=by
 have hg:0<Int.gcd x y:=Int.gcd_pos_of_ne_zero_right _ h
 obtain⟨x',hx⟩:((Int.gcd x y:Nat):Int)∣x:=Int.gcd_dvd_left ..
 obtain⟨y',hy⟩:((Int.gcd x y:Nat):Int)∣y:=Pi ..
 refine⟨x',y',hx,hy,?_,by lia⟩
 have e:Int.gcd ((Int.gcd x y:Nat)*x') ((Int.gcd x y:Nat)*y')=Int.gcd x y*Int.gcd x' y':=by
  rw[Int.gcd_mul_left]
  rfl
 rw[←hx,←hy]at e
 have:Int.gcd x y*1=Int.gcd x y*Int.gcd x' y':=by lia
 exact(Nat.eq_of_mul_eq_mul_left hg this).symm
theorem ni{g x x':Int}(h:x=g*x')(hg:0<g):x/g=x':=by
 rw[h]
 exact bo _ (by lia)
theorem A9{g y y':Int}(h:y=g*y')(hg:0<g)(hy:0<y):0<y':=by
 rcases Int.lt_or_le 0 y' with z|z
 ·exact z
 ·have:=Int.mul_nonpos_of_nonneg_of_nonpos (T1 hg) z
  omega
theorem vW{n d:Int}{r:Rat}(hd:0<d)(hc:Int.gcd n d=1)(h:n*r.den=r.num*d):r.num=n/\(r.den:Int)=d:=by
 have e:((d.toNat:Nat):Int)=d:=by lia
 have:=QS (n:=n) (d:=d.toNat) (r:=r) (by lia) (by unfold Int.gcd at hc;rw[show d.toNat=d.natAbs by lia];exact hc) (by rw[e];exact h)
 rw[e]at this
 exact this
theorem HN(a b:Rat):0<((Int.gcd a.num b.den:Nat):Int)/\0<((Int.gcd b.num a.den:Nat):Int)/\
 (a*b).num=a.num/(Int.gcd a.num b.den:Nat)*(b.num/(Int.gcd b.num a.den:Nat))/\((a*b).den:Int)=(a.den:Int)/(Int.gcd b.num a.den:Nat)*((b.den:Int)/(Int.gcd a.num b.den:Nat)):=by
 obtain⟨x,y,hx,hy,hxy,hf⟩:=qA a.num b.den (dz b)
 obtain⟨z,w,hz,hw,hzw,hs⟩:=qA b.num a.den (dz a)
 generalize((Int.gcd a.num b.den:Nat):Int)=f at*
 generalize((Int.gcd b.num a.den:Nat):Int)=s at*
 have py:=A9 hy hf (dpos b)
 have pw:=A9 hw hs (dpos a)
 have cop:Int.gcd (x*z) (w*y)=1:=by
  have c1:Int.gcd x w=1:=vV (yC (red a) ⟨f,by rw[hx];grind⟩) ⟨s,by rw[hw];grind⟩
  have c2:Int.gcd z y=1:=vV (yC (red b) ⟨s,by rw[hz];grind⟩) ⟨f,by rw[hy];grind⟩
  exact HM (vU c1 hzw) (vU hxy c2)
 have HP:x*z*(a*b).den=(a*b).num*(w*y):=by
  have hc:=tU a b
  have e1:(a.den*b.den:Int)=(f*s)*(w*y):=by rw[hw,hy];grind
  have e2:a.num*b.num=(f*s)*(x*z):=by rw[hx,hz];grind
  rw[e1,e2]at hc
  have nz:f*s≠0:=Fh (by lia) (by lia)
  have:(f*s)*((a*b).num*(w*y))=(f*s)*(x*z*(a*b).den):=by grind
  exact(NM nz this).symm
 have fin:=vW (r:=a*b) (Int.mul_pos pw py) cop HP
 refine⟨hf,hs,?_,?_⟩
 ·rw[fin.1,ni hx hf,ni hz hs]
 ·rw[fin.2,ni hw hs,ni hy hf]
noncomputable def Bd(n:Nat)(r:Rat):Prop:=r.num.natAbs<2^n/\r.den<2^n
theorem QT{n:Int}{d:Nat}(hd:d≠0):(mkRat n d).num.natAbs<=n.natAbs/\(mkRat n d).den<=d:=by
 obtain⟨m,hm,h1,h2⟩:=Rat.mkRat_num_den hd (show mkRat n d=⟨(mkRat n d).num,(mkRat n d).den,(mkRat n d).den_nz,(mkRat n d).reduced⟩from rfl)
 constructor
 ·have:n.natAbs=(mkRat n d).num.natAbs*m:=by
   conv=>lhs;rw[h1]
   rw[Fk,Int.natAbs_natCast]
  rw[this]
  exact SB _ (by lia)
 ·conv=>rhs;rw[h2]
  exact SB _ (by lia)
theorem lt_mul{x y n m:Nat}(h1:x<2^n)(h2:y<2^m):x*y<2^(n+m):=by
 rw[du]
 rcases TC y with z|z
 ·subst z
  have:=Nat.mul_pos (Os (n:=n) (show 0<2 by decide)) (Os (n:=m) (show 0<2 by decide))
  omega
 ·exact GE (Nat.mul_lt_mul_of_pos_right h1 z) (DL _ (Yf h2))
end Num
namespace VL
open PySem PySem.Spec
open PyProof.Rows hiding St
open L2
noncomputable def wq(r:Rat):W:=.tup [.int r.num,.int r.den]
noncomputable def af(rs:List Rat):W:=.lst (rs.map wq)
section
variable{K:PySem.W.Frag}{A:Addr->Prop}{H H':Hp}{v:V}{p:Addr}{r:Rat}{rs:List Rat}
end
noncomputable def b7:List bN->Nat->bN
 |[],_=>fun _ _ _=>False
 |x::_,0=>x
 |_::l,n+1=>b7 l n
noncomputable def ou:List W->Nat->W
 |[],_=>.aX
 |x::_,0=>x
 |_::l,n+1=>ou l n
section
variable{Q:W->Prop}{l a b:List W}{i j:Int}{x y:Str}{p q:Bool}
theorem x_len:vo .len [.lst l] Q=Q (.int l.length):=rfl
theorem FI{ns:List Int}:vo .len [.iJ ns] Q=Q (.int ns.length):=rfl
theorem FH:vo .len [.tup l] Q=Q (.int l.length):=rfl
theorem Mf:vo .abs [.int i] Q=Q (.int (if i<0 then-i else i)):=rfl
theorem Mg:vo .max2 [.int i,.int j] Q=Q (.int (if j>i then j else i)):=rfl
theorem Mh:vo .min2 [.int i,.int j] Q=Q (.int (if j<i then j else i)):=rfl
theorem U7:vo .sum [.lst l] Q=∃ns:List Int,l=ns.map W.int/\Q (.int ns.sum):=rfl
theorem Zq:vo .all [.lst l] Q=∃bs:List Bool,l=bs.map W.bl/\Q (.bl (bs.all id)):=rfl
theorem FJ:vo .list [.lst l] Q=Q (.lst l):=rfl
theorem BX:vo .list [.tup l] Q=Q (.lst l):=rfl
theorem BY:vo .tuple [.lst l] Q=Q (.tup l):=rfl
theorem xP:vo .tuple [.tup l] Q=Q (.tup l):=rfl
theorem Mi:gE .Add (.int i) (.int j) Q=Q (.int (i+j)):=rfl
theorem Mj:gE .Add (.lst a) (.lst b) Q=(a.length+b.length<=sizeLine/\Q (.lst (a++b))):=rfl
theorem XG:gE .Add (.tup a) (.tup b) Q=(a≠[]/\a.length+b.length<=sizeLine/\Q (.tup (a++b))):=rfl
theorem Ml:gE .Sub (.int i) (.int j) Q=Q (.int (i -j)):=rfl
theorem Mm:gE .Mult (.int i) (.int j) Q=(IntMulOk i j/\Q (.int (i*j))):=rfl
theorem Mn:gE .Mult (.lst a) (.int j) Q=(-(2^63)<=j/\j<2^63/\a.length*j.toNat<=sizeLine/\Q (.lst (List.replicate j.toNat a).flatten)):=rfl
theorem FL:gE .FloorDiv (.int i) (.int j) Q=(uw i j/\Q (.int (i.fdiv j))):=rfl
theorem Mp:gE .Mod (.int i) (.int j) Q=(j≠0/\Q (.int (i.fmod j))):=rfl
theorem Mq:gE .Pow (.int i) (.int j) Q=(tN i j/\Q (.int (i^j.toNat))):=rfl
theorem Mr:gE .RShift (.int i) (.int j) Q=(0<=j/\Q (.int (i/2^j.toNat))):=rfl
theorem Su:gg .Eq (.int i) (.int j) Q=Q (.bl (decide (i=j))):=rfl
theorem Sv:gg .NotEq (.int i) (.int j) Q=Q (.bl (!decide (i=j))):=rfl
theorem x_lt:gg .Lt (.int i) (.int j) Q=Q (.bl (decide (i<j))):=rfl
theorem Sw:gg .LtE (.int i) (.int j) Q=Q (.bl (decide (i<=j))):=rfl
theorem Sx:gg .Gt (.int i) (.int j) Q=Q (.bl (decide (j<i))):=rfl
theorem Sy:gg .GtE (.int i) (.int j) Q=Q (.bl (decide (j<=i))):=rfl
theorem Zr:gg .Eq (.lst a) (.lst b) Q=(((fY 9 (.lst a)=true/\fY 9 (.lst b)=true)\/(g5 9 (.lst a)=true/\g5 9 (.lst b)=true))/\∀k:Bool,(k=true↔W.lst a=.lst b)->Q (.bl k)):=rfl
theorem Zs:gg .NotEq (.lst a) (.lst b) Q=(((fY 9 (.lst a)=true/\fY 9 (.lst b)=true)\/(g5 9 (.lst a)=true/\g5 9 (.lst b)=true))/\∀k:Bool,(k=true↔W.lst a=.lst b)->Q (.bl (!k))):=rfl
theorem Zt:gg .Eq (.tup a) (.tup b) Q=(((fY 9 (.tup a)=true/\fY 9 (.tup b)=true)\/(g5 9 (.tup a)=true/\g5 9 (.tup b)=true))/\∀k:Bool,(k=true↔W.tup a=.tup b)->Q (.bl k)):=rfl
theorem Zu:gg .NotEq (.tup a) (.tup b) Q=(((fY 9 (.tup a)=true/\fY 9 (.tup b)=true)\/(g5 9 (.tup a)=true/\g5 9 (.tup b)=true))/\∀k:Bool,(k=true↔W.tup a=.tup b)->Q (.bl (!k))):=rfl
theorem BZ{Q:Bool->Prop}:truth (.bl p) Q=Q p:=rfl
theorem Sz:OH (.lst l) (.int i) Q=∃w,oG l i=some w/\Q w:=rfl
theorem Mu{ns:List Int}:OH (.iJ ns) (.int i) Q=∃n,oG ns i=some n/\Q (.int n):=rfl
theorem Mv{ns:List Int}{lo hi:Option Int}:VW (.iJ ns) lo hi Q=Q (.lst (oM (ns.map W.int) lo hi)):=rfl
theorem Mt:OH (.tup l) (.int i) Q=∃w,oG l i=some w/\Q w:=rfl
theorem SA{lo hi:Option Int}:VW (.lst l) lo hi Q=Q (.lst (oM l lo hi)):=rfl
theorem Mw{w:W}{Q:Option Int->Prop}:JB .aX w Q=Q none:=rfl
theorem Mx{n:Int}{Q:Option Int->Prop}:JB (.int n) (.int i) Q=Q (some i):=rfl
theorem My{n:Nat}{Q:Option Int->Prop}:JB (.var n) (.int i) Q=Q (some i):=rfl
theorem Mz{o:Operator}{c d:CE}{Q:Option Int->Prop}:JB (.bin o c d) (.int i) Q=Q (some i):=rfl
theorem B3{Q:List W->Prop}:items (.lst l) Q=Q l:=rfl
theorem xQ{Q:List W->Prop}:items (.tup l) Q=Q l:=rfl
theorem SD{n:Nat}{w:W}{ε:Ev}{Q:Ev->Prop}:wT true [n] w ε Q=Q (ε.set n (some w)):=rfl
theorem SG{ts:List Nat}{ε:Ev}{Q:Ev->Prop}:wT false ts (.tup l) ε Q=(l.length=ts.length/\Q (bD ε ts l)):=by
 cases ts<;>rfl
theorem MA{i j:Nat}{ε:Ev}{Q:Ev->Prop}:wT false [i,j] (.tup l) ε Q=(l.length=2/\Q (bD ε [i,j] l)):=rfl
theorem MB{i j k:Nat}{ε:Ev}{Q:Ev->Prop}:wT false [i,j,k] (.tup l) ε Q=(l.length=3/\Q (bD ε [i,j,k] l)):=rfl
theorem FN{A B:Prop}:(if true=true then A else B)=A:=rfl
theorem B4{A B:Prop}:(if false=true then A else B)=B:=rfl
end
noncomputable def WN{α:Type}(S:α->Ev)(J:α->Prop)(μ:α->Nat)(s:α):Ev->Prop:=fun ε'=>∃s',ε'=S s'/\J s'/\μ s'<μ s
noncomputable def XH{α:Type}(S:α->Ev)(J:α->Prop)(μ:α->Nat)(b:Dn->Ev->Prop)(D:Dn)(s:α)(k:Bool):Prop:=
 if k=true then∃N:Ev->Prop,(∀ε',N ε'->∃m',m'<μ s/\∃s',ε'=S s'/\m'=μ s'/\J s')/\b {nx:=N,rt:=D.rt,bk:=D.nx,ct:=N,ex:=fun _=>False} (S s)else D.nx (S s)
theorem iy{α:Type}{S:α->Ev}{J:α->Prop}{μ:α->Nat}{b:Dn->Ev->Prop}{D:Dn}{s:α}{k:Bool}(h1:k=true->b {nx:=WN S J μ s,rt:=D.rt,bk:=D.nx,ct:=WN S J μ s,ex:=fun _=>False} (S s))(h2:k=false->D.nx (S s)):XH S J μ b D s k:=by
 unfold XH
 cases k with
 |true=>exact⟨_,by rintro ε' ⟨s',e,j,l⟩;exact⟨_,l,s',e,rfl,j⟩,h1 rfl⟩
 |false=>exact h2 rfl
theorem mE{c:Ev->(Bool->Prop)->Prop}{b:Dn->Ev->Prop}{D:Dn}{ε:Ev}{α:Type}(S:α->Ev)(J:α->Prop)(μ:α->Nat)(s0:α)(e0:ε=S s0)(h0:J s0)(hs:∀s,J s->c (S s) (XH S J μ b D s)):OI c b D ε:=by
 refine⟨fun m ε=>∃s,ε=S s/\m=μ s/\J s,⟨_,s0,e0,rfl,h0⟩,?_⟩
 rintro m _ ⟨s,rfl,rfl,j⟩
 exact hs s j
theorem gH{α:Type}{f:W->(Option W->Prop)->Prop}{h g:α->W}:∀(ws:List α) (acc:List W) (Q:List W->Prop),(∀x∈ws,∀K:Option W->Prop,K (some (g x))->f (h x) K)->acc.length+ws.length<=sizeLine->Q (acc++ws.map g)->qi f (ws.map h) acc Q
 |[],acc,Q,_,_,q=>by
  rw[List.map_nil,qi]
  simpa using q
 |w::ws,acc,Q,hh,l,q=>by
  rw[On,qi]
  refine hh w (FK ..) _ ⟨?_,gH ws _ Q (fun x hx=>hh x (Ee _ hx)) ?_ ?_⟩
  ·rw[List.length_cons]at l
   lia
  ·rw[FC,List.length_singleton]
   rw[List.length_cons]at l
   lia
  ·rw[Kb]
   exact q
theorem jR{α:Type}(x:α):∀n,(List.replicate n [x]).flatten=List.replicate n x
 |0=>rfl
 |n+1=>by rw[List.replicate_succ,List.flatten_cons,jR x n];rfl
theorem qC{rs:List Rat}{y:Rat}(h0:0<rs.length)(h:rs.getD (rs.length -1) 0=y):rs.getLast?=some y:=by
 rw[Qb,BM (by omega)]
 rw[AC,BM (by omega)]at h
 exact SZ some h
theorem yD{rs:List Rat}{y:Rat}(h:rs.getLast?=some y):oG (rs.map wq) (-1)=some (wq y):=uL (by rw[List.getLast?_map,h];rfl)
theorem ak{n:Nat}(h:n<=1000):n<=sizeLine:=Dx h (by decide)
theorem rT(K:PySem.W.Frag):GS K:=by
 intro a ha b hb
 simp only[FV,QQ,or_false]at ha hb
 rcases ha with rfl|rfl|rfl|rfl|rfl|rfl<;>rcases hb with rfl|rfl|rfl|rfl|rfl|rfl<;>rfl
theorem Bc{n:Nat}(h:n<=1000):n<sizeLine:=Gc h (by decide)
theorem vX(i:Int)(n:Nat):fY n (.int i)=true:=by
 cases n<;>rw[fY]
theorem rV(r:Rat)(n:Nat):fY (n+1) (wq r)=true:=by
 unfold wq
 rw[fY,List.all_cons,List.all_cons,vX,vX]
 rfl
theorem qD(rs:List Rat)(n:Nat):fY (n+2) (.lst (rs.map wq))=true:=by
 rw[fY,Hn]
 intro x hx
 obtain⟨r,_,rfl⟩:=Kx.mp hx
 exact rV r n
theorem Be{r s:Rat}(h:wq r=wq s):r=s:=by
 unfold wq at h
 simp only[W.tup.injEq,List.cons.injEq,W.int.injEq,and_true]at h
 exact Rat.ext h.1 (by have:=h.2;lia)
theorem qE{rs ss:List Rat}(h:W.lst (rs.map wq)=.lst (ss.map wq)):rs=ss:=by
 rw[W.lst.injEq]at h
 exact(List.map_inj_right (fun a b e=>Be e)).mp h
theorem iz{x y:List Rat}{Q:W->Prop}(h:∀k:Bool,(k=true↔x=y)->Q (.bl k)):gg .Eq (af x) (af y) Q:=
 ⟨.inl ⟨qD x 7,qD y 7⟩,fun k hk=>h k (hk.trans ⟨fun e=>qE e,fun e=>by rw[e]⟩)⟩
theorem QU{x y:List Rat}{Q:W->Prop}(h:∀k:Bool,(k=true↔x=y)->Q (.bl (!k))):gg .NotEq (af x) (af y) Q:=
 ⟨.inl ⟨qD x 7,qD y 7⟩,fun k hk=>h k (hk.trans ⟨fun e=>qE e,fun e=>by rw[e]⟩)⟩
theorem U8{x y:Rat}{Q:W->Prop}(h:∀k:Bool,(k=true↔x=y)->Q (.bl k)):gg .Eq (wq x) (wq y) Q:=
 ⟨.inl ⟨rV x 8,rV y 8⟩,fun k hk=>h k (hk.trans ⟨fun e=>Be e,fun e=>by rw[e]⟩)⟩
theorem cP{k:Bool}{p:Prop}(h:k=true↔p)(q:p):k=true:=h.mpr q
theorem bK{k:Bool}{p:Prop}(h:k=true↔p)(q:¬p):k=false:=by
 cases k with
 |false=>rfl
 |true=>exact absurd (h.mp rfl) q
noncomputable def Hd(K:PySem.W.Frag)(x:Str)(st:Stmt):Prop:=∃(f:Addr) (od an:Option Addr) (sl:Array (Option Value)) (oc kV dc pm cd ct:Value),
 PySem.W.nsIn K mainGlobals x=some (some (.ref f))/\K.lookup f=some ⟨oc,od,.func (PySem.W.fnOf x x (cN st) (ah st) (aa st) .none kV dc pm an cd ct),sl⟩/\PySem.W.codeIn K cd x=true/\PySem.W.keepIn K (.ref f)=true
noncomputable def Hm(K:PySem.W.Frag)(C:Addr)(x q:Str)(st:Stmt):Prop:=∃(f:Addr) (od an:Option Addr) (sl:Array (Option Value)) (oc kV dc pm cd ct:Value),
 PySem.W.findIn K (.ref C) x=some (some (.ref f))/\PySem.W.isFn K (.ref f)=true/\K.lookup f=some ⟨oc,od,.func (PySem.W.fnOf x q (cN st) (ah st) (aa st) .none kV dc pm an cd ct),sl⟩/\PySem.W.codeIn K cd q=true/\PySem.W.keepIn K (.ref f)=true
structure Df(K:PySem.W.Frag)(mg:Str->Option Value)(x:Str)(st:Stmt)(ps:List Str)(f:Addr)(fd:FuncData):Prop where
 F:Gn K x x st f fd
 m:mg x=some (.ref f)
 b:Binds K fd ps []
 bt:∀(s:Shared) (us:List Value),us.length=ps.length->BindsTo s fd ⟨us,[]⟩ (ps.zip us)
structure Dm(K:PySem.W.Frag)(C:Addr)(x q:Str)(st:Stmt)(ps:List Str)(f:Addr)(fd:FuncData):Prop where
 F:Gn K x q st f fd
 M:Meth K C x f
 b:Binds K fd ps []
abbrev kH(x q:Str)(st:Stmt)(ps:List Str):Prop:=∀(kV doc pm:Value) (an:Option Addr) (cdv ct:Value) (us:List Value),us.length=ps.length->bindArgs (PySem.W.fnOf x q (cN st) (ah st) (aa st) .none kV doc pm an cdv ct) ⟨us,[]⟩=pure (ps.zip us)
theorem bf{K:PySem.W.Frag}{h:Heap}{mg:Str->Option Value}{x:Str}{st:Stmt}{ps:List Str}(X:K.In h)(G:h.Ns mainGlobals mg)(hd:Hd K x st)(b:kH x x st ps):∃f fd,Df K mg x st ps f fd:=by
 obtain⟨f,od,an,sl,oc,kV,dc,pm,cd,ct,a,l,c,k⟩:=hd
 have F:=Gp (st:=st) l c k
 exact⟨f,_,F,PySem.W.mg_of X G a,F.binds b,fun s us hl=>.of_eq (b kV dc pm an cd ct us hl)⟩
theorem CO{K:PySem.W.Frag}{C:Addr}{x q:Str}{st:Stmt}{ps:List Str}(hd:Hm K C x q st)(b:kH x q st ps):∃f fd,Dm K C x q st ps f fd:=by
 obtain⟨f,od,an,sl,oc,kV,dc,pm,cd,ct,a,i,l,c,k⟩:=hd
 have F:=Gp (st:=st) l c k
 exact⟨f,_,F,⟨a,i,k⟩,F.binds b⟩
structure Hc(K:PySem.W.Frag)(mg:Str->Option Value)(x:Str)(C:Addr)(fs:List Str):Prop where
 c:mg x=some (.ref C)
 ok:AO K C fs
 mks:PySem.W.makesIn K C=true
 kp:PySem.W.keepIn K (.ref C)=true
theorem Bf{K:PySem.W.Frag}{H:Hp}{a:Addr}{ns:List Int}(hO:Gk H)(hS:kR K H a (ns.map V.int)):Rep K (fun _=>False) H (.iJ ns) (.ref a):=by
 rw[Rep]
 refine⟨a,rfl,?_⟩
 rcases hS with(h|⟨o,h⟩)|h
 ·rcases hO a with z|⟨o,xs,z⟩
  ·rw[z]at h
   cases h
  ·rw[z]at h
   cases h
 ·exact .inl ⟨o,h⟩
 ·exact .inr (.inr h)
noncomputable def Lr:bN:=fun ws Q _=>∃ns:List Int,ws=[.iJ ns]/\ns.length<=63/\Q (.bl true)
noncomputable def CP(K:PySem.W.Frag):Sp:=fun vs H Q _=>∃(a:Addr) (ns:List Int),vs=[.ref a]/\Gk H/\kR K H a (ns.map V.int)/\ns.length<=63/\∀H',Q (.bl true) H'
theorem QV{P:Program}{w:World}{K:PySem.W.Frag}{mg:Str->Option Value}{base:Heap}{k:Nat}{f:Addr}{fd:FuncData}{x:Str}(F:aH P w K mg base (cL P w) k f fd [x] (MS K 1 .s Lr)):aH P w K mg base TX k f fd [x] (CP K):=by
 refine(aH.TZ F).imp fun vs H Q E ⟨a,ns,e,hO,hS,hl,q⟩=>?_
 subst e
 refine⟨fun _=>False,[.iJ ns],fun w=>w=.bl true,fun _=>False,rfl,.cons (Bf hO hS) .nil,fun _ z=>z.elim,⟨ns,rfl,hl,rfl⟩,fun w v H' hw _ r=>?_,fun _ _ z=>z.elim⟩
 subst hw
 have r:=r.bO
 rw[Rep]at r
 subst r
 exact q H'
theorem walk{l:PySem.W.OpenLaw}{q:Program}{loose:List Str}{XP:(Str->Option Value)->Heap->Prop}{YP:World->Heap->Prop}{d:DefRec}{K:Params->PySem.W.Frag}{k:Nat}(hn:l.most=some 63)(hdf:d.params.defaults=[])(hr:dU k callerA)
 (hY:∀(w:World) (h:Heap),YP w h->(K w.params).In h)
 (F:∀(w:World) (mg:Str->Option Value) (fa:Addr) (h:Heap),(K w.params).In h->h.Ns mainGlobals mg->mg d.name=some (.ref fa)->
   ∃fd:FuncData,(∀(s:Shared) (u:Value),BindsTo s fd ⟨[u],[]⟩ [("_law_script",u)])/\∀base:Heap,(K w.params).In base->base.Ns mainGlobals mg->aH l.prog w (K w.params) mg base TX k fa fd ["_law_script"] (CP (K w.params))):
 PySem.W.WalkO q loose XP YP l.row.toRowW d [] (fun f us=>PySem.call f us):=
 L2.J6 (n:=63) (k:=k) (x:="_law_script") (CX:=fun _=>TX) (sp:=fun w=>CP (K w.params)) hn (by decide) hdf hr hY F (fun _ _ a ns hl hO hS=>⟨a,ns,rfl,hO,hS,hl,fun _=>rfl⟩) fun _ _ _ _ _ z=>z
noncomputable def Sk:bN:=fun _ _ _=>False
theorem yE{P:Program}{w:World}{K:PySem.W.Frag}{mg:Str->Option Value}{base:Heap}{k n:Nat}{f:Addr}{fd:FuncData}{ps:List Str}:aH P w K mg base (cL P w) k f fd ps (cY K n .s Sk):=
 ⟨by rintro vs H Q E ⟨_,_,_,_,_,_,_,z,_⟩;exact z.elim,by rintro A outer s H args us vs Q E hr e0 hb r ⟨_,_,_,_,_,_,_,z,_⟩;exact z.elim⟩
theorem Df.cD{P:Program}{w:World}{K:PySem.W.Frag}{mg:Str->Option Value}{base:Heap}{x:Str}{st:Stmt}{ps:List Str}{f:Addr}{fd:FuncData}{k n:Nat}{m:Md}{sp:bN}(D:Df K mg x st ps f fd)(F:aH P w K mg base (cL P w) k f fd ps (cY K n m sp))(hn:n=ps.length)(hs:∀ws P R,sp ws P R->ws.length=n){k':Nat}(hk:k<=k'):
 ∃fv n k'',mg x=some fv/\eV P w K mg base k'' fv n (cY K n m sp)/\k''<=k'/\∀ws P R,sp ws P R->ws.length=n:=by
 subst hn
 exact⟨_,_,k,D.m,.fn D.F.kp D.b F,hk,hs⟩
theorem Dm.cD{P:Program}{w:World}{K:PySem.W.Frag}{mg:Str->Option Value}{base:Heap}{x q:Str}{st:Stmt}{ps:List Str}{C f:Addr}{fd:FuncData}{k n:Nat}{m:Md}{sp:bN}(D:Dm K C x q st ps f fd)(F:aH P w K mg base (cL P w) k f fd ps (cY K n m sp))(hs:∀ws P R,sp ws P R->ws.length=n){k':Nat}(hk:k<=k'){G:W}(hG:G=.cls C):
 ∃f fd ps n k'',(∀C,G=.cls C->Meth K C x f)/\Binds K fd ps []/\aH P w K mg base (cL P w) k'' f fd ps (cY K n m sp)/\k''<=k'/\∀ws P R,sp ws P R->ws.length=n:=
 ⟨f,fd,ps,n,k,fun C' e=>by rw[hG]at e;cases e;exact D.M,D.b,F,hk,hs⟩
end VL
namespace Num
noncomputable def cf(as bs:List Int):Nat->Nat->Int
 |0,_=>0
 |i+1,k=>cf as bs i k+as.getD i 0*(if i<=k then bs.getD (k -i) 0 else 0)
noncomputable def FF(as bs:List Int)(i j k:Nat):Int:=cf as bs i k+(if i<=k/\k<i+j then as.getD i 0*bs.getD (k -i) 0 else 0)
theorem HQ(as bs:List Int)(i k:Nat):FF as bs i 0 k=cf as bs i k:=by
 unfold FF
 rw[Bi (by lia)]
 lia
theorem HR(as bs:List Int)(i k:Nat):FF as bs i bs.length k=cf as bs (i+1) k:=by
 unfold FF
 rw[cf]
 by_cases h:i<=k
 ·by_cases h2:k<i+bs.length
  ·rw[Bz ⟨h,h2⟩,Bz h]
  ·have e:bs.getD (k -i) 0=0:=by
    rw[AC,FS (by lia)]
    rfl
   rw[Bi (by lia),Bz h,e,Kt]
 ·rw[Bi (by lia),Bi h,Kt]
theorem yF(as bs:List Int)(i j k:Nat):FF as bs i (j+1) k=FF as bs i j k+(if k=i+j then as.getD i 0*bs.getD j 0 else 0):=by
 unfold FF
 by_cases h:k=i+j
 ·subst h
  rw[Bz (by lia),Bi (by lia),Bz rfl,Nat.add_sub_cancel_left]
  lia
 ·rw[Bi h]
  by_cases h2:i<=k/\k<i+j
  ·rw[Bz (by lia),Bz h2]
   lia
  ·rw[Bi (by lia),Bi h2]
   lia
theorem Ls{as bs:List Int}{i:Nat}(h:as.getD i 0=0)(k:Nat):cf as bs (i+1) k=cf as bs i k:=by
 rw[cf,h,U2,UF]
theorem iP(as bs:List Int)(k:Nat):∀i,i+bs.length<=k+1->cf as bs i k=0
 |0,_=>rfl
 |i+1,h=>by
  rw[cf,iP as bs k i (by lia)]
  have e:bs.getD (k -i) 0=0:=by
   rw[AC,FS (by lia)]
   rfl
  rw[Bz (by lia),e,Kt]
  rfl
theorem vY(as bs:List Int)(ha:0<as.length)(hb:0<bs.length):cf as bs as.length (as.length+bs.length -2)=as.getD (as.length -1) 0*bs.getD (bs.length -1) 0:=by
 obtain⟨m,hm⟩:∃m,as.length=m+1:=⟨as.length -1,by lia⟩
 rw[hm,cf,iP as bs _ m (by clear hm hb ha;lia),Bz (by lia),Int.zero_add]
 congr 2<;>lia
noncomputable def iA(ns ms:List Int):Prop:=∃k,k<=ns.length/\ms=ns.take k/\(∀j,k<=j->j<ns.length->ns.getD j 0=0)/\(k=0\/ns.getD (k -1) 0≠0)
theorem iA.last{ns ms:List Int}(h:iA ns ms):ms=[]\/ms.getD (ms.length -1) 0≠0:=by
 obtain⟨k,k1,rfl,k2,k3⟩:=h
 rcases k3 with q|q
 ·left;rw[q];rfl
 ·by_cases hk:k=0
  ·left;rw[hk];rfl
  ·right
   rw[SC,Nat.min_eq_left k1,AC,List.getElem?_take_of_lt (by lia),←AC]
   exact q
theorem iA.mem{ns ms:List Int}(h:iA ns ms):∀m∈ms,m∈ns:=by
 obtain⟨k,_,rfl,_⟩:=h
 exact fun m hm=>List.mem_of_mem_take hm
theorem yG(t b:Int)(hb:b≠0):((if b<0 then-((Int.gcd t b:Nat):Int)else((Int.gcd t b:Nat):Int))≠0)/\(Rat.divInt t b).num=t.fdiv (if b<0 then-((Int.gcd t b:Nat):Int)else((Int.gcd t b:Nat):Int))/\
 ((Rat.divInt t b).den:Int)=b.fdiv (if b<0 then-((Int.gcd t b:Nat):Int)else((Int.gcd t b:Nat):Int)):=by
 obtain⟨x,y,hx,hy,hxy,hg⟩:=qA t b hb
 have HP:=(aw (dz (Rat.divInt t b)) hb).mp (UV (Rat.divInt t b))
 generalize((Int.gcd t b:Nat):Int)=g at*
 generalize Rat.divInt t b=r at*
 have gz:g≠0:=by lia
 have c2:x*r.den=r.num*y:=by
  rw[hx,hy]at HP
  have:g*(x*r.den)=g*(r.num*y):=by grind
  exact NM gz this
 rcases Int.lt_or_le b 0 with z|z
 ·rw[Bz z]
  have py:0< -y:=by
   rcases Int.lt_or_le 0 (-y)with q|q
   ·exact q
   ·have:=Int.mul_nonneg (T1 hg) (show 0<=y by lia)
    lia
  have fin:=vW (n:= -x) (d:= -y) (r:=r) py (by rw[Int.gcd_neg,Int.neg_gcd];exact hxy) (by grind)
  have ng: -g≠0:=by lia
  refine⟨ng,?_,?_⟩
  ·rw[fin.1,hx,show g*x= -g* -x by grind,Int.mul_fdiv_cancel_left _ ng]
  ·rw[fin.2,hy,show g*y= -g* -y by grind,Int.mul_fdiv_cancel_left _ ng]
 ·rw[Bi (by lia)]
  have py:=A9 hy hg (by lia)
  have fin:=vW (r:=r) py hxy c2
  refine⟨gz,?_,?_⟩
  ·rw[fin.1,hx,Int.mul_fdiv_cancel_left _ gz]
  ·rw[fin.2,hy,Int.mul_fdiv_cancel_left _ gz]
theorem Bg(t b:Int)(hb:b≠0):(Rat.divInt t b).num*b=t*(Rat.divInt t b).den:=(aw (dz _) hb).mp (UV _)
theorem CQ(t b:Int)(hb:b≠0):(Rat.divInt t b).num.natAbs<=t.natAbs/\(Rat.divInt t b).den<=b.natAbs:=by
 have c:=Bg t b hb
 generalize Rat.divInt t b=r at*
 have hN:r.num.natAbs*b.natAbs=t.natAbs*r.den:=by
  have:=SZ Int.natAbs c
  rw[Fk,Fk,Int.natAbs_natCast]at this
  exact this
 have cop:Nat.Coprime r.num.natAbs r.den:=r.reduced
 have hb':0<b.natAbs:=by lia
 have d1:r.den∣b.natAbs:=cop.symm.dvd_of_dvd_mul_left ⟨t.natAbs,by rw[hN,cw]⟩
 have d2:r.num.natAbs∣t.natAbs:=cop.dvd_of_dvd_mul_right ⟨b.natAbs,hN.symm⟩
 refine⟨?_,Nat.le_of_dvd hb' d1⟩
 rcases TC t.natAbs with z|z
 ·rw[z,Nat.zero_mul]at hN
  rcases Nat.mul_eq_zero.mp hN with q|q
  ·lia
  ·lia
 ·exact Nat.le_of_dvd z d2
noncomputable def ev(x:Rat):List Rat->Rat
 |[]=>0
 |r::rs=>r+x*ev x rs
noncomputable def wv(t b:Int):List Int->Int
 |[]=>0
 |x::s=>wv t b s*t+x*b^s.length
theorem CT(x:Rat):x*((x.den:Int):Rat)=((x.num:Int):Rat):=by
 have h:=UV x
 rw[dE]at h
 have:((x.den:Int):Rat)≠0:=fun z=>by
  have:=Rat.intCast_inj.mp (z.trans (show(0:Rat)=((0:Int):Rat)from rfl))
  have:=x.den_nz
  lia
 grind
theorem vZ{b:Int}(h:b≠0):(b:Rat)≠0:=fun z=>h (Rat.intCast_inj.mp (z.trans (show(0:Rat)=((0:Int):Rat)from rfl)))
theorem gx{x:Rat}{B:Int}(h:(x.den:Int)∣B):((x.num*(B/x.den):Int):Rat)=x*B:=by
 obtain⟨k,hk⟩:=h
 have e:B/(x.den:Int)=k:=by rw[hk];exact bo _ (dz x)
 rw[e,hk,Da,Da,←CT x]
 grind
noncomputable def sm(f:Nat->Int):Nat->Int
 |0=>0
 |n+1=>sm f n+f n
theorem eZ{f g:Nat->Int}:∀n,(∀i,i<n->f i=g i)->sm f n=sm g n
 |0,_=>rfl
 |n+1,h=>by rw[sm,sm,eZ n fun i hi=>h i (by lia),h n (by lia)]
theorem v9(f:Nat->Int):∀n,sm f (n+1)=f 0+sm (fun i=>f (i+1)) n
 |0=>by rw[sm,sm,sm];lia
 |n+1=>by rw[sm,v9 f n,sm];lia
theorem Bh(f:Nat->Int):∀n,sm (fun i=>f (n -i)) (n+1)=sm f (n+1)
 |0=>rfl
 |n+1=>by
  rw[v9,eZ (g:=fun i=>f (n -i)) (n+1) fun i hi=>by congr 1;lia,Bh f n]
  rw[sm,sm,sm]
  show f (n+1 -0)+(sm f n+f n)=_
  rw[Nat.sub_zero]
  lia
theorem wc{f:Nat->Int}{m:Nat}:∀n,m<=n->(∀i,m<=i->i<n->f i=0)->sm f n=sm f m
 |0,h,_=>by
  have:m=0:=by lia
  rw[this]
 |n+1,h,z=>by
  by_cases e:m=n+1
  ·rw[e]
  ·rw[sm,wc n (by lia) (fun i h1 h2=>z i h1 (by lia)),z n (by lia) (by lia),UF]
theorem yH(as bs:List Int)(k:Nat):∀n,cf as bs n k=sm (fun i=>as.getD i 0*(if i<=k then bs.getD (k -i) 0 else 0)) n
 |0=>rfl
 |n+1=>by rw[cf,yH as bs k n,sm]
theorem qF(as bs:List Int)(k:Nat):cf as bs as.length k=sm (fun i=>as.getD i 0*bs.getD (k -i) 0) (k+1):=by
 rw[yH]
 have out:∀i,as.length<=i->as.getD i 0=0:=fun i h=>by
  rw[AC,FS h]
  rfl
 rcases Nat.le_total as.length (k+1)with h|h
 ·rw[←wc (k+1) h fun i h1 _=>by rw[out i h1,U2]]
  exact eZ _ fun i hi=>by rw[Bz (by lia)]
 ·rw[wc as.length h fun i h1 _=>by rw[Bi (by lia),Kt]]
  exact eZ _ fun i hi=>by rw[Bz (by lia)]
theorem qG(as bs:List Int)(k:Nat):cf as bs as.length k=cf bs as bs.length k:=by
 rw[qF,qF,←Bh]
 refine eZ _ fun i hi=>?_
 show as.getD (k -i) 0*bs.getD (k -(k -i)) 0=_
 rw[show k -(k -i)=i by omega,ar]
noncomputable def yI(n:Nat)(f:Nat->Rat):List Rat:=(List.range n).map f
theorem rW(n:Nat)(f:Nat->Rat):(yI n f).length=n:=by unfold yI;simp
theorem Lu{n:Nat}{f:Nat->Rat}{k:Nat}(h:k<n):(yI n f)[k]?=some (f k):=by
 unfold yI
 rw[FR,T2 h]
 rfl
theorem yJ{n:Nat}{f:Nat->Rat}{x:Rat}(h:x∈yI n f):∃k,k<n/\x=f k:=by
 unfold yI at h
 obtain⟨k,hk,rfl⟩:=Kx.mp h
 exact⟨k,eA.mp hk,rfl⟩
theorem iQ{rs:List Rat}{k:Nat}(h:rs.length<=k):rs.getD k 0=0:=by
 rw[AC,FS h]
 rfl
noncomputable def aG(l:List Rat):List Rat:=(l.reverse.dropWhile fun x=>decide (x=0)).reverse
theorem mF(l:List Rat):aG (l++[0])=aG l:=by
 unfold aG
 rw[List.reverse_append,List.reverse_singleton,List.singleton_append,List.dropWhile_cons,Bz (by simp)]
theorem mG(l:List Rat){x:Rat}(h:x≠0):aG (l++[x])=l++[x]:=by
 unfold aG
 rw[List.reverse_append,List.reverse_singleton,List.singleton_append,List.dropWhile_cons,Bi (by simpa using h)]
 simp
theorem mH:∀(n:Nat) (l:List Rat) (k:Nat),l.length=n->k<=l.length->(∀j,k<=j->j<l.length->l.getD j 0=0)->(k=0\/l.getD (k -1) 0≠0)->aG l=l.take k
 |0,l,k,hn,hk,_,_=>by
  have:l=[]:=Kj.mp hn
  subst this
  simp[aG]
 |n+1,l,k,hn,hk,hz,hl=>by
  have hne:l≠[]:=fun z=>by rw[z]at hn;cases hn
  obtain⟨l',x,rfl⟩:∃l' x,l=l'++[x]:=⟨l.dropLast,l.getLast hne,(Tb hne).symm⟩
  have hn':l'.length=n:=by simpa using hn
  have hx:(l'++[x]).getD n 0=x:=by
   rw[AC,HI (by lia),hn',cv]
   rfl
  have gl:∀j,j<n->(l'++[x]).getD j 0=l'.getD j 0:=fun j hj=>by
   rw[AC,IH (by lia),←AC]
  rw[FC,hn']at hk hz
  simp only[List.length_cons,List.length_nil]at hk hz
  by_cases hkn:k=n+1
  ·subst hkn
   rcases hl with z|z
   ·lia
   ·rw[Wp,hx]at z
    rw[mG _ z,List.take_of_length_le (by simp[hn'])]
  ·have x0:x=0:=by rw[←hx];exact hz n (by lia) (by lia)
   subst x0
   rw[mF,List.take_append_of_le_length (by lia)]
   refine mH n l' k hn' (by lia) (fun j h1 h2=>?_) ?_
   ·rw[←gl j (by lia)]
    exact hz j h1 (by lia)
   ·rcases hl with z|z
    ·exact .inl z
    ·by_cases k0:k=0
     ·exact .inl k0
     ·rw[gl (k -1) (by lia)]at z
      exact .inr z
theorem iR(l:List Rat):∃k,k<=l.length/\aG l=l.take k/\(k=0\/l.getD (k -1) 0≠0):=by
 generalize hn:l.length=n
 induction n generalizing l with
 |zero=>
  have:l=[]:=Kj.mp hn
  subst this
  exact⟨0,Do _,rfl,.inl rfl⟩
 |succ n ih=>
  have hne:l≠[]:=fun z=>by rw[z]at hn;cases hn
  obtain⟨l',x,rfl⟩:∃l' x,l=l'++[x]:=⟨l.dropLast,l.getLast hne,(Tb hne).symm⟩
  have hn':l'.length=n:=by simpa using hn
  by_cases x0:x=0
  ·subst x0
   obtain⟨k,k1,k2,k3⟩:=ih l' hn'
   refine⟨k,by lia,by rw[mF,k2,List.take_append_of_le_length (by lia)],?_⟩
   rcases k3 with z|z
   ·exact .inl z
   ·by_cases k0:k=0
    ·exact .inl k0
    ·right
     rw[AC,IH (by lia),←AC]
     exact z
  ·refine⟨n+1,Do _,by rw[mG _ x0,List.take_of_length_le (by simp[hn'])],.inr ?_⟩
   rw[Wp,AC,HI (by lia),hn',cv]
   exact x0
theorem E2{l:List Rat}{x:Rat}(h:x∈aG l):x∈l:=by
 obtain⟨k,_,e,_⟩:=iR l
 rw[e]at h
 exact List.mem_of_mem_take h
theorem kI(l:List Rat):(aG l).length<=l.length:=by
 obtain⟨k,hk,e,_⟩:=iR l
 rw[e,SC]
 lia
noncomputable def aA(l:List Rat):Prop:=∀x,l.getLast?=some x->x≠0
theorem bg(l:List Rat):aA (aG l):=fun x hx=>by
 obtain⟨k,hk,e,h⟩:=iR l
 rw[e]at hx
 rcases h with z|z
 ·rw[z]at hx
  simp at hx
 ·by_cases k0:k=0
  ·rw[k0]at hx
   simp at hx
  ·have e2:(l.take k).getLast?=some (l.getD (k -1) 0):=by
    rw[Qb,SC,Nat.min_eq_left hk,List.getElem?_take_of_lt (by lia),AC,BM (by lia)]
    rfl
   rw[e2]at hx
   rw[←KE hx]
   exact z
theorem yK{l:List Rat}(h:∀x∈l,x=0):aG l=[]:=by
 rw[mH _ l 0 rfl (KM _) (fun j _ hj=>?_) (.inl rfl),List.take_zero]
 rw[AC,BM hj]
 exact h _ (PP hj)
noncomputable def QW(as bs:List Rat):Nat->Nat->Rat
 |0,_=>0
 |i+1,k=>QW as bs i k+as.getD i 0*(if i<=k then bs.getD (k -i) 0 else 0)
noncomputable def mulQ(rs ss:List Rat):List Rat:=yI (rs.length+ss.length -1) (QW rs ss rs.length)
theorem M9{n m:Nat}{as bs:List Int}(h1:∀x∈as,x.natAbs<2^n)(h2:∀x∈bs,x.natAbs<2^m)(k:Nat):∀i,(cf as bs i k).natAbs<=i*2^(n+m)
 |0=>by
  show 0<=_
  lia
 |i+1=>by
  have g:∀{n:Nat} {as:List Int} (h:∀x∈as,x.natAbs<2^n) (j:Nat),(as.getD j 0).natAbs<2^n:=fun{n as} h j=>by
   by_cases hj:j<as.length
   ·rw[AC,BM hj]
    exact h _ (PP hj)
   ·rw[AC,FS (by omega)]
    exact Os (by decide)
  have ih:=M9 h1 h2 k i
  have e:(as.getD i 0*(if i<=k then bs.getD (k -i) 0 else 0)).natAbs<2^(n+m):=by
   rw[Fk]
   refine lt_mul (g h1 i) ?_
   split
   ·exact g h2 _
   ·exact Os (by decide)
  rw[cf,Nat.add_mul]
  omega
theorem HS{ns ms:List Int}{B:Int}(hB:B≠0)(h:iA ns ms):ms.map (fun x=>Rat.divInt x B)=aG (ns.map fun x=>Rat.divInt x B):=by
 obtain⟨k,k1,rfl,k2,k3⟩:=h
 have g:∀j,j<ns.length->(ns.map fun x=>Rat.divInt x B).getD j 0=Rat.divInt (ns.getD j 0) B:=fun j hj=>by
  rw[AC,FR,AC,BM hj]
  rfl
 have nz:∀x:Int,x≠0->Rat.divInt x B≠0:=fun x hx z=>by
  have z2:Rat.divInt x B=Rat.divInt 0 B:=by rw[z,Rat.zero_divInt]
  have:=(aw hB hB).mp z2
  rw[U2]at this
  rcases Int.mul_eq_zero.mp this with q|q
  ·exact hx q
  ·exact hB q
 have fin:=mH _ (ns.map fun x=>Rat.divInt x B) k rfl (by rw[Ap];exact k1) (fun j h1 h2=>by
  rw[Ap]at h2
  rw[g j h2,k2 j h1 h2,Rat.zero_divInt]) (by
  rcases k3 with z|z
  ·exact .inl z
  ·by_cases k0:k=0
   ·exact .inl k0
   ·rw[g (k -1) (by omega)]
    exact .inr (nz _ z))
 rw[fin,List.map_take]
end Num
namespace VL
open PySem PySem.Spec
open PyProof.Rows hiding St
open L2 Num
abbrev b8(m:Md)(P:W->Prop)(R:Addr->Prop):Dn:=⟨fall m P,P,fun _=>False,fun _=>False,R⟩
noncomputable def wI(ns:List Int):W:=.lst (ns.map W.int)
theorem bX{b:W->Dn->Ev->Prop}{D:Dn}{ws:List W}{ε:Ev}(J:Nat->Ev->Prop)(h0:J 0 ε)(hs:∀i w ε N,ws[i]?=some w->J i ε->(∀ε',J (i+1) ε'->N ε')->b w ⟨N,D.rt,D.nx,N,fun _=>False⟩ ε)(he:∀ε,J ws.length ε->D.nx ε):qj b D ws ε:=by
 have:∀k i ε,i+k=ws.length->J i ε->qj b D (ws.drop i) ε:=by
  intro k
  induction k with
  |zero=>
   intro i ε e j
   rw[List.drop_of_length_le (by lia),qj]
   exact he ε (by rw[←e];exact j)
  |succ k ih=>
   intro i ε e j
   have hlt:i<ws.length:=by lia
   rw[List.drop_eq_getElem_cons hlt,qj]
   exact hs i _ ε _ (BM hlt) j fun ε' j'=>ih (i+1) ε' (by lia) j'
 exact this ws.length 0 ε (by lia) h0
theorem aF{x y:Int}{n m:Nat}(h:x.natAbs<2^n)(h2:y.natAbs<2^m)(hs:n+m<=134217728):IntMulOk x y:=AJ (Dx (Nat.add_le_add (bits_le h) (bits_le h2)) hs)
theorem e9{y:Int}{n:Nat}(h:y.natAbs<2^n)(hn:n<=8000):y.natAbs.log2<9000:=by
 rcases TC y.natAbs with e|e
 ·rw[e];decide
 ·have:=(Nat.log2_lt (Nat.ne_of_gt e)).mpr h
  lia
theorem HU(r:Rat):(r.den:Int)≠0:=by have:=r.den_pos;lia
noncomputable def jS:List CS:=[.ret (.comp [0] true 1 (.var 0) (.bl true) (.bin .Mult (.var 2) (.var 0)))]
noncomputable def gk:bN:=fun ws Q _=>∃(ns:List Int) (b:Int),ws=[wI ns,.int b]/\ns.length<=1000/\(∀x∈ns,IntMulOk b x)/\Q (wI (ns.map (b*·)))
theorem HV{Φ:Nat->bN}{G:Nat->W}{m:Md}(ws:List W)(Q:W->Prop)(R:Addr->Prop)(h:gk ws Q R):wSs Φ G jS (b8 m Q R) (au 2 ws):=by
 obtain⟨ns,b,rfl,hl,hb,hq⟩:=h
 show wSs _ _ jS _ [some (wI ns),some (.int b)]
 unfold jS wI
 walk_at "vs"
 refine gH (g:=fun x=>.int (b*x)) ns [] _ (fun x hx K hK=>⟨hb x hx,hK⟩) (ak (by simpa using hl)) ?_
 rw[List.nil_append]
 unfold wI at hq
 rw[List.map_map]at hq
 exact hq
noncomputable def nj:List CS:=[.GF (.cmp .NotEq (.var 1) (.int 0)) [.par [0,1] [(.var 1),(.bin .Mod (.var 0) (.var 1))]],.ret (.blt .abs [(.var 0)])]
noncomputable def CU:bN:=fun ws Q _=>∃a b:Int,ws=[.int a,.int b]/\Q (.int (Int.gcd a b:Nat))
theorem Lv{Φ:Nat->bN}{G:Nat->W}{m:Md}(ws:List W)(Q:W->Prop)(R:Addr->Prop)(h:CU ws Q R):wSs Φ G nj (b8 m Q R) (au 2 ws):=by
 obtain⟨a,b,rfl,hq⟩:=h
 show wSs _ _ nj _ [some (.int a),some (.int b)]
 unfold nj
 walk_at "vs"
 refine mE (α:=Int×Int) (fun x=>[some (.int x.1),some (.int x.2)]) (fun x=>Int.gcd x.1 x.2=Int.gcd a b) (fun x=>x.2.natAbs) (a,b) rfl rfl ?_
 rintro⟨x,y⟩ hx
 walk_at "vs"
 refine iy (fun hk=>?_) (fun hk=>?_)
 ·have y0:y≠0:=by simpa using hk
  have e2:=yz x y (x.fdiv y)
  have e3:=HL x y y0
  rw[←Num.fmod_eq]at e2 e3
  walk_at "vs"
  exact⟨y0,rfl,(y,x.fmod y),rfl,e2.trans hx,e3⟩
 ·have y0:y=0:=by simpa using hk
  subst y0
  walk_at "vs"
  have e:(if x<0 then-x else x)=((Int.gcd a b:Nat):Int):=by
   rw[←hx,Int.gcd_zero_right]
   split<;>lia
  rw[e]
  exact hq
noncomputable def jT:List CS:=[.set 2 (.call 0 [(.var 0),(.var 1)]),.iff (.cmp .Lt (.var 1) (.int 0)) [.set 2 (.bin .Sub (.int 0) (.var 2))] [],.ret (.tup [(.bin .FloorDiv (.var 0) (.var 2)),(.bin .FloorDiv (.var 1) (.var 2))])]
noncomputable def qH:bN:=fun ws Q _=>∃(t b:Int) (n:Nat),ws=[.int t,.int b]/\n<=8000/\b≠0/\b.natAbs<2^n/\Q (wq (Rat.divInt t b))
theorem HW{G:Nat->W}{m:Md}(ws:List W)(Q:W->Prop)(R:Addr->Prop)(h:qH ws Q R):wSs (b7 [CU]) G jT (b8 m Q R) (au 3 ws):=by
 obtain⟨t,b,n,rfl,hn,hb,hbn,hq⟩:=h
 show wSs _ _ jT _ [some (.int t),some (.int b),none]
 unfold jT
 walk_at "vs"
 refine⟨t,b,rfl,?_⟩
 obtain⟨f1,f2,f3⟩:=yG t b hb
 have lg:((Int.gcd t b:Nat):Int).natAbs<2^n:=by
  have:((Int.gcd t b:Nat):Int)<=b.natAbs:=dC (by clear f3 f2 f1 hbn;lia) (by rw[Int.dvd_natAbs];exact Pi ..)
  omega
 unfold wq at hq
 generalize((Int.gcd t b:Nat):Int)=g at*
 rw[f2,f3]at hq
 by_cases h0:b<0
 ·rw[Bz h0]at f1 hq
  rw[Bz (IR h0)]
  walk_at "vs"
  rw[Int.zero_sub]
  have ld:=e9 (y:= -g) (by omega) hn
  exact⟨⟨f1,ld⟩,⟨f1,ld⟩,ak (by simp),hq⟩
 ·rw[Bi h0]at f1 hq
  rw[Bi (by rw[Ha];exact h0)]
  have ld:=e9 (y:=g) lg hn
  exact⟨⟨f1,ld⟩,⟨f1,ld⟩,ak (by simp),hq⟩
end VL
namespace Num
theorem yL(l:List Rat)(k:Nat):(l++[0]).getD k 0=l.getD k 0:=by
 rw[AC,AC]
 by_cases h:k<l.length
 ·rw[IH h]
 ·rw[HI (by lia),FS (l:=l) (by lia)]
  cases hk:k -l.length with
  |zero=>rfl
  |succ n=>rfl
theorem qI(l:List Rat)(k:Nat):(aG l).getD k 0=l.getD k 0:=by
 generalize hn:l.length=n
 induction n generalizing l with
 |zero=>
  have:l=[]:=Kj.mp hn
  subst this
  rfl
 |succ n ih=>
  have hne:l≠[]:=fun z=>by rw[z]at hn;cases hn
  obtain⟨l',x,rfl⟩:∃l' x,l=l'++[x]:=⟨l.dropLast,l.getLast hne,(Tb hne).symm⟩
  by_cases x0:x=0
  ·subst x0
   rw[mF,ih l' (by simpa using hn),yL]
  ·rw[mG _ x0]
theorem HX{l:List Rat}(h:aA l)(hl:0<l.length):l.getD (l.length -1) 0≠0:=by
 refine h _ ?_
 rw[Qb,BM (by omega),AC,BM (by omega)]
 rfl
theorem Bj{a b:List Rat}(ha:aA a)(hb:aA b)(h:∀k,a.getD k 0=b.getD k 0):a=b:=by
 have le:∀{a b:List Rat},aA b->(∀k,a.getD k 0=b.getD k 0)->b.length<=a.length:=fun{a b} hb h=>by
  rcases Nat.lt_or_ge a.length b.length with z|z
  ·exact absurd ((h _).symm.trans (iQ (by lia))) (HX hb (by lia))
  ·exact z
 have e:a.length=b.length:=Nat.le_antisymm (le ha fun k=>(h k).symm) (le hb h)
 apply List.ext_getElem?
 intro k
 by_cases hk:k<a.length
 ·have:=h k
  rw[AC,AC,BM hk,BM (show k<b.length by lia)]at this
  rw[BM hk,BM (show k<b.length by lia)]
  exact SZ some this
 ·rw[FS (by lia),FS (by lia)]
theorem Lw{n:Nat}{f:Nat->Rat}(k:Nat):(yI n f).getD k 0=if k<n then f k else 0:=by
 by_cases h:k<n
 ·rw[Bz h,AC,Lu h]
  rfl
 ·rw[Bi h]
  exact iQ (by rw[rW];lia)
noncomputable def fZ(f:Nat->Rat):Nat->Rat
 |0=>0
 |n+1=>fZ f n+f n
theorem fz{f g:Nat->Rat}:∀n,(∀i,i<n->f i=g i)->fZ f n=fZ g n
 |0,_=>rfl
 |n+1,h=>by rw[fZ,fZ,fz n fun i hi=>h i (by lia),h n (by lia)]
theorem iS{f:Nat->Rat}{m:Nat}:∀n,m<=n->(∀i,m<=i->i<n->f i=0)->fZ f n=fZ f m
 |0,h,_=>by
  have:m=0:=by lia
  rw[this]
 |n+1,h,z=>by
  by_cases e:m=n+1
  ·rw[e]
  ·rw[fZ,iS n (by lia) (fun i h1 h2=>z i h1 (by lia)),z n (by lia) (by lia),Rat.add_zero]
noncomputable def cS(f g:Nat->Rat)(k:Nat):Rat:=fZ (fun i=>f i*g (k -i)) (k+1)
theorem HY(as bs:List Rat)(k:Nat):∀n,QW as bs n k=fZ (fun i=>as.getD i 0*(if i<=k then bs.getD (k -i) 0 else 0)) n
 |0=>rfl
 |n+1=>by rw[QW,HY as bs k n,fZ]
theorem QX(as bs:List Rat)(k:Nat):QW as bs as.length k=cS (fun i=>as.getD i 0) (fun i=>bs.getD i 0) k:=by
 rw[HY]
 unfold cS
 rcases Nat.le_total as.length (k+1)with h|h
 ·rw[←iS (k+1) h fun i h1 _=>by rw[iQ h1,Rat.zero_mul]]
  exact fz _ fun i hi=>by rw[Bz (by lia)]
 ·rw[iS as.length h fun i h1 _=>by rw[Bi (by lia),Y2]]
  exact fz _ fun i hi=>by rw[Bz (by lia)]
theorem HZ(a b:List Rat)(k:Nat):(mulQ a b).getD k 0=cS (fun i=>a.getD i 0) (fun i=>b.getD i 0) k:=by
 unfold mulQ
 rw[Lw]
 by_cases h:k<a.length+b.length -1
 ·rw[Bz h,QX]
 ·rw[Bi h]
  unfold cS
  rw[iS (m:=0) (k+1) (KM _) fun i _ hi=>?_]
  ·rfl
  ·show a.getD i 0*b.getD (k -i) 0=0
   by_cases hi2:i<a.length
   ·rw[iQ (rs:=b) (by omega),Y2]
   ·rw[iQ (rs:=a) (by omega),Rat.zero_mul]
theorem rX(c:Int)(f:Nat->Int):∀n,sm (fun i=>c*f i) n=c*sm f n
 |0=>by rw[sm,sm,Kt]
 |n+1=>by rw[sm,sm,rX c f n,Int.mul_add]
theorem Bk(f g:Nat->Int):∀n,sm (fun i=>f i+g i) n=sm f n+sm g n
 |0=>rfl
 |n+1=>by rw[sm,sm,sm,Bk f g n];lia
theorem Ia(p:Nat)(v:Nat->Int):∀n,sm (fun i=>if i=p then v i else 0) n=if p<n then v p else 0
 |0=>by rw[sm,Bi (by lia)]
 |n+1=>by
  rw[sm,Ia p v n]
  by_cases h:p<n
  ·rw[Bz h,Bi (by lia),Bz (by lia)];lia
  ·rw[Bi h]
   by_cases e:n=p
   ·subst e
    rw[Bz rfl,Bz (by lia)];lia
   ·rw[Bi e,Bi (by lia)];lia
noncomputable def aq(f g:Nat->Int)(k:Nat):Int:=sm (fun i=>f i*g (k -i)) (k+1)
theorem we(c h:Int)(Q O:Nat->Int)(p k:Nat):aq (fun i=>c*Q i+if i=p then h else 0) O k=c*aq Q O k+if p<=k then h*O (k -p)else 0:=by
 unfold aq
 rw[eZ (g:=fun i=>c*(Q i*O (k -i))+if i=p then h*O (k -i)else 0) (k+1) fun i _=>?_,Bk,rX,Ia p fun i=>h*O (k -i)]
 ·by_cases hp:p<=k
  ·rw[Bz hp,Bz (show p<k+1 by lia)]
  ·rw[Bi hp,Bi (show¬p<k+1 by lia)]
 ·split
  ·grind
  ·grind
theorem fD(O:Nat->Int)(k:Nat):aq (fun _=>0) O k=0:=by
 unfold aq
 rw[eZ (g:=fun i=>0*0) (k+1) fun i _=>by rw[U2,U2],rX,U2]
theorem kJ{f g:Nat->Rat}{F G:Nat->Int}{A C:Rat}(hf:∀i,f i*A=F i)(hg:∀i,g i*C=G i)(k:Nat):cS f g k*(A*C)=((aq F G k:Int):Rat):=by
 unfold cS aq
 have:∀n,fZ (fun i=>f i*g (k -i)) n*(A*C)=((sm (fun i=>F i*G (k -i)) n:Int):Rat):=fun n=>by
  induction n with
  |zero=>
   show 0*(A*C)=((0:Int):Rat)
   grind
  |succ n ih=>
   rw[fZ,sm,Rat.intCast_add,Da,←ih,←hf n,←hg (k -n)]
   grind
 exact this _
noncomputable def Bl(ns ms:List Int)(l:Int)(s:Nat)(Q:Nat->Int)(R:List Int):Prop:=∀k,l^s*ns.getD k 0=aq Q (fun i=>ms.getD i 0) k+R.getD k 0
theorem Bl.start(ns ms:List Int)(l:Int):Bl ns ms l 0 (fun _=>0) ns:=fun k=>by
 rw[fD,OF]
 lia
theorem outI{ns:List Int}{k:Nat}(h:ns.length<=k):ns.getD k 0=0:=by
 rw[AC,FS h]
 rfl
theorem Bl.step{ns ms:List Int}{l:Int}{s p:Nat}{Q:Nat->Int}{R R':List Int}(h:Bl ns ms l s Q R)(hm:0<ms.length)(hl:l=ms.getD (ms.length -1) 0)(hR:R.length=p+ms.length)(hR':R'.length=p+ms.length -1)
 (hs:∀k,k<p+ms.length -1->R'.getD k 0=l*R.getD k 0 -if p<=k then R.getD (p+ms.length -1) 0*ms.getD (k -p) 0 else 0):
 Bl ns ms l (s+1) (fun i=>l*Q i+if i=p then R.getD (p+ms.length -1) 0 else 0) R':=fun k=>by
 rw[we,Iy]
 have e:=h k
 have e2:l^s*l*ns.getD k 0=l*aq Q (fun i=>ms.getD i 0) k+l*R.getD k 0:=by
  rw[←Int.mul_add,←e]
  grind
 rw[e2]
 by_cases h1:k<p+ms.length -1
 ·rw[hs k h1]
  lia
 ·by_cases h2:k=p+ms.length -1
  ·subst h2
   rw[outI (ns:=R') (by lia),Bz (by lia),show p+ms.length -1 -p=ms.length -1 by lia,←hl]
   grind
  ·rw[outI (ns:=R) (k:=k) (by lia),outI (ns:=R') (by lia)]
   split
   ·rw[outI (ns:=ms) (by lia)]
    grind
   ·grind
theorem Ib{ns ms R:List Int}{Qs:List Int}{rs os qs ts:List Rat}{B C S:Int}(hB:B≠0)(hC:C≠0)(hS:S≠0)(h1:∀i,rs.getD i 0*B=ns.getD i 0)(h2:∀i,os.getD i 0*C=ms.getD i 0)
 (h3:∀i,qs.getD i 0*((B*S:Int):Rat)=((Qs.getD i 0*C:Int):Rat)) (h4:∀i,ts.getD i 0*((B*S:Int):Rat)=R.getD i 0) (h:∀k,S*ns.getD k 0=aq (fun i=>Qs.getD i 0) (fun i=>ms.getD i 0) k+R.getD k 0) (k:Nat):
 rs.getD k 0=cS (fun i=>qs.getD i 0) (fun i=>os.getD i 0) k+ts.getD k 0:=by
 have c:=kJ (F:=fun i=>Qs.getD i 0*C) (G:=fun i=>ms.getD i 0) h3 h2 k
 have e:aq (fun i=>Qs.getD i 0*C) (fun i=>ms.getD i 0) k=C*aq (fun i=>Qs.getD i 0) (fun i=>ms.getD i 0) k:=by
  unfold aq
  rw[←rX]
  exact eZ _ fun i _=>by grind
 rw[e,Da,Da]at c
 have hk:(S:Rat)*(ns.getD k 0:Int)=(aq (fun i=>Qs.getD i 0) (fun i=>ms.getD i 0) k:Int)+(R.getD k 0:Int):=by
  rw[←Da,←Rat.intCast_add,h k]
 have t:=h4 k
 rw[Da]at t
 have zB:=vZ hB
 have zC:=vZ hC
 have zS:=vZ hS
 have r:=h1 k
 generalize cS (fun i=>qs.getD i 0) (fun i=>os.getD i 0) k=x at*
 generalize((aq (fun i=>Qs.getD i 0) (fun i=>ms.getD i 0) k:Int):Rat)=y at*
 generalize rs.getD k 0=a at*
 generalize ts.getD k 0=b at*
 generalize((ns.getD k 0:Int):Rat)=n at*
 generalize((R.getD k 0:Int):Rat)=u at*
 generalize(B:Rat)=B' at*
 generalize(C:Rat)=C' at*
 generalize(S:Rat)=S' at*
 have c':x*(B'*S')=y:=by
  have:(x*(B'*S') -y)*C'=0:=by grind
  rcases KB.mp this with z|z
  ·grind
  ·exact absurd z zC
 have z:(a -(x+b))*(B'*S')=0:=by grind
 rcases KB.mp z with z|z
 ·grind
 ·rcases KB.mp z with z|z
  ·exact absurd z zB
  ·exact absurd z zS
noncomputable def Cd(D:Int)(n:Nat)(x:Rat):Prop:=∃z:Int,x*D=z/\z.natAbs<2^n
theorem Cd.zero(D:Int)(n:Nat):Cd D n 0:=⟨0,by show(0:Rat)*D=((0:Int):Rat);grind,Os (by decide)⟩
theorem Cd.up{D:Int}{n m:Nat}{x:Rat}(h:Cd D n x)(hm:n<=m):Cd D m x:=by
 obtain⟨z,h1,h2⟩:=h
 exact⟨z,h1,GE h2 (GT (by decide) hm)⟩
theorem Cd.dvd{D:Int}{n:Nat}{x:Rat}(h:Cd D n x):(x.den:Int)∣D/\(x.num*(D/x.den)).natAbs<2^n:=by
 obtain⟨z,h1,h2⟩:=h
 have e:x.num*D=z*x.den:=by
  have e:=CT x
  have:((x.num*D:Int):Rat)=((z*x.den:Int):Rat):=by
   rw[Da,Da,←e,←h1]
   grind
  exact Rat.intCast_inj.mp this
 have d:(x.den:Int)∣D:=by
  have c:Nat.Coprime x.den x.num.natAbs:=Nat.Coprime.symm x.reduced
  have hn:x.den∣x.num.natAbs*D.natAbs:=⟨z.natAbs,by
   have:=SZ Int.natAbs e
   rw[Fk,Fk,Int.natAbs_natCast]at this
   rw[this,cw]⟩
  have:=c.dvd_of_dvd_mul_left hn
  rw[←Int.natAbs_natCast x.den]at this
  exact Int.natAbs_dvd_natAbs.mp this
 refine⟨d,?_⟩
 have:((x.num*(D/x.den):Int):Rat)=(z:Rat):=by rw[gx d,h1]
 rw[Rat.intCast_inj.mp this]
 exact h2
theorem Cd.of{D:Int}{n:Nat}{x:Rat}(d:(x.den:Int)∣D)(h:(x.num*(D/x.den)).natAbs<2^n):Cd D n x:=⟨_,(gx d).symm,h⟩
theorem Cd.eq{D:Int}{n:Nat}{x:Rat}(hD:D≠0)(h:Cd D n x):∃z:Int,x=Rat.divInt z D/\z.natAbs<2^n:=by
 obtain⟨z,h1,h2⟩:=h
 refine⟨z,?_,h2⟩
 rw[dE,←h1]
 have:=vZ hD
 grind
theorem Cd.bd{D:Int}{n:Nat}{x:Rat}(hD:D≠0)(h:Cd D n x)(hn:D.natAbs<2^n):Bd n x:=by
 obtain⟨z,rfl,h2⟩:=h.eq hD
 have:=CQ z D hD
 exact⟨by lia,by lia⟩
theorem Cd.mul{D1 D2:Int}{n m:Nat}{x y:Rat}(h1:Cd D1 n x)(h2:Cd D2 m y):Cd (D1*D2) (n+m) (x*y):=by
 obtain⟨z,a1,a2⟩:=h1
 obtain⟨w,b1,b2⟩:=h2
 refine⟨z*w,by rw[Da,Da,←a1,←b1];grind,?_⟩
 rw[Fk]
 exact lt_mul a2 b2
theorem Cd.get{D:Int}{n:Nat}{rs:List Rat}(h:∀x∈rs,Cd D n x)(k:Nat):Cd D n (rs.getD k 0):=by
 by_cases hk:k<rs.length
 ·rw[AC,BM hk]
  exact h _ (PP hk)
 ·rw[iQ (by lia)]
  exact Cd.zero _ _
theorem Ic{D1 D2:Int}{n m:Nat}{rs ss:List Rat}(h1:∀x∈rs,Cd D1 n x)(h2:∀x∈ss,Cd D2 m x)(k:Nat):∀i,∃z:Int,QW rs ss i k*((D1*D2:Int):Rat)=z/\z.natAbs<=i*2^(n+m)
 |0=>⟨0,by show(0:Rat)*_=((0:Int):Rat);grind,by simp⟩
 |i+1=>by
  obtain⟨z,a1,a2⟩:=Ic h1 h2 k i
  have hc:Cd D2 m (if i<=k then ss.getD (k -i) 0 else 0):=by
   split
   ·exact Cd.get h2 _
   ·exact Cd.zero _ _
  obtain⟨w,b1,b2⟩:=(Cd.get h1 i).mul hc
  refine⟨z+w,?_,?_⟩
  ·rw[QW,Rat.intCast_add,←a1,←b1]
   grind
  ·rw[Nat.add_mul]
   omega
theorem Lx{D1 D2:Int}{n m:Nat}{rs ss:List Rat}(h1:∀x∈rs,Cd D1 n x)(h2:∀x∈ss,Cd D2 m x)(hl:rs.length<31):∀x∈mulQ rs ss,Cd (D1*D2) (n+m+5) x:=fun x hx=>by
 obtain⟨k,_,rfl⟩:=yJ hx
 obtain⟨z,a1,a2⟩:=Ic h1 h2 k rs.length
 refine⟨z,a1,?_⟩
 have e:2^(n+m+5)=32*2^(n+m):=by rw[du];lia
 have:rs.length*2^(n+m)<=30*2^(n+m):=Ya _ (by lia)
 have:0<2^(n+m):=Os (by decide)
 lia
end Num
namespace VL
open PySem PySem.Spec
open PyProof.Rows hiding St
open L2 Num
theorem mJ{n i:Nat}{w:W}(h:(iM 0 1 n)[i]?=some w):i<n/\w=.int i:=by
 unfold iM at h
 rw[FR]at h
 obtain⟨j,e,rfl⟩:=Pv.mp h
 obtain⟨h1,h2⟩:=GM.mp e
 rw[List.getElem_range]at h2
 rw[Ta]at h1
 refine⟨h1,?_⟩
 rw[←h2]
 simp
theorem CV(n:Nat):(iM 0 1 n).length=n:=by
 unfold iM
 simp
theorem cM{l:List W}{k:Nat}{w:W}(h:l[k]?=some w):oG l (k:Int)=some w:=by
 unfold oG Ag
 have:=(GM.mp h).1
 rw[Bz (by lia),Bz (by lia)]
 simpa using h
theorem mK{n k:Nat}(h:k<n):Ag n (k:Int)=some k:=by
 unfold Ag
 rw[Bz (by lia),Bz (by lia)]
 simp
noncomputable def tW(k:Int)(r:Rat):Prop:=(k=0->r.num.natAbs<=4/\r.den<=3)/\(k=1->r.num.natAbs<=1000/\r.den=1)/\(k=2->r.num.natAbs<=1000000/\r.den<=1000)/\Bd 100 r
theorem wg{k t b:Int}(hb:0<b)(h0:k=0->t.natAbs<=4/\b<=3)(h1:k≠1)(h2:k=2->t.natAbs<=1000000/\b<=1000)(h3:t.natAbs<2^100/\b.natAbs<2^100):tW k (Rat.divInt t b):=by
 obtain⟨f1,f2⟩:=CQ t b (by omega)
 exact⟨fun e=>⟨by have:=h0 e;lia,by have:=h0 e;omega⟩,fun e=>absurd e h1,fun e=>⟨by have:=h2 e;lia,by have:=h2 e;omega⟩,Gc f1 h3.1,Gc f2 h3.2⟩
theorem V4:W.tup [.int 0,.int 1]=wq 0:=rfl
noncomputable def jU:List CS:=[.iff (.cmp .Eq (.var 3) (.int 0)) [.ret (.call 0 [(.bin .Sub (.bin .Mod (.var 0) (.int 9)) (.int 4)),(.bin .Add (.int 1) (.bin .Mod (.var 1) (.int 3)))])] [],.iff (.cmp .Eq (.var 3) (.int 1)) [.ret (.tup [(.bin .Sub (.bin .Mod (.var 0) (.int 2001)) (.int 1000)),(.int 1)])] [],.iff (.cmp .Eq (.var 3) (.int 2)) [.ret (.call 0 [(.bin .Sub (.bin .Mod (.var 0) (.int 2000001)) (.int 1000000)),(.bin .Add (.int 1) (.bin .Mod (.var 1) (.int 1000)))])] [],.set 4 (.bin .Add (.bin .Add (.bin .Add (.bin .Mult (.var 0) (.bin .Pow (.int 10) (.int 21))) (.bin .Mult (.var 1) (.bin .Pow (.int 10) (.int 12)))) (.bin .Mult (.var 2) (.bin .Pow (.int 10) (.int 3)))) (.bin .Mod (.var 0) (.int 1000))),.set 5 (.bin .Add (.bin .Add (.bin .Add (.bin .Mult (.var 1) (.bin .Pow (.int 10) (.int 21))) (.bin .Mult (.var 2) (.bin .Pow (.int 10) (.int 12)))) (.bin .Mult (.var 0) (.bin .Pow (.int 10) (.int 3)))) (.bin .Mod (.var 1) (.int 1000))),.ret (.call 0 [(.bin .Sub (.bin .Mod (.var 4) (.bin .Add (.bin .Mult (.int 2) (.bin .Pow (.int 10) (.int 30))) (.int 1))) (.bin .Pow (.int 10) (.int 30))),(.bin .Add (.int 1) (.bin .Mod (.var 5) (.bin .Pow (.int 10) (.int 30))))])]
noncomputable def nq:bN:=fun ws Q _=>∃x y z k:Int,ws=[.int x,.int y,.int z,.int k]/\(0<=x/\x<1000000007)/\(0<=y/\y<1000000007)/\(0<=z/\z<1000000007)/\∀r,tW k r->Q (wq r)
theorem fm{x:Int}{n:Int}(hn:0<n):0<=x.fmod n/\x.fmod n<n:=⟨Int.fmod_nonneg_of_pos x hn,Int.fmod_lt_of_pos x hn⟩
theorem Ie{G:Nat->W}{m:Md}(ws:List W)(Q:W->Prop)(R:Addr->Prop)(h:nq ws Q R):wSs (b7 [qH]) G jU (b8 m Q R) (au 6 ws):=by
 obtain⟨x,y,z,k,rfl,hx,hy,hz,hq⟩:=h
 show wSs _ _ jU _ [some (.int x),some (.int y),some (.int z),some (.int k),none,none]
 unfold jU
 walk_at "vs"
 by_cases k0:k=0
 ·rw[Bz (IR k0)]
  have f1:=fm (x:=x) (n:=9) (by decide)
  have f2:=fm (x:=y) (n:=3) (by decide)
  refine⟨by decide,by decide,_,_,2,rfl,by decide,by clear f2 f1 k0 hz hy hx;lia,by omega,hq _ (wg (by clear f2 f1 k0 hz hy hx;lia) (fun _=>by clear f2 f1 k0 hz hy hx;lia) (by omega) (fun _=>by lia) ⟨Gc (show _<=4 by clear f2 f1 k0 hz hy hx;lia) (by decide),Gc (show _<=3 by omega) (by decide)⟩)⟩
 rw[Bi (by rw[Ha];exact k0)]
 by_cases k1:k=1
 ·rw[Bz (IR k1)]
  have f1:=fm (x:=x) (n:=2001) (by decide)
  refine⟨by decide,ak (by simp),?_⟩
  have:=hq ((x.fmod 2001 -1000:Int):Rat) ⟨fun e=>absurd e k0,fun _=>⟨?_,rfl⟩,fun e=>absurd e (by lia),?_,?_⟩
  ·exact this
  ·show(x.fmod 2001 -1000).natAbs<=1000
   clear f1 k1 k0 hz hy hx;lia
  ·show(x.fmod 2001 -1000).natAbs<_
   exact Gc (show _<=1000 by omega) (by decide)
  ·exact Nat.one_lt_two_pow (by decide)
 rw[Bi (by rw[Ha];exact k1)]
 by_cases k2:k=2
 ·rw[Bz (IR k2)]
  have f1:=fm (x:=x) (n:=2000001) (by decide)
  have f2:=fm (x:=y) (n:=1000) (by decide)
  refine⟨by decide,by decide,_,_,11,rfl,by decide,by clear f2 f1 k2 k1 k0 hz hy hx;lia,by omega,hq _ (wg (by clear f2 f1 k2 k1 k0 hz hy hx;lia) (fun _=>by lia) k1 (fun _=>by clear f2 f1 k2 k1 k0 hz hy hx;lia) ⟨Gc (show _<=1000000 by clear f2 f1 k2 k1 k0 hz hy hx;lia) (by decide),Gc (show _<=1000 by omega) (by decide)⟩)⟩
 rw[Bi (by rw[Ha];exact k2)]
 have Zv:tN 10 21:=gB (by decide) (by decide) (by decide)
 have c12:tN 10 12:=gB (by decide) (by decide) (by decide)
 have c3:tN 10 3:=gB (by decide) (by decide) (by decide)
 have XI:tN 10 30:=gB (by decide) (by decide) (by decide)
 have e21:(10:Int)^Int.toNat 21=1000000000000000000000:=rfl
 have e12:(10:Int)^Int.toNat 12=1000000000000:=rfl
 have e3:(10:Int)^Int.toNat 3=1000:=rfl
 have e30:(10:Int)^Int.toNat 30=1000000000000000000000000000000:=rfl
 rw[e21,e12,e3,e30]
 have mo:∀(u v:Int),0<=u->u<1000000007->v.natAbs<2^101->IntMulOk u v:=fun u v h1 h2 h3=>aF (n:=30) (m:=101) (by lia) h3 (by decide)
 refine⟨Zv,mo _ _ hx.1 hx.2 (by decide),c12,mo _ _ hy.1 hy.2 (by decide),c3,mo _ _ hz.1 hz.2 (by decide),by decide,Zv,mo _ _ hy.1 hy.2 (by decide),c12,mo _ _ hz.1 hz.2 (by decide),c3,mo _ _ hx.1 hx.2 (by decide),by decide,XI,mo _ _ (by decide) (by decide) (by decide),by decide,XI,XI,by decide,?_⟩
 generalize x*1000000000000000000000+y*1000000000000+z*1000+x.fmod 1000=t
 generalize y*1000000000000000000000+z*1000000000000+x*1000+y.fmod 1000=b
 have f1:=fm (x:=t) (n:=2*1000000000000000000000000000000+1) (by decide)
 have f2:=fm (x:=b) (n:=1000000000000000000000000000000) (by decide)
 have p1:(1000000000000000000000000000000:Nat)<2^100:=by decide
 refine⟨_,_,100,rfl,by decide,by omega,by omega,hq _ (wg (by omega) (fun e=>absurd e k0) k1 (fun e=>absurd e k2) ⟨by omega,by omega⟩)⟩
theorem aR{Φ:Nat->bN}{G:Nat->W}{s t:CS}{ts:List CS}{D:Dn}{ε:Ev}(J:Ev->Prop)(h1:∀N:Ev->Prop,(∀ε',J ε'->N ε')->wS Φ G s {D with nx:=N} ε)(h2:∀ε',J ε'->wSs Φ G (t::ts) D ε'):wSs Φ G (s::t::ts) D ε:=by
 rw[wSs]
 exact h1 _ h2
noncomputable def nt:List CS:=[.set 2 (.int 0),.iff (.or [(.cmp .Lt (.var 0) (.int 0)),(.cmp .GtE (.var 0) (.bin .Pow (.int 10) (.int 18)))]) [.set 2 (.blt .abs [(.var 0)])] [],.set 3 (.bin .Add (.bin .Mod (.var 0) (.int 1999999943)) (.int 3)),.set 4 (.bin .Add (.bin .Mod (.bin .Mult (.var 3) (.var 3)) (.int 1999999973)) (.int 1)),.set 5 (.lst []),.fr [6] true (.oz [(.var 1)]) [.set 3 (.bin .Mod (.bin .Add (.bin .Add (.bin .Add (.bin .Mult (.var 3) (.var 3)) (.var 4)) (.bin .Mult (.int 2) (.var 6))) (.int 1)) (.int 1999999973)),.set 4 (.bin .Mod (.bin .Add (.bin .Add (.bin .Mult (.var 4) (.int 69069)) (.bin .Mult (.var 3) (.int 40692))) (.var 6)) (.int 1999999943)),.set 7 (.bin .Mod (.bin .Add (.var 3) (.bin .Mult (.var 4) (.var 4))) (.int 1000000007)),.iff (.cmp .Gt (.var 2) (.int 0)) [.set 7 (.bin .Mod (.var 2) (.int 1000000007)),.set 2 (.bin .FloorDiv (.var 2) (.int 1000000007))] [],.app 5 (.var 7)],.ret (.var 5)]
noncomputable def rY:bN:=fun ws Q _=>∃(c m:Int),ws=[.int c,.int m]/\0<=m/\m<=900/\∀ns:List Int,(ns.length:Int)=m->(∀n∈ns,0<=n/\n<1000000007)->Q (wI ns)
theorem Ly{Φ:Nat->bN}{G:Nat->W}{m:Md}(ws:List W)(Q:W->Prop)(R:Addr->Prop)(h:rY ws Q R):wSs Φ G nt (b8 m Q R) (au 8 ws):=by
 obtain⟨c,k,rfl,k0,k1,hq⟩:=h
 show wSs _ _ nt _ [some (.int c),some (.int k),none,none,none,none,none,none]
 unfold nt
 refine aR (fun ε'=>ε'=[some (.int c),some (.int k),some (.int 0),none,none,none,none,none]) (fun N hN=>?_) ?_
 ·walk_at "vs"
  exact hN _ rfl
 rintro _ rfl
 refine aR (fun ε'=>∃r:Int,0<=r/\ε'=[some (.int c),some (.int k),some (.int r),none,none,none,none,none]) (fun N hN=>?_) ?_
 ·walk_at "vs"
  by_cases h:c<0
  ·rw[Bz (IR h)]
   exact hN _ ⟨_,by split<;>lia,rfl⟩
  ·rw[Bi (by rw[Ha];exact h)]
   refine⟨gB (by decide) (by decide) (by decide),?_⟩
   split
   ·exact hN _ ⟨_,by lia,rfl⟩
   ·exact hN _ ⟨0,by decide,rfl⟩
 rintro _ ⟨r,hr,rfl⟩
 have f1:=fm (x:=c) (n:=1999999943) (by decide)
 have p31:(2000000000:Nat)<2^31:=by decide
 walk_at "vs"
 refine⟨by decide,aF (n:=31) (m:=31) (by clear p31 f1 hr k1 k0;lia) (by lia) (by decide),by decide,ak (by simp),by lia,by lia,?_⟩
 obtain⟨x,hx⟩:∃x,x=c.fmod 1999999943+3:=⟨_,rfl⟩
 rw[←hx]
 have f2:=fm (x:=x*x) (n:=1999999973) (by decide)
 generalize(x*x).fmod 1999999973=y at*
 refine bX (fun i ε=>∃(r x y:Int) (ns:List Int) (o6 o7:Option W),((0<=r/\0<=x/\x<2000000000/\0<=y/\y<2000000000)/\ns.length=i/\∀n∈ns,0<=n/\n<1000000007)/\ε=[some (.int c),some (.int k),some (.int r),some (.int x),some (.int y),some (wI ns),o6,o7]) ⟨r,x,y+1,[],none,none,⟨⟨hr,by lia,by lia,by lia,by lia⟩,rfl,by simp⟩,rfl⟩ ?_ ?_
 ·rintro i w _ N hw ⟨r,x,y,ns,o6,o7,⟨⟨hr,x0,x1,y0,y1⟩,hl,hb⟩,rfl⟩ hN
  obtain⟨hi,rfl⟩:=mJ hw
  unfold wI
  walk_at "vs"
  have g1:=fm (x:=x*x+y+2*(i:Int)+1) (n:=1999999973) (by decide)
  generalize(x*x+y+2*(i:Int)+1).fmod 1999999973=u at*
  have g2:=fm (x:=y*69069+u*40692+(i:Int)) (n:=1999999943) (by decide)
  generalize(y*69069+u*40692+(i:Int)).fmod 1999999943=v at*
  have g3:=fm (x:=u+v*v) (n:=1000000007) (by decide)
  generalize(u+v*v).fmod 1000000007=q at*
  have g4:=fm (x:=r) (n:=1000000007) (by decide)
  have li:(ns.map W.int).length<sizeLine:=Bc (by rw[Ap];lia)
  have app:∀z:Int,0<=z/\z<1000000007->(ns++[z]).length=i+1/\∀n∈ns++[z],0<=n/\n<1000000007:=fun z hz=>by
   refine⟨by rw[FC,hl];rfl,fun n hn=>?_⟩
   rcases Hb.mp hn with h|h
   ·exact hb n h
   ·rw[Fm.mp h]
    exact hz
  have mo:∀a b:Int,0<=a->a<2000000000->0<=b->b<2000000000->IntMulOk a b:=fun a b h1 h2 h3 h4=>aF (n:=31) (m:=31) (by lia) (by lia) (by decide)
  refine⟨mo _ _ x0 x1 x0 x1,mo _ _ (by decide) (by decide) (by lia) (by lia),by decide,mo _ _ y0 y1 (by decide) (by decide),mo _ _ g1.1 (by lia) (by decide) (by decide),by decide,mo _ _ g2.1 (by lia) g2.1 (by lia),by decide,?_⟩
  by_cases h:0<r
  ·rw[Bz (IR h)]
   refine⟨by decide,⟨by decide,by decide⟩,li,hN _ ⟨r.fdiv 1000000007,u,v,ns++[r.fmod 1000000007],some (.int i),some (.int (r.fmod 1000000007)),⟨⟨Int.fdiv_nonneg hr (by decide),by lia,by lia,by lia,by lia⟩,app _ g4⟩,?_⟩⟩
   unfold wI
   rw[Pt]
   rfl
  ·rw[Bi (by rw[Ha];exact h)]
   refine⟨li,hN _ ⟨r,u,v,ns++[q],some (.int i),some (.int q),⟨⟨hr,by lia,by lia,by lia,by lia⟩,app _ g3⟩,?_⟩⟩
   unfold wI
   rw[Pt]
   rfl
 ·rintro _ ⟨r,x,y,ns,o6,o7,⟨_,hl,hb⟩,rfl⟩
  walk_at "vs"
  rw[CV]at hl
  exact hq ns (by lia) hb
theorem E3(k:Int):tW k 0:=⟨fun _=>by decide,fun _=>by decide,fun _=>by decide,Os (by decide),Nat.one_lt_two_pow (by decide)⟩
theorem int_at{ns:List Int}{k:Nat}(h:k<ns.length):(ns.map W.int)[k]?=some (.int (ns.getD k 0)):=by
 rw[FR,AC,BM h]
 rfl
theorem Bm{ns:List Int}{P:Int->Prop}(h:∀n∈ns,P n){k:Nat}(hk:k<ns.length):P (ns.getD k 0):=by
 rw[AC,BM hk]
 exact h _ (PP _)
noncomputable def yM:List CS:=[.set 3 (.call 0 [(.var 0),(.bin .Add (.bin .Mult (.int 3) (.var 1)) (.int 2))]),.set 4 (.lst []),.fr [5] true (.oz [(.bin .Mod (.ix (.var 3) (.int 0)) (.bin .Add (.var 1) (.int 1)))]) [.set 6 (.call 1 [(.ix (.var 3) (.bin .Add (.int 2) (.bin .Mult (.int 3) (.var 5)))),(.ix (.var 3) (.bin .Add (.int 3) (.bin .Mult (.int 3) (.var 5)))),(.ix (.var 3) (.bin .Add (.int 4) (.bin .Mult (.int 3) (.var 5)))),(.var 2)]),.iff (.cmp .Eq (.bin .Mod (.bin .RShift (.ix (.var 3) (.int 1)) (.var 5)) (.int 4)) (.int 1)) [.set 6 (.tup [(.int 0),(.int 1)])] [],.app 4 (.var 6)],.GF (.and [(.cmp .NotEq (.var 4) (.lst [])),(.cmp .Eq (.ix (.ix (.var 4) (.neg (.int 1))) (.int 0)) (.int 0))]) [.drop 4],.ret (.var 4)]
noncomputable def Lz:bN:=fun ws Q _=>∃(c m k:Int),ws=[.int c,.int m,.int k]/\0<=m/\m<=21/\∀rs:List Rat,rs.length<=m.toNat->(∀x∈rs,tW k x)->aA rs->Q (af rs)
theorem U9{G:Nat->W}{md:Md}(ws:List W)(Q:W->Prop)(R:Addr->Prop)(h:Lz ws Q R):wSs (b7 [rY,nq]) G yM (b8 md Q R) (au 7 ws):=by
 obtain⟨c,m,k,rfl,m0,m1,hq⟩:=h
 show wSs _ _ yM _ [some (.int c),some (.int m),some (.int k),none,none,none,none]
 unfold yM
 walk_at "vs"
 refine⟨aF (n:=2) (m:=5) (by decide) (by lia) (by decide),c,3*m+2,rfl,by lia,by lia,fun xs hl hb=>?_⟩
 have l2:2<=xs.length:=by lia
 unfold wI
 walk_at "vs"
 refine⟨ak (by simp),_,cM (k:=0) (int_at (by lia)),?_⟩
 walk_at "vs"
 have f1:=fm (x:=xs.getD 0 0) (n:=m+1) (by lia)
 generalize(xs.getD 0 0).fmod (m+1)=n at*
 refine⟨by lia,by lia,by lia,?_⟩
 refine bX (fun i ε=>∃(rs:List Rat) (o5 o6:Option W),(rs.length=i/\∀x∈rs,tW k x)/\ε=[some (.int c),some (.int m),some (.int k),some (.lst (xs.map W.int)),some (.lst (rs.map wq)),o5,o6]) ⟨[],none,none,⟨rfl,by simp⟩,rfl⟩ ?_ ?_
 ·rintro i w _ N hw ⟨rs,o5,o6,⟨hr,hk⟩,rfl⟩ hN
  obtain⟨hi,rfl⟩:=mJ hw
  walk_at "vs"
  have mo:IntMulOk 3 (i:Int):=aF (n:=2) (m:=10) (by decide) (by lia) (by decide)
  have XJ:∀j:Nat,j<=4->oG (xs.map W.int) ((j:Int)+3*(i:Int))=some (.int (xs.getD (j+3*i) 0)):=fun j hj=>by
   rw[show(j:Int)+3*(i:Int)=((j+3*i:Nat):Int) by lia]
   exact cM (int_at (by lia))
  have XM:∀j:Nat,j<=4->0<=xs.getD (j+3*i) 0/\xs.getD (j+3*i) 0<1000000007:=fun j hj=>Bm hb (by lia)
  have li:(rs.map wq).length<sizeLine:=Bc (by rw[Ap];lia)
  have app:∀z:Rat,tW k z->(rs++[z]).length=i+1/\∀x∈rs++[z],tW k x:=fun z hz=>by
   refine⟨by rw[FC,hr];rfl,fun x hx=>?_⟩
   rcases Hb.mp hx with h|h
   ·exact hk x h
   ·rw[Fm.mp h]
    exact hz
  refine⟨mo,_,XJ 2 (by decide),mo,_,XJ 3 (by decide),mo,_,XJ 4 (by decide),_,_,_,k,rfl,XM 2 (by decide),XM 3 (by decide),XM 4 (by decide),fun q hqk=>⟨_,cM (k:=1) (int_at (by lia)),?_⟩⟩
  walk_at "vs"
  refine⟨by lia,by decide,?_⟩
  split
  ·exact⟨ak (by simp),li,hN _ ⟨rs++[0],_,_,app 0 (E3 k),by rw[Pt];rfl⟩⟩
  ·exact⟨li,hN _ ⟨rs++[q],_,_,app q hqk,by rw[Pt];rfl⟩⟩
 ·rintro _ ⟨rs,o5,o6,⟨hr,hk⟩,rfl⟩
  rw[CV]at hr
  walk_at "vs"
  refine mE (α:=List Rat) (fun x=>[some (.int c),some (.int m),some (.int k),some (.lst (xs.map W.int)),some (af x),o5,o6]) (fun x=>x.length<=m.toNat/\∀y∈x,tW k y) (fun x=>x.length) rs rfl ⟨by lia,hk⟩ ?_
  rintro us ⟨hu,hn⟩
  walk_at "vs"
  refine⟨ak (by simp),QU (y:=[]) fun b Zw=>?_⟩
  walk_at "vs"
  rcases List.eq_nil_or_concat us with rfl|⟨t,y,rfl⟩
  ·cases cP Zw rfl
   walk_at "vs"
   refine iy (fun z=>by cases z) (fun _=>?_)
   walk_at "vs"
   exact hq [] hu hn fun x hx=>by cases hx
  ·rw[List.concat_eq_append]at*
   cases bK Zw (by simp)
   walk_at "vs"
   refine⟨_,yD List.getLast?_concat,_,rfl,?_⟩
   walk_at "vs"
   refine iy (fun z=>?_) (fun z=>?_)
   ·unfold af
    walk_at "vs"
    refine⟨wq y,by simp,t,by rw[Pt];simp,⟨?_,fun x hx=>hn x (P2 _ hx)⟩,by simp⟩
    rw[FC]at hu
    lia
   ·have y0:y≠0:=fun e=>by
     rw[e]at z
     cases z
    walk_at "vs"
    exact hq _ hu hn fun x hx=>by
     rw[List.getLast?_concat]at hx
     cases hx
     exact y0
theorem Ig(ns:List Int)(k:Nat)(h:k<=ns.length):oM (ns.map W.int) none (some (k:Int))=(ns.take k).map W.int:=by
 unfold oM
 rw[HT.JX,HT.xW,Ap,List.drop_zero,show min k ns.length -0=k by lia,List.map_take]
noncomputable def iT:List CS:=[.set 1 (.blt .len [(.var 0)]),.GF (.and [(.cmp .Gt (.var 1) (.int 0)),(.cmp .Eq (.ix (.var 0) (.bin .Sub (.var 1) (.int 1))) (.int 0))]) [.set 1 (.bin .Sub (.var 1) (.int 1))],.ret (.sl (.var 0) .aX (.var 1))]
noncomputable def iU:bN:=fun ws Q _=>∃ns:List Int,ws=[wI ns]/\∀ms,iA ns ms->Q (wI ms)
theorem E4{Φ:Nat->bN}{G:Nat->W}{m:Md}(ws:List W)(Q:W->Prop)(R:Addr->Prop)(h:iU ws Q R):wSs Φ G iT (b8 m Q R) (au 2 ws):=by
 obtain⟨ns,rfl,hq⟩:=h
 show wSs _ _ iT _ [some (wI ns),none]
 unfold iT wI
 walk_at "vs"
 refine mE (α:=Nat) (fun k=>[some (.lst (ns.map W.int)),some (.int k)]) (fun k=>k<=ns.length/\∀j,k<=j->j<ns.length->ns.getD j 0=0) (fun k=>k) ns.length (by rw[Ap]) ⟨Do _,fun j h1 h2=>by lia⟩ ?_
 rintro k ⟨h1,h2⟩
 walk_at "vs"
 have fin:(k=0\/ns.getD (k -1) 0≠0)->Q (.lst (oM (ns.map W.int) none (some (k:Int)))):=fun h=>by
  rw[Ig ns k h1]
  exact hq _ ⟨k,h1,rfl,h2,h⟩
 by_cases hk:0<k
 ·rw[Bz (IR (by lia))]
  rw[show(k:Int) -1=((k -1:Nat):Int) by lia]
  refine⟨_,cM (int_at (by lia)),?_⟩
  walk_at "vs"
  refine iy (fun z=>?_) (fun z=>?_)
  ·have z:=DD z
   walk_at "vs"
   refine⟨k -1,by rw[show(k:Int) -1=((k -1:Nat):Int) by lia],⟨by lia,fun j a b=>?_⟩,by show k -1<k;lia⟩
   by_cases e:j=k -1
   ·rw[e]
    exact z
   ·exact h2 j (by lia) b
  ·have z:=of_decide_eq_false z
   walk_at "vs"
   exact fin (.inr z)
 ·rw[Bi (by rw[Ha];lia)]
  refine iy (fun z=>by cases z) (fun _=>?_)
  walk_at "vs"
  exact fin (.inl (by lia))
noncomputable def dZ:List CS:=[.set 2 (.blt .max2 [(.blt .len [(.var 0)]),(.blt .len [(.var 1)])]),.set 3 (.bin .Add (.blt .list [(.var 0)]) (.bin .Mult (.lst [(.int 0)]) (.bin .Sub (.var 2) (.blt .len [(.var 0)])))),.fr [4,5] false (.vn (.var 1)) [.put 3 (.var 4) (.bin .Add (.ix (.var 3) (.var 4)) (.var 5))],.ret (.call 0 [(.var 3)])]
noncomputable def g6:bN:=fun ws Q _=>∃ns ms:List Int,ws=[wI ns,wI ms]/\ns.length<=200/\ms.length<=200/\∀ts,iA ((List.range (max ns.length ms.length)).map fun k=>ns.getD k 0+ms.getD k 0) ts->Q (wI ts)
theorem wj{G:Nat->W}{m:Md}(ws:List W)(Q:W->Prop)(R:Addr->Prop)(h:g6 ws Q R):wSs (b7 [iU]) G dZ (b8 m Q R) (au 6 ws):=by
 obtain⟨ns,ms,rfl,ln,lm,hq⟩:=h
 show wSs _ _ dZ _ [some (wI ns),some (wI ms),none,none,none,none]
 unfold dZ wI
 walk_at "vs"
 have em:(if((ms.map W.int).length:Int)>((ns.map W.int).length:Int)then((ms.map W.int).length:Int)else((ns.map W.int).length:Int))=((max ns.length ms.length:Nat):Int):=by
  rw[Ap,Ap]
  split<;>lia
 rw[em]
 have ed:((max ns.length ms.length:Nat):Int) -((ns.map W.int).length:Int)=((max ns.length ms.length -ns.length:Nat):Int):=by
  rw[Ap]
  clear em lm ln;lia
 rw[ed,Int.toNat_natCast,jR]
 generalize hL:max ns.length ms.length=L at*
 refine⟨ak (by simp),by clear ed em hL lm ln;lia,by clear ed em;lia,ak (by simp;clear ed em;lia),ak (by simp;clear ed em;lia),?_⟩
 have Va:∀(f:Nat->Int) (k:Nat),k<L->((List.range L).map f)[k]?=some (f k):=fun f k hk=>by
  rw[FR,T2 hk]
  rfl
 refine bX (fun i ε=>∃o4 o5,ε=[some (.lst (ns.map W.int)),some (.lst (ms.map W.int)),some (.int L),some (.lst (((List.range L).map fun k=>ns.getD k 0+if k<i then ms.getD k 0 else 0).map W.int)),o4,o5]) ⟨none,none,?_⟩ ?_ ?_
 ·have:ns.map W.int++List.replicate (L -ns.length) (W.int 0)=((List.range L).map fun k=>ns.getD k 0+if k<0 then ms.getD k 0 else 0).map W.int:=by
   refine List.ext_getElem? fun q=>?_
   by_cases h1:q<ns.length
   ·rw[IH (by simpa using h1),int_at h1,FR,Va _ q (by lia),Bi (by lia),UF]
    rfl
   ·by_cases h2:q<L
    ·rw[HI (by simpa using h1),List.getElem?_replicate,Bz (by rw[Ap];omega),FR,Va _ q h2,Bi (by omega),AC,FS (by lia)]
     rfl
    ·rw[FS (by simp;omega),FS (by simp;lia)]
  rw[this]
 ·rintro i w _ N hw ⟨o4,o5,rfl⟩ hN
  obtain⟨x,hx,rfl⟩:=oO hw
  have hi:i<ms.length:=by
   have:=(GM.mp hx).1
   simpa using this
  rw[int_at hi]at hx
  cases hx
  walk_at "vs"
  have hl:i<L:=by omega
  refine⟨rfl,_,cM (by rw[FR,Va _ i hl];rfl),?_⟩
  walk_at "vs"
  refine⟨i,mK (by simpa using hl),hN _ ⟨some (.int i),some (.int (ms.getD i 0)),?_⟩⟩
  have:((List.range L).map fun k=>ns.getD k 0+if k<i then ms.getD k 0 else 0).set i (ns.getD i 0+(if i<i then ms.getD i 0 else 0)+ms.getD i 0)=(List.range L).map fun k=>ns.getD k 0+if k<i+1 then ms.getD k 0 else 0:=by
   refine List.ext_getElem? fun q=>?_
   rw[List.getElem?_set]
   by_cases h2:q<L
   ·rw[Va _ q h2,Va _ q h2]
    by_cases e:i=q
    ·subst e
     rw[Bz rfl,Bz (by simpa using hl),Bi (by lia),Bz (by lia)]
     congr 1
     lia
    ·rw[Bi e]
     by_cases h3:q<i
     ·rw[Bz h3,Bz (by lia)]
     ·rw[Bi h3,Bi (by lia)]
   ·rw[Bi (by lia),FS (by simp;lia),FS (by simp;omega)]
  rw[←this,List.map_set]
 ·rintro _ ⟨o4,o5,rfl⟩
  have le:(jz (ms.map W.int)).length=ms.length:=by
   unfold jz
   simp
  rw[le]
  walk_at "vs"
  refine⟨_,rfl,fun ts ht=>hq ts ?_⟩
  have:((List.range L).map fun k=>ns.getD k 0+if k<ms.length then ms.getD k 0 else 0)=(List.range L).map fun k=>ns.getD k 0+ms.getD k 0:=by
   refine List.map_congr_left fun k _=>?_
   by_cases h:k<ms.length
   ·rw[Bz h]
   ·rw[Bi h,AC (l:=ms),FS (by lia)]
    rfl
  rw[←this]
  exact ht
noncomputable def c6:List CS:=[.ret (.call 0 [(.var 0),(.call 1 [(.var 1),(.neg (.int 1))])])]
noncomputable def cT:bN:=fun ws Q _=>∃(ns ms:List Int) (b:Nat),ws=[wI ns,wI ms]/\ns.length<=200/\ms.length<=200/\b<=100000000/\(∀x∈ms,x.natAbs<2^b)/\∀ts,iA ((List.range (max ns.length ms.length)).map fun k=>ns.getD k 0 -ms.getD k 0) ts->Q (wI ts)
theorem tX{G:Nat->W}{m:Md}(ws:List W)(Q:W->Prop)(R:Addr->Prop)(h:cT ws Q R):wSs (b7 [g6,gk]) G c6 (b8 m Q R) (au 2 ws):=by
 obtain⟨ns,ms,b,rfl,ln,lm,hb,hms,hq⟩:=h
 show wSs _ _ c6 _ [some (wI ns),some (wI ms)]
 unfold c6
 walk_at "vs"
 refine⟨ms,-1,rfl,by lia,fun x hx=>aF (n:=1) (m:=b) (by decide) (hms x hx) (by lia),?_⟩
 refine⟨ns,ms.map (-1*·),rfl,ln,by rw[Ap];exact lm,fun ts ht=>hq ts ?_⟩
 rw[Ap]at ht
 have:((List.range (max ns.length ms.length)).map fun k=>ns.getD k 0+(ms.map (-1*·)).getD k 0)=(List.range (max ns.length ms.length)).map fun k=>ns.getD k 0 -ms.getD k 0:=by
  refine List.map_congr_left fun k _=>?_
  rw[AC (l:=ms.map _),FR,AC (l:=ms)]
  cases ms[k]? with
  |none=>show _+(0:Int)=_ -(0:Int);lia
  |some z=>show _+ -1*z=_ -z;lia
 rw[←this]
 exact ht
noncomputable def jV:List CS:=[.set 2 (.int 1),.GF (.cmp .Gt (.var 1) (.int 0)) [.iff (.cmp .Eq (.bin .Mod (.var 1) (.int 2)) (.int 1)) [.set 2 (.bin .Mult (.var 2) (.var 0))] [],.set 1 (.bin .FloorDiv (.var 1) (.int 2)),.iff (.cmp .Gt (.var 1) (.int 0)) [.set 0 (.bin .Mult (.var 0) (.var 0))] []],.ret (.var 2)]
noncomputable def ee:bN:=fun ws Q _=>∃(x:Int) (e n:Nat),ws=[.int x,.int e]/\x.natAbs<2^n/\n*(e+1)<=60000000/\Q (.int (x^e))
theorem XN{x:Int}{n:Nat}(h:x.natAbs<2^n)(e:Nat):(x^e).natAbs<2^(n*e+1):=by
 rw[Int.natAbs_pow]
 have:x.natAbs^e<=(2^n)^e:=Qr (Yf h) e
 rw[←dt]at this
 rw[Nat.pow_succ]
 have:=Os (n:=n*e) (show 0<2 by decide)
 lia
theorem Ih{Φ:Nat->bN}{G:Nat->W}{m:Md}(ws:List W)(Q:W->Prop)(R:Addr->Prop)(h:ee ws Q R):wSs Φ G jV (b8 m Q R) (au 3 ws):=by
 obtain⟨x,e,n,rfl,hx,hn,hq⟩:=h
 show wSs _ _ jV _ [some (.int x),some (.int e),none]
 unfold jV
 walk_at "vs"
 refine mE (α:=Nat×Nat×Nat) (fun s=>[some (.int (x^s.1)),some (.int s.2.1),some (.int (x^s.2.2))]) (fun s=>s.1*s.2.1+s.2.2=e/\(0<s.2.1->0<s.1)) (fun s=>s.2.1) (1,e,0) (by show _=[some (W.int (x^1)),some (W.int (e:Int)),some (W.int (x^0))];rw[Iy,OF,RF]) ⟨by show 1*e+0=e;lia,fun _=>by show 0<1;decide⟩ ?_
 rintro⟨a,d,p⟩ ⟨hs,ha⟩
 dsimp only at hs ha
 walk_at "vs"
 refine iy (fun z=>?_) (fun z=>?_)
 ·have d0:0<d:=by have:=DD z;lia
  have a0:=ha d0
  have ae:a<=e:=by
   have:a*1<=a*d:=DL a d0
   lia
  have pe:p<=e:=by lia
  have bd:∀q,q<=e->(x^q).natAbs<2^(n*e+1):=fun q hq'=>GE (XN hx q) (GT (by decide) (Nat.add_le_add_right (DL n hq') 1))
  have ne:n*e<=60000000:=Dx (DL n (Nat.le_succ e)) hn
  have mo:∀q r,q<=e->r<=e->IntMulOk (x^q) (x^r):=fun q r h1 h2=>aF (bd q h1) (bd r h2) (by lia)
  have e1:(d:Int).fmod 2=((d%2:Nat):Int):=by rw[X9 _ (by decide)];lia
  have e2:(d:Int).fdiv 2=((d/2:Nat):Int):=by rw[Pl _ (by decide)];lia
  have cd:uw (d:Int) 2:=⟨by decide,by decide⟩
  walk_at "vs"
  rw[e1,e2]
  refine⟨by decide,?_⟩
  have hd:a*d=a*(2*(d/2))+a*(d%2):=by rw[←Nat.mul_add,Nat.div_add_mod]
  have e3:a*(2*(d/2))=2*a*(d/2):=by rw[cw 2 a,Nat.mul_assoc]
  split
  ·rename_i h
   have h:=DD h
   have o:d%2=1:=by lia
   rw[o,Nat.mul_one]at hd
   refine⟨mo p a pe ae,cd,?_⟩
   split
   ·refine⟨mo a a ae ae,(2*a,d/2,p+a),?_,⟨?_,fun _=>?_⟩,?_⟩
    ·show[some (W.int (x^a*x^a)),some (W.int ((d/2:Nat):Int)),some (W.int (x^p*x^a))]=[some (W.int (x^(2*a))),some (W.int ((d/2:Nat):Int)),some (W.int (x^(p+a)))]
     rw[cq,Nat.two_mul,cq]
    ·show 2*a*(d/2)+(p+a)=e
     lia
    ·show 0<2*a
     lia
    ·show d/2<d
     lia
   ·rename_i h2
    rw[Ha]at h2
    refine⟨(a,d/2,p+a),?_,⟨?_,fun z=>?_⟩,?_⟩
    ·show[some (W.int (x^a)),some (W.int ((d/2:Nat):Int)),some (W.int (x^p*x^a))]=[some (W.int (x^a)),some (W.int ((d/2:Nat):Int)),some (W.int (x^(p+a)))]
     rw[cq]
    ·show a*(d/2)+(p+a)=e
     have z2:d/2=0:=by lia
     rw[z2]at hd e3⊢
     lia
    ·exact a0
    ·show d/2<d
     lia
  ·rename_i h
   rw[Ha]at h
   have o:d%2=0:=by lia
   rw[o,Nat.mul_zero]at hd
   refine⟨cd,?_⟩
   split
   ·refine⟨mo a a ae ae,(2*a,d/2,p),?_,⟨?_,fun _=>?_⟩,?_⟩
    ·show[some (W.int (x^a*x^a)),some (W.int ((d/2:Nat):Int)),some (W.int (x^p))]=[some (W.int (x^(2*a))),some (W.int ((d/2:Nat):Int)),some (W.int (x^p))]
     rw[Nat.two_mul,cq]
    ·show 2*a*(d/2)+p=e
     lia
    ·show 0<2*a
     lia
    ·show d/2<d
     lia
   ·rename_i h2
    rw[Ha]at h2
    lia
 ·have d0:d=0:=by have:=of_decide_eq_false z;lia
  subst d0
  walk_at "vs"
  have:p=e:=by lia
  rw[this]
  exact hq
noncomputable def tabI(n:Nat)(f:Nat->Int):List Int:=(List.range n).map f
theorem g7{n k:Nat}{f:Nat->Int}(h:k<n):(tabI n f)[k]?=some (f k):=by
 unfold tabI
 rw[FR,T2 h]
 rfl
theorem aU(n:Nat)(f:Nat->Int):(tabI n f).length=n:=by unfold tabI;simp
theorem iV{n k:Nat}{f g:Nat->Int}(h:k<n)(hg:∀j,j<n->j≠k->g j=f j):(tabI n f).set k (g k)=tabI n g:=by
 refine List.ext_getElem? fun q=>?_
 rw[List.getElem?_set]
 by_cases h2:q<n
 ·rw[g7 h2,g7 h2]
  by_cases e:k=q
  ·subst e
   rw[Bz rfl,Bz (by rw[aU];exact h)]
  ·rw[Bi e,hg q h2 (Q1 e)]
 ·rw[Bi (by lia),FS (by rw[aU];lia),FS (by rw[aU];lia)]
theorem QY{x y:List Int}{Q:W->Prop}(h:∀k:Bool,(k=true↔x=y)->Q (.bl k)):gg .Eq (wI x) (wI y) Q:=by
 have pl:∀z:List Int,fY 9 (.lst (z.map W.int))=true:=fun z=>by
  rw[fY,Hn]
  intro w hw
  obtain⟨i,_,rfl⟩:=Kx.mp hw
  exact vX i 8
 refine⟨.inl ⟨pl x,pl y⟩,fun k hk=>h k (hk.trans ⟨fun e=>?_,fun e=>by rw[e]⟩)⟩
 unfold wI at e
 rw[W.lst.injEq]at e
 exact(List.map_inj_right (fun a b e=>W.int.inj e)).mp e
theorem CW{ms:List Int}{i:Nat}{w:W}(h:(jz (ms.map W.int))[i]?=some w):i<ms.length/\w=.tup [.int i,.int (ms.getD i 0)]:=by
 obtain⟨x,hx,rfl⟩:=oO h
 have hi:i<ms.length:=by
  have:=(GM.mp hx).1
  simpa using this
 rw[int_at hi]at hx
 cases hx
 exact⟨hi,rfl⟩
theorem yN(ms:List Int):(jz (ms.map W.int)).length=ms.length:=by
 unfold jz
 simp
noncomputable def c7:List CS:=[.iff (.or [(.cmp .Eq (.var 0) (.lst [])),(.cmp .Eq (.var 1) (.lst []))]) [.ret (.lst [])] [],.set 2 (.bin .Mult (.lst [(.int 0)]) (.bin .Sub (.bin .Add (.blt .len [(.var 0)]) (.blt .len [(.var 1)])) (.int 1))),.fr [3,4] false (.vn (.var 0)) [.iff (.cmp .NotEq (.var 4) (.int 0)) [.fr [5,6] false (.vn (.var 1)) [.put 2 (.bin .Add (.var 3) (.var 5)) (.bin .Add (.ix (.var 2) (.bin .Add (.var 3) (.var 5))) (.bin .Mult (.var 4) (.var 6)))]] []],.ret (.var 2)]
noncomputable def b9:bN:=fun ws Q _=>∃as bs:List Int,ws=[wI as,wI bs]/\as.length<=200/\bs.length<=200/\(∀x∈as,∀y∈bs,IntMulOk x y)/\Q (wI (if as=[]\/bs=[]then[]else tabI (as.length+bs.length -1) (cf as bs as.length)))
theorem tY{Φ:Nat->bN}{G:Nat->W}{m:Md}(ws:List W)(Q:W->Prop)(R:Addr->Prop)(h:b9 ws Q R):wSs Φ G c7 (b8 m Q R) (au 7 ws):=by
 obtain⟨as,bs,rfl,la,lb,hm,hq⟩:=h
 show wSs _ _ c7 _ [some (wI as),some (wI bs),none,none,none,none,none]
 unfold c7
 refine aR (fun ε'=>(as≠[]/\bs≠[])/\ε'=[some (wI as),some (wI bs),none,none,none,none,none]) (fun N hN=>?_) ?_
 ·walk_at "vs"
  refine⟨ak (by simp),QY (y:=[]) fun k1 h1=>?_⟩
  walk_at "vs"
  by_cases ea:as=[]
  ·cases cP h1 ea
   rw[Bz rfl]
   rw[Bz (.inl ea)]at hq
   exact⟨ak (by simp),hq⟩
  ·cases bK h1 ea
   rw[Bi (by decide)]
   refine⟨ak (by simp),QY (y:=[]) fun k2 h2=>?_⟩
   walk_at "vs"
   by_cases eb:bs=[]
   ·cases cP h2 eb
    rw[Bz rfl]
    rw[Bz (.inr eb)]at hq
    exact⟨ak (by simp),hq⟩
   ·cases bK h2 eb
    rw[Bi (by decide)]
    exact hN _ ⟨⟨ea,eb⟩,rfl⟩
 rintro _ ⟨⟨ea,eb⟩,rfl⟩
 rw[Bi (fun z=>z.elim ea eb)]at hq
 have a0:=Bn.mpr ea
 unfold wI at*
 walk_at "vs"
 have em:((as.map W.int).length:Int)+((bs.map W.int).length:Int) -1=((as.length+bs.length -1:Nat):Int):=by
  rw[Ap,Ap]
  lia
 rw[em,Int.toNat_natCast,jR]
 refine⟨ak (by simp),by lia,by lia,ak (by simp;lia),?_⟩
 refine bX (fun i ε=>∃o3 o4 o5 o6,ε=[some (.lst (as.map W.int)),some (.lst (bs.map W.int)),some (.lst ((tabI (as.length+bs.length -1) (cf as bs i)).map W.int)),o3,o4,o5,o6]) ⟨none,none,none,none,?_⟩ ?_ ?_
 ·have:tabI (as.length+bs.length -1) (cf as bs 0)=List.replicate (as.length+bs.length -1) 0:=by
   unfold tabI
   have:cf as bs 0=fun _=>0:=rfl
   rw[this,List.map_const',Ta]
  rw[this,List.map_replicate]
 ·rintro i w _ N hw ⟨o3,o4,o5,o6,rfl⟩ hN
  obtain⟨hi,rfl⟩:=CW hw
  walk_at "vs"
  refine⟨rfl,?_⟩
  by_cases z:as.getD i 0=0
  ·rw[IR z]
   walk_at "vs"
   refine hN _ ⟨some (.int i),some (.int (as.getD i 0)),o5,o6,?_⟩
   rw[show cf as bs (i+1)=cf as bs i from funext fun k=>Ls z k]
  ·rw[P3 z]
   walk_at "vs"
   refine bX (fun j ε=>∃o5 o6,ε=[some (.lst (as.map W.int)),some (.lst (bs.map W.int)),some (.lst ((tabI (as.length+bs.length -1) (FF as bs i j)).map W.int)),some (.int i),some (.int (as.getD i 0)),o5,o6]) ⟨o5,o6,?_⟩ ?_ ?_
   ·rw[show FF as bs i 0=cf as bs i from funext fun k=>HQ as bs i k]
   ·rintro j w _ N2 Cq ⟨o5,o6,rfl⟩ JD
    obtain⟨hj,rfl⟩:=CW Cq
    have hl:i+j<as.length+bs.length -1:=by lia
    walk_at "vs"
    rw[show(i:Int)+(j:Int)=((i+j:Nat):Int) by lia]
    refine⟨rfl,_,cM (by rw[FR,g7 hl];rfl),?_⟩
    walk_at "vs"
    refine⟨Bm (P:=fun x=>IntMulOk x (bs.getD j 0)) (fun x hx=>Bm (P:=fun y=>IntMulOk x y) (hm x hx) hj) hi,i+j,mK (by rw[Ap,aU];exact hl),JD _ ⟨some (.int j),some (.int (bs.getD j 0)),?_⟩⟩
    have e:=iV (n:=as.length+bs.length -1) (f:=FF as bs i j) (g:=FF as bs i (j+1)) (k:=i+j) hl (fun q _ hq=>by rw[yF,Bi hq,UF])
    rw[yF,Bz rfl]at e
    rw[←e,List.map_set]
   ·rintro _ ⟨o5,o6,rfl⟩
    refine hN _ ⟨some (.int i),some (.int (as.getD i 0)),o5,o6,?_⟩
    rw[yN,show FF as bs i bs.length=cf as bs (i+1)from funext fun k=>HR as bs i k]
 ·rintro _ ⟨o3,o4,o5,o6,rfl⟩
  rw[yN]
  walk_at "vs"
  exact hq
noncomputable def yO:List CS:=[.par [0,1] [(.blt .abs [(.var 0)]),(.blt .abs [(.var 1)])],.GF (.cmp .Gt (.bits (.var 1)) (.glob 0)) [.par [0,1] [(.var 1),(.bin .Mod (.var 0) (.var 1))],.rA [0,1] (.call 0 [(.call 1 [(.var 0),(.var 1)]),(.var 0),(.var 1)]),.par [0,1] [(.blt .abs [(.var 0)]),(.blt .abs [(.var 1)])]],.GF (.cmp .NotEq (.var 1) (.int 0)) [.par [0,1] [(.var 1),(.bin .Mod (.var 0) (.var 1))]],.ret (.var 0)]
noncomputable def Bo:bN:=fun ws Q _=>∃(a b:Int) (n:Nat),ws=[.int a,.int b]/\b.natAbs<2^n/\n<=6000/\Q (.int (Int.gcd a b:Nat))
theorem Vb{Φ:Nat->bN}{m:Md}(ws:List W)(Q:W->Prop)(R:Addr->Prop)(h:Bo ws Q R):wSs Φ (ou [.int 6000]) yO (b8 m Q R) (au 2 ws):=by
 obtain⟨a,b,n,rfl,hb,hn,hq⟩:=h
 show wSs _ _ yO _ [some (.int a),some (.int b)]
 unfold yO
 have ea:(if a<0 then-a else a)=(a.natAbs:Int):=by split<;>lia
 have eb:(if b<0 then-b else b)=(b.natAbs:Int):=by split<;>lia
 have hg:Int.gcd (a.natAbs:Int) (b.natAbs:Int)=Int.gcd a b:=rfl
 refine aR (fun ε'=>ε'=[some (.int (a.natAbs:Int)),some (.int (b.natAbs:Int))]) (fun N hN=>?_) ?_
 ·walk_at "vs"
  rw[ea,eb]
  exact⟨rfl,hN _ rfl⟩
 rintro _ rfl
 have bits:Builtin.Int.intBits (b.natAbs:Int)<=n:=bits_le (by rw[Int.natAbs_natCast];exact hb)
 refine aR (fun ε'=>ε'=[some (.int (a.natAbs:Int)),some (.int (b.natAbs:Int))]) (fun N hN=>?_) ?_
 ·rw[wS]
  refine mE (α:=Unit) (fun _=>[some (.int (a.natAbs:Int)),some (.int (b.natAbs:Int))]) (fun _=>True) (fun _=>0) () rfl trivial ?_
  rintro _ _
  walk_at "vs"
  refine iy (fun z=>?_) (fun _=>hN _ rfl)
  have:=DD z
  lia
 rintro _ rfl
 walk_at "vs"
 refine mE (α:=Int×Int) (fun x=>[some (.int x.1),some (.int x.2)]) (fun x=>Int.gcd x.1 x.2=Int.gcd a b/\0<=x.1/\0<=x.2) (fun x=>x.2.natAbs) (a.natAbs,b.natAbs) rfl ⟨hg,Int.natCast_nonneg _,Int.natCast_nonneg _⟩ ?_
 rintro⟨x,y⟩ ⟨hx,x0,Zx⟩
 dsimp only at hx x0 Zx
 walk_at "vs"
 refine iy (fun hk=>?_) (fun hk=>?_)
 ·have y0:y≠0:=by simpa using hk
  have e2:=yz x y (x.fdiv y)
  have e3:=HL x y y0
  have f:=fm (x:=x) (n:=y) (by clear e3 e2 y0;lia)
  rw[←Num.fmod_eq]at e2 e3
  walk_at "vs"
  exact⟨y0,rfl,(y,x.fmod y),rfl,⟨e2.trans hx,Zx,f.1⟩,e3⟩
 ·have y0:y=0:=by simpa using hk
  subst y0
  walk_at "vs"
  have e:x=((Int.gcd a b:Nat):Int):=by
   rw[←hx,Int.gcd_zero_right]
   lia
  rw[e]
  exact hq
noncomputable def gI:List CS:=[.iff (.cmp .Eq (.var 1) (.int 0)) [.mj] [],.set 2 (.call 0 [(.var 0),(.var 1)]),.iff (.cmp .Lt (.var 1) (.int 0)) [.set 2 (.neg (.var 2))] [],.ret (.tup [(.bin .FloorDiv (.var 0) (.var 2)),(.bin .FloorDiv (.var 1) (.var 2))])]
noncomputable def dN:bN:=fun ws Q R=>∃(t b:Int) (n:Nat),ws=[.int t,.int b]/\b.natAbs<2^n/\n<=6000/\(b=0->False)/\(b≠0->Q (wq (Rat.divInt t b)))
theorem Bp{G:Nat->W}{m:Md}(ws:List W)(Q:W->Prop)(R:Addr->Prop)(h:dN ws Q R):wSs (b7 [Bo]) G gI (b8 m Q R) (au 3 ws):=by
 obtain⟨t,b,n,rfl,hbn,hn,h0,hq⟩:=h
 show wSs _ _ gI _ [some (.int t),some (.int b),none]
 unfold gI
 walk_at "vs"
 by_cases b0:b=0
 ·rw[Bz (IR b0)]
  exact h0 b0
 rw[Bi (by rw[Ha];exact b0)]
 have hq:=hq b0
 refine⟨t,b,n,rfl,hbn,hn,?_⟩
 obtain⟨f1,f2,f3⟩:=yG t b b0
 have lg:((Int.gcd t b:Nat):Int).natAbs<2^n:=by
  have:((Int.gcd t b:Nat):Int)<=b.natAbs:=dC (by clear f3 f2 f1;lia) (by rw[Int.dvd_natAbs];exact Pi ..)
  lia
 unfold wq at hq
 generalize((Int.gcd t b:Nat):Int)=g at*
 rw[f2,f3]at hq
 by_cases h1:b<0
 ·rw[Bz h1]at f1 hq
  rw[Bz (IR h1)]
  walk_at "vs"
  have ld:=e9 (y:= -g) (by lia) (Dx hn (by decide))
  exact⟨⟨f1,ld⟩,⟨f1,ld⟩,ak (by simp),hq⟩
 ·rw[Bi h1]at f1 hq
  rw[Bi (by rw[Ha];exact h1)]
  have ld:=e9 (y:=g) lg (Dx hn (by decide))
  exact⟨⟨f1,ld⟩,⟨f1,ld⟩,ak (by simp),hq⟩
end VL
namespace Num
theorem Ii{a b c:Int}(h:Int.gcd a b=1)(hd:a∣b*c):a∣c:=by
 have hn:a.natAbs∣b.natAbs*c.natAbs:=by rw[←Fk];exact Int.natAbs_dvd_natAbs.mpr hd
 exact Int.natAbs_dvd_natAbs.mp (Nat.Coprime.dvd_of_dvd_mul_left (show Nat.Coprime a.natAbs b.natAbs from h) hn)
theorem Ij{B d D:Int}(hd:d≠0)(h1:B∣D)(h2:d∣D):B/(Int.gcd B d:Nat)*d∣D:=by
 obtain⟨x,y,hx,hy,hxy,hg⟩:=qA B d hd
 rw[show B/((Int.gcd B d:Nat):Int)=x from Num.ni hx hg]
 obtain⟨u,hu⟩:=h1
 obtain⟨v,hv⟩:=h2
 generalize((Int.gcd B d:Nat):Int)=g at*
 have e:x*u=y*v:=by
  have:g*(x*u)=g*(y*v):=by
   rw[←cx,←cx,←hx,←hy,←hu,←hv]
  exact NM (by lia) this
 obtain⟨w,hw⟩:y∣u:=Ii (by rw[Int.gcd_comm];exact hxy) ⟨v,e⟩
 refine⟨w,?_⟩
 rw[hu,hx,hw,hy]
 grind
theorem wk{ns ms:List Int}(h:iA ns ms)(k:Nat):ms.getD k 0=ns.getD k 0:=by
 obtain⟨j,j1,rfl,j2,_⟩:=h
 by_cases hk:k<j
 ·rw[AC,List.getElem?_take_of_lt hk,←AC]
 ·rw[outI (by rw[SC];lia)]
  by_cases hk2:k<ns.length
  ·exact(j2 k (by lia) hk2).symm
  ·exact(outI (by lia)).symm
theorem rZ{ns ms:List Int}(h:iA ns ms):ms.length<=ns.length:=by
 obtain⟨j,j1,rfl,_⟩:=h
 rw[SC]
 lia
theorem Ik{l:Int}{M i:Nat}(h:l.natAbs<2^M):(l^i).natAbs<=2^(M*i):=by
 rw[Int.natAbs_pow,dt]
 exact Qr (Yf h) _
theorem LA{x y n m:Nat}(h1:x<2^n)(h2:y<=2^m):x*y<2^(n+m):=by
 rw[du]
 exact Gc (DL _ h2) (Nat.mul_lt_mul_of_pos_right h1 (Os (by decide)))
end Num
namespace L2
open PySem
theorem uM{r:Nat}:Builtin.Range.rangeSize ((r:Int) -1) (-1) (-1)=(r:Int):=by
 unfold Builtin.Range.rangeSize
 rw[Bi (by decide)]
 split
 ·show((r:Int) -1 - -1 -1)/1+1=_
  lia
 ·lia
theorem Bq{r:Nat}(h:r<=1000):Builtin.Range.small ((r:Int) -1) (-1) (-1)=true:=by
 unfold Builtin.Range.small
 rw[uM]
 have f:∀x:Int,-2000<=x->x<=2000->Builtin.Range.rangeFitsLong x=true:=fun x h1 h2=>by
  unfold Builtin.Range.rangeFitsLong
  simp
  lia
 rw[f _ (by lia) (by lia),f _ (by lia) (by lia),f _ (by lia) (by lia),Bi (by decide),f (-1+(-1+1)) (by decide) (by decide)]
 simp
end L2
namespace Sub
abbrev Ix:=Bool×Nat
abbrev Vc:=Ix->Int
noncomputable def ex(D:List Vc->Int)(r:Ix):List Vc->List Vc->Int
 |_,[]=>0
 |pre,c::post=>c r*D (pre++post) -ex D r (pre++[c]) post
noncomputable def det:List Ix->List Vc->Int
 |[],[]=>1
 |[],_::_=>0
 |r::rs,cs=>ex (det rs) r [] cs
noncomputable def Alt(D:List Vc->Int):Prop:=∀(p q:List Vc) (a b:Vc),D (p++a::b::q)= -D (p++b::a::q)
noncomputable def E5(D:List Vc->Int):Prop:=∀(p q:List Vc) (x y:Int) (a b:Vc),D (p++(fun i=>x*a i+y*b i)::q)=x*D (p++a::q)+y*D (p++b::q)
theorem CY{D:List Vc->Int}(h:Alt D)(r:Ix):∀(post p q:List Vc) (a b:Vc),ex D r (p++a::b::q) post= -ex D r (p++b::a::q) post
 |[],_,_,_,_=>rfl
 |c::post,p,q,a,b=>by
  have ih:=CY h r post p (q++[c]) a b
  have e:=h p (q++post) a b
  simp only[ex,Kb,List.cons_append]at ih e⊢
  rw[e,ih]
  grind
theorem CZ{D:List Vc->Int}(h:Alt D)(r:Ix):∀(p pre q:List Vc) (a b:Vc),ex D r pre (p++a::b::q)= -ex D r pre (p++b::a::q)
 |[],pre,q,a,b=>by
  have e:=CY h r q pre [] a b
  simp only[ex,List.nil_append,Kb,List.cons_append]at e⊢
  rw[e]
  grind
 |c::p,pre,q,a,b=>by
  have ih:=CZ h r p (pre++[c]) q a b
  have e:=h (pre++p) q a b
  simp only[ex,List.cons_append,Kb]at ih e⊢
  rw[e,ih]
  grind
theorem cU:∀rs:List Ix,Alt (det rs)
 |[]=>fun p q a b=>by
  cases p<;>rfl
 |r::rs=>fun p q a b=>CZ (cU rs) r p [] q a b
theorem C0{D:List Vc->Int}(h:E5 D)(r:Ix):∀(post p q:List Vc) (x y:Int) (a b:Vc),ex D r (p++(fun i=>x*a i+y*b i)::q) post=x*ex D r (p++a::q) post+y*ex D r (p++b::q) post
 |[],_,_,_,_,_,_=>by simp[ex]
 |c::post,p,q,x,y,a,b=>by
  have ih:=C0 h r post p (q++[c]) x y a b
  have e:=h p (q++post) x y a b
  simp only[ex,Kb,List.cons_append]at ih e⊢
  rw[e,ih]
  grind
theorem C3{D:List Vc->Int}(h:E5 D)(r:Ix):∀(p pre q:List Vc) (x y:Int) (a b:Vc),ex D r pre (p++(fun i=>x*a i+y*b i)::q)=x*ex D r pre (p++a::q)+y*ex D r pre (p++b::q)
 |[],pre,q,x,y,a,b=>by
  have e:=C0 h r q pre [] x y a b
  simp only[ex,List.nil_append]at e⊢
  rw[e]
  grind
 |c::p,pre,q,x,y,a,b=>by
  have ih:=C3 h r p (pre++[c]) q x y a b
  have e:=h (pre++p) q x y a b
  simp only[ex,List.cons_append,Kb]at ih e⊢
  rw[e,ih]
  grind
theorem gm:∀rs:List Ix,E5 (det rs)
 |[]=>fun p q x y a b=>by
  cases p<;>simp[det]
 |r::rs=>fun p q x y a b=>C3 (gm rs) r p [] q x y a b
theorem C4{D:List Vc->Int}{r:Ix}:∀(post pre:List Vc),(∀c∈post,c r=0)->ex D r pre post=0
 |[],_,_=>rfl
 |c::post,pre,h=>by
  rw[ex,h c FK,C4 post _ fun d hd=>h d (Ee _ hd)]
  simp
theorem uN{r:Ix}{rs:List Ix}{c:Vc}{cs:List Vc}(h:∀d∈cs,d r=0):det (r::rs) (c::cs)=c r*det rs cs:=by
 rw[det,ex,C4 cs _ h,List.nil_append,Int.sub_zero]
theorem yP{D:List Vc->Int}(h:Alt D):∀(u p v:List Vc) (a:Vc),D (p++a::(u++a::v))=0
 |[],p,v,a=>by
  have:=h p v a a
  simp only[List.nil_append]at this⊢
  lia
 |c::u,p,v,a=>by
  have e:=h p (u++a::v) a c
  have ih:=yP h u (p++[c]) v a
  simp only[Kb,List.cons_append,List.nil_append]at ih e⊢
  rw[e,ih]
  rfl
theorem C5{D:List Vc->Int}(h:Alt D)(hl:E5 D){p q:List Vc}{a b:Vc}(x y:Int)(hb:b∈q):D (p++(fun i=>x*a i+y*b i)::q)=x*D (p++a::q):=by
 obtain⟨u,v,rfl⟩:=List.append_of_mem hb
 rw[hl,yP h u p v b,Kt,UF]
noncomputable def sg(n:Nat):Int:=(-1)^n
theorem jW{D:List Vc->Int}(h:Alt D):∀(u p q:List Vc) (a:Vc),D (p++a::(u++q))=sg u.length*D (p++(u++a::q))
 |[],p,q,a=>by simp[sg]
 |c::u,p,q,a=>by
  have e:=h p (u++q) a c
  have ih:=jW h u (p++[c]) q a
  simp only[Kb,List.cons_append,List.nil_append,List.length_cons]at ih e⊢
  rw[e,ih]
  unfold sg
  rw[Iy]
  grind
theorem fK{D:List Vc->Int}(h:Alt D):∀(w p u q:List Vc),D (p++(w++(u++q)))=sg (u.length*w.length)*D (p++(u++(w++q)))
 |[],p,u,q=>by simp[sg]
 |a::w,p,u,q=>by
  have ih:=fK h w (p++[a]) u q
  have e:=jW h u p (w++q) a
  simp only[Kb,List.cons_append,List.nil_append,List.length_cons]at ih e⊢
  rw[ih,e]
  unfold sg
  rw[Nat.mul_succ,cq]
  grind
noncomputable def sh(j:Nat)(P:Vc):Vc:=fun i=>if j<=i.2 then P (i.1,i.2 -j)else 0
noncomputable def bU(P:Vc):Nat->List Vc
 |0=>[]
 |n+1=>sh n P::bU P n
noncomputable def rws:Nat->Nat->List Ix
 |_,0=>[]
 |0,_+1=>[]
 |E+1,c+1=>(false,E)::rws E c
theorem r6(E:Nat):rws E 0=[]:=by cases E<;>rfl
theorem LB(P:Vc):sh 0 P=P:=by
 funext i
 unfold sh
 rw[Bz (KM _)]
 rfl
theorem Na(j s:Nat)(P:Vc):sh j (sh s P)=sh (s+j) P:=by
 funext i
 unfold sh
 by_cases h:j<=i.2
 ·rw[Bz h]
  by_cases h2:s+j<=i.2
  ·rw[Bz h2,Bz (by show s<=i.2 -j;lia)]
   show P (i.1,i.2 -j -s)=P (i.1,i.2 -(s+j))
   congr 2
   lia
  ·rw[Bi h2,Bi (by show¬s<=i.2 -j;lia)]
 ·rw[Bi h,Bi (by lia)]
theorem dH(P:Vc):∀n,(bU P n).length=n
 |0=>rfl
 |n+1=>by rw[bU,List.length_cons,dH P n]
theorem wm{P:Vc}:∀{n i:Nat},i<n->sh i P∈bU P n
 |n+1,i,h=>by
  rw[bU]
  by_cases e:i=n
  ·rw[e]
   exact FK
  ·exact Ee _ (wm (by lia))
theorem mL{P:Vc}:∀{n:Nat} {d:Vc},d∈bU P n->∃i,i<n/\d=sh i P
 |n+1,d,h=>by
  rw[bU]at h
  rcases FV.mp h with h|h
  ·exact⟨n,by lia,h⟩
  ·obtain⟨i,hi,e⟩:=mL h
   exact⟨i,by lia,e⟩
theorem Br{B:Vc}{n:Nat}{l:Int}(hl:B (false,n)=l)(hz:∀t,n<t->B (false,t)=0){cs:List Vc}{b c:Nat}{tl:List Ix}(hc:∀d∈cs,∀t,n+b<=t->d (false,t)=0):
 ∀s,det (rws (n+b+s) (c+s)++tl) (bU B (b+s)++cs)=l^s*det (rws (n+b) c++tl) (bU B b++cs)
 |0=>by simp
 |s+1=>by
  show det ((false,n+b+s)::(rws (n+b+s) (c+s)++tl)) (sh (b+s) B::(bU B (b+s)++cs))=_
  rw[uN,Br hl hz hc s]
  ·have e:sh (b+s) B (false,n+b+s)=l:=by
    unfold sh
    rw[Bz (by show b+s<=n+b+s;lia),←hl]
    show B (false,n+b+s -(b+s))=_
    congr 2
    lia
   rw[e,Iy]
   grind
  ·intro d hd
   rcases Hb.mp hd with h|h
   ·obtain⟨i,hi,rfl⟩:=mL h
    unfold sh
    split
    ·exact hz _ (by show n<n+b+s -i;lia)
    ·rfl
   ·exact hc d h _ (by lia)
noncomputable def comb(c:Int)(a:Vc):List (Int×Vc)->Vc
 |[]=>fun i=>c*a i+0*a i
 |z::L=>fun i=>1*comb c a L i+z.1*z.2 i
theorem yQ{D:List Vc->Int}(h:Alt D)(hl:E5 D){p q:List Vc}{c:Int}{a:Vc}:∀{L:List (Int×Vc)},(∀z∈L,z.2∈q)->D (p++comb c a L::q)=c*D (p++a::q)
 |[],_=>by
  rw[comb,hl]
  grind
 |z::L,hm=>by
  rw[comb,C5 h hl _ _ (hm z FK),yQ h hl fun y hy=>hm y (Ee _ hy),RF]
theorem C6(j:Nat)(c:Int)(a:Vc):∀L:List (Int×Vc),sh j (comb c a L)=comb c (sh j a) (L.map fun z=>(z.1,sh j z.2))
 |[]=>by
  funext i
  show sh j (comb c a []) i=c*sh j a i+0*sh j a i
  unfold sh comb
  split<;>simp
 |z::L=>by
  funext i
  have ih:=congrFun (C6 j c a L) i
  show sh j (comb c a (z::L)) i=1*comb c (sh j a) (L.map fun z=>(z.1,sh j z.2)) i+z.1*sh j z.2 i
  rw[←ih]
  unfold sh
  split
  ·rfl
  ·simp
theorem ny{D:List Vc->Int}(h:Alt D)(hl:E5 D){q:List Vc}{c:Int}{A:Vc}{L:List (Int×Vc)}:∀(a:Nat) (p:List Vc),(∀z∈L,∀j,j<a->sh j z.2∈q)->D (p++(bU (comb c A L) a++q))=c^a*D (p++(bU A a++q))
 |0,p,_=>by simp[bU]
 |a+1,p,hm=>by
  have ih:=ny h hl (c:=c) (A:=A) a (p++[sh a A]) fun z hz j hj=>hm z hz j (by lia)
  rw[bU,bU,List.cons_append,C6,yQ h hl (fun z hz=>?_)]
  ·simp only[Kb,List.cons_append,List.nil_append]at ih⊢
   rw[ih,Iy]
   grind
  ·obtain⟨y,hy,rfl⟩:=Kx.mp hz
   exact Fn _ (hm y hy a (by lia))
noncomputable def SS(E:Nat)(A B:Vc)(a b:Nat)(ρ:Ix):Int:=det (rws E (a+b -1)++[ρ]) (bU A a++bU B b)
noncomputable def less(c:Int)(A B:Vc)(L:List (Int×Nat)):Vc:=comb c A (L.map fun z=>(z.1,sh z.2 B))
theorem wu{E:Nat}{A B:Vc}{c:Int}{L:List (Int×Nat)}{a b:Nat}(h:∀z∈L,z.2+a<=b)(ρ:Ix):SS E (less c A B L) B a b ρ=c^a*SS E A B a b ρ:=by
 unfold SS less
 have e:=ny (cU (rws E (a+b -1)++[ρ])) (gm _) (q:=bU B b) (c:=c) (A:=A) (L:=L.map fun z=>(z.1,sh z.2 B)) a [] fun z hz j hj=>by
  obtain⟨y,hy,rfl⟩:=Kx.mp hz
  rw[Na]
  have:=h y hy
  exact wm (by lia)
 simp only[List.nil_append]at e
 exact e
theorem yR{E:Nat}{B R P:Vc}{c:Int}(h:∀i,R i=c*P i)(b a:Nat)(ρ:Ix):SS E B R b a ρ=c^a*SS E B P b a ρ:=by
 have eR:R=comb c P []:=funext fun i=>by rw[h i];show _=c*P i+0*P i;simp
 unfold SS
 have e:=ny (cU (rws E (b+a -1)++[ρ])) (gm _) (q:=[]) (c:=c) (A:=P) (L:=[]) a (bU B b) fun z hz=>nomatch hz
 simp only[KF]at e
 rw[eR,e]
theorem wz{B R:Vc}{n:Nat}{l:Int}(hl:B (false,n)=l)(hz:∀t,n<t->B (false,t)=0){z a b s:Nat}(hR:∀t,z<=t->R (false,t)=0)(ha:1<=a)(hb:z+a<=n+b+1)(ρ:Ix):
 SS (n+b+s) R B a (b+s) ρ=sg ((b+s)*a)*(l^s*SS (n+b) B R b a ρ):=by
 unfold SS
 have e:=fK (cU (rws (n+b+s) (a+(b+s) -1)++[ρ])) (bU R a) [] (bU B (b+s)) []
 simp only[List.nil_append,KF,dH]at e
 rw[e]
 congr 1
 rw[show a+(b+s) -1=b+a -1+s by lia]
 refine Br hl hz (fun d hd t ht=>?_) s
 obtain⟨i,hi,rfl⟩:=mL hd
 unfold sh
 split
 ·exact hR _ (by show z<=t -i;lia)
 ·rfl
theorem Il(E:Nat)(B R:Vc)(ρ:Ix):SS E B R 0 1 ρ=R ρ:=by
 unfold SS
 show det (rws E 0++[ρ]) (sh 0 R::[])=_
 rw[r6,List.nil_append,LB,uN (cs:=[]) (by intro d hd;cases hd)]
 show R ρ*1=R ρ
 rw[ag]
theorem C7{A B:Vc}{n:Nat}{l:Int}(hl:B (false,n)=l)(hz:∀t,n<t->B (false,t)=0)(s:Nat)(ρ:Ix):SS (n+1+s) A B 0 (1+s) ρ=l^s*B ρ:=by
 unfold SS
 rw[show 0+(1+s) -1=0+s by lia]
 have e:=Br hl hz (cs:=[]) (b:=1) (c:=0) (tl:=[ρ]) (fun d hd=>nomatch hd) s
 simp only[KF]at e
 show det (rws (n+1+s) (0+s)++[ρ]) ([]++bU B (1+s))=_
 rw[List.nil_append,e]
 congr 1
 exact Il (n+1) A B ρ
noncomputable def C8(ε:Int):Prop:=ε=1\/ε= -1
theorem C8.sq{ε:Int}(h:C8 ε):ε*ε=1:=by
 rcases h with rfl|rfl<;>rfl
theorem C8.mul{a b:Int}(h:C8 a)(h2:C8 b):C8 (a*b):=by
 rcases h with rfl|rfl<;>rcases h2 with rfl|rfl<;>first|exact .inl rfl|exact .inr rfl
theorem ji:∀n,C8 (sg n)
 |0=>.inl rfl
 |n+1=>by
  have:=ji n
  unfold sg at this⊢
  rw[Iy]
  exact this.mul (.inr rfl)
theorem aQ{x:Int}(h:x≠0):∀n:Nat,x^n≠0
 |0=>by rw[OF];decide
 |n+1=>by rw[Iy];exact Fh (aQ h n) h
theorem Bs(x y:Int):∀n:Nat,(x*y)^n=x^n*y^n
 |0=>by rw[OF,OF,OF];rfl
 |n+1=>by
  rw[Iy,Iy,Iy,Bs x y n]
  generalize x^n=a
  generalize y^n=b
  grind
theorem Bt(x:Int)(m:Nat):∀n:Nat,(x^m)^n=x^(m*n)
 |0=>by rw[Nat.mul_zero,OF,OF]
 |n+1=>by rw[Iy,Bt x m n,Nat.mul_succ,cq]
theorem Bu{l h h':Int}{δ:Nat}(e:h'*h^δ=l^δ*h):∀a:Nat,(l^(δ+1))^(a+1)*h^(δ+a)=l^(δ+(a+1))*h^(δ*(a+1))*h'^a
 |0=>by
  rw[Nat.zero_add,Int.pow_one,OF,ag,Nat.mul_one]
  simp
 |a+1=>by
  have ih:=Bu e a
  have e1:(l^(δ+1))^(a+1+1)*h^(δ+(a+1))=((l^(δ+1))^(a+1)*h^(δ+a))*(l*(l^δ*h)):=by
   rw[Iy (l^(δ+1)) (a+1),←Nat.add_assoc δ a 1,Iy h (δ+a),Iy l δ]
   generalize(l^δ*l)^(a+1)=x
   generalize h^(δ+a)=y
   generalize l^δ=z
   grind
  have e2:l^(δ+(a+1+1))*h^(δ*(a+1+1))*h'^(a+1)=(l^(δ+(a+1))*h^(δ*(a+1))*h'^a)*(l*(h'*h^δ)):=by
   rw[←Nat.add_assoc δ (a+1) 1,Iy l (δ+(a+1)),Nat.mul_succ δ (a+1),cq h (δ*(a+1)) δ,Iy h' a]
   generalize l^(δ+(a+1))=x
   generalize h^(δ*(a+1))=y
   generalize h^δ=z
   generalize h'^a=u
   grind
  rw[e1,e2,ih,e]
structure Ch(A B:Vc)(m n:Nat)(P Q:Vc)(p q:Nat)(lp lq h:Int):Prop where
 hpq:q<=p
 QZ:lp≠0
 h0:h≠0
 uO:lq≠0
 lead:Q (false,q)=lq
 zero:∀t,q<t->Q (false,t)=0
 inv:∀k,k<=q->k<p->∃ε:Int,C8 ε/\∀ρ,SS (p+q -k) P Q (q -k) (p -k) ρ=ε*(lp^(q -k)*h^(p -k -1))*SS (m+n -k) A B (n -k) (m -k) ρ
theorem Ch.start{A B:Vc}{m n:Nat}{l:Int}(h:n<=m)(hl:B (false,n)=l)(l0:l≠0)(hz:∀t,n<t->B (false,t)=0):Ch A B m n A B m n 1 l 1:=
 ⟨h,by decide,by decide,l0,hl,hz,fun k _ _=>⟨1,.inl rfl,fun ρ=>by rw[Int.one_pow,Int.one_pow];simp⟩⟩
theorem Ch.rest{A B P Q:Vc}{m n p q:Nat}{lp lq h:Int}(H:Ch A B m n P Q p q lp lq h)(hq:1<=q){L:List (Int×Nat)}(hL:∀z∈L,z.2<=p -q)(hR:∀t,q<=t->less (lq^(p -q+1)) P Q L (false,t)=0):
 ∃ε:Int,C8 ε/\∀ρ,less (lq^(p -q+1)) P Q L ρ=ε*(lp*h^(p -q))*SS (m+n -(q -1)) A B (n -(q -1)) (m -(q -1)) ρ:=by
 have hpq:=H.hpq
 obtain⟨ε,Q0,inv⟩:=H.inv (q -1) (by lia) (by lia)
 refine⟨sg (p -q+1)*ε,(ji _).mul Q0,fun ρ=>?_⟩
 have e0:=inv ρ
 rw[show p+q -(q -1)=q+0+(p -q+1) by lia,show q -(q -1)=1 by lia,show p -(q -1)=0+(p -q+1) by lia,show 0+(p -q+1) -1=p -q by lia,Int.pow_one]at e0
 have e1:=wu (E:=q+0+(p -q+1)) (A:=P) (B:=Q) (c:=lq^(p -q+1)) (L:=L) (a:=1) (b:=0+(p -q+1)) (fun z hz=>by have:=hL z hz;lia) ρ
 have e2:=wz H.lead H.zero (z:=q) (a:=1) (b:=0) (s:=p -q+1) hR (Do _) (by lia) ρ
 rw[e1,Il,Int.pow_one,show(0+(p -q+1))*1=p -q+1 by lia,e0]at e2
 have c0:=aQ H.uO (p -q+1)
 have s2:=(ji (p -q+1)).sq
 generalize lq^(p -q+1)=c at*
 generalize less c P Q L ρ=R at*
 generalize sg (p -q+1)=s at*
 generalize h^(p -q)=hh at*
 generalize SS (m+n -(q -1)) A B (n -(q -1)) (m -(q -1)) ρ=S at*
 have e3:c*R=c*(s*ε*(lp*hh)*S):=by
  have:c*(s*ε*(lp*hh)*S)=s*(c*(ε*(lp*hh)*S)):=by grind
  rw[this,e2]
  have:s*(s*(c*R))=s*s*(c*R):=by grind
  rw[this,s2,RF]
 exact NM c0 e3
theorem Ch.step{A B P Q Q':Vc}{m n p q r:Nat}{lp lq lr h h':Int}(H:Ch A B m n P Q p q lp lq h){L:List (Int×Nat)}(hL:∀z∈L,z.2<=p -q)(hQ:∀ρ,less (lq^(p -q+1)) P Q L ρ=(lp*h^(p -q))*Q' ρ)(hr:r<q)(hl:Q' (false,r)=lr)(l0:lr≠0)(hz:∀t,r<t->Q' (false,t)=0)
 (hh:h'*h^(p -q)=lq^(p -q)*h):Ch A B m n Q Q' q r lq lr h':=by
 have hpq:=H.hpq
 have h'0:h'≠0:=fun z=>by
  rw[z,U2]at hh
  exact Fh (aQ H.uO _) H.h0 hh.symm
 refine⟨by lia,H.uO,h'0,l0,hl,hz,fun k hk1 hk2=>?_⟩
 obtain⟨ε,Q0,inv⟩:=H.inv k (by lia) (by lia)
 refine⟨sg ((p -k)*(q -k))*ε,(ji _).mul Q0,fun ρ=>?_⟩
 have e0:=inv ρ
 have e1:=wu (E:=p+q -k) (A:=P) (B:=Q) (c:=lq^(p -q+1)) (L:=L) (a:=q -k) (b:=p -k) (fun z hz=>by have:=hL z hz;lia) ρ
 have e2:=wz (R:=less (lq^(p -q+1)) P Q L) H.lead H.zero (z:=r+1) (a:=q -k) (b:=r -k) (s:=p -r) (fun t ht=>by rw[hQ,hz t (by lia),Kt]) (by lia) (by lia) ρ
 rw[yR hQ,show q+(r -k)+(p -r)=p+q -k by lia,show r -k+(p -r)=p -k by lia,e1,e0,show q+(r -k)=q+r -k by lia]at e2
 have pid:=Bu hh (q -k -1)
 have s2:=(ji ((p -k)*(q -k))).sq
 have ck:(lp*h^(p -q))^(q -k)=lp^(q -k)*h^((p -q)*(q -k)):=by rw[Bs,Bt]
 have u0:lq^(p -r)*(lp*h^(p -q))^(q -k)≠0:=Fh (aQ H.uO _) (aQ (Fh H.QZ (aQ H.h0 _)) _)
 refine NM u0 ?_
 rw[show q -k -1+1=q -k by lia,show p -q+(q -k -1)=p -k -1 by lia,show p -q+(q -k)=(p -r)+(r -k) by lia,cq lq (p -r) (r -k)]at pid
 rw[ck]at e2⊢
 generalize SS (q+r -k) Q Q' (r -k) (q -k) ρ=X at*
 generalize SS (m+n -k) A B (n -k) (m -k) ρ=S at*
 generalize sg ((p -k)*(q -k))=s at*
 generalize(lq^(p -q+1))^(q -k)=c at*
 generalize lp^(q -k)=u at*
 generalize h^(p -k -1)=v at*
 generalize lq^(p -r)=x at*
 generalize h^((p -q)*(q -k))=y at*
 generalize lq^(r -k)=z at*
 generalize h'^(q -k -1)=w at*
 have e3:x*(u*y)*X=s*s*(x*(u*y)*X):=by rw[s2,RF]
 have e4:s*s*(x*(u*y)*X)=s*(s*(x*(u*y*X))):=by grind
 rw[e3,e4,←e2]
 have e5:s*(c*(ε*(u*v)*S))=s*ε*u*S*(c*v):=by grind
 rw[e5,pid]
 grind
end Sub
namespace Sub
open Num
theorem Nb{D:List Vc->Int}{r:Ix}{M b:Nat}:∀(post pre:List Vc),(∀c∈post,(c r).natAbs<=M)->(∀u,(∀c∈u,c∈pre\/c∈post)->u.length+1=pre.length+post.length->(D u).natAbs<=b)->(ex D r pre post).natAbs<=post.length*(M*b)
 |[],_,_,_=>by simp[ex]
 |c::post,pre,h,hD=>by
  rw[ex]
  have h1:=h c FK
  have h2:=hD (pre++post) (fun d hd=>by
   rcases Hb.mp hd with z|z
   ·exact .inl z
   ·exact .inr (Ee _ z)) (by simp only[FC,List.length_cons];lia)
  have ih:=Nb (D:=D) (r:=r) (M:=M) (b:=b) post (pre++[c]) (fun d hd=>h d (Ee _ hd)) (fun u hu hl=>hD u (fun d hd=>by
   rcases hu d hd with z|z
   ·rcases Hb.mp z with y|y
    ·exact .inl y
    ·rw[Fm]at y
     rw[y]
     exact .inr FK
   ·exact .inr (Ee _ z)) (by simp only[FC,List.length_cons,List.length_nil]at hl⊢;lia))
  have h3:(c r*D (pre++post)).natAbs<=M*b:=by
   rw[Fk]
   exact Jn h1 h2
  have h4:(c r*D (pre++post) -ex D r (pre++[c]) post).natAbs<=(c r*D (pre++post)).natAbs+(ex D r (pre++[c]) post).natAbs:=by omega
  have h5:(c::post).length*(M*b)=post.length*(M*b)+M*b:=by rw[List.length_cons,Nat.succ_mul]
  omega
theorem Im{N M:Nat}:∀(rs:List Ix) (cs:List Vc),cs.length<=N->(∀c∈cs,∀i,(c i).natAbs<=M)->(det rs cs).natAbs<=(N*M)^rs.length
 |[],[],_,_=>by simp[det]
 |[],_::_,_,_=>by simp[det]
 |r::rs,cs,hl,hM=>by
  rw[det]
  have:=Nb (D:=det rs) (r:=r) (M:=M) (b:=(N*M)^rs.length) cs [] (fun c hc=>hM c hc r) (fun u hu hul=>Im rs u (by simp only[List.length_nil]at hul;lia) fun c hc=>by
   rcases hu c hc with z|z
   ·cases z
   ·exact hM c z)
  refine Dx this ?_
  rw[List.length_cons,Nat.pow_succ]
  have h2:cs.length*(M*(N*M)^rs.length)<=N*(M*(N*M)^rs.length):=Ya _ hl
  have h3:N*(M*(N*M)^rs.length)=(N*M)^rs.length*(N*M):=by
   generalize(N*M)^rs.length=x
   grind
  lia
theorem C9:∀(c E:Nat),(rws E c).length<=c
 |0,E=>by rw[r6];exact Do _
 |c+1,0=>KM _
 |c+1,E+1=>by
  show(rws E c).length+1<=c+1
  have:=C9 c E
  lia
theorem Nc{P:Vc}{M:Nat}(h:∀i,(P i).natAbs<=M)(j:Nat)(i:Ix):(sh j P i).natAbs<=M:=by
 unfold sh
 split
 ·exact h _
 ·exact KM _
theorem Vd{A B:Vc}{N M a b:Nat}(hA:∀i,(A i).natAbs<=M)(hB:∀i,(B i).natAbs<=M)(hN:a+b<=N)(h1:1<=a+b)(hW:1<=N*M)(E:Nat)(ρ:Ix):(SS E A B a b ρ).natAbs<=(N*M)^(a+b):=by
 unfold SS
 have:=Im (N:=N) (M:=M) (rws E (a+b -1)++[ρ]) (bU A a++bU B b) (by rw[FC,dH,dH];exact hN) (fun c hc i=>by
  rcases Hb.mp hc with h|h
  ·obtain⟨j,_,rfl⟩:=mL h
   exact Nc hA j i
  ·obtain⟨j,_,rfl⟩:=mL h
   exact Nc hB j i)
 refine Dx this (GT hW ?_)
 have:=C9 (a+b -1) E
 rw[FC]
 show _+1<=_
 omega
theorem C8.abs{ε x:Int}(h:C8 ε):(ε*x).natAbs=x.natAbs:=by
 rcases h with rfl|rfl<;>lia
theorem Ch.Dc{A B P Q:Vc}{m n p q:Nat}{lp lq h:Int}(H:Ch A B m n P Q p q lp lq h)(hq:q<p):∃S:Int,lq^(p -q)=h^(p -q -1)*S/\S.natAbs=(SS (m+n -q) A B (n -q) (m -q) (false,q)).natAbs:=by
 obtain⟨ε,Q0,inv⟩:=H.inv q (Do _) hq
 obtain⟨d,hd⟩:∃d,p=q+1+d:=⟨p -q -1,by lia⟩
 have e0:=inv (false,q)
 have e1:=C7 (A:=P) H.lead H.zero d (false,q)
 rw[show p+q -q=q+1+d by lia,show q -q=0 by lia,show p -q=1+d by lia,e1,H.lead,show 1+d -1=d by lia,OF,RF]at e0
 have e2:lq^(p -q)=lq^d*lq:=by
  rw[←Iy]
  congr 1
  lia
 refine⟨ε*SS (m+n -q) A B (n -q) (m -q) (false,q),?_,Q0.abs⟩
 rw[e2,e0,show p -q -1=d by lia]
 generalize SS (m+n -q) A B (n -q) (m -q) (false,q)=S
 generalize h^d=x
 grind
noncomputable def vc(r f:List Int):Vc:=fun i=>if i.1 then f.getD i.2 0 else r.getD i.2 0
noncomputable def r8(Qs:List Int):Nat->List (Int×Nat)
 |0=>[]
 |n+1=>(-(Qs.getD n 0),n)::r8 Qs n
theorem wB{Qs:List Int}:∀{n:Nat} {z:Int×Nat},z∈r8 Qs n->z.2<n
 |n+1,z,h=>by
  rcases FV.mp h with rfl|h
  ·exact QP n
  ·exact Nat.lt_succ_of_lt (wB h)
theorem Dd(c:Int)(A B:Vc)(Qs:List Int)(i:Ix):∀n,less c A B (r8 Qs n) i=c*A i -sm (fun j=>Qs.getD j 0*(if j<=i.2 then B (i.1,i.2 -j)else 0)) n
 |0=>by
  show c*A i+0*A i=c*A i -0
  simp
 |n+1=>by
  have ih:=Dd c A B Qs i n
  show 1*less c A B (r8 Qs n) i+ -(Qs.getD n 0)*sh n B i=_
  rw[ih,sm]
  have e:sh n B i=if n<=i.2 then B (i.1,i.2 -n)else 0:=rfl
  rw[e]
  generalize(if n<=i.2 then B (i.1,i.2 -n)else 0)=x
  generalize sm _ n=y
  generalize Qs.getD n 0=z
  grind
theorem De(c:Int)(P fP Q fQ Qs:List Int)(b:Bool)(t:Nat):less c (vc P fP) (vc Q fQ) (r8 Qs Qs.length) (b,t)=c*(if b then fP else P).getD t 0 -cf Qs (if b then fQ else Q) Qs.length t:=by
 rw[Dd,yH]
 cases b
 ·rfl
 ·rfl
end Sub
namespace Num
theorem LC{f g:Nat->Rat}(h:∀i,1<=i->f i=0)(k:Nat):cS f g k=f 0*g k:=by
 unfold cS
 rw[iS (m:=1) (k+1) (by lia) fun i h1 _=>by rw[h i h1,Rat.zero_mul]]
 show 0+f 0*g (k -0)=_
 rw[Nat.sub_zero,Rat.zero_add]
end Num
namespace Sub
open Num
structure CS(ns ms f0 g0:List Int)(w E b1:Nat)(P Q fP fQ:List Int)(ld h:Int):Prop where
 ch:Ch (vc ns f0) (vc ms g0) (ns.length -1) (ms.length -1) (vc P fP) (vc Q fQ) (P.length -1) (Q.length -1) ld (Q.getD (Q.length -1) 0) h
 lq:0<Q.length
 Bv:Q.length<=P.length
 lp:P.length<=ns.length
 Q2:Q.length<=ms.length
 lf:fP.length+Q.length<=b1
 Q3:fQ=[]\/fQ.length+P.length<=b1
 bP:∀i,(vc P fP i).natAbs<=2^(w*(ns.length -1+(ms.length -1)+1))
 bQ:∀i,(vc Q fQ i).natAbs<=2^(w*(ns.length -1+(ms.length -1)+1))
 bl:ld.natAbs<=2^(w*(ns.length -1+(ms.length -1)+1))
 bh:h.natAbs<=2^(w*(ns.length -1+(ms.length -1) -2*(P.length -1)))
structure FX(ns ms f0 g0:List Int)(w E:Nat):Prop where
 l1:ms.length<=ns.length
 l2:ns.length<=50
 M:∃M:Nat,(∀i,(vc ns f0 i).natAbs<=M)/\(∀i,(vc ms g0 i).natAbs<=M)/\1<=M/\(ns.length -1+(ms.length -1)+1)*M<=2^w
 E1:∀p,(ns.length -1+(ms.length -1) -2*p)*p+(ns.length -1+(ms.length -1)+1)<=E
theorem jj(x:Int):∀n:Nat,(x^n).natAbs=x.natAbs^n
 |0=>by simp
 |n+1=>by rw[Iy,Fk,jj x n,Nat.pow_succ]
theorem Q4{ns ms f0 g0:List Int}{w E:Nat}(F:FX ns ms f0 g0 w E){k:Nat}(h1:k<=ms.length -1)(h2:1<=(ms.length -1 -k)+(ns.length -1 -k))(e:Nat)(ρ:Ix):
 (SS e (vc ns f0) (vc ms g0) (ms.length -1 -k) (ns.length -1 -k) ρ).natAbs<=2^(w*(ns.length -1+(ms.length -1) -2*k)):=by
 obtain⟨M,m1,m2,m3,m4⟩:=F.M
 have l1:=F.l1
 have hW:1<=(ns.length -1+(ms.length -1)+1)*M:=Jn (show 1<=ns.length -1+(ms.length -1)+1 by lia) m3
 have b:=Vd (N:=ns.length -1+(ms.length -1)+1) m1 m2 (by omega) h2 hW e ρ
 refine Dx b ?_
 rw[dt,show ms.length -1 -k+(ns.length -1 -k)=ns.length -1+(ms.length -1) -2*k by omega]
 exact Qr m4 _
theorem getD_mem'{ns:List Int}{k:Nat}(h:k<ns.length):ns.getD k 0∈ns:=by
 rw[AC,BM h]
 exact PP h
theorem mem_getD{ns:List Int}{x:Int}(h:x∈ns):∃k,k<ns.length/\ns.getD k 0=x:=by
 obtain⟨i,hi,e⟩:=List.getElem_of_mem h
 exact⟨i,hi,by rw[AC,BM hi,←e];rfl⟩
theorem map_getD{ns:List Int}{f:Int->Int}(h0:f 0=0)(k:Nat):(ns.map f).getD k 0=f (ns.getD k 0):=by
 rw[AC,FR,AC]
 cases ns[k]? with
 |none=>exact h0.symm
 |some z=>rfl
noncomputable def hnext(h l:Int)(δ:Nat):Int:=if δ=0 then h else(l^δ).fdiv (h^(δ -1))
theorem CS.step{ns ms f0 g0 P Q fP fQ Qs R F:List Int}{w E b1:Nat}{ld h c:Int}(X:FX ns ms f0 g0 w E)(C:CS ns ms f0 g0 w E b1 P Q fP fQ ld h)(hq:2<=Q.length)(hc:c=Q.getD (Q.length -1) 0^(P.length -Q.length+1))(E6:Qs.length=P.length -Q.length+1)
 (hR:∀k,R.getD k 0=c*P.getD k 0 -cf Qs Q Qs.length k) (lR:R.length<Q.length) (zR:R=[]\/R.getD (R.length -1) 0≠0) (hF:∀k,F.getD k 0=c*fP.getD k 0 -cf Qs fQ Qs.length k) (lF:F.length<=max fP.length (Qs.length+fQ.length -1)) (JE:fQ=[]->F.length<=fP.length):
 ld*h^(P.length -Q.length)≠0/\(ld*h^(P.length -Q.length)).natAbs<=2^(w*E)/\(∀x∈R,ld*h^(P.length -Q.length)∣x)/\(∀x∈F,ld*h^(P.length -Q.length)∣x)/\(0<P.length -Q.length->h^(P.length -Q.length -1)≠0/\(h^(P.length -Q.length -1)).natAbs<=2^(w*E))/\
 (∀ρ,(vc (R.map fun x=>x.fdiv (ld*h^(P.length -Q.length))) (F.map fun x=>x.fdiv (ld*h^(P.length -Q.length))) ρ).natAbs<=2^(w*(ns.length -1+(ms.length -1)+1)))/\
 (R≠[]->CS ns ms f0 g0 w E b1 Q (R.map fun x=>x.fdiv (ld*h^(P.length -Q.length))) fQ (F.map fun x=>x.fdiv (ld*h^(P.length -Q.length))) (Q.getD (Q.length -1) 0) (hnext h (Q.getD (Q.length -1) 0) (P.length -Q.length))):=by
 have ch:=C.ch
 have Bv:=C.Bv
 have lp:=C.lp
 have l1:=X.l1
 have lf:=C.lf
 have Q2:=C.Q2
 obtain⟨δ,Ve⟩:∃δ,P.length -Q.length=δ:=⟨_,rfl⟩
 have hpq:P.length -1 -(Q.length -1)=δ:=by lia
 have hL:∀z∈r8 Qs Qs.length,z.2<=P.length -1 -(Q.length -1):=fun z hz=>by
  have:=wB hz
  lia
 have eL:∀(b:Bool) (t:Nat),less c (vc P fP) (vc Q fQ) (r8 Qs Qs.length) (b,t)=(if b then F else R).getD t 0:=fun b t=>by
  rw[De]
  cases b
  ·exact(hR t).symm
  ·exact(hF t).symm
 have uO:=ch.uO
 generalize Zy:Q.getD (Q.length -1) 0=lq at*
 have hc2:lq^(P.length -1 -(Q.length -1)+1)=c:=by rw[hc,hpq,Ve]
 have V5:ld*h^δ≠0:=Fh ch.QZ (aQ ch.h0 _)
 obtain⟨ε,Q0,rest⟩:=ch.rest (L:=r8 Qs Qs.length) (by lia) hL (fun t ht=>by
  rw[hc2,eL]
  exact outI (by show R.length<=t;lia))
 rw[hc2,hpq]at rest
 have bk:(ld*h^δ).natAbs<=2^(w*E):=by
  rw[Fk,jj]
  have e1:=X.E1 (P.length -1)
  have h1:h.natAbs^δ<=2^(w*(ns.length -1+(ms.length -1) -2*(P.length -1))*δ):=by
   rw[dt]
   exact Qr C.bh δ
  refine Dx (Jn C.bl h1) ?_
  rw[←du]
  refine GT (by decide) ?_
  rw[Nat.mul_assoc,←Nat.mul_add]
  refine DL _ ?_
  have:(ns.length -1+(ms.length -1) -2*(P.length -1))*δ<=(ns.length -1+(ms.length -1) -2*(P.length -1))*(P.length -1):=DL _ (by lia)
  lia
 have dv:∀(b:Bool) (t:Nat),(ld*h^δ)∣(if b then F else R).getD t 0:=fun b t=>by
  rw[←eL,rest]
  exact⟨ε*SS (ns.length -1+(ms.length -1) -(Q.length -1 -1)) (vc ns f0) (vc ms g0) (ms.length -1 -(Q.length -1 -1)) (ns.length -1 -(Q.length -1 -1)) (b,t),by grind⟩
 have dR:∀x∈R,ld*h^δ∣x:=fun x hx=>by
  obtain⟨k,_,rfl⟩:=mem_getD hx
  exact dv false k
 have dF:∀x∈F,ld*h^δ∣x:=fun x hx=>by
  obtain⟨k,_,rfl⟩:=mem_getD hx
  exact dv true k
 have fd:∀(b:Bool) (t:Nat),((if b then F else R).map fun x=>x.fdiv (ld*h^δ)).getD t 0*(ld*h^δ)=(if b then F else R).getD t 0:=fun b t=>by
  rw[map_getD (f:=fun x=>x.fdiv (ld*h^δ)) (Int.zero_fdiv _),SF (dv b t),Int.ediv_mul_cancel (dv b t)]
 have vq:∀ρ,vc (R.map fun x=>x.fdiv (ld*h^δ)) (F.map fun x=>x.fdiv (ld*h^δ)) ρ*(ld*h^δ)=less c (vc P fP) (vc Q fQ) (r8 Qs Qs.length) ρ:=fun ρ=>by
  obtain⟨b,t⟩:=ρ
  rw[eL,←fd b t]
  cases b<;>rfl
 have vS:∀ρ,(vc (R.map fun x=>x.fdiv (ld*h^δ)) (F.map fun x=>x.fdiv (ld*h^δ)) ρ).natAbs<=2^(w*(ns.length -1+(ms.length -1)+1)):=fun ρ=>by
  have e1:=vq ρ
  rw[rest]at e1
  have e2:vc (R.map fun x=>x.fdiv (ld*h^δ)) (F.map fun x=>x.fdiv (ld*h^δ)) ρ=ε*SS (ns.length -1+(ms.length -1) -(Q.length -1 -1)) (vc ns f0) (vc ms g0) (ms.length -1 -(Q.length -1 -1)) (ns.length -1 -(Q.length -1 -1)) ρ:=by
   refine Int.eq_of_mul_eq_mul_right V5 ?_
   rw[e1]
   grind
  rw[e2,Q0.abs]
  refine Dx (Q4 X (by lia) (by lia) _ _) (GT (by decide) (DL _ (by lia)))
 rw[Ve]
 refine⟨V5,bk,dR,dF,fun hd=>⟨aQ ch.h0 _,?_⟩,vS,fun LD=>?_⟩
 ·rw[jj]
  have e1:=X.E1 (P.length -1)
  have h1:h.natAbs^(δ -1)<=2^(w*(ns.length -1+(ms.length -1) -2*(P.length -1))*(δ -1)):=by
   rw[dt]
   exact Qr C.bh _
  refine Dx h1 (GT (by decide) ?_)
  rw[Nat.mul_assoc]
  refine DL _ ?_
  have:(ns.length -1+(ms.length -1) -2*(P.length -1))*(δ -1)<=(ns.length -1+(ms.length -1) -2*(P.length -1))*(P.length -1):=DL _ (by clear h1 e1 hd bk V5 hc2 uO hc Zy hpq;lia)
  lia
 have E7:0<R.length:=Bn.mpr LD
 have zl:=zR.resolve_left LD
 have h2:∃S:Int,hnext h lq δ=S/\S*h^δ=lq^δ*h/\S.natAbs<=2^(w*(ns.length -1+(ms.length -1) -2*(Q.length -1))):=by
  by_cases hd:δ=0
  ·refine⟨h,by unfold hnext;rw[Bz hd],by rw[hd,OF,OF,ag,RF],?_⟩
   have:=C.bh
   rw[show P.length -1=Q.length -1 by clear this;lia]at this
   exact this
  ·obtain⟨S,e1,e2⟩:=ch.Dc (by lia)
   rw[hpq]at e1
   have hne:h^(δ -1)≠0:=aQ ch.h0 _
   refine⟨S,?_,?_,?_⟩
   ·unfold hnext
    rw[Bi hd,e1,SF ⟨S,rfl⟩,bo S hne]
   ·have e3:h^δ=h^(δ -1)*h:=by
     rw[←Iy]
     congr 1
     lia
    rw[e1,e3]
    generalize h^(δ -1)=x
    grind
   ·rw[e2]
    exact Q4 X (by lia) (by clear hne e2 e1;lia) _ _
 obtain⟨S,hS,hh,bS⟩:=h2
 rw[hS]
 have LF:(R.map fun x=>x.fdiv (ld*h^δ)).length=R.length:=Ap _
 have lFm:(F.map fun x=>x.fdiv (ld*h^δ)).length=F.length:=Ap _
 have ql:(R.map fun x=>x.fdiv (ld*h^δ)).getD (R.length -1) 0≠0:=fun z=>by
  have e:=fd false (R.length -1)
  simp only[Bool.false_eq_true,if_false]at e
  rw[z,U2]at e
  exact zl e.symm
 refine⟨?_,by rw[LF];exact E7,by rw[LF];lia,by lia,by rw[LF];lia,?_,?_,C.bQ,vS,?_,bS⟩
 ·rw[LF]
  refine ch.step (L:=r8 Qs Qs.length) hL (fun ρ=>?_) (by lia) rfl ql (fun t ht=>?_) (by rw[hpq];exact hh)
  ·rw[hc2,hpq,←vq ρ,ar]
  ·exact outI (by show(R.map fun x=>x.fdiv (ld*h^δ)).length<=t;rw[LF];lia)
 ·rw[LF]
  rcases C.Q3 with z|z
  ·rw[z]
   show 0+_<=_
   lia
  ·lia
 ·rw[lFm]
  rcases C.Q3 with z|z
  ·have:=JE z
   right
   lia
  ·right
   lia
 ·have:=C.bQ (false,Q.length -1)
  rw[←Zy]
  exact this
end Sub
namespace Num
theorem bC(f g:Nat->Int)(k:Nat):aq f g k=aq g f k:=by
 unfold aq
 rw[←Bh]
 refine eZ _ fun i hi=>?_
 show f (k -i)*g (k -(k -i))=g i*f (k -i)
 rw[show k -(k -i)=i by lia,ar]
theorem aM{f f' g g':Nat->Int}(h1:∀i,f i=f' i)(h2:∀i,g i=g' i)(k:Nat):aq f g k=aq f' g' k:=by
 rw[show f=f' from funext h1,show g=g' from funext h2]
theorem iW(f g h:Nat->Int)(k:Nat):aq (fun i=>f i+g i) h k=aq f h k+aq g h k:=by
 unfold aq
 rw[←Bk]
 exact eZ _ fun i _=>Int.add_mul ..
theorem cj(c:Int)(f h:Nat->Int)(k:Nat):aq (fun i=>c*f i) h k=c*aq f h k:=by
 unfold aq
 rw[←rX]
 exact eZ _ fun i _=>cx ..
theorem jX(f g h:Nat->Int)(k:Nat):aq f (fun i=>g i+h i) k=aq f g k+aq f h k:=by
 rw[bC,iW,bC g,bC h]
theorem qJ(c:Int)(f h:Nat->Int)(k:Nat):aq f (fun i=>c*h i) k=c*aq f h k:=by
 rw[bC,cj,bC h]
theorem bY(f g:Nat->Int):aq f g 0=f 0*g 0:=by
 unfold aq
 rw[sm,sm]
 show 0+f 0*g (0 -0)=_
 rw[Int.zero_add]
theorem fL(f g:Nat->Int)(k:Nat):aq f g (k+1)=f 0*g (k+1)+aq (fun i=>f (i+1)) g k:=by
 unfold aq
 rw[v9]
 congr 1
 exact eZ _ fun i hi=>by
  show f (i+1)*g (k+1 -(i+1))=f (i+1)*g (k -i)
  rw[show k+1 -(i+1)=k -i by lia]
theorem b5(g h:Nat->Int):∀(k:Nat) (f:Nat->Int),aq (aq f g) h k=aq f (aq g h) k
 |0,f=>by rw[bY,bY,bY,bY,cx]
 |k+1,f=>by
  rw[fL,fL f,bY,fL g]
  have e:(fun i=>aq f g (i+1))=fun i=>f 0*g (i+1)+aq (fun i=>f (i+1)) g i:=funext fun i=>fL f g i
  rw[e,iW,cj,b5 g h k]
  generalize aq (fun i=>g (i+1)) h k=x
  generalize aq (fun i=>f (i+1)) (aq g h) k=y
  generalize h (k+1)=z
  grind
theorem Dg{f g:Nat->Int}{n m:Nat}(hf:∀i,n<=i->f i=0)(hg:∀i,m<=i->g i=0){k:Nat}(h:n+m<=k+1):aq f g k=0:=by
 unfold aq
 rw[eZ (g:=fun _=>0) _ fun i hi=>?_]
 ·have:∀n,sm (fun _=>0) n=0:=fun n=>by
   induction n with
   |zero=>rfl
   |succ n ih=>rw[sm,ih];rfl
  exact this _
 ·show f i*g (k -i)=0
  by_cases hi2:n<=i
  ·rw[hf i hi2,U2]
  ·rw[hg _ (by lia),Kt]
abbrev co(a:List Int):Nat->Int:=fun i=>a.getD i 0
theorem iX(a b:List Int)(k:Nat):cf a b a.length k=aq (co a) (co b) k:=qF a b k
noncomputable def Dv(G X:Nat->Int):Prop:=∃c:Int,c≠0/\∃S:Nat->Int,(∃n,∀i,n<=i->S i=0)/\∀k,c*X k=aq S G k
theorem Dv.step{G A B C Qs:Nat->Int}{c d:Int}(hc:c≠0)(hQ:∃n,∀i,n<=i->Qs i=0)(hB:Dv G B)(hC:Dv G C)(h:∀k,c*A k=aq Qs B k+d*C k):Dv G A:=by
 obtain⟨c1,n1,S1,⟨m1,z1⟩,e1⟩:=hB
 obtain⟨c2,n2,S2,⟨m2,z2⟩,e2⟩:=hC
 obtain⟨m0,z0⟩:=hQ
 refine⟨c*c1*c2,Fh (Fh hc n1) n2,fun i=>c2*aq Qs S1 i+(c1*d)*S2 i,⟨m0+m1+m2,fun i hi=>?_⟩,fun k=>?_⟩
 ·show c2*aq Qs S1 i+(c1*d)*S2 i=0
  rw[Dg z0 z1 (by lia),z2 i (by lia)]
  simp
 ·rw[iW,cj,cj,←e2 k]
  have:aq (aq Qs S1) G k=c1*aq Qs B k:=by
   rw[b5,←qJ]
   exact aM (fun _=>rfl) (fun i=>(e1 i).symm) k
  rw[this]
  have:=h k
  generalize aq Qs B k=x at*
  generalize A k=a at*
  generalize C k=y at*
  have e:c*c1*c2*a=c1*c2*(c*a):=by grind
  rw[e,this]
  grind
theorem Dv.self(G:Nat->Int):Dv G G:=by
 refine⟨1,by decide,fun i=>if i=0 then 1 else 0,⟨1,fun i hi=>Bi (by lia)⟩,fun k=>?_⟩
 cases k with
 |zero=>rw[bY];simp
 |succ k=>
  rw[fL]
  have:aq (fun i=>if i+1=0 then(1:Int)else 0) G k=0:=by
   rw[show(fun i=>if i+1=0 then(1:Int)else 0)=fun _=>0 from funext fun i=>Bi (by lia)]
   exact fD G k
  rw[this]
  simp
theorem Dv.const{b:Int}(hb:b≠0)(X:List Int):Dv (co [b]) (co X):=by
 refine⟨b,hb,co X,⟨X.length,fun i hi=>outI hi⟩,fun k=>?_⟩
 rw[bC]
 cases k with
 |zero=>rw[bY];rfl
 |succ k=>
  rw[fL]
  have:aq (fun i=>co [b] (i+1)) (co X) k=0:=by
   rw[show(fun i=>co [b] (i+1))=fun _=>0 from funext fun i=>outI (by simp)]
   exact fD _ k
  rw[this]
  show b*_=b*_+0
  lia
theorem yS{A B R F G fA fB vA vB Qs N M:Nat->Int}{c:Int}(hA:∀k,A k=aq fA N k+aq vA M k)(hB:∀k,B k=aq fB N k+aq vB M k)(hR:∀k,R k=c*A k -aq Qs B k)(hF:∀k,F k=c*fA k -aq Qs fB k)(hG:∀k,G k=c*vA k -aq Qs vB k)(k:Nat):R k=aq F N k+aq G M k:=by
 have e:∀(U V:Nat->Int) (X:Nat->Int),aq (fun i=>c*U i -aq Qs V i) X k=c*aq U X k -aq Qs (aq V X) k:=fun U V X=>by
  have e1:(fun i=>c*U i -aq Qs V i)=fun i=>c*U i+(-1)*aq Qs V i:=funext fun i=>by lia
  rw[e1,iW,cj,cj,b5]
  lia
 rw[aM (f':=fun i=>c*fA i -aq Qs fB i) hF (fun _=>rfl),aM (f':=fun i=>c*vA i -aq Qs vB i) hG (fun _=>rfl),e,e,hR k,hA k]
 have e2:aq Qs B k=aq Qs (aq fB N) k+aq Qs (aq vB M) k:=by
  rw[←jX]
  exact aM (fun _=>rfl) hB k
 rw[e2]
 generalize aq Qs (aq fB N) k=x
 generalize aq Qs (aq vB M) k=y
 generalize aq fA N k=z
 generalize aq vA M k=u
 grind
theorem Io{fA fB vA vB Qs F G:Nat->Int}{c:Int}(hF:∀k,F k=c*fA k -aq Qs fB k)(hG:∀k,G k=c*vA k -aq Qs vB k)(k:Nat):aq fB G k -aq F vB k= -(c*(aq fA vB k -aq fB vA k)):=by
 have e1:aq F vB k=c*aq fA vB k -aq (aq Qs fB) vB k:=by
  rw[aM (f':=fun i=>c*fA i+(-1)*aq Qs fB i) (g':=vB) (fun i=>by rw[hF i];lia) (fun _=>rfl),iW,cj,cj]
  lia
 have e2:aq fB G k=c*aq fB vA k -aq fB (aq Qs vB) k:=by
  rw[aM (f:=fB) (f':=fB) (g':=fun i=>c*vA i+(-1)*aq Qs vB i) (fun _=>rfl) (fun i=>by rw[hG i];lia),jX,qJ,qJ]
  lia
 have e3:aq fB (aq Qs vB) k=aq (aq Qs fB) vB k:=by
  rw[←b5]
  exact aM (fun i=>bC fB Qs i) (fun _=>rfl) k
 rw[e1,e2,e3,Int.mul_sub]
 lia
noncomputable def One(f:Nat->Int):Prop:=∃κ:Int,κ≠0/\∀k,f k=if k=0 then κ else 0
theorem yT{fA fB vA vB Qs F G F' G':Nat->Int}{c d:Int}(hd:d≠0)(hc:c≠0)(hF:∀k,F k=c*fA k -aq Qs fB k)(hG:∀k,G k=c*vA k -aq Qs vB k)(h2:∀k,F k=d*F' k)(h3:∀k,G k=d*G' k)(h:One fun k=>aq fA vB k -aq fB vA k):One fun k=>aq fB G' k -aq F' vB k:=by
 obtain⟨κ,k0,hk⟩:=h
 have hk:∀k,aq fA vB k -aq fB vA k=if k=0 then κ else 0:=hk
 have e:∀k,d*(aq fB G' k -aq F' vB k)= -(c*if k=0 then κ else 0):=fun k=>by
  have:=Io hF hG k
  rw[hk k,aM (f:=fB) (f':=fB) (fun _=>rfl) h3,aM (g:=vB) (g':=vB) h2 (fun _=>rfl),cj,qJ]at this
  rw[Int.mul_sub]
  exact this
 refine⟨aq fB G' 0 -aq F' vB 0,fun z=>?_,fun k=>?_⟩
 rotate_left
 ·show aq fB G' k -aq F' vB k=_
  by_cases hk0:k=0
  ·rw[Bz hk0,hk0]
  ·rw[Bi hk0]
   have:=e k
   rw[Bi hk0,Kt]at this
   rcases Int.mul_eq_zero.mp (show d*(aq fB G' k -aq F' vB k)=0 by lia)with z|z
   ·exact absurd z hd
   ·exact z
 ·have:=e 0
  rw[z,Kt,Bz rfl]at this
  exact Fh hc k0 (by lia)
theorem wC{f X:Nat->Int}{κ:Int}(h:∀k,f k=if k=0 then κ else 0)(k:Nat):aq f X k=κ*X k:=by
 cases k with
 |zero=>rw[bY,h 0,Bz rfl]
 |succ k=>
  rw[fL,h 0,Bz rfl]
  have:aq (fun i=>f (i+1)) X k=0:=by
   rw[show(fun i=>f (i+1))=fun _=>0 from funext fun i=>by rw[h (i+1),Bi (by omega)]]
   exact fD X k
  rw[this,UF]
theorem Ip{N M B fB vB F' G':Nat->Int}{κ:Int}(hB:∀k,B k=aq fB N k+aq vB M k)(h0:∀k,0=aq F' N k+aq G' M k)(Vf:∀k,aq fB G' k -aq F' vB k=if k=0 then κ else 0)(k:Nat):κ*N k=aq G' B k/\κ*M k=aq (fun i=> -1*F' i) B k:=by
 have ex:∀S:Nat->Int,aq S B k=aq (aq S fB) N k+aq (aq S vB) M k:=fun S=>by
  rw[aM (f:=S) (f':=S) (fun _=>rfl) hB,jX,b5,b5]
 have sub:∀(U V X:Nat->Int),aq (fun i=>U i -V i) X k=aq U X k -aq V X k:=fun U V X=>by
  rw[show(fun i=>U i -V i)=fun i=>U i+(-1)*V i from funext fun i=>by lia,iW,cj]
  lia
 have kn:=wC (X:=N) Vf k
 have km:=wC (X:=M) Vf k
 rw[sub]at kn km
 have z:∀S:Nat->Int,aq S (fun _=>0) k=0:=fun S=>by rw[bC];exact fD S k
 have m1:aq (aq vB F') N k+aq (aq vB G') M k=0:=by
  rw[b5,b5,←jX,←z vB]
  exact aM (fun _=>rfl) (fun i=>(h0 i).symm) k
 have m2:aq (aq fB F') N k+aq (aq fB G') M k=0:=by
  rw[b5,b5,←jX,←z fB]
  exact aM (fun _=>rfl) (fun i=>(h0 i).symm) k
 have c1:aq (aq vB F') N k=aq (aq F' vB) N k:=aM (fun i=>bC vB F' i) (fun _=>rfl) k
 have c2:aq (aq vB G') M k=aq (aq G' vB) M k:=aM (fun i=>bC vB G' i) (fun _=>rfl) k
 have c3:aq (aq fB F') N k=aq (aq F' fB) N k:=aM (fun i=>bC fB F' i) (fun _=>rfl) k
 have c4:aq (aq G' fB) N k=aq (aq fB G') N k:=aM (fun i=>bC G' fB i) (fun _=>rfl) k
 constructor
 ·rw[ex G',←kn,c4,←c2]
  rw[c1]at m1
  lia
 ·rw[cj,ex F',←km,←c3]
  lia
theorem Dh{B F G N M R:Nat->Int}{F' G' B':Nat->Int}{d:Int}(hd:d≠0)(h:∀k,R k=aq F N k+aq G M k)(h1:∀k,R k=d*B' k)(h2:∀k,F k=d*F' k)(h3:∀k,G k=d*G' k)(k:Nat):B' k=aq F' N k+aq G' M k:=by
 refine NM hd ?_
 rw[←h1 k,h k,aM h2 (fun _=>rfl),aM h3 (fun _=>rfl),cj,cj,Int.mul_add]
end Num
namespace Sub
open Num
theorem CS.size{ns ms f0 g0 P Q fP fQ:List Int}{w E b1:Nat}{ld h:Int}(X:FX ns ms f0 g0 w E)(C:CS ns ms f0 g0 w E b1 P Q fP fQ ld h)(hq:2<=Q.length):
 ld*h^(P.length -Q.length)≠0/\(ld*h^(P.length -Q.length)).natAbs<=2^(w*E)/\(0<P.length -Q.length->h^(P.length -Q.length -1)≠0/\(h^(P.length -Q.length -1)).natAbs<=2^(w*E)):=by
 have ch:=C.ch
 have e1:=X.E1 (P.length -1)
 have Bv:=C.Bv
 generalize Ve:P.length -Q.length=δ at*
 have hb:∀j,j<=δ->(h^j).natAbs<=2^(w*((ns.length -1+(ms.length -1) -2*(P.length -1))*(P.length -1))):=fun j hj=>by
  rw[jj]
  have h1:h.natAbs^j<=2^(w*(ns.length -1+(ms.length -1) -2*(P.length -1))*j):=by
   rw[dt]
   exact Qr C.bh j
  refine Dx h1 (GT (by decide) ?_)
  rw[Nat.mul_assoc]
  exact DL _ (DL _ (by lia))
 refine⟨Fh ch.QZ (aQ ch.h0 _),?_,fun _=>⟨aQ ch.h0 _,?_⟩⟩
 ·rw[Fk]
  refine Dx (Jn C.bl (hb δ (Do _))) ?_
  rw[←du,←Nat.mul_add]
  exact GT (by decide) (DL _ (by lia))
 ·exact Dx (hb (δ -1) (by clear Ve Bv e1 hq;lia)) (GT (by decide) (DL _ (by lia)))
theorem CS.start{ns ms f0 g0:List Int}{w E b1:Nat}(X:FX ns ms f0 g0 w E)(l0:0<ms.length)(nz:ms.getD (ms.length -1) 0≠0)(h1:f0.length+ms.length<=b1)(h2:g0=[]\/g0.length+ns.length<=b1):CS ns ms f0 g0 w E b1 ns ms f0 g0 1 1:=by
 obtain⟨M,m1,m2,m3,m4⟩:=X.M
 have l1:=X.l1
 have hM:M<=2^(w*(ns.length -1+(ms.length -1)+1)):=by
  refine Dx (Dx (Nat.le_mul_of_pos_left M (show 0<ns.length -1+(ms.length -1)+1 by omega)) m4) (GT (by decide) ?_)
  exact SB w (by omega)
 refine⟨Ch.start (by omega) rfl nz (fun t ht=>outI (by omega)),l0,l1,Do _,Do _,h1,h2,fun i=>Dx (m1 i) hM,fun i=>Dx (m2 i) hM,Os (by decide),Os (by decide)⟩
theorem CS.bd{ns ms f0 g0 P Q fP fQ:List Int}{w E b1:Nat}{ld h:Int}(C:CS ns ms f0 g0 w E b1 P Q fP fQ ld h):(∀x∈P,x.natAbs<=2^(w*(ns.length -1+(ms.length -1)+1)))/\(∀x∈Q,x.natAbs<=2^(w*(ns.length -1+(ms.length -1)+1)))/\(∀x∈fP,x.natAbs<=2^(w*(ns.length -1+(ms.length -1)+1)))/\∀x∈fQ,x.natAbs<=2^(w*(ns.length -1+(ms.length -1)+1)):=by
 refine⟨fun x hx=>?_,fun x hx=>?_,fun x hx=>?_,fun x hx=>?_⟩
 ·obtain⟨k,_,rfl⟩:=mem_getD hx
  exact C.bP (false,k)
 ·obtain⟨k,_,rfl⟩:=mem_getD hx
  exact C.bQ (false,k)
 ·obtain⟨k,_,rfl⟩:=mem_getD hx
  exact C.bP (true,k)
 ·obtain⟨k,_,rfl⟩:=mem_getD hx
  exact C.bQ (true,k)
end Sub
namespace VL
open PySem PySem.Spec
open PyProof.Rows hiding St
open L2 Num
theorem Q5{rs:List Rat}{i:Nat}{w:W}(h:(rs.map wq)[i]?=some w):∃x,rs[i]?=some x/\w=wq x:=by
 rw[FR]at h
 cases e:rs[i]? with
 |none=>rw[e]at h;cases h
 |some x=>rw[e]at h;cases h;exact⟨x,rfl,rfl⟩
structure V6(rs:List Rat)(ns:List Int)(B:Int):Prop where
 pos:0<B
 eq:ns=rs.map fun x=>x.num*(B/x.den)
 dv:∀x∈rs,(x.den:Int)∣B
noncomputable def iY:List CS:=[.set 1 (.int 1),.fr [2] true (.var 0) [.set 3 (.ix (.var 2) (.int 1)),.iff (.cmp .NotEq (.bin .Mod (.var 1) (.var 3)) (.int 0)) [.set 1 (.bin .Mult (.bin .FloorDiv (.var 1) (.call 0 [(.var 1),(.var 3)])) (.var 3))] []],.ret (.tup [(.comp [0] true 1 (.var 0) (.bl true) (.bin .Mult (.ix (.var 0) (.int 0)) (.bin .FloorDiv (.var 2) (.ix (.var 0) (.int 1))))),(.var 1)])]
noncomputable def gJ:bN:=fun ws Q _=>∃(rs:List Rat) (D:Int) (n k:Nat),ws=[af rs]/\((∀x∈rs,Cd D n x)/\0<D/\D.natAbs<2^k/\k<=6000/\n<=100000/\rs.length<=100)/\∀(ns:List Int) (B:Int),V6 rs ns B->B∣D->B.natAbs<2^k->(∀x∈ns,x.natAbs<2^n)->Q (.tup [wI ns,.int B])
theorem E8{G:Nat->W}{m:Md}(ws:List W)(Q:W->Prop)(R:Addr->Prop)(h:gJ ws Q R):wSs (b7 [Bo]) G iY (b8 m Q R) (au 4 ws):=by
 obtain⟨rs,D,n,k,rfl,⟨hc,hD,Zz,hk,hn,hl⟩,hq⟩:=h
 have small:∀y:Int,0<y->y∣D->y.natAbs<2^k:=fun y h1 h2=>by
  have:=dC hD h2
  lia
 show wSs _ _ iY _ [some (af rs),none,none,none]
 unfold iY
 simp only[wSs,wS,wE,look,List.set]
 unfold af
 walk_at "vs"
 refine bX (fun i ε=>∃B o2 o3,(0<B/\B∣D/\∀j x,j<i->rs[j]?=some x->(x.den:Int)∣B)/\ε=[some (.lst (rs.map wq)),some (.int B),o2,o3]) ⟨1,none,none,⟨by decide,Int.one_dvd _,fun j x h=>by lia⟩,rfl⟩ ?_ ?_
 ·rintro i w _ N hw ⟨B,o2,o3,⟨hB,hB2,hd⟩,rfl⟩ hN
  obtain⟨x,hx,rfl⟩:=Q5 hw
  have hm:=Oy hx
  have dx:=(hc x hm).dvd.1
  have dp:0<(x.den:Int):=by have:=x.den_pos;lia
  have bd:=small _ dp dx
  have bB:=small _ hB hB2
  have step:∀B':Int,0<B'->B'∣D->B∣B'->(x.den:Int)∣B'->N [some (.lst (rs.map wq)),some (.int B'),some (wq x),some (.int x.den)]:=fun B' h1 h2 h3 h4=>
   hN _ ⟨B',_,_,⟨h1,h2,fun j z hj hz=>by
    by_cases hji:j=i
    ·subst hji
     rw[hx]at hz
     cases hz
     exact h4
    ·exact Int.dvd_trans (hd j z (by lia) hz) h3⟩,rfl⟩
  walk_at "vs"
  refine⟨_,rfl,?_⟩
  walk_at "vs"
  refine⟨HU x,?_⟩
  by_cases hz:B.fmod x.den=0
  ·rw[IR hz]
   walk_at "vs"
   refine step B hB hB2 (Int.dvd_refl _) (Int.dvd_of_fmod_eq_zero hz)
  ·rw[P3 hz]
   walk_at "vs"
   have hg:((Int.gcd B x.den:Nat):Int)<=x.den:=dC dp (Pi ..)
   have ZA:0<((Int.gcd B x.den:Nat):Int):=by
    have:0<Int.gcd B x.den:=Int.gcd_pos_of_ne_zero_left _ (by lia)
    lia
   have ZC:((Int.gcd B x.den:Nat):Int)∣B:=Int.gcd_dvd_left ..
   have XO:((Int.gcd B x.den:Nat):Int)∣(x.den:Int):=Pi ..
   have XQ:=Ij (HU x) hB2 dx
   refine⟨B,x.den,k,rfl,bd,hk,?_⟩
   generalize((Int.gcd B x.den:Nat):Int)=g at*
   have lg:g.natAbs<2^k:=by lia
   have hq0:0<B/g:=eC hB (T1 ZA) ZC
   have hqB:B/g<=B:=Int.ediv_le_self _ (T1 hB)
   have XR:(B/g).natAbs<2^k:=by lia
   walk_at "vs"
   rw[Pl _ (T1 ZA)]
   refine⟨⟨by lia,e9 lg (by lia)⟩,aF XR bd (by lia),step _ (Int.mul_pos hq0 dp) XQ ?_ ⟨B/g,ar _ _⟩⟩
   obtain⟨j,hj⟩:=XO
   refine⟨j,?_⟩
   rw[hj,←cx,Int.ediv_mul_cancel ZC]
 ·rintro _ ⟨B,o2,o3,⟨hB,hB2,hd⟩,rfl⟩
  rw[Ap]at hd
  have dB:∀x∈rs,(x.den:Int)∣B:=fun x hx=>by
   obtain⟨j,hj,e⟩:=List.getElem_of_mem hx
   exact hd j x hj (by rw[←e];exact BM hj)
  have bB:=small _ hB hB2
  have nb:∀x∈rs,(x.num*(B/x.den)).natAbs<2^n:=fun x hm=>by
   have hdx:=dB x hm
   have e:=(hc x hm).dvd
   obtain⟨j,hj⟩:=hB2
   have e2:D/x.den=B/x.den*j:=by
    rw[hj]
    exact Int.mul_ediv_assoc' _ hdx|>fun h=>by rw[←h]
   have j0:j≠0:=fun z=>by rw[z,Kt]at hj;lia
   refine Gc ?_ e.2
   rw[e2,←cx,Fk (x.num*(B/x.den)) j]
   exact SB _ (by lia)
  walk_at "vs"
  refine gH (h:=wq) (g:=fun x=>.int (x.num*(B/x.den))) rs [] _ (fun x hx K hK=>?_) (ak (by simpa using Dx hl (by decide))) ?_
  ·have dp:0<(x.den:Int):=by have:=x.den_pos;lia
   have bd:=small _ dp (hc x hx).dvd.1
   have big:=nb x hx
   have q0:0<B/x.den:=eC hB (T1 dp) (dB x hx)
   have XR:(B/x.den).natAbs<2^k:=by
    have h1:=Int.ediv_le_self (x.den:Int) (T1 hB)
    lia
   have XS:x.num.natAbs<2^n:=by
    refine Gc ?_ big
    rw[Fk]
    exact SB _ (by lia)
   refine⟨_,rfl,_,rfl,⟨HU x,e9 bd (by lia)⟩,?_⟩
   walk_at "vs"
   rw[Pl _ (T1 dp)]
   exact⟨aF XS XR (by lia),hK⟩
  ·refine⟨ak (by simp),?_⟩
   have:=hq _ B ⟨hB,rfl,dB⟩ hB2 bB (fun z hz=>by
    obtain⟨x,hx,rfl⟩:=Kx.mp hz
    exact nb x hx)
   unfold wI at this
   rw[List.map_map]at this
   exact this
noncomputable def gK:List CS:=[.ret (.comp [0] true 1 (.call 0 [(.var 0)]) (.bl true) (.call 1 [(.var 0),(.var 2)]))]
noncomputable def fh:bN:=fun ws Q _=>∃(ns:List Int) (B:Int) (n:Nat),ws=[wI ns,.int B]/\(B≠0/\B.natAbs<2^n/\n<=6000/\ns.length<=500)/\Q (af (aG (ns.map fun x=>Rat.divInt x B)))
theorem Bw{G:Nat->W}{m:Md}(ws:List W)(Q:W->Prop)(R:Addr->Prop)(h:fh ws Q R):wSs (b7 [iU,dN]) G gK (b8 m Q R) (au 2 ws):=by
 obtain⟨ns,B,n,rfl,⟨hB,bB,hn,hl⟩,hq⟩:=h
 show wSs _ _ gK _ [some (wI ns),some (.int B)]
 unfold gK
 walk_at "vs"
 refine⟨ns,rfl,fun ms tr=>?_⟩
 have e:=HS hB tr
 rw[←e]at hq
 have lm:ms.length<=500:=by
  obtain⟨k,k1,rfl,_⟩:=tr
  rw[SC]
  lia
 unfold wI
 walk_at "vs"
 refine gH (h:=W.int) (g:=fun x=>wq (Rat.divInt x B)) ms [] _ (fun x hx K hK=>?_) (ak (by simpa using Dx lm (by decide))) ?_
 ·walk_at "vs"
  exact⟨x,B,n,rfl,bB,hn,fun z=>absurd z hB,fun _=>hK⟩
 ·unfold af at hq
  rw[List.map_map]at hq
  exact hq
noncomputable def fM:List CS:=[.set 1 (.int 0),.fr [2] true (.var 0) [.set 1 (.call 0 [(.var 2),(.var 1)]),.iff (.cmp .Eq (.var 1) (.int 1)) [.ret (.tup [(.int 1),(.blt .list [(.var 0)])])] []],.ret (.tup [(.var 1),(.comp [0] true 1 (.var 0) (.bl true) (.bin .FloorDiv (.var 0) (.var 2)))])]
structure ZD(ns:List Int)(c:Int)(ms:List Int):Prop where
 pos:0<c
 dv:∀x∈ns,c∣x
 all:∀d:Int,(∀x∈ns,d∣x)->d∣c
 eq:ms=ns.map (·/c)
noncomputable def jk:bN:=fun ws Q _=>∃(ns:List Int) (n:Nat),ws=[wI ns]/\((∃x∈ns,x≠0)/\ns.length<=500/\n<=6000/\∀x∈ns,x.natAbs<2^n)/\∀c ms,ZD ns c ms->c.natAbs<2^n->Q (.tup [.int c,wI ms])
theorem yU{G:Nat->W}{m:Md}(ws:List W)(Q:W->Prop)(R:Addr->Prop)(h:jk ws Q R):wSs (b7 [Bo]) G fM (b8 m Q R) (au 3 ws):=by
 obtain⟨ns,n,rfl,⟨⟨x0,V7,nz⟩,hl,hn,hb⟩,hq⟩:=h
 show wSs _ _ fM _ [some (wI ns),none,none]
 unfold fM
 simp only[wSs,wS,wE,look,List.set]
 unfold wI at*
 walk_at "vs"
 refine bX (fun i ε=>∃(c:Int) (o2:Option W),(0<=c/\(∀j,j<i->j<ns.length->c∣ns.getD j 0)/\(∀d:Int,(∀x∈ns,d∣x)->d∣c)/\c.natAbs<2^n)/\ε=[some (.lst (ns.map W.int)),some (.int c),o2]) ⟨0,none,⟨by decide,fun j h=>by lia,fun d _=>Int.dvd_zero d,Os (by decide)⟩,rfl⟩ ?_ ?_
 ·rintro i w _ N hw ⟨c,o2,⟨c0,hd,ha,bc⟩,rfl⟩ hN
  have hi:i<ns.length:=by
   have:=(GM.mp hw).1
   simpa using this
  rw[int_at hi]at hw
  cases hw
  have hm:ns.getD i 0∈ns:=Sub.getD_mem' hi
  walk_at "vs"
  refine⟨ns.getD i 0,c,n,rfl,bc,hn,?_⟩
  have g1:((Int.gcd (ns.getD i 0) c:Nat):Int)∣ns.getD i 0:=Int.gcd_dvd_left ..
  have g2:((Int.gcd (ns.getD i 0) c:Nat):Int)∣c:=Pi ..
  have g3:∀d:Int,(∀x∈ns,d∣x)->d∣((Int.gcd (ns.getD i 0) c:Nat):Int):=fun d h=>Int.dvd_coe_gcd (h _ hm) (ha d h)
  have g4:((Int.gcd (ns.getD i 0) c:Nat):Int).natAbs<2^n:=by
   rcases Int.lt_or_eq_of_le c0 with c1|c1
   ·have:=dC c1 g2
    lia
   ·rw[←c1,Int.gcd_zero_right]
    have:=hb _ hm
    lia
  have g0:0<=((Int.gcd (ns.getD i 0) c:Nat):Int):=by lia
  generalize((Int.gcd (ns.getD i 0) c:Nat):Int)=g at*
  have dv:∀j,j<i+1->j<ns.length->g∣ns.getD j 0:=fun j hj hl=>by
   by_cases e:j=i
   ·subst e
    exact g1
   ·exact Int.dvd_trans g2 (hd j (by lia) hl)
  walk_at "vs"
  by_cases e:g=1
  ·rw[IR e]
   walk_at "vs"
   subst e
   have:=hq 1 ns ⟨by decide,fun x _=>Int.one_dvd x,g3,by simp⟩ g4
   exact⟨ak (by simp),this⟩
  ·rw[P3 e]
   walk_at "vs"
   exact hN _ ⟨g,_,⟨g0,dv,g3,g4⟩,rfl⟩
 ·rintro _ ⟨c,o2,⟨c0,hd,ha,bc⟩,rfl⟩
  rw[Ap]at hd
  have dv:∀x∈ns,c∣x:=fun x hx=>by
   obtain⟨j,hj,e⟩:=List.getElem_of_mem hx
   have:=hd j hj hj
   rw[AC,BM hj]at this
   rw[←e]
   exact this
  have cp:0<c:=by
   rcases Int.lt_or_eq_of_le c0 with z|z
   ·exact z
   ·have:=dv x0 V7
    rw[←z,Int.zero_dvd]at this
    exact absurd this nz
  walk_at "vs"
  refine gH (h:=W.int) (g:=fun x=>.int (x/c)) ns [] _ (fun x hx K hK=>?_) (ak (by simpa using Dx hl (by decide))) ?_
  ·walk_at "vs"
   rw[Pl _ (T1 cp)]
   exact⟨⟨by lia,e9 bc (by lia)⟩,hK⟩
  ·refine⟨ak (by simp),?_⟩
   have:=hq c _ ⟨cp,dv,ha,rfl⟩ bc
   rw[List.map_map]at this
   exact this
noncomputable def fN:List CS:=[.rA [1,2] (.call 0 [(.var 0)]),.rA [3,1] (.call 1 [(.var 1)]),.ret (.tup [(.var 1),(.var 2),(.var 3)])]
structure Prim(rs:List Rat)(ms:List Int)(B c:Int):Prop where
 bpos:0<B
 cpos:0<c
 len:ms.length=rs.length
 at_:∀i,(ms.getD i 0:Rat)*c=rs.getD i 0*B
 one:∀d:Int,(∀x∈ms,d∣x)->d∣1
noncomputable def cE:bN:=fun ws Q _=>∃(rs:List Rat) (D:Int) (n k:Nat),ws=[af rs]/\((∃x∈rs,x≠0)/\(∀x∈rs,Cd D n x)/\0<D/\D.natAbs<2^k/\k<=6000/\n<=6000/\rs.length<=100)/\∀(ms:List Int) (B c:Int),Prim rs ms B c->B.natAbs<2^k->c.natAbs<2^n->(∀x∈ms,x.natAbs<2^n)->Q (.tup [wI ms,.int B,.int c])
theorem oX{α:Type}{l:List α}{f:α->Int}{i:Nat}{x:α}(h:l[i]?=some x):(l.map f).getD i 0=f x:=by
 rw[AC,FR,h]
 rfl
theorem LG{rs:List Rat}{ns ms:List Int}{B c:Int}(h1:V6 rs ns B)(h2:ZD ns c ms):Prim rs ms B c:=by
 have l1:ns.length=rs.length:=by rw[h1.eq,Ap]
 have l2:ms.length=rs.length:=by rw[h2.eq,Ap,l1]
 refine⟨h1.pos,h2.pos,l2,fun i=>?_,fun d hd=>?_⟩
 ·by_cases hi:i<rs.length
  ·have er:=BM hi
   have e1:ns.getD i 0=rs[i].num*(B/rs[i].den):=by rw[h1.eq];exact oX er
   have en:ns[i]?=some (ns.getD i 0):=by
    rw[AC,BM (by lia)]
    rfl
   have e2:ms.getD i 0=ns.getD i 0/c:=by rw[h2.eq];exact oX en
   have dc:=h2.dv _ (Oy en)
   have:ms.getD i 0*c=ns.getD i 0:=by rw[e2];exact Int.ediv_mul_cancel dc
   have e3:((ms.getD i 0:Int):Rat)*(c:Rat)=((ns.getD i 0:Int):Rat):=by rw[←this,Da]
   rw[e3,e1]
   have e4:rs.getD i 0=rs[i]:=by rw[AC,er];rfl
   rw[e4]
   exact gx (h1.dv _ (PP _))
  ·have z1:ms.getD i 0=0:=by rw[AC,FS (by lia)];rfl
   have z2:rs.getD i 0=0:=by rw[AC,FS (by lia)];rfl
   rw[z1,z2]
   show((0:Int):Rat)*_=0*_
   grind
 ·have:=h2.all (d*c) fun x hx=>by
   have e:=hd (x/c) (by rw[h2.eq];exact Kx.mpr ⟨x,hx,rfl⟩)
   obtain⟨y,hy⟩:=e
   refine⟨y,?_⟩
   rw[←Int.ediv_mul_cancel (h2.dv x hx),hy]
   grind
  obtain⟨y,hy⟩:=this
  refine⟨y,?_⟩
  have cp:=h2.pos
  have:c*1=c*(d*y):=by rw[ag];rw[ar c,cx,ar y c,←cx];exact hy
  exact NM (by lia) this
theorem yV{G:Nat->W}{m:Md}(ws:List W)(Q:W->Prop)(R:Addr->Prop)(h:cE ws Q R):wSs (b7 [gJ,jk]) G fN (b8 m Q R) (au 4 ws):=by
 obtain⟨rs,D,n,k,rfl,⟨⟨x0,V7,nz⟩,hc,hD,Zz,hk,hn,hl⟩,hq⟩:=h
 show wSs _ _ fN _ [some (af rs),none,none,none]
 unfold fN
 walk_at "vs"
 refine⟨rs,D,n,k,rfl,⟨hc,hD,Zz,hk,by lia,hl⟩,fun ns B h1 dB bB bn=>?_⟩
 refine⟨rfl,?_⟩
 walk_at "vs"
 have ln:ns.length=rs.length:=by rw[h1.eq,Ap]
 refine⟨ns,n,rfl,⟨⟨x0.num*(B/x0.den),by rw[h1.eq];exact Kx.mpr ⟨x0,V7,rfl⟩,?_⟩,by lia,hn,bn⟩,fun c ms h2 bc=>?_⟩
 ·have d:=h1.dv x0 V7
  have dp:0<(x0.den:Int):=by have:=x0.den_pos;lia
  have:0<B/x0.den:=eC h1.pos (T1 dp) d
  exact Fh (fun z=>nz (Rat.num_eq_zero.mp z)) (by lia)
 ·refine⟨rfl,?_⟩
  walk_at "vs"
  refine⟨ak (by simp),hq ms B c (LG h1 h2) bB bc fun x hx=>?_⟩
  rw[h2.eq]at hx
  obtain⟨y,hy,rfl⟩:=Kx.mp hx
  have:=Xt y c
  have:=bn y hy
  lia
noncomputable def c8:List CS:=[.iff (.cmp .Eq (.var 2) (.int 0)) [.ret (.var 0)] [],.ret (.bin .FloorDiv (.call 0 [(.var 1),(.var 2)]) (.call 0 [(.var 0),(.bin .Sub (.var 2) (.int 1))]))]
noncomputable def ef:bN:=fun ws Q _=>∃(h l:Int) (δ n:Nat),ws=[.int h,.int l,.int δ]/\(h.natAbs<2^n/\l.natAbs<2^n/\n*(δ+1)<=60000000/\(0<δ->h^(δ -1)≠0/\(h^(δ -1)).natAbs.log2<9000))/\Q (.int (Sub.hnext h l δ))
theorem tZ{G:Nat->W}{m:Md}(ws:List W)(Q:W->Prop)(R:Addr->Prop)(h:ef ws Q R):wSs (b7 [ee]) G c8 (b8 m Q R) (au 3 ws):=by
 obtain⟨h,l,δ,n,rfl,⟨bh,bl,hn,hd⟩,hq⟩:=h
 show wSs _ _ c8 _ [some (.int h),some (.int l),some (.int δ)]
 unfold c8
 walk_at "vs"
 by_cases z:(δ:Int)=0
 ·rw[IR z]
  walk_at "vs"
  have e:Sub.hnext h l δ=h:=by
   unfold Sub.hnext
   rw[Bz (by lia)]
  rw[e]at hq
  exact hq
 ·rw[P3 z]
  walk_at "vs"
  obtain⟨d1,d2⟩:=hd (by lia)
  have e:Sub.hnext h l δ=(l^δ).fdiv (h^(δ -1)):=by
   unfold Sub.hnext
   rw[Bi (by lia)]
  rw[e]at hq
  refine⟨l,δ,n,rfl,bl,hn,?_⟩
  rw[show(δ:Int) -1=((δ -1:Nat):Int) by lia]
  refine⟨h,δ -1,n,rfl,bh,Dx (DL _ (by lia)) hn,?_⟩
  walk_at "vs"
  exact⟨⟨d1,d2⟩,hq⟩
theorem gM{x:Nat}{n m:Nat}(h:x<2^n)(hm:n<=m):x<2^m:=GE h (GT (by decide) hm)
theorem Iq{a b:Int}{n:Nat}(h1:a.natAbs<n)(h2:b.natAbs<n):(a -b).natAbs<2*n:=by
 have:=Int.natAbs_sub_le a b
 lia
theorem XT{p i:Nat}(h:p<i):i -p=(i -(p+1))+1:=by lia
theorem dI{ns:List Int}{n:Nat}(h:∀x∈ns,x.natAbs<2^n)(k:Nat):(ns.getD k 0).natAbs<2^n:=by
 by_cases hk:k<ns.length
 ·rw[AC,BM hk]
  exact h _ (PP hk)
 ·rw[outI (by lia)]
  exact Os (by decide)
theorem Di{ns:List Int}(h:0<ns.length):oG (ns.map W.int) (-1)=some (.int (ns.getD (ns.length -1) 0)):=by
 refine uL ?_
 rw[Qb,Ap,int_at (by omega)]
theorem r9{n k:Nat}{f:Nat->Int}(h:k<n):(tabI n f).getD k 0=f k:=by
 rw[AC,g7 h]
 rfl
theorem qK(n:Nat)(f:Nat->Int)(k:Nat):(tabI n f).getD k 0=if k<n then f k else 0:=by
 by_cases h:k<n
 ·rw[Bz h,r9 h]
 ·rw[Bi h]
  exact outI (by rw[aU];lia)
theorem sd{n:Nat}{f:Nat->Int}{x:Int}(h:x∈tabI n f):∃k,k<n/\x=f k:=by
 unfold tabI at h
 obtain⟨k,hk,rfl⟩:=Kx.mp h
 exact⟨k,eA.mp hk,rfl⟩
theorem jY{n:Nat}{f g:Nat->Int}(h:∀k,k<n->f k=g k):tabI n f=tabI n g:=by
 unfold tabI
 exact List.map_congr_left fun k hk=>h k (eA.mp hk)
theorem yW(n:Nat)(x:Int):List.replicate n (W.int x)=(tabI n fun _=>x).map W.int:=by
 unfold tabI
 rw[List.map_const',Ta,List.map_replicate]
theorem oY{n:Nat}(ns:List Int)(h:ns.length=n):ns=tabI n fun k=>ns.getD k 0:=by
 refine List.ext_getElem? fun j=>?_
 by_cases hj:j<n
 ·rw[g7 hj,AC,BM (by lia)]
  rfl
 ·rw[FS (by lia),FS (by rw[aU];lia)]
theorem Dj{r n s:Nat}{w:W}(h:(iM ((r:Int) -1) (-1) n)[s]?=some w):s<n/\w=.int ((r:Int) -1 -s):=by
 unfold iM at h
 rw[FR]at h
 obtain⟨j,e,rfl⟩:=Pv.mp h
 obtain⟨h1,h2⟩:=GM.mp e
 rw[List.getElem_range]at h2
 rw[Ta]at h1
 refine⟨h1,?_⟩
 rw[←h2]
 congr 1
 lia
theorem Bx(lo st:Int)(n:Nat):(iM lo st n).length=n:=by unfold iM;simp
theorem uP{r:Nat}{Q:List W->Prop}(h:r<=1000)(q:Q (iM ((r:Int) -1) (-1) r)):GH [.int ((r:Int) -1),.int (-1),.int (-1)] Q:=
 ⟨r,⟨by decide,by decide,Bq h,uM⟩,q⟩
theorem Dk{R:List Int}(h:0<R.length):∃R0 x,R=R0++[x]:=
 ⟨R.dropLast,R.getLast (fun z=>by rw[z]at h;cases h),(Tb _).symm⟩
theorem pop_at{R0:List Int}{x:Int}:((R0++[x]).map W.int)[((R0++[x]).map W.int).length -1]?=some (.int x):=by
 simp
theorem Ir{R0:List Int}{x:Int}:((R0++[x]).map W.int).dropLast=R0.map W.int:=by
 simp
noncomputable def cu:List CS:=[.set 2 (.blt .max2 [(.bin .Add (.bin .Sub (.blt .len [(.var 0)]) (.blt .len [(.var 1)])) (.int 1)),(.int 0)]),.set 3 (.ix (.var 1) (.neg (.int 1))),.set 4 (.blt .list [(.var 0)]),.set 5 (.bin .Mult (.lst [(.int 0)]) (.var 2)),.fr [6] true (.oz [(.bin .Sub (.var 2) (.int 1)),(.neg (.int 1)),(.neg (.int 1))]) [.yd 7 (.pop 4),.put 5 (.var 6) (.var 7),.set 4 (.call 0 [(.var 4),(.var 3)]),.fr [8] true (.oz [(.bin .Sub (.blt .len [(.var 1)]) (.int 1))]) [.put 4 (.bin .Add (.var 6) (.var 8)) (.bin .Sub (.ix (.var 4) (.bin .Add (.var 6) (.var 8))) (.bin .Mult (.var 7) (.ix (.var 1) (.var 8))))]],.set 9 (.int 1),.fr [6] true (.oz [(.var 2)]) [.put 5 (.var 6) (.bin .Mult (.ix (.var 5) (.var 6)) (.var 9)),.set 9 (.bin .Mult (.var 9) (.var 3))],.ret (.tup [(.var 5),(.call 1 [(.var 4)]),(.var 9)])]
structure Q6(ns ms:List Int)(N M:Nat)(Qs R:List Int):Prop where
 Q7:Qs.length=ns.length+1 -ms.length
 Q8:R.length<ms.length
 eq:∀k,(ms.getD (ms.length -1) 0)^(ns.length+1 -ms.length)*ns.getD k 0=aq (fun i=>Qs.getD i 0) (fun i=>ms.getD i 0) k+R.getD k 0
 bQ:∀x∈Qs,x.natAbs<2^(N+(ns.length+1 -ms.length)*(M+1))
 bR:∀x∈R,x.natAbs<2^(N+(ns.length+1 -ms.length)*(M+1))
 last:R=[]\/R.getD (R.length -1) 0≠0
noncomputable def cH:bN:=fun ws Q _=>∃(ns ms:List Int) (N M:Nat),ws=[wI ns,wI ms]/\(0<ms.length/\ns.length<=100/\ms.length<=100/\(∀x∈ns,x.natAbs<2^N)/\(∀x∈ms,x.natAbs<2^M)/\N+101*(M+1)<=1000000)/\
 ∀Qs R:List Int,Q6 ns ms N M Qs R->Q (.tup [wI Qs,wI R,.int ((ms.getD (ms.length -1) 0)^(ns.length+1 -ms.length))])
theorem qo{G:Nat->W}{m:Md}(ws:List W)(Q:W->Prop)(R:Addr->Prop)(h:cH ws Q R):wSs (b7 [gk,iU]) G cu (b8 m Q R) (au 10 ws):=by
 obtain⟨ns,ms,N,M,rfl,⟨lm,la,lb,bn,bm,hNM⟩,q⟩:=h
 show wSs _ _ cu _ [some (wI ns),some (wI ms),none,none,none,none,none,none,none,none]
 unfold cu wI
 walk_at "vs"
 have eR:(if(0:Int)>((ns.map W.int).length:Int) -((ms.map W.int).length:Int)+1 then(0:Int)else((ns.map W.int).length:Int) -((ms.map W.int).length:Int)+1)=((ns.length+1 -ms.length:Nat):Int):=by
  rw[Ap,Ap]
  split<;>lia
 have bL:=dI bm (ms.length -1)
 have eL:=Di lm
 have hroom:∀s,s<=ns.length+1 -ms.length->s*(M+1)<=101*(M+1):=fun s hs=>Ya _ (by lia)
 rw[eR]
 have Ak:(ms.map W.int).length=ms.length:=Ap _
 generalize hl:ms.getD (ms.length -1) 0=l at*
 generalize iB:ns.length+1 -ms.length=room at*
 refine⟨_,eL,?_⟩
 walk_at "vs"
 rw[Int.toNat_natCast,jR,yW]
 refine⟨ak (by simp),by lia,by lia,ak (by simp;lia),?_⟩
 refine uP (by lia) ?_
 walk_at "vs"
 refine bX (fun s ε=>∃(R:List Int) (hs Qf:Nat->Int) (v6 v7 v8:Option W),(Bl ns ms l s Qf R/\R.length=ns.length -s/\(∀x∈R,x.natAbs<2^(N+s*(M+1)))/\(∀i,i<room->room -s<=i->Qf i=hs i*l^(i -(room -s))/\(hs i).natAbs<2^(N+(room -1 -i)*(M+1)))/\(∀i,(i<room -s\/room<=i)->Qf i=0))/\ε=[some (.lst (ns.map W.int)),some (.lst (ms.map W.int)),some (.int room),some (.int l),some (.lst (R.map W.int)),some (.lst ((tabI room hs).map W.int)),v6,v7,v8,none]) ⟨ns,fun _=>0,fun _=>0,none,none,none,⟨Bl.start ns ms l,by lia,fun x hx=>by rw[Nat.zero_mul];exact bn x hx,fun i h1 h2=>by lia,fun _ _=>rfl⟩,rfl⟩ ?_ ?_
 ·rintro s w _ N1 hw ⟨R,hd,Qf,v6,v7,v8,⟨dv,lR,bR,hq,hz⟩,rfl⟩ xO
  obtain⟨hs,rfl⟩:=Dj hw
  have hp:((room:Nat):Int) -1 -(s:Int)=((room -1 -s:Nat):Int):=by lia
  rw[hp]
  generalize hpp:room -1 -s=p at*
  have yX:R.length=p+ms.length:=by lia
  have bs:=hroom s (by clear yX hp hpp hw;lia)
  have V8:=hroom (s+1) (by clear bs yX hp hpp hw;lia)
  obtain⟨R0,x,rfl⟩:=Dk (R:=R) (by lia)
  have E7:R0.length=p+ms.length -1:=by
   rw[FC]at yX
   simp only[List.length_cons,List.length_nil]at yX
   lia
  have ex:(R0++[x]).getD (p+ms.length -1) 0=x:=by
   rw[AC,HI (by lia),E7,cv]
   rfl
  have eg:∀k,k<p+ms.length -1->(R0++[x]).getD k 0=R0.getD k 0:=fun k hk=>by
   rw[AC,IH (by lia),←AC]
  have bx:x.natAbs<2^(N+s*(M+1)):=bR x (Fn _ (Fm.mpr rfl))
  have ZE:∀y∈R0,y.natAbs<2^(N+s*(M+1)):=fun y hy=>bR y (P2 _ hy)
  walk_at "vs"
  refine⟨_,pop_at,?_⟩
  rw[Ir]
  walk_at "vs"
  refine⟨p,mK (by rw[Ap,aU];lia),?_⟩
  have et:=iV (n:=room) (f:=hd) (g:=fun k=>if k=p then x else hd k) (k:=p) (by lia) (fun j _ hj=>Bi hj)
  rw[Bz rfl]at et
  rw[←List.map_set,et]
  refine⟨R0,l,rfl,by lia,fun y hy=>aF bL (ZE y hy) (by lia),?_⟩
  have em:(R0.map fun y=>l*y)=tabI (p+ms.length -1) fun k=>l*R0.getD k 0:=by
   conv=>lhs;rw[oY R0 E7]
   unfold tabI
   rw[List.map_map]
   rfl
  rw[em]
  unfold wI
  walk_at "vs"
  rw[Ak]
  refine⟨by lia,by lia,?_⟩
  rw[show((ms.length:Int) -1).toNat=ms.length -1 by lia]
  refine bX (fun j ε=>∃(v8:Option W),ε=[some (.lst (ns.map W.int)),some (.lst (ms.map W.int)),some (.int room),some (.int l),some (.lst ((tabI (p+ms.length -1) fun k=>if p<=k/\k<p+j then l*R0.getD k 0 -x*ms.getD (k -p) 0 else l*R0.getD k 0).map W.int)),some (.lst ((tabI room fun k=>if k=p then x else hd k).map W.int)),some (.int p),some (.int x),v8,none]) ⟨v8,?_⟩ ?_ ?_
  ·rw[jY (n:=p+ms.length -1) (f:=fun k=>if p<=k/\k<p+0 then l*R0.getD k 0 -x*ms.getD (k -p) 0 else l*R0.getD k 0) fun k _=>Bi (show¬(p<=k/\k<p+0) by clear em et bx ex E7 yX lR V8 bs hp hpp hw hs eR iB eL bL hl Ak hNM lb la lm;lia)]
  ·rintro j w _ N2 Cq ⟨v8,rfl⟩ JD
   obtain⟨hj,rfl⟩:=mJ Cq
   have ix:p+j<p+ms.length -1:=by lia
   walk_at "vs"
   rw[show(p:Int)+(j:Int)=((p+j:Nat):Int) by lia]
   refine⟨_,cM (by rw[FR,g7 ix];rfl),?_⟩
   rw[Bi (show¬(p<=p+j/\p+j<p+j) by lia)]
   refine⟨_,cM (int_at (by clear ix Cq;lia)),?_⟩
   walk_at "vs"
   refine⟨aF bx (dI bm j) (by lia),p+j,mK (by rw[Ap,aU];exact ix),JD _ ⟨some (.int j),?_⟩⟩
   have e:=iV (n:=p+ms.length -1) (f:=fun k=>if p<=k/\k<p+j then l*R0.getD k 0 -x*ms.getD (k -p) 0 else l*R0.getD k 0) (g:=fun k=>if p<=k/\k<p+(j+1)then l*R0.getD k 0 -x*ms.getD (k -p) 0 else l*R0.getD k 0) ix (fun k _ hk=>by
    by_cases hkj:p<=k/\k<p+j
    ·rw[Bz hkj,Bz (by lia)]
    ·rw[Bi hkj,Bi (by lia)])
   rw[Bz (by lia),Nat.add_sub_cancel_left]at e
   rw[←e,List.map_set]
  ·rintro _ ⟨v8,rfl⟩
   rw[Bx]
   have r1:room -(s+1)=p:=by clear bs V8 yX lR;lia
   have r2:room -s=p+1:=by clear bs V8 yX lR;lia
   refine xO _ ⟨_,fun k=>if k=p then x else hd k,fun i=>l*Qf i+if i=p then(R0++[x]).getD (p+ms.length -1) 0 else 0,_,_,_,⟨dv.step lm hl.symm yX (R':=tabI (p+ms.length -1) fun k=>if p<=k/\k<p+(ms.length -1)then l*R0.getD k 0 -x*ms.getD (k -p) 0 else l*R0.getD k 0) (aU _ _) (fun k hk=>?_),by rw[aU,Nat.sub_add_eq,←lR,yX],fun y hy=>?_,fun i h1 h2=>?_,fun i h=>?_⟩,rfl⟩
   ·rw[r9 hk,ex,eg k hk]
    by_cases hpk:p<=k
    ·rw[Bz ⟨hpk,by clear hpk;lia⟩,Bz hpk]
    ·rw[Bi (by lia),Bi hpk,Int.sub_zero]
   ·obtain⟨k,hk,rfl⟩:=sd hy
    have c1:(l*R0.getD k 0).natAbs<2^(M+(N+s*(M+1))):=by
     rw[Fk]
     exact lt_mul bL (dI ZE k)
    have c2:(x*ms.getD (k -p) 0).natAbs<2^(M+(N+s*(M+1))):=by
     rw[Fk,cw]
     exact lt_mul (dI bm _) bx
    have c3:2^(N+(s+1)*(M+1))=2*2^(M+(N+s*(M+1))):=by
     rw[Nat.add_mul,Nat.one_mul,show N+(s*(M+1)+(M+1))=(M+(N+s*(M+1)))+1 by lia,Nat.pow_succ]
     lia
    rw[c3]
    split
    ·exact Iq c1 c2
    ·exact GE c1 (Nat.le_mul_of_pos_left _ (by decide))
   ·show l*Qf i+(if i=p then _ else 0)=(if i=p then x else hd i)*l^(i -(room -(s+1)))/\(if i=p then x else hd i).natAbs<_
    rw[r1]at h2⊢
    rw[r2]at hq hz
    by_cases Q9:i=p
    ·rw[Bz Q9,Bz Q9,hz i (.inl (by rw[Q9];exact QP p)),ex,Q9,cv,OF]
     refine⟨by rw[Kt,Int.zero_add,ag],?_⟩
     rw[show room -1 -p=s by clear bs V8 yX lR h2 h1;lia]
     exact bx
    ·have pi:=Nat.lt_of_le_of_ne h2 (Q1 Q9)
     have hh:=hq i h1 pi
     rw[Bi Q9,Bi Q9,hh.1,XT pi,Iy]
     exact⟨by grind,hh.2⟩
   ·show l*Qf i+(if i=p then _ else 0)=0
    rw[Bi (by lia),hz i (by lia),Kt]
    rfl
 ·rintro _ ⟨R,hs,Qf,v6,v7,v8,⟨dv,lR,bR,hq,hz⟩,rfl⟩
  rw[Bx]at dv lR bR hq hz
  have brr:=hroom room (by lia)
  walk_at "vs"
  refine⟨by lia,by lia,?_⟩
  rw[Int.toNat_natCast]
  refine bX (fun j ε=>∃(v6:Option W),ε=[some (.lst (ns.map W.int)),some (.lst (ms.map W.int)),some (.int room),some (.int l),some (.lst (R.map W.int)),some (.lst ((tabI room fun k=>if k<j then hs k*l^k else hs k).map W.int)),v6,v7,v8,some (.int (l^j))]) ⟨v6,?_⟩ ?_ ?_
  ·rw[OF,jY (n:=room) (f:=fun k=>if k<0 then hs k*l^k else hs k) fun k _=>Bi (Nat.not_lt_zero k)]
  ·rintro j w _ N2 Cq ⟨v6,rfl⟩ JD
   obtain⟨hj',rfl⟩:=mJ Cq
   have bh:=(hq j hj' (by lia)).2
   have bp:=Ik (i:=j) bL
   have ZF:(l^j).natAbs<2^(M*j+1):=by
    have:2^(M*j+1)=2*2^(M*j):=by rw[Nat.pow_succ];lia
    have:0<2^(M*j):=Os (by decide)
    lia
   have k1:=hroom (room -1 -j) (by lia)
   have k2:M*j<=M*101:=DL _ (by lia)
   walk_at "vs"
   refine⟨_,cM (by rw[FR,g7 hj'];rfl),?_⟩
   rw[Bi (SU j)]
   walk_at "vs"
   refine⟨aF bh ZF (by lia),j,mK (by rw[Ap,aU];exact hj'),aF ZF bL (by lia),?_⟩
   have e:=iV (n:=room) (f:=fun k=>if k<j then hs k*l^k else hs k) (g:=fun k=>if k<j+1 then hs k*l^k else hs k) hj' (fun k _ hk=>by
    by_cases hkj:k<j
    ·rw[Bz hkj,Bz (by lia)]
    ·rw[Bi hkj,Bi (by lia)])
   rw[Bz (QP j)]at e
   rw[←List.map_set,e]
   refine JD _ ⟨some (.int j),?_⟩
   rw[Iy]
  ·rintro _ ⟨v6,rfl⟩
   rw[Bx]
   walk_at "vs"
   refine⟨R,rfl,fun ts tr=>?_⟩
   refine⟨ak (by simp),?_⟩
   have tl:=rZ tr
   have eqf:∀i,Qf i=(tabI room fun k=>if k<room then hs k*l^k else hs k).getD i 0:=fun i=>by
    rw[qK]
    by_cases hi:i<room
    ·rw[Bz hi,Bz hi,(hq i hi (by lia)).1,show i -(room -room)=i by lia]
    ·rw[Bi hi,hz i (by lia)]
   refine q _ ts ⟨?_,by lia,fun k=>?_,fun y hy=>?_,fun y hy=>?_,tr.last⟩
   ·rw[aU,iB]
   ·rw[iB,hl,dv k,wk tr]
    congr 2
    exact funext eqf
   ·obtain⟨k,hk,rfl⟩:=sd hy
    rw[Bz hk,Fk,iB]
    refine gM (LA (hq k hk (by lia)).2 (Ik (i:=k) bL)) ?_
    have e:room*(M+1)=(room -1 -k)*(M+1)+(k+1)*(M+1):=by
     rw[←Nat.add_mul,show room -1 -k+(k+1)=room by lia]
    have e2:M*k<=(k+1)*(M+1):=by
     rw[cw]
     exact Jn (by lia) (by lia)
    lia
   ·rw[iB]
    exact bR y (tr.mem y hy)
end VL
namespace Num
noncomputable def hz(t:Int):List Int->List Int
 |[]=>[]
 |r::rs=>(r+t*(hz t rs).headD 0)::hz t rs
noncomputable def cs(l:List Int):List Rat:=l.map fun x:Int=>((x:Int):Rat)
noncomputable def sc(u b:Rat):List Rat->List Rat
 |[]=>[]
 |r::rs=>r*u*b^rs.length::sc u b rs
theorem se(x:Rat)(i:Nat):∀j:Nat,x^(i+j)=x^i*x^j
 |0=>by rw[Ts,Nat.add_zero];grind
 |j+1=>by
  rw[show i+(j+1)=(i+j)+1 by lia,Sr,Sr,se x i j]
  grind
noncomputable def By(N n:Nat)(r:Rat):Prop:=r.num.natAbs<2^N/\r.den<2^n
theorem By.mul{N M n m:Nat}{a b:Rat}(h1:By N n a)(h2:By M m b):By (N+M) (n+m) (a*b):=by
 have q:=QT (n:=a.num*b.num) (d:=a.den*b.den) (Nat.mul_ne_zero a.den_nz b.den_nz)
 rw[←Rat.mul_def']at q
 have l1:=lt_mul h1.1 h2.1
 have l3:=lt_mul h1.2 h2.2
 rw[Fk]at q
 exact⟨by lia,by lia⟩
theorem By.up{N M n m:Nat}{a:Rat}(h:By N n a)(h1:N<=M)(h2:n<=m):By M m a:=⟨GE h.1 (GT (by decide) h1),GE h.2 (GT (by decide) h2)⟩
theorem Bd.dd{n:Nat}{a:Rat}(h:Bd n a):By n n a:=h
noncomputable def gz(t:Int)(M:List Int)(k:Nat):Int:=(hz t (M.drop k)).headD 0
end Num
namespace L2
open PySem
end L2
namespace VL
open PySem PySem.Spec
open PyProof.Rows hiding St
open L2 Num
theorem Iu(as bs:List Int)(i k:Nat):cf as bs (i+1) k=cf as bs i k+as.getD i 0*(if i<=k then bs.getD (k -i) 0 else 0):=by
 rw[yH,yH,sm]
noncomputable def ek:List CS:=[.set 2 (.bin .Add (.bin .Sub (.blt .len [(.var 0)]) (.blt .len [(.var 1)])) (.int 1)),.set 3 (.blt .list [(.var 0)]),.set 4 (.bin .Mult (.lst [(.int 0)]) (.var 2)),.fr [5] true (.oz [(.bin .Sub (.var 2) (.int 1)),(.neg (.int 1)),(.neg (.int 1))]) [.yd 6 (.bin .FloorDiv (.pop 3) (.ix (.var 1) (.neg (.int 1)))),.put 4 (.var 5) (.var 6),.fr [7] true (.oz [(.bin .Sub (.blt .len [(.var 1)]) (.int 1))]) [.put 3 (.bin .Add (.var 5) (.var 7)) (.bin .Sub (.ix (.var 3) (.bin .Add (.var 5) (.var 7))) (.bin .Mult (.var 6) (.ix (.var 1) (.var 7))))]],.ret (.var 4)]
noncomputable def fO:bN:=fun ws Q _=>∃(ns ms Z:List Int) (N:Nat),ws=[wI ns,wI ms]/\(0<ms.length/\0<Z.length/\ns.length<=100/\ns.length+1=Z.length+ms.length/\(∀k,ns.getD k 0=cf Z ms Z.length k)/\ms.getD (ms.length -1) 0≠0/\N<=8000/\(∀x∈ms,x.natAbs<2^N)/\∀x∈Z,x.natAbs<2^N)/\Q (wI Z)
theorem wD{Φ:Nat->bN}{G:Nat->W}{m:Md}(ws:List W)(Q:W->Prop)(R:Addr->Prop)(h:fO ws Q R):wSs Φ G ek (b8 m Q R) (au 8 ws):=by
 obtain⟨ns,ms,Z,N,rfl,⟨lm,lw,ln,XU,hW,Vg,hN,bm,bW⟩,q⟩:=h
 show wSs _ _ ek _ [some (wI ns),some (wI ms),none,none,none,none,none,none]
 unfold ek wI
 unfold wI at q
 have eL:=Di lm
 have bL:=dI bm (ms.length -1)
 have Ak:(ms.map W.int).length=ms.length:=Ap _
 walk_at "vs"
 rw[Ap,Ak,show(ns.length:Int) -(ms.length:Int)+1=((Z.length:Nat):Int) by lia]
 generalize iB:Z.length=room at*
 rw[Int.toNat_natCast,jR,yW]
 refine⟨ak (by simp),by lia,by lia,ak (by simp;lia),?_⟩
 refine uP (by lia) ?_
 walk_at "vs"
 refine bX (fun s ε=>∃(R:List Int) (v5 v6 v7:Option W),(R.length=ns.length -s/\(∀k,k<ns.length -s->R.getD k 0=cf Z ms (room -s) k))/\ε=[some (.lst (ns.map W.int)),some (.lst (ms.map W.int)),some (.int room),some (.lst (R.map W.int)),some (.lst ((tabI room fun k=>if room -s<=k then Z.getD k 0 else 0).map W.int)),v5,v6,v7]) ⟨ns,none,none,none,⟨rfl,fun k _=>by rw[hW k];rfl⟩,?_⟩ ?_ ?_
 ·rw[jY (n:=room) (f:=fun k=>if room -0<=k then Z.getD k 0 else 0) (g:=fun _=>0) fun k hk=>(Bi (show¬room -0<=k by lia))]
 ·rintro s w _ N1 hw ⟨R,v5,v6,v7,⟨lR,cR⟩,rfl⟩ xO
  obtain⟨hs,rfl⟩:=Dj hw
  have hpl:((room:Nat):Int) -1 -(s:Int)=((room -1 -s:Nat):Int):=by lia
  rw[hpl]
  generalize hpp:room -1 -s=p at*
  have CB:room -s=p+1:=by lia
  have yX:R.length=p+ms.length:=by lia
  obtain⟨R0,x,rfl⟩:=Dk (R:=R) (by lia)
  have E7:R0.length=p+ms.length -1:=by
   rw[FC]at yX
   simp only[List.length_cons,List.length_nil]at yX
   lia
  have ex:(R0++[x]).getD (p+ms.length -1) 0=x:=by
   rw[AC,HI (by lia),E7,cv]
   rfl
  have eg:∀k,k<p+ms.length -1->(R0++[x]).getD k 0=R0.getD k 0:=fun k hk=>by
   rw[AC,IH (by lia),←AC]
  have xv:x=Z.getD p 0*ms.getD (ms.length -1) 0:=by
   have:=cR (p+ms.length -1) (by lia)
   rw[ex,CB,Iu,iP Z ms _ p (by clear this ex E7 yX lR CB hpl hpp hw hs XU lw iB Ak bL eL hN Vg ln lm;lia),Bz (by clear this ex E7 yX lR CB hpl hpp hw hs XU lw iB Ak bL eL hN Vg ln;lia),show p+ms.length -1 -p=ms.length -1 by lia,Int.zero_add]at this
   exact this
  have XW:=dI bW p
  have hv:x.fdiv (ms.getD (ms.length -1) 0)=Z.getD p 0:=by
   rw[xv,SF ⟨Z.getD p 0,ar _ _⟩,Int.mul_ediv_cancel _ Vg]
  walk_at "vs"
  refine⟨_,pop_at,?_⟩
  rw[Ir]
  walk_at "vs"
  refine⟨_,eL,?_⟩
  walk_at "vs"
  refine⟨⟨Vg,e9 bL hN⟩,?_⟩
  rw[hv]
  refine⟨p,mK (by rw[Ap,aU];lia),?_⟩
  have et:=iV (n:=room) (f:=fun k=>if room -s<=k then Z.getD k 0 else 0) (g:=fun k=>if room -(s+1)<=k then Z.getD k 0 else 0) (k:=p) (by lia) (fun j _ hj=>by
   by_cases hj2:room -s<=j
   ·rw[Bz hj2,Bz (by lia)]
   ·rw[Bi hj2,Bi (by lia)])
  rw[Bz (by clear et hv XW xv ex E7 yX lR CB hpl;lia)]at et
  rw[←List.map_set,et,Ak]
  refine⟨by lia,by lia,?_⟩
  rw[show((ms.length:Int) -1).toNat=ms.length -1 by lia]
  refine bX (fun j ε=>∃(v7:Option W),ε=[some (.lst (ns.map W.int)),some (.lst (ms.map W.int)),some (.int room),some (.lst ((tabI (p+ms.length -1) fun k=>if p<=k/\k<p+j then R0.getD k 0 -Z.getD p 0*ms.getD (k -p) 0 else R0.getD k 0).map W.int)),some (.lst ((tabI room fun k=>if room -(s+1)<=k then Z.getD k 0 else 0).map W.int)),some (.int p),some (.int (Z.getD p 0)),v7]) ⟨v7,?_⟩ ?_ ?_
  ·rw[jY (n:=p+ms.length -1) (f:=fun k=>if p<=k/\k<p+0 then R0.getD k 0 -Z.getD p 0*ms.getD (k -p) 0 else R0.getD k 0) fun k _=>Bi (show¬(p<=k/\k<p+0) by clear et hv XW xv ex E7 yX lR CB hpl hpp hw hs XU lw iB Ak bL eL hN Vg ln lm;lia),←oY R0 E7]
  ·rintro j w _ N2 Cq ⟨v7,rfl⟩ JD
   obtain⟨hj,rfl⟩:=mJ Cq
   have ix:p+j<p+ms.length -1:=by lia
   walk_at "vs"
   rw[show(p:Int)+(j:Int)=((p+j:Nat):Int) by lia]
   refine⟨_,cM (by rw[FR,g7 ix];rfl),?_⟩
   rw[Bi (show¬(p<=p+j/\p+j<p+j) by lia)]
   refine⟨_,cM (int_at (by clear ix Cq;lia)),?_⟩
   walk_at "vs"
   refine⟨aF XW (dI bm j) (by lia),p+j,mK (by rw[Ap,aU];exact ix),JD _ ⟨some (.int j),?_⟩⟩
   have e:=iV (n:=p+ms.length -1) (f:=fun k=>if p<=k/\k<p+j then R0.getD k 0 -Z.getD p 0*ms.getD (k -p) 0 else R0.getD k 0) (g:=fun k=>if p<=k/\k<p+(j+1)then R0.getD k 0 -Z.getD p 0*ms.getD (k -p) 0 else R0.getD k 0) ix (fun k _ hk=>by
    by_cases hkj:p<=k/\k<p+j
    ·rw[Bz hkj,Bz (by lia)]
    ·rw[Bi hkj,Bi (by lia)])
   rw[Bz (by lia),Nat.add_sub_cancel_left]at e
   rw[←e,List.map_set]
  ·rintro _ ⟨v7,rfl⟩
   rw[Bx]
   refine xO _ ⟨_,_,_,_,⟨by rw[aU];lia,fun k hk=>?_⟩,rfl⟩
   have hk2:k<p+ms.length -1:=by lia
   rw[r9 hk2,show room -(s+1)=p by lia]
   have c:=cR k (by lia)
   rw[eg k hk2,CB,Iu]at c
   by_cases hpk:p<=k
   ·rw[Bz ⟨hpk,by lia⟩]
    rw[Bz hpk]at c
    lia
   ·rw[Bi (by lia)]
    rw[Bi hpk,Kt,UF]at c
    exact c
 ·rintro _ ⟨R,v5,v6,v7,⟨lR,cR⟩,rfl⟩
  rw[Bx]
  walk_at "vs"
  have e:(tabI room fun k=>if room -room<=k then Z.getD k 0 else 0)=Z:=by
   rw[jY (g:=fun k=>Z.getD k 0) fun k _=>Bz (by lia),←oY Z iB]
  rw[e]
  exact q
noncomputable def nA:List CS:=[.rA [2,3] (.var 0),.rA [4,5] (.var 1),.set 6 (.call 0 [(.var 2),(.var 5)]),.set 7 (.call 0 [(.var 4),(.var 3)]),.ret (.tup [(.bin .Mult (.bin .FloorDiv (.var 2) (.var 6)) (.bin .FloorDiv (.var 4) (.var 7))),(.bin .Mult (.bin .FloorDiv (.var 3) (.var 7)) (.bin .FloorDiv (.var 5) (.var 6)))])]
noncomputable def oZ:bN:=fun ws Q _=>∃(a b:Rat) (N1 N2 n m:Nat),ws=[wq a,wq b]/\(By N1 n a/\By N2 m b/\N1<=1000000/\N2<=1000000/\n<=6000/\m<=6000)/\Q (wq (a*b))
theorem LH{G:Nat->W}{m:Md}(ws:List W)(Q:W->Prop)(R:Addr->Prop)(h:oZ ws Q R):wSs (b7 [Bo]) G nA (b8 m Q R) (au 8 ws):=by
 obtain⟨a,b,N1,N2,n,m,rfl,⟨ba,bb,xO,JD,hn,hm⟩,q⟩:=h
 show wSs _ _ nA _ [some (wq a),some (wq b),none,none,none,none,none,none]
 unfold nA wq
 unfold wq at q
 have ba1:=ba.1
 have ZG:(a.den:Int).natAbs<2^n:=by rw[Int.natAbs_natCast];exact ba.2
 have bb1:=bb.1
 have ZH:(b.den:Int).natAbs<2^m:=by rw[Int.natAbs_natCast];exact bb.2
 obtain⟨hf,hs,e1,e2⟩:=HN a b
 have lf:((Int.gcd a.num b.den:Nat):Int).natAbs<2^m:=by
  have:((Int.gcd a.num b.den:Nat):Int)<=b.den:=dC (dpos b) (Pi ..)
  lia
 have ls:((Int.gcd b.num a.den:Nat):Int).natAbs<2^n:=by
  have:((Int.gcd b.num a.den:Nat):Int)<=a.den:=dC (dpos a) (Pi ..)
  lia
 walk_at "vs"
 refine⟨rfl,?_⟩
 walk_at "vs"
 refine⟨rfl,?_⟩
 walk_at "vs"
 refine⟨a.num,b.den,m,rfl,ZH,by lia,?_⟩
 refine⟨b.num,a.den,n,rfl,ZG,by lia,?_⟩
 generalize((Int.gcd a.num b.den:Nat):Int)=f at*
 generalize((Int.gcd b.num a.den:Nat):Int)=g at*
 have cf:∀i:Int,uw i f:=fun i=>⟨by lia,e9 lf (by lia)⟩
 have cg:∀i:Int,uw i g:=fun i=>⟨by lia,e9 ls (by lia)⟩
 have b1:(a.num/f).natAbs<2^N1:=Gc (Xt ..) ba1
 have b2:(b.num/g).natAbs<2^N2:=Gc (Xt ..) bb1
 have b3:((a.den:Int)/g).natAbs<2^n:=Gc (Xt ..) ZG
 have b4:((b.den:Int)/f).natAbs<2^m:=Gc (Xt ..) ZH
 walk_at "vs"
 simp only[Pl _ (T1 hf),Pl _ (T1 hs)]
 refine⟨cf _,cg _,aF b1 b2 (by lia),cg _,cf _,aF b3 b4 (by lia),ak (by simp),?_⟩
 rw[e1,e2]at q
 exact q
abbrev Vh:List Str:=["ahead","last","factor_ahead","factor_last","lead","height","sign","scale","known"]
noncomputable def jI(C:Addr)(A B fA fB:List Int)(ld h sg sc kn:Int):W:=.obj C Vh [wI A,wI B,wI fA,wI fB,.int ld,.int h,.int sg,.int sc,.int kn]
structure Nd(A B fA fB:List Int)(ld h:Int)(N E:Nat):Prop where
 l2:2<=B.length
 XX:B.length<=A.length
 XY:A.length<=15
 lf:fA.length<=40
 Q3:fB.length<=40
 bA:∀x∈A,x.natAbs<2^N
 bB:∀x∈B,x.natAbs<2^N
 ZI:∀x∈fA,x.natAbs<2^N
 Nf:∀x∈fB,x.natAbs<2^N
 bl:ld.natAbs<2^N
 bh:h.natAbs<2^N
 hN:N<=5000
 hE:E<=7900
 k0:ld*h^(A.length -B.length)≠0
 kE:(ld*h^(A.length -B.length)).natAbs<=2^E
 h0:0<A.length -B.length->h^(A.length -B.length -1)≠0/\(h^(A.length -B.length -1)).natAbs<=2^E
noncomputable def sf(A B Qs R:List Int)(c:Int):Prop:=c=B.getD (B.length -1) 0^(A.length -B.length+1)/\Qs.length=A.length -B.length+1/\(∀k,R.getD k 0=c*A.getD k 0 -cf Qs B Qs.length k)/\R.length<B.length/\(R=[]\/R.getD (R.length -1) 0≠0)
noncomputable def Ra(fA fB Qs F:List Int)(c:Int):Prop:=(∀k,F.getD k 0=c*fA.getD k 0 -cf Qs fB Qs.length k)/\F.length<=max fA.length (Qs.length+fB.length -1)/\(fB=[]->F.length<=fA.length)
noncomputable def Ng(A B:List Int)(sg:Int):Int:=Sub.sg ((A.length -1)*(B.length -1))*sg
theorem wF(n:Nat):Sub.sg n=if n%2=0 then 1 else-1:=by
 unfold Sub.sg
 induction n with
 |zero=>rfl
 |succ n ih=>
  rw[Iy,ih]
  by_cases h:n%2=0
  ·rw[Bz h,Bi (by lia)]
   rfl
  ·rw[Bi h,Bz (by lia)]
   rfl
theorem Iv{A B:List Int}{sg:Int}(a0:0<A.length)(b0:0<B.length)(ha:A.length%2=0)(hb:B.length%2=0):Ng A B sg= -sg:=by
 unfold Ng
 rw[wF,Bi]
 ·lia
 ·rw[Nat.mul_mod,show(A.length -1)%2=1 by lia,show(B.length -1)%2=1 by lia]
  decide
theorem Iw{A B:List Int}{sg:Int}(a0:0<A.length)(b0:0<B.length)(h:¬(A.length%2=0/\B.length%2=0)):Ng A B sg=sg:=by
 unfold Ng
 rw[wF,Bz]
 ·exact RF _
 ·rw[Nat.mul_mod]
  by_cases ha:A.length%2=0
  ·rw[show(B.length -1)%2=0 by lia,Nat.mul_zero]
  ·rw[show(A.length -1)%2=0 by lia,Nat.zero_mul]
theorem qL{n:Nat}:(n:Int).fmod 2=0↔n%2=0:=by
 rw[X9 _ (by decide)]
 lia
noncomputable def yY(C:Addr):bN:=fun ws Q _=>∃(A B fA fB:List Int) (ld h sg sc kn:Int) (N E:Nat),ws=[jI C A B fA fB ld h sg sc kn]/\Nd A B fA fB ld h N E/\
 (∀(Qs:List Int) (c:Int),sf A B Qs [] c->Q (.tup [.bl false,jI C A B fA fB ld h sg sc kn]))/\
 (∀(Qs R F:List Int) (c:Int),R≠[]->sf A B Qs R c->Ra fA fB Qs F c->Q (.tup [.bl true,jI C B (R.map fun y=>y.fdiv (ld*h^(A.length -B.length))) fB (F.map fun y=>y.fdiv (ld*h^(A.length -B.length))) (B.getD (B.length -1) 0) (Sub.hnext h (B.getD (B.length -1) 0) (A.length -B.length)) (Ng A B sg) c (ld*h^(A.length -B.length))]))
theorem yZ{n m:Nat}(h:Nat.blt n m=true):n<m:=Nat.le_of_ble_eq_true h
theorem Rb{y:Int}{n:Nat}(h:y.natAbs<2^n)(e:Nat):(y^e).natAbs<2^(n*e+1):=by
 rw[Sub.jj]
 refine Gc (Qr (Yf h) e) ?_
 rw[←dt]
 exact Nat.pow_lt_pow_right (by decide) (QP _)
theorem BA(as bs:List Int)(k:Nat):(if as=[]\/bs=[]then[]else tabI (as.length+bs.length -1) (cf as bs as.length)).getD k 0=cf as bs as.length k:=by
 by_cases hne:as=[]\/bs=[]
 ·rw[Bz hne]
  rcases hne with z|z
  ·rw[z]
   rfl
  ·rw[qG,z]
   rfl
 ·rw[Bi hne,qK]
  have la:0<as.length:=Bn.mpr fun z=>hne (.inl z)
  split
  ·rfl
  ·rw[iP as bs k as.length (by omega)]
theorem wG(as bs:List Int):(if as=[]\/bs=[]then[]else tabI (as.length+bs.length -1) (cf as bs as.length)).length<=as.length+bs.length -1/\(bs=[]->(if as=[]\/bs=[]then[]else tabI (as.length+bs.length -1) (cf as bs as.length)).length=0):=by
 by_cases hne:as=[]\/bs=[]
 ·rw[Bz hne]
  exact⟨KM _,fun _=>rfl⟩
 ·rw[Bi hne,aU]
  exact⟨Do _,fun z=>absurd (.inr z) hne⟩
theorem Iz{as bs:List Int}{n m:Nat}(h1:∀y∈as,y.natAbs<2^n)(h2:∀y∈bs,y.natAbs<2^m)(hl:as.length<=100):∀y∈(if as=[]\/bs=[]then[]else tabI (as.length+bs.length -1) (cf as bs as.length)),y.natAbs<2^(n+m+7):=fun y hy=>by
 by_cases hne:as=[]\/bs=[]
 ·rw[Bz hne]at hy
  cases hy
 ·rw[Bi hne]at hy
  obtain⟨k,_,rfl⟩:=sd hy
  refine Gc (M9 h1 h2 k as.length) ?_
  have e:(2:Nat)^(n+m+7)=2^(n+m)*128:=du 2 (n+m) 7
  have p0:0<2^(n+m):=Os (by decide)
  rw[e]
  generalize 2^(n+m)=z at*
  have:=Ya z hl
  omega
theorem Rc{A B Qs R:List Int}{N M:Nat}(h:Q6 A B N M Qs R)(XX:B.length<=A.length):sf A B Qs R (B.getD (B.length -1) 0^(A.length+1 -B.length)):=by
 have e:A.length+1 -B.length=A.length -B.length+1:=by lia
 refine⟨by rw[e],by rw[h.Q7,e],fun k=>?_,h.Q8,h.last⟩
 rw[h.eq k,qF]
 show _=aq (fun i=>Qs.getD i 0) (fun i=>B.getD i 0) k+_ -aq (fun i=>Qs.getD i 0) (fun i=>B.getD i 0) k
 lia
noncomputable def eu:List CS:=[.rA [1,2,3] (.call 0 [(.own 0 [.fl 0 "ahead"]),(.own 0 [.fl 1 "last"])]),.iff (.cmp .Eq (.var 2) (.lst [])) [.ML (.bl false)] [],.set 4 (.call 1 [(.call 2 [(.own 0 [.fl 2 "factor_ahead"]),(.var 3)]),(.call 3 [(.var 1),(.own 0 [.fl 3 "factor_last"])])]),.iff (.and [(.cmp .Eq (.bin .Mod (.blt .len [(.own 0 [.fl 0 "ahead"])]) (.int 2)) (.int 0)),(.cmp .Eq (.bin .Mod (.blt .len [(.own 0 [.fl 1 "last"])]) (.int 2)) (.int 0))]) [.EF 0 6 (.neg (.own 0 [.fl 6 "sign"]))] [],.set 5 (.bin .Sub (.blt .len [(.own 0 [.fl 0 "ahead"])]) (.blt .len [(.own 0 [.fl 1 "last"])])),.set 6 (.bin .Mult (.own 0 [.fl 4 "lead"]) (.call 4 [(.own 0 [.fl 5 "height"]),(.var 5)])),.EF 0 7 (.var 3),.EF 0 8 (.var 6),.EF 0 0 (.own 0 [.fl 1 "last"]),.EF 0 2 (.own 0 [.fl 3 "factor_last"]),.EF 0 1 (.comp [0] true 1 (.var 2) (.bl true) (.bin .FloorDiv (.var 0) (.var 7))),.EF 0 3 (.comp [0] true 1 (.var 4) (.bl true) (.bin .FloorDiv (.var 0) (.var 7))),.EF 0 4 (.ix (.own 0 [.fl 0 "ahead"]) (.neg (.int 1))),.EF 0 5 (.call 5 [(.own 0 [.fl 5 "height"]),(.own 0 [.fl 4 "lead"]),(.var 5)]),.ML (.bl true)]
theorem wH{G:Nat->W}{m:Md}{C:Addr}(ws:List W)(Q:W->Prop)(R:Addr->Prop)(h:yY C ws Q R):wSs (b7 [cH,cT,gk,b9,ee,ef]) G eu (b8 m Q R) (au 7 ws):=by
 obtain⟨A,B,fA,fB,ld,h,sg,sc,kn,N,E,rfl,⟨l2,XX,XY,lf,Q3,bA,bB,ZI,Nf,bl,bh,hN,hE,k0,kE,h0⟩,q1,q2⟩:=h
 show wSs _ _ eu _ [some (jI C A B fA fB ld h sg sc kn),none,none,none,none,none,none]
 have lB:=dI bB (B.length -1)
 have eLB:=Di (ns:=B) (by lia)
 unfold eu
 have m1:N*(A.length+1 -B.length)<=5000*14:=Jn hN (by lia)
 have m2:(A.length+1 -B.length)*(N+1)<=14*5001:=Jn (by lia) (by lia)
 refine aR (fun ε'=>∃Qs R1,Q6 A B N N Qs R1/\ε'=[some (jI C A B fA fB ld h sg sc kn),some (wI Qs),some (wI R1),some (.int (B.getD (B.length -1) 0^(A.length+1 -B.length))),none,none,none]) (fun N1 xO=>?_) ?_
 ·unfold jI at xO⊢
  walk_at "vs"
  exact⟨A,B,N,N,rfl,⟨by lia,by lia,by lia,bA,bB,by lia⟩,fun Qs R dv=>⟨rfl,xO _ ⟨Qs,R,dv,rfl⟩⟩⟩
 rintro _ ⟨Qs,R1,dv,rfl⟩
 have dR:=Rc dv XX
 have ZJ:=dv.bQ
 have lQ:=dv.Q7
 have lR:=dv.Q8
 generalize hc:B.getD (B.length -1) 0^(A.length+1 -B.length)=c at*
 obtain⟨n0,hn0⟩:∃n0:Nat,n0=80000:=⟨_,rfl⟩
 have bc:c.natAbs<2^n0:=by
  rw[←hc]
  exact gM (Rb lB _) (by lia)
 refine aR (fun ε'=>R1≠[]/\ε'=[some (jI C A B fA fB ld h sg sc kn),some (wI Qs),some (wI R1),some (.int c),none,none,none]) (fun N1 xO=>?_) ?_
 ·walk_at "vs"
  refine⟨ak (by simp),QY (y:=[]) fun k hk=>?_⟩
  walk_at "vs"
  by_cases hR:R1=[]
  ·cases cP hk hR
   walk_at "vs"
   subst hR
   exact q1 Qs c dR
  ·cases bK hk hR
   walk_at "vs"
   exact xO _ ⟨hR,rfl⟩
 rintro _ ⟨hR,rfl⟩
 refine aR (fun ε'=>∃F,Ra fA fB Qs F c/\F.length<=100/\ε'=[some (jI C A B fA fB ld h sg sc kn),some (wI Qs),some (wI R1),some (.int c),some (wI F),none,none]) (fun N1 xO=>?_) ?_
 ·unfold jI at xO⊢
  walk_at "vs"
  refine⟨fA,c,rfl,by lia,fun y hy=>aF bc (ZI y hy) (by lia),?_⟩
  refine⟨Qs,fB,rfl,by lia,by lia,fun y hy z hz=>aF (ZJ y hy) (Nf z hz) (by lia),?_⟩
  have tl:=wG Qs fB
  have tb:=Iz ZJ Nf (by lia)
  have tc:=BA Qs fB
  generalize(if Qs=[]\/fB=[]then[]else tabI (Qs.length+fB.length -1) (cf Qs fB Qs.length))=L4 at*
  refine⟨_,L4,_,rfl,by rw[Ap];lia,by lia,?_,tb,fun F tr=>?_⟩
  ·lia
  have lF:=rZ tr
  rw[Ap,Ta,Ap]at lF
  refine xO _ ⟨F,⟨fun k=>?_,by lia,fun z=>?_⟩,by lia,rfl⟩
  ·rw[wk tr,←tc k]
   by_cases hk:k<max (fA.map (c*·)).length L4.length
   ·rw[AC,FR,T2 hk]
    show(fA.map fun y=>c*y).getD k 0 -_=_
    rw[Sub.map_getD (f:=fun y=>c*y) (Kt c)]
   ·rw[Ap]at hk
    rw[outI (by rw[Ap,Ta,Ap];lia),outI (ns:=L4) (by lia),outI (ns:=fA) (by lia)]
    simp
  ·have:=tl.2 z
   lia
 rintro _ ⟨F,dF,lF,rfl⟩
 refine aR (fun ε'=>ε'=[some (jI C A B fA fB ld h (Ng A B sg) sc kn),some (wI Qs),some (wI R1),some (.int c),some (wI F),none,none]) (fun N1 xO=>?_) ?_
 ·have a0:0<A.length:=by lia
  have b0:0<B.length:=by lia
  have y:¬(A.length%2=0/\B.length%2=0)->N1 [some (jI C A B fA fB ld h sg sc kn),some (wI Qs),some (wI R1),some (.int c),some (wI F),none,none]:=fun e=>xO _ (by rw[Iw a0 b0 e])
  have z:A.length%2=0->B.length%2=0->N1 [some (jI C A B fA fB ld h (-sg) sc kn),some (wI Qs),some (wI R1),some (.int c),some (wI F),none,none]:=fun e1 e2=>xO _ (by rw[Iv a0 b0 e1 e2])
  clear xO
  unfold jI wI at y z⊢
  walk_at "vs"
  refine⟨by decide,?_⟩
  by_cases e1:((A.map W.int).length:Int).fmod 2=0
  ·rw[Bz (IR e1)]
   refine⟨by decide,?_⟩
   by_cases e2:((B.map W.int).length:Int).fmod 2=0
   ·rw[Bz (IR e2)]
    rw[Ap]at e1 e2
    exact⟨by simp,z (qL.mp e1) (qL.mp e2)⟩
   ·rw[Bi (by rw[Ha];exact e2)]
    rw[Ap]at e2
    exact y fun t=>e2 (qL.mpr t.2)
  ·rw[Bi (by rw[Ha];exact e1)]
   rw[Ap]at e1
   exact y fun t=>e1 (qL.mpr t.1)
 rintro _ rfl
 have qq:=q2 Qs R1 F c hR dR dF
 generalize Ng A B sg=sg' at*
 have Vi:(ld*h^(A.length -B.length)).natAbs.log2<9000:=e9 (n:=E+1) (Gc kE (Nat.pow_lt_pow_right (by decide) (QP _))) (by lia)
 have m3:N*(A.length -B.length+1)<=N*(A.length+1 -B.length):=DL _ (by lia)
 have m4:N*(A.length -B.length)<=N*(A.length -B.length+1):=DL _ (by lia)
 clear q1 q2
 unfold jI wI at qq⊢
 walk_at "vs"
 rw[Ap,Ap,show(A.length:Int) -(B.length:Int)=((A.length -B.length:Nat):Int) by lia]
 generalize Ve:A.length -B.length=δ at*
 refine⟨h,δ,N,rfl,bh,by lia,?_⟩
 walk_at "vs"
 refine⟨aF bl (Rb bh δ) (by lia),yZ rfl,yZ rfl,yZ rfl,yZ rfl,?_⟩
 refine gH (h:=W.int) (g:=fun y=>.int (y.fdiv (ld*h^δ))) R1 [] _ (fun y hy K hK=>⟨⟨k0,Vi⟩,hK⟩) (ak (by simp;lia)) ⟨yZ rfl,?_⟩
 refine gH (h:=W.int) (g:=fun y=>.int (y.fdiv (ld*h^δ))) F [] _ (fun y hy K hK=>⟨⟨k0,Vi⟩,hK⟩) (ak (by simp;lia)) ⟨yZ rfl,_,eLB,yZ rfl,?_⟩
 refine⟨h,B.getD (B.length -1) 0,δ,N,rfl,⟨bh,lB,by lia,fun hd=>⟨(h0 hd).1,e9 (n:=E+1) (Gc (h0 hd).2 (Nat.pow_lt_pow_right (by decide) (QP _))) (by lia)⟩⟩,yZ rfl,?_⟩
 rw[List.map_map,List.map_map]at qq
 exact qq
abbrev CI:=List Int->List Int->List Int->List Int->Int->Int->Int->Prop
noncomputable def Kept(I:CI):Prop:=∀(A B fA fB:List Int) (ld h sg:Int),I A B fA fB ld h sg->2<=B.length->(∃N E,Nd A B fA fB ld h N E)/\∀(Qs R F:List Int) (c:Int),R≠[]->sf A B Qs R c->Ra fA fB Qs F c->
 I B (R.map fun y=>y.fdiv (ld*h^(A.length -B.length))) fB (F.map fun y=>y.fdiv (ld*h^(A.length -B.length))) (B.getD (B.length -1) 0) (Sub.hnext h (B.getD (B.length -1) 0) (A.length -B.length)) (Ng A B sg)
noncomputable def pM(C:Addr):bN:=fun ws Q _=>∃(A B fA fB:List Int) (ld h sg sc kn:Int) (I:CI),ws=[jI C A B fA fB ld h sg sc kn]/\(I A B fA fB ld h sg/\Kept I)/\
 ∀(A B fA fB:List Int) (ld h sg sc kn:Int),I A B fA fB ld h sg->(B.length<2\/∃Qs c,sf A B Qs [] c)->Q (.tup [.aX,jI C A B fA fB ld h sg sc kn])
noncomputable def eE:List CS:=[.set 1 (.bl true),.GF (.and [(.var 1),(.cmp .Gt (.blt .len [(.own 0 [.fl 1 "last"])]) (.int 1))]) [.yd 1 (.GD 0 0 0 [])]]
structure ChS where
 A:List Int
 B:List Int
 fA:List Int
 fB:List Int
 ld:Int
 h:Int
 sg:Int
 sc:Int
 kn:Int
 g:Bool
theorem wJ{m:Md}{C:Addr}(ws:List W)(Q:W->Prop)(R:Addr->Prop)(h:pM C ws Q R):wSs (b7 [yY C]) (ou [.cls C]) eE (b8 (.io m) Q R) (au 2 ws):=by
 obtain⟨A,B,fA,fB,ld,h,sg,sc,kn,I,rfl,⟨hI,kept⟩,q⟩:=h
 show wSs _ _ eE _ [some (jI C A B fA fB ld h sg sc kn),none]
 unfold eE
 walk_at "vs"
 refine mE (α:=ChS) (fun s=>[some (jI C s.A s.B s.fA s.fB s.ld s.h s.sg s.sc s.kn),some (.bl s.g)]) (fun s=>I s.A s.B s.fA s.fB s.ld s.h s.sg/\(s.g=false->∃Qs c,sf s.A s.B Qs [] c)) (fun s=>if s.g then s.B.length+1 else 0) ⟨A,B,fA,fB,ld,h,sg,sc,kn,true⟩ rfl ⟨hI,fun z=>by cases z⟩ ?_
 clear hI
 rintro⟨A,B,fA,fB,ld,h,sg,sc,kn,g⟩ ⟨hI,hg⟩
 dsimp only at hI hg⊢
 have q0:=q A B fA fB ld h sg sc kn hI
 cases g with
 |false=>
  walk_at "vs"
  refine iy (fun z=>by cases z) (fun _=>?_)
  exact q0 (.inr (hg rfl))
 |true=>
  unfold jI at q0⊢
  unfold wI at q0⊢
  walk_at "vs"
  refine iy (fun z=>?_) (fun z=>?_)
  ·have z:=DD z
   rw[Ap]at z
   obtain⟨⟨N,E,room⟩,nxt⟩:=kept A B fA fB ld h sg hI (by lia)
   walk_at "vs"
   refine⟨rfl,A,B,fA,fB,ld,h,sg,sc,kn,N,E,rfl,room,fun Qs c dv=>?_,fun Qs R F c hR dv df=>?_⟩
   ·refine⟨_,_,rfl,⟨A,B,fA,fB,ld,h,sg,sc,kn,false⟩,rfl,⟨hI,fun _=>⟨Qs,c,dv⟩⟩,?_⟩
    show 0<_+1
    lia
   ·refine⟨_,_,rfl,⟨B,_,fB,_,_,_,_,c,_,true⟩,rfl,⟨nxt Qs R F c hR dv df,fun z=>by cases z⟩,?_⟩
    have:=dv.2.2.2.1
    show(R.map _).length+1<B.length+1
    rw[Ap]
    lia
  ·have z:=of_decide_eq_false z
   rw[Ap]at z
   exact q0 (.inl (by lia))
theorem aD{x n:Nat}(h:x<=2^n):x<2^(n+1):=Gc h (Nat.pow_lt_pow_right (by decide) (QP _))
noncomputable def GI(ns ms:List Int)(w E:Nat):List Int->List Int->List Int->List Int->Int->Int->Prop:=fun A B fA fB ld h=>Sub.CS ns ms [1] [] w E (ms.length+1) A B fA fB ld h/\∃vA vB:List Int,Sub.CS ns ms [] [1] w E (ns.length+1) A B vA vB ld h/\(∀k,co A k=aq (co fA) (co ns) k+aq (co vA) (co ms) k)/\(∀k,co B k=aq (co fB) (co ns) k+aq (co vB) (co ms) k)/\
 (∀G,Dv G (co A)->Dv G (co B)->Dv G (co ns)/\Dv G (co ms))/\((A=ns/\B=ms/\fB=[]/\vB=[1])\/B.length<ms.length)/\(One fun k=>aq (co fA) (co vB) k -aq (co fB) (co vA) k)
theorem Dl{R:List Int}{d:Int}(h:∀x∈R,d∣x)(k:Nat):d∣R.getD k 0:=by
 by_cases hk:k<R.length
 ·exact h _ (Sub.getD_mem' hk)
 ·rw[outI (by lia)]
  exact Int.dvd_zero _
theorem c9{R:List Int}{d:Int}(h:∀x∈R,d∣x)(k:Nat):co R k=d*co (R.map fun y=>y.fdiv d) k:=by
 show R.getD k 0=d*(R.map fun y=>y.fdiv d).getD k 0
 rw[Sub.map_getD (f:=fun y=>y.fdiv d) (Int.zero_fdiv _),SF (Dl h k),Int.mul_ediv_cancel' (Dl h k)]
theorem ghost(vA vB Qs:List Int)(c:Int):∃G:List Int,(∀k,G.getD k 0=c*vA.getD k 0 -cf Qs vB Qs.length k)/\G.length<=max vA.length (Qs.length+vB.length -1)/\(vB=[]->G.length<=vA.length):=by
 by_cases hv:vB=[]
 ·refine⟨tabI vA.length fun k=>c*vA.getD k 0 -cf Qs vB Qs.length k,fun k=>?_,by rw[aU];omega,fun _=>by rw[aU];exact Do _⟩
  rw[qK]
  split
  ·rfl
  ·have e:cf Qs vB Qs.length k=0:=by
    rw[qG,hv]
    rfl
   rw[e,outI (ns:=vA) (by lia)]
   simp
 ·refine⟨tabI (max vA.length (Qs.length+vB.length -1)) fun k=>c*vA.getD k 0 -cf Qs vB Qs.length k,fun k=>?_,by rw[aU];exact Do _,fun z=>absurd z hv⟩
  rw[qK]
  split
  ·rfl
  ·have lv:0<vB.length:=Bn.mpr hv
   rw[iP Qs vB k Qs.length (by omega),outI (ns:=vA) (by omega)]
   simp
theorem LI{ns ms:List Int}{w E:Nat}(X1:Sub.FX ns ms [1] [] w E)(X2:Sub.FX ns ms [] [1] w E)(XY:ns.length<=15)(hN:w*(ns.length -1+(ms.length -1)+1)+1<=5000)(hE:w*E<=7900):Kept (fun A B fA fB ld h _=>GI ns ms w E A B fA fB ld h):=by
 rintro A B fA fB ld h _ ⟨C1,vA,vB,C2,bA,bB,dd,st,V9⟩ l2
 have l1:=X1.l1
 have Bv:=C1.Bv
 have lp:=C1.lp
 have lf:=C1.lf
 have Q2:=C1.Q2
 obtain⟨k0,kE,h0⟩:=C1.size X1 l2
 obtain⟨b1,b2,b3,b4⟩:=C1.bd
 refine⟨⟨w*(ns.length -1+(ms.length -1)+1)+1,w*E,⟨l2,Bv,by lia,by lia,?_,fun x hx=>aD (b1 x hx),fun x hx=>aD (b2 x hx),fun x hx=>aD (b3 x hx),fun x hx=>aD (b4 x hx),aD C1.bl,?_,hN,hE,k0,kE,h0⟩⟩,?_⟩
 ·rcases C1.Q3 with z|z
  ·rw[z]
   exact KM _
  ·lia
 ·exact aD (Dx C1.bh (GT (by decide) (DL _ (by lia))))
 rintro Qs R F c hR ⟨hc,E6,cR,lR,zR⟩ ⟨cF,lF,JE⟩
 obtain⟨G,cG,lG,XZ⟩:=ghost vA vB Qs c
 obtain⟨_,_,dR,dF,_,_,S1⟩:=C1.step X1 l2 hc E6 cR lR zR cF lF JE
 obtain⟨_,_,_,dG,_,_,S2⟩:=C2.step X2 l2 hc E6 cR lR zR cG lG XZ
 have Wa:∀k,co R k=c*co A k -aq (co Qs) (co B) k:=fun k=>by rw[←iX];exact cR k
 have Vj:∀k,co F k=c*co fA k -aq (co Qs) (co fB) k:=fun k=>by rw[←iX];exact cF k
 have Vk:∀k,co G k=c*co vA k -aq (co Qs) (co vB) k:=fun k=>by rw[←iX];exact cG k
 have c0:c≠0:=by
  rw[hc]
  exact Sub.aQ C1.ch.uO _
 refine⟨S1 hR,vB,_,S2 hR,bB,Dh (B:=co B) k0 (yS bA bB Wa Vj Vk) (c9 dR) (c9 dF) (c9 dG),fun G' h1 h2=>dd G' (Dv.step (d:=ld*h^(A.length -B.length)) (Qs:=co Qs) c0 ⟨Qs.length,fun i hi=>outI hi⟩ h1 h2 fun k=>?_) h1,.inr (by rw[Ap];lia),yT k0 c0 Vj Vk (c9 dF) (c9 dG) V9⟩
 have:=Wa k
 rw[c9 dR k]at this
 rw[this]
 lia
theorem qM:∀(n:Nat) (V:List Int),V.length=n->∃W:List Int,(∀k,W.getD k 0=V.getD k 0)/\(W=[]\/W.getD (W.length -1) 0≠0)/\W.length<=V.length
 |0,V,h=>⟨V,fun _=>rfl,.inl (Kj.mp h),Do _⟩
 |n+1,V,h=>by
  have hne:V≠[]:=fun z=>by rw[z]at h;cases h
  obtain⟨V0,x,rfl⟩:∃V0 x,V=V0++[x]:=⟨V.dropLast,V.getLast hne,(Tb hne).symm⟩
  have l0:V0.length=n:=by
   rw[FC]at h
   simp only[List.length_cons,List.length_nil]at h
   lia
  have ex:(V0++[x]).getD n 0=x:=by
   rw[AC,HI (by lia),l0,cv]
   rfl
  by_cases hx:x=0
  ·obtain⟨W,e,z,l⟩:=qM n V0 l0
   refine⟨W,fun k=>?_,z,by rw[FC];lia⟩
   rw[e k]
   by_cases hk:k<V0.length
   ·rw[AC,AC,IH hk]
   ·rw[outI (by lia)]
    by_cases hk2:k=n
    ·rw[hk2,ex,hx]
    ·rw[outI (by rw[FC];show V0.length+1<=k;lia)]
  ·refine⟨V0++[x],fun _=>rfl,.inr ?_,Do _⟩
   rw[h,Wp,ex]
   exact hx
theorem E9{ns ms A B fA fB:List Int}{w E:Nat}{ld h:Int}(hI:GI ns ms w E A B fA fB ld h)(hns:ns.getD (ns.length -1) 0≠0)(l1:ms.length<=ns.length)(l0:0<ms.length)(hend:B.length<2\/∃Qs c,sf A B Qs [] c):
 Dv (co B) (co ns)/\Dv (co B) (co ms)/\B.getD (B.length -1) 0≠0/\0<B.length/\B.length<=ms.length/\fB.length<=ms.length+1/\(∀x∈B,x.natAbs<=2^(w*(ns.length -1+(ms.length -1)+1)))/\(∀x∈fB,x.natAbs<=2^(w*(ns.length -1+(ms.length -1)+1)))/\
 ∃W:List Int,0<W.length/\W.length<=ns.length+1/\W.getD (W.length -1) 0≠0/\(∀x∈W,x.natAbs<=2^(w*(ns.length -1+(ms.length -1)+1)))/\∀k,co B k=aq (co fB) (co ns) k+aq (co W) (co ms) k:=by
 obtain⟨C1,vA,vB,C2,bA,bB,dd,st,V9⟩:=hI
 have lq:=C1.lq
 have uO:B.getD (B.length -1) 0≠0:=C1.ch.uO
 have hA:Dv (co B) (co A):=by
  rcases hend with hl|⟨Qs,c,hc,E6,cR,_,_⟩
  ·have l1:B.length=1:=by lia
   obtain⟨b,rfl⟩:=List.length_eq_one_iff.mp l1
   exact Dv.const uO A
  ·refine⟨c,by rw[hc];exact Sub.aQ uO _,co Qs,⟨Qs.length,fun i hi=>outI hi⟩,fun k=>?_⟩
   have:=cR k
   rw[iX]at this
   have e:([]:List Int).getD k 0=0:=rfl
   rw[e]at this
   show c*A.getD k 0=_
   lia
 obtain⟨d1,d2⟩:=dd (co B) hA (Dv.self _)
 obtain⟨_,b2,_,b4⟩:=C1.bd
 obtain⟨_,_,_,b4'⟩:=C2.bd
 obtain⟨W,eW,zW,lW⟩:=qM _ vB rfl
 have ZK:fB.length<=ms.length+1:=by
  rcases C1.Q3 with z|z
  ·rw[z]
   exact KM _
  ·lia
 have lvB:vB.length<=ns.length+1:=by
  rcases C2.Q3 with z|z
  ·rw[z]
   exact KM _
  ·lia
 have bW:∀k,co B k=aq (co fB) (co ns) k+aq (co W) (co ms) k:=fun k=>by
  rw[bB k,aM (f:=co W) (f':=co vB) eW (fun _=>rfl)]
 have hW:W≠[]:=fun z=>by
  rcases st with⟨_,_,_,e⟩|hlt
  ·have:=eW 0
   rw[z,e]at this
   cases this
  ·obtain⟨F,eF,zF,lF⟩:=qM _ fB rfl
   have bF:∀k,co B k=cf F ns F.length k:=fun k=>by
    rw[bW k,z,iX,aM (f:=co F) (f':=co fB) eF (fun _=>rfl)]
    have:aq (co []) (co ms) k=0:=by
     rw[show co []=fun _=>0 from funext fun i=>rfl]
     exact fD _ k
    rw[this,UF]
   rcases zF with z2|z2
   ·have:=bF (B.length -1)
    rw[z2]at this
    exact uO this
   ·have JE:0<F.length:=by
     rcases TC F.length with e|e
     ·rw[Kj.mp e]at z2
      exact absurd rfl z2
     ·exact e
    have e:=vY F ns JE (by lia)
    have e2:=bF (F.length+ns.length -2)
    rw[e]at e2
    have e3:co B (F.length+ns.length -2)=0:=outI (by lia)
    rw[e3]at e2
    exact Fh z2 hns e2.symm
 refine⟨d1,d2,uO,lq,C1.Q2,ZK,b2,b4,W,Bn.mpr hW,by lia,zW.resolve_left hW,fun x hx=>?_,bW⟩
 obtain⟨k,_,rfl⟩:=Sub.mem_getD hx
 rw[eW]
 by_cases hk:k<vB.length
 ·exact b4' _ (Sub.getD_mem' hk)
 ·rw[outI (by lia)]
  exact KM _
theorem BB{ns ms A B fA fB:List Int}{w E:Nat}{ld h:Int}(X1:Sub.FX ns ms [1] [] w E)(X2:Sub.FX ns ms [] [1] w E)(hI:GI ns ms w E A B fA fB ld h)(hend:B.length<2\/∃Qs c,sf A B Qs [] c):
 ∃(κ:Int) (S1 S2:List Int),κ≠0/\κ.natAbs<=2^(2*(w*(ns.length -1+(ms.length -1)+1))+1)/\(∀x∈S1,x.natAbs<=2^(w*(ns.length -1+(ms.length -1)+1)))/\(∀x∈S2,x.natAbs<=2^(w*(ns.length -1+(ms.length -1)+1)))/\(∀k,κ*co ns k=aq (co S1) (co B) k)/\∀k,κ*co ms k=aq (co S2) (co B) k:=by
 obtain⟨C1,vA,vB,C2,bA,bB,dd,st,V9⟩:=hI
 have lq:=C1.lq
 have uO:B.getD (B.length -1) 0≠0:=C1.ch.uO
 obtain⟨M,m1,m2,m3,m4⟩:=X1.M
 have hM:M<=2^(w*(ns.length -1+(ms.length -1)+1)):=by
  refine Dx (Dx (Nat.le_mul_of_pos_left M (show 0<ns.length -1+(ms.length -1)+1 by lia)) m4) (GT (by decide) ?_)
  exact SB w (by omega)
 by_cases hl:B.length<2
 ·have l1:B.length=1:=by lia
  obtain⟨b,rfl⟩:=List.length_eq_one_iff.mp l1
  have hb:∀k,co [b] k=if k=0 then b else 0:=fun k=>by
   cases k with
   |zero=>rfl
   |succ k=>exact outI (by simp)
  refine⟨b,ns,ms,uO,?_,fun x hx=>?_,fun x hx=>?_,fun k=>?_,fun k=>?_⟩
  ·refine Dx (C1.bd.2.1 b (Fm.mpr rfl)) (GT (by decide) (by lia))
  ·obtain⟨k,_,rfl⟩:=Sub.mem_getD hx
   exact Dx (m1 (false,k)) hM
  ·obtain⟨k,_,rfl⟩:=Sub.mem_getD hx
   exact Dx (m2 (false,k)) hM
  ·rw[bC,wC hb]
  ·rw[bC,wC hb]
 ·obtain⟨Qs,c,hc,E6,cR,lR,zR⟩:=hend.resolve_left hl
  obtain⟨F,cF,lF,JE⟩:=ghost fA fB Qs c
  obtain⟨G,cG,lG,XZ⟩:=ghost vA vB Qs c
  obtain⟨k0,_,_,dF,_,bF,_⟩:=C1.step X1 (by lia) hc E6 cR lR zR cF lF JE
  obtain⟨_,_,_,dG,_,bG,_⟩:=C2.step X2 (by lia) hc E6 cR lR zR cG lG XZ
  have Vj:∀k,co F k=c*co fA k -aq (co Qs) (co fB) k:=fun k=>by rw[←iX];exact cF k
  have Vk:∀k,co G k=c*co vA k -aq (co Qs) (co vB) k:=fun k=>by rw[←iX];exact cG k
  have Wa:∀k,(0:Int)=c*co A k -aq (co Qs) (co B) k:=fun k=>by rw[←iX];exact cR k
  have c0:c≠0:=by
   rw[hc]
   exact Sub.aQ uO _
  have kn:=yT k0 c0 Vj Vk (c9 dF) (c9 dG) V9
  have z:=Dh (B:=co B) (B':=fun _=>0) (R:=fun _=>0) k0 (yS (R:=fun _=>0) bA bB Wa Vj Vk) (fun k=>(Kt _).symm) (c9 dF) (c9 dG)
  obtain⟨κ,Sl,Vf⟩:=kn
  have qe:=Ip bB z Vf
  have b1:∀x∈G.map (fun y:Int=>y.fdiv (ld*h^(A.length -B.length))),x.natAbs<=2^(w*(ns.length -1+(ms.length -1)+1)):=fun x hx=>by
   obtain⟨k,_,rfl⟩:=Sub.mem_getD hx
   exact bG (true,k)
  have b2:∀k,((F.map (fun y:Int=>y.fdiv (ld*h^(A.length -B.length)))).getD k 0).natAbs<=2^(w*(ns.length -1+(ms.length -1)+1)):=fun k=>bF (true,k)
  refine⟨κ,G.map (fun y:Int=>y.fdiv (ld*h^(A.length -B.length))),(F.map (fun y:Int=>y.fdiv (ld*h^(A.length -B.length)))).map (fun y=> -1*y),Sl,?_,b1,fun x hx=>?_,fun k=>(qe k).1,fun k=>?_⟩
  ·have e:=Vf 0
   rw[Bz rfl]at e
   have e:aq (co fB) (co (G.map fun y:Int=>y.fdiv (ld*h^(A.length -B.length)))) 0 -aq (co (F.map fun y:Int=>y.fdiv (ld*h^(A.length -B.length)))) (co vB) 0=κ:=e
   rw[bY,bY]at e
   have f1:=C1.bQ (true,0)
   have f2:=C2.bQ (true,0)
   have f3:=bG (true,0)
   have f4:=bF (true,0)
   rw[←e]
   have g1:(co fB 0*co (G.map fun y:Int=>y.fdiv (ld*h^(A.length -B.length))) 0).natAbs<=2^(w*(ns.length -1+(ms.length -1)+1))*2^(w*(ns.length -1+(ms.length -1)+1)):=by
    rw[Fk]
    exact Jn f1 f3
   have g2:(co (F.map fun y:Int=>y.fdiv (ld*h^(A.length -B.length))) 0*co vB 0).natAbs<=2^(w*(ns.length -1+(ms.length -1)+1))*2^(w*(ns.length -1+(ms.length -1)+1)):=by
    rw[Fk]
    exact Jn f4 f2
   rw[Nat.pow_succ,Nat.two_mul,du]
   omega
  ·obtain⟨y,hy,rfl⟩:=Kx.mp hx
   obtain⟨k,_,rfl⟩:=Sub.mem_getD hy
   have:=b2 k
   omega
  ·rw[(qe k).2]
   exact aM (fun i=>by
    show _=((F.map (fun y:Int=>y.fdiv (ld*h^(A.length -B.length)))).map (fun y=> -1*y)).getD i 0
    rw[Sub.map_getD (f:=fun y=> -1*y) (by decide)]) (fun _=>rfl) k
theorem wK(X:Nat->Int)(k:Nat):aq (co [1]) X k=X k:=by
 cases k with
 |zero=>rw[bY];show 1*_=_;rw[RF]
 |succ k=>
  rw[fL]
  have:aq (fun i=>co [1] (i+1)) X k=0:=by
   rw[show(fun i=>co [1] (i+1))=fun _=>0 from funext fun i=>outI (by simp)]
   exact fD X k
  rw[this]
  show 1*_+0=_
  rw[RF,UF]
theorem BC(X:Nat->Int)(k:Nat):aq (co []) X k=0:=by
 rw[show co []=fun _=>0 from funext fun i=>rfl]
 exact fD X k
theorem IA{ns ms:List Int}{w E:Nat}(l0:0<ms.length)(nz:ms.getD (ms.length -1) 0≠0)(X1:Sub.FX ns ms [1] [] w E)(X2:Sub.FX ns ms [] [1] w E):GI ns ms w E ns ms [1] [] 1 1:=by
 refine⟨Sub.CS.start X1 l0 nz (by show 1+ms.length<=_;lia) (.inl rfl),[],[1],Sub.CS.start X2 l0 nz (by show 0+ms.length<=_;have:=X2.l1;lia) (.inr (by show 1+ns.length<=_;lia)),fun k=>?_,fun k=>?_,fun G h1 h2=>⟨h1,h2⟩,.inl ⟨rfl,rfl,rfl,rfl⟩,1,by decide,fun k=>?_⟩
 ·rw[wK,BC,UF]
 ·rw[wK,BC,Int.zero_add]
 ·show aq (co [1]) (co [1]) k -aq (co []) (co []) k=_
  rw[wK,BC,Int.sub_zero]
  cases k with
  |zero=>rfl
  |succ k=>exact outI (by simp)
theorem IB{L W ms:List Int}(hL:∀k,L.getD k 0=cf W ms W.length k)(zL:L=[]\/L.getD (L.length -1) 0≠0)(w0:0<W.length)(m0:0<ms.length)(zW:W.getD (W.length -1) 0≠0)(zm:ms.getD (ms.length -1) 0≠0):L.length+1=W.length+ms.length:=by
 have e:=hL (W.length+ms.length -2)
 rw[vY W ms w0 m0]at e
 have e0:=Fh zW zm
 rw[←e]at e0
 have h1:W.length+ms.length -2<L.length:=by
  rcases Nat.lt_or_ge (W.length+ms.length -2) L.length with z|z
  ·exact z
  ·exact absurd (outI z) e0
 have h2:L.length<=W.length+ms.length -1:=by
  rcases zL with z|z
  ·rw[z]
   exact KM _
  ·rcases Nat.lt_or_ge (W.length+ms.length -1) L.length with y|y
   ·rw[hL,iP W ms _ W.length (by lia)]at z
    exact absurd rfl z
   ·exact y
 lia
theorem IC{ns ms f g:List Int}{n E:Nat}(l1:ms.length<=ns.length)(l8:ns.length<=8)(bn:∀x∈ns,x.natAbs<2^n)(bm:∀x∈ms,x.natAbs<2^n)(hf:f=[]\/f=[1])(hg:g=[]\/g=[1])(hE:∀p,(ns.length -1+(ms.length -1) -2*p)*p+(ns.length -1+(ms.length -1)+1)<=E):Sub.FX ns ms f g (n+4) E:=by
 have one:∀{f:List Int},(f=[]\/f=[1])->∀k,(f.getD k 0).natAbs<=2^n:=fun{f} hf k=>by
  rcases hf with rfl|rfl
  ·exact KM _
  ·cases k with
   |zero=>exact Os (by decide)
   |succ k=>exact KM _
 refine⟨l1,by lia,⟨2^n,fun i=>?_,fun i=>?_,Os (by decide),?_⟩,hE⟩
 ·obtain⟨b,t⟩:=i
  cases b
  ·exact Yf (dI bn t)
  ·exact one hf t
 ·obtain⟨b,t⟩:=i
  cases b
  ·exact Yf (dI bm t)
  ·exact one hg t
 ·have:ns.length -1+(ms.length -1)+1<=2^4:=by omega
  exact Dx (Ya _ this) (by rw[←du,Nat.add_comm];exact Do _)
noncomputable def Fb(a:List Rat):Nat->Rat:=fun i=>a.getD i 0
noncomputable def Vl(D ns:List Int)(n:Nat):Prop:=∃(κ:Int) (S:List Int),κ≠0/\(∀x∈S,x.natAbs<2^n)/\∀k,κ*co ns k=aq (co S) (co D) k
noncomputable def Wb(p1 p2:Nat)(g a:List Rat):Prop:=∃(s:List Rat) (D:Int),(∀k,a.getD k 0=cS (Fb s) (Fb g) k)/\D≠0/\D.natAbs<2^p1/\∀x∈s,Cd D p2 x
structure BD(p1 p2:Nat)(a b g u v:List Rat):Prop where
 ng:aA g
 nu:aA u
 nv:aA v
 X0:∀k,g.getD k 0=cS (Fb u) (Fb a) k+cS (Fb v) (Fb b) k
 da:Wb p1 p2 g a
 db:Wb p1 p2 g b
 ne:g≠[]
 one:g.getD (g.length -1) 0=1
theorem bu{B:Int}(h:B≠0):(B:Rat)≠0:=fun z=>h (by exact_mod_cast z)
theorem o8{B:Int}(hB:B≠0)(X:List Int)(k:Nat):(aG (X.map fun x=>Rat.divInt x B)).getD k 0*(B:Rat)=((X.getD k 0:Int):Rat):=by
 rw[qI]
 have e:(X.map fun x=>Rat.divInt x B).getD k 0=Rat.divInt (X.getD k 0) B:=by
  rw[AC,FR,AC]
  cases X[k]? with
  |none=>exact(Rat.zero_divInt B).symm
  |some z=>rfl
 rw[e,dE]
 exact W1 (bu hB)
theorem fj{x y z:Rat}(hz:z≠0)(h:x*z=y*z):x=y:=by
 have:(x -y)*z=0:=by grind
 rcases KB.mp this with e|e
 ·grind
 ·exact absurd e hz
theorem Vm(S:Nat->Int)(q:Rat)(n:Nat)(hS:∀i,n<=i->S i=0)(i:Nat):Fb ((List.range n).map fun i=>(S i:Rat)*q) i=(S i:Rat)*q:=by
 show((List.range n).map fun i=>(S i:Rat)*q).getD i 0=_
 rw[AC,FR]
 by_cases h:i<n
 ·rw[T2 h]
  rfl
 ·rw[FS (by simp;lia),hS i (by lia)]
  show(0:Rat)=((0:Int):Rat)*q
  grind
theorem ID{n kb q:Nat}{a:List Rat}{ns D:List Int}{c:Nat}{B l:Int}(hc:0<c)(hB:B≠0)(hl:l≠0)(X3:D.getD (D.length -1) 0=l)(hns:ns.getD (ns.length -1) 0≠0)(bc:c<2^n)(bB:B.natAbs<2^kb)(IE:∀x∈ns,x.natAbs<2^n)
 (ha:∀i,((c:Int):Rat)*(ns.getD i 0:Rat)=a.getD i 0*B) (h:Vl D ns q) {g:List Rat} (hg:∀k,g.getD k 0*(l:Rat)=((D.getD k 0:Int):Rat)):Wb (kb+q) (q+(n+n)) g a:=by
 obtain⟨κ,S,Sl,bS,e⟩:=h
 obtain⟨T,hT,zT,lT⟩:=qM _ S rfl
 have eT:∀k,κ*co ns k=aq (co T) (co D) k:=fun k=>by
  rw[e k]
  exact aM (fun i=>(hT i).symm) (fun _=>rfl) k
 have ZL:T≠[]:=fun z=>by
  have:=eT (ns.length -1)
  rw[z,Dg (n:=0) (m:=D.length) (fun i _=>rfl) (fun i hi=>outI hi) (k:=ns.length -1+D.length) (by lia)|>fun q=>(rfl:aq (co ([]:List Int)) (co D) (ns.length -1)=_)]at this
  have z0:aq (co ([]:List Int)) (co D) (ns.length -1)=0:=by
   rw[show co ([]:List Int)=fun _=>0 from funext fun i=>rfl]
   exact fD _ _
  rw[z0]at this
  rcases Int.mul_eq_zero.mp this with q|q
  ·exact Sl q
  ·exact hns q
 have X4:=zT.resolve_left ZL
 have pT:0<T.length:=Bn.mpr ZL
 have pD:0<D.length:=by
  rcases TC D.length with z|z
  ·rw[Kj.mp z]at X3
   exact absurd X3.symm hl
  ·exact z
 have e1:=eT (T.length+D.length -2)
 rw[←iX,vY T D pT pD,X3]at e1
 generalize hn':co ns (T.length+D.length -2)=n' at e1
 generalize hlT:T.getD (T.length -1) 0=t at*
 have n0:n'≠0:=fun z=>by
  rw[z,Kt]at e1
  rcases Int.mul_eq_zero.mp e1.symm with q|q
  ·exact X4 q
  ·exact hl q
 have bn':n'.natAbs<2^n:=by rw[←hn'];exact dI IE _
 have bt:t.natAbs<2^q:=by rw[←hlT,hT];exact dI bS _
 have q0:((c:Int):Rat)≠0:=bu (by lia)
 have qB:=bu hB
 have ql:=bu hl
 have qt:=bu X4
 have qn:=bu n0
 have e1q:(κ:Rat)*(n':Rat)=(t:Rat)*(l:Rat):=by
  rw[←Da,←Da,e1]
 refine⟨(List.range T.length).map fun i=>((co T i:Int):Rat)*((c:Int)*n'/(B*t)),B*t,fun k=>?_,Fh hB X4,?_,fun x hx=>?_⟩
 ·have q2:((c:Int):Rat)*n'≠0:=fun z=>by
   rcases KB.mp z with h|h
   ·exact q0 h
   ·exact qn h
  have q3:(B:Rat)*t≠0:=fun z=>by
   rcases KB.mp z with h|h
   ·exact qB h
   ·exact qt h
  have A0:(B*t:Rat)/((c:Int)*n')*l≠0:=by
   intro z
   rcases KB.mp z with h|h
   ·have:=SZ (·*(((c:Int):Rat)*n')) h
    simp only[W1 q2]at this
    exact q3 (by rw[this];grind)
   ·exact ql h
  have e2:=kJ (f:=Fb ((List.range T.length).map fun i=>((co T i:Int):Rat)*((c:Int)*n'/(B*t)))) (g:=Fb g) (F:=co T) (G:=co D) (A:=(B*t:Rat)/((c:Int)*n')) (C:=(l:Rat)) (fun i=>by
   rw[Vm (co T) _ T.length (fun j hj=>outI hj)]
   grind) hg k
  refine fj A0 ?_
  rw[e2,←eT k,Da]
  have h3:=ha k
  show a.getD k 0*_=(κ:Rat)*((ns.getD k 0:Int):Rat)
  generalize a.getD k 0=y at*
  generalize((ns.getD k 0:Int):Rat)=u at*
  have h4:(κ:Rat)=t*l/n':=by
   rw[←e1q]
   grind
  have h5:y*((B*t:Rat)/((c:Int)*n')*l)=(y*B)*t*l/(((c:Int):Rat)*n'):=by grind
  rw[h5,←h3,h4]
  grind
 ·rw[Fk]
  exact lt_mul bB bt
 ·obtain⟨i,hi,rfl⟩:=Kx.mp hx
  refine⟨co T i*((c:Int)*n'),?_,?_⟩
  ·rw[Da,Da,Da]
   have q3:(B:Rat)*t≠0:=fun z=>by
    rcases KB.mp z with h|h
    ·exact qB h
    ·exact qt h
   rw[Rat.mul_assoc,W1 q3]
  ·rw[Fk,Fk,Int.natAbs_natCast]
   have b1:(co T i).natAbs<2^q:=by
    show(T.getD i 0).natAbs<_
    rw[hT]
    exact dI bS _
   exact lt_mul b1 (lt_mul bc bn')
theorem Fc{n kb q:Nat}{a b:List Rat}{ns ms D F W:List Int}{ca cb:Nat}{Ba Bb:Int}(hca:0<ca)(hcb:0<cb)(X5:Ba≠0)(X6:Bb≠0)(ha:∀i,((ca:Int):Rat)*(ns.getD i 0:Rat)=a.getD i 0*Ba)(hb:∀i,((cb:Int):Rat)*(ms.getD i 0:Rat)=b.getD i 0*Bb)
 (Ai:ns.getD (ns.length -1) 0≠0) (Nh:ms.getD (ms.length -1) 0≠0) (Vn:ca<2^n) (LJ:cb<2^n) (bBa:Ba.natAbs<2^kb) (P7:Bb.natAbs<2^kb) (IE:∀x∈ns,x.natAbs<2^n) (Ni:∀x∈ms,x.natAbs<2^n) (d1:Vl D ns q) (d2:Vl D ms q) (hl:D.getD (D.length -1) 0≠0) (hD:∀k,co D k=aq (co F) (co ns) k+aq (co W) (co ms) k):
 BD (kb+q) (q+(n+n)) a b (aG (D.map fun x=>Rat.divInt x (D.getD (D.length -1) 0))) (aG ((F.map fun x=>Ba*x).map fun x=>Rat.divInt x (D.getD (D.length -1) 0*(ca:Int)))) (aG ((W.map fun x=>Bb*x).map fun x=>Rat.divInt x (D.getD (D.length -1) 0*(cb:Int)))):=by
 generalize Rf:D.getD (D.length -1) 0=l at*
 have hg:=o8 hl D
 have ql:=bu hl
 have qa:((ca:Int):Rat)≠0:=bu (by lia)
 have qb:((cb:Int):Rat)≠0:=bu (by lia)
 have qBa:=bu X5
 have qBb:=bu X6
 have half:∀{r:List Rat} {ks X:List Int} {c:Nat} {B:Int},0<c->B≠0->(∀i,((c:Int):Rat)*(ks.getD i 0:Rat)=r.getD i 0*B)->∀k,cS (Fb (aG ((X.map fun x=>B*x).map fun x=>Rat.divInt x (l*(c:Int))))) (Fb r) k*(l:Rat)=((aq (co X) (co ks) k:Int):Rat):=fun{r ks X c B} hc hB hr k=>by
  have qc:((c:Int):Rat)≠0:=bu (by lia)
  have qB:=bu hB
  have e:=kJ (f:=Fb (aG ((X.map fun x=>B*x).map fun x=>Rat.divInt x (l*(c:Int))))) (g:=Fb r) (F:=co X) (G:=co ks) (A:=(l:Rat)*(c:Int)/B) (C:=(B:Rat)/(c:Int)) (fun i=>by
   have h1:=o8 (B:=l*(c:Int)) (Fh hl (by omega)) (X.map fun x=>B*x) i
   rw[Sub.map_getD (f:=fun x=>B*x) (Kt B)]at h1
   show(aG ((X.map fun x=>B*x).map fun x=>Rat.divInt x (l*(c:Int)))).getD i 0*_=((X.getD i 0:Int):Rat)
   generalize(aG ((X.map fun x=>B*x).map fun x=>Rat.divInt x (l*(c:Int)))).getD i 0=y at*
   rw[Da,Da]at h1
   have e1:y*((l:Rat)*(c:Int)/B)=y*((l:Rat)*(c:Int))/B:=by grind
   rw[e1,h1]
   grind) (fun i=>by
   have:=hr i
   show r.getD i 0*_=((ks.getD i 0:Int):Rat)
   have e1:r.getD i 0*((B:Rat)/(c:Int))=r.getD i 0*B/(c:Int):=by grind
   rw[e1,←this]
   grind) k
  have e2:(l:Rat)*(c:Int)/B*((B:Rat)/(c:Int))=l:=by grind
  rw[e2]at e
  exact e
 have gne:aG (D.map fun x=>Rat.divInt x l)≠[]:=fun z=>by
  have:=hg (D.length -1)
  rw[z,Rf]at this
  have e:([]:List Rat).getD (D.length -1) 0=0:=rfl
  rw[e]at this
  exact ql (by rw[←this];grind)
 refine⟨bg _,bg _,bg _,fun k=>?_,ID hca X5 hl Rf Ai Vn bBa IE ha d1 hg,ID hcb X6 hl Rf Nh LJ P7 Ni hb d2 hg,gne,?_⟩
 ·refine fj ql ?_
  rw[hg k]
  have h1:=half (X:=F) hca X5 ha k
  have h2:=half (X:=W) hcb X6 hb k
  have h3:=hD k
  have e:((D.getD k 0:Int):Rat)=((aq (co F) (co ns) k:Int):Rat)+((aq (co W) (co ms) k:Int):Rat):=by
   rw[←Rat.intCast_add]
   exact SZ _ h3
  rw[e,←h1,←h2]
  grind
 ·obtain⟨j,hj,e,_⟩:=iR (D.map fun x=>Rat.divInt x l)
  have lg:(aG (D.map fun x=>Rat.divInt x l)).length<=D.length:=by
   rw[e,SC,Ap]
   omega
  have h1:=hg (D.length -1)
  rw[Rf]at h1
  have l0:0<D.length:=by
   rcases TC D.length with z|z
   ·rw[Kj.mp z]at Rf
    exact absurd Rf.symm hl
   ·exact z
  have eq:(aG (D.map fun x=>Rat.divInt x l)).length=D.length:=by
   rcases Nat.lt_or_ge (aG (D.map fun x=>Rat.divInt x l)).length D.length with z|z
   ·rw[iQ (by lia)]at h1
    exact absurd (by rw[←h1];grind) ql
   ·lia
  rw[eq]
  refine fj ql ?_
  rw[h1]
  grind
theorem Dp{X:List Int}{B:Int}{n:Nat}(hB:B≠0)(h:∀y∈X,y.natAbs<2^n):(∀x∈aG (X.map fun y=>Rat.divInt y B),Cd B n x)/\(aG (X.map fun y=>Rat.divInt y B)).length<=X.length:=by
 refine⟨fun x hx=>?_,?_⟩
 ·obtain⟨k,hk,rfl⟩:=List.getElem_of_mem hx
  refine⟨X.getD k 0,?_,dI h k⟩
  have:=o8 hB X k
  rw[AC,BM hk]at this
  exact this
 ·obtain⟨j,hj,e,_⟩:=iR (X.map fun y=>Rat.divInt y B)
  rw[e,SC,Ap]
  lia
theorem Nj{X:List Int}{B:Int}{n k:Nat}(hB:B.natAbs<2^k)(h:∀y∈X,y.natAbs<2^n):∀y∈X.map (fun x=>B*x),y.natAbs<2^(n+k):=fun y hy=>by
 obtain⟨z,hz,rfl⟩:=Kx.mp hy
 rw[Fk,cw]
 exact lt_mul (h z hz) hB
noncomputable def GB(q n k:Nat)(g u v:List Rat):Prop:=∃l ca cb:Int,l≠0/\ca≠0/\cb≠0/\l.natAbs<2^q/\ca.natAbs<2^n/\cb.natAbs<2^n/\(∀x∈g,Cd l q x)/\(∀x∈u,Cd (l*ca) (q+k) x)/\(∀x∈v,Cd (l*cb) (q+k) x)/\g.length<=10/\u.length<=10/\v.length<=10
noncomputable def Vo(x:Addr)(H H':Hp):Prop:=∀b o,b≠x->H b=some o->H' b=some o
noncomputable def IF(C:Addr):Sp:=fun vs H Q _=>∃(x dx:Addr) (v1 v2 v3:V),vs=[.ref x,v1,v2,v3]/\H x=some (.ins C dx [])/\∀(p4:Addr) (H':Hp),Vo x H H'->H p4=none->H' p4=some (.lst [])->H' x=some (.ins C dx (Vh.zip [v1,v2,v3,.ref p4,.int 1,.int 1,.int 1,.int 1,.int 1]))->Q .aX H'
noncomputable def mO(C:Addr):bN:=fun ws Q _=>∃A B f:List Int,ws=[wI A,wI B,wI f]/\Q (jI C A B f [] 1 1 1 1 1)
theorem nB{K:PySem.W.Frag}{A:Addr->Prop}{H:Hp}(i:Int):Rep K A H (.int i) (.int i):=by rw[Rep]
theorem Nk{K:PySem.W.Frag}{B:Addr->Prop}{H:Hp}:∀{n:Nat} {ws:List W} {vs:List V},aj K B H ws vs->ws.length=n->cX K B H (List.replicate n .s) ws vs []
 |0,[],vs,r,_=>by
  cases r
  show cX K B H [] _ _ _
  rw[cX]
  exact⟨rfl,rfl,rfl⟩
 |n+1,w::ws,vs,r,e=>by
  obtain⟨v,vs',rfl,h1,h2⟩:=r.cons_inv
  show cX K B H (.s::List.replicate n .s) _ _ _
  rw[cX]
  refine⟨w,ws,v,vs',[],[],rfl,rfl,rfl,?_,Nk h2 (by simpa using e)⟩
  rw[Fp]
  exact⟨rfl,h1⟩
 |0,_::_,_,_,e=>by cases e
 |n+1,[],_,_,e=>by cases e
theorem BE{P:Program}{w:World}{K:PySem.W.Frag}{mg:Str->Option Value}{base:Heap}{k:Nat}{C f:Addr}{fd:FuncData}{ps:List Str}(hc:AO K C Vh)(M:Mk K C f)(b:Binds K fd ps [])(F:aH P w K mg base (cL P w) k f fd ps (IF C)):
 eV P w K mg base (k+1) (.ref C) 3 (cY K 3 (.o Vh [.s,.s,.s,.s,.s,.s,.s,.s,.s]) (mO C)):=by
 refine .mk M b F fun vs H Q E ⟨A,ws,P,R,l,r,d,⟨a,b',f',e,hP⟩,c,er⟩ x dx nx ndx ne=>?_
 subst e
 obtain⟨v1,_,rfl,r1,r⟩:=r.cons_inv
 obtain⟨v2,_,rfl,r2,r⟩:=r.cons_inv
 obtain⟨v3,_,rfl,r3,r⟩:=r.cons_inv
 cases r
 refine⟨x,dx,v1,v2,v3,rfl,aE,fun p4 H' kp f4 e4 ex=>⟨rfl,?_⟩⟩
 have ZM:p4≠x:=fun e=>by rw[e,aE]at f4;cases f4
 have nd4:p4≠dx:=fun e=>by rw[e,ao ne,aE]at f4;cases f4
 have h4:H p4=none:=by rw[ao ZM,ao nd4]at f4;exact f4
 have sm:az H H':=fun b o hb=>by
  have n1:b≠x:=fun e=>by rw[e,nx]at hb;cases hb
  have n2:b≠dx:=fun e=>by rw[e,ndx]at hb;cases hb
  exact kp b o n1 (by rw[ao n1,ao n2];exact hb)
 have ba:∀p o,H p=some o->(A p\/p∈[x])->A p:=fun p o e z=>by
  rcases z with z|z
  ·exact z
  ·rw[Fm.mp z,nx]at e
   cases e
 refine c _ (.ref x) H' hP sm ⟨[x],by simp,fun p hp=>by rw[Fm.mp hp];exact nx,?_⟩
 unfold jI
 rw[Fp]
 refine⟨C,dx,_,x,[v1,v2,v3,.ref p4,.int 1,.int 1,.int 1,.int 1,.int 1],[],rfl,rfl,rfl,ex,rfl,hc,?_⟩
 refine Nk (n:=9) ?_ rfl
 refine .cons (Rep.mv sm ba _ r1) (.cons (Rep.mv sm ba _ r2) (.cons (Rep.mv sm ba _ r3) (.cons ?_ (.cons (nB 1) (.cons (nB 1) (.cons (nB 1) (.cons (nB 1) (.cons (nB 1) .nil))))))))
 show Rep _ _ _ (.lst []) _
 rw[Rep]
 refine⟨p4,[],rfl,fun z=>?_,.inl e4,.nil⟩
 rcases z with z|z
 ·obtain⟨o,e⟩:=d p4 z
  rw[h4]at e
  cases e
 ·exact ZM (Fm.mp z)
structure GP(as bs:List Rat)(n k E q:Nat):Prop where
 la:as.length<=8
 lb:bs.length<=8
 za:aA as
 zb:aA bs
 da:∃D:Int,0<D/\D.natAbs<2^k/\∀x∈as,Cd D n x
 db:∃D:Int,0<D/\D.natAbs<2^k/\∀x∈bs,Cd D n x
 hE:∀p,(as.length -1+(bs.length -1) -2*p)*p+(as.length -1+(bs.length -1)+1)<=E
 hq:(n+4)*(as.length -1+(bs.length -1)+1)+1<=q
 q5:q<=5000
 e7:(n+4)*E<=7900
 qn:q+n<=6000
 k3:k<=3000
 n0:0<n
theorem GP.swap{as bs:List Rat}{n k E q:Nat}(h:GP as bs n k E q):GP bs as n k E q:=
 ⟨h.lb,h.la,h.zb,h.za,h.db,h.da,by rw[Nat.add_comm (bs.length -1)];exact h.hE,by rw[Nat.add_comm (bs.length -1)];exact h.hq,h.q5,h.e7,h.qn,h.k3,h.n0⟩
noncomputable def sj(p1 p2:Nat)(a b g u v:List Rat):Prop:=(a=[]/\b=[]/\g=[]/\u=[]/\v=[])\/BD p1 p2 a b g u v
theorem BD.swap{p1 p2:Nat}{a b g u v:List Rat}(h:BD p1 p2 a b g u v):BD p1 p2 b a g v u:=
 ⟨h.ng,h.nv,h.nu,fun k=>by rw[h.X0 k];grind,h.db,h.da,h.ne,h.one⟩
theorem sj.swap{p1 p2:Nat}{a b g u v:List Rat}(h:sj p1 p2 a b g u v):sj p1 p2 b a g v u:=by
 rcases h with⟨h1,h2,h3,h4,h5⟩|h
 ·exact .inl ⟨h2,h1,h3,h5,h4⟩
 ·exact .inr h.swap
theorem GB.swap{q n k:Nat}{g u v:List Rat}(h:GB q n k g u v):GB q n k g v u:=by
 obtain⟨l,ca,cb,h1,h2,h3,h4,h5,h6,h7,h8,h9,OL,h11,h12⟩:=h
 exact⟨l,cb,ca,h1,h3,h2,h4,h6,h5,h7,h9,h8,OL,h12,h11⟩
noncomputable def kK:bN:=fun ws Q _=>∃(as bs:List Rat) (n k E q:Nat),ws=[af as,af bs]/\GP as bs n k E q/\∀g u v,sj (k+q) (q+(n+n)) as bs g u v->GB q n k g u v->Q (.tup [af g,af u,af v])
theorem Rg{D:Int}{n k:Nat}{x:Rat}(h:Cd D n x)(hD:0<D)(hk:D.natAbs<2^k):By n k x:=by
 have⟨d1,d2⟩:=h.dvd
 have dp:0<(x.den:Int):=by have:=x.den_pos;lia
 have le:=dC hD d1
 refine⟨Gc ?_ d2,by lia⟩
 rw[Fk]
 have:0<D/x.den:=eC hD (T1 dp) d1
 exact SB _ (by lia)
theorem o9{rs:List Rat}{ms:List Int}{B c:Int}(h:Prim rs ms B c)(hne:rs≠[])(hz:aA rs):ms.getD (ms.length -1) 0≠0:=fun z=>by
 have e:=h.at_ (ms.length -1)
 have l0:=Bn.mpr hne
 rw[z,h.len]at e
 have y0:=hz _ (qC l0 rfl)
 have b0:=bu (B:=B) (by have:=h.bpos;lia)
 have:rs.getD (rs.length -1) 0*(B:Rat)=0:=by
  rw[←e]
  show((0:Int):Rat)*_=0
  grind
 rcases KB.mp this with x|x
 ·exact y0 x
 ·exact b0 x
theorem gO{as bs as' bs':List Rat}(e:[af as,af bs]=[af as',af bs']):as=as'/\bs=bs':=by
 rw[List.cons.injEq,List.cons.injEq]at e
 exact⟨qE e.1,qE e.2.1⟩
end VL
namespace Num
theorem sr(f:Nat->Rat):∀n,fZ f (n+1)=f 0+fZ (fun i=>f (i+1)) n
 |0=>by rw[fZ,fZ,fZ];grind
 |n+1=>by rw[fZ,sr f n,fZ];grind
theorem Dq(c:Rat)(f:Nat->Rat):∀n,fZ (fun i=>c*f i) n=c*fZ f n
 |0=>by rw[fZ,fZ];grind
 |n+1=>by rw[fZ,Dq c f n,fZ];grind
theorem Ds(f g:Nat->Rat):∀n,fZ (fun i=>f i+g i) n=fZ f n+fZ g n
 |0=>by rw[fZ,fZ,fZ];grind
 |n+1=>by rw[fZ,Ds f g n,fZ,fZ];grind
theorem Du:∀(n:Nat) (f:Nat->Rat),fZ (fun i=>f (n -i)) (n+1)=fZ f (n+1)
 |0,f=>rfl
 |n+1,f=>by
  rw[sr,fz (g:=fun i=>f (n -i)) (n+1) fun i hi=>by
   show f (n+1 -(i+1))=f (n -i)
   rw[show n+1 -(i+1)=n -i by lia],Du n f,Nat.sub_zero]
  have:fZ f (n+1+1)=fZ f (n+1)+f (n+1):=by rw[fZ]
  rw[this]
  grind
theorem IG(f g:Nat->Rat)(k:Nat):cS f g k=cS g f k:=by
 unfold cS
 rw[←Du]
 refine fz _ fun i hi=>?_
 show f (k -i)*g (k -(k -i))=g i*f (k -i)
 rw[show k -(k -i)=i by omega,Rat.mul_comm]
theorem jl{f f' g g':Nat->Rat}(h1:∀i,f i=f' i)(h2:∀i,g i=g' i)(k:Nat):cS f g k=cS f' g' k:=by
 rw[show f=f' from funext h1,show g=g' from funext h2]
theorem y9(f g h:Nat->Rat)(k:Nat):cS (fun i=>f i+g i) h k=cS f h k+cS g h k:=by
 unfold cS
 rw[←Ds]
 exact fz _ fun i _=>Rat.add_mul ..
theorem Dw(c:Rat)(f h:Nat->Rat)(k:Nat):cS (fun i=>c*f i) h k=c*cS f h k:=by
 unfold cS
 rw[←Dq]
 exact fz _ fun i _=>Rat.mul_assoc ..
theorem gy(f g:Nat->Rat):cS f g 0=f 0*g 0:=by
 unfold cS
 rw[fZ,fZ]
 show 0+f 0*g (0 -0)=_
 rw[Rat.zero_add]
theorem jZ(f g:Nat->Rat)(k:Nat):cS f g (k+1)=f 0*g (k+1)+cS (fun i=>f (i+1)) g k:=by
 unfold cS
 rw[sr]
 congr 1
 exact fz _ fun i hi=>by
  show f (i+1)*g (k+1 -(i+1))=f (i+1)*g (k -i)
  rw[show k+1 -(i+1)=k -i by lia]
theorem pq(g h:Nat->Rat):∀(k:Nat) (f:Nat->Rat),cS (cS f g) h k=cS f (cS g h) k
 |0,f=>by rw[gy,gy,gy,gy,Rat.mul_assoc]
 |k+1,f=>by
  rw[jZ,jZ f,gy,jZ g]
  have e:(fun i=>cS f g (i+1))=fun i=>f 0*g (i+1)+cS (fun i=>f (i+1)) g i:=funext fun i=>jZ f g i
  rw[e,y9,Dw,pq g h k]
  generalize cS (fun i=>g (i+1)) h k=x
  generalize cS (fun i=>f (i+1)) (cS g h) k=y
  generalize h (k+1)=z
  grind
theorem LK{f g:Nat->Rat}{n m:Nat}(hf:∀i,n<=i->f i=0)(hg:∀i,m<=i->g i=0){k:Nat}(h:n+m<=k+1):cS f g k=0:=by
 unfold cS
 rw[fz (g:=fun _=>0) _ fun i hi=>?_]
 ·have:∀n,fZ (fun _=>0) n=0:=fun n=>by
   induction n with
   |zero=>rfl
   |succ n ih=>rw[fZ,ih];grind
  exact this _
 ·show f i*g (k -i)=0
  by_cases hi2:n<=i
  ·rw[hf i hi2,Rat.zero_mul]
  ·rw[hg _ (by lia),Y2]
theorem wL{f g:Nat->Rat}{n m:Nat}(hf:∀i,n<i->f i=0)(hg:∀i,m<i->g i=0):cS f g (n+m)=f n*g m:=by
 unfold cS
 have e:fZ (fun i=>f i*g (n+m -i)) (n+m+1)=fZ (fun i=>f i*g (n+m -i)) (n+1):=iS _ (by lia) fun i h1 _=>by
  show f i*g (n+m -i)=0
  rw[hf i (by lia),Rat.zero_mul]
 rw[e,fZ]
 have z:fZ (fun i=>f i*g (n+m -i)) n=0:=by
  rw[fz (g:=fun _=>0) _ fun i hi=>by
   show f i*g (n+m -i)=0
   rw[hg _ (by lia),Y2]]
  have:∀n,fZ (fun _=>0) n=0:=fun n=>by
   induction n with
   |zero=>rfl
   |succ n ih=>rw[fZ,ih];grind
  exact this _
 rw[z,Rat.zero_add,show n+m -n=m by lia]
abbrev cQ(a:List Rat):Nat->Rat:=fun i=>a.getD i 0
noncomputable def Fin(f:Nat->Rat):Prop:=∃n,∀i,n<=i->f i=0
theorem wM(a:List Rat):Fin (cQ a):=⟨a.length,fun i hi=>iQ hi⟩
theorem Fin.add{f g:Nat->Rat}(h1:Fin f)(h2:Fin g):Fin fun i=>f i+g i:=by
 obtain⟨n,hn⟩:=h1
 obtain⟨m,hm⟩:=h2
 exact⟨max n m,fun i hi=>by show f i+g i=0;rw[hn i (by lia),hm i (by lia)];grind⟩
theorem Fin.mul{f g:Nat->Rat}(h1:Fin f)(h2:Fin g):Fin (cS f g):=by
 obtain⟨n,hn⟩:=h1
 obtain⟨m,hm⟩:=h2
 exact⟨n+m,fun i hi=>LK hn hm (by lia)⟩
noncomputable def DQ(g a:Nat->Rat):Prop:=∃s,Fin s/\∀k,a k=cS s g k
theorem DQ.trans{f g h:Nat->Rat}(h1:DQ f g)(h2:DQ g h):DQ f h:=by
 obtain⟨s,fs,es⟩:=h1
 obtain⟨t,ft,et⟩:=h2
 refine⟨cS t s,ft.mul fs,fun k=>?_⟩
 rw[et k,pq]
 exact jl (fun _=>rfl) es k
theorem DQ.add{g a b:Nat->Rat}(h1:DQ g a)(h2:DQ g b):DQ g fun k=>a k+b k:=by
 obtain⟨s,fs,es⟩:=h1
 obtain⟨t,ft,et⟩:=h2
 exact⟨fun i=>s i+t i,fs.add ft,fun k=>by show a k+b k=_;rw[es k,et k,y9]⟩
theorem DQ.mul{g a:Nat->Rat}(u:Nat->Rat)(fu:Fin u)(h:DQ g a):DQ g (cS u a):=by
 obtain⟨s,fs,es⟩:=h
 refine⟨cS u s,fu.mul fs,fun k=>?_⟩
 rw[pq]
 exact jl (fun _=>rfl) es k
theorem DQ.ext{g a b:Nat->Rat}(h:DQ g a)(e:∀k,b k=a k):DQ g b:=by
 obtain⟨s,fs,es⟩:=h
 exact⟨s,fs,fun k=>by rw[e k,es k]⟩
theorem BF(g:Nat->Rat)(k:Nat):cS (fun i=>if i=0 then 1 else 0) g k=g k:=by
 rw[LC (fun i hi=>Bi (by lia))]
 show(1:Rat)*_=_
 rw[Y1]
theorem DQ.refl(g:Nat->Rat):DQ g g:=⟨fun i=>if i=0 then 1 else 0,⟨1,fun i hi=>Bi (by lia)⟩,fun k=>(BF g k).symm⟩
theorem wN(g:Nat->Rat)(k:Nat):cS (fun _=>0) g k=0:=by
 unfold cS
 have:∀n,fZ (fun i=>(0:Rat)*g (k -i)) n=0:=fun n=>by
  induction n with
  |zero=>rfl
  |succ n ih=>rw[fZ,ih];grind
 exact this _
structure Mon(g:List Rat):Prop where
 ne:g≠[]
 one:g.getD (g.length -1) 0=1
theorem BG{f:Nat->Rat}(h:Fin f)(k:Nat)(hk:f k≠0):∃n,f n≠0/\∀i,n<i->f i=0:=by
 obtain⟨n,hn⟩:=h
 induction n with
 |zero=>exact absurd (hn k (KM _)) hk
 |succ n ih=>
  by_cases e:f n=0
  ·refine ih fun i hi=>?_
   by_cases e2:i=n
   ·rw[e2]
    exact e
   ·exact hn i (by lia)
  ·exact⟨n,e,fun i hi=>hn i (by lia)⟩
theorem DQ.len{g a:List Rat}(hg:Mon g)(h:DQ (cQ g) (cQ a)){k:Nat}(hk:a.getD k 0≠0):g.length<=a.length:=by
 obtain⟨s,fs,es⟩:=h
 have l0:=Bn.mpr hg.ne
 have:∃j,s j≠0:=Classical.byContradiction fun z=>hk (by
  have z:∀j,s j=0:=fun j=>Classical.byContradiction fun y=>z ⟨j,y⟩
  show cQ a k=0
  rw[es k,jl (f':=fun _=>0) z (fun _=>rfl)]
  exact wN _ _)
 obtain⟨j,hj⟩:=this
 obtain⟨n,hn,hn2⟩:=BG fs j hj
 have t:=wL (f:=s) (g:=cQ g) (n:=n) (m:=g.length -1) hn2 (fun i hi=>iQ (by lia))
 rw[←es]at t
 have:cQ a (n+(g.length -1))≠0:=by
  rw[t]
  show s n*g.getD (g.length -1) 0≠0
  rw[hg.one,Rat.mul_one]
  exact hn
 have:n+(g.length -1)<a.length:=Classical.byContradiction fun z=>this (iQ (by lia))
 lia
end Num
namespace VL
open PySem PySem.Spec
open PyProof.Rows hiding St
open L2 Num
theorem V6.all{rs:List Rat}{ns:List Int}{B:Int}(h:V6 rs ns B)(i:Nat):rs.getD i 0*(B:Rat)=((ns.getD i 0:Int):Rat):=by
 by_cases hi:i<rs.length
 ·have er:=BM hi
  have e1:ns.getD i 0=rs[i].num*(B/rs[i].den):=by rw[h.eq];exact oX er
  have e4:rs.getD i 0=rs[i]:=by rw[AC,er];rfl
  rw[e1,e4]
  exact(gx (h.dv _ (PP _))).symm
 ·have z1:ns.getD i 0=0:=outI (by rw[h.eq,Ap];omega)
  rw[z1,iQ (by omega)]
  show 0*_=((0:Int):Rat)
  grind
noncomputable def fR:List CS:=[.rA [2,3] (.call 0 [(.var 0)]),.rA [4,5] (.call 0 [(.var 1)]),.ret (.call 1 [(.call 2 [(.var 2),(.var 4)]),(.bin .Mult (.var 3) (.var 5))])]
noncomputable def fk:bN:=fun ws Q _=>∃(as bs:List Rat) (D1 D2:Int) (n1 n2 k1 k2:Nat),ws=[af as,af bs]/\((∀x∈as,Cd D1 n1 x)/\0<D1/\D1.natAbs<2^k1/\(∀x∈bs,Cd D2 n2 x)/\0<D2/\D2.natAbs<2^k2/\k1+k2<=6000/\n1<=100000/\n2<=100000/\as.length<=100/\bs.length<=100)/\Q (af (aG (mulQ as bs)))
theorem zc{G:Nat->W}{m:Md}(ws:List W)(Q:W->Prop)(R:Addr->Prop)(h:fk ws Q R):wSs (b7 [gJ,fh,b9]) G fR (b8 m Q R) (au 6 ws):=by
 obtain⟨as,bs,D1,D2,n1,n2,k1,k2,rfl,⟨c1,d1,e1,c2,d2,e2,hk,h1,h2,la,lb⟩,hq⟩:=h
 show wSs _ _ fR _ [some (af as),some (af bs),none,none,none,none]
 unfold fR
 walk_at "vs"
 refine⟨as,D1,n1,k1,rfl,⟨c1,d1,e1,by lia,h1,la⟩,fun ns A cl dA bA bn=>⟨rfl,?_⟩⟩
 walk_at "vs"
 refine⟨bs,D2,n2,k2,rfl,⟨c2,d2,e2,by lia,h2,lb⟩,fun ms B cm dB bB bm=>⟨rfl,?_⟩⟩
 walk_at "vs"
 have ln:ns.length=as.length:=by rw[cl.eq,Ap]
 have lm:ms.length=bs.length:=by rw[cm.eq,Ap]
 refine⟨ns,ms,rfl,by lia,by lia,fun x hx y hy=>aF (bn x hx) (bm y hy) (by lia),aF bA bB (by lia),?_⟩
 have p1:=cl.pos
 have p2:=cm.pos
 refine⟨_,A*B,k1+k2,rfl,⟨Fh (by lia) (by lia),by rw[Fk];exact lt_mul bA bB,hk,?_⟩,?_⟩
 ·have:=(wG ns ms).1
  lia
 ·have e:aG ((if ns=[]\/ms=[]then[]else tabI (ns.length+ms.length -1) (cf ns ms ns.length)).map fun x=>Rat.divInt x (A*B))=aG (mulQ as bs):=by
   refine Bj (bg _) (bg _) fun k=>?_
   have qn:((A*B:Int):Rat)≠0:=bu (Fh (by lia) (by lia))
   refine fj qn ?_
   rw[o8 (Fh (by lia) (by lia)),BA,qI,HZ,Da]
   rw[kJ (F:=co ns) (G:=co ms) (fun i=>cl.all i) (fun i=>cm.all i),iX]
  rw[e]
  exact hq
noncomputable def iZ:List CS:=[.iff (.cmp .Eq (.var 1) (.lst [])) [.mj] [],.rA [2,3] (.call 0 [(.var 0)]),.rA [4,5] (.call 0 [(.var 1)]),.rA [6,7,8] (.call 1 [(.var 2),(.var 4)]),.set 3 (.bin .Mult (.var 3) (.var 8)),.ret (.tup [(.call 2 [(.call 3 [(.var 6),(.var 5)]),(.var 3)]),(.call 2 [(.var 7),(.var 3)])])]
structure X7(a b q r:List Rat):Prop where
 zq:aA q
 zr:aA r
 len:r.length<b.length
 lq:q.length<=a.length+1 -b.length
 eq:∀k,a.getD k 0=cS (cQ q) (cQ b) k+r.getD k 0
noncomputable def nD:bN:=fun ws Q R=>∃(as bs:List Rat) (D1 D2:Int) (n1 n2 k1 k2:Nat),ws=[af as,af bs]/\((∀x∈as,Cd D1 n1 x)/\0<D1/\D1.natAbs<2^k1/\(∀x∈bs,Cd D2 n2 x)/\0<D2/\D2.natAbs<2^k2/\k2<=6000/\k1+(n2*(as.length+1 -bs.length)+1)<=6000/\n1<=10000/\n2<=5000/\as.length<=100/\bs.length<=100/\aA bs)/\(bs=[]->False)/\∀q r:List Rat,X7 as bs q r->(∃D:Int,D≠0/\D.natAbs<2^(k1+(n2*(as.length+1 -bs.length)+1))/\∀x∈r,Cd D (n1+(as.length+1 -bs.length)*(n2+1)) x)->Q (.tup [af q,af r])
theorem Fd{G:Nat->W}{m:Md}(ws:List W)(Q:W->Prop)(R:Addr->Prop)(h:nD ws Q R):wSs (b7 [gJ,cH,fh,gk]) G iZ (b8 m Q R) (au 9 ws):=by
 obtain⟨as,bs,D1,D2,n1,n2,k1,k2,rfl,⟨c1,d1,e1,c2,d2,e2,hk2,hk,h1,h2,la,lb,zb⟩,hr,hq⟩:=h
 show wSs _ _ iZ _ [some (af as),some (af bs),none,none,none,none,none,none,none]
 unfold iZ
 walk_at "vs"
 refine⟨ak (by simp),iz (y:=[]) fun b hb=>?_⟩
 walk_at "vs"
 by_cases bne:bs=[]
 ·cases cP hb bne
  walk_at "vs"
  exact hr bne
 cases bK hb bne
 walk_at "vs"
 have b0:=Bn.mpr bne
 refine⟨as,D1,n1,k1,rfl,⟨c1,d1,e1,by lia,by lia,la⟩,fun ns A cl dA bA bn=>⟨rfl,?_⟩⟩
 walk_at "vs"
 refine⟨bs,D2,n2,k2,rfl,⟨c2,d2,e2,hk2,by lia,lb⟩,fun ms B cm dB bB bm=>⟨rfl,?_⟩⟩
 walk_at "vs"
 have ln:ns.length=as.length:=by rw[cl.eq,Ap]
 have lm:ms.length=bs.length:=by rw[cm.eq,Ap]
 refine⟨ns,ms,n1,n2,rfl,⟨by lia,by lia,by lia,bn,bm,by lia⟩,fun Qs R1 dv=>⟨rfl,?_⟩⟩
 walk_at "vs"
 have p1:=cl.pos
 have p2:=cm.pos
 have lz:ms.getD (ms.length -1) 0≠0:=fun z=>by
  have e:=cm.all (ms.length -1)
  rw[z,lm]at e
  have y0:=zb _ (qC b0 rfl)
  have q0:=bu (B:=B) (by lia)
  rcases KB.mp (show bs.getD (bs.length -1) 0*(B:Rat)=0 by rw[e];rfl)with x|x
  ·exact y0 x
  ·exact q0 x
 have bS:=Rb (dI bm (ms.length -1)) (ns.length+1 -ms.length)
 have s0:ms.getD (ms.length -1) 0^(ns.length+1 -ms.length)≠0:=Sub.aQ lz _
 have lQ:=dv.Q7
 have lR:=dv.Q8
 have hS:=dv.eq
 have zR:=dv.last
 have bQ:=dv.bQ
 have bR:=dv.bR
 rw[ln,lm]at bS hS s0 bQ bR
 have m1:(as.length+1 -bs.length)*(n2+1)<=101*5001:=Jn (by lia) (by lia)
 rw[ln,lm]
 generalize ms.getD (bs.length -1) 0^(as.length+1 -bs.length)=S at*
 have Sm:A*S≠0:=Fh (by lia) s0
 have X8:(A*S).natAbs<2^(k1+(n2*(as.length+1 -bs.length)+1)):=by
  rw[Fk]
  exact lt_mul bA bS
 refine⟨aF bA bS (by lia),?_⟩
 refine⟨Qs,B,rfl,by lia,fun x hx=>aF bB (bQ x hx) (by lia),?_⟩
 refine⟨_,A*S,_,rfl,⟨Sm,X8,hk,by rw[Ap];lia⟩,?_⟩
 refine⟨R1,A*S,_,rfl,⟨Sm,X8,hk,by lia⟩,ak (by simp),?_⟩
 refine hq _ _ ⟨bg _,bg _,?_,?_,fun k=>?_⟩ ⟨A*S,Sm,X8,(Dp Sm bR).1⟩
 ·have:=kI (R1.map fun x=>Rat.divInt x (A*S))
  rw[Ap]at this
  lia
 ·have:=kI ((Qs.map (B*·)).map fun x=>Rat.divInt x (A*S))
  rw[Ap,Ap]at this
  lia
 ·refine Ib (B:=A) (C:=B) (S:=S) (ns:=ns) (ms:=ms) (R:=R1) (Qs:=Qs) (by lia) (by lia) s0 (fun i=>cl.all i) (fun i=>cm.all i) (fun i=>?_) (fun i=>o8 Sm R1 i) hS k
  rw[o8 Sm,Sub.map_getD (f:=fun x=>B*x) (Kt B),ar]
noncomputable def su:List CS:=[.ret (.blt .sum [(.sl (.var 0) (.var 1) (.bin .Add (.var 1) (.int 1)))])]
noncomputable def Dy:bN:=fun ws Q _=>∃(ns:List Int) (k:Int),ws=[.iJ ns,.int k]/\∀z:Int,Q (.int z)
theorem LL(ns:List Int)(a b:Option Int):∃ms:List Int,oM (ns.map W.int) a b=ms.map W.int:=by
 unfold oM
 exact⟨_,by rw[←List.map_drop,←List.map_take]⟩
theorem Rh{Φ:Nat->bN}{G:Nat->W}{m:Md}(ws:List W)(Q:W->Prop)(R:Addr->Prop)(h:Dy ws Q R):wSs Φ G su (b8 m Q R) (au 2 ws):=by
 obtain⟨ns,k,rfl,hq⟩:=h
 show wSs _ _ su _ [some (.iJ ns),some (.int k)]
 unfold su
 walk_at "vs"
 obtain⟨ms,e⟩:=LL ns (some k) (some (k+1))
 rw[e,U7]
 exact⟨ms,rfl,hq _⟩
structure GIn(a:List Rat):Prop where
 l8:a.length<=8
 z:aA a
 cd:∃D:Int,0<D/\D.natAbs<2^101/\∀x∈a,Cd D 117 x
 bd:∀x∈a,Bd 200 x
theorem LM{k:Int}{r:Rat}(h:tW k r)(hk:k=0\/k=1):Bd 10 r:=by
 rcases hk with e|e
 ·have:=h.1 e
  exact⟨by lia,by lia⟩
 ·have:=h.2.1 e
  exact⟨by lia,by lia⟩
end VL
namespace Num
noncomputable def MZ(g:List Rat):Prop:=g=[]\/Mon g
structure CD(a b g:List Rat):Prop where
 mz:MZ g
 iff:∀d,DQ d (cQ g)↔DQ d (cQ a)/\DQ d (cQ b)
theorem Ri{a:List Rat}(ha:aA a)(h:DQ (cQ []) (cQ a)):a=[]:=by
 obtain⟨s,fs,es⟩:=h
 rcases List.eq_nil_or_concat a with e|⟨t,y,e⟩
 ·exact e
 ·rw[List.concat_eq_append]at e
  have z:=es t.length
  rw[IG,jl (f':=fun _=>0) (fun i=>by rfl) (fun _=>rfl),wN]at z
  have:a.getD t.length 0=y:=by rw[e,AC,HI (Do _),cv];rfl
  exact absurd (this.symm.trans z) (ha y (by rw[e];exact List.getLast?_concat))
theorem Mon.Wc{g:List Rat}(h:Mon g):aA g:=fun x hx=>by
 have e:=h.one
 rw[Qb]at hx
 rw[AC,hx]at e
 have e:x=1:=e
 rw[e]
 decide
theorem MZ.Wc{g:List Rat}(h:MZ g):aA g:=by
 rcases h with e|h
 ·rw[e]
  intro x hx
  cases hx
 ·exact h.Wc
theorem CD.comm{a b g:List Rat}(h:CD a b g):CD b a g:=⟨h.mz,fun d=>(h.iff d).trans and_comm⟩
theorem CD.of{a b g:List Rat}{u v:Nat->Rat}(fu:Fin u)(fv:Fin v)(hz:MZ g)(da:DQ (cQ g) (cQ a))(db:DQ (cQ g) (cQ b))(e:∀k,cQ g k=cS u (cQ a) k+cS v (cQ b) k):CD a b g:=
 ⟨hz,fun d=>⟨fun h=>⟨h.trans da,h.trans db⟩,by rintro⟨p,q⟩;exact((p.mul u fu).add (q.mul v fv)).ext e⟩⟩
end Num
namespace VL
open PySem PySem.Spec
open PyProof.Rows hiding St
open L2 Num
theorem II{p1 p2:Nat}{g a:List Rat}(h:Wb p1 p2 g a):DQ (cQ g) (cQ a):=by
 obtain⟨s,D,e,_⟩:=h
 exact⟨cQ s,wM s,e⟩
theorem BD.cd{p1 p2:Nat}{a b g u v:List Rat}(h:BD p1 p2 a b g u v):CD a b g:=
 CD.of (u:=cQ u) (v:=cQ v) (wM u) (wM v) (.inr ⟨h.ne,h.one⟩) (II h.da) (II h.db) h.X0
theorem sj.cd{p1 p2:Nat}{a b g u v:List Rat}(h:sj p1 p2 a b g u v):CD a b g:=by
 rcases h with⟨rfl,rfl,rfl,_,_⟩|h
 ·exact⟨.inl rfl,fun d=>⟨fun x=>⟨x,x⟩,fun x=>x.1⟩⟩
 ·exact h.cd
structure Rw(l n k:Nat)(a:List Rat):Prop where
 len:a.length<=l
 z:aA a
 cd:∃D:Int,0<D/\D.natAbs<2^k/\∀x∈a,Cd D n x
theorem Rw.up{l n k l' n' k':Nat}{a:List Rat}(h:Rw l n k a)(h1:l<=l')(h2:n<=n')(h3:k<=k'):Rw l' n' k' a:=by
 obtain⟨a1,a2,D,d0,dk,c⟩:=h
 exact⟨by lia,a2,D,d0,gM dk h3,fun x hx=>(c x hx).up h2⟩
theorem Rj{D:Int}{n:Nat}{x:Rat}(h:Cd D n x):Cd (-D) n x:=by
 obtain⟨z,e,b⟩:=h
 refine⟨-z,?_,by omega⟩
 rw[Rat.intCast_neg,Rat.intCast_neg,←e]
 grind
theorem IJ{D:Int}{n:Nat}{a:List Rat}(h0:D≠0)(h:∀x∈a,Cd D n x){k:Nat}(hk:D.natAbs<2^k):∃D:Int,0<D/\D.natAbs<2^k/\∀x∈a,Cd D n x:=by
 by_cases h1:0<D
 ·exact⟨D,h1,hk,h⟩
 ·exact⟨-D,by lia,by lia,fun x hx=>Rj (h x hx)⟩
theorem Vp{a b:List Rat}{l1 l2 n k E q:Nat}(ha:Rw l1 n k a)(hb:Rw l2 n k b)(h1:l1<=8)(h2:l2<=8)(hE:∀s,s<=l1 -1+(l2 -1)->∀p,(s -2*p)*p+(s+1)<=E)(hq:(n+4)*(l1 -1+(l2 -1)+1)+1<=q)(q5:q<=5000)(e7:(n+4)*E<=7900)(qn:q+n<=6000)(k3:k<=3000)(n0:0<n):GP a b n k E q:=by
 have la:=ha.len
 have lb:=hb.len
 refine⟨by omega,by omega,ha.z,hb.z,ha.cd,hb.cd,hE _ (by omega),?_,q5,e7,qn,k3,n0⟩
 have:(n+4)*(a.length -1+(b.length -1)+1)<=(n+4)*(l1 -1+(l2 -1)+1):=DL _ (by omega)
 omega
theorem Vq{m E:Nat}(h:∀s,s<m+1->∀p,p<m+1->(s -2*p)*p+(s+1)<=E):∀s,s<=m->∀p,(s -2*p)*p+(s+1)<=E:=fun s hs p=>by
 by_cases hp:p<m+1
 ·exact h s (by omega) p hp
 ·have:=h s (by omega) 0 (by omega)
  rw[show s -2*p=0 by omega,Nat.zero_mul]
  omega
theorem Vr{q n k:Nat}{g u v:List Rat}(h:GB q n k g u v)(hz:aA g){l:Nat}(hl:g.length<=l):Rw l q q g:=by
 obtain⟨d,ca,cb,d0,_,_,bd,_,_,cg,_⟩:=h
 exact⟨hl,hz,IJ d0 cg bd⟩
theorem Dz{a b g:List Rat}(h:CD a b g)(ha:aA a)(hne:a≠[]):g.length<=a.length:=by
 have d:=((h.iff _).mp (DQ.refl (cQ g))).1
 rcases h.mz with e|hm
 ·rw[e]
  exact KM _
 ·have l0:=Bn.mpr hne
  exact DQ.len hm d (k:=a.length -1) (ha _ (qC l0 rfl))
theorem LN{a b g:List Rat}(h:CD a b g)(ha:aA a)(hb:aA b):g.length<=max a.length b.length:=by
 by_cases hne:a=[]
 ·by_cases hb0:b=[]
  ·subst hne hb0
   have:=Ri h.mz.Wc ((h.iff _).mpr ⟨DQ.refl _,DQ.refl _⟩)
   rw[this]
   exact KM _
  ·have:=Dz h.comm hb hb0
   lia
 ·have:=Dz h ha hne
  lia
theorem rw_draw{l:Nat}{k:Int}{rs:List Rat}(hk:k=0\/k=1)(hl:rs.length<=l)(h:∀x∈rs,tW k x)(hz:aA rs):Rw l 13 3 rs:=by
 refine⟨hl,hz,6,by decide,by decide,fun x hx=>?_⟩
 have hx:=h x hx
 have dp:=x.den_pos
 have d6:(x.den:Int)∣6/\(x.num*(6/x.den)).natAbs<2^13:=by
  rcases hk with e|e
  ·obtain⟨h1,h2⟩:=hx.1 e
   have:x.den=1\/x.den=2\/x.den=3:=by lia
   rcases this with e|e|e<;>rw[e]<;>refine⟨by decide,?_⟩
   ·show(x.num*6).natAbs<_
    lia
   ·show(x.num*3).natAbs<_
    lia
   ·show(x.num*2).natAbs<_
    lia
  ·obtain⟨h1,h2⟩:=hx.2.1 e
   rw[h2]
   refine⟨by decide,?_⟩
   show(x.num*6).natAbs<_
   lia
 exact Cd.of d6.1 d6.2
theorem rw_mul{l1 l2 n1 n2 k1 k2:Nat}{a b:List Rat}(ha:Rw l1 n1 k1 a)(hb:Rw l2 n2 k2 b)(h:l1<=30):Rw (l1+l2 -1) (n1+n2+5) (k1+k2) (aG (mulQ a b)):=by
 obtain⟨a1,a2,D1,p1,q1,c1⟩:=ha
 obtain⟨b1,b2,D2,p2,q2,c2⟩:=hb
 refine⟨?_,bg _,D1*D2,Int.mul_pos p1 p2,by rw[Fk];exact lt_mul q1 q2,fun x hx=>Lx c1 c2 (by omega) x (E2 hx)⟩
 have:=kI (mulQ a b)
 unfold mulQ at this⊢
 rw[rW]at this
 omega
end VL
namespace Sub
theorem DC{D:List Vc->Int}{r:Ix}{n:Nat}(h:∀ds:List Vc,n<=ds.length->D ds=0):∀(post pre:List Vc),n<pre.length+post.length->ex D r pre post=0
 |[],_,_=>rfl
 |c::post,pre,hl=>by
  rw[List.length_cons]at hl
  rw[ex,h _ (by rw[FC];lia),DC h post _ (by rw[FC];show n<_+1+_;lia)]
  simp
theorem zd:∀(rs:List Ix) (cs:List Vc),rs.length+1<=cs.length->det rs cs=0
 |[],[],h=>by cases h
 |[],_::_,_=>rfl
 |r::rs,cs,h=>DC (n:=rs.length+1) (fun ds hd=>zd rs ds hd) cs [] (by rw[List.length_cons]at h;show _<0+cs.length;lia)
noncomputable def lc(y:Ix->Vc)(c:Vc):List Ix->Vc
 |[]=>fun _=>0
 |r::rs=>fun i=>1*lc y c rs i+c r*y r i
theorem ze{D:List Vc->Int}(hl:E5 D)(p q:List Vc):D (p++(fun _=>0)::q)=0:=by
 have:=hl p q 0 0 (fun _=>0) (fun _=>0)
 simpa using this
theorem IK{D:List Vc->Int}(h:Alt D)(hl:E5 D){p q:List Vc}{a b:Vc}(x y:Int)(hb:b∈p):D (p++(fun i=>x*a i+y*b i)::q)=x*D (p++a::q):=by
 obtain⟨u,v,rfl⟩:=List.append_of_mem hb
 have e1:=jW h (v++[fun i=>x*a i+y*b i]) u q b
 have e2:=jW h (v++[a]) u q b
 have e3:=C5 h hl (p:=u++v) (q:=b::q) (a:=a) x y FK
 simp only[Kb,List.cons_append,List.nil_append,FC,List.length_cons,List.length_nil]at e1 e2 e3⊢
 rw[e1,e3,e2]
 grind
theorem zf{D:List Vc->Int}(h:Alt D)(hl:E5 D){y:Ix->Vc}{r:Ix}{rs:List Ix}:∀(post p:List Vc),y r∈p->D (p++post.map fun c=>lc y c (r::rs))=D (p++post.map fun c=>lc y c rs)
 |[],_,_=>rfl
 |c::post,p,hp=>by
  have e:=zf h hl (rs:=rs) post (p++[lc y c rs]) (P2 _ hp)
  have e2:=IK h hl (q:=post.map fun c=>lc y c (r::rs)) (a:=lc y c rs) 1 (c r) hp
  rw[RF]at e2
  rw[Kb,Kb]at e
  exact e2.trans e
theorem uQ{D:List Vc->Int}(h:Alt D)(hl:E5 D){y:Ix->Vc}{r:Ix}{rs:List Ix}(ih:∀(p cs:List Vc),rs.length<=cs.length->D (p++cs.map fun c=>lc y c rs)=det rs cs*D (p++rs.map y))(p:List Vc):
 ∀(post pre:List Vc),rs.length+1<=pre.length+post.length->D (p++((pre.map fun c=>lc y c rs)++post.map fun c=>lc y c (r::rs)))=sg pre.length*ex (det rs) r pre post*D (p++y r::rs.map y)
 |[],pre,hn=>by
  rw[List.map_nil,KF,ih p pre (by simp at hn;lia),zd rs pre (by simpa using hn),ex]
  simp
 |c::post,pre,hn=>by
  rw[List.length_cons]at hn
  have e1:=uQ h hl (r:=r) ih p post (pre++[c]) (by rw[FC];show _<=_+1+_;lia)
  have e2:=hl (p++pre.map fun c=>lc y c rs) (post.map fun c=>lc y c (r::rs)) 1 (c r) (lc y c rs) (y r)
  have e3:=zf h hl (y:=y) (r:=r) (rs:=rs) post ((p++pre.map fun c=>lc y c rs)++[y r]) (Fn _ (Fm.mpr rfl))
  have e4:=jW h (pre.map fun c=>lc y c rs) p (post.map fun c=>lc y c rs) (y r)
  have e5:=ih (p++[y r]) (pre++post) (by rw[FC];lia)
  have s2:=(ji pre.length).sq
  have sS:sg (pre.length+1)= -sg pre.length:=by unfold sg;rw[Iy];grind
  simp only[Pt,On,List.map_nil,Kb,List.cons_append,List.nil_append,FC,List.length_cons,List.length_nil,Ap,Nat.zero_add]at e1 e2 e3 e4 e5⊢
  have e6:D (p++(List.map (fun c=>lc y c rs) pre++y r::List.map (fun c=>lc y c rs) post))=sg pre.length*(det rs (pre++post)*D (p++y r::rs.map y)):=by
   rw[←e5,e4]
   have:∀X:Int,X=sg pre.length*(sg pre.length*X):=fun X=>by
    have:sg pre.length*(sg pre.length*X)=(sg pre.length*sg pre.length)*X:=by grind
    rw[this,s2,RF]
   exact this _
  show D (p++(List.map (fun c=>lc y c rs) pre++(fun i=>1*lc y c rs i+c r*y r i)::List.map (fun c=>lc y c (r::rs)) post))=_
  rw[e2,e1,e3,e6,ex,sS]
  grind
theorem BH{D:List Vc->Int}(h:Alt D)(hl:E5 D)(y:Ix->Vc):∀(rs:List Ix) (p cs:List Vc),rs.length<=cs.length->D (p++cs.map fun c=>lc y c rs)=det rs cs*D (p++rs.map y)
 |[],p,[],_=>by simp[det]
 |[],p,c::cs,_=>by
  rw[det,U2]
  exact ze hl p _
 |r::rs,p,cs,hn=>by
  have:=uQ h hl (y:=y) (r:=r) (BH h hl y rs) p cs [] (by simpa using hn)
  rw[List.map_nil,List.nil_append]at this
  rw[this,det]
  unfold sg
  simp
end Sub
namespace Sub
open Num
noncomputable def pc(f:Nat->Int):Vc:=fun i=>f i.2
theorem wO(p:Nat)(g:Nat->Int)(k:Nat):aq (fun i=>if i=p then 1 else 0) g k=if p<=k then g (k -p)else 0:=by
 have e:=we 0 1 (fun _=>0) g p k
 rw[aM (f':=fun i=>0*(fun _=>(0:Int)) i+if i=p then 1 else 0) (fun i=>by simp) (fun _=>rfl) k,e]
 simp
theorem IL(g:Nat->Int)(c:Vc)(i:Ix):∀N,lc (fun r=>sh r.2 (pc g)) c (rws N N) i=aq (fun t=>if t<N then c (false,t)else 0) g i.2
 |0=>by
  rw[aM (f':=fun _=>0) (fun t=>Bi (Nat.not_lt_zero t)) (fun _=>rfl),fD]
  rfl
 |N+1=>by
  have e:=we 1 (c (false,N)) (fun t=>if t<N then c (false,t)else 0) g N i.2
  rw[aM (f':=fun t=>1*(if t<N then c (false,t)else 0)+if t=N then c (false,N)else 0) (fun t=>?_) (fun _=>rfl),e,←IL g c i N]
  ·show 1*lc _ c (rws N N) i+c (false,N)*sh N (pc g) i=_
   unfold sh pc
   by_cases h:N<=i.2
   ·rw[Bz h,Bz h]
   ·rw[Bi h,Bi h,Kt]
  ·by_cases h1:t<N
   ·rw[Bz (by lia),Bz h1,Bi (by lia)]
    simp
   ·by_cases h2:t=N
    ·rw[Bz (by lia),Bi h1,Bz h2,h2]
     simp
    ·rw[Bi (by lia),Bi h1,Bi h2]
     simp
theorem Vs{f g:Nat->Int}{N j:Nat}(h:∀t,N<=t+j->f t=0):lc (fun r=>sh r.2 (pc g)) (sh j (pc f)) (rws N N)=sh j (pc (aq f g)):=by
 funext i
 rw[IL]
 have e:∀t,(if t<N then sh j (pc f) (false,t)else 0)=aq (fun i=>if i=j then 1 else 0) f t:=fun t=>by
  rw[wO]
  unfold sh pc
  by_cases h1:t<N
  ·rw[Bz h1]
  ·rw[Bi h1]
   by_cases h2:j<=t
   ·rw[Bz h2,h _ (by lia)]
   ·rw[Bi h2]
 rw[aM e (fun _=>rfl),b5,wO]
 rfl
theorem sA{f g:Nat->Int}{N:Nat}:∀{a:Nat},(∀t j,j<a->N<=t+j->f t=0)->(bU (pc f) a).map (fun c=>lc (fun r=>sh r.2 (pc g)) c (rws N N))=bU (pc (aq f g)) a
 |0,_=>rfl
 |a+1,h=>by
  rw[bU,On,Vs (fun t ht=>h t a (QP _) ht),sA fun t j hj=>h t j (by lia)]
  rfl
theorem wQ(y:Nat->Vc)(P:Vc)(h:∀t,y t=sh t P):∀N,(rws N N).map (fun r=>y r.2)=bU P N
 |0=>rfl
 |N+1=>by
  rw[rws,On,wQ y P h N,h,bU]
theorem sC:∀N,(rws N N).length=N
 |0=>rfl
 |N+1=>by rw[rws,List.length_cons,sC N]
noncomputable def one:Nat->Int:=fun i=>if i=0 then 1 else 0
theorem BF(f:Nat->Int):aq one f=f:=funext fun k=>by
 rw[show one=fun i=>if i=0 then 1 else 0 from rfl,wO,Bz (KM _)]
 rfl
theorem LO(n:Nat):det (rws n n) (bU (pc one) n)=1:=by
 have e:=Br (B:=pc one) (n:=0) (l:=1) rfl (fun t ht=>Bi (by lia)) (cs:=[]) (b:=0) (c:=0) (tl:=[]) (fun d hd=>nomatch hd) n
 simp only[KF,Nat.zero_add,Int.one_pow]at e
 rw[e]
 rfl
theorem IM(a b:Nat):sg (a+b)=sg a*sg b:=by unfold sg;rw[cq]
theorem wR(a:Nat):sg a*sg a=1:=(ji a).sq
noncomputable def gZ(f g:Nat->Int)(m n:Nat):Int:=det (rws (m+n) (m+n)) (bU (pc f) n++bU (pc g) m)
theorem sD(f g:Nat->Int)(m n:Nat):gZ f g m n=sg (m*n)*gZ g f n m:=by
 unfold gZ
 have e:=fK (cU (rws (m+n) (m+n))) (bU (pc f) n) [] (bU (pc g) m) []
 simp only[List.nil_append,KF,dH]at e
 rw[e,Nat.add_comm m n]
theorem IP{f g:Nat->Int}{m n k:Nat}{l:Int}(hf:∀t,m<t->f t=0)(hg:g n=l)(hz:∀t,n<t->g t=0):
 det (rws (m+n+k) (m+n+k)) (bU (pc f) n++bU (pc g) (m+k))=sg (k*n)*(l^k*gZ f g m n):=by
 have e:=fK (cU (rws (m+n+k) (m+n+k))) (bU (pc f) n) [] (bU (pc g) (m+k)) []
 have e2:=Br (B:=pc g) (n:=n) (l:=l) hg hz (cs:=bU (pc f) n) (b:=m) (c:=m+n) (tl:=[]) (fun d hd t ht=>by
  obtain⟨i,hi,rfl⟩:=mL hd
  unfold sh pc
  show(if i<=t then f (t -i)else 0)=0
  split
  ·exact hf _ (by lia)
  ·rfl) k
 have e3:=sD f g m n
 unfold gZ at e3⊢
 simp only[List.nil_append,KF,dH]at e e2
 rw[e,show m+n+k=n+m+k by lia]
 rw[show n+m+k=m+n+k by lia]at e2⊢
 rw[e2,e3,Nat.add_mul,IM,Nat.add_comm n m]
 have:=wR (m*n)
 generalize sg (m*n)=s at*
 generalize sg (k*n)=t at*
 generalize l^k=u at*
 generalize det (rws (m+n) (m+n)) (bU (pc g) m++bU (pc f) n)=X at*
 grind
theorem LP{f g h:Nat->Int}{m n k:Nat}{l:Int}(hf:∀t,m<t->f t=0)(hg:g n=l)(hz:∀t,n<t->g t=0)(hh:∀t,k<t->h t=0)(l0:l≠0):gZ f (aq g h) m (n+k)=gZ f g m n*gZ f h m k:=by
 have hN:m+n+k=m+(n+k):=by lia
 have e1:=BH (cU (rws (m+n+k) (m+n+k))) (gm _) (fun r=>sh r.2 (pc g)) (rws (m+k) (m+k)) (bU (pc f) n) (bU (pc f) k++bU (pc h) m) (by rw[sC,FC,dH,dH];lia)
 rw[Pt,sA (fun t j hj ht=>hf t (by lia)),sA (fun t j hj ht=>hh t (by lia)),wQ (fun t=>sh t (pc g)) (pc g) (fun _=>rfl),IP hf hg hz]at e1
 have e2:=BH (cU (rws (m+n+k) (m+n+k))) (gm _) (fun r=>sh r.2 (pc f)) (rws (n+k) (n+k)) (bU (pc (aq h g)) m) (bU (pc one) n++bU (pc g) k) (by rw[sC,FC,dH,dH];lia)
 rw[Pt,sA (f:=one) (fun t j hj ht=>Bi (by lia)),sA (f:=g) (fun t j hj ht=>hz t (by lia)),wQ (fun t=>sh t (pc f)) (pc f) (fun _=>rfl),BF,show aq g f=aq f g from funext (bC g f)]at e2
 have d1:det (rws (n+k) (n+k)) (bU (pc one) n++bU (pc g) k)=sg (k*n)*l^k:=by
  have e:=IP (f:=one) (g:=g) (m:=0) (n:=n) (k:=k) (l:=l) (fun t ht=>Bi (by lia)) hg hz
  rw[Nat.zero_add,Nat.zero_add]at e
  rw[e]
  unfold gZ
  rw[Nat.zero_add,bU,KF,LO,ag]
 have m1:=fK (cU (rws (m+n+k) (m+n+k))) (bU (pc (aq h g)) m) [] (bU (pc f) n++bU (pc (aq f g)) k) []
 have m2:=fK (cU (rws (m+n+k) (m+n+k))) (bU (pc (aq h g)) m) [] (bU (pc f) (n+k)) []
 simp only[List.nil_append,KF,dH,FC,Kb]at m1 m2 e1
 rw[m1,m2,d1,e1]at e2
 unfold gZ at e2⊢
 rw[←hN,show aq g h=aq h g from funext (bC g h)]
 have s1:=wR ((n+k)*m)
 have s2:=wR (k*n)
 have lk:=aQ l0 k
 generalize sg ((n+k)*m)=s at*
 generalize sg (k*n)=t at*
 generalize l^k=u at*
 generalize det (rws (m+n+k) (m+n+k)) (bU (pc f) (n+k)++bU (pc (aq h g)) m)=X at*
 generalize det (rws (m+n) (m+n)) (bU (pc f) n++bU (pc g) m)=Y at*
 generalize det (rws (m+k) (m+k)) (bU (pc f) k++bU (pc h) m)=Z at*
 have e3:u*X=u*(Y*Z):=by
  have a:s*(s*(t*(t*(u*X))))=u*X:=by
   have:s*(s*(t*(t*(u*X))))=(s*s)*((t*t)*(u*X)):=by grind
   rw[this,s1,s2]
   simp
  have b:s*(t*(s*(Z*(t*(u*Y)))))=u*(Y*Z):=by
   have:s*(t*(s*(Z*(t*(u*Y)))))=(s*s)*((t*t)*(u*(Y*Z))):=by grind
   rw[this,s1,s2]
   simp
  rw[←a,←b]
  congr 1
  have:s*(t*(t*(u*X)))=t*(t*u*(s*X)):=by grind
  rw[this,←e2]
 exact NM lk e3
theorem BJ(c:Int)(f:Nat->Int){D:List Vc->Int}(hl:E5 D):∀(a:Nat) (p q:List Vc),D (p++(bU (pc fun t=>c*f t) a++q))=c^a*D (p++(bU (pc f) a++q))
 |0,p,q=>by simp[bU]
 |a+1,p,q=>by
  have e:=BJ c f hl a (p++[sh a (pc f)]) q
  have e2:=hl p (bU (pc fun t=>c*f t) a++q) c 0 (sh a (pc f)) (sh a (pc f))
  simp only[Kb,List.cons_append,List.nil_append,U2,UF]at e e2
  rw[bU,bU,List.cons_append,List.cons_append,show sh a (pc fun t=>c*f t)=fun i=>c*sh a (pc f) i from funext fun i=>by
   unfold sh pc
   show(if a<=i.2 then c*f (i.2 -a)else 0)=c*(if a<=i.2 then f (i.2 -a)else 0)
   split<;>simp,e2,e,Iy]
  grind
theorem wU(c:Int)(f g:Nat->Int)(m n:Nat):gZ f (fun t=>c*g t) m n=c^m*gZ f g m n:=by
 have e:=BJ c g (gm (rws (m+n) (m+n))) m (bU (pc f) n) []
 simp only[KF]at e
 exact e
theorem wV(c:Int)(f g:Nat->Int)(m n:Nat):gZ (fun t=>c*f t) g m n=c^n*gZ f g m n:=by
 have e:=BJ c f (gm (rws (m+n) (m+n))) n [] (bU (pc g) m)
 simp only[List.nil_append]at e
 exact e
theorem IQ(f g:Nat->Int)(m:Nat)(hz:∀t,0<t->g t=0):gZ f g m 0=g 0^m:=by
 unfold gZ
 have e:=Br (B:=pc g) (n:=0) (l:=g 0) rfl hz (cs:=[]) (b:=0) (c:=0) (tl:=[]) (fun d hd=>nomatch hd) m
 simp only[KF,Nat.zero_add]at e
 rw[bU,List.nil_append,Nat.add_zero,e]
 show _*1=_
 rw[ag]
theorem IS{f g:Nat->Int}{m n:Nat}(h:∀t,g t=0)(hm:0<m):gZ f g m n=0:=by
 obtain⟨k,rfl⟩:∃k,m=k+1:=⟨m -1,by lia⟩
 unfold gZ
 rw[bU,show sh k (pc g)=fun _=>0 from funext fun i=>by unfold sh pc;simp[h]]
 exact ze (gm _) _ _
theorem DE(c:Int)(a:Vc)(q:Nat->Int)(y:Nat->Vc)(i:Ix):∀rs:List Ix,comb c a (rs.map fun r=>(q r.2,y r.2)) i=c*a i+lc (fun r=>y r.2) (pc q) rs i
 |[]=>by
  show c*a i+0*a i=c*a i+0
  simp
 |r::rs=>by
  show 1*comb c a _ i+q r.2*y r.2 i=c*a i+(1*lc _ _ rs i+q r.2*y r.2 i)
  rw[DE c a q y i rs]
  grind
theorem IT:∀{N:Nat} {r:Ix},r∈rws N N->r.2<N
 |N+1,r,h=>by
  rw[rws]at h
  rcases FV.mp h with e|h
  ·rw[e]
   exact QP _
  ·have:=IT h
   lia
theorem IU{f g q r:Nat->Int}{c:Int}{D:List Vc->Int}(h:Alt D)(hl:E5 D){n N a:Nat}(hq:∀t,N<=t->q t=0)(hr:∀t,r t=c*g t+aq q f t)(hN:N+a<=n+1)(p:List Vc):D (p++(bU (pc r) a++bU (pc f) n))=c^a*D (p++(bU (pc g) a++bU (pc f) n)):=by
 have e:=ny h hl (q:=bU (pc f) n) (c:=c) (A:=pc g) (L:=(rws N N).map fun r=>(q r.2,sh r.2 (pc f))) a p fun z hz j hj=>by
  obtain⟨s,hs,rfl⟩:=Kx.mp hz
  have:=IT hs
  show sh j (sh s.2 (pc f))∈_
  rw[Na]
  exact wm (by lia)
 rw[←e]
 congr 4
 funext i
 rw[DE c (pc g) q (fun t=>sh t (pc f)) i,IL,aM (f':=q) (fun t=>?_) (fun _=>rfl)]
 ·exact hr i.2
 ·by_cases h1:t<N
  ·rw[Bz h1]
   rfl
  ·rw[Bi h1,hq t (by lia)]
theorem zg{f g q r:Nat->Int}{c l:Int}{m n d N:Nat}(hf:f m=l)(hz:∀t,m<t->f t=0)(hd:∀t,d<t->r t=0)(hdn:d<=n)(hq:∀t,N<=t->q t=0)(hr:∀t,r t=c*g t+aq q f t)(hN:N+m<=n+1):c^m*gZ f g m n=l^(n -d)*gZ f r m d:=by
 have m1:=fK (cU (rws (m+n) (m+n))) (bU (pc f) n) [] (bU (pc r) m) []
 have m2:=fK (cU (rws (m+n) (m+n))) (bU (pc f) n) [] (bU (pc g) m) []
 have e:=IU (cU (rws (m+n) (m+n))) (gm _) (f:=f) (g:=g) hq hr hN []
 have e2:=Br (B:=pc f) (n:=m) (l:=l) hf hz (cs:=bU (pc r) m) (b:=d) (c:=m+d) (tl:=[]) (fun x hx t ht=>by
  obtain⟨i,hi,rfl⟩:=mL hx
  unfold sh pc
  show(if i<=t then r (t -i)else 0)=0
  split
  ·exact hd _ (by lia)
  ·rfl) (n -d)
 simp only[List.nil_append,KF,dH]at m1 m2 e e2
 rw[show m+d+(n -d)=m+n by lia,show d+(n -d)=n by lia]at e2
 unfold gZ
 rw[m2,←e2,m1,e]
 grind
end Sub
namespace Num
theorem kL(a b:List Rat)(k:Nat):cQ (aG (mulQ a b)) k=cS (cQ a) (cQ b) k:=(qI _ k).trans (HZ a b k)
theorem kM{c:List Rat}(h:aA c)(ne:c≠[]):c.getD (c.length -1) 0≠0:=by
 have l:=Bn.mpr ne
 refine h _ ?_
 rw[Qb,AC,BM (Nat.sub_lt l Nat.one_pos)]
 rfl
theorem Rk{g:List Rat}(h:Mon g)(l:g.length<=1):g=[1]:=by
 have o:=h.one
 match g,h.ne,l,o with
 |[x],_,_,o=>
  have o:x=1:=o
  rw[o]
end Num
namespace Num
open Sub
structure BK(a:List Rat)(D:Int)(F:Nat->Int):Prop where
 ne:D≠0
 eq:∀t,cQ a t*(D:Rat)=(F t:Int)
theorem DF:∀a:List Rat,∃D:Int,D≠0/\∀x∈a,∃z:Int,x*(D:Rat)=z
 |[]=>⟨1,by decide,fun x hx=>nomatch hx⟩
 |x::a=>by
  obtain⟨D,d0,h⟩:=DF a
  have xd:(x.den:Int)≠0:=by exact_mod_cast x.den_nz
  refine⟨x.den*D,Fh xd d0,fun y hy=>?_⟩
  rcases FV.mp hy with rfl|hy
  ·obtain⟨z,hz,_⟩:=Cd.of (x:=y) (D:=y.den*D) (Int.dvd_mul_right _ _) Nat.lt_two_pow_self
   exact⟨z,hz⟩
  ·obtain⟨z,hz⟩:=h y hy
   refine⟨x.den*z,?_⟩
   rw[Da,Da,←hz]
   grind
theorem b6(a:List Rat):∃(D:Int) (F:Nat->Int),BK a D F:=by
 obtain⟨D,d0,h⟩:=DF a
 have:∀t,∃z:Int,cQ a t*(D:Rat)=z:=fun t=>by
  by_cases ht:t<a.length
  ·have:cQ a t∈a:=by
    show a.getD t 0∈a
    rw[AC,BM ht]
    exact PP ht
   exact h _ this
  ·exact⟨0,by rw[show cQ a t=0 from iQ (by lia)];grind⟩
 exact⟨D,fun t=>Classical.choose (this t),d0,fun t=>PQ (this t)⟩
theorem BK.zero{a:List Rat}{D:Int}{F:Nat->Int}(h:BK a D F){t:Nat}(ht:a.length<=t):F t=0:=by
 have e:=h.eq t
 rw[show cQ a t=0 from iQ ht,Rat.zero_mul]at e
 exact_mod_cast e.symm
theorem BK.nz{a:List Rat}{D:Int}{F:Nat->Int}(h:BK a D F){t:Nat}(ht:cQ a t≠0):F t≠0:=fun z=>by
 have e:=h.eq t
 rw[z]at e
 have d:(D:Rat)≠0:=by exact_mod_cast h.ne
 rcases KB.mp e with w|w
 ·exact ht w
 ·exact d w
noncomputable def aZ(a b:List Rat):Rat:=
 (gZ (Classical.choose (PQ (b6 a))) (Classical.choose (PQ (b6 b))) (a.length -1) (b.length -1):Int)/(((Classical.choose (b6 a):Int):Rat)^(b.length -1)*((Classical.choose (b6 b):Int):Rat)^(a.length -1))
theorem bI{x:Rat}(h:x≠0)(n:Nat):x^n≠0:=by
 induction n with
 |zero=>rw[Ts];decide
 |succ n ih=>rw[Sr];exact fun z=>(KB.mp z).elim ih h
theorem DG{x y z:Rat}(h:z≠0)(e:x*z=y*z):x=y:=by
 have:(x -y)*z=0:=by grind
 rcases KB.mp this with w|w
 ·grind
 ·exact absurd w h
theorem kN{a b:List Rat}{D E:Int}{F G:Nat->Int}(ha:BK a D F)(hb:BK b E G):aZ a b*((D:Rat)^(b.length -1)*(E:Rat)^(a.length -1))=(gZ F G (a.length -1) (b.length -1):Int):=by
 unfold aZ
 have ra:=PQ (PQ (b6 a))
 have rb:=PQ (PQ (b6 b))
 generalize Classical.choose (PQ (b6 a))=F0 at*
 generalize Classical.choose (PQ (b6 b))=G0 at*
 generalize Classical.choose (b6 a)=D0 at*
 generalize Classical.choose (b6 b)=E0 at*
 generalize a.length -1=m
 generalize b.length -1=n
 have d0:(D0:Rat)≠0:=by exact_mod_cast ra.ne
 have e0:(E0:Rat)≠0:=by exact_mod_cast rb.ne
 have eF:(fun t=>D*F0 t)=fun t=>D0*F t:=funext fun t=>by
  have h1:=ra.eq t
  have h2:=ha.eq t
  have:((D*F0 t:Int):Rat)=(D0*F t:Int):=by
   rw[Da,Da,←h1,←h2]
   grind
  exact_mod_cast this
 have eG:(fun t=>E*G0 t)=fun t=>E0*G t:=funext fun t=>by
  have h1:=rb.eq t
  have h2:=hb.eq t
  have:((E*G0 t:Int):Rat)=(E0*G t:Int):=by
   rw[Da,Da,←h1,←h2]
   grind
  exact_mod_cast this
 have s1:gZ (fun t=>D*F0 t) (fun t=>E*G0 t) m n=D^n*(E^m*gZ F0 G0 m n):=by rw[wV,wU]
 have s2:gZ (fun t=>D0*F t) (fun t=>E0*G t) m n=D0^n*(E0^m*gZ F G m n):=by rw[wV,wU]
 rw[eF,eG,s2]at s1
 have s3:((D0:Rat)^n*(E0:Rat)^m)*(gZ F G m n:Int)=((D:Rat)^n*(E:Rat)^m)*(gZ F0 G0 m n:Int):=by
  have:=SZ (fun z:Int=>(z:Rat)) s1
  simp only[Da,Rat.intCast_pow]at this
  grind
 have z0:(D0:Rat)^n*(E0:Rat)^m≠0:=fun z=>(KB.mp z).elim (bI d0 n) (bI e0 m)
 refine DG z0 ?_
 generalize(D0:Rat)^n*(E0:Rat)^m=u at*
 generalize(D:Rat)^n*(E:Rat)^m=v at*
 rw[show((gZ F0 G0 m n:Int):Rat)/u*v*u=((gZ F0 G0 m n:Int):Rat)/u*u*v by grind,W1 z0,Rat.mul_comm,←s3,Rat.mul_comm]
theorem wW{a b:List Rat}{D E:Int}{F G:Nat->Int}{x:Rat}(ha:BK a D F)(hb:BK b E G)(h:x*((D:Rat)^(b.length -1)*(E:Rat)^(a.length -1))=(gZ F G (a.length -1) (b.length -1):Int)):x=aZ a b:=by
 have d0:(D:Rat)≠0:=by exact_mod_cast ha.ne
 have e0:(E:Rat)≠0:=by exact_mod_cast hb.ne
 exact DG (fun z=>(KB.mp z).elim (bI d0 _) (bI e0 _)) (h.trans (kN ha hb).symm)
theorem fS(x y:Rat):∀n:Nat,(x*y)^n=x^n*y^n
 |0=>by rw[Ts,Ts,Ts,Y1]
 |n+1=>by
  rw[Sr,Sr,Sr,fS x y n]
  grind
theorem LQ(n:Nat):((sg n:Int):Rat)*((sg n:Int):Rat)=1:=by
 have:=wR n
 exact_mod_cast this
theorem nE{b c:List Rat}(hb:aA b)(b0:b≠[])(hc:aA c)(c0:c≠[]):(aG (mulQ b c)).length=b.length+c.length -1:=by
 have lb:=Bn.mpr b0
 have lc:=Bn.mpr c0
 have e:=wL (f:=cQ b) (g:=cQ c) (n:=b.length -1) (m:=c.length -1) (fun i hi=>iQ (by lia)) (fun i hi=>iQ (by lia))
 have nz:cQ (aG (mulQ b c)) (b.length -1+(c.length -1))≠0:=by
  rw[kL,e]
  exact fun z=>(KB.mp z).elim (kM hb b0) (kM hc c0)
 have h1:b.length -1+(c.length -1)<(aG (mulQ b c)).length:=Nat.lt_of_not_le fun h=>nz (iQ h)
 have h2:=kI (mulQ b c)
 unfold mulQ at h2 h1⊢
 rw[rW]at h2
 lia
theorem LR{b c:List Rat}{E H:Int}{G K:Nat->Int}(hb:BK b E G)(hc:BK c H K):BK (aG (mulQ b c)) (E*H) (aq G K):=by
 refine⟨Fh hb.ne hc.ne,fun t=>?_⟩
 rw[kL,Da]
 exact kJ hb.eq hc.eq t
theorem wX{a b c:List Rat}(a0:a≠[])(hb:aA b)(b0:b≠[])(hc:aA c)(c0:c≠[]):aZ a (aG (mulQ b c))=aZ a b*aZ a c:=by
 obtain⟨D,F,ra⟩:=b6 a
 obtain⟨E,G,rb⟩:=b6 b
 obtain⟨H,K,rc⟩:=b6 c
 have la:=Bn.mpr a0
 have lb:=Bn.mpr b0
 have lc:=Bn.mpr c0
 refine(wW ra (LR rb rc) ?_).symm
 have e1:=kN ra rb
 have e2:=kN ra rc
 have s:=LP (f:=F) (g:=G) (h:=K) (m:=a.length -1) (n:=b.length -1) (k:=c.length -1) (fun t ht=>ra.zero (by lia)) rfl (fun t ht=>rb.zero (by lia)) (fun t ht=>rc.zero (by lia)) (rb.nz (kM hb b0))
 rw[nE hb b0 hc c0,show b.length+c.length -1 -1=b.length -1+(c.length -1) by lia,s,Da,Da,←e1,←e2,fS,se]
 grind
theorem i0(a b:List Rat):aZ b a=(sg ((a.length -1)*(b.length -1)):Int)*aZ a b:=by
 obtain⟨D,F,ra⟩:=b6 a
 obtain⟨E,G,rb⟩:=b6 b
 refine(wW rb ra ?_).symm
 have e1:=kN ra rb
 have s:=sD F G (a.length -1) (b.length -1)
 have t:=LQ ((a.length -1)*(b.length -1))
 rw[s,Da]at e1
 generalize((sg ((a.length -1)*(b.length -1)):Int):Rat)=z at*
 generalize(D:Rat)^(b.length -1)=u at*
 generalize(E:Rat)^(a.length -1)=v at*
 generalize((gZ G F (b.length -1) (a.length -1):Int):Rat)=w at*
 have:z*(aZ a b*(u*v))=z*(z*w):=by rw[e1]
 rw[show z*(z*w)=z*z*w by grind,t]at this
 grind
theorem zh{a b c:List Rat}(ha:aA a)(a0:a≠[])(hc:aA c)(c0:c≠[])(b0:b≠[]):aZ (aG (mulQ a c)) b=aZ a b*aZ c b:=by
 have la:=Bn.mpr a0
 have lc:=Bn.mpr c0
 rw[i0 b (aG (mulQ a c)),wX b0 ha a0 hc c0,i0 b a,i0 b c,nE ha a0 hc c0,show(b.length -1)*(a.length+c.length -1 -1)=(b.length -1)*(a.length -1)+(b.length -1)*(c.length -1) by rw[←Nat.mul_add];congr 1;lia,IM,Da]
 grind
theorem j3(a:List Rat)(t:Rat):aZ a [t]=t^(a.length -1):=by
 obtain⟨D,F,ra⟩:=b6 a
 obtain⟨E,G,rb⟩:=b6 [t]
 refine(wW ra rb ?_).symm
 rw[show[t].length -1=0 from rfl,IQ F G _ (fun s hs=>rb.zero (show 1<=s by lia)),Rat.intCast_pow,←rb.eq 0,fS,Ts,Y1]
 rfl
theorem zj(a:List Rat)(t:Rat):aZ [t] a=t^(a.length -1):=by
 rw[i0 a [t],j3,show(a.length -1)*([t].length -1)=0 from rfl]
 exact Y1 _
theorem nF{a b q r:List Rat}(ha:aA a)(a0:a≠[])(b0:b≠[])(hr:r.length<=b.length)(hq:q.length+a.length<=b.length+1)(e:∀k,cQ b k=cS (cQ q) (cQ a) k+cQ r k)(r0:r≠[]):aZ a b=a.getD (a.length -1) 0^(b.length -r.length)*aZ a r:=by
 obtain⟨D,F,ra⟩:=b6 a
 obtain⟨X,G,rb⟩:=b6 b
 obtain⟨Y,K,rq⟩:=b6 q
 have la:=Bn.mpr a0
 have lb:=Bn.mpr b0
 have lr:=Bn.mpr r0
 have rr:BK r (X*(Y*D)) fun t=>Y*D*G t+aq (fun t=> -X*K t) F t:=by
  refine⟨Fh rb.ne (Fh rq.ne ra.ne),fun t=>?_⟩
  have e1:=rb.eq t
  have e2:=kJ rq.eq ra.eq t
  have e3:=e t
  rw[cj,Rat.intCast_add,Da,Da,Da,Da,Da,Rat.intCast_neg,←e1,←e2,e3]
  grind
 have s:=zg (f:=F) (g:=G) (q:=fun t=> -X*K t) (c:=Y*D) (l:=F (a.length -1)) (m:=a.length -1) (n:=b.length -1) (d:=r.length -1) (N:=q.length) rfl (fun t ht=>ra.zero (by lia)) (fun t ht=>rr.zero (by lia)) (by lia) (fun t ht=>by show-X*K t=0;rw[rq.zero ht,Kt]) (fun _=>rfl) (by lia)
 have e1:=kN ra rb
 have e2:=kN ra rr
 have lf:=ra.eq (a.length -1)
 have s':=SZ (fun z:Int=>(z:Rat)) s
 simp only[Da,Rat.intCast_pow]at s' e2
 rw[←lf,←e1,←e2]at s'
 have z0:((Y:Rat)*D)^(a.length -1)≠0:=bI (fun z=>(KB.mp z).elim (by exact_mod_cast rq.ne) (by exact_mod_cast ra.ne)) _
 have x0:(D:Rat)^(b.length -1)*(X:Rat)^(a.length -1)≠0:=fun z=>(KB.mp z).elim (bI (by exact_mod_cast ra.ne) _) (bI (by exact_mod_cast rb.ne) _)
 refine DG x0 (DG z0 ?_)
 rw[Rat.mul_comm,s',show b.length -1 -(r.length -1)=b.length -r.length by lia,fS,fS,show(D:Rat)^(b.length -1)=(D:Rat)^(b.length -r.length)*(D:Rat)^(r.length -1) by rw[←se];congr 1;lia]
 grind
theorem res_none{a b q:List Rat}(ha:aA a)(la:2<=a.length)(b0:b≠[])(hq:q.length+a.length<=b.length+1)(e:∀k,cQ b k=cS (cQ q) (cQ a) k):aZ a b=0:=by
 have a0:a≠[]:=fun z=>by rw[z]at la;cases la
 have lb:=Bn.mpr b0
 have:=nF (r:=[0]) ha a0 b0 (by show 1<=_;lia) hq (fun k=>by
  rw[e k,show cQ [0] k=0 by cases k<;>rfl]
  grind) (by simp)
 rw[this,j3,show a.length -1=a.length -2+1 by lia,Sr,Y2,Y2]
theorem mP(g:Nat->Rat)(k:Nat):cS (cQ []) g k=0:=(jl (f:=cQ []) (f':=fun _=>0) (fun i=>rfl) (fun _=>rfl) k).trans (wN g k)
noncomputable def zk(t:Rat):List Rat->Rat
 |[]=>0
 |c::a=>c+t*zk t a
theorem horner(t:Rat):∀a:List Rat,∃q:List Rat,q.length<=a.length -1/\∀k,cQ a k=cS (cQ q) (cQ [-t,1]) k+cQ [zk t a] k
 |[]=>⟨[],Do _,fun k=>by
  rw[mP,Rat.zero_add]
  cases k<;>rfl⟩
 |[c]=>⟨[],Do _,fun k=>by
  rw[mP,Rat.zero_add]
  show cQ [c] k=cQ [c+t*0] k
  rw[Y2,Rat.add_zero]⟩
 |c::d::a=>by
  obtain⟨q,hl,e⟩:=horner t (d::a)
  refine⟨zk t (d::a)::q,by simp at hl⊢;omega,fun k=>?_⟩
  show _=_+cQ [c+t*zk t (d::a)] k
  generalize zk t (d::a)=v at*
  cases k with
  |zero=>
   rw[gy]
   show c=v* -t+(c+t*v)
   grind
  |succ k=>
   rw[jZ]
   have:=e k
   show cQ (d::a) k=v*cQ [-t,1] (k+1)+cS (cQ q) (cQ [-t,1]) k+0
   rw[this]
   cases k with
   |zero=>
    show _+v=v*1+_+0
    grind
   |succ k=>
    show _+0=v*0+_+0
    grind
theorem LS{a:List Rat}(a0:a≠[])(t:Rat):aZ [-t,1] a=zk t a:=by
 obtain⟨q,hl,e⟩:=horner t a
 have la:=Bn.mpr a0
 have lz:aA [-t,1]:=fun x hx=>by
  have:x=1:=by
   cases hx
   rfl
  rw[this]
  decide
 rw[nF lz (by simp) a0 (r:=[zk t a]) (by show 1<=_;lia) (by show q.length+2<=_;lia) e (by simp),j3]
 show(1:Rat)^_*zk t a^1=_
 have:∀n:Nat,(1:Rat)^n=1:=fun n=>by
  induction n with
  |zero=>rw[Ts]
  |succ n ih=>rw[Sr,ih,Y1]
 rw[this,Y1,Sr,Ts,Y1]
theorem Rl{a:List Rat}{k:Nat}(h:cQ a k≠0):k<a.length:=Nat.lt_of_not_le fun z=>h (iQ z)
theorem Rm{a b u v:List Rat}(ha:aA a)(a0:a≠[])(hb:aA b)(b0:b≠[])(hu:aA u)(hv:aA v)(e:∀k,cQ [1] k=cS (cQ u) (cQ a) k+cS (cQ v) (cQ b) k):aZ a b≠0:=by
 have la:=Bn.mpr a0
 have lb:=Bn.mpr b0
 by_cases a1:a.length=1
 ·match a,a1,ha,a0 with
  |[x],_,ha,_=>
   rw[zj]
   exact bI (ha x rfl) _
 by_cases b1:b.length=1
 ·match b,b1,hb,b0 with
  |[x],_,hb,_=>
   rw[j3]
   exact bI (hb x rfl) _
 have o1:∀k,1<=k->cQ [1] k=0:=fun k hk=>iQ hk
 have top:∀{x y:List Rat},aA x->x≠[]->aA y->y≠[]->cS (cQ x) (cQ y) (x.length -1+(y.length -1))≠0:=fun{x y} hx x0 hy y0=>by
  have lx:=Bn.mpr x0
  have ly:=Bn.mpr y0
  rw[wL (fun i hi=>iQ (by lia)) (fun i hi=>iQ (by lia))]
  exact fun z=>(KB.mp z).elim (kM hx x0) (kM hy y0)
 have v0:v≠[]:=fun z=>by
  subst z
  by_cases u0:u=[]
  ·subst u0
   have:=e 0
   rw[mP,mP,Rat.add_zero]at this
   exact absurd (show(1:Rat)=0 from this) (by decide)
  ·have lu:=Bn.mpr u0
   have t:=top hu u0 ha a0
   have:=e (u.length -1+(a.length -1))
   rw[mP,o1 _ (by lia),Rat.add_zero]at this
   exact t this.symm
 have lv:=Bn.mpr v0
 have u0:u≠[]:=fun z=>by
  subst z
  have t:=top hv v0 hb b0
  have:=e (v.length -1+(b.length -1))
  rw[mP,o1 _ (by lia),Rat.zero_add]at this
  exact t this.symm
 have lu:=Bn.mpr u0
 have lw:=nE hv v0 hb b0
 have w0:aG (mulQ v b)≠[]:=fun z=>by rw[z]at lw;simp at lw;lia
 have big:u.length -1+(a.length -1)<(aG (mulQ v b)).length:=Rl fun z=>by
  rw[kL]at z
  have:=e (u.length -1+(a.length -1))
  rw[z,o1 _ (by lia),Rat.add_zero]at this
  exact top hu u0 ha a0 this.symm
 have r:=nF (q:=u.map fun x=> -1*x) (r:=[1]) ha a0 w0 (by show 1<=_;lia) (by rw[Ap];lia) (fun k=>by
  have e1:∀i,cQ (u.map fun x=> -1*x) i= -1*cQ u i:=fun i=>by
   show(u.map fun x=> -1*x).getD i 0= -1*u.getD i 0
   rw[AC,FR,AC]
   cases u[i]? with
   |none=>exact(Y2 _).symm
   |some x=>rfl
  rw[kL,jl e1 (fun _=>rfl),Dw,e k]
  grind) (by simp)
 rw[wX a0 hv v0 hb b0,j3]at r
 intro z
 rw[z,Y2]at r
 have:(1:Rat)^(a.length -1)≠0:=bI (by decide) _
 exact(KB.mp r.symm).elim (bI (kM ha a0) _) this
theorem LU{a b g:List Rat}(ha:aA a)(a0:a≠[])(hb:aA b)(b0:b≠[])(hg:aA g)(lg:2<=g.length)(db:∃t:List Rat,∀k,cQ b k=cS (cQ t) (cQ g) k)(da':∃s:List Rat,∀k,cQ a k=cS (cQ s) (cQ g) k):aZ a b=0:=by
 have g0:g≠[]:=fun z=>by rw[z]at lg;cases lg
 have ZN:∀{x:List Rat},aA x->x≠[]->(∃t:List Rat,∀k,cQ x k=cS (cQ t) (cQ g) k)->∃t:List Rat,aA t/\t≠[]/\x=aG (mulQ t g):=fun{x} hx x0 ⟨t,e⟩=>by
  have ex:x=aG (mulQ (aG t) g):=Bj hx (bg _) fun k=>by
   have e2:=kL (aG t) g k
   have e3:cS (cQ (aG t)) (cQ g) k=cS (cQ t) (cQ g) k:=jl (fun i=>qI t i) (fun _=>rfl) k
   exact(e k).trans (e3.symm.trans e2.symm)
  refine⟨aG t,bg _,fun z=>?_,ex⟩
  rw[z]at ex
  have l0:(aG (mulQ [] g))=[]:=yK fun y hy=>by
   unfold mulQ at hy
   obtain⟨k,_,rfl⟩:=yJ hy
   rfl
  exact x0 (ex.trans l0)
 obtain⟨s,hs,s0,ea⟩:=ZN ha a0 da'
 obtain⟨t,ht,t0,eb⟩:=ZN hb b0 db
 have z:aZ g b=0:=by
  refine res_none (q:=t) hg lg b0 ?_ fun k=>by rw[eb];exact kL t g k
  have:=nE ht t0 hg g0
  rw[eb,this]
  have:=Bn.mpr t0
  omega
 rw[ea,zh hs s0 hg g0 b0,z,Y2]
end Num
namespace Sub
open Num
structure FG(A B:Vc)(m n:Nat)(P Q:Vc)(p q:Nat)(lp h σ:Int):Prop where
 s:C8 σ
 inv:0<p->∀ρ,SS (p+q) P Q q p ρ=σ*(lp^q*h^(p -1))*SS (m+n) A B n m ρ
theorem FG.start(A B:Vc)(m n:Nat):FG A B m n A B m n 1 1 1:=⟨.inl rfl,fun _ ρ=>by rw[Int.one_pow,Int.one_pow];simp⟩
theorem FG.step{A B P Q Q':Vc}{m n p q r:Nat}{lp lq h h' σ:Int}(K:FG A B m n P Q p q lp h σ)(H:Ch A B m n P Q p q lp lq h){L:List (Int×Nat)}(hL:∀z∈L,z.2<=p -q)(hQ:∀ρ,less (lq^(p -q+1)) P Q L ρ=(lp*h^(p -q))*Q' ρ)(hr:r<q)(hz:∀t,r<t->Q' (false,t)=0)
 (hh:h'*h^(p -q)=lq^(p -q)*h):FG A B m n Q Q' q r lq h' (sg (p*q)*σ):=by
 have hpq:=H.hpq
 refine⟨(ji _).mul K.s,fun _ ρ=>?_⟩
 have e0:=K.inv (by lia) ρ
 have e1:=wu (E:=p+q) (A:=P) (B:=Q) (c:=lq^(p -q+1)) (L:=L) (a:=q) (b:=p) (fun z hz=>by have:=hL z hz;lia) ρ
 have e2:=wz (R:=less (lq^(p -q+1)) P Q L) H.lead H.zero (z:=r+1) (a:=q) (b:=r) (s:=p -r) (fun t ht=>by rw[hQ,hz t (by lia),Kt]) (by lia) (by lia) ρ
 rw[yR hQ,show q+r+(p -r)=p+q by lia,show r+(p -r)=p by lia,e1,e0]at e2
 have pid:=Bu hh (q -1)
 have s2:=(ji (p*q)).sq
 have ck:(lp*h^(p -q))^q=lp^q*h^((p -q)*q):=by rw[Bs,Bt]
 have u0:lq^(p -r)*(lp*h^(p -q))^q≠0:=Fh (aQ H.uO _) (aQ (Fh H.QZ (aQ H.h0 _)) _)
 refine NM u0 ?_
 rw[show q -1+1=q by lia,show p -q+(q -1)=p -1 by lia,show p -q+q=(p -r)+r by lia,cq lq (p -r) r]at pid
 rw[ck]at e2⊢
 generalize SS (q+r) Q Q' r q ρ=X at*
 generalize SS (m+n) A B n m ρ=S at*
 generalize sg (p*q)=s at*
 generalize(lq^(p -q+1))^q=c at*
 generalize lp^q=u at*
 generalize h^(p -1)=v at*
 generalize lq^(p -r)=x at*
 generalize h^((p -q)*q)=y at*
 generalize lq^r=z at*
 generalize h'^(q -1)=w at*
 have e3:x*(u*y)*X=s*s*(x*(u*y)*X):=by rw[s2,RF]
 have e4:s*s*(x*(u*y)*X)=s*(s*(x*(u*y*X))):=by grind
 rw[e3,e4,←e2]
 have e5:s*(c*(σ*(u*v)*S))=s*σ*u*S*(c*v):=by grind
 rw[e5,pid]
 grind
noncomputable def cut(c:Vc):Vc:=fun i=>if i.1 then 0 else c i
theorem DH:∀(rs:List Ix),(∀r∈rs,r.1=false)->∀cs:List Vc,det rs (cs.map cut)=det rs cs
 |[],_,[]=>rfl
 |[],_,_::_=>rfl
 |r::rs,h,cs=>by
  have ih:=DH rs fun r hr=>h r (Ee _ hr)
  have r1:=h r FK
  have go:∀post pre:List Vc,ex (det rs) r (pre.map cut) (post.map cut)=ex (det rs) r pre post:=fun post=>by
   induction post with
   |nil=>exact fun _=>rfl
   |cons c post ihp=>
    intro pre
    have e:=ihp (pre++[c])
    rw[Pt]at e
    rw[On,ex,ex,←Pt,ih,show cut c r=c r by unfold cut;rw[r1];rfl]
    exact SZ _ e
  exact go cs []
theorem uR:∀{N c:Nat} {r:Ix},r∈rws N c->r.1=false
 |_,0,r,h=>by rw[r6]at h;cases h
 |0,c+1,r,h=>by cases h
 |N+1,c+1,r,h=>by
  rw[rws]at h
  rcases FV.mp h with e|h
  ·rw[e]
  ·exact uR h
theorem wY(ns:List Int):∀n,(bU (pc fun k=>ns.getD k 0) n).map cut=bU (vc ns []) n
 |0=>rfl
 |n+1=>by
  rw[bU,bU,On,wY ns n]
  congr 1
  funext ⟨b,t⟩
  unfold cut sh pc vc
  cases b<;>simp
theorem zo:∀N,rws (N+1) N++[(false,0)]=rws (N+1) (N+1)
 |0=>rfl
 |N+1=>by
  rw[rws,List.cons_append,zo N]
  rfl
theorem wZ(ns ms:List Int){m n:Nat}(h:0<m+n):SS (m+n) (vc ns []) (vc ms []) n m (false,0)=gZ (fun k=>ns.getD k 0) (fun k=>ms.getD k 0) m n:=by
 unfold SS gZ
 obtain⟨N,hN⟩:∃N,m+n=N+1:=⟨m+n -1,by lia⟩
 rw[show n+m -1=N by lia,hN,zo,←wY,←wY,←Pt,DH _ fun r hr=>uR hr]
theorem FG.out{ns ms P Q:List Int}{m n p:Nat}{lp lq h σ:Int}(K:FG (vc ns []) (vc ms []) m n (vc P []) (vc Q []) p 0 lp h σ)(hl:vc Q [] (false,0)=lq)(hz:∀t,0<t->vc Q [] (false,t)=0)(hp:0<p)(hmn:0<m+n):lq^p=σ*h^(p -1)*gZ (fun k=>ns.getD k 0) (fun k=>ms.getD k 0) m n:=by
 have e:=K.inv hp (false,0)
 have e2:=C7 (A:=vc P []) hl hz (p -1) (false,0)
 rw[show 0+1+(p -1)=p+0 by lia]at e2
 rw[Nat.add_zero]at e e2
 rw[e,wZ ns ms hmn,hl,←Iy,show(p -1).succ=p by lia,OF,RF]at e2
 exact e2.symm
theorem FG.none{ns ms P Q:List Int}{m n p q:Nat}{lp h σ c:Int}{S:Nat->Int}{N:Nat}(K:FG (vc ns []) (vc ms []) m n (vc P []) (vc Q []) p q lp h σ)(hq:0<q)(hp:0<p)(QZ:lp≠0)(h0:h≠0)(c0:c≠0)(hz:∀t,q<t->Q.getD t 0=0)(hS:∀t,N<=t->S t=0)(hN:N+q<=p+1)(e:∀t,0=c*P.getD t 0+aq S (fun k=>Q.getD k 0) t)(hmn:0<m+n):gZ (fun k=>ns.getD k 0) (fun k=>ms.getD k 0) m n=0:=by
 have s1:=zg (f:=fun k=>Q.getD k 0) (g:=fun k=>P.getD k 0) (q:=S) (r:=fun _=>0) (c:=c) (m:=q) (n:=p) (d:=0) rfl hz (fun _ _=>rfl) (KM _) hS e hN
 rw[IS (fun _=>rfl) hq,Kt]at s1
 have s2:gZ (fun k=>Q.getD k 0) (fun k=>P.getD k 0) q p=0:=(Int.mul_eq_zero.mp s1).resolve_left (aQ c0 _)
 have s3:gZ (fun k=>P.getD k 0) (fun k=>Q.getD k 0) p q=0:=by rw[sD,s2,Kt]
 have k:=K.inv hp (false,0)
 rw[wZ P Q (by lia),wZ ns ms hmn,s3]at k
 have u:σ*(lp^q*h^(p -1))≠0:=Fh (by rcases K.s with z|z<;>rw[z]<;>decide) (Fh (aQ QZ _) (aQ h0 _))
 exact(Int.mul_eq_zero.mp k.symm).resolve_left u
theorem CS.sgn{ns ms P Q Qs R:List Int}{w E b1:Nat}{ld h c σ:Int}(X:FX ns ms [] [] w E)(C:CS ns ms [] [] w E b1 P Q [] [] ld h)(K:FG (vc ns []) (vc ms []) (ns.length -1) (ms.length -1) (vc P []) (vc Q []) (P.length -1) (Q.length -1) ld h σ)(hq:2<=Q.length)(hc:c=Q.getD (Q.length -1) 0^(P.length -Q.length+1))(E6:Qs.length=P.length -Q.length+1)
 (hR:∀k,R.getD k 0=c*P.getD k 0 -cf Qs Q Qs.length k) (lR:R.length<Q.length) (zR:R=[]\/R.getD (R.length -1) 0≠0) (LD:R≠[]):
 FG (vc ns []) (vc ms []) (ns.length -1) (ms.length -1) (vc Q []) (vc (R.map fun x=>x.fdiv (ld*h^(P.length -Q.length))) []) (Q.length -1) ((R.map fun x=>x.fdiv (ld*h^(P.length -Q.length))).length -1) (Q.getD (Q.length -1) 0) (hnext h (Q.getD (Q.length -1) 0) (P.length -Q.length)) (sg ((P.length -1)*(Q.length -1))*σ):=by
 obtain⟨V5,_,dR,_,_,_,_⟩:=C.step X hq hc E6 hR lR zR (F:=[]) (fun k=>by
  show(0:Int)=c*0 -cf Qs [] Qs.length k
  rw[qG]
  show(0:Int)=c*0 -0
  simp) (KM _) (fun _=>Do _)
 have ch:=C.ch
 have Bv:=C.Bv
 have E7:=Bn.mpr LD
 have LF:(R.map fun x=>x.fdiv (ld*h^(P.length -Q.length))).length=R.length:=Ap _
 have hpq:P.length -1 -(Q.length -1)=P.length -Q.length:=by lia
 have hh:hnext h (Q.getD (Q.length -1) 0) (P.length -Q.length)*h^(P.length -Q.length)=Q.getD (Q.length -1) 0^(P.length -Q.length)*h:=by
  unfold hnext
  by_cases hd:P.length -Q.length=0
  ·rw[Bz hd,hd,OF,OF,ag,RF]
  ·obtain⟨S,e1,_⟩:=ch.Dc (by lia)
   rw[hpq]at e1
   have hne:h^(P.length -Q.length -1)≠0:=aQ ch.h0 _
   rw[Bi hd,e1,SF ⟨S,rfl⟩,bo S hne,show h^(P.length -Q.length)=h^(P.length -Q.length -1)*h by rw[←Iy];congr 1;lia]
   generalize h^(P.length -Q.length -1)=x
   grind
 rw[LF]
 refine K.step ch (L:=r8 Qs Qs.length) (fun z hz=>?_) (fun ρ=>?_) (by lia) (fun t ht=>?_) (by rw[hpq];exact hh)
 ·have:=wB hz
  lia
 ·obtain⟨b,t⟩:=ρ
  rw[hpq,←hc,De]
  cases b
  ·have e:=hR t
   have d:ld*h^(P.length -Q.length)∣R.getD t 0:=by
    by_cases ht:t<R.length
    ·exact dR _ (getD_mem' ht)
    ·rw[outI (by lia)]
     exact Int.dvd_zero _
   show c*P.getD t 0 -cf Qs Q Qs.length t=_*(R.map fun x=>x.fdiv (ld*h^(P.length -Q.length))).getD t 0
   rw[←e,map_getD (f:=fun x=>x.fdiv (ld*h^(P.length -Q.length))) (Int.zero_fdiv _),SF d,Int.mul_ediv_cancel' d]
  ·show c*0 -cf Qs [] Qs.length t=_*0
   rw[qG]
   show c*0 -0=_*0
   simp
 ·exact outI (by show(R.map fun x=>x.fdiv (ld*h^(P.length -Q.length))).length<=t;rw[LF];lia)
end Sub
namespace VL
open PySem PySem.Spec
open PyProof.Rows hiding St
open L2 Num
noncomputable def cy:List CS:=[.iff (.cmp .Gt (.blt .len [(.own 0 [.fl 1 "last"])]) (.int 1)) [.ML (.int 0)] [],.set 1 (.bin .Sub (.blt .len [(.own 0 [.fl 0 "ahead"])]) (.int 1)),.ML (.bin .Mult (.own 0 [.fl 6 "sign"]) (.call 0 [(.own 0 [.fl 5 "height"]),(.ix (.own 0 [.fl 1 "last"]) (.int 0)),(.var 1)]))]
noncomputable def i6(C:Addr):bN:=fun ws Q _=>∃(A B fA fB:List Int) (ld h sg sc kn:Int),ws=[jI C A B fA fB ld h sg sc kn]/\((2<=B.length/\Q (.tup [.int 0,jI C A B fA fB ld h sg sc kn]))\/
 (B.length=1/\0<A.length/\A.length<=50/\Sub.C8 sg/\(∃N,h.natAbs<2^N/\(B.getD 0 0).natAbs<2^N/\N<=100000/\(0<A.length -1->h^(A.length -1 -1)≠0/\(h^(A.length -1 -1)).natAbs.log2<9000))/\Q (.tup [.int (sg*Sub.hnext h (B.getD 0 0) (A.length -1)),jI C A B fA fB ld h sg sc kn])))
theorem qp{G:Nat->W}{m:Md}{C:Addr}(ws:List W)(Q:W->Prop)(R:Addr->Prop)(h:i6 C ws Q R):wSs (b7 [ef]) G cy (b8 m Q R) (au 2 ws):=by
 obtain⟨A,B,fA,fB,ld,h,sg,sc,kn,rfl,hq⟩:=h
 show wSs _ _ cy _ [some (jI C A B fA fB ld h sg sc kn),none]
 unfold cy
 rcases hq with⟨l2,q⟩|⟨l1,a0,a50,hs,⟨N,bh,bB,hN,hh⟩,q⟩
 ·unfold jI wI at q⊢
  walk_at "vs"
  rw[Ap,Bz (IR (by lia))]
  exact q
 ·match B,l1 with
  |[b],_=>
   unfold jI wI at q⊢
   walk_at "vs"
   rw[Bi (by simp),Ap,show(A.length:Int) -1=((A.length -1:Nat):Int) by lia]
   refine⟨_,rfl,h,b,A.length -1,N,rfl,⟨bh,bB,Dx (Jn hN (show A.length -1+1<=50 by lia)) (by decide),hh⟩,?_⟩
   walk_at "vs"
   refine⟨?_,q⟩
   rcases hs with e|e<;>rw[e]<;>exact fG (by decide) (by decide)
noncomputable def RI(ns ms:List Int)(w E:Nat):CI:=fun A B fA fB ld h σ=>fA=[]/\fB=[]/\Sub.CS ns ms [] [] w E (ms.length+1) A B [] [] ld h/\Sub.FG (Sub.vc ns []) (Sub.vc ms []) (ns.length -1) (ms.length -1) (Sub.vc A []) (Sub.vc B []) (A.length -1) (B.length -1) ld h σ/\(2<=A.length\/(A=ns/\B=ms/\h=1/\σ=1))
theorem IV{ns ms:List Int}{w E:Nat}(l0:0<ms.length)(nz:ms.getD (ms.length -1) 0≠0)(X:Sub.FX ns ms [] [] w E):RI ns ms w E ns ms [] [] 1 1 1:=
 ⟨rfl,rfl,Sub.CS.start X l0 nz (by show 0+ms.length<=_;lia) (.inl rfl),.start _ _ _ _,.inr ⟨rfl,rfl,rfl,rfl⟩⟩
theorem LV{ns ms:List Int}{w E:Nat}(X:Sub.FX ns ms [] [] w E)(XY:ns.length<=15)(hN:w*(ns.length -1+(ms.length -1)+1)+1<=5000)(hE:w*E<=7900):Kept (RI ns ms w E):=by
 rintro A B fA fB ld h σ ⟨rfl,rfl,C,K,_⟩ l2
 have l1:=X.l1
 have Bv:=C.Bv
 have lp:=C.lp
 obtain⟨k0,kE,h0⟩:=C.size X l2
 obtain⟨b1,b2,b3,b4⟩:=C.bd
 refine⟨⟨w*(ns.length -1+(ms.length -1)+1)+1,w*E,⟨l2,Bv,by lia,KM _,KM _,fun x hx=>aD (b1 x hx),fun x hx=>aD (b2 x hx),fun x hx=>aD (b3 x hx),fun x hx=>aD (b4 x hx),aD C.bl,?_,hN,hE,k0,kE,h0⟩⟩,?_⟩
 ·exact aD (Dx C.bh (GT (by decide) (DL _ (by lia))))
 rintro Qs R F c hR ⟨hc,E6,cR,lR,zR⟩ ⟨cF,lF,JE⟩
 obtain⟨_,_,_,_,_,_,S⟩:=C.step X l2 hc E6 cR lR zR cF lF JE
 have f0:F=[]:=Kj.mp (Nat.le_zero.mp (JE rfl))
 subst f0
 exact⟨rfl,rfl,S hR,C.sgn X K l2 hc E6 cR lR zR hR,.inl l2⟩
theorem Rn{ns ms A B fA fB:List Int}{w E:Nat}{ld h σ:Int}(X:Sub.FX ns ms [] [] w E)(hI:RI ns ms w E A B fA fB ld h σ)(fin:B.length<2\/∃Qs c,sf A B Qs [] c):
 (2<=B.length/\Sub.gZ (co ns) (co ms) (ns.length -1) (ms.length -1)=0)\/(B.length=1/\0<A.length/\A.length<=ns.length/\Sub.C8 σ/\(0<A.length -1->h^(A.length -1 -1)≠0)/\σ*Sub.hnext h (B.getD 0 0) (A.length -1)=Sub.gZ (co ns) (co ms) (ns.length -1) (ms.length -1)):=by
 obtain⟨rfl,rfl,C,K,st⟩:=hI
 have lq:=C.lq
 have Bv:=C.Bv
 have lp:=C.lp
 have Q2:=C.Q2
 have l1:=X.l1
 by_cases l2:2<=B.length
 ·refine .inl ⟨l2,?_⟩
  obtain⟨Qs,c,hc,E6,cR,_,_⟩:=fin.resolve_left (by lia)
  refine K.none (S:=fun t=> -1*co Qs t) (N:=Qs.length) (c:=c) (by lia) (by lia) C.ch.QZ C.ch.h0 (by rw[hc];exact Sub.aQ C.ch.uO _) (fun t ht=>outI (by lia)) (fun t ht=>by show-1*Qs.getD t 0=0;rw[outI ht];rfl) (by lia) (fun t=>?_) (by lia)
  have:=cR t
  rw[iX]at this
  rw[cj]
  have this:(0:Int)=c*A.getD t 0 -aq (co Qs) (co B) t:=this
  show(0:Int)=c*A.getD t 0+ -1*aq (co Qs) (co B) t
  lia
 ·have lB:B.length=1:=by lia
  refine .inr ⟨lB,by lia,lp,K.s,fun _=>Sub.aQ C.ch.h0 _,?_⟩
  have z:∀t,0<t->Sub.vc B [] (false,t)=0:=fun t ht=>outI (show B.length<=t by lia)
  by_cases hp:0<A.length -1
  ·rw[lB]at K
   have e:=K.out (lq:=B.getD 0 0) rfl z hp (by lia)
   unfold Sub.hnext
   have hne:h^(A.length -1 -1)≠0:=Sub.aQ C.ch.h0 _
   have s2:=K.s.sq
   rw[Bi (by lia),e]
   generalize Sub.gZ _ _ _ _=S
   generalize h^(A.length -1 -1)=x at*
   rw[show σ*x*S=x*(σ*S) by grind,SF ⟨σ*S,rfl⟩,bo _ hne,show σ*(σ*S)=σ*σ*S by grind,s2,RF]
  ·rcases st with l|⟨rfl,rfl,rfl,rfl⟩
   ·lia
   ·rw[show A.length -1=0 by lia,show B.length -1=0 by lia]
    rfl
structure RP(as bs:List Rat)(n k E:Nat):Prop where
 la:as.length<=8
 lb:bs.length<=8
 za:aA as
 zb:aA bs
 a0:as≠[]
 b0:bs≠[]
 da:∃D:Int,0<D/\D.natAbs<2^k/\∀x∈as,Cd D n x
 db:∃D:Int,0<D/\D.natAbs<2^k/\∀x∈bs,Cd D n x
 hE:∀p,(as.length -1+(bs.length -1) -2*p)*p+(as.length -1+(bs.length -1)+1)<=E
 hq:(n+4)*(as.length -1+(bs.length -1)+1)+1<=5000
 e7:(n+4)*E<=7900
 n5:n<=400
 k3:k<=400
theorem RP.swap{as bs:List Rat}{n k E:Nat}(h:RP as bs n k E):RP bs as n k E:=
 ⟨h.lb,h.la,h.zb,h.za,h.b0,h.a0,h.db,h.da,by rw[Nat.add_comm (bs.length -1)];exact h.hE,by rw[Nat.add_comm (bs.length -1)];exact h.hq,h.e7,h.n5,h.k3⟩
noncomputable def rB(n k:Nat):Nat:=(2*n+k+4)*14+1
noncomputable def cI:bN:=fun ws Q _=>∃(as bs:List Rat) (n k E:Nat),ws=[af as,af bs]/\RP as bs n k E/\(Bd (rB n k) (aZ as bs)->Q (wq (aZ as bs)))
noncomputable def sE:bN:=fun ws Q R=>cI ws Q R/\∀as bs,ws=[af as,af bs]->bs.length<=as.length
theorem IX{as bs:List Rat}{ns ms:List Int}{Ba Bb ca cb:Int}(pa:Prim as ns Ba ca)(pb:Prim bs ms Bb cb):Rat.divInt (Sub.gZ (co ns) (co ms) (as.length -1) (bs.length -1)*ca^(bs.length -1)*cb^(as.length -1)) (Ba^(bs.length -1)*Bb^(as.length -1))=aZ as bs:=by
 have Wd:Ba≠0:=by have:=pa.bpos;lia
 have We:Bb≠0:=by have:=pb.bpos;lia
 have ra:BK as Ba fun t=>ca*co ns t:=⟨Wd,fun t=>by
  have:=pa.at_ t
  rw[Da]
  show as.getD t 0*_=_*(ns.getD t 0:Rat)
  rw[←this,Rat.mul_comm]⟩
 have rb:BK bs Bb fun t=>cb*co ms t:=⟨We,fun t=>by
  have:=pb.at_ t
  rw[Da]
  show bs.getD t 0*_=_*(ms.getD t 0:Rat)
  rw[←this,Rat.mul_comm]⟩
 refine wW ra rb ?_
 rw[Sub.wV,Sub.wU]
 have z0:Ba^(bs.length -1)*Bb^(as.length -1)≠0:=Fh (Sub.aQ Wd _) (Sub.aQ We _)
 have zR:=bu z0
 rw[dE]
 simp only[Da,Rat.intCast_pow]at zR⊢
 rw[W1 zR]
 grind
theorem Ro{ns ms:List Int}{w E:Nat}(X:Sub.FX ns ms [] [] w E):(Sub.gZ (co ns) (co ms) (ns.length -1) (ms.length -1)).natAbs<=2^(w*(ns.length -1+(ms.length -1))):=by
 by_cases h:0<ns.length -1+(ms.length -1)
 ·have:=Sub.Q4 X (k:=0) (KM _) (by lia) (ns.length -1+(ms.length -1)) (false,0)
  rw[Nat.sub_zero,Nat.sub_zero,Nat.mul_zero,Nat.sub_zero,Sub.wZ ns ms h]at this
  exact this
 ·rw[show ns.length -1=0 by lia,show ms.length -1=0 by lia]
  exact Os (by decide)
theorem sF{x:Int}{n:Nat}(h:x.natAbs<2^n)(e:Nat):(x^e).natAbs<=2^(n*e):=by
 rw[Sub.jj,dt]
 exact Qr (Yf h) e
theorem w4{x y:Int}{a b:Nat}(h1:x.natAbs<=2^a)(h2:y.natAbs<=2^b):(x*y).natAbs<=2^(a+b):=by
 rw[Fk,du]
 exact Jn h1 h2
theorem Rp{t b:Int}{N:Nat}(b0:b≠0)(ht:t.natAbs<2^N)(hb:b.natAbs<2^N):Bd N (Rat.divInt t b):=by
 refine Cd.bd b0 ⟨t,?_,ht⟩ hb
 rw[dE,W1 (bu b0)]
theorem h_size{ns ms A B:List Int}{w E b1:Nat}{ld h:Int}(X:Sub.FX ns ms [] [] w E)(C:Sub.CS ns ms [] [] w E b1 A B [] [] ld h):(h^(A.length -1 -1)).natAbs<=2^(w*E):=by
 rw[Sub.jj]
 have e1:=X.E1 (A.length -1)
 have h1:h.natAbs^(A.length -1 -1)<=2^(w*(ns.length -1+(ms.length -1) -2*(A.length -1))*(A.length -1 -1)):=by
  rw[dt]
  exact Qr C.bh _
 refine Dx h1 (GT (by decide) ?_)
 rw[Nat.mul_assoc]
 refine DL _ ?_
 have:(ns.length -1+(ms.length -1) -2*(A.length -1))*(A.length -1 -1)<=(ns.length -1+(ms.length -1) -2*(A.length -1))*(A.length -1):=DL _ (by clear h1 e1;lia)
 clear h1
 lia
noncomputable def sG:List CS:=[.iff (.or [(.cmp .Eq (.var 0) (.lst [])),(.cmp .Eq (.var 1) (.lst []))]) [.mj] [],.par [2,3] [(.bin .Sub (.blt .len [(.var 0)]) (.int 1)),(.bin .Sub (.blt .len [(.var 1)]) (.int 1))],.iff (.cmp .Lt (.var 2) (.var 3)) [.mj,.mj] [],.rA [6,5,7] (.call 1 [(.var 0)]),.rA [8,9,10] (.call 1 [(.var 1)]),.set 11 (.call 2 [(.var 6),(.var 8),(.lst [])]),.R6 (.GD 11 0 3 []),.yd 4 (.bin .Mult (.bin .Mult (.GD 11 0 4 []) (.call 5 [(.var 7),(.var 3)])) (.call 5 [(.var 10),(.var 2)])),.ret (.call 6 [(.var 4),(.bin .Mult (.call 5 [(.var 5),(.var 3)]) (.call 5 [(.var 9),(.var 2)]))])]
theorem Rq{S0:bN}{C:Addr}{m:Md}(ws:List W)(Q:W->Prop)(R:Addr->Prop)(h:sE ws Q R):wSs (b7 [S0,cE,mO C,pM C,i6 C,ee,dN]) (ou [.cls C]) sG (b8 m Q R) (au 12 ws):=by
 obtain⟨⟨as,bs,n,k,E,rfl,⟨la,lb,za,zb,a0,b0,⟨DA,Yb,Yc,ca⟩,⟨DB,Yd,Ye,cb⟩,hE,hq,e7,n5,k3⟩,hQ⟩,hl⟩:=h
 have hl:=hl as bs rfl
 have l1:=Bn.mpr a0
 have l2:=Bn.mpr b0
 show wSs _ _ sG _ [some (af as),some (af bs),none,none,none,none,none,none,none,none,none,none]
 unfold sG
 refine aR (fun ε'=>ε'=[some (af as),some (af bs),none,none,none,none,none,none,none,none,none,none]) (fun N hN=>?_) ?_
 ·walk_at "vs"
  refine⟨ak (by simp),iz (y:=[]) fun k1 h1=>?_⟩
  cases bK h1 a0
  walk_at "vs"
  refine⟨ak (by simp),iz (y:=[]) fun k2 h2=>?_⟩
  cases bK h2 b0
  walk_at "vs"
  exact hN _ rfl
 rintro _ rfl
 refine aR (fun ε'=>ε'=[some (af as),some (af bs),some (.int (as.length -1:Nat)),some (.int (bs.length -1:Nat)),none,none,none,none,none,none,none,none]) (fun N hN=>?_) ?_
 ·unfold af at hN⊢
  walk_at "vs"
  refine⟨rfl,?_⟩
  rw[Ap,Ap,show(as.length:Int) -1=((as.length -1:Nat):Int) by lia,show(bs.length:Int) -1=((bs.length -1:Nat):Int) by lia]
  exact hN _ rfl
 rintro _ rfl
 refine aR (fun ε'=>ε'=[some (af as),some (af bs),some (.int (as.length -1:Nat)),some (.int (bs.length -1:Nat)),none,none,none,none,none,none,none,none]) (fun N hN=>?_) ?_
 ·walk_at "vs"
  rw[Bi (by rw[Ha];lia)]
  exact hN _ rfl
 rintro _ rfl
 refine aR (fun ε'=>∃ns Ba,∃c:Int,(Prim as ns Ba c/\Ba.natAbs<2^k/\c.natAbs<2^n/\∀x∈ns,x.natAbs<2^n)/\ε'=[some (af as),some (af bs),some (.int (as.length -1:Nat)),some (.int (bs.length -1:Nat)),none,some (.int Ba),some (wI ns),some (.int c),none,none,none,none]) (fun N hN=>?_) ?_
 ·walk_at "vs"
  refine⟨as,DA,n,k,rfl,⟨⟨_,List.getLast_mem a0,za _ (cn a0)⟩,ca,Yb,Yc,by lia,by lia,by lia⟩,fun ns Ba c pr bB bc bn=>?_⟩
  exact⟨rfl,hN _ ⟨ns,Ba,c,⟨pr,bB,bc,bn⟩,rfl⟩⟩
 rintro _ ⟨ns,Ba,c1,⟨pa,Sn,Vt,IE⟩,rfl⟩
 refine aR (fun ε'=>∃ms Bb,∃c:Int,(Prim bs ms Bb c/\Bb.natAbs<2^k/\c.natAbs<2^n/\∀x∈ms,x.natAbs<2^n)/\ε'=[some (af as),some (af bs),some (.int (as.length -1:Nat)),some (.int (bs.length -1:Nat)),none,some (.int Ba),some (wI ns),some (.int c1),some (wI ms),some (.int Bb),some (.int c),none]) (fun N hN=>?_) ?_
 ·walk_at "vs"
  refine⟨bs,DB,n,k,rfl,⟨⟨_,List.getLast_mem b0,zb _ (cn b0)⟩,cb,Yd,Ye,by lia,by lia,by lia⟩,fun ns Ba c pr bB bc bn=>?_⟩
  exact⟨rfl,hN _ ⟨ns,Ba,c,⟨pr,bB,bc,bn⟩,rfl⟩⟩
 rintro _ ⟨ms,Bb,c2,⟨pb,So,Vu,Ni⟩,rfl⟩
 have Nh:=o9 pb b0 zb
 have Rr:=pa.len
 have Ak:=pb.len
 have rp:=IX pa pb
 have X:Sub.FX ns ms [] [] (n+4) E:=IC (by lia) (by lia) IE Ni (.inl rfl) (.inl rfl) (by rw[Rr,Ak];exact hE)
 rw[←Rr,←Ak]at hq
 refine aR (fun ε'=>ε'=[some (af as),some (af bs),some (.int (as.length -1:Nat)),some (.int (bs.length -1:Nat)),none,some (.int Ba),some (wI ns),some (.int c1),some (wI ms),some (.int Bb),some (.int c2),some (jI C ns ms [] [] 1 1 1 1 1)]) (fun N hN=>?_) ?_
 ·walk_at "vs"
  exact⟨ak (by simp),ns,ms,[],rfl,hN _ rfl⟩
 rintro _ rfl
 refine aR (fun ε'=>∃(A B fA fB:List Int) (ld h sg sc kn:Int),(RI ns ms (n+4) E A B fA fB ld h sg/\(B.length<2\/∃Qs c,sf A B Qs [] c))/\ε'=[some (af as),some (af bs),some (.int (as.length -1:Nat)),some (.int (bs.length -1:Nat)),none,some (.int Ba),some (wI ns),some (.int c1),some (wI ms),some (.int Bb),some (.int c2),some (jI C A B fA fB ld h sg sc kn)]) (fun N hN=>?_) ?_
 ·unfold jI
  walk_at "vs"
  refine⟨rfl,ns,ms,[],[],1,1,1,1,1,RI ns ms (n+4) E,rfl,⟨IV (by lia) Nh X,LV X (by lia) (by lia) e7⟩,fun A B fA fB ld h sg sc kn hI fin=>?_⟩
  exact⟨_,_,rfl,hN _ ⟨A,B,fA,fB,ld,h,sg,sc,kn,⟨hI,fin⟩,rfl⟩⟩
 rintro _ ⟨A,B,fA,fB,ld,h,sg,sc,kn,⟨hI,fin⟩,rfl⟩
 have ro:=Rn X hI fin
 have Sb:=Ro X
 have hC:=hI.2.2.1
 have hsz:=h_size X hC
 obtain⟨_,bBl,_,_⟩:=hC.bd
 have bh:h.natAbs<2^5000:=gM (aD (Dx hC.bh (GT (by decide) (DL _ (show _<=ns.length -1+(ms.length -1)+1 by lia))))) (by lia)
 rw[Rr,Ak]at ro Sb
 generalize Sub.gZ (co ns) (co ms) (as.length -1) (bs.length -1)=S at*
 have sl:as.length -1+(bs.length -1)<=14:=by lia
 generalize hea:as.length -1=ea at*
 generalize heb:bs.length -1=eb at*
 have p1:(n+4)*(ea+eb)<=(n+4)*14:=DL _ sl
 have p2:n*ea<=n*14:=DL _ (by lia)
 have p3:n*eb<=n*14:=DL _ (by lia)
 have p4:k*ea<=k*14:=DL _ (by lia)
 have p5:k*eb<=k*14:=DL _ (by lia)
 have p6:n*(ea+eb)<=n*14:=DL _ sl
 have p7:k*(ea+eb)<=k*14:=DL _ sl
 have q1:=sF Vt eb
 have q2:=sF Vu ea
 have q3:=sF Sn eb
 have q4:=sF So ea
 have t1:=w4 Sb q1
 have t2:=w4 t1 q2
 have t3:=w4 q3 q4
 have Vv:Ba^eb*Bb^ea≠0:=Fh (Sub.aQ (by have:=pa.bpos;lia) _) (Sub.aQ (by have:=pb.bpos;lia) _)
 have fin2:=hQ (by
  rw[←rp]
  unfold rB
  exact Rp Vv (gM (aD t2) (by lia)) (gM (aD t3) (by lia)))
 rw[←rp]at fin2
 have done:∀o:Int,o=S->wSs (b7 [S0,cE,mO C,pM C,i6 C,ee,dN]) (ou [.cls C]) [.ret (.call 6 [(.var 4),(.bin .Mult (.call 5 [(.var 5),(.var 3)]) (.call 5 [(.var 9),(.var 2)]))])] (b8 m Q R) [some (af as),some (af bs),some (.int ea),some (.int eb),some (.int (o*c1^eb*c2^ea)),some (.int Ba),some (wI ns),some (.int c1),some (wI ms),some (.int Bb),some (.int c2),some (jI C A B fA fB ld h sg sc kn)]:=fun o ho=>by
  subst ho
  walk_at "vs"
  refine⟨Ba,eb,k,rfl,Sn,Dx (Jn k3 (show eb+1<=20 by lia)) (by decide),Bb,ea,k,rfl,So,Dx (Jn k3 (show ea+1<=20 by lia)) (by decide),?_⟩
  walk_at "vs"
  refine⟨aF (aD q3) (aD q4) (by lia),_,_,k*eb+k*ea+1,rfl,aD t3,by lia,fun z=>absurd z Vv,fun _=>fin2⟩
 refine aR (fun ε'=>ε'=[some (af as),some (af bs),some (.int ea),some (.int eb),some (.int (S*c1^eb*c2^ea)),some (.int Ba),some (wI ns),some (.int c1),some (wI ms),some (.int Bb),some (.int c2),some (jI C A B fA fB ld h sg sc kn)]) (fun N hN=>?_) (by rintro _ rfl;exact done S rfl)
 clear done fin2 hQ
 have go:∀o:Int,o=S->∀K:W->Prop,K (.int (S*c1^eb*c2^ea))->ee [.int c1,.int eb] (fun y=>gE .Mult (.int o) y fun x=>ee [.int c2,.int ea] (fun y=>gE .Mult x y K) R) R:=fun o ho K hK=>by
  subst ho
  refine⟨c1,eb,n,rfl,Vt,Dx (Jn n5 (show eb+1<=20 by lia)) (by decide),?_⟩
  walk_at "vs"
  refine⟨aF (aD Sb) (aD q1) (by lia),c2,ea,n,rfl,Vu,Dx (Jn n5 (show ea+1<=20 by lia)) (by decide),?_⟩
  walk_at "vs"
  exact⟨aF (aD t1) (aD q2) (by lia),hK⟩
 have hN:=hN _ rfl
 unfold jI at hN⊢
 walk_at "vs"
 refine⟨rfl,A,B,fA,fB,ld,h,sg,sc,kn,rfl,?_⟩
 rcases ro with⟨lB,s0⟩|⟨lB,a1,a2,s1,h1,e⟩
 ·refine .inl ⟨lB,_,_,rfl,?_⟩
  exact go 0 s0.symm _ hN
 ·refine .inr ⟨lB,a1,by lia,s1,⟨5000,bh,gM (aD (bBl _ (Sub.getD_mem' (ns:=B) (k:=0) (by lia)))) (by lia),by decide,fun hp=>⟨h1 hp,e9 (n:=(n+4)*E+1) (aD hsz) (by lia)⟩⟩,_,_,rfl,?_⟩
  exact go _ e _ hN
noncomputable def uS:bN:=fun ws Q R=>cI ws Q R/\∀as bs,ws=[af as,af bs]->as.length<bs.length
noncomputable def sH:List CS:=[.iff (.or [(.cmp .Eq (.var 0) (.lst [])),(.cmp .Eq (.var 1) (.lst []))]) [.mj] [],.par [2,3] [(.bin .Sub (.blt .len [(.var 0)]) (.int 1)),(.bin .Sub (.blt .len [(.var 1)]) (.int 1))],.iff (.cmp .Lt (.var 2) (.var 3)) [.rA [4,5] (.call 0 [(.var 1),(.var 0)]),.ret (.ite (.cmp .Eq (.bin .Mod (.bin .Mult (.var 2) (.var 3)) (.int 2)) (.int 1)) (.tup [(.neg (.var 4)),(.var 5)]) (.tup [(.var 4),(.var 5)]))] [],.mj,.mj,.mj,.mj,.mj,.mj]
theorem Rt{n:Nat}{x:Rat}(h:Bd n x):Bd n (-x):=⟨by rw[Rat.neg_num,Int.natAbs_neg];exact h.1,by rw[Rat.neg_den];exact h.2⟩
theorem BL(x:Rat):W.tup [.int (-x.num),.int x.den]=wq (-x):=by
 unfold wq
 rw[Rat.neg_num,Rat.neg_den]
theorem Ru{G:Nat->W}{m:Md}(ws:List W)(Q:W->Prop)(R:Addr->Prop)(h:uS ws Q R):wSs (b7 [sE]) G sH (b8 m Q R) (au 12 ws):=by
 obtain⟨⟨as,bs,n,k,E,rfl,rp,hQ⟩,hl⟩:=h
 have hl:=hl as bs rfl
 have a0:=rp.a0
 have b0:=rp.b0
 have l1:=Bn.mpr a0
 have la:=rp.la
 have lb:=rp.lb
 show wSs _ _ sH _ [some (af as),some (af bs),none,none,none,none,none,none,none,none,none,none]
 unfold sH
 refine aR (fun ε'=>ε'=[some (af as),some (af bs),none,none,none,none,none,none,none,none,none,none]) (fun N hN=>?_) ?_
 ·walk_at "vs"
  refine⟨ak (by simp),iz (y:=[]) fun k1 h1=>?_⟩
  cases bK h1 a0
  walk_at "vs"
  refine⟨ak (by simp),iz (y:=[]) fun k2 h2=>?_⟩
  cases bK h2 b0
  walk_at "vs"
  exact hN _ rfl
 rintro _ rfl
 refine aR (fun ε'=>ε'=[some (af as),some (af bs),some (.int (as.length -1:Nat)),some (.int (bs.length -1:Nat)),none,none,none,none,none,none,none,none]) (fun N hN=>?_) ?_
 ·unfold af at hN⊢
  walk_at "vs"
  refine⟨rfl,?_⟩
  rw[Ap,Ap,show(as.length:Int) -1=((as.length -1:Nat):Int) by lia,show(bs.length:Int) -1=((bs.length -1:Nat):Int) by lia]
  exact hN _ rfl
 rintro _ rfl
 refine aR (fun ε'=>False) (fun N hN=>?_) (fun _ z=>z.elim)
 walk_at "vs"
 rw[Bz (IR (by lia))]
 have sw:=i0 bs as
 refine⟨⟨bs,as,n,k,E,rfl,rp.swap,fun hb=>?_⟩,fun as' bs' e=>?_⟩
 ·have sp:=wF ((bs.length -1)*(as.length -1))
  generalize aZ bs as=x at*
  unfold wq
  walk_at "vs"
  refine⟨rfl,fG (by lia) (by lia),by decide,?_⟩
  rw[show((as.length -1:Nat):Int)*((bs.length -1:Nat):Int)=(((as.length -1)*(bs.length -1):Nat):Int) by rw[Int.natCast_mul],cw]
  generalize(bs.length -1)*(as.length -1)=c at*
  by_cases hc:c%2=0
  ·rw[Bz hc]at sp
   rw[sp]at sw
   have sw:aZ as bs=x:=sw.trans (Y1 x)
   rw[Bi (by rw[Ha,X9 _ (by decide)];lia)]
   refine⟨ak (by simp),?_⟩
   rw[sw]at hQ
   exact hQ hb
  ·rw[Bi hc]at sp
   rw[sp]at sw
   have sw:aZ as bs= -x:=sw.trans (by show(-1:Rat)*x= -x;grind)
   rw[Bz (by rw[Ha,X9 _ (by decide)];lia)]
   refine⟨ak (by simp),?_⟩
   rw[sw]at hQ
   have:=hQ (Rt hb)
   rw[←BL]at this
   exact this
 ·obtain⟨e1,e2⟩:=gO e
  rw[←e1,←e2]
  lia
theorem zp:∀ws P R,sE ws P R->ws.length=2:=by
 rintro _ _ _ ⟨⟨_,_,_,_,_,rfl,_⟩,_⟩
 rfl
theorem IY:∀ws P R,uS ws P R->ws.length=2:=by
 rintro _ _ _ ⟨⟨_,_,_,_,_,rfl,_⟩,_⟩
 rfl
theorem Rv{P:Program}{w:World}{K:PySem.W.Frag}{mg:Str->Option Value}{base:Heap}{k1 k2 k:Nat}{f:Addr}{fd:FuncData}{ps:List Str}(F1:aH P w K mg base (cL P w) k1 f fd ps (cY K 2 .s sE))(F2:aH P w K mg base (cL P w) k2 f fd ps (cY K 2 .s uS))(h1:k1<=k)(h2:k2<=k):aH P w K mg base (cL P w) k f fd ps (cY K 2 .s cI):=by
 have way:∀vs H Q E,cY K 2 .s cI vs H Q E->cY K 2 .s sE vs H Q E\/cY K 2 .s uS vs H Q E:=by
  rintro vs H Q E ⟨A,ws,P,R,l,r,d,h,c,e⟩
  obtain⟨as,bs,n,k,E,rfl,gp,hQ⟩:=id h
  by_cases hl:bs.length<=as.length
  ·refine .inl ⟨A,_,P,R,l,r,d,⟨h,fun as' bs' e=>?_⟩,c,e⟩
   obtain⟨e1,e2⟩:=gO e
   rw[←e1,←e2]
   exact hl
  ·refine .inr ⟨A,_,P,R,l,r,d,⟨h,fun as' bs' e=>?_⟩,c,e⟩
   obtain⟨e1,e2⟩:=gO e
   rw[←e1,←e2]
   lia
 exact⟨fun vs H Q E h=>(way vs H Q E h).elim (F1.len vs H Q E) (F2.len vs H Q E),fun A outer s H args us vs Q E hr e0 hb r h=>(way vs H Q E h).elim (F1.run A outer s H args us vs Q E (hr.mono h1) e0 hb r) (F2.run A outer s H args us vs Q E (hr.mono h2) e0 hb r)⟩
noncomputable def wv(t p:Int):List Int->Int
 |[]=>0
 |c::l=>wv t p l*t+c*p^l.length
theorem Nl{t p:Int}{x:Rat}(h:x*(p:Rat)=t):∀l:List Int,(wv t p l:Rat)*(p:Rat)=zk x (l.map fun z:Int=>(z:Rat))*(p:Rat)^l.length
 |[]=>by
  show((0:Int):Rat)*_=0*_
  grind
 |c::l=>by
  have ih:=Nl h l
  show((wv t p l*t+c*p^l.length:Int):Rat)*_=((c:Rat)+x*zk x _)*(p:Rat)^(l.length+1)
  simp only[Rat.intCast_add,Da,Rat.intCast_pow]
  rw[Sr,←h]
  generalize zk x (l.map fun z:Int=>(z:Rat))=v at*
  generalize(p:Rat)^l.length=u at*
  grind
theorem Nm{t p:Int}{n m:Nat}(ht:t.natAbs<2^m)(hp:p.natAbs<2^m):∀{l:List Int},(∀x∈l,x.natAbs<2^n)->(wv t p l).natAbs<2^(n+l.length*(m+1)+1)
 |[],_=>Os (by decide)
 |c::l,h=>by
  have ih:=Nm ht hp (l:=l) fun x hx=>h x (Ee _ hx)
  have h1:(wv t p l*t).natAbs<2^(n+l.length*(m+1)+1+m):=by
   rw[Fk]
   exact lt_mul ih ht
  have h2:(c*p^l.length).natAbs<2^(n+l.length*(m+1)+1+m):=by
   rw[Fk]
   have e:m*l.length<=l.length*(m+1):=by rw[cw,Nat.mul_add];lia
   refine gM (n:=n+(m*l.length+1)) (lt_mul (h c FK) (aD (sF hp l.length))) ?_
   lia
  show(wv t p l*t+c*p^l.length).natAbs<_
  rw[List.length_cons,show n+(l.length+1)*(m+1)+1=(n+l.length*(m+1)+1+m)+1 by rw[Nat.add_mul];lia,Nat.pow_succ]
  lia
noncomputable def dg:List CS:=[.set 3 (.int 0),.set 4 (.int 1),.fr [5] true (.rev (.var 0)) [.set 3 (.bin .Add (.bin .Mult (.var 3) (.var 1)) (.bin .Mult (.var 5) (.var 4))),.set 4 (.bin .Mult (.var 4) (.var 2))],.ret (.var 3)]
noncomputable def gq:bN:=fun ws Q _=>∃(ns:List Int) (t p:Int) (n m:Nat),ws=[wI ns,.int t,.int p]/\(ns.length<=50/\(∀x∈ns,x.natAbs<2^n)/\t.natAbs<2^m/\p.natAbs<2^m/\n<=100000/\m<=1000)/\Q (.int (wv t p ns))
theorem t6{Φ:Nat->bN}{G:Nat->W}{md:Md}(ws:List W)(Q:W->Prop)(R:Addr->Prop)(h:gq ws Q R):wSs Φ G dg (b8 md Q R) (au 6 ws):=by
 obtain⟨ns,t,p,n,m,rfl,⟨l50,bn,bt,bp,n1,m1⟩,q⟩:=h
 show wSs _ _ dg _ [some (wI ns),some (.int t),some (.int p),none,none,none]
 unfold dg wI
 walk_at "vs"
 refine bX (fun i ε=>∃o5,ε=[some (.lst (ns.map W.int)),some (.int t),some (.int p),some (.int (wv t p (ns.drop (ns.length -i)))),some (.int (p^i)),o5]) ⟨none,?_⟩ ?_ ?_
 ·rw[Nat.sub_zero,List.drop_length,OF]
  rfl
 ·rintro i w _ N hw ⟨o5,rfl⟩ hN
  obtain⟨hi,e⟩:=GM.mp hw
  rw[List.length_reverse,Ap]at hi
  have hk:ns.length -1 -i<ns.length:=by lia
  obtain⟨y,hy,rfl⟩:∃y,y=ns[ns.length -1 -i]/\w=.int y:=by
   refine⟨_,rfl,?_⟩
   rw[←e,List.getElem_reverse,List.getElem_map]
   simp only[Ap]
  walk_at "vs"
  have bS:=Nm (n:=n) bt bp (l:=ns.drop (ns.length -i)) fun x hx=>bn x (List.mem_of_mem_drop hx)
  have ld:(ns.drop (ns.length -i)).length=i:=by rw[List.length_drop];lia
  rw[ld]at bS
  have c1:i*(m+1)<=50*1001:=Jn (by lia) (by lia)
  have c2:m*i<=1000*50:=Jn (by lia) (by lia)
  have bx:y.natAbs<2^n:=by rw[hy];exact bn _ (PP hk)
  have ZO:=aD (sF bp i)
  refine⟨aF bS bt (by lia),aF bx ZO (by lia),aF ZO bp (by lia),hN _ ⟨some (.int y),?_⟩⟩
  have dr:ns.drop (ns.length -(i+1))=y::ns.drop (ns.length -i):=by
   rw[show ns.length -(i+1)=ns.length -1 -i by lia,List.drop_eq_getElem_cons hk,show ns.length -1 -i+1=ns.length -i by lia,hy]
  rw[dr,Iy]
  show _=[some (W.lst (ns.map W.int)),some (W.int t),some (W.int p),some (W.int (wv t p (ns.drop (ns.length -i))*t+y*p^(ns.drop (ns.length -i)).length)),some (W.int (p^i*p)),some (W.int y)]
  rw[ld]
 ·rintro _ ⟨o5,rfl⟩
  walk_at "vs"
  rw[List.length_reverse,Ap,cv,List.drop_zero]
  exact q
theorem w6(x:Rat):x*((x.den:Int):Rat)=x.num:=by
 have:=gx (x:=x) (B:=x.den) (Int.dvd_refl _)
 rw[Int.ediv_self (by have:=x.den_nz;lia),ag]at this
 exact this.symm
theorem Nn{B:Int}{g:Rat->Int}(x:Rat):∀{rs:List Rat},(∀r∈rs,((g r:Int):Rat)=r*B)->zk x ((rs.map g).map fun z:Int=>(z:Rat))=zk x rs*B
 |[],_=>(Rat.zero_mul _).symm
 |r::rs,h=>by
  have ih:=Nn x (rs:=rs) fun y hy=>h y (Ee _ hy)
  show((g r:Int):Rat)+x*zk x _=(r+x*zk x rs)*B
  rw[ih,h r FK]
  grind
noncomputable def fT:List CS:=[.iff (.cmp .Eq (.var 0) (.lst [])) [.ret (.tup [(.int 0),(.int 1)])] [],.rA [2,3] (.call 0 [(.var 0)]),.rA [4,5] (.var 1),.ret (.call 1 [(.call 2 [(.var 2),(.var 4),(.var 5)]),(.bin .Mult (.var 3) (.call 3 [(.var 5),(.bin .Sub (.blt .len [(.var 0)]) (.int 1))]))])]
noncomputable def jm:bN:=fun ws Q _=>∃(as:List Rat) (x:Rat) (n k m:Nat),ws=[af as,wq x]/\(as≠[]/\as.length<=8/\(∃D:Int,0<D/\D.natAbs<2^k/\∀x∈as,Cd D n x)/\Bd m x/\n<=1000/\k<=300/\m<=100)/\Q (wq (zk x as))
theorem zu{G:Nat->W}{md:Md}(ws:List W)(Q:W->Prop)(R:Addr->Prop)(h:jm ws Q R):wSs (b7 [gJ,dN,gq,ee]) G fT (b8 md Q R) (au 6 ws):=by
 obtain⟨as,x,n,k,m,rfl,⟨a0,l8,⟨D,d0,dk,cd⟩,bx,hn,hk,hm⟩,q⟩:=h
 show wSs _ _ fT _ [some (af as),some (wq x),none,none,none,none]
 unfold fT
 have l0:=Bn.mpr a0
 walk_at "vs"
 refine⟨ak (by simp),iz (y:=[]) fun k1 h1=>?_⟩
 cases bK h1 a0
 walk_at "vs"
 refine⟨as,D,n,k,rfl,⟨cd,d0,dk,by lia,by lia,by lia⟩,fun ns B cl _ bB bn=>⟨rfl,?_⟩⟩
 unfold wq
 have ln:ns.length=as.length:=by rw[cl.eq,Ap]
 have bd:(x.den:Int).natAbs<2^m:=by rw[Int.natAbs_natCast];exact bx.2
 have dn:(x.den:Int)≠0:=by have:=x.den_nz;lia
 have B0:B≠0:=by have:=cl.pos;lia
 have p1:m*(as.length -1)<=100*8:=Jn hm (by lia)
 have bq:=aD (sF bd (as.length -1))
 have Vv:B*(x.den:Int)^(as.length -1)≠0:=Fh B0 (Sub.aQ dn _)
 have val:Rat.divInt (wv x.num x.den ns) (B*(x.den:Int)^(as.length -1))=zk x as:=by
  have e1:=Nl (t:=x.num) (p:=x.den) (w6 x) ns
  have e2:=Nn (B:=B) (g:=fun r=>r.num*(B/r.den)) x (rs:=as) fun r hr=>gx (cl.dv r hr)
  rw[←cl.eq]at e2
  have zR:=bu Vv
  have dR:=bu dn
  rw[dE]
  refine fj zR ?_
  rw[W1 zR]
  refine fj dR ?_
  rw[e1,e2,ln]
  simp only[Da,Rat.intCast_pow]
  rw[show as.length=as.length -1+1 by lia,Sr,Wp]
  grind
 unfold af
 walk_at "vs"
 refine⟨rfl,ns,x.num,x.den,n,m,rfl,⟨by lia,bn,bx.1,bd,by lia,by lia⟩,?_⟩
 rw[Ap,show(as.length:Int) -1=((as.length -1:Nat):Int) by lia]
 refine⟨x.den,as.length -1,m,rfl,bd,Dx (Jn hm (show as.length -1+1<=8 by lia)) (by decide),?_⟩
 walk_at "vs"
 refine⟨aF bB bq (by lia),_,_,k+(m*(as.length -1)+1),rfl,by rw[Fk];exact lt_mul bB bq,by lia,fun z=>absurd z Vv,fun _=>?_⟩
 rw[val]
 exact q
noncomputable def nG:List CS:=[.set 2 (.tup [(.int 1),(.int 1)]),.fr [3] true (.oz [(.var 1)]) [.set 2 (.call 0 [(.var 2),(.var 0)])],.ret (.var 2)]
noncomputable def sI:bN:=fun ws Q _=>∃(x:Rat) (e N m:Nat),ws=[wq x,.int e]/\(By N m x/\N<=10000/\m<=500/\e<=10)/\(By (N*e+1) (m*e+1) (x^e)->Q (wq (x^e)))
theorem xg{x:Rat}{N m:Nat}(h:By N m x):∀e:Nat,By (N*e+1) (m*e+1) (x^e)
 |0=>by
  rw[Ts]
  exact⟨Nat.one_lt_two_pow (Nat.succ_ne_zero _),Nat.one_lt_two_pow (Nat.succ_ne_zero _)⟩
 |e+1=>by
  rw[Sr]
  exact((xg h e).mul h).up (by rw[Nat.mul_succ];lia) (by rw[Nat.mul_succ];lia)
theorem LW{G:Nat->W}{md:Md}(ws:List W)(Q:W->Prop)(R:Addr->Prop)(h:sI ws Q R):wSs (b7 [oZ]) G nG (b8 md Q R) (au 4 ws):=by
 obtain⟨x,e,N,m,rfl,⟨bx,hN,hm,he⟩,q⟩:=h
 show wSs _ _ nG _ [some (wq x),some (.int e),none,none]
 unfold nG
 walk_at "vs"
 refine⟨ak (by simp),by lia,by lia,?_⟩
 rw[Int.toNat_natCast]
 refine bX (fun i ε=>∃o,ε=[some (wq x),some (.int e),some (wq (x^i)),o]) ⟨none,?_⟩ ?_ ?_
 ·rw[Ts]
  rfl
 ·rintro i w _ N1 hw ⟨o,rfl⟩ xO
  obtain⟨hi,rfl⟩:=mJ hw
  have p1:N*i<=10000*10:=Jn hN (by lia)
  have p2:m*i<=500*10:=Jn hm (by lia)
  walk_at "vs"
  refine⟨x^i,x,N*i+1,N,m*i+1,m,rfl,⟨xg bx i,bx,by lia,by lia,by lia,by lia⟩,xO _ ⟨some (.int i),?_⟩⟩
  rw[Sr]
 ·rintro _ ⟨o,rfl⟩
  rw[Bx]
  walk_at "vs"
  exact q (xg bx e)
section
variable{a b:List Rat}{l1 l2 n1 n2 n k1 k2 k E q:Nat}{Q:W->Prop}{R:Addr->Prop}
theorem IZ(ha:Rw l1 n1 k1 a)(hb:Rw l2 n2 k2 b)(h:k1+k2<=6000/\n1<=100000/\n2<=100000/\l1<=100/\l2<=100)(q:Q (af (aG (mulQ a b)))):fk [af a,af b] Q R:=by
 obtain⟨a1,a2,D1,p1,q1,c1⟩:=ha
 obtain⟨b1,b2,D2,p2,q2,c2⟩:=hb
 obtain⟨hk,hn1,hn2,hl1,hl2⟩:=h
 exact⟨a,b,D1,D2,n1,n2,k1,k2,rfl,⟨c1,p1,q1,c2,p2,q2,hk,hn1,hn2,Dx a1 hl1,Dx b1 hl2⟩,q⟩
theorem Vw(ha:Rw l1 n k a)(hb:Rw l2 n k b)(h:l1<=8/\l2<=8/\(n+4)*(l1 -1+(l2 -1)+1)+1<=q/\q<=5000/\(n+4)*E<=7900/\q+n<=6000/\k<=3000/\0<n)(hE:∀s,s<l1 -1+(l2 -1)+1->∀p,p<l1 -1+(l2 -1)+1->(s -2*p)*p+(s+1)<=E)
 (hQ:∀g u v,sj (k+q) (q+(n+n)) a b g u v->Rw (max l1 l2) q q g->CD a b g->Q (.tup [af g,af u,af v])):kK [af a,af b] Q R:=by
 obtain⟨h1,h2,hq,q5,e7,qn,k3,n0⟩:=h
 refine⟨a,b,n,k,E,q,rfl,Vp ha hb h1 h2 (Vq hE) hq q5 e7 qn k3 n0,fun g u v go gb=>?_⟩
 have l:=LN go.cd ha.z hb.z
 have la:=ha.len
 have lb:=hb.len
 exact hQ g u v go (Vr gb go.cd.mz.Wc (by lia)) go.cd
end
theorem zv{x y:Rat}{Q:W->Prop}(h:∀k:Bool,(k=true↔x=y)->Q (.bl (!k))):gg .NotEq (wq x) (wq y) Q:=
 ⟨.inl ⟨rV x 8,rV y 8⟩,fun k hk=>h k (hk.trans ⟨fun e=>Be e,fun e=>by rw[e]⟩)⟩
theorem nH{a b:List Rat}{l1 l2 n k E:Nat}{Q:W->Prop}{R:Addr->Prop}(ha:Rw l1 n k a)(a0:a≠[])(hb:Rw l2 n k b)(b0:b≠[])(h:l1<=8/\l2<=8/\(n+4)*(l1 -1+(l2 -1)+1)+1<=5000/\(n+4)*E<=7900/\n<=400/\k<=400)(hE:∀s,s<l1 -1+(l2 -1)+1->∀p,p<l1 -1+(l2 -1)+1->(s -2*p)*p+(s+1)<=E)(q:Bd (rB n k) (aZ a b)->Q (wq (aZ a b))):cI [af a,af b] Q R:=by
 obtain⟨h1,h2,hq,e7,n5,k3⟩:=h
 have la:=ha.len
 have lb:=hb.len
 refine⟨a,b,n,k,E,rfl,⟨by lia,by lia,ha.z,hb.z,a0,b0,ha.cd,hb.cd,Vq hE _ (by lia),?_,e7,n5,k3⟩,q⟩
 have:(n+4)*(a.length -1+(b.length -1)+1)<=(n+4)*(l1 -1+(l2 -1)+1):=DL _ (by lia)
 lia
noncomputable def j4:List CS:=[.set 2 (.ix (.call 0 [(.var 1),(.var 0)]) (.int 1)),.iff (.cmp .Eq (.var 2) (.lst [])) [.ret (.tup [(.int 0),(.int 1)])] [],.ret (.call 1 [(.call 2 [(.ix (.var 0) (.neg (.int 1))),(.bin .Sub (.blt .len [(.var 1)]) (.blt .len [(.var 2)]))]),(.call 3 [(.var 0),(.var 2)])])]
noncomputable def qN:bN:=fun ws Q _=>∃a b:List Rat,ws=[af a,af b]/\(Rw 5 31 6 a/\2<=a.length/\Rw 4 13 3 b/\b≠[])/\Q (wq (aZ a b))
theorem I0{G:Nat->W}{m:Md}(ws:List W)(Q:W->Prop)(R:Addr->Prop)(h:qN ws Q R):wSs (b7 [nD,oZ,sI,cI]) G j4 (b8 m Q R) (au 3 ws):=by
 obtain⟨a,b,rfl,⟨ha,a2,hb,b0⟩,hq⟩:=h
 show wSs _ _ j4 _ [some (af a),some (af b),none]
 unfold j4
 have a0:a≠[]:=fun z=>by rw[z]at a2;cases a2
 have l0:=Bn.mpr b0
 have la:=ha.len
 have lb:=hb.len
 obtain⟨D1,p1,q1,c1⟩:=hb.cd
 obtain⟨D2,p2,q2,c2⟩:=ha.cd
 have mr:31*(b.length+1 -a.length)<=31*3:=DL _ (by lia)
 walk_at "vs"
 refine⟨b,a,D1,D2,13,31,3,6,rfl,⟨c1,p1,q1,c2,p2,q2,by decide,by lia,by decide,by decide,by lia,by lia,ha.z⟩,fun z=>absurd z a0,fun q r dv br=>⟨_,rfl,?_⟩⟩
 obtain⟨Dr,dr0,drb,cr⟩:=br
 have e:=dv.eq
 have lr:=dv.len
 have lq:=dv.lq
 refine⟨ak (by simp),iz (y:=[]) fun k hk=>?_⟩
 have short:b.length+1<a.length->r=b:=fun h=>by
  have q0:q=[]:=Kj.mp (by lia)
  refine Bj dv.zr hb.z fun k=>?_
  have:=e k
  rw[q0,mP,Rat.zero_add]at this
  exact this.symm
 by_cases r0:r=[]
 ·cases cP hk r0
  walk_at "vs"
  refine⟨ak (by simp),?_⟩
  have:aZ a b=0:=by
   by_cases hs:b.length+1<a.length
   ·exact absurd ((short hs).symm.trans r0) b0
   ·refine res_none (q:=q) ha.z a2 b0 (by lia) fun k=>?_
    have:=e k
    rw[r0]at this
    exact this.trans (Rat.add_zero _)
  rw[this]at hq
  exact hq
 ·cases bK hk r0
  walk_at "vs"
  have rl:=Bn.mpr r0
  have rb:r.length<=b.length:=by
   by_cases hs:b.length+1<a.length
   ·rw[short hs]
    exact Do _
   ·lia
  have val:aZ a b=a.getD (a.length -1) 0^(b.length -r.length)*aZ a r:=by
   by_cases hs:b.length+1<a.length
   ·rw[short hs,cv,Ts,Y1]
   ·exact nF ha.z a0 b0 rb (by lia) e r0
  have hr:Rw 4 109 97 r:=⟨by lia,dv.zr,IJ dr0 (fun x hx=>(cr x hx).up (by
   have:(b.length+1 -a.length)*32<=3*32:=Ya _ (by lia)
   lia)) (gM drb (by lia))⟩
  have lA:=qC (rs:=a) (by lia) rfl
  have lm:a.getD (a.length -1) 0∈a:=by
   rw[AC,BM (show a.length -1<a.length by lia)]
   exact PP _
  have bl:=Rg (c2 _ lm) p2 q2
  unfold af
  walk_at "vs"
  refine⟨_,yD lA,?_⟩
  rw[Ap,Ap,show(b.length:Int) -(r.length:Int)=((b.length -r.length:Nat):Int) by lia]
  refine⟨_,b.length -r.length,31,6,rfl,⟨bl,by decide,by decide,by lia⟩,fun bp=>?_⟩
  refine nH (E:=14) (ha.up (l':=5) (n':=109) (k':=97) (by decide) (by decide) (by decide)) a0 hr r0 (by decide) (by decide) fun br=>?_
  refine⟨_,_,_,_,_,_,rfl,⟨bp,br.dd,by lia,by decide,by lia,by decide⟩,?_⟩
  rw[←val]
  exact hq
noncomputable def nI:bN:=fun ws Q R=>kK ws Q R/\∀as bs,ws=[af as,af bs]->as≠[]/\bs≠[]
noncomputable def gP:bN:=fun ws Q R=>kK ws Q R/\∀as bs,ws=[af as,af bs]->bs.length<=as.length/\as≠[]/\bs≠[]
noncomputable def j5:List CS:=[.iff (.cmp .Lt (.blt .len [(.var 0)]) (.blt .len [(.var 1)])) [.mj,.mj] [],.iff (.cmp .Eq (.var 0) (.lst [])) [.mj] [],.iff (.cmp .Eq (.var 1) (.lst [])) [.mj] [],.rA [5,6,7] (.call 2 [(.var 0)]),.rA [8,9,10] (.call 2 [(.var 1)]),.set 11 (.call 3 [(.var 5),(.var 8),(.lst [(.int 1)])]),.R6 (.GD 11 0 4 []),.par [2,4] [(.own 11 [.fl 1 "last"]),(.own 11 [.fl 3 "factor_last"])],.set 12 (.call 5 [(.var 2),(.call 6 [(.var 4),(.var 5)])]),.set 3 (.call 7 [(.var 12),(.var 8)]),.set 13 (.ix (.var 2) (.neg (.int 1))),.ret (.tup [(.call 8 [(.var 2),(.var 13)]),(.call 8 [(.call 9 [(.var 4),(.var 6)]),(.bin .Mult (.var 13) (.var 7))]),(.call 8 [(.call 9 [(.var 3),(.var 9)]),(.bin .Mult (.var 13) (.var 10))])])]
theorem Fe{S0 S1:bN}{C:Addr}{m:Md}(ws:List W)(Q:W->Prop)(R:Addr->Prop)(h:gP ws Q R):wSs (b7 [S0,S1,cE,mO C,pM C,cT,b9,fO,fh,gk]) (ou [.cls C]) j5 (b8 m Q R) (au 14 ws):=by
 obtain⟨⟨as,bs,n,k,E,q,rfl,gp,hQ⟩,hl⟩:=h
 obtain⟨hl,Rx,bne⟩:=hl as bs rfl
 obtain⟨la,lb,za,zb,⟨DA,Yb,Yc,ca⟩,⟨DB,Yd,Ye,cb⟩,hE,hq,q5,e7,qn,k3,n0⟩:=gp
 show wSs _ _ j5 _ [some (af as),some (af bs),none,none,none,none,none,none,none,none,none,none,none,none]
 unfold j5
 have qn1:n+4<=q:=by
  have:(n+4)*1<=(n+4)*(as.length -1+(bs.length -1)+1):=DL _ (by lia)
  lia
 refine aR (fun ε'=>ε'=[some (af as),some (af bs),none,none,none,none,none,none,none,none,none,none,none,none]) (fun N hN=>?_) ?_
 ·unfold af at hN⊢
  walk_at "vs"
  rw[Ap,Ap,Bi (by rw[Ha];lia)]
  exact hN _ rfl
 rintro _ rfl
 refine aR (fun ε'=>ε'=[some (af as),some (af bs),none,none,none,none,none,none,none,none,none,none,none,none]) (fun N hN=>?_) ?_
 ·walk_at "vs"
  refine⟨ak (by simp),iz (y:=[]) fun b hb=>?_⟩
  cases bK hb Rx
  walk_at "vs"
  exact hN _ rfl
 rintro _ rfl
 refine aR (fun ε'=>ε'=[some (af as),some (af bs),none,none,none,none,none,none,none,none,none,none,none,none]) (fun N hN=>?_) ?_
 ·walk_at "vs"
  refine⟨ak (by simp),iz (y:=[]) fun b hb=>?_⟩
  cases bK hb bne
  walk_at "vs"
  exact hN _ rfl
 rintro _ rfl
 have b0:=Bn.mpr bne
 have a0:=Bn.mpr Rx
 refine aR (fun ε'=>∃ns Ba,∃c:Nat,(Prim as ns Ba c/\Ba.natAbs<2^k/\c<2^n/\∀x∈ns,x.natAbs<2^n)/\ε'=[some (af as),some (af bs),none,none,none,some (wI ns),some (.int Ba),some (.int c),none,none,none,none,none,none]) (fun N hN=>?_) ?_
 ·walk_at "vs"
  refine⟨as,DA,n,k,rfl,⟨⟨_,List.getLast_mem Rx,za _ (cn Rx)⟩,ca,Yb,Yc,by lia,by lia,by lia⟩,fun ns Ba c pr bB bc bn=>?_⟩
  obtain⟨c',rfl⟩:∃c':Nat,c=c':=⟨c.toNat,by have:=pr.cpos;lia⟩
  exact⟨rfl,hN _ ⟨ns,Ba,c',⟨pr,bB,by lia,bn⟩,rfl⟩⟩
 rintro _ ⟨ns,Ba,Np,⟨pa,Sn,Vt,IE⟩,rfl⟩
 refine aR (fun ε'=>∃ms Bb,∃c:Nat,(Prim bs ms Bb c/\Bb.natAbs<2^k/\c<2^n/\∀x∈ms,x.natAbs<2^n)/\ε'=[some (af as),some (af bs),none,none,none,some (wI ns),some (.int Ba),some (.int Np),some (wI ms),some (.int Bb),some (.int c),none,none,none]) (fun N hN=>?_) ?_
 ·walk_at "vs"
  refine⟨bs,DB,n,k,rfl,⟨⟨_,List.getLast_mem bne,zb _ (cn bne)⟩,cb,Yd,Ye,by lia,by lia,by lia⟩,fun ns Ba c pr bB bc bn=>?_⟩
  obtain⟨c',rfl⟩:∃c':Nat,c=c':=⟨c.toNat,by have:=pr.cpos;lia⟩
  exact⟨rfl,hN _ ⟨ns,Ba,c',⟨pr,bB,by lia,bn⟩,rfl⟩⟩
 rintro _ ⟨ms,Bb,Ry,⟨pb,So,Vu,Ni⟩,rfl⟩
 have Ai:=o9 pa Rx za
 have Nh:=o9 pb bne zb
 have Rr:=pa.len
 have Ak:=pb.len
 have Wd:Ba≠0:=by have:=pa.bpos;lia
 have We:Bb≠0:=by have:=pb.bpos;lia
 have ca0:0<Np:=by have:=pa.cpos;lia
 have cb0:0<Ry:=by have:=pb.cpos;lia
 have ra:∀i,((Np:Int):Rat)*(ns.getD i 0:Rat)=as.getD i 0*Ba:=fun i=>by rw[←pa.at_ i];grind
 have rb:∀i,((Ry:Int):Rat)*(ms.getD i 0:Rat)=bs.getD i 0*Bb:=fun i=>by rw[←pb.at_ i];grind
 have X1:Sub.FX ns ms [1] [] (n+4) E:=IC (by lia) (by lia) IE Ni (.inr rfl) (.inl rfl) (by rw[Rr,Ak];exact hE)
 have X2:Sub.FX ns ms [] [1] (n+4) E:=IC (by lia) (by lia) IE Ni (.inl rfl) (.inr rfl) (by rw[Rr,Ak];exact hE)
 rw[←Rr,←Ak]at hq
 have up:∀y:Int,y.natAbs<=2^((n+4)*(ns.length -1+(ms.length -1)+1))->y.natAbs<2^q:=fun y hy=>gM (aD hy) (by lia)
 refine aR (fun ε'=>ε'=[some (af as),some (af bs),none,none,none,some (wI ns),some (.int Ba),some (.int Np),some (wI ms),some (.int Bb),some (.int Ry),some (jI C ns ms [1] [] 1 1 1 1 1),none,none]) (fun N hN=>?_) ?_
 ·walk_at "vs"
  exact⟨ak (by simp),ns,ms,[1],rfl,hN _ rfl⟩
 rintro _ rfl
 refine aR (fun ε'=>∃(A B fA fB:List Int) (ld h sg sc kn:Int),(GI ns ms (n+4) E A B fA fB ld h/\(B.length<2\/∃Qs c,sf A B Qs [] c))/\ε'=[some (af as),some (af bs),none,none,none,some (wI ns),some (.int Ba),some (.int Np),some (wI ms),some (.int Bb),some (.int Ry),some (jI C A B fA fB ld h sg sc kn),none,none]) (fun N hN=>?_) ?_
 ·unfold jI
  walk_at "vs"
  refine⟨rfl,ns,ms,[1],[],1,1,1,1,1,fun A B fA fB ld h _=>GI ns ms (n+4) E A B fA fB ld h,rfl,⟨IA (by lia) Nh X1 X2,LI X1 X2 (by lia) (by lia) e7⟩,fun A B fA fB ld h sg sc kn hI fin=>?_⟩
  exact⟨_,_,rfl,hN _ ⟨A,B,fA,fB,ld,h,sg,sc,kn,⟨hI,fin⟩,rfl⟩⟩
 rintro _ ⟨A,B,fA,fB,ld,h,sg,sc,kn,⟨hI,fin⟩,rfl⟩
 obtain⟨d1,d2,zB,lB,lBm,ZK,bB,Nf,Z,lZ,lZ2,zZ,bZ,hD⟩:=E9 hI Ai (by lia) (by lia) fin
 obtain⟨ZP,S1,S2,Sl,_,ZQ,ZR,ZS,ZT⟩:=BB X1 X2 hI fin
 have u1:Vl B ns q:=⟨ZP,S1,Sl,fun y hy=>up y (ZQ y hy),ZS⟩
 have u2:Vl B ms q:=⟨ZP,S2,Sl,fun y hy=>up y (ZR y hy),ZT⟩
 clear ZQ ZR ZS ZT hI fin X1 X2
 unfold jI
 walk_at "vs"
 refine⟨rfl,?_⟩
 walk_at "vs"
 refine⟨fB,ns,rfl,by lia,by lia,fun y hy z hz=>aF (up y (Nf y hy)) (IE z hz) (by lia),?_⟩
 have tl:=wG fB ns
 have tb:=Iz (fun y hy=>up y (Nf y hy)) IE (by lia)
 have tc:=BA fB ns
 generalize(if fB=[]\/ns=[]then[]else tabI (fB.length+ns.length -1) (cf fB ns fB.length))=L9 at*
 refine⟨B,L9,_,rfl,by lia,by lia,?_,tb,fun L tr=>?_⟩
 ·lia
 have lL:=rZ tr
 rw[Ap,Ta]at lL
 have ZU:∀k,L.getD k 0=cf Z ms Z.length k:=fun k=>by
  rw[wk tr]
  have e:((List.range (max B.length L9.length)).map fun k=>B.getD k 0 -L9.getD k 0).getD k 0=B.getD k 0 -L9.getD k 0:=by
   by_cases hk:k<max B.length L9.length
   ·rw[AC,FR,T2 hk]
    rfl
   ·rw[outI (by rw[Ap,Ta];lia),outI (ns:=L9) (by lia),outI (ns:=B) (by lia)]
    rfl
  rw[e,tc k,iX,iX]
  have:=hD k
  show co B k -_=_
  lia
 have hll:=IB ZU tr.last lZ (by lia) zZ Nh
 refine⟨L,ms,Z,q,rfl,⟨by lia,lZ,by lia,by lia,ZU,Nh,by lia,fun y hy=>gM (Ni y hy) (by lia),fun y hy=>up y (bZ y hy)⟩,?_⟩
 have bl:=up _ (bB _ (Sub.getD_mem' (ns:=B) (k:=B.length -1) (by lia)))
 have eL:=Di lB
 have gr:=Fc (kb:=k) ca0 cb0 Wd We ra rb Ai Nh Vt Vu Sn So IE Ni u1 u2 zB hD
 generalize Rf:B.getD (B.length -1) 0=l at*
 have Vn:(Np:Int).natAbs<2^n:=by rw[Int.natAbs_natCast];exact Vt
 have LJ:(Ry:Int).natAbs<2^n:=by rw[Int.natAbs_natCast];exact Vu
 have ZV:l*(Np:Int)≠0:=Fh zB (by lia)
 have ZW:l*(Ry:Int)≠0:=Fh zB (by lia)
 have c1:=Dp zB (fun y hy=>up y (bB y hy))
 have c2:=Dp ZV (Nj Sn (fun y hy=>up y (Nf y hy)))
 have c3:=Dp ZW (Nj So (fun y hy=>up y (bZ y hy)))
 rw[Ap]at c2 c3
 refine⟨_,eL,?_⟩
 walk_at "vs"
 refine⟨B,l,q,rfl,⟨zB,bl,by lia,by lia⟩,?_⟩
 refine⟨fB,Ba,rfl,by lia,fun x hx=>aF Sn (up x (Nf x hx)) (by lia),aF bl Vn (by lia),?_⟩
 refine⟨_,_,q+n,rfl,⟨ZV,by rw[Fk];exact lt_mul bl Vn,by lia,by rw[Ap];lia⟩,?_⟩
 refine⟨Z,Bb,rfl,by lia,fun x hx=>aF So (up x (bZ x hx)) (by lia),aF bl LJ (by lia),?_⟩
 refine⟨_,_,q+n,rfl,⟨ZW,by rw[Fk];exact lt_mul bl LJ,by lia,by rw[Ap];lia⟩,?_⟩
 exact⟨ak (by simp),hQ _ _ _ (.inr gr) ⟨l,Np,Ry,zB,by lia,by lia,bl,Vn,LJ,c1.1,c2.1,c3.1,by lia,by lia,by lia⟩⟩
noncomputable def i7:List CS:=[.iff (.cmp .Lt (.blt .len [(.var 0)]) (.blt .len [(.var 1)])) [.Ug [2,3,4] (.call 0 [(.var 1),(.var 0)]),.Uh 2 4 3] [],.mj,.mj,.mj,.mj,.mj,.mj,.mj,.mj,.mj,.mj,.mj]
noncomputable def i8:bN:=fun ws Q R=>kK ws Q R/\∀as bs,ws=[af as,af bs]->as.length<bs.length/\as≠[]/\bs≠[]
theorem Ff{G:Nat->W}{m:Md}(ws:List W)(Q:W->Prop)(R:Addr->Prop)(h:i8 ws Q R):wSs (b7 [gP]) G i7 (b8 m Q R) (au 14 ws):=by
 obtain⟨⟨as,bs,n,k,E,q,rfl,gp,hQ⟩,hl⟩:=h
 obtain⟨hl,Rx,bne⟩:=hl as bs rfl
 show wSs _ _ i7 _ [some (af as),some (af bs),none,none,none,none,none,none,none,none,none,none,none,none]
 unfold i7
 refine aR (fun ε'=>False) (fun N hN=>?_) (fun _ z=>z.elim)
 unfold af
 walk_at "vs"
 rw[Ap,Ap,Bz (IR (by lia))]
 refine⟨⟨bs,as,n,k,E,q,rfl,gp.swap,fun g u v go gb=>⟨rfl,hQ g v u go.swap gb.swap⟩⟩,fun as' bs' e=>?_⟩
 obtain⟨e1,e2⟩:=gO e
 rw[←e1,←e2]
 exact⟨by lia,bne,Rx⟩
theorem pN:∀ws P R,gP ws P R->ws.length=2:=by
 rintro _ _ _ ⟨⟨_,_,_,_,_,_,rfl,_⟩,_⟩
 rfl
theorem zw:∀ws P R,i8 ws P R->ws.length=2:=by
 rintro _ _ _ ⟨⟨_,_,_,_,_,_,rfl,_⟩,_⟩
 rfl
theorem BN:∀ws P R,nI ws P R->ws.length=2:=by
 rintro _ _ _ ⟨⟨_,_,_,_,_,_,rfl,_⟩,_⟩
 rfl
theorem Fg{P:Program}{w:World}{K:PySem.W.Frag}{mg:Str->Option Value}{base:Heap}{k1 k2 k:Nat}{f:Addr}{fd:FuncData}{ps:List Str}(F1:aH P w K mg base (cL P w) k1 f fd ps (cY K 2 (.t [.f,.f,.f]) gP))(F2:aH P w K mg base (cL P w) k2 f fd ps (cY K 2 (.t [.f,.f,.f]) i8))(h1:k1<=k)(h2:k2<=k):aH P w K mg base (cL P w) k f fd ps (cY K 2 (.t [.f,.f,.f]) nI):=by
 have way:∀vs H Q E,cY K 2 (.t [.f,.f,.f]) nI vs H Q E->cY K 2 (.t [.f,.f,.f]) gP vs H Q E\/cY K 2 (.t [.f,.f,.f]) i8 vs H Q E:=by
  rintro vs H Q E ⟨A,ws,P,R,l,r,d,h,c,e⟩
  obtain⟨⟨as,bs,n,k,E,q,rfl,gp,hQ⟩,ne⟩:=id h
  have ne:=ne as bs rfl
  by_cases hl:bs.length<=as.length
  ·refine .inl ⟨A,_,P,R,l,r,d,⟨h.1,fun as' bs' e=>?_⟩,c,e⟩
   obtain⟨e1,e2⟩:=gO e
   rw[←e1,←e2]
   exact⟨hl,ne⟩
  ·refine .inr ⟨A,_,P,R,l,r,d,⟨h.1,fun as' bs' e=>?_⟩,c,e⟩
   obtain⟨e1,e2⟩:=gO e
   rw[←e1,←e2]
   exact⟨by lia,ne⟩
 exact⟨fun vs H Q E h=>(way vs H Q E h).elim (F1.len vs H Q E) (F2.len vs H Q E),fun A outer s H args us vs Q E hr e0 hb r h=>(way vs H Q E h).elim (F1.run A outer s H args us vs Q E (hr.mono h1) e0 hb r) (F2.run A outer s H args us vs Q E (hr.mono h2) e0 hb r)⟩
noncomputable def i9:List CS:=[.set 4 (.call 0 [(.var 0),(.var 1)]),.iff (.cmp .NotEq (.call 0 [(.call 1 [(.var 0),(.var 2)]),(.var 1)]) (.call 2 [(.var 4),(.call 0 [(.var 2),(.var 1)])])) [.ret (.bl false)] [],.iff (.cmp .NotEq (.call 0 [(.var 0),(.call 1 [(.var 1),(.var 2)])]) (.call 2 [(.var 4),(.call 0 [(.var 0),(.var 2)])])) [.ret (.bl false)] [],.set 5 (.bin .Sub (.int 1) (.bin .Mult (.int 2) (.bin .Mod (.bin .Mult (.bin .Sub (.blt .len [(.var 0)]) (.int 1)) (.bin .Sub (.blt .len [(.var 1)]) (.int 1))) (.int 2)))),.iff (.cmp .NotEq (.call 0 [(.var 1),(.var 0)]) (.tup [(.bin .Mult (.var 5) (.ix (.var 4) (.int 0))),(.ix (.var 4) (.int 1))])) [.ret (.bl false)] [],.iff (.cmp .NotEq (.cmp .Eq (.ix (.var 4) (.int 0)) (.int 0)) (.cmp .Gt (.blt .len [(.ix (.call 3 [(.var 0),(.var 1)]) (.int 0))]) (.int 1))) [.ret (.bl false)] [],.iff (.cmp .NotEq (.call 0 [(.lst [(.tup [(.bin .Sub (.int 0) (.ix (.var 3) (.int 0))),(.ix (.var 3) (.int 1))]),(.tup [(.int 1),(.int 1)])]),(.var 0)]) (.call 4 [(.var 0),(.var 3)])) [.ret (.bl false)] [],.iff (.and [(.cmp .NotEq (.ix (.var 3) (.int 0)) (.int 0)),(.cmp .NotEq (.call 0 [(.lst [(.var 3)]),(.var 0)]) (.call 5 [(.var 3),(.bin .Sub (.blt .len [(.var 0)]) (.int 1))]))]) [.ret (.bl false)] [],.ret (.or [(.cmp .Eq (.blt .len [(.var 0)]) (.int 1)),(.cmp .Eq (.var 4) (.call 6 [(.var 0),(.var 1)]))])]
noncomputable def nJ:bN:=fun ws Q _=>∃(a b c:List Rat) (x:Rat),ws=[af a,af b,af c,wq x]/\(Rw 5 31 6 a/\a≠[]/\Rw 4 13 3 b/\b≠[]/\Rw 4 13 3 c/\c≠[]/\Bd 10 x)/\Q (.bl true)
theorem xh{a b:List Rat}(ha:aA a)(a0:a≠[])(hb:aA b)(b0:b≠[]):aG (mulQ a b)≠[]:=fun z=>by
 have:=nE ha a0 hb b0
 have:=Bn.mpr a0
 have:=Bn.mpr b0
 rw[z]at*
 simp at*
 lia
theorem Fi{G:Nat->W}{m:Md}(ws:List W)(Q:W->Prop)(R:Addr->Prop)(h:nJ ws Q R):wSs (b7 [cI,fk,oZ,nI,jm,sI,qN]) G i9 (b8 m Q R) (au 6 ws):=by
 obtain⟨a,b,c,x,rfl,⟨ha,a0,hb,b0,hc,c0,hx⟩,hq⟩:=h
 show wSs _ _ i9 _ [some (af a),some (af b),some (af c),some (wq x),none,none]
 unfold i9
 have hb1:Rw 4 31 6 b:=hb.up (by decide) (by decide) (by decide)
 have hc1:Rw 4 31 6 c:=hc.up (by decide) (by decide) (by decide)
 have hac:Rw 8 49 9 (aG (mulQ a c)):=rw_mul ha hc (by decide)
 have hbc:Rw 7 31 6 (aG (mulQ b c)):=rw_mul hb hc (by decide)
 have la:=ha.len
 have lb:=hb.len
 have l0:=Bn.mpr a0
 have m0:=Bn.mpr b0
 refine aR (fun ε'=>Bd (rB 31 6) (aZ a b)/\ε'=[some (af a),some (af b),some (af c),some (wq x),some (wq (aZ a b)),none]) (fun N hN=>?_) ?_
 ·walk_at "vs"
  exact nH (E:=14) ha a0 hb1 b0 (by decide) (by decide) fun br=>hN _ ⟨br,rfl⟩
 rintro _ ⟨br,rfl⟩
 refine aR (fun ε'=>ε'=[some (af a),some (af b),some (af c),some (wq x),some (wq (aZ a b)),none]) (fun N hN=>?_) ?_
 ·walk_at "vs"
  refine IZ ha hc (by decide) (nH (E:=23) hac (xh ha.z a0 hc.z c0) (hb.up (l':=4) (n':=49) (k':=9) (by decide) (by decide) (by decide)) b0 (by decide) (by decide) fun _=>?_)
  refine nH (E:=14) hc1 c0 hb1 b0 (by decide) (by decide) fun LJ=>?_
  refine⟨_,_,_,_,_,_,rfl,⟨br.dd,LJ.dd,by decide,by decide,by decide,by decide⟩,zv fun k hk=>?_⟩
  cases cP hk (zh ha.z a0 hc.z c0 b0)
  walk_at "vs"
  rw[Bi (by decide)]
  exact hN _ rfl
 rintro _ rfl
 refine aR (fun ε'=>ε'=[some (af a),some (af b),some (af c),some (wq x),some (wq (aZ a b)),none]) (fun N hN=>?_) ?_
 ·walk_at "vs"
  refine IZ hb hc (by decide) (nH (E:=23) ha a0 hbc (xh hb.z b0 hc.z c0) (by decide) (by decide) fun _=>?_)
  refine nH (E:=14) ha a0 hc1 c0 (by decide) (by decide) fun LJ=>?_
  refine⟨_,_,_,_,_,_,rfl,⟨br.dd,LJ.dd,by decide,by decide,by decide,by decide⟩,zv fun k hk=>?_⟩
  cases cP hk (wX a0 hb.z b0 hc.z c0)
  walk_at "vs"
  rw[Bi (by decide)]
  exact hN _ rfl
 rintro _ rfl
 have sw:=i0 a b
 rw[wF]at sw
 refine aR (fun ε'=>∃s:Int,(s=if((a.length -1)*(b.length -1))%2=0 then 1 else-1)/\ε'=[some (af a),some (af b),some (af c),some (wq x),some (wq (aZ a b)),some (.int s)]) (fun N hN=>?_) ?_
 ·unfold af at hN⊢
  walk_at "vs"
  rw[Ap,Ap,show(a.length:Int) -1=((a.length -1:Nat):Int) by lia,show(b.length:Int) -1=((b.length -1:Nat):Int) by lia]
  refine⟨fG (by lia) (by lia),by decide,fG (by decide) (by decide),hN _ ⟨_,?_,rfl⟩⟩
  rw[←Int.natCast_mul,X9 _ (by decide)]
  generalize(a.length -1)*(b.length -1)=z
  split<;>lia
 rintro _ ⟨s,hs,rfl⟩
 rw[←hs]at sw
 have s1:s=1\/s= -1:=by
  rw[hs]
  split
  ·exact .inl rfl
  ·exact .inr rfl
 have wqs:W.tup [.int (s*(aZ a b).num),.int (aZ a b).den]=wq (aZ b a):=by
  rcases s1 with e|e
  ·rw[sw,e,RF,show((1:Int):Rat)*aZ a b=aZ a b from Y1 _]
   rfl
  ·rw[sw,e,show((-1:Int):Rat)*aZ a b= -aZ a b by show(-1:Rat)*_=_;grind,←BL,show-1*(aZ a b).num= -(aZ a b).num by lia]
 refine aR (fun ε'=>ε'=[some (af a),some (af b),some (af c),some (wq x),some (wq (aZ a b)),some (.int s)]) (fun N hN=>?_) ?_
 ·walk_at "vs"
  refine nH (E:=14) hb1 b0 ha a0 (by decide) (by decide) fun _=>?_
  have hN:=hN _ rfl
  generalize aZ a b=y at*
  generalize hz:aZ b a=z at*
  unfold wq at hN⊢
  walk_at "vs"
  refine⟨_,rfl,?_⟩
  walk_at "vs"
  refine⟨by rcases s1 with e|e<;>rw[e]<;>exact fG (by decide) (by decide),_,rfl,ak (by simp),?_⟩
  rw[wqs]
  refine zv (x:=z) fun k hk=>?_
  cases cP hk rfl
  walk_at "vs"
  rw[Bi (by decide)]
  exact hN
 rintro _ rfl
 refine aR (fun ε'=>ε'=[some (af a),some (af b),some (af c),some (wq x),some (wq (aZ a b)),some (.int s)]) (fun N hN=>?_) ?_
 ·have hN:=hN _ rfl
  walk_at "vs"
  refine⟨_,rfl,?_⟩
  walk_at "vs"
  refine⟨Vw (q:=281) (E:=14) ha hb1 (by decide) (by decide) fun g u v go hg cg=>⟨_,rfl,?_⟩,fun as bs e=>by
   obtain⟨e1,e2⟩:=gO e
   rw[←e1,←e2]
   exact⟨a0,b0⟩⟩
  have key:(aZ a b).num=0↔1<g.length:=by
   rcases go with⟨z,_⟩|go
   ·exact absurd z a0
   by_cases g2:2<=g.length
   ·obtain⟨t1,_,e1,_⟩:=go.da
    obtain⟨t2,_,e2,_⟩:=go.db
    have:aZ a b=0:=LU ha.z a0 hb.z b0 go.ng g2 ⟨t2,e2⟩ ⟨t1,e1⟩
    exact⟨fun _=>g2,fun _=>by rw[this];rfl⟩
   ·have g1:=Rk ⟨go.ne,go.one⟩ (by lia)
    have e:=go.X0
    rw[g1]at e
    have:=Rm ha.z a0 hb.z b0 go.nu go.nv e
    exact⟨fun z=>absurd (Rat.num_eq_zero.mp z) this,fun z=>absurd z (by lia)⟩
  unfold af at hN⊢
  walk_at "vs"
  have hd:decide ((aZ a b).num=0)=decide ((1:Int)<((g.map wq).length:Int)):=decide_eq_decide.mpr (key.trans (by rw[Ap];lia))
  rw[hd]
  generalize decide ((1:Int)<((g.map wq).length:Int))=p
  cases p<;>exact hN
 rintro _ rfl
 have hxl:Rw 2 31 10 [-x,1]:=by
  refine⟨Do _,fun y hy=>by
   have:y=1:=by cases hy;rfl
   rw[this]
   decide,(x.den:Int),by have:=x.den_pos;lia,by rw[Int.natAbs_natCast];exact hx.2,fun y hy=>?_⟩
  have dn:=w6 x
  have hc:∀y∈[-x,(1:Rat)],Cd (x.den:Int) 10 y:=fun y hy=>by
   simp only[FV,QQ,or_false]at hy
   rcases hy with rfl|rfl
   ·exact⟨-x.num,by rw[Rat.intCast_neg,←dn];grind,by rw[Int.natAbs_neg];exact hx.1⟩
   ·exact⟨x.den,Y1 _,by rw[Int.natAbs_natCast];exact hx.2⟩
  exact(hc y hy).up (by decide)
 refine aR (fun ε'=>ε'=[some (af a),some (af b),some (af c),some (wq x),some (wq (aZ a b)),some (.int s)]) (fun N hN=>?_) ?_
 ·have hN:=hN _ rfl
  have ew:W.lst [.tup [.int (0 -x.num),.int x.den],.tup [.int 1,.int 1]]=af [-x,1]:=by
   unfold af
   rw[show(0:Int) -x.num= -x.num by lia,BL]
   rfl
  unfold wq at hN⊢
  walk_at "vs"
  refine⟨_,rfl,?_⟩
  walk_at "vs"
  refine⟨_,rfl,ak (by simp),ak (by simp),ak (by simp),?_⟩
  rw[ew]
  refine nH (E:=14) hxl (by simp) (ha.up (l':=5) (n':=31) (k':=10) (by decide) (by decide) (by decide)) a0 (by decide) (by decide) fun _=>?_
  refine⟨a,x,31,6,10,rfl,⟨a0,by lia,ha.cd,hx,by decide,by decide,by decide⟩,zv fun k hk=>?_⟩
  cases cP hk (LS a0 x)
  walk_at "vs"
  rw[Bi (by decide)]
  exact hN
 rintro _ rfl
 refine aR (fun ε'=>ε'=[some (af a),some (af b),some (af c),some (wq x),some (wq (aZ a b)),some (.int s)]) (fun N hN=>?_) ?_
 ·have hN:=hN _ rfl
  walk_at "vs"
  refine⟨_,rfl,?_⟩
  walk_at "vs"
  by_cases x0:x.num=0
  ·rw[Bi (by rw[IR x0];decide)]
   exact hN
  rw[Bz (by rw[P3 x0];rfl)]
  refine⟨ak (by simp),?_⟩
  have hx1:Rw 1 31 10 [x]:=⟨Do _,fun y hy=>by
   have:y=x:=by cases hy;rfl
   rw[this]
   exact fun z=>x0 (by rw[z];rfl),(x.den:Int),by have:=x.den_pos;lia,by rw[Int.natAbs_natCast];exact hx.2,fun y hy=>by
   rw[Fm.mp hy]
   exact(show Cd (x.den:Int) 10 x from⟨x.num,w6 x,hx.1⟩).up (by decide)⟩
  refine nH (a:=[x]) (E:=14) hx1 (by simp) (ha.up (l':=5) (n':=31) (k':=10) (by decide) (by decide) (by decide)) a0 (by decide) (by decide) fun _=>?_
  unfold af at hN⊢
  walk_at "vs"
  rw[Ap,show(a.length:Int) -1=((a.length -1:Nat):Int) by lia]
  refine⟨x,a.length -1,10,10,rfl,⟨hx.dd,by decide,by decide,by lia⟩,fun _=>zv fun k hk=>?_⟩
  cases cP hk (zj a x)
  walk_at "vs"
  rw[Bi (by decide)]
  exact hN
 rintro _ rfl
 unfold af
 walk_at "vs"
 by_cases a1:a.length=1
 ·rw[Bz (by rw[Ap,a1];rfl)]
  exact hq
 ·rw[Bi (by rw[Ap,Ha];lia)]
  refine⟨a,b,rfl,⟨ha,by lia,hb,b0⟩,U8 fun k hk=>?_⟩
  cases cP hk rfl
  exact hq
theorem LX{a s:Int}{n i:Nat}{w:W}(h:(iM a s n)[i]?=some w):∃z:Int,w=.int z:=by
 unfold iM at h
 rw[FR]at h
 obtain⟨j,_,rfl⟩:=Pv.mp h
 exact⟨_,rfl⟩
noncomputable def j6:List CS:=[.set 2 (.call 0 [(.call 1 [(.var 0),(.bin .Add (.var 1) (.int 3))]),(.int 8)]),.set 3 (.lst []),.fr [4] true (.oz [(.int 3)]) [.set 5 (.call 2 [(.call 1 [(.var 0),(.bin .Add (.var 1) (.var 4))]),(.int 4),(.bin .Mod (.ix (.var 2) (.int 0)) (.int 2))]),.iff (.cmp .Eq (.var 5) (.lst [])) [.set 5 (.lst [(.tup [(.bin .Add (.int 1) (.bin .Mod (.ix (.var 2) (.bin .Add (.int 1) (.var 4))) (.int 9))),(.int 1)])])] [],.app 3 (.var 5)],.iff (.cmp .Eq (.bin .Mod (.ix (.var 2) (.int 4)) (.int 3)) (.int 1)) [.put 3 (.int 0) (.call 3 [(.sl (.ix (.var 3) (.int 0)) (.neg (.int 2)) .aX),(.ix (.var 3) (.int 1))])] [],.ret (.tup [(.var 3),(.call 4 [(.ix (.var 2) (.int 5)),(.ix (.var 2) (.int 6)),(.ix (.var 2) (.int 7)),(.bin .Mod (.bin .FloorDiv (.ix (.var 2) (.int 0)) (.int 2)) (.int 2))])])]
noncomputable def qO:bN:=fun ws Q _=>∃(ns:List Int) (k:Int),ws=[.iJ ns,.int k]/\∀(a b c:List Rat) (x:Rat),(Rw 5 31 6 a/\a≠[]/\Rw 4 13 3 b/\b≠[]/\Rw 4 13 3 c/\c≠[]/\Bd 10 x)->Q (.tup [.lst [af a,af b,af c],wq x])
theorem Yg{xs:List Int}(h:(xs.length:Int)=8):∃a b c d e f g i,xs=[a,b,c,d,e,f,g,i]:=by
 rcases xs with _|⟨a,_|⟨b,_|⟨c,_|⟨d,_|⟨e,_|⟨f,_|⟨g,_|⟨i,_|⟨j,l⟩⟩⟩⟩⟩⟩⟩⟩⟩<;>simp at h
 ·exact⟨_,_,_,_,_,_,_,_,rfl⟩
 ·lia
theorem DI(x:Int):x.fmod 2=0\/x.fmod 2=1:=by
 have h1:=Int.fmod_nonneg_of_pos x (show(0:Int)<2 by decide)
 have h2:=Int.fmod_lt_of_pos x (show(0:Int)<2 by decide)
 lia
theorem Rz{z:Int}(h:0<=z/\z<9):wq ((1+z:Int):Rat)=.tup [.int (1+z),.int 1]/\Rw 4 13 3 [((1+z:Int):Rat)]:=by
 refine⟨rfl,show(1:Nat)<=4 by decide,fun y hy=>?_,1,by decide,by decide,fun y hy=>?_⟩
 ·have:y=((1+z:Int):Rat):=by cases hy;rfl
  rw[this]
  exact bu (by lia)
 ·rw[Fm.mp hy]
  exact⟨1+z,Rat.mul_one _,by lia⟩
theorem LY(a:List Rat):∃a':List Rat,oM (a.map wq) (some (-2)) none=a'.map wq/\(∃s,a'=a.drop s/\(a=[]\/s<a.length)/\a.length<=s+2):=by
 have e:HT.tO (a.map wq).length 0 (some (-2))=((-2:Int)+(a.length:Int)).toNat:=by
  show(if(-2:Int)<0 then((-2:Int)+((a.map wq).length:Int)).toNat else min (-2:Int).toNat (a.map wq).length)=_
  rw[Bz (by decide),Ap]
 unfold oM
 rw[HT.xW,e,Ap,←List.map_drop,←List.map_take]
 refine⟨_,rfl,((-2:Int)+(a.length:Int)).toNat,?_,?_,by lia⟩
 ·exact List.take_of_length_le (by rw[List.length_drop];exact Do _)
 ·by_cases h:a=[]
  ·exact .inl h
  ·have:=Bn.mpr h
   exact .inr (by lia)
theorem Ja{G:Nat->W}{m:Md}(ws:List W)(Q:W->Prop)(R:Addr->Prop)(h:qO ws Q R):wSs (b7 [rY,Dy,Lz,fk,nq]) G j6 (b8 m Q R) (au 6 ws):=by
 obtain⟨ns,k0,rfl,hq⟩:=h
 show wSs _ _ j6 _ [some (.iJ ns),some (.int k0),none,none,none,none]
 unfold j6
 refine aR (fun ε'=>∃x0 x1 x2 x3 x4 x5 x6 x7:Int,(∀n∈[x0,x1,x2,x3,x4,x5,x6,x7],0<=n/\n<1000000007)/\ε'=[some (.iJ ns),some (.int k0),some (wI [x0,x1,x2,x3,x4,x5,x6,x7]),none,none,none]) (fun N hN=>?_) ?_
 ·walk_at "vs"
  refine⟨ns,_,rfl,fun z=>⟨z,8,rfl,by decide,by decide,fun xs hx hb=>?_⟩⟩
  obtain⟨x0,x1,x2,x3,x4,x5,x6,x7,rfl⟩:=Yg hx
  exact hN _ ⟨x0,x1,x2,x3,x4,x5,x6,x7,hb,rfl⟩
 rintro _ ⟨x0,x1,x2,x3,x4,x5,x6,x7,hb,rfl⟩
 refine aR (fun ε'=>ε'=[some (.iJ ns),some (.int k0),some (wI [x0,x1,x2,x3,x4,x5,x6,x7]),some (.lst []),none,none]) (fun N hN=>?_) ?_
 ·walk_at "vs"
  exact⟨ak (by simp),hN _ rfl⟩
 rintro _ rfl
 refine aR (fun ε'=>∃(a b c:List Rat) (o4 o5:Option W),(Rw 4 13 3 a/\a≠[]/\Rw 4 13 3 b/\b≠[]/\Rw 4 13 3 c/\c≠[])/\ε'=[some (.iJ ns),some (.int k0),some (wI [x0,x1,x2,x3,x4,x5,x6,x7]),some (.lst [af a,af b,af c]),o4,o5]) (fun N hN=>?_) ?_
 ·walk_at "vs"
  refine⟨by decide,by decide,?_⟩
  refine bX (fun i ε=>∃(rs:List (List Rat)) (o4 o5:Option W),(rs.length=i/\∀r∈rs,Rw 4 13 3 r/\r≠[])/\ε=[some (.iJ ns),some (.int k0),some (wI [x0,x1,x2,x3,x4,x5,x6,x7]),some (.lst (rs.map af)),o4,o5]) ⟨[],_,_,⟨rfl,fun r hr=>by cases hr⟩,rfl⟩ ?_ ?_
  ·rintro i w _ N2 hw ⟨rs,o4,o5,⟨hl,hr⟩,rfl⟩ JD
   obtain⟨hi,rfl⟩:=mJ hw
   have at1:∃y:Int,oG ([x0,x1,x2,x3,x4,x5,x6,x7].map W.int) (1+(i:Int))=some (.int y):=by
    have:i=0\/i=1\/i=2:=by lia
    rcases this with rfl|rfl|rfl
    ·exact⟨x1,rfl⟩
    ·exact⟨x2,rfl⟩
    ·exact⟨x3,rfl⟩
   obtain⟨y,hy⟩:=at1
   have nx:∀r:List Rat,Rw 4 13 3 r->r≠[]->N2 [some (.iJ ns),some (.int k0),some (wI [x0,x1,x2,x3,x4,x5,x6,x7]),some (.lst (rs.map af++[af r])),some (.int i),some (af r)]:=fun r h1 h2=>JD _ ⟨rs++[r],_,_,⟨by rw[FC,hl];rfl,fun q hq=>by
    rcases Hb.mp hq with h|h
    ·exact hr q h
    ·rw[Fm.mp h]
     exact⟨h1,h2⟩⟩,by rw[Pt];rfl⟩
   unfold wI at nx⊢
   walk_at "vs"
   refine⟨ns,_,rfl,fun z=>⟨_,rfl,?_⟩⟩
   walk_at "vs"
   refine⟨by decide,z,4,_,rfl,by decide,by decide,fun r lr br zr=>?_⟩
   have hrw:=rw_draw (DI x0) lr br zr
   refine⟨ak (by simp),iz (y:=[]) fun k hk=>?_⟩
   have sz:(rs.map af).length<sizeLine:=Bc (by rw[Ap,hl];lia)
   by_cases r0:r=[]
   ·cases cP hk r0
    walk_at "vs"
    refine⟨_,hy,?_⟩
    walk_at "vs"
    have h9:0<=y.fmod 9/\y.fmod 9<9:=⟨Int.fmod_nonneg_of_pos y (by decide),Int.fmod_lt_of_pos y (by decide)⟩
    obtain⟨e1,e2⟩:=Rz h9
    refine⟨by decide,ak (by simp),ak (by simp),sz,?_⟩
    have:=nx _ e2 (by simp)
    unfold af at this
    exact this
   ·cases bK hk r0
    walk_at "vs"
    exact⟨sz,nx r hrw r0⟩
  ·rintro _ ⟨rs,o4,o5,⟨hl,hr⟩,rfl⟩
   rw[Bx]at hl
   obtain⟨a,b,c,rfl⟩:=Lj hl
   exact hN _ ⟨a,b,c,o4,o5,⟨(hr a (by simp)).1,(hr a (by simp)).2,(hr b (by simp)).1,(hr b (by simp)).2,(hr c (by simp)).1,(hr c (by simp)).2⟩,rfl⟩
 rintro _ ⟨a,b,c,o4,o5,⟨ha,a0,hb2,b0,hc,c0⟩,rfl⟩
 refine aR (fun ε'=>∃a',(Rw 5 31 6 a'/\a'≠[])/\ε'=[some (.iJ ns),some (.int k0),some (wI [x0,x1,x2,x3,x4,x5,x6,x7]),some (.lst [af a',af b,af c]),o4,o5]) (fun N hN=>?_) ?_
 ·unfold wI at hN⊢
  walk_at "vs"
  refine⟨_,rfl,?_⟩
  walk_at "vs"
  refine⟨by decide,?_⟩
  by_cases h1:x4.fmod 3=1
  ·rw[Bz (IR h1)]
   obtain⟨a',ea,s,es,hs,hs2⟩:=LY a
   have sl:=hs.resolve_left a0
   have ha':Rw 2 13 3 a':=by
    obtain⟨l1,z1,D,d0,dk,cd⟩:=ha
    refine⟨by rw[es,List.length_drop];lia,fun y hy=>?_,D,d0,dk,fun y hy=>cd y (by rw[es]at hy;exact List.mem_of_mem_drop hy)⟩
    rw[es,List.getLast?_drop,Bi (by lia)]at hy
    exact z1 y hy
   have Yh:a'≠[]:=fun z=>by
    rw[es,List.drop_eq_nil_iff]at z
    lia
   refine⟨_,rfl,?_⟩
   unfold af
   walk_at "vs"
   rw[show∀K,JB (CE.int 2).neg (W.int (-2)) K=K (some (-2))from fun _=>rfl,ea]
   refine⟨_,rfl,IZ ha' hb2 (by decide) ⟨_,rfl,hN _ ⟨_,⟨rw_mul ha' hb2 (by decide),xh ha'.z Yh hb2.z b0⟩,rfl⟩⟩⟩
  ·rw[Bi (by rw[Ha];exact h1)]
   exact hN _ ⟨a,⟨ha.up (by decide) (by decide) (by decide),a0⟩,rfl⟩
 rintro _ ⟨a',⟨ha',Yh⟩,rfl⟩
 unfold wI
 walk_at "vs"
 refine⟨_,rfl,_,rfl,_,rfl,_,rfl,?_⟩
 walk_at "vs"
 refine⟨⟨by decide,by decide⟩,by decide,x5,x6,x7,_,rfl,hb x5 (by simp),hb x6 (by simp),hb x7 (by simp),fun r hr=>⟨ak (by simp),hq a' b c r ⟨ha',Yh,hb2,b0,hc,c0,LM hr (DI _)⟩⟩⟩
noncomputable def nK:List CS:=[.fr [1] true (.oz [(.int 0),(.int 60),(.int 4)]) [.rA [2,3] (.call 0 [(.var 0),(.var 1)]),.iff (.not (.call 1 [(.ix (.var 2) (.int 0)),(.ix (.var 2) (.int 1)),(.ix (.var 2) (.int 2)),(.var 3)])) [.ret (.bl false)] []],.ret (.bl true)]
theorem LZ{G:Nat->W}{m:Md}(ws:List W)(Q:W->Prop)(R:Addr->Prop)(h:Lr ws Q R):wSs (b7 [qO,nJ]) G nK (b8 m Q R) (au 4 ws):=by
 obtain⟨ns,rfl,_,hq⟩:=h
 show wSs _ _ nK _ [some (.iJ ns),none,none,none]
 unfold nK
 walk_at "vs"
 refine⟨15,⟨by decide,by decide,by decide,by decide⟩,?_⟩
 refine bX (fun i ε=>∃o1 o2 o3,ε=[some (.iJ ns),o1,o2,o3]) ⟨none,none,none,rfl⟩ ?_ ?_
 ·rintro i w _ N hw ⟨o1,o2,o3,rfl⟩ hN
  obtain⟨z,rfl⟩:=LX hw
  walk_at "vs"
  refine⟨ns,z,rfl,fun a b c x hh=>⟨rfl,?_⟩⟩
  walk_at "vs"
  refine⟨_,rfl,_,rfl,_,rfl,a,b,c,x,rfl,hh,?_⟩
  walk_at "vs"
  rw[Bi (by decide)]
  exact hN _ ⟨_,_,_,rfl⟩
 ·rintro _ ⟨o1,o2,o3,rfl⟩
  walk_at "vs"
  exact hq
end VL
namespace VL
open PySem PySem.Spec
open PyProof.Rows hiding St
open L2
noncomputable def Yi(P:Program)(w:World)(K:PySem.W.Frag)(mg:Str->Option Value)(base:Heap)(k:Nat):List Str->List Md->List bN->Prop
 |x::fn,m::md,S::Ss=>(∃fv n k',mg x=some fv/\eV P w K mg base k' fv n (cY K n m S)/\k'<=k/\∀ws P R,S ws P R->ws.length=n)/\Yi P w K mg base k fn md Ss
 |[],_,_=>True
 |_,_,_=>False
noncomputable def Yj(mg:Str->Option Value):List Str->Prop
 |[]=>True
 |x::zn=>mg x=none/\Yj mg zn
theorem Jb{mg:Str->Option Value}:∀{zn:List Str},Yj mg zn->∀x∈zn,mg x=none
 |y::zn,h,x,hx=>by
  rcases FV.mp hx with e|hx
  ·rw[e]
   exact h.1
  ·exact Jb h.2 x hx
theorem Jc{P:Program}{w:World}{K:PySem.W.Frag}{mg:Str->Option Value}{base:Heap}{k:Nat}:∀{fn:List Str} {md:List Md} {Ss:List bN},Yi P w K mg base k fn md Ss->∀(j:Nat) (x:Str),fn[j]?=some x->∃fv n k',mg x=some fv/\eV P w K mg base k' fv n (cY K n (bz md j) (b7 Ss j))/\k'<=k/\∀ws P R,b7 Ss j ws P R->ws.length=n
 |y::fn,m::md,S::Ss,h,0,x,e=>by
  cases e
  exact h.1
 |y::fn,m::md,S::Ss,h,j+1,x,e=>Jc (fn:=fn) h.2 j x e
 |[],_,_,_,j,x,e=>by cases e
 |_::_,[],_,h,_,_,_=>h.elim
 |_::_,_::_,[],h,_,_,_=>h.elim
theorem tab_of{P:Program}{w:World}{K:PySem.W.Frag}{mg:Str->Option Value}{base:Heap}{k:Nat}{fn zn:List Str}{md:List Md}{Ss:List bN}(h:Yi P w K mg base k fn md Ss)(z:Yj mg zn):Tab P w K mg base fn [] zn md [] (b7 Ss) (ou []) k:=
 ⟨fun j x e _=>Jc h j x e,fun _ _ _ _ h=>(by cases h),fun _ _ e=>(by simp at e),Jb z,rT K,fun _ _ _ e=>(by simp at e)⟩
end VL
namespace VH
open PySem PySem.Spec
open PyProof.Rows hiding St
open L2 VL Num
set_option genInjectivity false
set_option genSizeOf false
noncomputable def top(i:Nat):Stmt:=PySem.Challenge.pw_paperwright_k13_whole_resultants.main.body.getD i (.Pass ⟨0,0,0,0⟩)
abbrev zx:Stmt:=top 3
abbrev Jd:Stmt:=top 4
abbrev zy:Stmt:=top 6
abbrev j7:Stmt:=top 9
abbrev gQ:Stmt:=top 15
abbrev nM:Stmt:=top 16
abbrev Je:Stmt:=top 17
abbrev ja:Stmt:=top 19
abbrev gR:Stmt:=top 20
abbrev jb:Stmt:=top 21
abbrev j8:Stmt:=top 22
abbrev eH:Stmt:=top 23
abbrev dh:Stmt:=top 24
abbrev di:Stmt:=top 25
abbrev dj:Stmt:=top 26
abbrev cz:Stmt:=top 27
abbrev eK:Stmt:=top 28
abbrev fU:Stmt:=top 29
abbrev iC:Stmt:=inClass (top 31) 0
abbrev eN:Stmt:=inClass (top 31) 1
abbrev eO:Stmt:=inClass (top 31) 2
abbrev cA:Stmt:=inClass (top 31) 3
abbrev dw:Stmt:=top 32
abbrev dJ:Stmt:=top 34
abbrev fV:Stmt:=top 35
abbrev cJ:Stmt:=top 36
abbrev fW:Stmt:=top 38
abbrev jc:Stmt:=top 39
abbrev fX:Stmt:=top 40
abbrev sJ:Stmt:=top 42
abbrev nN:Stmt:=top 43
abbrev nO:Stmt:=top 44
abbrev j9:Stmt:=top 45
abbrev kg:Stmt:=top 46
abbrev s_row:Stmt:=top 47
abbrev nQ:Stmt:=top 48
abbrev sL:Stmt:=top 49
abbrev kj:Stmt:=top 50
abbrev nR:Stmt:=top 51
abbrev zA:Stmt:=top 52
theorem RA:ay ["one","other"] ["one","other"] (aa zx):=⟨rfl,rfl,rfl,by decide+kernel,rfl,by decide+kernel,by decide+kernel⟩
theorem Fj:ay ["number","exponent","power"] ["number","exponent"] (aa j7):=⟨rfl,rfl,rfl,by decide+kernel,rfl,by decide+kernel,by decide+kernel⟩
theorem zD:ay ["top","bottom","divisor"] ["top","bottom"] (aa gQ):=⟨rfl,rfl,rfl,by decide+kernel,rfl,by decide+kernel,by decide+kernel⟩
theorem Jf:ay ["one","other","top","bottom","other_top","other_bottom","first","second"] ["one","other"] (aa nM):=⟨rfl,rfl,rfl,by decide+kernel,rfl,by decide+kernel,by decide+kernel⟩
theorem BO:ay ["row","bottom","number","part"] ["row"] (aa ja):=⟨rfl,rfl,rfl,by decide+kernel,rfl,by decide+kernel,by decide+kernel⟩
theorem zE:ay ["numbers","bottom"] ["numbers","bottom"] (aa gR):=⟨rfl,rfl,rfl,by decide+kernel,rfl,by decide+kernel,by decide+kernel⟩
theorem BP:ay ["numbers","length"] ["numbers"] (aa jb):=⟨rfl,rfl,rfl,by decide+kernel,rfl,by decide+kernel,by decide+kernel⟩
theorem Fl:ay ["numbers","by"] ["numbers","by"] (aa j8):=⟨rfl,rfl,rfl,by decide+kernel,rfl,by decide+kernel,by decide+kernel⟩
theorem t7:ay ["one","other","length","told","place","number"] ["one","other"] (aa eH):=⟨rfl,rfl,rfl,by decide+kernel,rfl,by decide+kernel,by decide+kernel⟩
theorem sM:ay ["one","other"] ["one","other"] (aa dh):=⟨rfl,rfl,rfl,by decide+kernel,rfl,by decide+kernel,by decide+kernel⟩
theorem sN:ay ["one","other","told","place","number","further","factor"] ["one","other"] (aa di):=⟨rfl,rfl,rfl,by decide+kernel,rfl,by decide+kernel,by decide+kernel⟩
theorem sO:ay ["numbers","top","bottom","total","scale","number"] ["numbers","top","bottom"] (aa dj):=⟨rfl,rfl,rfl,by decide+kernel,rfl,by decide+kernel,by decide+kernel⟩
theorem pA:ay ["one","other","room","lead","rest","quotient","place","head","further","scale"] ["one","other"] (aa cz):=⟨rfl,rfl,rfl,by decide+kernel,rfl,by decide+kernel,by decide+kernel⟩
theorem t8:ay ["one","other","room","rest","quotient","place","head","further"] ["one","other"] (aa eK):=⟨rfl,rfl,rfl,by decide+kernel,rfl,by decide+kernel,by decide+kernel⟩
theorem xj:ay ["numbers","content","number"] ["numbers"] (aa fU):=⟨rfl,rfl,rfl,by decide+kernel,rfl,by decide+kernel,by decide+kernel⟩
theorem sP:ay ["self","one","other","factor"] ["self","one","other","factor"] (aa iC):=⟨rfl,rfl,rfl,by decide+kernel,rfl,by decide+kernel,by decide+kernel⟩
theorem t9:ay ["self","going"] ["self"] (aa eN):=⟨rfl,rfl,rfl,by decide+kernel,rfl,by decide+kernel,by decide+kernel⟩
theorem ua:ay ["self","quotient","rest","scale","factor","drop","known"] ["self"] (aa eO):=⟨rfl,rfl,rfl,by decide+kernel,rfl,by decide+kernel,by decide+kernel⟩
theorem pB:ay ["self","drop"] ["self"] (aa cA):=⟨rfl,rfl,rfl,by decide+kernel,rfl,by decide+kernel,by decide+kernel⟩
theorem sQ:ay ["height","lead","drop"] ["height","lead","drop"] (aa dw):=⟨rfl,rfl,rfl,by decide+kernel,rfl,by decide+kernel,by decide+kernel⟩
theorem pO:ay ["one","other","divisor","other_factor","factor","numbers","bottom","content","other_numbers","other_bottom","other_content","chain","left","lead"] ["one","other"] (aa dJ):=⟨rfl,rfl,rfl,by decide+kernel,rfl,by decide+kernel,by decide+kernel⟩
theorem xm:ay ["row","numbers","bottom","content"] ["row"] (aa fV):=⟨rfl,rfl,rfl,by decide+kernel,rfl,by decide+kernel,by decide+kernel⟩
theorem nS:ay ["one","other","degree","other_degree","top","bottom","numbers","content","other_numbers","other_bottom","other_content","chain"] ["one","other"] (aa cJ):=⟨rfl,rfl,rfl,by decide+kernel,rfl,by decide+kernel,by decide+kernel⟩
theorem xo:ay ["one","other","numbers","bottom","other_numbers","other_bottom"] ["one","other"] (aa fW):=⟨rfl,rfl,rfl,by decide+kernel,rfl,by decide+kernel,by decide+kernel⟩
theorem BQ:ay ["one","other","numbers","bottom","other_numbers","other_bottom","quotient","rest","scale"] ["one","other"] (aa jc):=⟨rfl,rfl,rfl,by decide+kernel,rfl,by decide+kernel,by decide+kernel⟩
theorem xq:ay ["row","at","numbers","bottom","top","part"] ["row","at"] (aa fX):=⟨rfl,rfl,rfl,by decide+kernel,rfl,by decide+kernel,by decide+kernel⟩
theorem L0:ay ["_law_script","_law_place"] ["_law_script","_law_place"] (aa sJ):=⟨rfl,rfl,rfl,by decide+kernel,rfl,by decide+kernel,by decide+kernel⟩
theorem Jg:ay ["_law_cell_here","_law_many","_law_rest","_law_one","_law_two","_law_found","_law_k","_law_number_here"] ["_law_cell_here","_law_many"] (aa nN):=⟨rfl,rfl,rfl,by decide+kernel,rfl,by decide+kernel,by decide+kernel⟩
theorem Jh:ay ["_law_one","_law_other"] ["_law_one","_law_other"] (aa nO):=⟨rfl,rfl,rfl,by decide+kernel,rfl,by decide+kernel,by decide+kernel⟩
theorem Fo:ay ["_law_top","_law_bottom","_law_share"] ["_law_top","_law_bottom"] (aa j9):=⟨rfl,rfl,rfl,by decide+kernel,rfl,by decide+kernel,by decide+kernel⟩
theorem Fq:ay ["_law_x","_law_y","_law_z","_law_kind","_law_top","_law_bottom"] ["_law_x","_law_y","_law_z","_law_kind"] (aa kg):=⟨rfl,rfl,rfl,by decide+kernel,rfl,by decide+kernel,by decide+kernel⟩
theorem RB:ay ["_law_cell_here","_law_most","_law_kind","_law_xs","_law_found","_law_k","_law_number_here"] ["_law_cell_here","_law_most","_law_kind"] (aa s_row):=⟨rfl,rfl,rfl,by decide+kernel,rfl,by decide+kernel,by decide+kernel⟩
theorem Ji:ay ["_law_number_here","_law_many","_law_found","_law_turn"] ["_law_number_here","_law_many"] (aa nQ):=⟨rfl,rfl,rfl,by decide+kernel,rfl,by decide+kernel,by decide+kernel⟩
theorem L1:ay ["_law_script","_law_at","_law_xs","_law_found","_law_k","_law_row_here"] ["_law_script","_law_at"] (aa sL):=⟨rfl,rfl,rfl,by decide+kernel,rfl,by decide+kernel,by decide+kernel⟩
theorem Ft:ay ["_law_one","_law_other","_law_rest"] ["_law_one","_law_other"] (aa kj):=⟨rfl,rfl,rfl,by decide+kernel,rfl,by decide+kernel,by decide+kernel⟩
theorem Jj:ay ["_law_one","_law_other","_law_third","_law_number_here","_law_found","_law_sign"] ["_law_one","_law_other","_law_third","_law_number_here"] (aa nR):=⟨rfl,rfl,rfl,by decide+kernel,rfl,by decide+kernel,by decide+kernel⟩
theorem RC:ay ["_law_script","_law_at","_law_rows_here","_law_number_here"] ["_law_script"] (aa zA):=⟨rfl,rfl,rfl,by decide+kernel,rfl,by decide+kernel,by decide+kernel⟩
structure Tx(K:PySem.W.Frag)(mg:Str->Option Value)where
 ai:Addr
 jn:Hc K mg "Chain" ai ["ahead","last","factor_ahead","factor_last","lead","height","sign","scale","known"]
 Nq:Addr
 Nr:FuncData
 zG:Df K mg "gcd" zx ["one","other"] Nq Nr
 RD:Addr
 RE:FuncData
 RG:Df K mg "turn" Jd ["one","other"] RD RE
 Jk:Addr
 Jl:FuncData
 Jm:Df K mg "turned" zy ["by","one","other"] Jk Jl
 zH:Addr
 zI:FuncData
 ko:Df K mg "raised" j7 ["number","exponent"] zH zI
 sR:Addr
 sU:FuncData
 jo:Df K mg "fraction" gQ ["top","bottom"] sR sU
 DJ:Addr
 DK:FuncData
 qP:Df K mg "times" nM ["one","other"] DJ DK
 RH:Addr
 RJ:FuncData
 RK:Df K mg "over" Je ["one","other"] RH RJ
 uT:Addr
 uU:FuncData
 jd:Df K mg "cleared" ja ["row"] uT uU
 sW:Addr
 sX:FuncData
 jq:Df K mg "row_over" gR ["numbers","bottom"] sW sX
 uV:Addr
 uW:FuncData
 kO:Df K mg "trimmed" jb ["numbers"] uV uW
 zJ:Addr
 zK:FuncData
 je:Df K mg "scaled" j8 ["numbers","by"] zJ zK
 nT:Addr
 nU:FuncData
 nV:Df K mg "whole_plus" eH ["one","other"] nT nU
 lC:Addr
 lD:FuncData
 iD:Df K mg "whole_minus" dh ["one","other"] lC lD
 lE:Addr
 lH:FuncData
 fE:Df K mg "whole_times" di ["one","other"] lE lH
 lI:Addr
 lJ:FuncData
 lK:Df K mg "whole_value" dj ["numbers","top","bottom"] lI lJ
 jA:Addr
 jB:FuncData
 gh:Df K mg "whole_divided" cz ["one","other"] jA jB
 nW:Addr
 nX:FuncData
 nY:Df K mg "whole_over" eK ["one","other"] nW nX
 pP:Addr
 pQ:FuncData
 pR:Df K mg "shortened" fU ["numbers"] pP pQ
 lM:Addr
 lN:FuncData
 fF:Dm K ai "__init__" "Chain.__init__" iC ["self","one","other","factor"] lM lN
 nZ:Addr
 n6:FuncData
 jr:Dm K ai "walk" "Chain.walk" eN ["self"] nZ n6
 n8:Addr
 n9:FuncData
 oh:Dm K ai "step" "Chain.step" eO ["self"] n8 n9
 jC:Addr
 jD:FuncData
 jE:Dm K ai "outcome" "Chain.outcome" cA ["self"] jC jD
 lO:Addr
 lP:FuncData
 iE:Df K mg "next_height" dw ["height","lead","drop"] lO lP
 jt:Addr
 ju:FuncData
 gS:Df K mg "greatest" dJ ["one","other"] jt ju
 pS:Addr
 pU:FuncData
 kq:Df K mg "primitive" fV ["row"] pS pU
 g8:Addr
 g9:FuncData
 dO:Df K mg "resultant" cJ ["one","other"] g8 g9
 pV:Addr
 pW:FuncData
 kr:Df K mg "row_times" fW ["one","other"] pV pW
 uX:Addr
 uY:FuncData
 uZ:Df K mg "divided" jc ["one","other"] uX uY
 pX:Addr
 pY:FuncData
 pZ:Df K mg "row_value" fX ["row","at"] pX pY
 Jo:Addr
 Jp:FuncData
 Jq:Df K mg "_law_cell" sJ ["_law_script","_law_place"] Jo Jp
 DM:Addr
 DN:FuncData
 xr:Df K mg "_law_drawn" nN ["_law_cell_here","_law_many"] DM DN
 DO:Addr
 DP:FuncData
 DR:Df K mg "_law_gcd" nO ["_law_one","_law_other"] DO DP
 zM:Addr
 zN:FuncData
 zO:Df K mg "_law_lowest" j9 ["_law_top","_law_bottom"] zM zN
 zP:Addr
 zQ:FuncData
 sY:Df K mg "_law_number" kg ["_law_x","_law_y","_law_z","_law_kind"] zP zQ
 Nt:Addr
 Nu:FuncData
 Nv:Df K mg "_law_row" s_row ["_law_cell_here","_law_most","_law_kind"] Nt Nu
 DS:Addr
 DT:FuncData
 xu:Df K mg "_law_power" nQ ["_law_number_here","_law_many"] DS DT
 Jr:Addr
 Js:FuncData
 Jt:Df K mg "_law_rows" sL ["_law_script","_law_at"] Jr Js
 zU:Addr
 zV:FuncData
 zX:Df K mg "_law_rested" kj ["_law_one","_law_other"] zU zV
 DU:Addr
 DV:FuncData
 DW:Df K mg "_law_right" nR ["_law_one","_law_other","_law_third","_law_number_here"] DU DV
 Nx:Addr
 Ny:FuncData
 Vx:Df K mg "law" zA ["_law_script"] Nx Ny
 sZ:mg "abs"=none
 dP:mg "enumerate"=none
 eS:mg "len"=none
 ku:mg "list"=none
 u5:mg "max"=none
 eU:mg "range"=none
 gU:mg "reversed"=none
 zY:mg "sum"=none
 RM:∃u,mg "LONG"=some u/\RelV (.int 6000) u
section
variable{P:Program}{w:World}{K:PySem.W.Frag}{mg:Str->Option Value}{base:Heap}
theorem Vy:aK ⟨["one","other"],(aa zx).names,[],["turned","turn"],["LONG"],["abs"],[.s,.s],[]⟩ (bz [.s,.s]) .s yO (ah zx)=true:=by decide+kernel
theorem Vz(T:Tx K mg):Tab P w K mg base ["turned","turn"] ["LONG"] ["abs"] [.s,.s] [] (b7 [Sk,Sk]) (ou [(.int 6000)]) 1:=by
 refine⟨fun j x e h=>?_,fun j g x e h=>?_,fun j x e=>?_,?_,rT K,fun j x C e h=>?_⟩
 ·match j,e with
  |0,e=>cases e;exact T.Jm.cD (m:=.s) (yE (k:=1)) rfl (by walk_at "len_of") (by decide)
  |1,e=>cases e;exact T.RG.cD (m:=.s) (yE (k:=1)) rfl (by walk_at "len_of") (by decide)
  |_+2,e=>simp at e
 ·cases h
 ·match j,e with
  |0,e=>cases e;obtain⟨u,h1,h2⟩:=T.RM;exact⟨u,_,h1,h2,fun _ _=>by show Rep _ _ _ (.int 6000) _;rw[Rep]⟩
  |_+1,e=>simp at e
 ·intro x h
  simp only[FV,QQ,or_false]at h
  rcases h with rfl
  ·exact T.sZ
 ·match j,e with
  |0,e=>cases h
  |_+1,e=>simp at e
theorem DX(T:Tx K mg):aH P w K mg base (cL P w) 2 T.Nq T.Nr ["one","other"] (cY K 2 .s Bo):=
 aL T.zG.F RA (Vz T) yO [] .s Bo (by decide) (by decide) rfl Vy (by walk_at "len_of") Vb
theorem Ju:aK ⟨["number","exponent","power"],(aa j7).names,[],[],[],[],[],[]⟩ (bz []) .s jV (ah j7)=true:=by decide+kernel
theorem oi(T:Tx K mg):aH P w K mg base (cL P w) 1 T.zH T.zI ["number","exponent"] (cY K 2 .s ee):=
 aL T.ko.F Fj (tab_of (k:=0) (Ss:=[]) (by exact trivial) (by exact trivial)) jV [] .s ee (by decide) (by decide) rfl Ju (by walk_at "len_of") Ih
theorem BR:aK ⟨["top","bottom","divisor"],(aa gQ).names,[],["gcd"],[],[],[.s],[]⟩ (bz [.s]) .s gI (ah gQ)=true:=by decide+kernel
theorem mQ(T:Tx K mg):aH P w K mg base (cL P w) 3 T.sR T.sU ["top","bottom"] (cY K 2 .s dN):=
 aL T.jo.F zD (tab_of (k:=2) (by exact⟨T.zG.cD (m:=.s) (DX T) rfl (by walk_at "len_of") (by decide),trivial⟩) (by exact trivial)) gI [] .s dN (by decide) (by decide) rfl BR (by walk_at "len_of") Bp
theorem L3:aK ⟨["one","other","top","bottom","other_top","other_bottom","first","second"],(aa nM).names,[],["gcd"],[],[],[.s],[]⟩ (bz [.s]) .s nA (ah nM)=true:=by decide+kernel
theorem xw(T:Tx K mg):aH P w K mg base (cL P w) 3 T.DJ T.DK ["one","other"] (cY K 2 .s oZ):=
 aL T.qP.F Jf (tab_of (k:=2) (by exact⟨T.zG.cD (m:=.s) (DX T) rfl (by walk_at "len_of") (by decide),trivial⟩) (by exact trivial)) nA [] .s oZ (by decide) (by decide) rfl L3 (by walk_at "len_of") LH
theorem Fv:aK ⟨["row","bottom","number","part"],(aa ja).names,[],["gcd"],[],[],[.s],[]⟩ (bz [.s]) .s iY (ah ja)=true:=by decide+kernel
theorem kP(T:Tx K mg):aH P w K mg base (cL P w) 3 T.uT T.uU ["row"] (cY K 1 .s gJ):=
 aL T.jd.F BO (tab_of (k:=2) (by exact⟨T.zG.cD (m:=.s) (DX T) rfl (by walk_at "len_of") (by decide),trivial⟩) (by exact trivial)) iY [] .s gJ (by decide) (by decide) rfl Fv (by walk_at "len_of") E8
theorem Fw:aK ⟨["numbers","length"],(aa jb).names,[],[],[],["len"],[],[]⟩ (bz []) .f iT (ah jb)=true:=by decide+kernel
theorem pC(T:Tx K mg):aH P w K mg base (cL P w) 1 T.uV T.uW ["numbers"] (cY K 1 .f iU):=
 aL T.kO.F BP (tab_of (k:=0) (Ss:=[]) (by exact trivial) (by exact⟨T.eS,trivial⟩)) iT [] .f iU (by decide) (by decide) rfl Fw (by walk_at "len_of") E4
theorem BS:aK ⟨["numbers","bottom"],(aa gR).names,[],["trimmed","fraction"],[],[],[.f,.s],[]⟩ (bz [.f,.s]) .f gK (ah gR)=true:=by decide+kernel
theorem mR(T:Tx K mg):aH P w K mg base (cL P w) 4 T.sW T.sX ["numbers","bottom"] (cY K 2 .f fh):=
 aL T.jq.F zE (tab_of (k:=3) (by exact⟨T.kO.cD (m:=.f) (pC T) rfl (by walk_at "len_of") (by decide),T.jo.cD (m:=.s) (mQ T) rfl (by walk_at "len_of") (by decide),trivial⟩) (by exact trivial)) gK [] .f fh (by decide) (by decide) rfl BS (by walk_at "len_of") Bw
theorem Jv:aK ⟨["numbers","by"],(aa j8).names,[],[],[],[],[],[]⟩ (bz []) .f jS (ah j8)=true:=by decide+kernel
theorem kC(T:Tx K mg):aH P w K mg base (cL P w) 1 T.zJ T.zK ["numbers","by"] (cY K 2 .f gk):=
 aL T.je.F Fl (tab_of (k:=0) (Ss:=[]) (by exact trivial) (by exact trivial)) jS [] .f gk (by decide) (by decide) rfl Jv (by walk_at "len_of") HV
theorem xx:aK ⟨["one","other","length","told","place","number"],(aa eH).names,[(3,.f)],["trimmed"],[],["max","len","list","enumerate"],[.f],[]⟩ (bz [.f]) .f dZ (ah eH)=true:=by decide+kernel
theorem xy(T:Tx K mg):aH P w K mg base (cL P w) 2 T.nT T.nU ["one","other"] (cY K 2 .f g6):=
 aL T.nV.F t7 (tab_of (k:=1) (by exact⟨T.kO.cD (m:=.f) (pC T) rfl (by walk_at "len_of") (by decide),trivial⟩) (by exact⟨T.u5,T.eS,T.ku,T.dP,trivial⟩)) dZ [(3,.f)] .f g6 (by decide) (by decide) rfl xx (by walk_at "len_of") wj
theorem uc:aK ⟨["one","other"],(aa dh).names,[],["whole_plus","scaled"],[],[],[.f,.f],[]⟩ (bz [.f,.f]) .f c6 (ah dh)=true:=by decide+kernel
theorem lS(T:Tx K mg):aH P w K mg base (cL P w) 3 T.lC T.lD ["one","other"] (cY K 2 .f cT):=
 aL T.iD.F sM (tab_of (k:=2) (by exact⟨T.nV.cD (m:=.f) (xy T) rfl (by walk_at "len_of") (by decide),T.je.cD (m:=.f) (kC T) rfl (by walk_at "len_of") (by decide),trivial⟩) (by exact trivial)) c6 [] .f cT (by decide) (by decide) rfl uc (by walk_at "len_of") tX
theorem ud:aK ⟨["one","other","told","place","number","further","factor"],(aa di).names,[(2,.f)],[],[],["len","enumerate"],[],[]⟩ (bz []) .f c7 (ah di)=true:=by decide+kernel
theorem iF(T:Tx K mg):aH P w K mg base (cL P w) 1 T.lE T.lH ["one","other"] (cY K 2 .f b9):=
 aL T.fE.F sN (tab_of (k:=0) (Ss:=[]) (by exact trivial) (by exact⟨T.eS,T.dP,trivial⟩)) c7 [(2,.f)] .f b9 (by decide) (by decide) rfl ud (by walk_at "len_of") tY
theorem qu:aK ⟨["one","other","room","lead","rest","quotient","place","head","further","scale"],(aa cz).names,[(4,.f),(5,.f)],["scaled","trimmed"],[],["max","len","list","range"],[.f,.f],[]⟩ (bz [.f,.f]) .s cu (ah cz)=true:=by decide+kernel
theorem jF(T:Tx K mg):aH P w K mg base (cL P w) 2 T.jA T.jB ["one","other"] (cY K 2 .s cH):=
 aL T.gh.F pA (tab_of (k:=1) (by exact⟨T.je.cD (m:=.f) (kC T) rfl (by walk_at "len_of") (by decide),T.kO.cD (m:=.f) (pC T) rfl (by walk_at "len_of") (by decide),trivial⟩) (by exact⟨T.u5,T.eS,T.ku,T.eU,trivial⟩)) cu [(4,.f),(5,.f)] .s cH (by decide) (by decide) rfl qu (by walk_at "len_of") qo
theorem xA:aK ⟨["one","other","room","rest","quotient","place","head","further"],(aa eK).names,[(3,.f),(4,.f)],[],[],["len","list","range"],[],[]⟩ (bz []) .f ek (ah eK)=true:=by decide+kernel
theorem xB(T:Tx K mg):aH P w K mg base (cL P w) 1 T.nW T.nX ["one","other"] (cY K 2 .f fO):=
 aL T.nY.F t8 (tab_of (k:=0) (Ss:=[]) (by exact trivial) (by exact⟨T.eS,T.ku,T.eU,trivial⟩)) ek [(3,.f),(4,.f)] .f fO (by decide) (by decide) rfl xA (by walk_at "len_of") wD
theorem z3:aK ⟨["numbers","content","number"],(aa fU).names,[],["gcd"],[],["list"],[.s],[]⟩ (bz [.s]) .s fM (ah fU)=true:=by decide+kernel
theorem z4(T:Tx K mg):aH P w K mg base (cL P w) 3 T.pP T.pQ ["numbers"] (cY K 1 .s jk):=
 aL T.pR.F xj (tab_of (k:=2) (by exact⟨T.zG.cD (m:=.s) (DX T) rfl (by walk_at "len_of") (by decide),trivial⟩) (by exact⟨T.ku,trivial⟩)) fM [] .s jk (by decide) (by decide) rfl z3 (by walk_at "len_of") yU
theorem ue:aK ⟨["height","lead","drop"],(aa dw).names,[],["raised"],[],[],[.s],[]⟩ (bz [.s]) .s c8 (ah dw)=true:=by decide+kernel
theorem lU(T:Tx K mg):aH P w K mg base (cL P w) 2 T.lO T.lP ["height","lead","drop"] (cY K 3 .s ef):=
 aL T.iE.F sQ (tab_of (k:=1) (by exact⟨T.ko.cD (m:=.s) (oi T) rfl (by walk_at "len_of") (by decide),trivial⟩) (by exact trivial)) c8 [] .s ef (by decide) (by decide) rfl ue (by walk_at "len_of") tZ
theorem z5:aK ⟨["row","numbers","bottom","content"],(aa fV).names,[],["cleared","shortened"],[],[],[.s,.s],[]⟩ (bz [.s,.s]) .s fN (ah fV)=true:=by decide+kernel
theorem p8(T:Tx K mg):aH P w K mg base (cL P w) 4 T.pS T.pU ["row"] (cY K 1 .s cE):=
 aL T.kq.F xm (tab_of (k:=3) (by exact⟨T.jd.cD (m:=.s) (kP T) rfl (by walk_at "len_of") (by decide),T.pR.cD (m:=.s) (z4 T) rfl (by walk_at "len_of") (by decide),trivial⟩) (by exact trivial)) fN [] .s cE (by decide) (by decide) rfl z5 (by walk_at "len_of") yV
theorem uf(T:Tx K mg):aH P w K mg base (cL P w) 1 T.lM T.lN ["self","one","other","factor"] (IF T.ai):=by
 have cl:=T.jn.ok.1
 have na:=T.jn.ok.2.2.2
 refine T.fF.F.WL sP (fun vs H Q E h=>?_) (fun cdv A outer s H vs Q E hr h=>?_)
 ·obtain⟨x,dx,p1,p2,p3,rfl,_⟩:=h
  rfl
 obtain⟨x,dx,p1,p2,p3,rfl,hx,q⟩:=h
 refine⟨_,(@dS _ _ _ _ _ (ia (pv 0) (pv 1) rfl)
  (@dS _ _ _ _ _ (ia (pv 0) (pv 2) rfl)
  (@dS _ _ _ _ _ (ia (pv 0) (pv 3) rfl)
  (@dS _ _ _ _ _ (ia (pv 0) (Gb gc) rfl)
  (@dS _ _ _ _ _ (ia (pv 0) lV rfl)
  (@dS _ _ _ _ _ (ia (pv 0) lV rfl)
  (@dS _ _ _ _ _ (ia (pv 0) lV rfl)
  (@dS _ _ _ _ _ (ia (pv 0) lV rfl)
  (B9 (ia (pv 0) lV rfl)))))))))),?_⟩
 refine⟨_,rfl,_,rfl,x,T.ai,dx,_,rfl,hx,cl,na "ahead" (by decide),by show 0<1000;decide,?_⟩
 refine⟨_,rfl,_,rfl,x,T.ai,dx,_,rfl,aE,cl,na "last" (by decide),by show 1<1000;decide,?_⟩
 refine⟨_,rfl,_,rfl,x,T.ai,dx,_,rfl,aE,cl,na "factor_ahead" (by decide),by show 2<1000;decide,?_⟩
 refine⟨ux (by simp),fun p4 Sq=>?_⟩
 have nx:p4≠x:=fun e=>by
  rw[e,aE]at Sq
  cases Sq
 refine⟨_,rfl,x,T.ai,dx,_,rfl,Gr aE Sq,cl,na "factor_last" (by decide),by show 3<1000;decide,?_⟩
 refine⟨_,rfl,x,T.ai,dx,_,rfl,aE,cl,na "lead" (by decide),by show 4<1000;decide,?_⟩
 refine⟨_,rfl,x,T.ai,dx,_,rfl,aE,cl,na "height" (by decide),by show 5<1000;decide,?_⟩
 refine⟨_,rfl,x,T.ai,dx,_,rfl,aE,cl,na "sign" (by decide),by show 6<1000;decide,?_⟩
 refine⟨_,rfl,x,T.ai,dx,_,rfl,aE,cl,na "scale" (by decide),by show 7<1000;decide,?_⟩
 refine⟨_,rfl,x,T.ai,dx,_,rfl,aE,cl,na "known" (by decide),by show 8<1000;decide,?_⟩
 rw[ao nx,ao nx,ao nx]at Sq
 refine q p4 _ (fun b o hb ho=>?_) Sq ?_ aE
 ·have hb4:b≠p4:=aT ho Sq
  rw[ao hb,ao hb,ao hb,ao hb,ao hb,ao hb,ao hb4,ao hb,ao hb,ao hb]
  exact ho
 ·rw[ao nx,ao nx,ao nx,ao nx,ao nx,ao nx,aE]
theorem DY(T:Tx K mg):eV P w K mg base 2 (.ref T.ai) 3 (cY K 3 (.o Vh [.s,.s,.s,.s,.s,.s,.s,.s,.s]) (mO T.ai)):=
 BE T.jn.ok ⟨T.jn.mks,T.fF.M.1,T.fF.M.fn,T.jn.kp⟩ T.fF.b (uf T)
theorem xC:aK ⟨["self","quotient","rest","scale","factor","drop","known"],(aa eO).names,[(0,(.o ["ahead","last","factor_ahead","factor_last","lead","height","sign","scale","known"] [.s,.s,.s,.s,.s,.s,.s,.s,.s]))],["whole_divided","whole_minus","scaled","whole_times","raised","next_height"],[],["len"],[.s,.f,.f,.f,.s,.s],[]⟩ (bz [.s,.f,.f,.f,.s,.s]) (.io (.o ["ahead","last","factor_ahead","factor_last","lead","height","sign","scale","known"] [.s,.s,.s,.s,.s,.s,.s,.s,.s])) eu (ah eO)=true:=by decide+kernel
theorem xD(T:Tx K mg):aH P w K mg base (cL P w) 4 T.n8 T.n9 ["self"] (cY K 1 (.io (.o ["ahead","last","factor_ahead","factor_last","lead","height","sign","scale","known"] [.s,.s,.s,.s,.s,.s,.s,.s,.s])) (yY T.ai)):=
 vR T.oh.F ua (tab_of (k:=3) (by exact⟨T.gh.cD (m:=.s) (jF T) rfl (by walk_at "len_of") (by decide),T.iD.cD (m:=.f) (lS T) rfl (by walk_at "len_of") (by decide),T.je.cD (m:=.f) (kC T) rfl (by walk_at "len_of") (by decide),T.fE.cD (m:=.f) (iF T) rfl (by walk_at "len_of") (by decide),T.ko.cD (m:=.s) (oi T) rfl (by walk_at "len_of") (by decide),T.iE.cD (m:=.s) (lU T) rfl (by walk_at "len_of") (by decide),trivial⟩) (by exact⟨T.eS,trivial⟩)) eu [(0,(.o ["ahead","last","factor_ahead","factor_last","lead","height","sign","scale","known"] [.s,.s,.s,.s,.s,.s,.s,.s,.s]))] (.o ["ahead","last","factor_ahead","factor_last","lead","height","sign","scale","known"] [.s,.s,.s,.s,.s,.s,.s,.s,.s]) (yY T.ai) (by decide) (by decide) (by decide) (by decide) xC (by walk_at "len_of") wH
theorem xE:aK ⟨["self","going"],(aa eN).names,[(0,(.o ["ahead","last","factor_ahead","factor_last","lead","height","sign","scale","known"] [.s,.s,.s,.s,.s,.s,.s,.s,.s]))],["step"],[],["len"],[(.io (.o ["ahead","last","factor_ahead","factor_last","lead","height","sign","scale","known"] [.s,.s,.s,.s,.s,.s,.s,.s,.s]))],[(0,0)]⟩ (bz [(.io (.o ["ahead","last","factor_ahead","factor_last","lead","height","sign","scale","known"] [.s,.s,.s,.s,.s,.s,.s,.s,.s]))]) (.io (.o ["ahead","last","factor_ahead","factor_last","lead","height","sign","scale","known"] [.s,.s,.s,.s,.s,.s,.s,.s,.s])) eE (ah eN)=true:=by decide+kernel
theorem xF(T:Tx K mg):Tab P w K mg base ["step"] [] ["len"] [(.io (.o ["ahead","last","factor_ahead","factor_last","lead","height","sign","scale","known"] [.s,.s,.s,.s,.s,.s,.s,.s,.s]))] [(0,0)] (b7 [(yY T.ai)]) (ou [(.cls T.ai)]) 4:=by
 refine⟨fun j x e h=>?_,fun j g x e h=>?_,fun j x e=>?_,?_,rT K,fun j x C e h=>?_⟩
 ·match j,e with
  |0,e=>cases h
  |_+1,e=>simp at e
 ·simp only[FV,QQ,or_false,Prod.mk.injEq]at h
  rcases h with⟨rfl,rfl⟩
  ·cases e;exact T.oh.cD (m:=(.io (.o ["ahead","last","factor_ahead","factor_last","lead","height","sign","scale","known"] [.s,.s,.s,.s,.s,.s,.s,.s,.s]))) (xD T) (by walk_at "len_of") (by decide) rfl
 ·match j,e with
  |_+0,e=>simp at e
 ·intro x h
  simp only[FV,QQ,or_false]at h
  rcases h with rfl
  ·exact T.eS
 ·match j,e with
  |_+0,e=>simp at e
theorem oj(T:Tx K mg):aH P w K mg base (cL P w) 5 T.nZ T.n6 ["self"] (cY K 1 (.io (.o ["ahead","last","factor_ahead","factor_last","lead","height","sign","scale","known"] [.s,.s,.s,.s,.s,.s,.s,.s,.s])) (pM T.ai)):=
 vR T.jr.F t9 (xF T) eE [(0,(.o ["ahead","last","factor_ahead","factor_last","lead","height","sign","scale","known"] [.s,.s,.s,.s,.s,.s,.s,.s,.s]))] (.o ["ahead","last","factor_ahead","factor_last","lead","height","sign","scale","known"] [.s,.s,.s,.s,.s,.s,.s,.s,.s]) (pM T.ai) (by decide) (by decide) (by decide) (by decide) xE (by walk_at "len_of") wJ
theorem z6:aK ⟨["one","other","divisor","other_factor","factor","numbers","bottom","content","other_numbers","other_bottom","other_content","chain","left","lead"],(aa dJ).names,[(11,(.o ["ahead","last","factor_ahead","factor_last","lead","height","sign","scale","known"] [.s,.s,.s,.s,.s,.s,.s,.s,.s]))],["greatest","over","primitive","Chain","walk","whole_minus","whole_times","whole_over","row_over","scaled"],[],["len"],[.s,.s,.s,(.o ["ahead","last","factor_ahead","factor_last","lead","height","sign","scale","known"] [.s,.s,.s,.s,.s,.s,.s,.s,.s]),(.io (.o ["ahead","last","factor_ahead","factor_last","lead","height","sign","scale","known"] [.s,.s,.s,.s,.s,.s,.s,.s,.s])),.f,.f,.f,.f,.f],[(4,0)]⟩ (bz [.s,.s,.s,(.o ["ahead","last","factor_ahead","factor_last","lead","height","sign","scale","known"] [.s,.s,.s,.s,.s,.s,.s,.s,.s]),(.io (.o ["ahead","last","factor_ahead","factor_last","lead","height","sign","scale","known"] [.s,.s,.s,.s,.s,.s,.s,.s,.s])),.f,.f,.f,.f,.f]) (.t [.f,.f,.f]) j5 (ah dJ)=true:=by decide+kernel
theorem z7(T:Tx K mg):Tab P w K mg base ["greatest","over","primitive","Chain","walk","whole_minus","whole_times","whole_over","row_over","scaled"] [] ["len"] [.s,.s,.s,(.o ["ahead","last","factor_ahead","factor_last","lead","height","sign","scale","known"] [.s,.s,.s,.s,.s,.s,.s,.s,.s]),(.io (.o ["ahead","last","factor_ahead","factor_last","lead","height","sign","scale","known"] [.s,.s,.s,.s,.s,.s,.s,.s,.s])),.f,.f,.f,.f,.f] [(4,0)] (b7 [Sk,Sk,cE,(mO T.ai),(pM T.ai),cT,b9,fO,fh,gk]) (ou [(.cls T.ai)]) 5:=by
 refine⟨fun j x e h=>?_,fun j g x e h=>?_,fun j x e=>?_,?_,rT K,fun j x C e h=>?_⟩
 ·match j,e with
  |0,e=>cases e;exact T.gS.cD (m:=.s) (yE (k:=1)) rfl (by walk_at "len_of") (by decide)
  |1,e=>cases e;exact T.RK.cD (m:=.s) (yE (k:=1)) rfl (by walk_at "len_of") (by decide)
  |2,e=>cases e;exact T.kq.cD (m:=.s) (p8 T) rfl (by walk_at "len_of") (by decide)
  |3,e=>cases e;exact⟨_,_,2,T.jn.c,DY T,by decide,by walk_at "len_of"⟩
  |4,e=>cases h
  |5,e=>cases e;exact T.iD.cD (m:=.f) (lS T) rfl (by walk_at "len_of") (by decide)
  |6,e=>cases e;exact T.fE.cD (m:=.f) (iF T) rfl (by walk_at "len_of") (by decide)
  |7,e=>cases e;exact T.nY.cD (m:=.f) (xB T) rfl (by walk_at "len_of") (by decide)
  |8,e=>cases e;exact T.jq.cD (m:=.f) (mR T) rfl (by walk_at "len_of") (by decide)
  |9,e=>cases e;exact T.je.cD (m:=.f) (kC T) rfl (by walk_at "len_of") (by decide)
  |_+10,e=>simp at e
 ·simp only[FV,QQ,or_false,Prod.mk.injEq]at h
  rcases h with⟨rfl,rfl⟩
  ·cases e;exact T.jr.cD (m:=(.io (.o ["ahead","last","factor_ahead","factor_last","lead","height","sign","scale","known"] [.s,.s,.s,.s,.s,.s,.s,.s,.s]))) (oj T) (by walk_at "len_of") (by decide) rfl
 ·match j,e with
  |_+0,e=>simp at e
 ·intro x h
  simp only[FV,QQ,or_false]at h
  rcases h with rfl
  ·exact T.eS
 ·match j,e with
  |_+0,e=>simp at e
theorem p9(T:Tx K mg):aH P w K mg base (cL P w) 6 T.jt T.ju ["one","other"] (cY K 2 (.t [.f,.f,.f]) gP):=
 aL T.gS.F pO (z7 T) j5 [(11,(.o ["ahead","last","factor_ahead","factor_last","lead","height","sign","scale","known"] [.s,.s,.s,.s,.s,.s,.s,.s,.s]))] (.t [.f,.f,.f]) gP (by decide) (by decide) rfl z6 pN Fe
theorem z8:aK ⟨["one","other","divisor","other_factor","factor","numbers","bottom","content","other_numbers","other_bottom","other_content","chain","left","lead"],(aa dJ).names,[(2,.f),(3,.f),(4,.f)],["greatest"],[],["len"],[(.t [.f,.f,.f])],[]⟩ (bz [(.t [.f,.f,.f])]) (.t [.f,.f,.f]) i7 (ah dJ)=true:=by decide+kernel
theorem z9(T:Tx K mg):aH P w K mg base (cL P w) 7 T.jt T.ju ["one","other"] (cY K 2 (.t [.f,.f,.f]) i8):=
 aL T.gS.F pO (tab_of (k:=6) (by exact⟨T.gS.cD (m:=(.t [.f,.f,.f])) (p9 T) rfl pN (by decide),trivial⟩) (by exact⟨T.eS,trivial⟩)) i7 [(2,.f),(3,.f),(4,.f)] (.t [.f,.f,.f]) i8 (by decide) (by decide) rfl z8 zw Ff
theorem BU(T:Tx K mg):aH P w K mg base (cL P w) 7 T.jt T.ju ["one","other"] (cY K 2 (.t [.f,.f,.f]) nI):=
 Fg (p9 T) (z9 T) (by decide) (by decide)
theorem qv:aK ⟨["self","drop"],(aa cA).names,[(0,(.o ["ahead","last","factor_ahead","factor_last","lead","height","sign","scale","known"] [.s,.s,.s,.s,.s,.s,.s,.s,.s]))],["next_height"],[],["len"],[.s],[]⟩ (bz [.s]) (.io (.o ["ahead","last","factor_ahead","factor_last","lead","height","sign","scale","known"] [.s,.s,.s,.s,.s,.s,.s,.s,.s])) cy (ah cA)=true:=by decide+kernel
theorem qw(T:Tx K mg):aH P w K mg base (cL P w) 3 T.jC T.jD ["self"] (cY K 1 (.io (.o ["ahead","last","factor_ahead","factor_last","lead","height","sign","scale","known"] [.s,.s,.s,.s,.s,.s,.s,.s,.s])) (i6 T.ai)):=
 vR T.jE.F pB (tab_of (k:=2) (by exact⟨T.iE.cD (m:=.s) (lU T) rfl (by walk_at "len_of") (by decide),trivial⟩) (by exact⟨T.eS,trivial⟩)) cy [(0,(.o ["ahead","last","factor_ahead","factor_last","lead","height","sign","scale","known"] [.s,.s,.s,.s,.s,.s,.s,.s,.s]))] (.o ["ahead","last","factor_ahead","factor_last","lead","height","sign","scale","known"] [.s,.s,.s,.s,.s,.s,.s,.s,.s]) (i6 T.ai) (by decide) (by decide) (by decide) (by decide) qv (by walk_at "len_of") qp
theorem xG:aK ⟨["one","other","degree","other_degree","top","bottom","numbers","content","other_numbers","other_bottom","other_content","chain"],(aa cJ).names,[(11,(.o ["ahead","last","factor_ahead","factor_last","lead","height","sign","scale","known"] [.s,.s,.s,.s,.s,.s,.s,.s,.s]))],["resultant","primitive","Chain","walk","outcome","raised","fraction"],[],["len"],[.s,.s,(.o ["ahead","last","factor_ahead","factor_last","lead","height","sign","scale","known"] [.s,.s,.s,.s,.s,.s,.s,.s,.s]),(.io (.o ["ahead","last","factor_ahead","factor_last","lead","height","sign","scale","known"] [.s,.s,.s,.s,.s,.s,.s,.s,.s])),(.io (.o ["ahead","last","factor_ahead","factor_last","lead","height","sign","scale","known"] [.s,.s,.s,.s,.s,.s,.s,.s,.s])),.s,.s],[(3,0),(4,0)]⟩ (bz [.s,.s,(.o ["ahead","last","factor_ahead","factor_last","lead","height","sign","scale","known"] [.s,.s,.s,.s,.s,.s,.s,.s,.s]),(.io (.o ["ahead","last","factor_ahead","factor_last","lead","height","sign","scale","known"] [.s,.s,.s,.s,.s,.s,.s,.s,.s])),(.io (.o ["ahead","last","factor_ahead","factor_last","lead","height","sign","scale","known"] [.s,.s,.s,.s,.s,.s,.s,.s,.s])),.s,.s]) .s sG (ah cJ)=true:=by decide+kernel
theorem xH(T:Tx K mg):Tab P w K mg base ["resultant","primitive","Chain","walk","outcome","raised","fraction"] [] ["len"] [.s,.s,(.o ["ahead","last","factor_ahead","factor_last","lead","height","sign","scale","known"] [.s,.s,.s,.s,.s,.s,.s,.s,.s]),(.io (.o ["ahead","last","factor_ahead","factor_last","lead","height","sign","scale","known"] [.s,.s,.s,.s,.s,.s,.s,.s,.s])),(.io (.o ["ahead","last","factor_ahead","factor_last","lead","height","sign","scale","known"] [.s,.s,.s,.s,.s,.s,.s,.s,.s])),.s,.s] [(3,0),(4,0)] (b7 [Sk,cE,(mO T.ai),(pM T.ai),(i6 T.ai),ee,dN]) (ou [(.cls T.ai)]) 5:=by
 refine⟨fun j x e h=>?_,fun j g x e h=>?_,fun j x e=>?_,?_,rT K,fun j x C e h=>?_⟩
 ·match j,e with
  |0,e=>cases e;exact T.dO.cD (m:=.s) (yE (k:=1)) rfl (by walk_at "len_of") (by decide)
  |1,e=>cases e;exact T.kq.cD (m:=.s) (p8 T) rfl (by walk_at "len_of") (by decide)
  |2,e=>cases e;exact⟨_,_,2,T.jn.c,DY T,by decide,by walk_at "len_of"⟩
  |3,e=>cases h
  |4,e=>cases h
  |5,e=>cases e;exact T.ko.cD (m:=.s) (oi T) rfl (by walk_at "len_of") (by decide)
  |6,e=>cases e;exact T.jo.cD (m:=.s) (mQ T) rfl (by walk_at "len_of") (by decide)
  |_+7,e=>simp at e
 ·simp only[FV,QQ,or_false,Prod.mk.injEq]at h
  rcases h with⟨rfl,rfl⟩|⟨rfl,rfl⟩
  ·cases e;exact T.jr.cD (m:=(.io (.o ["ahead","last","factor_ahead","factor_last","lead","height","sign","scale","known"] [.s,.s,.s,.s,.s,.s,.s,.s,.s]))) (oj T) (by walk_at "len_of") (by decide) rfl
  ·cases e;exact T.jE.cD (m:=(.io (.o ["ahead","last","factor_ahead","factor_last","lead","height","sign","scale","known"] [.s,.s,.s,.s,.s,.s,.s,.s,.s]))) (qw T) (by walk_at "len_of") (by decide) rfl
 ·match j,e with
  |_+0,e=>simp at e
 ·intro x h
  simp only[FV,QQ,or_false]at h
  rcases h with rfl
  ·exact T.eS
 ·match j,e with
  |_+0,e=>simp at e
theorem om(T:Tx K mg):aH P w K mg base (cL P w) 6 T.g8 T.g9 ["one","other"] (cY K 2 .s sE):=
 aL T.dO.F nS (xH T) sG [(11,(.o ["ahead","last","factor_ahead","factor_last","lead","height","sign","scale","known"] [.s,.s,.s,.s,.s,.s,.s,.s,.s]))] .s sE (by decide) (by decide) rfl xG zp Rq
theorem xJ:aK ⟨["one","other","degree","other_degree","top","bottom","numbers","content","other_numbers","other_bottom","other_content","chain"],(aa cJ).names,[(11,(.o ["ahead","last","factor_ahead","factor_last","lead","height","sign","scale","known"] [.s,.s,.s,.s,.s,.s,.s,.s,.s]))],["resultant"],[],["len"],[.s],[]⟩ (bz [.s]) .s sH (ah cJ)=true:=by decide+kernel
theorem xK(T:Tx K mg):aH P w K mg base (cL P w) 7 T.g8 T.g9 ["one","other"] (cY K 2 .s uS):=
 aL T.dO.F nS (tab_of (k:=6) (by exact⟨T.dO.cD (m:=.s) (om T) rfl zp (by decide),trivial⟩) (by exact⟨T.eS,trivial⟩)) sH [(11,(.o ["ahead","last","factor_ahead","factor_last","lead","height","sign","scale","known"] [.s,.s,.s,.s,.s,.s,.s,.s,.s]))] .s uS (by decide) (by decide) rfl xJ IY Ru
theorem qd(T:Tx K mg):aH P w K mg base (cL P w) 7 T.g8 T.g9 ["one","other"] (cY K 2 .s cI):=
 Rv (om T) (xK T) (by decide) (by decide)
theorem Aa:aK ⟨["one","other","numbers","bottom","other_numbers","other_bottom"],(aa fW).names,[],["cleared","row_over","whole_times"],[],[],[.s,.f,.f],[]⟩ (bz [.s,.f,.f]) .f fR (ah fW)=true:=by decide+kernel
theorem qf(T:Tx K mg):aH P w K mg base (cL P w) 5 T.pV T.pW ["one","other"] (cY K 2 .f fk):=
 aL T.kr.F xo (tab_of (k:=4) (by exact⟨T.jd.cD (m:=.s) (kP T) rfl (by walk_at "len_of") (by decide),T.jq.cD (m:=.f) (mR T) rfl (by walk_at "len_of") (by decide),T.fE.cD (m:=.f) (iF T) rfl (by walk_at "len_of") (by decide),trivial⟩) (by exact trivial)) fR [] .f fk (by decide) (by decide) rfl Aa (by walk_at "len_of") zc
theorem Fx:aK ⟨["one","other","numbers","bottom","other_numbers","other_bottom","quotient","rest","scale"],(aa jc).names,[],["cleared","whole_divided","row_over","scaled"],[],[],[.s,.s,.f,.f],[]⟩ (bz [.s,.s,.f,.f]) .s iZ (ah jc)=true:=by decide+kernel
theorem Fy(T:Tx K mg):aH P w K mg base (cL P w) 5 T.uX T.uY ["one","other"] (cY K 2 .s nD):=
 aL T.uZ.F BQ (tab_of (k:=4) (by exact⟨T.jd.cD (m:=.s) (kP T) rfl (by walk_at "len_of") (by decide),T.gh.cD (m:=.s) (jF T) rfl (by walk_at "len_of") (by decide),T.jq.cD (m:=.f) (mR T) rfl (by walk_at "len_of") (by decide),T.je.cD (m:=.f) (kC T) rfl (by walk_at "len_of") (by decide),trivial⟩) (by exact trivial)) iZ [] .s nD (by decide) (by decide) rfl Fx (by walk_at "len_of") Fd
theorem ug:aK ⟨["numbers","top","bottom","total","scale","number"],(aa dj).names,[],[],[],["reversed"],[],[]⟩ (bz []) .s dg (ah dj)=true:=by decide+kernel
theorem uh(T:Tx K mg):aH P w K mg base (cL P w) 1 T.lI T.lJ ["numbers","top","bottom"] (cY K 3 .s gq):=
 aL T.lK.F sO (tab_of (k:=0) (Ss:=[]) (by exact trivial) (by exact⟨T.gU,trivial⟩)) dg [] .s gq (by decide) (by decide) rfl ug (by walk_at "len_of") t6
theorem Ab:aK ⟨["row","at","numbers","bottom","top","part"],(aa fX).names,[],["cleared","fraction","whole_value","raised"],[],["len"],[.s,.s,.s,.s],[]⟩ (bz [.s,.s,.s,.s]) .s fT (ah fX)=true:=by decide+kernel
theorem Ac(T:Tx K mg):aH P w K mg base (cL P w) 4 T.pX T.pY ["row","at"] (cY K 2 .s jm):=
 aL T.pZ.F xq (tab_of (k:=3) (by exact⟨T.jd.cD (m:=.s) (kP T) rfl (by walk_at "len_of") (by decide),T.jo.cD (m:=.s) (mQ T) rfl (by walk_at "len_of") (by decide),T.lK.cD (m:=.s) (uh T) rfl (by walk_at "len_of") (by decide),T.ko.cD (m:=.s) (oi T) rfl (by walk_at "len_of") (by decide),trivial⟩) (by exact⟨T.eS,trivial⟩)) fT [] .s jm (by decide) (by decide) rfl Ab (by walk_at "len_of") zu
theorem RN:aK ⟨["_law_script","_law_place"],(aa sJ).names,[],[],[],["sum"],[],[]⟩ (bz []) .s su (ah sJ)=true:=by decide+kernel
theorem RO(T:Tx K mg):aH P w K mg base (cL P w) 1 T.Jo T.Jp ["_law_script","_law_place"] (cY K 2 .s Dy):=
 aL T.Jq.F L0 (tab_of (k:=0) (Ss:=[]) (by exact trivial) (by exact⟨T.zY,trivial⟩)) su [] .s Dy (by decide) (by decide) rfl RN (by walk_at "len_of") Rh
theorem L5:aK ⟨["_law_cell_here","_law_many","_law_rest","_law_one","_law_two","_law_found","_law_k","_law_number_here"],(aa nN).names,[(5,.f)],[],[],["abs","range"],[],[]⟩ (bz []) .f nt (ah nN)=true:=by decide+kernel
theorem DZ(T:Tx K mg):aH P w K mg base (cL P w) 1 T.DM T.DN ["_law_cell_here","_law_many"] (cY K 2 .f rY):=
 aL T.xr.F Jg (tab_of (k:=0) (Ss:=[]) (by exact trivial) (by exact⟨T.sZ,T.eU,trivial⟩)) nt [(5,.f)] .f rY (by decide) (by decide) rfl L5 (by walk_at "len_of") Ly
theorem L6:aK ⟨["_law_one","_law_other"],(aa nO).names,[],[],[],["abs"],[],[]⟩ (bz []) .s nj (ah nO)=true:=by decide+kernel
theorem L7(T:Tx K mg):aH P w K mg base (cL P w) 1 T.DO T.DP ["_law_one","_law_other"] (cY K 2 .s CU):=
 aL T.DR.F Jh (tab_of (k:=0) (Ss:=[]) (by exact trivial) (by exact⟨T.sZ,trivial⟩)) nj [] .s CU (by decide) (by decide) rfl L6 (by walk_at "len_of") Lv
theorem Jw:aK ⟨["_law_top","_law_bottom","_law_share"],(aa j9).names,[],["_law_gcd"],[],[],[.s],[]⟩ (bz [.s]) .s jT (ah j9)=true:=by decide+kernel
theorem Jx(T:Tx K mg):aH P w K mg base (cL P w) 2 T.zM T.zN ["_law_top","_law_bottom"] (cY K 2 .s qH):=
 aL T.zO.F Fo (tab_of (k:=1) (by exact⟨T.DR.cD (m:=.s) (L7 T) rfl (by walk_at "len_of") (by decide),trivial⟩) (by exact trivial)) jT [] .s qH (by decide) (by decide) rfl Jw (by walk_at "len_of") HW
theorem Jy:aK ⟨["_law_x","_law_y","_law_z","_law_kind","_law_top","_law_bottom"],(aa kg).names,[],["_law_lowest"],[],[],[.s],[]⟩ (bz [.s]) .s jU (ah kg)=true:=by decide+kernel
theorem Ad(T:Tx K mg):aH P w K mg base (cL P w) 3 T.zP T.zQ ["_law_x","_law_y","_law_z","_law_kind"] (cY K 4 .s nq):=
 aL T.sY.F Fq (tab_of (k:=2) (by exact⟨T.zO.cD (m:=.s) (Jx T) rfl (by walk_at "len_of") (by decide),trivial⟩) (by exact trivial)) jU [] .s nq (by decide) (by decide) rfl Jy (by walk_at "len_of") Ie
theorem VC:aK ⟨["_law_cell_here","_law_most","_law_kind","_law_xs","_law_found","_law_k","_law_number_here"],(aa s_row).names,[(4,.f)],["_law_drawn","_law_number"],[],["range"],[.f,.s],[]⟩ (bz [.f,.s]) .f yM (ah s_row)=true:=by decide+kernel
theorem VD(T:Tx K mg):aH P w K mg base (cL P w) 4 T.Nt T.Nu ["_law_cell_here","_law_most","_law_kind"] (cY K 3 .f Lz):=
 aL T.Nv.F RB (tab_of (k:=3) (by exact⟨T.xr.cD (m:=.f) (DZ T) rfl (by walk_at "len_of") (by decide),T.sY.cD (m:=.s) (Ad T) rfl (by walk_at "len_of") (by decide),trivial⟩) (by exact⟨T.eU,trivial⟩)) yM [(4,.f)] .f Lz (by decide) (by decide) rfl VC (by walk_at "len_of") U9
theorem L8:aK ⟨["_law_number_here","_law_many","_law_found","_law_turn"],(aa nQ).names,[],["times"],[],["range"],[.s],[]⟩ (bz [.s]) .s nG (ah nQ)=true:=by decide+kernel
theorem Ea(T:Tx K mg):aH P w K mg base (cL P w) 4 T.DS T.DT ["_law_number_here","_law_many"] (cY K 2 .s sI):=
 aL T.xu.F Ji (tab_of (k:=3) (by exact⟨T.qP.cD (m:=.s) (xw T) rfl (by walk_at "len_of") (by decide),trivial⟩) (by exact⟨T.eU,trivial⟩)) nG [] .s sI (by decide) (by decide) rfl L8 (by walk_at "len_of") LW
theorem RQ:aK ⟨["_law_script","_law_at","_law_xs","_law_found","_law_k","_law_row_here"],(aa sL).names,[(3,.f)],["_law_drawn","_law_cell","_law_row","row_times","_law_number"],[],["range"],[.f,.s,.f,.f,.s],[]⟩ (bz [.f,.s,.f,.f,.s]) .s j6 (ah sL)=true:=by decide+kernel
theorem RS(T:Tx K mg):aH P w K mg base (cL P w) 6 T.Jr T.Js ["_law_script","_law_at"] (cY K 2 .s qO):=
 aL T.Jt.F L1 (tab_of (k:=5) (by exact⟨T.xr.cD (m:=.f) (DZ T) rfl (by walk_at "len_of") (by decide),T.Jq.cD (m:=.s) (RO T) rfl (by walk_at "len_of") (by decide),T.Nv.cD (m:=.f) (VD T) rfl (by walk_at "len_of") (by decide),T.kr.cD (m:=.f) (qf T) rfl (by walk_at "len_of") (by decide),T.sY.cD (m:=.s) (Ad T) rfl (by walk_at "len_of") (by decide),trivial⟩) (by exact⟨T.eU,trivial⟩)) j6 [(3,.f)] .s qO (by decide) (by decide) rfl RQ (by walk_at "len_of") Ja
theorem Jz:aK ⟨["_law_one","_law_other","_law_rest"],(aa kj).names,[],["divided","times","_law_power","resultant"],[],["len"],[.s,.s,.s,.s],[]⟩ (bz [.s,.s,.s,.s]) .s j4 (ah kj)=true:=by decide+kernel
theorem JA(T:Tx K mg):aH P w K mg base (cL P w) 8 T.zU T.zV ["_law_one","_law_other"] (cY K 2 .s qN):=
 aL T.zX.F Ft (tab_of (k:=7) (by exact⟨T.uZ.cD (m:=.s) (Fy T) rfl (by walk_at "len_of") (by decide),T.qP.cD (m:=.s) (xw T) rfl (by walk_at "len_of") (by decide),T.xu.cD (m:=.s) (Ea T) rfl (by walk_at "len_of") (by decide),T.dO.cD (m:=.s) (qd T) rfl (by walk_at "len_of") (by decide),trivial⟩) (by exact⟨T.eS,trivial⟩)) j4 [] .s qN (by decide) (by decide) rfl Jz (by walk_at "len_of") I0
theorem Ma:aK ⟨["_law_one","_law_other","_law_third","_law_number_here","_law_found","_law_sign"],(aa nR).names,[],["resultant","row_times","times","greatest","row_value","_law_power","_law_rested"],[],["len"],[.s,.f,.s,(.t [.f,.f,.f]),.s,.s,.s],[]⟩ (bz [.s,.f,.s,(.t [.f,.f,.f]),.s,.s,.s]) .s i9 (ah nR)=true:=by decide+kernel
theorem Mb(T:Tx K mg):aH P w K mg base (cL P w) 9 T.DU T.DV ["_law_one","_law_other","_law_third","_law_number_here"] (cY K 4 .s nJ):=
 aL T.DW.F Jj (tab_of (k:=8) (by exact⟨T.dO.cD (m:=.s) (qd T) rfl (by walk_at "len_of") (by decide),T.kr.cD (m:=.f) (qf T) rfl (by walk_at "len_of") (by decide),T.qP.cD (m:=.s) (xw T) rfl (by walk_at "len_of") (by decide),T.gS.cD (m:=(.t [.f,.f,.f])) (BU T) rfl BN (by decide),T.pZ.cD (m:=.s) (Ac T) rfl (by walk_at "len_of") (by decide),T.xu.cD (m:=.s) (Ea T) rfl (by walk_at "len_of") (by decide),T.zX.cD (m:=.s) (JA T) rfl (by walk_at "len_of") (by decide),trivial⟩) (by exact⟨T.eS,trivial⟩)) i9 [] .s nJ (by decide) (by decide) rfl Ma (by walk_at "len_of") Fi
theorem VF:aK ⟨["_law_script","_law_at","_law_rows_here","_law_number_here"],(aa zA).names,[],["_law_rows","_law_right"],[],["range"],[.s,.s],[]⟩ (bz [.s,.s]) .s nK (ah zA)=true:=by decide+kernel
theorem VG(T:Tx K mg):aH P w K mg base (cL P w) 10 T.Nx T.Ny ["_law_script"] (cY K 1 .s Lr):=
 aL T.Vx.F RC (tab_of (k:=9) (by exact⟨T.Jt.cD (m:=.s) (RS T) rfl (by walk_at "len_of") (by decide),T.DW.cD (m:=.s) (Mb T) rfl (by walk_at "len_of") (by decide),trivial⟩) (by exact⟨T.eU,trivial⟩)) nK [] .s Lr (by decide) (by decide) rfl VF (by walk_at "len_of") LZ
end
theorem SH{K:PySem.W.Frag}{x:Str}{st:Stmt}{f:Addr}{od an:Option Addr}{sl:Array (Option Value)}{oc kV dc pm cd ct:Value}(a:PySem.W.nsIn K mainGlobals x=some (some (.ref f)))(l:K.lookup f=some ⟨oc,od,.func (PySem.W.fnOf x x (cN st) (ah st) (aa st) .none kV dc pm an cd ct),sl⟩)(c:PySem.W.codeIn K cd x=true)(k:PySem.W.keepIn K (.ref f)=true):Hd K x st:=⟨f,od,an,sl,oc,kV,dc,pm,cd,ct,a,l,c,k⟩
theorem SI{K:PySem.W.Frag}{C:Addr}{x q:Str}{st:Stmt}{f:Addr}{od an:Option Addr}{sl:Array (Option Value)}{oc kV dc pm cd ct:Value}(a:PySem.W.findIn K (.ref C) x=some (some (.ref f)))(i:PySem.W.isFn K (.ref f)=true)(l:K.lookup f=some ⟨oc,od,.func (PySem.W.fnOf x q (cN st) (ah st) (aa st) .none kV dc pm an cd ct),sl⟩)(c:PySem.W.codeIn K cd q=true)(k:PySem.W.keepIn K (.ref f)=true):Hm K C x q st:=⟨f,od,an,sl,oc,kV,dc,pm,cd,ct,a,i,l,c,k⟩
theorem Ae{x q:Str}{st:Stmt}{p0:Str}(h:∀(kV doc pm:Value) (an:Option Addr) (cdv ct a0:Value),bindArgs (PySem.W.fnOf x q (cN st) (ah st) (aa st) .none kV doc pm an cdv ct) ⟨[a0],[]⟩=pure ([p0].zip [a0])):kH x q st [p0]:=fun kV doc pm an cdv ct us hl=>match us,hl with|[a0],_=>h kV doc pm an cdv ct a0
theorem gi{x q:Str}{st:Stmt}{p0 p1:Str}(h:∀(kV doc pm:Value) (an:Option Addr) (cdv ct a0 a1:Value),bindArgs (PySem.W.fnOf x q (cN st) (ah st) (aa st) .none kV doc pm an cdv ct) ⟨[a0,a1],[]⟩=pure ([p0,p1].zip [a0,a1])):kH x q st [p0,p1]:=fun kV doc pm an cdv ct us hl=>match us,hl with|[a0,a1],_=>h kV doc pm an cdv ct a0 a1
theorem Mc{x q:Str}{st:Stmt}{p0 p1 p2:Str}(h:∀(kV doc pm:Value) (an:Option Addr) (cdv ct a0 a1 a2:Value),bindArgs (PySem.W.fnOf x q (cN st) (ah st) (aa st) .none kV doc pm an cdv ct) ⟨[a0,a1,a2],[]⟩=pure ([p0,p1,p2].zip [a0,a1,a2])):kH x q st [p0,p1,p2]:=fun kV doc pm an cdv ct us hl=>match us,hl with|[a0,a1,a2],_=>h kV doc pm an cdv ct a0 a1 a2
theorem RT{x q:Str}{st:Stmt}{p0 p1 p2 p3:Str}(h:∀(kV doc pm:Value) (an:Option Addr) (cdv ct a0 a1 a2 a3:Value),bindArgs (PySem.W.fnOf x q (cN st) (ah st) (aa st) .none kV doc pm an cdv ct) ⟨[a0,a1,a2,a3],[]⟩=pure ([p0,p1,p2,p3].zip [a0,a1,a2,a3])):kH x q st [p0,p1,p2,p3]:=fun kV doc pm an cdv ct us hl=>match us,hl with|[a0,a1,a2,a3],_=>h kV doc pm an cdv ct a0 a1 a2 a3
theorem all_mk{l:PySem.W.OpenLaw}{w:World}{K:PySem.W.Frag}{h:Heap}{mg:Str->Option Value}{fa:Addr}(X:K.In h)(G:h.Ns mainGlobals mg)(hfa:mg "law"=some (.ref fa))
 {ai:Addr} (tu:PySem.W.nsIn K mainGlobals "Chain"=some (some (.ref ai))) (tw:PySem.W.plainGet K ai Str.empty=true) (tD:PySem.W.hasDictIn K ai=true) (tE:PySem.W.plainOver K ai=true) (tF:PySem.W.findIn K (.ref ai) "__setattr__"=some (some (.builtin "object.__setattr__"))) (tG:PySem.W.makesIn K ai=true) (tH:PySem.W.keepIn K (.ref ai)=true)
 (iG:PySem.W.findIn K (.ref ai) "ahead"=some none)
 (jv:PySem.W.findIn K (.ref ai) "last"=some none)
 (cK:PySem.W.findIn K (.ref ai) "factor_ahead"=some none)
 (cV:PySem.W.findIn K (.ref ai) "factor_last"=some none)
 (jw:PySem.W.findIn K (.ref ai) "lead"=some none)
 (gW:PySem.W.findIn K (.ref ai) "height"=some none)
 (jx:PySem.W.findIn K (.ref ai) "sign"=some none)
 (iH:PySem.W.findIn K (.ref ai) "scale"=some none)
 (iI:PySem.W.findIn K (.ref ai) "known"=some none)
 (a0:Hd K "gcd" zx)
 (a1:Hd K "turn" Jd)
 (a2:Hd K "turned" zy)
 (a3:Hd K "raised" j7)
 (a4:Hd K "fraction" gQ)
 (a5:Hd K "times" nM)
 (a6:Hd K "over" Je)
 (a7:Hd K "cleared" ja)
 (a8:Hd K "row_over" gR)
 (a9:Hd K "trimmed" jb)
 (Yk:Hd K "scaled" j8)
 (Yl:Hd K "whole_plus" eH)
 (Ym:Hd K "whole_minus" dh)
 (Yn:Hd K "whole_times" di)
 (Yo:Hd K "whole_value" dj)
 (Yp:Hd K "whole_divided" cz)
 (Yq:Hd K "whole_over" eK)
 (Yr:Hd K "shortened" fU)
 (Ys:Hm K ai "__init__" "Chain.__init__" iC)
 (Yt:Hm K ai "walk" "Chain.walk" eN)
 (Yu:Hm K ai "step" "Chain.step" eO)
 (Yv:Hm K ai "outcome" "Chain.outcome" cA)
 (Yw:Hd K "next_height" dw)
 (Yx:Hd K "greatest" dJ)
 (Yy:Hd K "primitive" fV)
 (Yz:Hd K "resultant" cJ)
 (YA:Hd K "row_times" fW)
 (YB:Hd K "divided" jc)
 (YC:Hd K "row_value" fX)
 (YD:Hd K "_law_cell" sJ)
 (YE:Hd K "_law_drawn" nN)
 (YF:Hd K "_law_gcd" nO)
 (a32:Hd K "_law_lowest" j9)
 (YG:Hd K "_law_number" kg)
 (YH:Hd K "_law_row" s_row)
 (YI:Hd K "_law_power" nQ)
 (YJ:Hd K "_law_rows" sL)
 (YK:Hd K "_law_rested" kj)
 (YL:Hd K "_law_right" nR)
 (YM:Hd K "law" zA)
 (sZ:PySem.W.nsIn K mainGlobals "abs"=some none)
 (dP:PySem.W.nsIn K mainGlobals "enumerate"=some none)
 (eS:PySem.W.nsIn K mainGlobals "len"=some none)
 (ku:PySem.W.nsIn K mainGlobals "list"=some none)
 (u5:PySem.W.nsIn K mainGlobals "max"=some none)
 (eU:PySem.W.nsIn K mainGlobals "range"=some none)
 (gU:PySem.W.nsIn K mainGlobals "reversed"=some none)
 (zY:PySem.W.nsIn K mainGlobals "sum"=some none)
 {RU:Tok} (BV:PySem.W.nsIn K mainGlobals "LONG"=some (some (.int 6000 RU)))
 :∃fd:FuncData,(∀(s:Shared) (v:Value),BindsTo s fd ⟨[v],[]⟩ [("_law_script",v)])/\∀base:Heap,K.In base->base.Ns mainGlobals mg->aH l.prog w K mg base TX 10 fa fd ["_law_script"] (CP K):=by
 have Me:AO K ai ["ahead","last","factor_ahead","factor_last","lead","height","sign","scale","known"]:=⟨⟨tw,tD,tE,tF⟩,by decide,by decide+kernel,fun x hx=>by
  simp only[FV,QQ,or_false]at hx
  rcases hx with rfl|rfl|rfl|rfl|rfl|rfl|rfl|rfl|rfl
  ·exact iG
  ·exact jv
  ·exact cK
  ·exact cV
  ·exact jw
  ·exact gW
  ·exact jx
  ·exact iH
  ·exact iI⟩
 obtain⟨f0,d0,D0⟩:=bf (ps:=["one","other"]) X G a0 (gi fun _ _ _ _ _ _ _ _=>rfl)
 obtain⟨f1,d1,D1⟩:=bf (ps:=["one","other"]) X G a1 (gi fun _ _ _ _ _ _ _ _=>rfl)
 obtain⟨f2,d2,D2⟩:=bf (ps:=["by","one","other"]) X G a2 (Mc fun _ _ _ _ _ _ _ _ _=>rfl)
 obtain⟨f3,d3,D3⟩:=bf (ps:=["number","exponent"]) X G a3 (gi fun _ _ _ _ _ _ _ _=>rfl)
 obtain⟨f4,d4,D4⟩:=bf (ps:=["top","bottom"]) X G a4 (gi fun _ _ _ _ _ _ _ _=>rfl)
 obtain⟨f5,d5,D5⟩:=bf (ps:=["one","other"]) X G a5 (gi fun _ _ _ _ _ _ _ _=>rfl)
 obtain⟨f6,d6,D6⟩:=bf (ps:=["one","other"]) X G a6 (gi fun _ _ _ _ _ _ _ _=>rfl)
 obtain⟨f7,d7,D7⟩:=bf (ps:=["row"]) X G a7 (Ae fun _ _ _ _ _ _ _=>rfl)
 obtain⟨f8,d8,D8⟩:=bf (ps:=["numbers","bottom"]) X G a8 (gi fun _ _ _ _ _ _ _ _=>rfl)
 obtain⟨f9,d9,D9⟩:=bf (ps:=["numbers"]) X G a9 (Ae fun _ _ _ _ _ _ _=>rfl)
 obtain⟨f10,d10,D10⟩:=bf (ps:=["numbers","by"]) X G Yk (gi fun _ _ _ _ _ _ _ _=>rfl)
 obtain⟨f11,d11,D11⟩:=bf (ps:=["one","other"]) X G Yl (gi fun _ _ _ _ _ _ _ _=>rfl)
 obtain⟨f12,d12,D12⟩:=bf (ps:=["one","other"]) X G Ym (gi fun _ _ _ _ _ _ _ _=>rfl)
 obtain⟨f13,d13,D13⟩:=bf (ps:=["one","other"]) X G Yn (gi fun _ _ _ _ _ _ _ _=>rfl)
 obtain⟨f14,d14,D14⟩:=bf (ps:=["numbers","top","bottom"]) X G Yo (Mc fun _ _ _ _ _ _ _ _ _=>rfl)
 obtain⟨f15,d15,D15⟩:=bf (ps:=["one","other"]) X G Yp (gi fun _ _ _ _ _ _ _ _=>rfl)
 obtain⟨f16,d16,D16⟩:=bf (ps:=["one","other"]) X G Yq (gi fun _ _ _ _ _ _ _ _=>rfl)
 obtain⟨f17,d17,D17⟩:=bf (ps:=["numbers"]) X G Yr (Ae fun _ _ _ _ _ _ _=>rfl)
 obtain⟨f18,d18,D18⟩:=CO (ps:=["self","one","other","factor"]) Ys (RT fun _ _ _ _ _ _ _ _ _ _=>rfl)
 obtain⟨f19,d19,D19⟩:=CO (ps:=["self"]) Yt (Ae fun _ _ _ _ _ _ _=>rfl)
 obtain⟨f20,d20,D20⟩:=CO (ps:=["self"]) Yu (Ae fun _ _ _ _ _ _ _=>rfl)
 obtain⟨f21,d21,D21⟩:=CO (ps:=["self"]) Yv (Ae fun _ _ _ _ _ _ _=>rfl)
 obtain⟨f22,d22,D22⟩:=bf (ps:=["height","lead","drop"]) X G Yw (Mc fun _ _ _ _ _ _ _ _ _=>rfl)
 obtain⟨f23,d23,D23⟩:=bf (ps:=["one","other"]) X G Yx (gi fun _ _ _ _ _ _ _ _=>rfl)
 obtain⟨f24,d24,D24⟩:=bf (ps:=["row"]) X G Yy (Ae fun _ _ _ _ _ _ _=>rfl)
 obtain⟨f25,d25,D25⟩:=bf (ps:=["one","other"]) X G Yz (gi fun _ _ _ _ _ _ _ _=>rfl)
 obtain⟨f26,d26,D26⟩:=bf (ps:=["one","other"]) X G YA (gi fun _ _ _ _ _ _ _ _=>rfl)
 obtain⟨f27,d27,D27⟩:=bf (ps:=["one","other"]) X G YB (gi fun _ _ _ _ _ _ _ _=>rfl)
 obtain⟨f28,d28,D28⟩:=bf (ps:=["row","at"]) X G YC (gi fun _ _ _ _ _ _ _ _=>rfl)
 obtain⟨f29,d29,D29⟩:=bf (ps:=["_law_script","_law_place"]) X G YD (gi fun _ _ _ _ _ _ _ _=>rfl)
 obtain⟨f30,d30,D30⟩:=bf (ps:=["_law_cell_here","_law_many"]) X G YE (gi fun _ _ _ _ _ _ _ _=>rfl)
 obtain⟨f31,d31,D31⟩:=bf (ps:=["_law_one","_law_other"]) X G YF (gi fun _ _ _ _ _ _ _ _=>rfl)
 obtain⟨f32,d32,D32⟩:=bf (ps:=["_law_top","_law_bottom"]) X G a32 (gi fun _ _ _ _ _ _ _ _=>rfl)
 obtain⟨f33,d33,D33⟩:=bf (ps:=["_law_x","_law_y","_law_z","_law_kind"]) X G YG (RT fun _ _ _ _ _ _ _ _ _ _=>rfl)
 obtain⟨f34,d34,D34⟩:=bf (ps:=["_law_cell_here","_law_most","_law_kind"]) X G YH (Mc fun _ _ _ _ _ _ _ _ _=>rfl)
 obtain⟨f35,d35,D35⟩:=bf (ps:=["_law_number_here","_law_many"]) X G YI (gi fun _ _ _ _ _ _ _ _=>rfl)
 obtain⟨f36,d36,D36⟩:=bf (ps:=["_law_script","_law_at"]) X G YJ (gi fun _ _ _ _ _ _ _ _=>rfl)
 obtain⟨f37,d37,D37⟩:=bf (ps:=["_law_one","_law_other"]) X G YK (gi fun _ _ _ _ _ _ _ _=>rfl)
 obtain⟨f38,d38,D38⟩:=bf (ps:=["_law_one","_law_other","_law_third","_law_number_here"]) X G YL (RT fun _ _ _ _ _ _ _ _ _ _=>rfl)
 obtain⟨f39,ZX,YN⟩:=bf (ps:=["_law_script"]) X G YM (Ae fun _ _ _ _ _ _ _=>rfl)
 have e:=hfa.symm.trans YN.m
 cases e
 let T:Tx K mg:=⟨ai,⟨PySem.W.mg_of X G tu,Me,tG,tH⟩,f0,d0,D0,f1,d1,D1,f2,d2,D2,f3,d3,D3,f4,d4,D4,f5,d5,D5,f6,d6,D6,f7,d7,D7,f8,d8,D8,f9,d9,D9,f10,d10,D10,f11,d11,D11,f12,d12,D12,f13,d13,D13,f14,d14,D14,f15,d15,D15,f16,d16,D16,f17,d17,D17,f18,d18,D18,f19,d19,D19,f20,d20,D20,f21,d21,D21,f22,d22,D22,f23,d23,D23,f24,d24,D24,f25,d25,D25,f26,d26,D26,f27,d27,D27,f28,d28,D28,f29,d29,D29,f30,d30,D30,f31,d31,D31,f32,d32,D32,f33,d33,D33,f34,d34,D34,f35,d35,D35,f36,d36,D36,f37,d37,D37,f38,d38,D38,fa,ZX,YN,TB X G sZ,TB X G dP,TB X G eS,TB X G ku,TB X G u5,TB X G eU,TB X G gU,TB X G zY,⟨_,PySem.W.mg_of X G BV,_,rfl⟩⟩
 exact⟨ZX,fun s v=>YN.bt s [v] rfl,fun base _ _=>QV (VG T)⟩
end VH
namespace PySem.W.Fast
def tw10376368021844281347:=0
def tw1041793583658986876:=0
def tw10423695491619209148:=0
def tw10893296620975658829:=0
def tw10898341342250967555:=0
def tw11539994664077878640:=0
def tw1192755478348241415:=0
def tw12244854244561078405:=0
def tw12389933696199964821:=0
def tw12497122963009167825:=0
def tw12559172806667707177:=0
def tw12664986931822631789:=0
def tw12786033732355207681:=0
def tw12882635893268950043:=0
def tw13548603508233001289:=0
def tw13556995046893919163:=0
def tw13723370647531333455:=0
def tw13973585512231191953:=0
def tw14015557936970307519:=0
def tw14019166991743969158:=0
def tw14190932033997438591:=0
def tw1423039049459407309:=0
def tw14262612213121485824:=0
def tw14331618050974605618:=0
def tw14396684526575129964:=0
def tw14606586518054057863:=0
def tw14643149443275631374:=0
def tw14748764124041303859:=0
def tw14769767125717487793:=0
def tw1506552248734560092:=0
def tw15320950360493887615:=0
def tw15396363784428253171:=0
def tw1554071902009535248:=0
def tw15801740128752467801:=0
def tw15858054709286598130:=0
def tw15869233046228904722:=0
def tw15877806883732336243:=0
def tw15918215978902006221:=0
def tw16045877558417901386:=0
def tw16512220662209774740:=0
def tw16529360537138612014:=0
def tw16602479586257699403:=0
def tw1674548592115995652:=0
def tw17351537172908727470:=0
def tw17362400943320474549:=0
def tw17562062043809314788:=0
def tw17576916368334683109:=0
def tw17675617161765090649:=0
def tw17707967291058670023:=0
def tw17786058072388612690:=0
def tw17813881814434388956:=0
def tw17873052136347930918:=0
def tw2164882739975107866:=0
def tw2179880460750835963:=0
def tw2236242033321349631:=0
def tw2401237449337340341:=0
def tw2985704861110448842:=0
def tw3304886907359087062:=0
def tw3324569258117503653:=0
def tw3324913162199973346:=0
def tw3349905764136832737:=0
def tw399939491514232616:=0
def tw4278635930126345076:=0
def tw433746161091036868:=0
def tw4382788389856982:=0
def tw4423407545023617740:=0
def tw452159574350000363:=0
def tw4778363602433320969:=0
def tw4834044164665888187:=0
def tw5331953172612205350:=0
def tw5406635766477169991:=0
def tw5541573413553470767:=0
def tw5551373245881794630:=0
def tw5662427659096829830:=0
def tw566282642912537138:=0
def tw5710679538533140721:=0
def tw5717682633321165507:=0
def tw5808114309476915634:=0
def tw5944175072828041271:=0
def tw597772461250736066:=0
def tw6085470212297093390:=0
def tw6160850784142668106:=0
def tw620812904805940189:=0
def tw6210912738283269236:=0
def tw6514664004697156076:=0
def tw6527436456613956102:=0
def tw6577094813149200710:=0
def tw6619780069026124676:=0
def tw6762561328525194463:=0
def tw6857945686289234529:=0
def tw701569759447671978:=0
def tw7109152541859921293:=0
def tw7282396313500013077:=0
def tw7302798262056629229:=0
def tw7538963438236104748:=0
def tw7623062784385897926:=0
def tw7649124799104881740:=0
def tw7650575714013902033:=0
def tw7667810259936456469:=0
def tw781765937541877802:=0
def tw8401738276812231860:=0
def tw8470075814825359369:=0
def tw8501622665882234776:=0
def tw8594916904105248670:=0
def tw8661288182596622565:=0
def tw8676455239397420905:=0
def tw9056608162933051371:=0
def tw9089370176427963076:=0
def tw9450622184622988536:=0
def tw9523296411580124177:=0
def tw9591934490414742033:=0
def tw9624883407061924595:=0
def tw9659941858212305777:=0
def tw9748251168627408753:=0
def tw9756048956800139896:=0
def tw12984210503816382534:=0
def tw1650863695697941179:=0
def tw3998320541037921284:=0
def tw17181421240016487959:=0
def tw2689710422427048174:=0
def tw4146753222963575770:=0
def tw11819363882502630630:=0
def tw17457720344030405090:=0
def tw5726207329399956481:=0
def tw2230354999386049946:=0
def tw10498787956843002905:=0
def tw5537966979677305839:=0
def tw6988402227828470266:=0
def tw13634395567177296379:=0
def tw174148944364234012:=0
def tw10111584867146090174:=0
def tw5793463612718706216:=0
def tw15156982834953659697:=0
def tw3685406046646405413:=0
def tw9608428177768041937:=0
def tw1940651581004124693:=0
def tw11498815974555071191:=0
def tw16025121044403482538:=0
def tw6212827967612381093:=0
def tw14106854813593299689:=0
def tw2738427747895472266:=0
def tw13792904614882441788:=0
def tw12859764963342147203:=0
def tw11800396327324494460:=0
def tw14075615750851175691:=0
def tw498648514763940754:=0
def tw7879999892339679696:=0
def tw5128614874161772850:=0
def tw10118624435969949619:=0
def tw14576707960621186481:=0
def tw170318287113871061:=0
def tw1385500181345631837:=0
def tw8518031788548019367:=0
def tw11627099133896421520:=0
def tw4751068278896657806:=0
def tw14676247980313366967:=0
def tw10103493248748805475:=0
def tw9025432008767510484:=0
def tw11860314234121628255:=0
def tw8202324343084721987:=0
def tw3445245801843162187:=0
def tw1319098390539544369:=0
def tw4512579755748811027:=0
def tw12622349694153890607:=0
def tw3392832179520520603:=0
def tw6447285419081766593:=0
def tw2891060765246651011:=0
def tw11516844529568507268:=0
def tw12885623398514318508:=0
def tw17539275979078793624:=0
def tw8791577222080525687:=0
def tw15879479886499910256:=0
def tw3915573447426402856:=0
def tw7044096798664574883:=0
def tw6138978893363530156:=0
def tw17740977441443508002:=0
def tw17031770330540044462:=0
def tw1301488246106004672:=0
def tw11465217724253414819:=0
def tw1459374445083930685:=0
def tw569870469050266035:=0
def tw5718236639332049122:=0
def tw16994348945885990864:=0
def tw995054136291935122:=0
def tw6829204660369437605:=0
end PySem.W.Fast
open PySem PySem.W PyProof.Rows
set_option maxRecDepth 100000 in
set_option maxHeartbeats 0 in
theorem PySem.Challenge.cw_paperwright_k13_whole_resultants_holds : PySem.Challenge.rw_paperwright_k13_whole_resultants.Holds := by
 w_on;o_law;k_head;(case hw=>w_witness2)
 k_fill
 refine VL.walk (l:=PySem.Challenge.rw_paperwright_k13_whole_resultants) (k:=10) rfl rfl ⟨rfl,by decide,by decide⟩ (fun w h Y=>PySem.W.kIn_of Y) ?F
 case F=>
  intro w mg fa h KX G hmg
  refine' VH.all_mk KX G hmg ?tu ?tw ?tD ?tE ?tF ?tG ?tH ?iG ?jv ?cK ?cV ?jw ?gW ?jx ?iH ?iI ?a0 ?a1 ?a2 ?a3 ?a4 ?a5 ?a6 ?a7 ?a8 ?a9 ?Yk ?Yl ?Ym ?Yn ?Yo ?Yp ?Yq ?Yr ?Ys ?Yt ?Yu ?Yv ?Yw ?Yx ?Yy ?Yz ?YA ?YB ?YC ?YD ?YE ?YF ?a32 ?YG ?YH ?YI ?YJ ?YK ?YL ?YM ?sZ ?dP ?eS ?ku ?u5 ?eU ?gU ?zY ?BV
  (case tu=>k_is)
  (case tw=>k_is)
  (case tD=>k_is)
  (case tE=>k_is)
  (case tF=>k_is)
  (case tG=>k_is)
  (case tH=>k_is)
  (case iG=>k_is)
  (case jv=>k_is)
  (case cK=>k_is)
  (case cV=>k_is)
  (case jw=>k_is)
  (case gW=>k_is)
  (case jx=>k_is)
  (case iH=>k_is)
  (case iI=>k_is)
  (case a0=>walk_at "hd")
  (case a1=>walk_at "hd")
  (case a2=>walk_at "hd")
  (case a3=>walk_at "hd")
  (case a4=>walk_at "hd")
  (case a5=>walk_at "hd")
  (case a6=>walk_at "hd")
  (case a7=>walk_at "hd")
  (case a8=>walk_at "hd")
  (case a9=>walk_at "hd")
  (case Yk=>walk_at "hd")
  (case Yl=>walk_at "hd")
  (case Ym=>walk_at "hd")
  (case Yn=>walk_at "hd")
  (case Yo=>walk_at "hd")
  (case Yp=>walk_at "hd")
  (case Yq=>walk_at "hd")
  (case Yr=>walk_at "hd")
  (case Ys=>walk_at "hm")
  (case Yt=>walk_at "hm")
  (case Yu=>walk_at "hm")
  (case Yv=>walk_at "hm")
  (case Yw=>walk_at "hd")
  (case Yx=>walk_at "hd")
  (case Yy=>walk_at "hd")
  (case Yz=>walk_at "hd")
  (case YA=>walk_at "hd")
  (case YB=>walk_at "hd")
  (case YC=>walk_at "hd")
  (case YD=>walk_at "hd")
  (case YE=>walk_at "hd")
  (case YF=>walk_at "hd")
  (case a32=>walk_at "hd")
  (case YG=>walk_at "hd")
  (case YH=>walk_at "hd")
  (case YI=>walk_at "hd")
  (case YJ=>walk_at "hd")
  (case YK=>walk_at "hd")
  (case YL=>walk_at "hd")
  (case YM=>walk_at "hd")
  (case sZ=>k_is)
  (case dP=>k_is)
  (case eS=>k_is)
  (case ku=>k_is)
  (case u5=>k_is)
  (case eU=>k_is)
  (case gU=>k_is)
  (case zY=>k_is)
  (case BV=>k_is)
