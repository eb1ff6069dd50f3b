import PyProof.Rows.All
import Wide.All
import OpenK.AllK
import Wide.FinOn
import Lean
import PyProof.EqAt
import PyProof.EqKinds
import PyProof.TupleCall
import PySem.Challenge.RW_paperwright_k10_greatest_divisors
set_option Elab.async false
set_option linter.all false
set_option maxRecDepth 100000
set_option maxHeartbeats 4000000
set_option hygiene false in
local macro_rules | `(tactic| walk_at "len_of") => `(tactic| first | (intro _ _ _ h; exact False.elim h) | (rintro _ _ _ ⟨rfl, _⟩; rfl) | (rintro _ _ _ ⟨_, rfl, _⟩; rfl) | (rintro _ _ _ ⟨_, _, rfl, _⟩; rfl) | (rintro _ _ _ ⟨_, _, _, rfl, _⟩; rfl) | (rintro _ _ _ ⟨_, _, _, _, rfl, _⟩; rfl) | (rintro _ _ _ ⟨_, _, _, _, _, rfl, _⟩; rfl) | (rintro _ _ _ ⟨_, _, _, _, _, _, rfl, _⟩; rfl) | (rintro _ _ _ ⟨_, _, _, _, _, _, _, rfl, _⟩; rfl) | (rintro _ _ _ ⟨_, _, _, _, _, _, _, _, rfl, _⟩; rfl) | (rintro _ _ _ ⟨_, _, _, _, _, _, _, _, _, rfl, _⟩; rfl) | (rintro _ _ _ ⟨_, _, _, _, _, _, _, _, _, _, rfl, _⟩; rfl) | (rintro _ _ _ ⟨_, _, _, _, _, _, _, _, _, _, _, rfl, _⟩; rfl))
set_option hygiene false in
local macro_rules | `(tactic| walk_at "vs") => `(tactic| first | dsimp only [wSs, wS, wE, wA, zG, Nn, wP, Np, Bk, b7, setAt, List.getElem?_cons_zero, List.getElem?_cons_succ, look, List.set, aO, bI, bf, aq, List.map_cons, List.map_nil, List.nil_append, List.cons_append, x_len, E6, E7, L1, L3, L5, E8, Bl, Bm, wM, L6, L7, L8, Ma, Mb, E9, Mc, Me, Mf, Sq, Su, x_lt, Sv, Sw, Sx, Bo, Sy, Mg, Mh, Mi, Sz, Mj, Ml, Mm, Mn, Bp, wN, SA, Mp, Mq, SD, Fb, Bq, fall, List.replicate, if_true, Bool.not_true, Bool.not_false] | simp only [wSs, wS, wE, wA, zG, Nn, wP, Np, Bk, b7, setAt, List.getElem?_cons_zero, List.getElem?_cons_succ, look, List.set, aO, bI, bf, aq, List.map_cons, List.map_nil, List.nil_append, List.cons_append, x_len, E6, E7, L1, L3, L5, E8, Bl, Bm, wM, L6, L7, L8, Ma, Mb, E9, Mc, Me, Mf, Sq, Su, x_lt, Sv, Sw, Sx, Bo, Sy, Mg, Mh, Mi, Sz, Mj, Ml, Mm, Mn, Bp, wN, SA, Mp, Mq, SD, Fb, Bq, fall, List.replicate, if_true, Bool.not_true, Bool.not_false] | skip)
set_option hygiene false in
local macro_rules | `(tactic| walk_at "hd") => `(tactic| (refine' VZ.SG ?ka ?kl ?kc ?kk; (case ka => k_is); (case kl => k_is); (case kc => k_is); (case kk => k_is)))
set_option hygiene false in
local macro_rules | `(tactic| walk_at "hm") => `(tactic| (refine' VZ.SH ?ka ?ki ?kl ?kc ?kk; (case ka => k_is); (case ki => k_is); (case kl => k_is); (case kc => k_is); (case kk => k_is)))
noncomputable section
set_option bootstrap.genMatcherCode false
namespace L2
open PySem PySem.Spec PyProof.Rows
abbrev Key:=Sum Int Str
noncomputable def Mr:Key->Value->Bool
 |.inl k,v=>Value.isInt k v
 |.inr x,v=>Value.isStrOf x v
noncomputable def Wl(w:World):Key->Int
 |.inl k=>hashInt k
 |.inr x=>hashStr w x
theorem bO:∀{k:Key} {v:Value},Mr k v=true->(∃i t,k=Sum.inl i/\v=Value.int i t)\/(∃x t,k=Sum.inr x/\v=Value.str x t)
 |.inl i,v,h=>by
  obtain⟨t,e⟩:=Value.isInt_shape (k:=i) (v:=v) h
  exact .inl ⟨i,t,rfl,e⟩
 |.inr x,v,h=>by
  obtain⟨t,e⟩:=Value.isStrOf_shape (x:=x) (v:=v) h
  exact .inr ⟨x,t,rfl,e⟩
theorem Nq(a b:Int):decide ((Sum.inl a:Key)=Sum.inl b)=(a==b):=by
 by_cases e:a=b
 ·subst e;simp
 ·have h:¬(Sum.inl a:Key)=Sum.inl b:=fun q=>e (Sum.inl.inj q)
  rw[decide_eq_false h]
  exact(beq_eq_false_iff_ne.mpr e).symm
theorem Nr(a b:Str):decide ((Sum.inr a:Key)=Sum.inr b)=decide (a=b):=by
 by_cases e:a=b
 ·subst e;simp
 ·have h:¬(Sum.inr a:Key)=Sum.inr b:=fun q=>e (Sum.inr.inj q)
  rw[decide_eq_false h,decide_eq_false e]
theorem Nt(a:Int)(b:Str):decide ((Sum.inl a:Key)=Sum.inr b)=false:=decide_eq_false (fun q=>nomatch q)
theorem Nu(a:Str)(b:Int):decide ((Sum.inr a:Key)=Sum.inl b)=false:=decide_eq_false (fun q=>nomatch q)
noncomputable def Br(prog:Program)(w:World):PySem.KeyKind prog w Key where
 is:=Mr
 hash:=Wl w
 inj:=fun v a b ha hb=>by
  rcases bO ha with⟨i,t,rfl,rfl⟩|⟨x,t,rfl,rfl⟩
  ·rcases bO hb with⟨j,u,rfl,e⟩|⟨y,u,rfl,e⟩
   ·injection e with e1 _;rw[e1]
   ·exact nomatch e
  ·rcases bO hb with⟨j,u,rfl,e⟩|⟨y,u,rfl,e⟩
   ·exact nomatch e
   ·injection e with e1 _;rw[e1]
 byValue:=fun k v h=>by
  rcases bO h with⟨i,t,rfl,rfl⟩|⟨x,t,rfl,rfl⟩<;>rfl
 pyHash:=fun hv h=>by
  rcases bO hv with⟨i,t,rfl,rfl⟩|⟨x,t,rfl,rfl⟩
  ·exact wpAny_pyHash_int h
  ·exact wpAny_pyHash_str h
 eqBool:=fun hu hv h=>by
  rcases bO hu with⟨i,t,rfl,rfl⟩|⟨x,t,rfl,rfl⟩
  ·rcases bO hv with⟨j,u,rfl,rfl⟩|⟨y,u,rfl,rfl⟩
   ·rw[Nq]at h;exact wpAny_eqBool_int h
   ·rw[Nt]at h;exact SeqAt.EqAt.int_str i t y u _ _ _ _ h
  ·rcases bO hv with⟨j,u,rfl,rfl⟩|⟨y,u,rfl,rfl⟩
   ·rw[Nu]at h;exact SeqAt.EqAt.str_int x t j u _ _ _ _ h
   ·rw[Nr]at h;exact wpAny_eqBool_str h
 «strs»:=fun k x t v h=>by
  rcases bO h with⟨i,u,rfl,e⟩|⟨y,u,rfl,e⟩
  ·exact nomatch e
  ·injection e with e1 _
   subst e1
   cases v<;>rfl
inductive V where
 |aU|bl (b:Bool)|int (i:Int)|str (x:Str)|EX (b:Array UInt8)|Nv (b:UInt64)|ref (a:Addr)|ty (n:String)
 deriving DecidableEq
noncomputable def RelV:V->Value->Prop
 |.aU,u=>u=Value.none
 |.bl b,u=>u=Value.bool b
 |.int i,u=>∃t,u=Value.int i t
 |.str x,u=>∃t,u=Value.str x t
 |.EX b,u=>∃t,u=Value.bytes b t
 |.Nv b,u=>∃t,u=Value.float b t
 |.ref a,u=>u=Value.ref a
 |.ty n,u=>u=Value.type n
abbrev Vals:List V->List Value->Prop:=Paired RelV
theorem Vals.length{xs:List V}{us:List Value}(r:Vals xs us):xs.length=us.length:=Paired.length r
theorem Vals.get:∀{xs:List V} {us:List Value} {i:Nat} {x:V},Vals xs us->xs[i]?=some x->∃u,us[i]?=some u/\RelV x u
 |_,_,_,_,.nil,e=>by simp at e
 |_,_,0,_,.cons r _,e=>by simp at e;subst e;exact⟨_,rfl,r⟩
 |_,_,i+1,x,.cons _ t,e=>by
  obtain⟨u,h1,h2⟩:=Vals.get (i:=i) (x:=x) t (by simpa using e)
  exact⟨u,by simpa using h1,h2⟩
theorem Vals.set{x:V}{u:Value}(r:RelV x u):∀{xs:List V} {us:List Value} (i:Nat),Vals xs us->Vals (xs.set i x) (us.set i u)
 |_,_,_,.nil=>.nil
 |_,_,0,.cons _ t=>.cons r t
 |_,_,i+1,.cons q t=>.cons q (Vals.set r i t)
theorem Vals.append:∀{xs ys:List V} {us ws:List Value},Vals xs us->Vals ys ws->Vals (xs++ys) (us++ws)
 |_,_,_,_,.nil,s=>s
 |_,_,_,_,.cons r t,s=>.cons r (Vals.append t s)
theorem Vals.take:∀{xs:List V} {us:List Value} (n:Nat),Vals xs us->Vals (xs.take n) (us.take n)
 |_,_,0,_=>.nil
 |_,_,_+1,.nil=>.nil
 |_,_,n+1,.cons r t=>.cons r (Vals.take n t)
theorem Vals.drop:∀{xs:List V} {us:List Value} (n:Nat),Vals xs us->Vals (xs.drop n) (us.drop n)
 |_,_,0,r=>r
 |_,_,_+1,.nil=>.nil
 |_,_,n+1,.cons _ t=>Vals.drop n t
noncomputable def se:Option V->Option Value->Prop
 |some v,some u=>RelV v u
 |none,none=>True
 |_,_=>False
noncomputable def KV{κ:Type}:List (κ×V)->List (κ×Value)->Prop:=Paired fun(p:κ×V) (q:κ×Value)=>p.1=q.1/\RelV p.2 q.2
noncomputable def kV:Key->V
 |.inl i=>.int i
 |.inr x=>.str x
inductive HO where
 |lst (xs:List V)
 |tup (xs:List V)
 |dK (kvs:List (Key×V))|dT (kvs:List (List Key×V))
 |set (S:Int->Bool) (n:Nat)
 |ins (C dx:Addr) (fs:List (Str×V))
 |own (x:Addr)
 |xd (fs:List (Str×V))
 |met (f x:Addr)
 |nO (lo hi:Int)
 |wO (o:Obj) (u:HO)
 |Mt (ps:Array Value)
 |ext (φ:Heap->Prop)
abbrev Hp:=Addr->Option HO
noncomputable def upd(H:Hp)(a:Addr)(o:HO):Hp:=fun b=>if b=a then some o else H b
theorem aD{H:Hp}{a:Addr}{o:HO}:upd H a o a=some o:=by unfold upd;rw[if_pos rfl]
theorem ao{H:Hp}{a b:Addr}{o:HO}(h:b≠a):upd H a o b=H b:=by unfold upd;rw[if_neg h]
theorem aR{H:Hp}{a b:Addr}{o:HO}(h:H a=some o)(h':H b=none):a≠b:=by
 intro e;subst e;rw[h]at h';cases h'
section
variable(P:Program)(w:World)
noncomputable def cI(H:Hp)(h:Heap)(a:Addr):HO->Prop
 |.lst xs=>xs.length<=sizeLine/\∃(its:List Value) (n:Nat),Vals xs its/\h.get? a=some {cls:=.type "list",data:=.seq its.toArray n}
 |.tup xs=>xs.length<=sizeLine/\∃its:List Value,Vals xs its/\IsTup h a its.toArray
 |.dK kvs=>kvs.length<=sizeLine/\(a==sysModules)=false/\∃vs,KV kvs vs/\h.DictOf (Br P w) a vs
 |.dT kvs=>kvs.length<=sizeLine/\(a==sysModules)=false/\∃xs:List (List Key×Addr×Value),
   Paired (fun(p:List Key×V) (q:List Key×Addr×Value)=>p.1=q.1/\H q.2.1=some (.tup (p.1.map kV))/\RelV p.2 q.2.2) kvs xs/\
   ∃o es ep,h.get? a=some o/\o.ExactDict/\o.data=.dict es ep/\es.toList=xs.map (entryOfKey (tupleKind (Br P w)))/\(xs.map (·.1)).Nodup
 |.set S n=>h.SetOf (intKind P w) a S n
 |.ins C dx fs=>H dx=some (.own a)/\fs.length<=1000/\dx≠a/\h.get? a=some (PySem.W.instObj C dx)/\
   ∃mA,h.Ns1 dx mA/\(∀f,se (fs.lookup f) (mA f))/\PySem.Within mA (fs.map (·.1))
 |.own _=>∃o,h.get? a=some o
 |.xd fs=>∃mA,h.Ns1 a mA/\∀f,se (fs.lookup f) (mA f)
 |.nO lo hi=>∃t u v,h.get? a=some {cls:=.type "range",data:=.fields #[.int lo t,.int hi u,.int 1 v]}
 |.wO o u=>h.get? a=some o/\cI H h a u
 |.Mt ps=>h.get? a=some {cls:=.none,data:=.fields ps}
 |.met f x=>h.get? a=some (PySem.W.methodObj (.ref f) (.ref x))
 |.ext φ=>φ h/\(∃o,h.get? a=some o)/\∀h1 h2:Heap,φ h1->(∀o,h1.get? a=some o->h2.get? a=some o)->φ h2
noncomputable def lN(H:Hp)(h:Heap):Prop:=∀a o,H a=some o->cI P w H h a o
end
section
variable{P:Program}{w:World}{H H':Hp}{h h':Heap}{a:Addr}{o:HO}
theorem cI.lt(x:cI P w H h a o):a<h.objs.size:=by
 cases o with
 |lst xs=>obtain⟨_,_,_,_,e⟩:=x;exact Heap.lt_size e
 |tup xs=>obtain⟨_,_,_,p⟩:=x;exact p.lt
 |dK kvs=>obtain⟨_,_,_,_,o,_,_,e,_⟩:=x;exact Heap.lt_size e
 |dT kvs=>obtain⟨_,_,_,_,o,_,_,e,_⟩:=x;exact Heap.lt_size e
 |set S n=>obtain⟨o,_,_,_,e,_⟩:=x;exact Heap.lt_size e
 |ins C dx fs=>obtain⟨_,_,_,e,_⟩:=x;exact Heap.lt_size e
 |own y=>obtain⟨_,e⟩:=x;exact Heap.lt_size e
 |xd fs=>obtain⟨_,⟨_,_,_,e,_⟩,_⟩:=x;exact Heap.lt_size e
 |nO lo hi=>obtain⟨_,_,_,e⟩:=x;exact Heap.lt_size e
 |wO ob u=>obtain⟨e,_⟩:=x;exact Heap.lt_size e
 |Mt ps=>exact Heap.lt_size (show h.get? a=some _ from x)
 |met f y=>exact Heap.lt_size (show h.get? a=some _ from x)
 |ext φ=>obtain⟨_,⟨_,e⟩,_⟩:=x;exact Heap.lt_size e
theorem Paired.SI{α β:Type}{F G:α->β->Prop}:∀{l₁:List α} {l₂:List β},Paired F l₁ l₂->(∀a b,F a b->G a b)->Paired G l₁ l₂
 |_,_,.nil,_=>.nil
 |_,_,.cons r t,f=>.cons (f _ _ r) (Paired.SI t f)
theorem cI.stay(x:cI P w H h a o)(k:∀b u,(b=a\/H b=some (.own a))->h.get? b=some u->h'.get? b=some u)
 (ho:∀b,H b=some (.own a)->H' b=some (.own a)) (ht:∀b xs,H b=some (.tup xs)->H' b=some (.tup xs)):cI P w H' h' a o:=by
 induction o with
 |lst xs=>obtain⟨z,its,n,r,e⟩:=x;exact⟨z,its,n,r,k _ _ (.inl rfl) e⟩
 |tup xs=>obtain⟨z,its,r,ob,e,c⟩:=x;exact⟨z,its,r,ob,k _ _ (.inl rfl) e,c⟩
 |dK kvs=>obtain⟨z,y,vs,r,ob,es,ep,e,c⟩:=x;exact⟨z,y,vs,r,ob,es,ep,k _ _ (.inl rfl) e,c⟩
 |dT kvs=>
  obtain⟨z,y,xs,r,ob,es,ep,e,c⟩:=x
  exact⟨z,y,xs,Paired.SI r fun p q z=>⟨z.1,ht _ _ z.2.1,z.2.2⟩,ob,es,ep,k _ _ (.inl rfl) e,c⟩
 |set S n=>obtain⟨ob,es,ep,t,e,c⟩:=x;exact⟨ob,es,ep,t,k _ _ (.inl rfl) e,c⟩
 |ins C dx fs=>
  obtain⟨d,z,ne,e,mA,⟨od,es,ep,e2,c⟩,r⟩:=x
  exact⟨ho _ d,z,ne,k _ _ (.inl rfl) e,mA,⟨od,es,ep,k _ _ (.inr d) e2,c⟩,r⟩
 |own y=>obtain⟨ob,e⟩:=x;exact⟨ob,k _ _ (.inl rfl) e⟩
 |xd fs=>obtain⟨mA,⟨od,es,ep,e,c⟩,r⟩:=x;exact⟨mA,⟨od,es,ep,k _ _ (.inl rfl) e,c⟩,r⟩
 |nO lo hi=>obtain⟨t,u,v,e⟩:=x;exact⟨t,u,v,k _ _ (.inl rfl) e⟩
 |wO ob u ih=>obtain⟨e,q⟩:=x;exact⟨k _ _ (.inl rfl) e,ih q⟩
 |Mt ps=>
  have e:h.get? a=some {cls:=.none,data:=.fields ps}:=x
  show h'.get? a=some {cls:=.none,data:=.fields ps}
  exact k a _ (.inl rfl) e
 |met f y=>
  have e:h.get? a=some (PySem.W.methodObj (.ref f) (.ref y)):=x
  show h'.get? a=some (PySem.W.methodObj (.ref f) (.ref y))
  exact k a _ (.inl rfl) e
 |ext φ=>obtain⟨p,⟨o,e⟩,st⟩:=x;exact⟨st _ _ p fun o q=>k _ _ (.inl rfl) q,⟨o,k _ _ (.inl rfl) e⟩,st⟩
theorem lN.lt(x:lN P w H h)(e:H a=some o):a<h.objs.size:=(x a o e).lt
theorem lN.fresh(x:lN P w H h)(e:h.objs.size<=a):H a=none:=by
 cases q:H a with
 |none=>rfl
 |some u=>exact absurd (Nat.lt_of_lt_of_le (x.lt q) e) (Nat.lt_irrefl _)
theorem lN.kept(x:lN P w H h)(k:∀b u,h.get? b=some u->h'.get? b=some u):lN P w H h':=fun a o e=>
 (x a o e).stay (fun b u _ q=>k b u q) (fun _ q=>q) fun _ _ q=>q
theorem lN.laid(x:lN P w H h)(k:∀b u,h.get? b=some u->h'.get? b=some u)(hp:h.objs.size<=a)(new:cI P w (upd H a o) h' a o):lN P w (upd H a o) h':=fun b u e=>by
 have hn:=x.fresh hp
 by_cases hb:b=a
 ·subst hb;rw[aD]at e;cases e;exact new
 ·rw[ao hb]at e
  exact(x b u e).stay (fun c v _ q=>k c v q) (fun c q=>by rw[ao (aR q hn)];exact q) fun c xs q=>by rw[ao (aR q hn)];exact q
end
noncomputable def Rd(H:Hp)(a:Addr)(u:HO):Prop:=H a=some u\/∃o,H a=some (.wO o u)
theorem Rd.ok{P:Program}{w:World}{H:Hp}{h:Heap}{a:Addr}{u:HO}(r:Rd H a u)(x:lN P w H h):cI P w H h a u:=by
 rcases r with r|⟨o,r⟩
 ·exact x a u r
 ·obtain⟨_,q⟩:=x a _ r
  exact q
noncomputable def V1:Option HO->Prop
 |some (.lst _)=>True
 |some (.dK _)=>True
 |some (.dT _)=>True
 |some (.set _ _)=>True
 |some (.ins _ _ _)=>True
 |some (.ext _)=>True
 |_=>False
section
variable{P:Program}{w:World}{H:Hp}{h h':Heap}{x e:Addr}{o':HO}
theorem lN.write(ok:lN P w H h)(mu:V1 (H x))(he:e=x\/H e=some (.own x))(k:∀b u,b≠e->h.get? b=some u->h'.get? b=some u)(RQ:∃u,h'.get? e=some u)
 (new:cI P w (upd H x o') h' x o'):lN P w (upd H x o') h':=fun b u q=>by
 have SJ:∀c y,H c=some (.own y)->c≠x:=fun c y r z=>by subst z;rw[r]at mu;exact mu
 have Wm:∀c xs,H c=some (.tup xs)->c≠x:=fun c xs r z=>by subst z;rw[r]at mu;exact mu
 by_cases hb:b=x
 ·subst hb;rw[aD]at q;cases q;exact new
 ·rw[ao hb]at q
  by_cases Nx:b=e
  ·have q':H b=some (.own x):=by
    rcases he with z|z
    ·exact absurd (Nx.trans z) hb
    ·rw[Nx];exact z
   rw[q]at q';cases q'
   obtain⟨v,hv⟩:=RQ
   exact⟨v,by rw[Nx];exact hv⟩
  ·refine(ok b u q).stay (fun c v hc r=>k c v ?_ r) (fun c r=>by rw[ao (SJ c b r)];exact r) fun c xs r=>by rw[ao (Wm c xs r)];exact r
   rcases hc with rfl|hc
   ·exact Nx
   ·rintro rfl
    rcases he with z|z
    ·exact SJ c b hc z
    ·rw[hc]at z;cases z;exact hb rfl
end
structure Un(fs ex:List Addr)(H H':Hp)(h h':Heap):Prop where
 keep:∀b o,h.get? b=some o->H b=none->b∉fs->b∉ex->h'.get? b=some o
 slot:∀b o,h.get? b=some o->H b=none->b∈fs->b∉ex->∃sl,h'.get? b=some {o with slots:=sl}
 free:∀b o,h.get? b=some o->H b=none->b∉ex->H' b=none
 there:∀b o,h.get? b=some o->b∉ex->∃o',h'.get? b=some o'
 tups:∀b xs,H b=some (.tup xs)->H' b=some (.tup xs)
 lU:∀b o u,H b=some (.wO o u)->H' b=some (.wO o u)
 nT:∀b ps,H b=some (.Mt ps)->∃more,H' b=some (.Mt (ps++more))
section
variable{fs fs' ex ex':List Addr}{H H1 H2:Hp}{h h1 h2 h':Heap}{a x e:Addr}{o:HO}
theorem Un.any(u:Un fs ex H H1 h h1){b:Addr}{ob:Obj}(q:h.get? b=some ob)(n:H b=none)(hx:b∉ex):∃sl,h1.get? b=some {ob with slots:=sl}:=by
 by_cases hb:b∈fs
 ·exact u.slot b ob q n hb hx
 ·exact⟨ob.slots,u.keep b ob q n hb hx⟩
theorem Un.kept(k:∀b u,h.get? b=some u->h'.get? b=some u):Un fs ex H H h h':=
 ⟨fun b ob q _ _ _=>k b ob q,fun b ob q _ _ _=>⟨ob.slots,k b ob q⟩,fun _ _ _ n _=>n,fun b ob q _=>⟨ob,k b ob q⟩,fun _ _ q=>q,fun _ _ _ q=>q,fun _ ps q=>⟨#[],by rw[q];simp⟩⟩
theorem Un.refl:Un fs ex H H h h:=Un.kept fun _ _ q=>q
theorem Un.laid(k:∀b u,h.get? b=some u->h'.get? b=some u)(hp:h.objs.size<=a)(hn:H a=none):Un fs ex H (upd H a o) h h' where
 keep:=fun b u q _ _ _=>k b u q
 slot:=fun b u q _ _ _=>⟨u.slots,k b u q⟩
 free:=fun b u q n _=>by rw[ao (Nat.ne_of_lt (Nat.lt_of_lt_of_le (Heap.lt_size q) hp))];exact n
 there:=fun b u q _=>⟨u,k b u q⟩
 tups:=fun b xs q=>by rw[ao (aR q hn)];exact q
 lU:=fun b u xs q=>by rw[ao (aR q hn)];exact q
 nT:=fun b ps q=>⟨#[],by rw[ao (aR q hn),q];simp⟩
theorem Un.write(mu:V1 (H x))(he:e=x\/H e=some (.own x))(k:∀b u,b≠e->h.get? b=some u->h'.get? b=some u)(RQ:∃u,h'.get? e=some u):Un fs ex H (upd H x o) h h':=by
 have hx:∀b,H b=none->b≠x:=fun b n z=>by subst z;rw[n]at mu;exact mu
 have hb:∀b,H b=none->b≠e:=fun b n z=>by
  subst z
  rcases he with r|r
  ·exact hx b n r
  ·rw[n]at r;cases r
 have hm:∀b u,H b=some u->¬V1 (some u)->b≠x:=fun b u q nm z=>by subst z;rw[q]at mu;exact nm mu
 refine⟨fun b u q n _ _=>k b u (hb b n) q,fun b u q n _ _=>⟨u.slots,k b u (hb b n) q⟩,fun b u q n _=>by rw[ao (hx b n)];exact n,fun b u q _=>?_,
  fun b xs q=>by rw[ao (hm b _ q fun z=>z)];exact q,fun b u xs q=>by rw[ao (hm b _ q fun z=>z)];exact q,fun b ps q=>⟨#[],by rw[ao (hm b _ q fun z=>z),q];simp⟩⟩
 by_cases Nx:b=e
 ·subst Nx;exact RQ
 ·exact⟨u,k b u Nx q⟩
end
noncomputable def V2(h:Heap)(H:Hp):List Addr:=(List.range h.objs.size).filter fun a=>(H a).isSome
noncomputable def uB(h:Heap)(H:Hp):Heap:=PySem.W.hideAll h (V2 h H)
theorem Dl(h:Heap)(H:Hp):(uB h H).objs.size=h.objs.size:=PySem.W.hideAll_size _ _
theorem Fc{h:Heap}{H:Hp}{b:Addr}{o:Obj}(e:h.get? b=some o)(n:H b=none):(uB h H).get? b=some o:=
 PySem.W.hideAll_get _ e fun hm=>by
  have q:(H b).isSome=true:=(List.mem_filter.mp hm).2
  rw[n]at q;simp at q
theorem Jq{h:Heap}{H:Hp}{b:Addr}{o:Obj}(e:(uB h H).get? b=some o):h.get? b=some o/\H b=none:=by
 have e':h.get? b=some o:=PySem.W.of_hideAll (V2 h H) e
 refine⟨e',?_⟩
 cases q:H b with
 |none=>rfl
 |some x=>
  have hm:b∈V2 h H:=List.mem_filter.mpr ⟨List.mem_range.mpr (Heap.lt_size e'),by simp[q]⟩
  have z:(uB h H).get? b=none:=PySem.W.hideAll_none (V2 h H) hm
  rw[z]at e;cases e
noncomputable def Jr(g h:Heap)(L:Addr):List (Addr×Obj):=(List.range h.objs.size).filterMap fun a=>if a=L\/(g.get? a).isSome=true then none else(h.get? a).map fun o=>(a,o)
noncomputable def rest(g h:Heap)(L d:Addr):List (Addr×Obj):=(Jr g h L).filter fun p=>decide (p.1≠d)
structure Mod(K:PySem.W.Frag)(mg:Str->Option Value)(base:Heap):Prop where
 RS:K.In base
 glob:base.Ns mainGlobals mg
 blt:∃mb,base.Ns builtinsNs mb/\∀x:Str,x≠"__name__"->mb x=bootBuiltins x
 nolimit:base.NoLimit
set_option genInjectivity false in
set_option genSizeOf false in
structure Cx where
 prog:Program
 w:World
 K:PySem.W.Frag
 mg:Str->Option Value
 base:Heap
 A:Around
 N:List Str
 s₀:Shared
 H₀:Hp
 env:Env
 outer:List Env
 stack:List Env
 ex:List Addr
 fn:Str->Bool
 calm:Bool
 pn:List (Addr×Obj)
 xe:Value->Shared->Prop
noncomputable def frs(l:List Env):List Addr:=l.filterMap (·.frame)
abbrev Cx.fs(X:Cx):List Addr:=frs X.outer
noncomputable def RT(sc:Scope)(x:Str):Prop:=sc.names.lookup x=some .local\/sc.names.lookup x=some .cell\/sc.names.lookup x=some .free
noncomputable def Loc(sc:Scope)(x:Str):Prop:=sc.names.lookup x=some .local\/sc.names.lookup x=some .cell
noncomputable def Look(env:Env)(h:Heap)(m:Str->Option Value)(x:Str)(u:Value):Prop:=
 (env.kindOf x=some .local/\m x=some u)\/((env.kindOf x=some .cell\/env.kindOf x=some .free)/\∃c,env.cells.lookup x=some c/\h.IsCell c (some u))
structure Cx.Ok(X:Cx):Prop where
 mod:Mod X.K X.mg X.base
 kind:X.env.scope.kind=.function
 glob:X.env.globals=mainGlobals
 blt:X.env.builtins=builtinsNs
 above:X.s₀.heap.objs.size<=X.env.locals
 inj:∀x y c,X.env.cells.lookup x=some c->X.env.cells.lookup y=some c->x=y
 has:∀x,(X.env.kindOf x=some .cell\/X.env.kindOf x=some .free)->∃c,X.env.cells.lookup x=some c
 SK:∀x c,X.fn x=true->X.env.cells.lookup x=some c->X.s₀.heap.objs.size<=c
 hd:X.calm=true->X.A.handled=none
 frames:X.A.frames=some X.stack
 stk:X.stack=X.outer\/(X.stack=X.env::X.outer/\X.env.frame=some X.env.locals)
 V3:∀b∈X.ex,b≠X.env.locals/\∀x c,X.env.cells.lookup x=some c->c≠b
 bs:∀b o,X.base.get? b=some o->X.s₀.heap.get? b=some o/\X.H₀ b=none
 Js:X.base.objs.size<=X.s₀.heap.objs.size
 Fd:∀b o,X.base.get? b=some o->b∉X.ex
 Dp:∀b∈X.ex,b∉X.fs
 o8:X.s₀.heap.FunFrames X.base X.outer
 Ny:∀b∈X.fs,X.H₀ b=none
structure Inv(X:Cx)(pins:List (Addr×Obj))(σ:List (Option V))(H:Hp)(s:Shared):Prop where
 ok:X.Ok
 os:s.os=X.s₀.os
 bare:AllBare s.gens
 base:Un X.fs X.ex X.H₀ H X.s₀.heap s.heap
 loc:∃m,s.heap.Ns X.env.locals m/\∀(i:Nat) (x:Str) (v:V),X.N[i]?=some x->σ[i]?=some (some v)->RT X.env.scope x->∃u,RelV v u/\Look X.env s.heap m x u
 cell:∀x c,X.env.cells.lookup x=some c->∃v,s.heap.IsCell c v
 free:H X.env.locals=none
 ko:∀x c,X.env.cells.lookup x=some c->H c=none
 pin:∀p∈X.pn++pins,s.heap.get? p.1=some p.2/\H p.1=none/\p.1≠X.env.locals/\p.1∉X.fs/\∀v,p.2.data≠.cell v
 hok:lN X.prog X.w H s.heap
 len:σ.length=X.N.length
section
variable{X:Cx}{pins:List (Addr×Obj)}{σ:List (Option V)}{H H':Hp}{s:Shared}{h':Heap}
theorem Cx.Ok.Jt(ok:X.Ok){b:Addr}{o:Obj}(e:X.base.get? b=some o):b∉X.fs:=fun hb=>by
 have:=(ok.o8.mem hb).1
 rw[e]at this;cases this
theorem Inv.bs(I:Inv X pins σ H s):∀b o,X.base.get? b=some o->s.heap.get? b=some o/\H b=none:=fun b o e=>
 ⟨I.base.keep b o (I.ok.bs b o e).1 (I.ok.bs b o e).2 (I.ok.Jt e) (I.ok.Fd b o e),I.base.free b o (I.ok.bs b o e).1 (I.ok.bs b o e).2 (I.ok.Fd b o e)⟩
theorem Inv.bk(I:Inv X pins σ H s):∀b o,X.base.get? b=some o->s.heap.get? b=some o:=fun b o e=>(I.bs b o e).1
theorem Inv.mod(I:Inv X pins σ H s):Mod X.K X.mg X.base:=I.ok.mod
theorem Inv.oG(I:Inv X pins σ H s):X.K.In s.heap:=I.ok.mod.RS.keeps I.bk
theorem Inv.lt(I:Inv X pins σ H s):X.env.locals<s.heap.objs.size:=let⟨_,hn,_⟩:=I.loc;hn.lt
theorem Inv.sz(I:Inv X pins σ H s):X.s₀.heap.objs.size<=s.heap.objs.size:=Nat.le_trans I.ok.above (Nat.le_of_lt I.lt)
theorem Inv.Wn(I:Inv X pins σ H s){a:Addr}(h:s.heap.objs.size<=a):a∉X.fs:=fun hb=>by
 obtain⟨_,o,ho,_⟩:=I.ok.o8.mem hb
 exact absurd (Nat.lt_of_lt_of_le (Heap.lt_size ho) (Nat.le_trans I.sz h)) (Nat.lt_irrefl _)
theorem Inv.Nz(I:Inv X pins σ H s):∀x c,X.env.cells.lookup x=some c->c≠X.env.locals:=fun x c e z=>by
 obtain⟨v,o,ho,hd⟩:=I.cell x c e
 obtain⟨m,⟨o',es,ep,ho',hd',_⟩,_⟩:=I.loc
 rw[z,ho']at ho;cases ho;rw[hd']at hd;cases hd
theorem Inv.o8(I:Inv X pins σ H s):s.heap.FunFrames X.base X.outer:=by
 have all:∀(l:List Env),(∀b∈frs l,b∈X.fs)->X.s₀.heap.FunFrames X.base l->s.heap.FunFrames X.base l:=by
  intro l
  induction l with
  |nil=>intro _ _;trivial
  |cons env r ih=>
   intro hs hl
   obtain⟨hk,⟨L,o,hf,hn,ho,hd⟩,hr⟩:=hl
   have hL:L∈X.fs:=hs L (by unfold frs;rw[List.filterMap_cons,hf];exact List.mem_cons_self)
   obtain⟨sl,e⟩:=I.base.slot L o ho (I.ok.Ny L hL) hL fun z=>I.ok.Dp L z hL
   exact⟨hk,⟨L,_,hf,hn,e,hd⟩,ih (fun b hb=>hs b (by unfold frs;rw[List.filterMap_cons,hf];exact List.mem_cons_of_mem _ hb)) hr⟩
 exact all X.outer (fun _ hb=>hb) I.ok.o8
theorem Inv.stack(I:Inv X pins σ H s):s.heap.FunFrames X.base X.stack:=by
 rcases I.ok.stk with e|⟨e,hf⟩
 ·rw[e];exact I.o8
 ·rw[e]
  obtain⟨m,hn,_⟩:=I.loc
  refine .cons (by rw[I.ok.kind];decide) hf hn ?_ I.o8
  exact Heap.get?_none_of_le (Nat.le_trans I.ok.Js I.ok.above)
theorem Inv.zH(I:Inv X pins σ H s):∀b∈frs X.stack,b∈X.env.locals::X.fs:=fun b hb=>by
 rcases I.ok.stk with e|⟨e,hf⟩
 ·rw[e]at hb;exact List.mem_cons_of_mem _ hb
 ·rw[e]at hb
  unfold frs at hb
  rw[List.filterMap_cons,hf]at hb
  exact hb
theorem Inv.lV(I:Inv X pins σ H s):∀b∈frs X.stack,H b=none:=fun b hb=>by
 rcases List.mem_cons.mp (I.zH b hb)with e|hb
 ·rw[e];exact I.free
 ·obtain⟨_,o,ho,_⟩:=I.ok.o8.mem hb
  exact I.base.free b o ho (I.ok.Ny b hb) fun z=>I.ok.Dp b z hb
theorem Inv.step{g':Array GenState}{t':Nat}{d':Drawn}{ch:List Addr}(I:Inv X pins σ H s)
 (hch:∀b∈ch,(b∈X.ex\/X.s₀.heap.objs.size<=b)/\b≠X.env.locals/\(∀x c,X.env.cells.lookup x=some c->c≠b)/\∀p∈X.pn++pins,p.1≠b)
 (keep:∀b o,b≠X.env.locals->b∉X.fs->b∉ch->s.heap.get? b=some o->H b=none->h'.get? b=some o)
 (slot:∀b o,b≠X.env.locals->b∈X.fs->b∉ch->s.heap.get? b=some o->H b=none->∃sl,h'.get? b=some {o with slots:=sl}) (free:∀b o,b∉ch->s.heap.get? b=some o->H b=none->H' b=none)
 (there:∀b o,b∉ch->s.heap.get? b=some o->∃o',h'.get? b=some o')
 (tups:∀b xs,H b=some (.tup xs)->H' b=some (.tup xs)) (lU:∀b o u,H b=some (.wO o u)->H' b=some (.wO o u)) (nT:∀b ps,H b=some (.Mt ps)->∃more,H' b=some (.Mt (ps++more)))
 (ns:∀m,s.heap.Ns X.env.locals m->h'.Ns X.env.locals m) (hok:lN X.prog X.w H' h') (hg:AllBare g'):
 Inv X pins σ H' {s with heap:=h',gens:=g',drawn:=d',toks:=t'}:=by
 have YU:∀b o,X.s₀.heap.get? b=some o->b≠X.env.locals:=fun b o e=>Nat.ne_of_lt (Nat.lt_of_lt_of_le (Heap.lt_size e) I.ok.above)
 have V4:∀b o,X.s₀.heap.get? b=some o->b∉X.ex->b∉ch:=fun b o e hx hb=>by
  rcases(hch b hb).1 with z|z
  ·exact hx z
  ·exact absurd (Nat.lt_of_lt_of_le (Heap.lt_size e) z) (Nat.lt_irrefl _)
 have cellK:∀x c,X.env.cells.lookup x=some c->∀v,s.heap.IsCell c v->h'.IsCell c v:=fun x c e v ⟨o,ho,hd⟩=>by
  have Mu:c∉ch:=fun z=>(hch c z).2.2.1 x c e rfl
  by_cases hc:c∈X.fs
  ·obtain⟨sl,q⟩:=slot c o (I.Nz x c e) hc Mu ho (I.ko x c e)
   exact⟨_,q,hd⟩
  ·exact⟨o,keep c o (I.Nz x c e) hc Mu ho (I.ko x c e),hd⟩
 refine⟨I.ok,I.os,hg,⟨fun b o e n hb hx=>?_,fun b o e n hb hx=>?_,fun b o e n hx=>?_,fun b o e hx=>?_,fun b xs e=>tups b xs (I.base.tups b xs e),fun b o xs e=>lU b o xs (I.base.lU b o xs e),fun b ps e=>?_⟩,?_,fun x c e=>?_,?_,fun x c e=>?_,fun p hp=>?_,hok,I.len⟩
 ·exact keep b o (YU b o e) hb (V4 b o e hx) (I.base.keep b o e n hb hx) (I.base.free b o e n hx)
 ·obtain⟨sl,e1⟩:=I.base.slot b o e n hb hx
  obtain⟨YV,e2⟩:=slot b _ (YU b o e) hb (V4 b o e hx) e1 (I.base.free b o e n hx)
  exact⟨YV,e2⟩
 ·obtain⟨o',e1⟩:=I.base.there b o e hx
  exact free b o' (V4 b o e hx) e1 (I.base.free b o e n hx)
 ·obtain⟨o',e1⟩:=I.base.there b o e hx
  exact there b o' (V4 b o e hx) e1
 ·obtain⟨m1,e1⟩:=I.base.nT b ps e
  obtain⟨m2,e2⟩:=nT b _ e1
  exact⟨m1++m2,by rw[e2,Array.append_assoc]⟩
 ·obtain⟨m,hn,hl⟩:=I.loc
  refine⟨m,ns m hn,fun i x v e1 e2 e3=>?_⟩
  obtain⟨u,r,l⟩:=hl i x v e1 e2 e3
  refine⟨u,r,?_⟩
  rcases l with l|⟨k,c,e,z⟩
  ·exact .inl l
  ·exact .inr ⟨k,c,e,cellK x c e _ z⟩
 ·obtain⟨v,z⟩:=I.cell x c e
  exact⟨v,cellK x c e v z⟩
 ·obtain⟨m,⟨o,_,_,ho,_⟩,_⟩:=I.loc
  exact free _ o (fun z=>(hch _ z).2.1 rfl) ho I.free
 ·obtain⟨v,o,ho,hd⟩:=I.cell x c e
  exact free c o (fun z=>(hch c z).2.2.1 x c e rfl) ho (I.ko x c e)
 ·obtain⟨e,n,ne,nf,d⟩:=I.pin p hp
  have Mu:p.1∉ch:=fun z=>(hch p.1 z).2.2.2 p hp rfl
  exact⟨keep p.1 p.2 ne nf Mu e n,free p.1 p.2 Mu e n,ne,nf,d⟩
theorem Inv.un{t':Nat}(I:Inv X pins σ H s)(u:Un X.fs [] H H' s.heap h')(hok:lN X.prog X.w H' h'):Inv X pins σ H' {s with heap:=h',toks:=t'}:=by
 obtain⟨m,⟨o,es,ep,ho,r⟩,_⟩:=id I.loc
 obtain⟨sl,hL⟩:=u.any ho I.free (by simp)
 exact I.step (g':=s.gens) (d':=s.drawn) (ch:=[]) (fun _ z=>nomatch z) (fun b o _ hb _ e n=>u.keep b o e n hb (by simp)) (fun b o _ hb _ e n=>u.slot b o e n hb (by simp)) (fun b o _ e n=>u.free b o e n (by simp)) (fun b o _ e=>u.there b o e (by simp)) u.tups u.lU u.nT (fun m' hm=>by
  obtain⟨o',es',Wo,ho',r'⟩:=hm
  rw[ho]at ho';cases ho'
  exact⟨_,es',Wo,hL,r'⟩) hok I.bare
theorem Inv.call{g':Array GenState}{t':Nat}{d':Drawn}{ch:List Addr}(I:Inv X pins σ H s)(u:Un (frs X.stack) ch H H' s.heap h')(hok:lN X.prog X.w H' h')(hg:AllBare g')
 (hch:∀b∈ch,(b∈X.ex\/X.s₀.heap.objs.size<=b)/\b≠X.env.locals/\(∀x c,X.env.cells.lookup x=some c->c≠b)/\∀p∈X.pn++pins,p.1≠b):
 Inv X pins σ H' {s with heap:=h',gens:=g',drawn:=d',toks:=t'}:=by
 obtain⟨m,⟨o,es,ep,ho,r⟩,_⟩:=id I.loc
 obtain⟨sl,hL⟩:=u.any ho I.free fun z=>(hch _ z).2.1 rfl
 exact I.step (ch:=ch) hch (fun b o hL hb hc e n=>u.keep b o e n (fun z=>(List.mem_cons.mp (I.zH b z)).elim hL hb) hc) (fun b o _ _ hc e n=>u.any e n hc) (fun b o hc e n=>u.free b o e n hc) (fun b o hc e=>u.there b o e hc) u.tups u.lU u.nT (fun m' hm=>by
  obtain⟨o',es',Wo,ho',r'⟩:=hm
  rw[ho]at ho';cases ho'
  exact⟨_,es',Wo,hL,r'⟩) hok hg
theorem Inv.turned{t':Nat}{it:Addr}(I:Inv X pins σ H s)(k:∀b o,b≠it->s.heap.get? b=some o->h'.get? b=some o)(hn:H it=none)(hL:it≠X.env.locals)
 (h1:it∈X.ex\/X.s₀.heap.objs.size<=it) (h2:∀x c,X.env.cells.lookup x=some c->c≠it) (h3:∀p∈X.pn++pins,p.1≠it):Inv X pins σ H {s with heap:=h',toks:=t'}:=by
 have YW:∀b u,H b=some u->b≠it:=fun b u e z=>by rw[z,hn]at e;cases e
 refine I.step (g':=s.gens) (d':=s.drawn) (ch:=[it]) (fun b hb=>?_) (fun b o _ _ hc e _=>k b o (fun z=>hc (by simp[z])) e) (fun b o _ _ hc e _=>⟨o.slots,k b o (fun z=>hc (by simp[z])) e⟩) (fun _ _ _ _ n=>n)
  (fun b o hc e=>⟨o,k b o (fun z=>hc (by simp[z])) e⟩) (fun _ _ e=>e) (fun _ _ _ e=>e) (fun b ps e=>⟨#[],by rw[e];simp⟩) (fun m hm=>?_) (fun b u e=>?_) I.bare
 ·have e:b=it:=by simpa using hb
  subst e
  exact⟨h1,hL,h2,h3⟩
 ·obtain⟨o,es,ep,ho,r⟩:=hm
  exact⟨o,es,ep,k _ o (Ne.symm hL) ho,r⟩
 ·refine(I.hok b u e).stay (fun c v hc q=>k c v ?_ q) (fun _ q=>q) fun _ _ q=>q
  rcases hc with z|z
  ·rw[z];exact YW b u e
  ·exact YW c _ z
theorem Inv.tok(I:Inv X pins σ H s)(t:Nat):Inv X pins σ H {s with toks:=t}:=I.un (h':=s.heap) (t':=t) Un.refl I.hok
theorem Inv.kept{t':Nat}(I:Inv X pins σ H s)(k:∀b u,s.heap.get? b=some u->h'.get? b=some u):Inv X pins σ H {s with heap:=h',toks:=t'}:=I.un (Un.kept k) (I.hok.kept k)
theorem Inv.laid{a:Addr}{o:HO}{t':Nat}(I:Inv X pins σ H s)(k:∀b u,s.heap.get? b=some u->h'.get? b=some u)(hp:s.heap.objs.size<=a)(new:cI X.prog X.w (upd H a o) h' a o):
 Inv X pins σ (upd H a o) {s with heap:=h',toks:=t'}:=I.un (Un.laid k hp (I.hok.fresh hp)) (I.hok.laid k hp new)
theorem Inv.write{x e:Addr}{o:HO}{t':Nat}(I:Inv X pins σ H s)(mu:V1 (H x))(he:e=x\/H e=some (.own x))(k:∀b u,b≠e->s.heap.get? b=some u->h'.get? b=some u)(RQ:∃u,h'.get? e=some u)
 (new:cI X.prog X.w (upd H x o) h' x o):Inv X pins σ (upd H x o) {s with heap:=h',toks:=t'}:=I.un (Un.write mu he k RQ) (I.hok.write mu he k RQ new)
theorem Inv.Bs{Mv:List (Addr×Obj)}(I:Inv X pins σ H s)(h:∀p∈Mv,s.heap.get? p.1=some p.2/\H p.1=none/\p.1≠X.env.locals/\p.1∉X.fs/\∀v,p.2.data≠.cell v):Inv X Mv σ H s:=
 ⟨I.ok,I.os,I.bare,I.base,I.loc,I.cell,I.free,I.ko,fun p hp=>(List.mem_append.mp hp).elim (fun z=>I.pin p (List.mem_append_left _ z)) (h p),I.hok,I.len⟩
theorem wQ{N:List Str}(hN:N.Nodup){i j:Nat}{x:Str}(a:N[i]?=some x)(b:N[j]?=some x):i=j:=by
 obtain⟨h1,e1⟩:=List.getElem?_eq_some_iff.mp a
 obtain⟨h2,e2⟩:=List.getElem?_eq_some_iff.mp b
 exact(List.getElem_inj hN).mp (e1.trans e2.symm)
theorem tF{M:Model}{A:Around}{E:Value->Shared->Prop}{i:Nat}{x:Str}{v:V}{u:Value}{Q:Unit->Shared->Prop}(I:Inv X pins σ H s)(hN:X.N.Nodup)(hi:X.N[i]?=some x)(hx:Loc X.env.scope x)(r:RelV v u)
 (h:∀s',Inv X pins (σ.set i (some v)) H s'->(∃a,Heap.SameBut a s.heap s'.heap/\(a=X.env.locals\/X.env.cells.lookup x=some a))->Q () s') (hf:X.fn x=true\/X.env.scope.names.lookup x=some .local:=by first|exact .inl rfl|exact .inr rfl|assumption):wpAny M A (storeName X.env x u) Q E s:=by
 obtain⟨m,hn,hl⟩:=id I.loc
 have hcls:(X.env.scope.kind==.class||(X.env.scope.kind==.module&&X.env.locals !=X.env.globals))=false:=by rw[I.ok.kind];rfl
 have SM:i<σ.length:=by rw[I.len];exact(List.getElem?_eq_some_iff.mp hi).1
 have Nz:=I.Nz
 have tracked:∀{a:Addr} {h':Heap},(∃o,s.heap.get? a=some o/\H a=none)->Heap.SameBut a s.heap h'->lN X.prog X.w H h':=fun{a h'} ha hs b ob e=>by
  obtain⟨_,_,hfree⟩:=ha
  refine(I.hok b ob e).stay (fun c w' hc q=>(hs.2 c ?_).trans q) (fun _ q=>q) fun _ _ q=>q
  rintro rfl
  rcases hc with rfl|hc
  ·rw[hfree]at e;cases e
  ·rw[hfree]at hc;cases hc
 rcases hx with hk|hk
 ·refine wpAny_storeName_local hk hn (fun h' hn' hs=>?_) hcls
  obtain⟨oL,_,_,hoL,_⟩:=id hn
  refine h _ ⟨I.ok,I.os,I.bare,⟨fun b o e n hb hx=>?_,fun b o e n hb hx=>?_,I.base.free,fun b o e hx=>?_,I.base.tups,I.base.lU,I.base.nT⟩,⟨_,hn',fun j y v' e1 e2 e3=>?_⟩,fun y c e=>?_,I.free,I.ko,fun p hp=>?_,tracked ⟨oL,hoL,I.free⟩ hs,by simpa using I.len⟩ ⟨_,hs,.inl rfl⟩
  ·exact(hs.2 b (Nat.ne_of_lt (Nat.lt_of_lt_of_le (Heap.lt_size e) I.ok.above))).trans (I.base.keep b o e n hb hx)
  ·obtain⟨sl,e1⟩:=I.base.slot b o e n hb hx
   exact⟨sl,(hs.2 b (Nat.ne_of_lt (Nat.lt_of_lt_of_le (Heap.lt_size e) I.ok.above))).trans e1⟩
  ·obtain⟨o',e1⟩:=I.base.there b o e hx
   exact⟨o',(hs.2 b (Nat.ne_of_lt (Nat.lt_of_lt_of_le (Heap.lt_size e) I.ok.above))).trans e1⟩
  ·by_cases hj:j=i
   ·subst hj
    rw[hi]at e1;cases e1
    rw[List.getElem?_set_self SM]at e2
    cases e2
    exact⟨u,r,.inl ⟨hk,by simp⟩⟩
   ·rw[List.getElem?_set_ne (Ne.symm hj)]at e2
    obtain⟨u',r',q⟩:=hl j y v' e1 e2 e3
    refine⟨u',r',?_⟩
    rcases q with⟨k,e⟩|⟨k,c,e,z⟩
    ·refine .inl ⟨k,?_⟩
     have:y≠x:=fun e=>hj (wQ hN e1 (e▸hi))
     simp[this,e]
    ·exact .inr ⟨k,c,e,z.sameBut hs (Nz y c e)⟩
  ·obtain⟨w',z⟩:=I.cell y c e
   exact⟨w',z.sameBut hs (Nz y c e)⟩
  ·obtain⟨e,n,ne,nf,d⟩:=I.pin p hp
   exact⟨(hs.2 p.1 ne).trans e,n,ne,nf,d⟩
 ·have hfn:X.fn x=true:=by
   rcases hf with z|z
   ·exact z
   ·rw[z]at hk;cases hk
  obtain⟨c,hc⟩:=I.ok.has x (.inl hk)
  obtain⟨w',z⟩:=I.cell x c hc
  refine wpAny_storeName_cell I.ok.kind hk hc z (fun h' hc' hs=>?_)
  obtain⟨oc,hoc,Wq⟩:=id z
  refine h {s with heap:=h'} ⟨I.ok,I.os,I.bare,⟨fun b o e n hb hx=>?_,fun b o e n hb hx=>?_,I.base.free,fun b o e hx=>?_,I.base.tups,I.base.lU,I.base.nT⟩,⟨m,hn.sameBut hs (Ne.symm (Nz x c hc)),fun j y v' e1 e2 e3=>?_⟩,fun y c' e=>?_,I.free,I.ko,fun p hp=>?_,tracked ⟨oc,hoc,I.ko x c hc⟩ hs,by simpa using I.len⟩ ⟨c,hs,.inr hc⟩
  ·exact(hs.2 b (Nat.ne_of_lt (Nat.lt_of_lt_of_le (Heap.lt_size e) (I.ok.SK x c hfn hc)))).trans (I.base.keep b o e n hb hx)
  ·obtain⟨sl,e1⟩:=I.base.slot b o e n hb hx
   exact⟨sl,(hs.2 b (Nat.ne_of_lt (Nat.lt_of_lt_of_le (Heap.lt_size e) (I.ok.SK x c hfn hc)))).trans e1⟩
  ·obtain⟨o',e1⟩:=I.base.there b o e hx
   exact⟨o',(hs.2 b (Nat.ne_of_lt (Nat.lt_of_lt_of_le (Heap.lt_size e) (I.ok.SK x c hfn hc)))).trans e1⟩
  ·by_cases hj:j=i
   ·subst hj
    rw[hi]at e1;cases e1
    rw[List.getElem?_set_self SM]at e2
    cases e2
    exact⟨u,r,.inr ⟨.inl hk,c,hc,hc'⟩⟩
   ·rw[List.getElem?_set_ne (Ne.symm hj)]at e2
    obtain⟨u',r',q⟩:=hl j y v' e1 e2 e3
    refine⟨u',r',?_⟩
    rcases q with q|⟨k,c',e,z'⟩
    ·exact .inl q
    ·refine .inr ⟨k,c',e,z'.sameBut hs ?_⟩
     rintro rfl
     exact hj (wQ hN e1 (I.ok.inj _ _ _ e hc▸hi))
  ·by_cases hcc:c'=c
   ·subst hcc;exact⟨_,hc'⟩
   ·obtain⟨w2,z2⟩:=I.cell y c' e
    exact⟨w2,z2.sameBut hs hcc⟩
  ·obtain⟨e,n,ne,nf,d⟩:=I.pin p hp
   refine⟨(hs.2 p.1 ?_).trans e,n,ne,nf,d⟩
   intro q
   rw[q,hoc]at e
   have q':oc=p.2:=Option.some.inj e
   exact d w' (by rw[←q'];exact Wq)
theorem gv{M:Model}{A:Around}{E:Value->Shared->Prop}{i:Nat}{x:Str}{v:V}{u:Value}{Q:Unit->Shared->Prop}(I:Inv X pins σ H s)(hN:X.N.Nodup)(hi:X.N[i]?=some x)(hx:Loc X.env.scope x)(r:RelV v u)
 (h:∀s',Inv X pins (σ.set i (some v)) H s'->Q () s') (hf:X.fn x=true\/X.env.scope.names.lookup x=some .local:=by first|exact .inl rfl|exact .inr rfl|assumption):wpAny M A (storeName X.env x u) Q E s:=
 tF I hN hi hx r (fun s' I' _=>h s' I') hf
theorem Inv.Fe{s':Shared}{ch:List Addr}(I:Inv X pins σ H s)(ho:s'.os=s.os)(u:Un (frs X.stack) ch H H' s.heap s'.heap)(hok:lN X.prog X.w H' s'.heap)(hg:AllBare s'.gens)
 (hch:∀b∈ch,(b∈X.ex\/X.s₀.heap.objs.size<=b)/\b≠X.env.locals/\(∀x c,X.env.cells.lookup x=some c->c≠b)/\∀p∈X.pn++pins,p.1≠b):Inv X pins σ H' s':=by
 obtain⟨h',g',d',t',o'⟩:=s'
 have e:o'=s.os:=ho
 subst e
 exact I.call (g':=g') (t':=t') (d':=d') u hok hg hch
end
abbrev XK:=Value->Option Addr->Hp->Prop
abbrev St:=List (Option V)
abbrev VK:=V->Hp->Prop
abbrev TE:=St->Hp->VK->Prop
abbrev TT:=St->Hp->(Bool->Hp->Prop)->Prop
abbrev TA:=St->Hp->(List V->Hp->Prop)->Prop
set_option genInjectivity false in
set_option genSizeOf false in
structure Ends where
 nx:St->Hp->Prop
 rt:VK
 bk:St->Hp->Prop:=fun _ _=>False
 ct:St->Hp->Prop:=fun _ _=>False
abbrev TS:=Ends->St->Hp->Prop
noncomputable def EP(X:Cx)(pins:List (Addr×Obj))(σ:St)(Q:VK)(u:Value)(s':Shared):Prop:=∃v H',Inv X pins σ H' s'/\RelV v u/\Q v H'
noncomputable def TP(X:Cx)(pins:List (Addr×Obj))(σ:St)(Q:Bool->Hp->Prop)(b:Bool)(s':Shared):Prop:=∃H',Inv X pins σ H' s'/\Q b H'
noncomputable def AP(X:Cx)(pins:List (Addr×Obj))(σ:St)(Q:List V->Hp->Prop)(us:List Value)(s':Shared):Prop:=∃vs H',Inv X pins σ H' s'/\Vals vs us/\Q vs H'
noncomputable def SP(X:Cx)(pins:List (Addr×Obj))(D:Ends)(f:Flow)(s':Shared):Prop:=
 match f with
 |.next=>∃σ' H',Inv X pins σ' H' s'/\D.nx σ' H'
 |.brk=>∃σ' H',Inv X pins σ' H' s'/\D.bk σ' H'
 |.cont=>∃σ' H',Inv X pins σ' H' s'/\D.ct σ' H'
 |.ret u=>∃v σ' H',Inv X pins σ' H' s'/\RelV v u/\D.rt v H'
noncomputable def PE(X:Cx)(e:Expr)(t:TE):Prop:=
 ∀(pins:List (Addr×Obj)) (s:Shared) (σ:St) (H:Hp) (Q:VK),Inv X pins σ H s->t σ H Q->wpAny (model X.prog X.w) X.A (eval e X.env) (EP X pins σ Q) X.xe s
noncomputable def PT(X:Cx)(e:Expr)(t:TT):Prop:=
 ∀(pins:List (Addr×Obj)) (s:Shared) (σ:St) (H:Hp) (Q:Bool->Hp->Prop),Inv X pins σ H s->t σ H Q->wpAny (model X.prog X.w) X.A (isTrue e X.env (eval e X.env)) (TP X pins σ Q) X.xe s
noncomputable def PW(X:Cx)(e:Expr)(t:TT):Prop:=
 ∀(whole:Sem Value) (pins:List (Addr×Obj)) (s:Shared) (σ:St) (H:Hp) (Q:Bool->Hp->Prop),Inv X pins σ H s->t σ H Q->wpAny (model X.prog X.w) X.A (isTrue e X.env whole) (TP X pins σ Q) X.xe s
theorem PW.pt{X:Cx}{e:Expr}{t:TT}(h:PW X e t):PT X e t:=h _
noncomputable def PA(X:Cx)(es:List Expr)(t:TA):Prop:=
 ∀(pos:Pos) (pins:List (Addr×Obj)) (s:Shared) (σ:St) (H:Hp) (Q:List V->Hp->Prop),Inv X pins σ H s->t σ H Q->wpAny (model X.prog X.w) X.A (spliced (backTo pos (starEach es X.env))) (AP X pins σ Q) X.xe s
noncomputable def PS(X:Cx)(st:Stmt)(t:TS):Prop:=
 ∀(pins:List (Addr×Obj)) (s:Shared) (σ:St) (H:Hp) (D:Ends),Inv X pins σ H s->t D σ H->wpAny (model X.prog X.w) X.A (exec st X.env) (SP X pins D) X.xe s
noncomputable def zy(X:Cx)(st:List Stmt)(t:TS):Prop:=
 ∀(pins:List (Addr×Obj)) (s:Shared) (σ:St) (H:Hp) (D:Ends),Inv X pins σ H s->t D σ H->wpAny (model X.prog X.w) X.A (execs st X.env) (SP X pins D) X.xe s
theorem bK{α:Type}{t:Sem α}{Q Q':α->Shared->Prop}{M:Model}{A:Around}{E:Value->Shared->Prop}{s:Shared}(h:wpAny M A t Q E s)(hQ:∀a s,Q a s->Q' a s):wpAny M A t Q' E s:=wpAny_mono h hQ fun _ _ x=>x
section
variable{X:Cx}
theorem bin{a b:Expr}{ta tb:TE}(ha:PE X a ta)(hb:PE X b tb){pins:List (Addr×Obj)}{s:Shared}{σ:St}{H:Hp}{R:V->V->Hp->Prop}(I:Inv X pins σ H s)(h:ta σ H fun x H1=>tb σ H1 fun y H2=>R x y H2)
 {α:Type} {Q:α->Shared->Prop} {f:Value->Value->Sem α}
 (hf:∀v u s2 x y H2,Inv X pins σ H2 s2->RelV x v->RelV y u->R x y H2->wpAny (model X.prog X.w) X.A (f v u) Q X.xe s2):
 wpAny (model X.prog X.w) X.A (eval a X.env) (fun v s₁=>wpAny (model X.prog X.w) X.A (eval b X.env) (fun u s₂=>wpAny (model X.prog X.w) X.A (f v u) Q X.xe s₂) X.xe s₁) X.xe s:=by
 refine bK (ha pins s σ H _ I h) fun v s1 ⟨x,H1,I1,r1,q1⟩=>?_
 refine bK (hb pins s1 σ H1 _ I1 q1) fun u s2 ⟨y,H2,I2,r2,q2⟩=>?_
 exact hf v u s2 x y H2 I2 r1 r2 q2
noncomputable def j7(i:Nat):TE:=fun σ H Q=>∃v,σ[i]?=some (some v)/\Q v H
def tC(v:V):TE:=fun _ H Q=>Q v H
theorem Ff{i:Nat}{x:Str}{pos:Pos}(hN:X.N[i]?=some x)(hv:RT X.env.scope x)(hd:(x==("__debug__":Str))=false:=by decide)(hcd:(x==("__classdict__":Str))=false:=by decide):PE X (.Name x pos) (j7 i):=by
 intro pins s σ H Q I h
 obtain⟨v,e,h⟩:=h
 obtain⟨m,hn,hl⟩:=I.loc
 obtain⟨u,r,l⟩:=hl i x v hN e hv
 have fin:EP X pins σ Q u s:=⟨v,H,I,r,h⟩
 rcases l with⟨hk,hm⟩|⟨hk,c,hc,hcell⟩
 ·exact wpAny_Name (wpAny_loadName_local I.ok.kind hk hn hm fin) hd
 ·rcases hk with hk|hk
  ·exact wpAny_Name (wpAny_loadName_cell I.ok.kind hk hc hcell fin) hd
  ·exact wpAny_Name (wpAny_loadName_free I.ok.kind hk hc hcell fin hcd) hd
theorem kT{i j pos}:PE X (.Constant (.int i) j pos) (tC (.int i)):=fun _ _ _ H _ I h=>wpAny_Constant_int ⟨.int i,H,I.tok _,⟨_,rfl⟩,h⟩
theorem SN{b j pos}:PE X (.Constant (.bool b) j pos) (tC (.bl b)):=fun _ _ _ H _ I h=>Constant_bool ⟨.bl b,H,I,rfl,h⟩
theorem NB{j pos}:PE X (.Constant .none j pos) (tC .aU):=fun _ _ _ H _ I h=>Constant_none ⟨.aU,H,I,rfl,h⟩
theorem NC{x j pos}:PE X (.Constant (.str x) j pos) (tC (.str x)):=fun _ _ _ H _ I h=>Calls.Constant_str ⟨.str x,H,I.tok _,⟨_,rfl⟩,h⟩
noncomputable def Gl(X:Cx)(x:Str):Prop:=X.env.kindOf x=some .globalImplicit
theorem pM{E:Value->Shared->Prop}{pins:List (Addr×Obj)}{s:Shared}{σ:St}{H:Hp}{x:Str}{u:Value}{pos:Pos}{Q:Value->Shared->Prop}(I:Inv X pins σ H s)(hg:Gl X x)(hm:X.mg x=some u)(h:Q u s)
 (hd:(x==("__debug__":Str))=false:=by decide):wpAny (model X.prog X.w) X.A (eval (.Name x pos) X.env) Q E s:=
 Calls.Name_function_global I.ok.kind hg (Calls.loadGlobal_global (by rw[I.ok.glob];exact I.mod.glob.keeps I.bk) hm h) hd
theorem jn{E:Value->Shared->Prop}{pins:List (Addr×Obj)}{s:Shared}{σ:St}{H:Hp}{x:Str}{u:Value}{pos:Pos}{Q:Value->Shared->Prop}(I:Inv X pins σ H s)(hg:Gl X x)(hm:X.mg x=none)(hv:bootBuiltins x=some u)(h:Q u s)
 (hn:x≠"__name__":=by decide) (hd:(x==("__debug__":Str))=false:=by decide):wpAny (model X.prog X.w) X.A (eval (.Name x pos) X.env) Q E s:=by
 obtain⟨mb,h1,h2⟩:=I.mod.blt
 exact Calls.Name_function_global I.ok.kind hg (Calls.loadGlobal_builtin (by rw[I.ok.glob];exact I.mod.glob.keeps I.bk) hm (by rw[I.ok.blt];exact h1.keeps I.bk) ((h2 x hn).trans hv) h) hd
theorem Ju{x:Str}{v:V}{u:Value}{pos:Pos}(hg:Gl X x)(hm:X.mg x=some u)(r:RelV v u)(hd:(x==("__debug__":Str))=false:=by decide):PE X (.Name x pos) (tC v):=
 fun _ _ _ H _ I h=>pM I hg hm ⟨v,H,I,r,h⟩ hd
theorem Jv{x:Str}{v:V}{u:Value}{pos:Pos}(hg:Gl X x)(hm:X.mg x=none)(hv:bootBuiltins x=some u)(r:RelV v u)(hn:x≠"__name__":=by decide)(hd:(x==("__debug__":Str))=false:=by decide):PE X (.Name x pos) (tC v):=
 fun _ _ _ H _ I h=>jn I hg hm hv ⟨v,H,I,r,h⟩ hn hd
variable{a b:Expr}{ta tb:TE}{pos:Pos}
noncomputable def tB(t:TE):TT:=fun σ H Q=>t σ H fun x H1=>∃c,x=.bl c/\Q c H1
theorem ND{e:Expr}{t:TE}(h:PE X e t)(he:∀whole,isTrue e X.env whole=(do let v←whole;standAt e.pos;holding [v] (truthy v)):=by intro _;rfl):PT X e (tB t):=by
 intro pins s σ H Q I hw
 refine isTrue_plain (bK (h pins s σ H _ I hw) fun v s1 ⟨x,H1,I1,r1,q1⟩=>?_) (he _)
 obtain⟨d,rfl,q⟩:=q1
 cases r1
 exact wpAny_truthy_bool ⟨H1,I1,q⟩
variable{tA V5:TT}{rest:List Expr}
noncomputable def Wr(t u:TT):TT:=fun σ H Q=>t σ H fun c H1=>if c=true then u σ H1 Q else Q false H1
noncomputable def tOr(t u:TT):TT:=fun σ H Q=>t σ H fun c H1=>if c=true then Q true H1 else u σ H1 Q
noncomputable def Ws(t:TT):TT:=fun σ H Q=>t σ H fun c H1=>Q (!c) H1
theorem Jw(ha:PT X a tA):PW X (.BoolOp .And [a] pos) tA:=by
 intro wh pins s σ H Q I h
 refine isTrue_and (bK (ha pins s σ H Q I h) fun c s1 e=>?_)
 cases c with
 |true=>exact isTrue_and_nil e
 |false=>exact e
theorem NF(ha:PT X a tA):PW X (.BoolOp .Or [a] pos) tA:=by
 intro wh pins s σ H Q I h
 refine isTrue_or (bK (ha pins s σ H Q I h) fun c s1 e=>?_)
 cases c with
 |false=>exact isTrue_or_nil e
 |true=>exact e
theorem NG(ha:PT X a tA)(hb:PW X (.BoolOp .And (b::rest) pos) V5):PW X (.BoolOp .And (a::b::rest) pos) (Wr tA V5):=by
 intro wh pins s σ H Q I h
 refine isTrue_and (bK (ha pins s σ H _ I h) fun c s1 ⟨H1,I1,q1⟩=>?_)
 cases c with
 |true=>exact hb wh pins s1 σ H1 Q I1 q1
 |false=>exact⟨H1,I1,q1⟩
theorem SO(ha:PT X a tA)(hb:PW X (.BoolOp .Or (b::rest) pos) V5):PW X (.BoolOp .Or (a::b::rest) pos) (tOr tA V5):=by
 intro wh pins s σ H Q I h
 refine isTrue_or (bK (ha pins s σ H _ I h) fun c s1 ⟨H1,I1,q1⟩=>?_)
 cases c with
 |true=>exact⟨H1,I1,q1⟩
 |false=>exact hb wh pins s1 σ H1 Q I1 q1
theorem NH(ha:PT X a tA):PT X (.UnaryOp .Not a pos) (Ws tA):=by
 intro pins s σ H Q I h
 exact isTrue_not (ha pins s σ H (fun c H1=>Q (!c) H1) I h)
noncomputable def SQ(ta tb:TE):TE:=fun σ H Q=>ta σ H fun x H1=>∃c,x=.bl c/\if c=true then tb σ H1 Q else Q (.bl false) H1
noncomputable def Wt(ta tb:TE):TE:=fun σ H Q=>ta σ H fun x H1=>∃c,x=.bl c/\if c=true then Q (.bl true) H1 else tb σ H1 Q
noncomputable def SV(ta:TE):TE:=fun σ H Q=>ta σ H fun x H1=>∃c,x=.bl c/\Q (.bl (!c)) H1
theorem Fg{op}{t:TE}(h:PE X a t):PE X (.BoolOp op [a] pos) t:=fun pins s σ H Q I hw=>BoolOp_one (h pins s σ H Q I hw)
theorem NI(ha:PE X a ta)(hb:PE X (.BoolOp .And (b::rest) pos) tb):PE X (.BoolOp .And (a::b::rest) pos) (SQ ta tb):=by
 intro pins s σ H Q I h
 refine BoolOp_and (bK (ha pins s σ H _ I h) fun v s1 ⟨x,H1,I1,r1,q1⟩=>?_)
 obtain⟨c,rfl,q1⟩:=q1
 cases r1
 refine wpAny_truthy_bool ?_
 cases c with
 |true=>exact hb pins s1 σ H1 Q I1 q1
 |false=>exact⟨.bl false,H1,I1,rfl,q1⟩
theorem SW(ha:PE X a ta)(hb:PE X (.BoolOp .Or (b::rest) pos) tb):PE X (.BoolOp .Or (a::b::rest) pos) (Wt ta tb):=by
 intro pins s σ H Q I h
 refine BoolOp_or (bK (ha pins s σ H _ I h) fun v s1 ⟨x,H1,I1,r1,q1⟩=>?_)
 obtain⟨c,rfl,q1⟩:=q1
 cases r1
 refine wpAny_truthy_bool ?_
 cases c with
 |false=>exact hb pins s1 σ H1 Q I1 q1
 |true=>exact⟨.bl true,H1,I1,rfl,q1⟩
theorem NJ(ha:PE X a ta):PE X (.UnaryOp .Not a pos) (SV ta):=by
 intro pins s σ H Q I h
 refine UnaryOp_ (bK (ha pins s σ H _ I h) fun v s1 ⟨x,H1,I1,r1,q1⟩=>?_)
 obtain⟨c,rfl,q1⟩:=q1
 cases r1
 exact not_of (wpAny_truthy_bool ⟨.bl (!c),H1,I1,rfl,q1⟩)
noncomputable def tIf(t:TT)(ta tb:TE):TE:=fun σ H Q=>t σ H fun c H1=>if c=true then ta σ H1 Q else tb σ H1 Q
theorem Fi{c:Expr}(hc:PT X c tA)(ha:PE X a ta)(hb:PE X b tb):PE X (.IfExp c a b pos) (tIf tA ta tb):=by
 intro pins s σ H Q I h
 refine wpAny_IfExp (bK (hc pins s σ H _ I h) fun d s1 ⟨H1,I1,q1⟩=>?_)
 cases d with
 |true=>exact ha pins s1 σ H1 Q I1 q1
 |false=>exact hb pins s1 σ H1 Q I1 q1
end
noncomputable def jV(K:PySem.W.Frag)(H:Hp)(a:Addr)(xs:List V):Prop:=
 Rd H a (.lst xs)\/
  ∃(o:Obj) (its:Array Value) (n:Nat),K.lookup a=some o/\o.cls=.type "list"/\o.dict=none/\o.data=.seq its n/\its.size<=sizeLine/\Vals xs its.toList
noncomputable def kU(K:PySem.W.Frag)(H:Hp)(a:Addr)(xs:List V):Prop:=
 Rd H a (.tup xs)\/
  ∃(o:Obj) (its:Array Value) (n:Nat),K.lookup a=some o/\o.cls=.type "tuple"/\o.data=.seq its n/\its.size<=sizeLine/\Vals xs its.toList
noncomputable def Wu:Value->Option V
 |.none=>some .aU
 |.bool b=>some (.bl b)
 |.int i _=>some (.int i)
 |.str x _=>some (.str x)
 |.bytes b _=>some (.EX b)
 |.float b _=>some (.Nv b)
 |.ref a=>some (.ref a)
 |.type n=>some (.ty n)
 |_=>none
theorem RelV.abs{x:V}{u:Value}(r:RelV x u):Wu u=some x:=by
 cases x with
 |aU=>cases r;rfl
 |bl _=>cases r;rfl
 |int _=>obtain⟨t,rfl⟩:=r;rfl
 |str _=>obtain⟨t,rfl⟩:=r;rfl
 |EX _=>obtain⟨t,rfl⟩:=r;rfl
 |Nv _=>obtain⟨t,rfl⟩:=r;rfl
 |ref _=>cases r;rfl
 |ty _=>cases r;rfl
theorem RelV.inj{x y:V}{u:Value}(r:RelV x u)(q:RelV y u):x=y:=Option.some.inj (r.abs.symm.trans q.abs)
theorem Vals.inj:∀{xs ys:List V} {us:List Value},Vals xs us->Vals ys us->xs=ys
 |_,_,_,.nil,.nil=>rfl
 |_,_,_,.cons r t,.cons r' t'=>by rw[r.inj r',Vals.inj t t']
section
variable{X:Cx}{pins:List (Addr×Obj)}{σ:St}{H:Hp}{s:Shared}{a:Addr}{xs ys:List V}
theorem kU.of{K:PySem.W.Frag}(h:H a=some (.tup xs)):kU K H a xs:=.inl (.inl h)
theorem Inv.list(I:Inv X pins σ H s)(h:jV X.K H a xs):∃its:List Value,Vals xs its/\PlainL s.heap a its.toArray/\xs.length<=sizeLine:=by
 rcases h with h|⟨o,its,n,hk,hc,hd,hs,hz,r⟩
 ·obtain⟨z,its,n,r,e⟩:=h.ok I.hok
  exact⟨its,r,⟨_,n,e,rfl,rfl,rfl⟩,z⟩
 ·refine⟨its.toList,r,⟨o,n,I.oG a o hk,hc,hd,by simpa using hs⟩,?_⟩
  have e:=r.length
  simp only[Array.length_toList]at e
  omega
theorem Inv.tuple(I:Inv X pins σ H s)(h:kU X.K H a xs):∃its:List Value,Vals xs its/\IsTup s.heap a its.toArray/\xs.length<=sizeLine:=by
 rcases h with h|⟨o,its,n,hk,hc,hs,hz,r⟩
 ·obtain⟨z,its,r,p⟩:=h.ok I.hok
  exact⟨its,r,p,z⟩
 ·refine⟨its.toList,r,⟨o,I.oG a o hk,hc,n,by simpa using hs⟩,?_⟩
  have e:=r.length
  simp only[Array.length_toList]at e
  omega
theorem Inv.qg(I:Inv X pins σ H s)(h:jV X.K H a xs)(h':jV X.K H a ys):xs=ys:=by
 obtain⟨its,r,⟨o,n,e,_,_,d⟩,_⟩:=I.list h
 obtain⟨its',r',⟨o',n',e',_,_,d'⟩,_⟩:=I.list h'
 rw[e]at e';cases e'
 rw[d]at d'
 injection d' with d1 _
 have:its=its':=by simpa using congrArg Array.toList d1
 subst this
 exact r.inj r'
theorem Inv.Dq(I:Inv X pins σ H s)(h:kU X.K H a xs)(h':kU X.K H a ys):xs=ys:=by
 obtain⟨its,r,⟨o,e,_,n,d⟩,_⟩:=I.tuple h
 obtain⟨its',r',⟨o',e',_,n',d'⟩,_⟩:=I.tuple h'
 rw[e]at e';cases e'
 rw[d]at d'
 injection d' with d1 _
 have:its=its':=by simpa using congrArg Array.toList d1
 subst this
 exact r.inj r'
end
abbrev Cx.sf(X:Cx)(E:Value->Shared->Prop):Cx:={X with xe:=E}
abbrev Cx.r9(X:Cx):Cx:=X.sf fun _ _=>False
theorem Cx.Ok.sf{X:Cx}(ok:X.Ok)(E:Value->Shared->Prop):(X.sf E).Ok:=
 ⟨ok.mod,ok.kind,ok.glob,ok.blt,ok.above,ok.inj,ok.has,ok.SK,ok.hd,ok.frames,ok.stk,ok.V3,ok.bs,ok.Js,ok.Fd,ok.Dp,ok.o8,ok.Ny⟩
theorem Cx.Ok.jo{X:Cx}{E:Value->Shared->Prop}(ok:(X.sf E).Ok):X.Ok:=
 ⟨ok.mod,ok.kind,ok.glob,ok.blt,ok.above,ok.inj,ok.has,ok.SK,ok.hd,ok.frames,ok.stk,ok.V3,ok.bs,ok.Js,ok.Fd,ok.Dp,ok.o8,ok.Ny⟩
section
variable{X:Cx}{pins:List (Addr×Obj)}{σ:St}{H:Hp}{s:Shared}{E:Value->Shared->Prop}
theorem Inv.sf(I:Inv X pins σ H s)(E:Value->Shared->Prop):Inv (X.sf E) pins σ H s:=⟨I.ok.sf E,I.os,I.bare,I.base,I.loc,I.cell,I.free,I.ko,I.pin,I.hok,I.len⟩
theorem Inv.jo(I:Inv (X.sf E) pins σ H s):Inv X pins σ H s:=⟨I.ok.jo,I.os,I.bare,I.base,I.loc,I.cell,I.free,I.ko,I.pin,I.hok,I.len⟩
theorem SP.jo{D:Ends}{f:Flow}{s':Shared}(h:SP (X.sf E) pins D f s'):SP X pins D f s':=by
 cases f with
 |next=>obtain⟨σ',H',I,q⟩:=h;exact⟨σ',H',I.jo,q⟩
 |brk=>obtain⟨σ',H',I,q⟩:=h;exact⟨σ',H',I.jo,q⟩
 |cont=>obtain⟨σ',H',I,q⟩:=h;exact⟨σ',H',I.jo,q⟩
 |ret u=>obtain⟨v,σ',H',I,r,q⟩:=h;exact⟨v,σ',H',I.jo,r,q⟩
end
section
variable{X:Cx}{st:Stmt}{rest:List Stmt}{t u:TS}{e:Expr}{te:TE}{pos:Pos}
def SX:TS:=fun D σ H=>D.nx σ H
noncomputable def Wv(t u:TS):TS:=fun D σ H=>t {D with nx:=u D} σ H
theorem Jx:zy X [] SX:=fun _ _ σ H _ I h=>wpAny_execs_nil ⟨σ,H,I,h⟩
theorem dM(h1:PS X st t)(h2:zy X rest u):zy X (st::rest) (Wv t u):=by
 intro pins s σ H D I h
 refine wpAny_execs_cons (bK (h1 pins s σ H {D with nx:=u D} I h) fun f s1 q=>?_)
 cases f with
 |next=>
  obtain⟨σ',H',I',q⟩:=q
  exact h2 pins s1 σ' H' D I' q
 |ret v=>exact q
 |brk=>exact q
 |cont=>exact q
theorem Bt(h1:PS X st t):zy X [st] t:=by
 intro pins s σ H D I h
 refine wpAny_execs_cons (bK (h1 pins s σ H D I h) fun f s1 q=>?_)
 cases f with
 |next=>exact wpAny_execs_nil q
 |ret v=>exact q
 |brk=>exact q
 |cont=>exact q
def NK:TS:=fun D σ H=>D.bk σ H
theorem Fj:PS X (.Break pos) NK:=fun _ _ σ H _ I h=>wpAny_Break ⟨σ,H,I,h⟩
theorem Inv.quiet{pins:List (Addr×Obj)}{σ:St}{H:Hp}{s:Shared}(I:Inv X pins σ H s):interactive X.env=false:=by simp[interactive,I.ok.kind]
noncomputable def Bu(te:TE):TS:=fun D σ H=>te σ H fun _ H1=>D.nx σ H1
theorem pN(he:PE X e te)(hs:swapsWith e none pos.line X.env=pure false:=by rfl):PS X (.Expr e pos) (Bu te):=by
 intro pins s σ H D I h
 exact wpAny_Expr_any (bK (he pins s σ H _ I h) fun v s1 ⟨x,H1,I1,r1,q1⟩=>⟨σ,H1,I1,q1⟩) I.quiet hs
noncomputable def Ww(te:TE):TS:=fun D σ H=>te σ H D.rt
theorem uC(he:PE X e te):PS X (.Return (some e) pos) (Ww te):=by
 intro pins s σ H D I h
 exact wpAny_Return_some (bK (he pins s σ H _ I h) fun v s1 ⟨x,H1,I1,r1,q1⟩=>⟨x,σ,H1,I1,r1,q1⟩)
def SY:TS:=fun D _ H=>D.rt .aU H
theorem Bv:PS X (.Return none pos) SY:=fun _ _ σ H _ I h=>wpAny_Return_none ⟨.aU,σ,H,I,rfl,h⟩
noncomputable def Wx(c:TT)(t u:TS):TS:=fun D σ H=>c σ H fun b H1=>if b=true then t D σ H1 else u D σ H1
theorem S5{c:Expr}{a b:List Stmt}{tc:TT}(hc:PT X c tc)(ha:zy X a t)(hb:zy X b u):PS X (.If c a b pos) (Wx tc t u):=by
 intro pins s σ H D I h
 refine wpAny_If (bK (hc pins s σ H _ I h) fun d s1 ⟨H1,I1,q1⟩=>?_)
 cases d with
 |true=>exact ha pins s1 σ H1 D I1 q1
 |false=>exact hb pins s1 σ H1 D I1 q1
end
abbrev TG:=V->St->Hp->(St->Hp->Prop)->Prop
abbrev Jj:=List V->St->Hp->(St->Hp->Prop)->Prop
noncomputable def PG(X:Cx)(target:Expr)(t:TG):Prop:=
 ∀(pins:List (Addr×Obj)) (s:Shared) (σ:St) (H:Hp) (v:V) (u:Value) (Q:St->Hp->Prop),Inv X pins σ H s->RelV v u->t v σ H Q->
  wpAny (model X.prog X.w) X.A (assign target X.env u) (fun _ s'=>∃σ' H',Inv X pins σ' H' s'/\Q σ' H') X.xe s
noncomputable def RU(X:Cx)(ts:List Expr)(t:Jj):Prop:=
 ∀(pins:List (Addr×Obj)) (s:Shared) (σ:St) (H:Hp) (vs:List V) (us:List Value) (Q:St->Hp->Prop),Inv X pins σ H s->Vals vs us->t vs σ H Q->
  wpAny (model X.prog X.w) X.A (assignInOrder ((assignEach ts X.env).map (·.2)) us) (fun _ s'=>∃σ' H',Inv X pins σ' H' s'/\Q σ' H') X.xe s
abbrev NL:=V->V->V->Hp->(Hp->Prop)->Prop
noncomputable def S6(X:Cx)(t:NL):Prop:=
 ∀(pins:List (Addr×Obj)) (s:Shared) (σ:St) (H:Hp) (o i v:V) (ov iv u:Value) (Q:Hp->Prop),Inv X pins σ H s->RelV o ov->RelV i iv->RelV v u->t o i v H Q->
  wpAny (model X.prog X.w) X.A (setItem ov iv u) (fun _ s'=>∃H',Inv X pins σ H' s'/\Q H') X.xe s
section
variable{X:Cx}{pos:Pos}
noncomputable def jc(i:Nat):TG:=fun v σ H Q=>Q (σ.set i (some v)) H
theorem Jy{i:Nat}{x:Str}(hN:X.N.Nodup)(hi:X.N[i]?=some x)(hx:Loc X.env.scope x)(hf:X.fn x=true\/X.env.scope.names.lookup x=some .local:=by first|exact .inl rfl|exact .inr rfl|assumption):PG X (.Name x pos) (jc i):=by
 intro pins s σ H v u Q I r h
 exact wpAny_assign_Name (gv I hN hi hx r (fun s' I'=>⟨_,H,I',h⟩) hf)
def S7:Jj:=fun vs σ H Q=>vs=[]/\Q σ H
noncomputable def Mw(t:TG)(u:Jj):Jj:=fun vs σ H Q=>∃v r,vs=v::r/\t v σ H fun σ' H'=>u r σ' H' Q
theorem Jz:RU X [] S7:=by
 intro pins s σ H vs us Q I r h
 obtain⟨e,h⟩:=h
 subst e
 cases r
 exact assignInOrder_nil ⟨σ,H,I,h⟩
theorem Fl{e:Expr}{es:List Expr}{t:TG}{u:Jj}(h1:PG X e t)(h2:RU X es u)
 (hs:(assignEach (e::es) X.env).map (·.2)=assign e X.env::(assignEach es X.env).map (·.2):=by rfl):RU X (e::es) (Mw t u):=by
 intro pins s σ H vs us Q I r h
 obtain⟨v,vr,e1,h⟩:=h
 subst e1
 cases r with
 |cons r rr=>
  rw[hs]
  refine assignInOrder_cons (bK (h1 pins s σ H _ _ _ I r h) fun _ s1 ⟨σ1,H1,I1,q1⟩=>?_)
  exact h2 pins s1 σ1 H1 _ _ Q I1 rr q1
noncomputable def NN(K:PySem.W.Frag)(n:Nat)(t:Jj):TG:=fun v σ H Q=>∃a xs,v=.ref a/\kU K H a xs/\xs.length=n/\t xs σ H Q
theorem NO{es:List Expr}{k:Nat}{t:Jj}{n:Nat}(hc:X.calm=true)(h:RU X es t)
 (hn:(assignEach es X.env).length=n:=by rfl) (hst:(assignEach es X.env).findIdx? (·.1)=none:=by rfl):PG X (.Tuple es k pos) (NN X.K n t):=by
 intro pins s σ H v u Q I r hw
 obtain⟨a,xs,e1,hq,hl,hw⟩:=hw
 subst e1
 cases r
 obtain⟨its,rv,ht,hz⟩:=I.tuple hq
 refine assign_Tuple_tuple (I.ok.hd hc) ht (by simp[hn,←hl,rv.length]) hst fun h' hx=>?_
 have I1:Inv X pins σ H {s with heap:=h'}:=I.kept (t':=s.toks) fun b o e=>hx b o (Nat.ne_of_lt (Heap.lt_size e)) e
 exact h pins _ σ H xs _ Q I1 (by simpa using rv) hw
noncomputable def S8(to ti:TE)(t:NL):TG:=fun v σ H Q=>to σ H fun o H1=>ti σ H1 fun i H2=>t o i v H2 fun H3=>Q σ H3
theorem NP{o i:Expr}{to ti:TE}{t:NL}(ho:PE X o to)(hi:PE X i ti)(hs:S6 X t)
 (ha:∀v,assign (.Subscript o i pos) X.env v=(do
   let ov←holding [v] (eval o X.env)
   let iv←holding [v,ov] (eval i X.env)
   standAt pos
   holding [v,ov,iv] (setItem ov iv v)
   release [v,ov,iv] []):=by intro _;rfl):PG X (.Subscript o i pos) (S8 to ti t):=by
 intro pins s σ H v u Q I r h
 rw[ha]
 refine wpAny_bind (wpAny_holding (bK (ho pins s σ H _ I h) fun ov s1 ⟨x,H1,I1,r1,q1⟩=>?_))
 refine wpAny_bind (wpAny_holding (bK (hi pins s1 σ H1 _ I1 q1) fun iv s2 ⟨y,H2,I2,r2,q2⟩=>?_))
 refine wpAny_bind (wpAny_standAt (wpAny_bind (wpAny_holding (bK (hs pins s2 σ H2 x y v ov iv u _ I2 r1 r2 r q2) fun _ s3 ⟨H3,I3,q3⟩=>?_))))
 exact wpAny_release ⟨σ,H3,I3,q3⟩
noncomputable def o9(te:TE)(g:TG):TS:=fun D σ H=>te σ H fun x H1=>g x σ H1 D.nx
theorem uD{tg e:Expr}{te:TE}{g:TG}(he:PE X e te)(hg:PG X tg g)(hs:swapsWithSole [tg] e pos.line X.env=pure false:=by rfl)(hw:swappedStores [tg] e X.env=pure none:=by rfl)
 (h1:(assignEach [tg] X.env).map (·.2)=[assign tg X.env]:=by rfl):PS X (.Assign [tg] e pos) (o9 te g):=by
 intro pins s σ H D I h
 refine wpAny_Assign_stores (bK (he pins s σ H _ I h) fun v s1 ⟨x,H1,I1,r1,q1⟩=>?_) hs hw
 rw[h1]
 exact bK (hg pins s1 σ H1 x v _ I1 r1 q1) fun _ s2 q=>q
theorem zI{i:Nat}{x:Str}{e:Expr}{te:TE}{pos':Pos}(hN:X.N.Nodup)(hi:X.N[i]?=some x)(hx:Loc X.env.scope x)(he:PE X e te)(hs:swapsWith e (some (.Name x pos')) pos.line X.env=pure false:=by rfl)(hf:X.fn x=true\/X.env.scope.names.lookup x=some .local:=by first|exact .inl rfl|exact .inr rfl|assumption):
 PS X (.Assign [.Name x pos'] e pos) (o9 te (jc i)):=by
 intro pins s σ H D I h
 refine wpAny_Assign_Name (bK (he pins s σ H _ I h) fun v s1 ⟨y,H1,I1,r1,q1⟩=>?_) hs
 exact gv I1 hN hi hx r1 (fun s2 I2=>⟨_,H1,I2,q1⟩) hf
noncomputable def Wy(i j:Nat)(ta:TA):TS:=fun D σ H=>ta σ H fun vs H1=>∃v w,vs=[v,w]/\D.nx ((σ.set i (some v)).set j (some w)) H1
theorem NQ{i j:Nat}{x y:Str}{a b:Expr}{ta:TA}{px py pt:Pos}{kt k2 RV}(hc:X.calm=true)(hN:X.N.Nodup)(hi:X.N[i]?=some x)(hj:X.N[j]?=some y)(hij:i≠j)
 (hx:X.env.scope.names.lookup x=some .local) (hy:X.env.scope.names.lookup y=some .local) (ha:PA X [a,b] ta)
 (hw:swappedStores [.Tuple [.Name x px,.Name y py] kt pt] (.Tuple [a,b] k2 RV) X.env=pure (some [x,y]))
 (hs:swapsWithSole [.Tuple [.Name x px,.Name y py] kt pt] (.Tuple [a,b] k2 RV) pos.line X.env=pure false:=by rfl):
 PS X (.Assign [.Tuple [.Name x px,.Name y py] kt pt] (.Tuple [a,b] k2 RV) pos) (Wy i j ta):=by
 intro pins s σ H D I h
 rw[exec_Assign_arm]
 refine wpAny_bind (wpAny_standAt ?_)
 rw[hs]
 refine wpAny_bind (wpAny_pure ?_)
 rw[if_neg (by decide)]
 refine wpAny_bind (Tuple_ (bK (ha _ pins s σ H _ I h) fun us s1 ⟨vs,H1,I1,r1,q1⟩=>?_))
 obtain⟨v,w,e1,q1⟩:=q1
 subst e1
 obtain⟨u1,u2,rfl,rv,rw'⟩:∃u1 u2,us=[u1,u2]/\RelV v u1/\RelV w u2:=by
  cases r1 with
  |cons p q=>
   cases q with
   |cons p' q'=>
    cases q'
    exact⟨_,_,rfl,p,p'⟩
 refine wpAny_newObj_type ?_ (by show 2<=sizeLine;decide)
 have I2:Inv X pins σ H1 {s1 with heap:=s1.heap.push {cls:=.type "tuple",data:=.seq [u1,u2].toArray}}:=I1.kept (t':=s1.toks) fun b o e=>Heap.get?_push_of_some _ e
 rw[hw]
 refine wpAny_bind (wpAny_pure ?_)
 show wpAny (model X.prog X.w) X.A (do rule "assign.swapped-stores";let items←unpackItems (.ref s1.heap.objs.size) 2 none;assignInOrder [fun v=>bindName X.env y v,fun v=>bindName X.env x v] items.reverse;pure Flow.next) _ _ _
 refine wpAny_bind (wpAny_rule (wpAny_bind (unpackItems_tuple (items:= #[u1,u2]) (I.ok.hd hc) (IsTup.new s1.heap _) fun h' hx'=>?_)))
 have I3:=I2.kept (h':=h') (t':=s1.toks) fun b o e=>hx' b o (Nat.ne_of_lt (Heap.lt_size e)) e
 show wpAny _ _ (assignInOrder [fun v=>bindName X.env y v,fun v=>bindName X.env x v] [u2,u1]>>=fun _=>pure Flow.next) _ _ _
 refine wpAny_bind (assignInOrder_cons (wpAny_bindName (gv I3 hN hj (.inl hy) rw' (fun s2 I4=>?_) (.inr hy))))
 refine assignInOrder_cons (wpAny_bindName (gv I4 hN hi (.inl hx) rv (fun s3 I5=>assignInOrder_nil (wpAny_pure ?_)) (.inr hx)))
 rw[List.set_comm _ _ (Ne.symm hij)]at I5
 exact⟨_,H1,I5,q1⟩
noncomputable def NR(c:TT)(tb:TS):TS:=fun D σ H=>∃W:Nat->St->Hp->Prop,(∃m,W m σ H)/\∀m σ H,W m σ H->
 c σ H fun b H1=>if b=true then∃N:St->Hp->Prop,(∀σ' H',N σ' H'->∃m',m'<m/\W m' σ' H')/\tb {D with nx:=N,ct:=N,bk:=D.nx} σ H1 else D.nx σ H1
theorem Fo{c:Expr}{body:List Stmt}{tc:TT}{tb:TS}(hp:PassesOwn (model X.prog X.w) X.A X.env X.xe)(hc:PT X c tc)(hb:zy X body tb):PS X (.While c body [] pos) (NR tc tb):=by
 intro pins s σ H D I h
 obtain⟨W,⟨m0,w0⟩,turn⟩:=h
 refine wpAny_While (codeAny_whileLoop (fun n s'=>∃σ' H',Inv X pins σ' H' s'/\W n σ' H') ?_ m0 ⟨σ,H,I,w0⟩)
 rintro n s1 ⟨σ1,H1,I1,w1⟩
 refine wpAny_passesOwn hp (bK (hc pins s1 σ1 H1 _ I1 (turn n σ1 H1 w1)) fun b s2 ⟨H2,I2,q2⟩=>?_)
 cases b with
 |true=>
  obtain⟨N,hN,q2⟩:=q2
  rw[if_pos rfl]
  refine wpAny_passesOwn hp (bK (hb pins s2 σ1 H2 _ I2 q2) fun f s3 q3=>?_)
  cases f with
  |next=>
   obtain⟨σ3,H3,I3,n3⟩:=q3
   obtain⟨m',hm,w3⟩:=hN σ3 H3 n3
   exact⟨m',hm,σ3,H3,I3,w3⟩
  |cont=>
   obtain⟨σ3,H3,I3,n3⟩:=q3
   obtain⟨m',hm,w3⟩:=hN σ3 H3 n3
   exact⟨m',hm,σ3,H3,I3,w3⟩
  |brk=>exact q3
  |ret v=>exact q3
 |false=>
  rw[if_neg Bool.false_ne_true]
  exact wpAny_execs_nil ⟨σ1,H2,I2,q2⟩
end
set_option genInjectivity false in
set_option genSizeOf false in
structure It where
 go:Nat->Hp->Prop
 RW:Nat->Hp->V->Hp->Prop
 stop:Nat->Hp->Prop
noncomputable def lX(X:Cx)(pins:List (Addr×Obj))(H:Hp)(b:Addr):Prop:=
 H b=none/\b≠X.env.locals/\b∉X.fs/\(b∈X.ex\/X.s₀.heap.objs.size<=b)/\(∀x c,X.env.cells.lookup x=some c->c≠b)/\∀p∈X.pn++pins,p.1≠b
theorem Inv.zJ{X:Cx}{pins:List (Addr×Obj)}{σ:St}{H H':Hp}{s:Shared}{b:Addr}(I:Inv X pins σ H s)(hb:s.heap.objs.size<=b)(hn:H' b=none):lX X pins H' b:=by
 refine⟨hn,Nat.ne_of_gt (Nat.lt_of_lt_of_le I.lt hb),I.Wn hb,.inr (Nat.le_trans I.sz hb),fun x c e z=>?_,fun p hp z=>?_⟩
 ·obtain⟨v,q⟩:=I.cell x c e
  exact absurd (Nat.lt_of_lt_of_le q.lt (by rw[z];exact hb)) (Nat.lt_irrefl _)
 ·exact absurd (Nat.lt_of_lt_of_le (Heap.lt_size (I.pin p hp).1) (by rw[z];exact hb)) (Nat.lt_irrefl _)
structure Turn(P:Program)(w:World)(K:PySem.W.Frag)(tg:Expr)(J:It)(fp:List Addr)(it:Addr)(tn:Nat->Heap->Prop):Prop where
 mem:it∈fp
 obj:∀i h,tn i h->∀b∈fp,∃o,h.get? b=some o/\∀v,o.data≠.cell v
 keep:∀i h h',tn i h->(∀b∈fp,∀o,h.get? b=some o->h'.get? b=some o)->tn i h'
 item:∀(X:Cx),X.prog=P->X.w=w->X.K=K->X.calm=true->∀(i:Nat) (pins:List (Addr×Obj)) (s:Shared) (σ:St) (H:Hp) (E:Value->Shared->Prop),Inv X pins σ H s->(∀b∈fp,lX X pins H b)->tn i s.heap->J.go i H->
  wpAny (model P w) X.A (pyNext (.ref it)) (fun r s1=>∃u,r=some u/\
   wpAny (model P w) X.A (letOwnedTupleGo tg (.ref it) u) (fun _ s2=>∃x H',Inv X pins σ H' s2/\RelV x u/\J.RW i H x H'/\tn (i+1) s2.heap/\∀b∈fp,H' b=none) E s1) E s
 done:∀(X:Cx),X.prog=P->X.w=w->X.K=K->X.calm=true->∀(i:Nat) (pins:List (Addr×Obj)) (s:Shared) (σ:St) (H:Hp) (E:Value->Shared->Prop),Inv X pins σ H s->(∀b∈fp,lX X pins H b)->tn i s.heap->J.stop i H->
  wpAny (model P w) X.A (pyNext (.ref it)) (fun r s1=>r=none/\Inv X pins σ H s1) E s
 self:∀(A:Around) (i:Nat) (s:Shared) (Q:Value->Shared->Prop) (E:Value->Shared->Prop),tn i s.heap->Q (.ref it) s->wpAny (model P w) A (pyIter (.ref it)) Q E s
abbrev TI:=St->Hp->(It->Hp->Prop)->Prop
noncomputable def Wz(X:Cx)(pins:List (Addr×Obj))(σ:St)(tg:Expr)(R:It->Hp->Prop)(itv:Value)(s2:Shared):Prop:=
 ∃(it:Addr) (fp:List Addr) (tn:Nat->Heap->Prop) (J:It) (H':Hp),itv=.ref it/\Inv X pins σ H' s2/\Turn X.prog X.w X.K tg J fp it tn/\tn 0 s2.heap/\(∀b∈fp,lX X pins H' b)/\R J H'
noncomputable def PI(X:Cx)(tg iter:Expr)(wi:TI):Prop:=
 ∀(pins:List (Addr×Obj)) (s:Shared) (σ:St) (H:Hp) (R:It->Hp->Prop),Inv X pins σ H s->wi σ H R->
  wpAny (model X.prog X.w) X.A (eval iter X.env) (fun v s1=>wpAny (model X.prog X.w) X.A (pyIter v) (Wz X pins σ tg R) X.xe s1) X.xe s
theorem wR{M:Model}{A:Around}{E:Value->Shared->Prop}{s:Shared}{tg:Expr}{it:Addr}{u:Value}{o:Obj}{n:String}{vs:Array Value}{Q:Unit->Shared->Prop}(ho:s.heap.get? it=some o)(hc:o.cls=.type n)(hd:o.data=.fields vs)
 (hn:["enumerate","zip","dict_itemiterator","dict_reverseitemiterator","odict_iterator","itertools.zip_longest","itertools.pairwise"].contains n=false) (hQ:Q () s):wpAny M A (letOwnedTupleGo tg (.ref it) u) Q E s:=by
 unfold letOwnedTupleGo
 cases tg<;>first
  |exact wpAny_pure hQ
  |(cases u<;>first
     |exact wpAny_pure hQ
     |(refine wpAny_bind (wpAny_load ho ?_)
       rw[hc,hd]
       show wpAny M A (if(["enumerate","zip","dict_itemiterator","dict_reverseitemiterator","odict_iterator","itertools.zip_longest","itertools.pairwise"].contains n&&vs[0]?==some (rawInt _))=true then _ else _) Q E s
       rw[if_neg (by intro h;rw[hn,Bool.false_and]at h;cases h)]
       exact wpAny_pure hQ))
noncomputable def WA(K:PySem.W.Frag)(a:Addr):It:=
 ⟨fun i H=>∃xs x,jV K H a xs/\xs[i]?=some x,fun i H x H'=>H'=H/\∀xs,jV K H a xs->xs[i]?=some x,fun i H=>∃xs,jV K H a xs/\xs.length<=i⟩
noncomputable def WB(K:PySem.W.Frag)(a:Addr):It:=
 ⟨fun i H=>∃xs x,kU K H a xs/\xs[i]?=some x,fun i H x H'=>H'=H/\∀xs,kU K H a xs->xs[i]?=some x,fun i H=>∃xs,kU K H a xs/\xs.length<=i⟩
noncomputable def S9(lo:Int)(n:Nat):It:=⟨fun i _=>i<n,fun i H x H'=>H'=H/\x=.int (lo+i),fun i _=>n<=i⟩
theorem Dr{P:Program}{w:World}{K:PySem.W.Frag}{tg:Expr}(a it:Addr):Turn P w K tg (WA K a) [it] it (fun i h=>h.IsListIter it a i)where
 mem:=by simp
 obj:=fun i h st b hb=>by
  have e:b=it:=by simpa using hb
  subst e
  obtain⟨o,e,c,d⟩:=st
  exact⟨o,e,fun v z=>by rw[d]at z;cases z⟩
 keep:=fun i h h' st k=>st.at fun o e=>k it (by simp) o e
 item:=by
  intro X hP hw hK hc i pins s σ H E I hf st hg
  subst hP hw hK
  obtain⟨xs,x,hq,hx⟩:=hg
  obtain⟨its,rv,p,hz⟩:=I.list hq
  obtain⟨u,hu,ru⟩:=rv.get hx
  obtain⟨f0,f1,f2,f3,f4,f5⟩:=hf it (by simp)
  refine wpAny_pyNext_list_item st p.isList (x:=u) (by simpa using hu) fun h' st' sb=>?_
  have I1:Inv X pins σ H {s with heap:=h'}:=I.turned (t':=s.toks) (fun b o hb e=>(sb.2 b hb).trans e) f0 f1 f3 f4 f5
  obtain⟨o,e,c,d⟩:=id st'
  exact⟨u,rfl,wR (s:={s with heap:=h'}) e c d (by decide) ⟨x,H,I1,ru,⟨rfl,fun ys hy=>by rw[I.qg hy hq];exact hx⟩,st',fun b hb=>(hf b hb).1⟩⟩
 done:=by
  intro X hP hw hK hc i pins s σ H E I hf st hg
  subst hP hw hK
  obtain⟨xs,hq,hx⟩:=hg
  obtain⟨its,rv,p,hz⟩:=I.list hq
  obtain⟨f0,f1,f2,f3,f4,f5⟩:=hf it (by simp)
  have hl:=rv.length
  exact wpAny_pyNext_list_end (I.ok.hd hc) st p.isList (by simp;omega) fun h' eb=>⟨rfl,I.turned (t':=s.toks) (fun b o hb e=>eb b o hb e) f0 f1 f3 f4 f5⟩
 self:=fun _ _ _ _ _ st h=>wpAny_pyIter_listiter st h
theorem zK{P:Program}{w:World}{K:PySem.W.Frag}{tg:Expr}(a it:Addr):Turn P w K tg (WB K a) [it] it (fun i h=>h.IsTupleIter it a i)where
 mem:=by simp
 obj:=fun i h st b hb=>by
  have e:b=it:=by simpa using hb
  subst e
  obtain⟨o,e,c,d⟩:=st
  exact⟨o,e,fun v z=>by rw[d]at z;cases z⟩
 keep:=fun i h h' st k=>st.at fun o e=>k it (by simp) o e
 item:=by
  intro X hP hw hK hc i pins s σ H E I hf st hg
  subst hP hw hK
  obtain⟨xs,x,hq,hx⟩:=hg
  obtain⟨its,rv,p,hz⟩:=I.tuple hq
  obtain⟨u,hu,ru⟩:=rv.get hx
  obtain⟨f0,f1,f2,f3,f4,f5⟩:=hf it (by simp)
  refine wpAny_pyNext_tuple_item st (show s.heap.IsTuple a its.toArray from p) (x:=u) (by simpa using hu) fun h' st' sb=>?_
  have I1:Inv X pins σ H {s with heap:=h'}:=I.turned (t':=s.toks) (fun b o hb e=>(sb.2 b hb).trans e) f0 f1 f3 f4 f5
  obtain⟨o,e,c,d⟩:=id st'
  exact⟨u,rfl,wR (s:={s with heap:=h'}) e c d (by decide) ⟨x,H,I1,ru,⟨rfl,fun ys hy=>by rw[I.Dq hy hq];exact hx⟩,st',fun b hb=>(hf b hb).1⟩⟩
 done:=by
  intro X hP hw hK hc i pins s σ H E I hf st hg
  subst hP hw hK
  obtain⟨xs,hq,hx⟩:=hg
  obtain⟨its,rv,p,hz⟩:=I.tuple hq
  obtain⟨f0,f1,f2,f3,f4,f5⟩:=hf it (by simp)
  have hl:=rv.length
  exact wpAny_pyNext_tuple_end (I.ok.hd hc) st (show s.heap.IsTuple a its.toArray from p) (by simp;omega) fun h' eb=>⟨rfl,I.turned (t':=s.toks) (fun b o hb e=>eb b o hb e) f0 f1 f3 f4 f5⟩
 self:=fun _ _ _ _ _ st h=>wpAny_pyIter_tupleiter st h
theorem zM{P:Program}{w:World}{K:PySem.W.Frag}{tg:Expr}(it:Addr)(lo:Int)(n:Nat):Turn P w K tg (S9 lo n) [it] it (fun i h=>IsRangeIter h it (lo+(i:Nat)*1) ((n:Int) -(i:Nat)) 1)where
 mem:=by simp
 obj:=fun i h st b hb=>by
  have e:b=it:=by simpa using hb
  subst e
  exact⟨_,st,fun v z=>by
   have z':Data.fields _=Data.cell v:=z
   cases z'⟩
 keep:=fun i h h' st k=>k it (by simp) _ st
 item:=by
  intro X hP hw hK hc i pins s σ H E I hf st hg
  subst hP hw hK
  obtain⟨f0,f1,f2,f3,f4,f5⟩:=hf it (by simp)
  have W:=Walks.range (prog:=X.prog) (w:=X.w) (I.ok.hd hc) it lo 1 n
  refine W.item i s _ _ hg st fun v h' tk hv st' kk=>?_
  obtain⟨t,rfl⟩:=hv
  have I1:Inv X pins σ H {s with heap:=h',toks:=tk}:=I.turned (fun b o hb e=>kk b o (by simpa using hb) e) f0 f1 f3 f4 f5
  refine⟨_,rfl,wR (s:={s with heap:=h',toks:=tk}) (n:="range_iterator") st' rfl rfl (by decide) ⟨.int (lo+i),H,I1,⟨t,?_⟩,⟨rfl,rfl⟩,st',fun b hb=>(hf b hb).1⟩⟩
  rw[Int.mul_one]
 done:=by
  intro X hP hw hK hc i pins s σ H E I hf st hg
  subst hP hw hK
  obtain⟨f0,f1,f2,f3,f4,f5⟩:=hf it (by simp)
  exact wpAny_pyNext_range_end (I.ok.hd hc) st (by have:n<=i:=hg;omega) fun h' eb=>⟨rfl,I.turned (t':=s.toks) (fun b o hb e=>eb b o hb e) f0 f1 f3 f4 f5⟩
 self:=fun _ _ _ _ _ st h=>wpAny_pyIter_rangeiter st h
section
variable{X:Cx}{tg:Expr}
theorem wU{pins:List (Addr×Obj)}{σ:St}{H:Hp}{s:Shared}{R:It->Hp->Prop}{E:Value->Shared->Prop}{lo hi:Int}{t u v:Tok}{tk:Nat}(I:Inv X pins σ H s)(h1: -(2^62)<=lo)(h2:lo<2^62)(h3: -(2^62)<=hi)(h4:hi<2^62)
 (q:R (S9 lo (hi -lo).toNat) H):wpAny (model X.prog X.w) X.A (pyIter (.ref s.heap.objs.size)) (Wz X pins σ tg R) E {s with heap:=s.heap.push {cls:=.type "range",data:=.fields #[.int lo t,.int hi u,.int 1 v]},toks:=tk}:=by
 refine wpAny_pyIter_range (IsRange.new ..) (small_one h1 h2 h3 h4) ?_
 have I1:Inv X pins σ H {s with heap:=s.heap.push {cls:=.type "range",data:=.fields #[.int lo t,.int hi u,.int 1 v]},toks:=tk}:=I.kept fun b o e=>Heap.get?_push_of_some _ e
 refine⟨(s.heap.push {cls:=.type "range",data:=.fields #[.int lo t,.int hi u,.int 1 v]}).objs.size,[(s.heap.push {cls:=.type "range",data:=.fields #[.int lo t,.int hi u,.int 1 v]}).objs.size],_,_,H,rfl,
  I1.kept (t':=tk) fun b o e=>Heap.get?_push_of_some _ e,zM _ lo (hi -lo).toNat,?_,fun b hb=>?_,q⟩
 ·have e1:lo+((0:Nat):Int)*1=lo:=by simp
  have e2:(((hi -lo).toNat:Nat):Int) -((0:Nat):Int)=Builtin.Range.rangeSize lo hi 1:=by rw[rangeSize_one];split<;>omega
  show IsRangeIter _ _ (lo+((0:Nat):Int)*1) ((((hi -lo).toNat:Nat):Int) -((0:Nat):Int)) 1
  rw[e1,e2]
  exact Heap.get?_push_size _ rfl
 ·have e:b=(s.heap.push {cls:=.type "range",data:=.fields #[.int lo t,.int hi u,.int 1 v]}).objs.size:=by simpa using hb
  subst e
  exact I1.zJ (Nat.le_refl _) (I1.hok.fresh (Nat.le_refl _))
noncomputable def Tc(ta:TA):TI:=fun σ H R=>ta σ H fun vs H1=>∃j:Int,vs=[.int j]/\-(2^62)<=j/\j<2^62/\R (S9 0 j.toNat) H1
noncomputable def Td(ta:TA):TI:=fun σ H R=>ta σ H fun vs H1=>∃i j:Int,vs=[.int i,.int j]/\(-(2^62)<=i/\i<2^62/\-(2^62)<=j/\j<2^62)/\R (S9 i (j -i).toNat) H1
theorem Ds{a:Expr}{ta:TA}{p pos:Pos}(hg:Gl X "range")(hm:X.mg "range"=none)(ha:PA X [a] ta)(hs:starEach [a] X.env=[(false,eval a X.env)]:=by rfl):PI X tg (.Call (.Name "range" p) [a] [] pos) (Tc ta):=by
 intro pins s σ H R I h
 refine Call_ (jn I hg hm boot_range (PyProof.Rows.callWith_type1 (bK (ha pos pins s σ H _ I h) fun us s1 ⟨vs,H1,I1,r1,q1⟩=>?_) hs rfl))
 obtain⟨j,e,q1,q2,q⟩:=q1
 subst e
 cases r1 with
 |cons r rr=>
  cases rr
  obtain⟨t,rfl⟩:=r
  exact call_range_1 (wU I1 (by omega) (by omega) q1 q2 (by simpa using q))
theorem Du{a b:Expr}{ta:TA}{p pos:Pos}(hg:Gl X "range")(hm:X.mg "range"=none)(ha:PA X [a,b] ta)(hs:starEach [a,b] X.env=[(false,eval a X.env),(false,eval b X.env)]:=by rfl)(hs2:starEach [b] X.env=[(false,eval b X.env)]:=by rfl):
 PI X tg (.Call (.Name "range" p) [a,b] [] pos) (Td ta):=by
 intro pins s σ H R I h
 refine Call_ (jn I hg hm boot_range (PyProof.Rows.callWith_type1 (bK (ha pos pins s σ H _ I h) fun us s1 ⟨vs,H1,I1,r1,q1⟩=>?_) (by rw[hs,hs2]) (by rw[hs2];rfl)))
 obtain⟨i,j,e,⟨q1,q2,q3,q4⟩,q⟩:=q1
 subst e
 cases r1 with
 |cons r rr=>
  cases rr with
  |cons r' rr=>
   cases rr
   obtain⟨t,rfl⟩:=r
   obtain⟨t',rfl⟩:=r'
   exact call_range_2 (wU I1 q1 q2 q3 q4 q)
noncomputable def WC(wi:TI)(g:TG)(tb:TS):TS:=fun D σ H=>wi σ H fun J H1=>∃W:Nat->Nat->St->Hp->Prop,(∃m,W 0 m σ H1)/\∀i m σ H,W i m σ H->
 (J.stop i H/\D.nx σ H)\/(J.go i H/\∃N:St->Hp->Prop,(∀σ' H',N σ' H'->∃m',m'<m/\W (i+1) m' σ' H')/\∀x H',J.RW i H x H'->g x σ H' fun σ2 H2=>tb {D with nx:=N,ct:=N,bk:=D.nx} σ2 H2)
noncomputable def nU(fp:List Addr)(h:Heap):List (Addr×Obj):=fp.filterMap fun b=>(h.get? b).map fun o=>(b,o)
theorem fj{fp:List Addr}{h:Heap}{b:Addr}{o:Obj}(hb:b∈fp)(e:h.get? b=some o):(b,o)∈nU fp h:=List.mem_filterMap.mpr ⟨b,hb,by rw[e];rfl⟩
theorem Dw{fp:List Addr}{h:Heap}{p:Addr×Obj}(hp:p∈nU fp h):p.1∈fp/\h.get? p.1=some p.2:=by
 obtain⟨b,hb,e⟩:=List.mem_filterMap.mp hp
 cases q:h.get? b with
 |none=>rw[q]at e;cases e
 |some o=>
  rw[q]at e
  have e':(b,o)=p:=Option.some.inj e
  subst e'
  exact⟨hb,q⟩
theorem Inv.pinned{pins:List (Addr×Obj)}{σ:St}{H:Hp}{s:Shared}{fp:List Addr}(I:Inv X pins σ H s)(hf:∀b∈fp,lX X pins H b)(ho:∀b∈fp,∃o,s.heap.get? b=some o/\∀v,o.data≠.cell v):Inv X (pins++nU fp s.heap) σ H s:=
 I.Bs fun p hp=>(List.mem_append.mp hp).elim (fun z=>I.pin p (List.mem_append_right _ z)) fun z=>by
  obtain⟨hb,e⟩:=Dw z
  obtain⟨f0,f1,f2,_⟩:=hf p.1 hb
  obtain⟨o,e',d⟩:=ho p.1 hb
  rw[e]at e';cases e'
  exact⟨e,f0,f1,f2,d⟩
theorem Inv.jq{pins pl:List (Addr×Obj)}{σ:St}{H:Hp}{s:Shared}(I:Inv X (pins++pl) σ H s):Inv X pins σ H s:=I.Bs fun p hp=>I.pin p (List.mem_append_right _ (List.mem_append_left _ hp))
theorem NS{iter:Expr}{body:List Stmt}{wi:TI}{g:TG}{tb:TS}{pos:Pos}(hp:PassesOwn (model X.prog X.w) X.A X.env X.xe)(hc:X.calm=true)(hi:PI X tg iter wi)(hg:PG X tg g)(hb:zy X body tb)
 (hs:∀x,foldedSetIterable iter X.env x=pure x:=by intro _;rfl):PS X (.For tg iter body [] pos) (WC wi g tb):=by
 intro pins s σ H D I h
 refine wpAny_For (bK (hi pins s σ H _ I h) fun v s1 h1=>bK h1 fun itv s2 h2=>?_) hs
 obtain⟨it,fp,tn,J,H2,e,I2,T,st2,f2,W,⟨m0,w0⟩,turn⟩:=h2
 subst e
 have NT:∀{H':Hp},(∀b∈fp,H' b=none)->∀b∈fp,lX X pins H' b:=fun hn b hb=>⟨hn b hb,(f2 b hb).2⟩
 refine codeAny_forLoop_any (fun n s'=>∃i σ' H',Inv X pins σ' H' s'/\tn i s'.heap/\(∀b∈fp,H' b=none)/\W i n σ' H') ?_ m0 ⟨0,σ,H2,I2,st2,fun b hb=>(f2 b hb).1,w0⟩
 rintro n s3 ⟨i,σ3,H3,I3,st3,YX,w3⟩
 rcases turn i n σ3 H3 w3 with⟨stop,qn⟩|⟨go,N,hN,step⟩
 ·refine wpAny_passesOwn hp (bK (T.done X rfl rfl rfl hc i pins s3 σ3 H3 X.xe I3 (NT YX) st3 stop) fun r s4 ⟨hr,I4⟩=>?_)
  subst hr
  exact wpAny_execs_nil ⟨σ3,H3,I4,qn⟩
 ·refine wpAny_passesOwn hp (bK (T.item X rfl rfl rfl hc i pins s3 σ3 H3 X.xe I3 (NT YX) st3 go) fun r s4 ⟨u,hr,h4⟩=>?_)
  subst hr
  refine wpAny_passesOwn hp (bK h4 fun _ s5 ⟨x,H5,I5,r5,y5,JA,NU⟩=>?_)
  have I5':=I5.pinned (NT NU) (T.obj _ _ JA)
  refine wpAny_passesOwn hp (bK (hg _ s5 σ3 H5 x u _ I5' r5 (step x H5 y5)) fun _ s6 ⟨σ6,H6,I6,q6⟩=>?_)
  refine wpAny_passesOwn hp (bK (hb _ s6 σ6 H6 _ I6 q6) fun f s7 q7=>?_)
  have again:∀{Fq:St} {H7:Hp},Inv X (pins++nU fp s5.heap) Fq H7 s7->N Fq H7->∃m,m<n/\∃i σ' H',Inv X pins σ' H' s7/\tn i s7.heap/\(∀b∈fp,H' b=none)/\W i m σ' H':=fun{Fq H7} I7 n7=>by
   obtain⟨m',hm,w7⟩:=hN Fq H7 n7
   refine⟨m',hm,i+1,Fq,H7,I7.jq,T.keep _ _ _ JA fun b hb o e=>(I7.pin (b,o) (List.mem_append_right _ (List.mem_append_right _ (fj hb e)))).1,fun b hb=>?_,w7⟩
   obtain⟨o,e,d⟩:=T.obj _ _ JA b hb
   exact(I7.pin (b,o) (List.mem_append_right _ (List.mem_append_right _ (fj hb e)))).2.1
  cases f with
  |next=>obtain⟨Fq,H7,I7,n7⟩:=q7;exact again I7 n7
  |cont=>obtain⟨Fq,H7,I7,n7⟩:=q7;exact again I7 n7
  |brk=>obtain⟨Fq,H7,I7,q7⟩:=q7;exact⟨Fq,H7,I7.jq,q7⟩
  |ret v=>obtain⟨x7,Fq,H7,I7,r7,q7⟩:=q7;exact⟨x7,Fq,H7,I7.jq,r7,q7⟩
end
abbrev R2:=V->V->Hp->VK->Prop
noncomputable def kq(X:Cx)(f:Value->Value->Sem Value)(r:R2):Prop:=
 ∀(pins:List (Addr×Obj)) (s:Shared) (σ:St) (H:Hp) (x y:V) (v u:Value) (Q:VK),Inv X pins σ H s->RelV x v->RelV y u->r x y H Q->
  wpAny (model X.prog X.w) X.A (f v u) (EP X pins σ Q) X.xe s
noncomputable def WD(X:Cx)(f:Value->Sem Value)(r:V->Hp->VK->Prop):Prop:=
 ∀(pins:List (Addr×Obj)) (s:Shared) (σ:St) (H:Hp) (x:V) (v:Value) (Q:VK),Inv X pins σ H s->RelV x v->r x H Q->
  wpAny (model X.prog X.w) X.A (f v) (EP X pins σ Q) X.xe s
noncomputable def fJ(X:Cx)(f:Value)(r:List V->Hp->VK->Prop):Prop:=
 ∀(pins:List (Addr×Obj)) (s:Shared) (σ:St) (H:Hp) (xs:List V) (us:List Value) (Q:VK),Inv X pins σ H s->Vals xs us->r xs H Q->
  wpAny (model X.prog X.w) X.A (call f us) (EP X pins σ Q) X.xe s
noncomputable def tOp(r:R2)(ta tb:TE):TE:=fun σ H Q=>ta σ H fun x H1=>tb σ H1 fun y H2=>r x y H2 Q
noncomputable def tUn(r:V->Hp->VK->Prop)(ta:TE):TE:=fun σ H Q=>ta σ H fun x H1=>r x H1 Q
noncomputable def rI(C:Int->Int->Prop)(g:Int->Int->V):R2:=fun x y H Q=>∃i j,x=.int i/\y=.int j/\C i j/\Q (g i j) H
noncomputable def EY(g:Int->Int->V):R2:=fun x y H Q=>∃i j,x=.int i/\y=.int j/\Q (g i j) H
noncomputable def rU(g:Int->V):V->Hp->VK->Prop:=fun x H Q=>∃i,x=.int i/\Q (g i) H
section
variable{X:Cx}{a b c:Expr}{ta tb tc:TE}{pos:Pos}
theorem WE(ha:PE X a ta)(hb:PE X b tb){pins:List (Addr×Obj)}{s:Shared}{σ:St}{H:Hp}{R:V->V->Hp->Prop}(I:Inv X pins σ H s)
 (h:ta σ H fun x H1=>tb σ H1 fun y H2=>R x y H2) {Q:Value->Shared->Prop} {f:Value->Value->Sem Value}
 (hf:∀v u s2 x y H2,Inv X pins σ H2 s2->RelV x v->RelV y u->R x y H2->wpAny (model X.prog X.w) X.A (f v u) Q X.xe s2):
 wpAny (model X.prog X.w) X.A (eval a X.env) (fun v s₁=>wpAny (model X.prog X.w) X.A (eval b X.env) (fun u s₂=>wpAny (model X.prog X.w) X.A (f v u) Q X.xe s₂) X.xe s₁) X.xe s:=by
 refine bK (ha pins s σ H _ I h) fun v s1 ⟨x,H1,I1,r1,q1⟩=>?_
 refine bK (hb pins s1 σ H1 _ I1 q1) fun u s2 ⟨y,H2,I2,r2,q2⟩=>?_
 exact hf v u s2 x y H2 I2 r1 r2 q2
theorem Te{op:UnaryOp}{r:V->Hp->VK->Prop}(ho:WD X (unaryOp op) r)(ha:PE X a ta):PE X (.UnaryOp op a pos) (tUn r ta):=by
 intro pins s σ H Q I h
 exact UnaryOp_ (bK (ha pins s σ H _ I h) fun v s1 ⟨x,H1,I1,r1,q1⟩=>ho pins s1 σ H1 x v Q I1 r1 q1)
theorem RX{f:Value->Value->Sem Value}{C:Int->Int->Prop}{g:Int->Int->Int}
 (rule:∀(i j:Int) (t u:Tok) (s:Shared) (Q:Value->Shared->Prop) (E:Value->Shared->Prop),C i j->Q (.int (g i j) s.toks) {s with toks:=s.toks+1}->wpAny (model X.prog X.w) X.A (f (.int i t) (.int j u)) Q E s):
 kq X f (rI C fun i j=>.int (g i j)):=by
 intro pins s σ H x y v u Q I rx ry h
 obtain⟨i,j,rfl,rfl,hc,q⟩:=h
 obtain⟨t,rfl⟩:=rx
 obtain⟨t',rfl⟩:=ry
 exact rule i j t t' s _ _ hc ⟨.int (g i j),H,I.tok _,⟨_,rfl⟩,q⟩
theorem Tf{f:Value->Value->Sem Value}{g:Int->Int->Int}
 (rule:∀(i j:Int) (t u:Tok) (s:Shared) (Q:Value->Shared->Prop) (E:Value->Shared->Prop),Q (.int (g i j) s.toks) {s with toks:=s.toks+1}->wpAny (model X.prog X.w) X.A (f (.int i t) (.int j u)) Q E s):
 kq X f (EY fun i j=>.int (g i j)):=by
 intro pins s σ H x y v u Q I rx ry h
 obtain⟨i,j,rfl,rfl,q⟩:=h
 obtain⟨t,rfl⟩:=rx
 obtain⟨t',rfl⟩:=ry
 exact rule i j t t' s _ _ ⟨.int (g i j),H,I.tok _,⟨_,rfl⟩,q⟩
theorem JB{f:Value->Value->Sem Value}{g:Int->Int->Bool}
 (rule:∀(i j:Int) (t u:Tok) (s:Shared) (Q:Value->Shared->Prop) (E:Value->Shared->Prop),Q (.bool (g i j)) s->wpAny (model X.prog X.w) X.A (f (.int i t) (.int j u)) Q E s):
 kq X f (EY fun i j=>.bl (g i j)):=by
 intro pins s σ H x y v u Q I rx ry h
 obtain⟨i,j,rfl,rfl,q⟩:=h
 obtain⟨t,rfl⟩:=rx
 obtain⟨t',rfl⟩:=ry
 exact rule i j t t' s _ _ ⟨.bl (g i j),H,I,rfl,q⟩
noncomputable def sj(i j:Int):Prop:=0<=j/\j<=1000000/\i.natAbs<2^64
theorem zN(k:Nat):(0:Int)<=2^k:=by
 rw[two_pow_cast]
 exact Int.natCast_nonneg _
theorem NV:kq X (binaryOp .Add) (EY fun i j=>.int (i+j)):=Tf fun _ _ _ _ _ _ _ q=>add_int q
theorem NW:kq X (binaryOp .Sub) (EY fun i j=>.int (i -j)):=Tf fun _ _ _ _ _ _ _ q=>sub_int q
theorem JC:kq X (binaryOp .Mod) (rI (fun _ j=>j≠0) fun i j=>.int (i.fmod j)):=RX fun _ _ _ _ _ _ _ hc q=>mod_int' hc q
theorem NX:kq X (binaryOp .Pow) (rI sj fun i j=>.int (i^j.toNat)):=RX fun _ _ _ _ _ _ _ hc q=>pow_int_small hc.1 hc.2.1 hc.2.2 q
theorem NY:kq X (binaryOp .LShift) (rI sj fun i j=>.int (i*2^j.toNat)):=RX fun _ _ _ _ _ _ _ hc q=>lshift_int_small hc.1 hc.2.1 hc.2.2 q
theorem NZ:kq X (binaryOp .RShift) (rI (fun _ j=>0<=j) fun i j=>.int (i/2^j.toNat)):=RX fun i j _ _ _ _ _ hc q=>
 rshift_int hc (by rw[Int.fdiv_eq_ediv_of_nonneg i (zN _)];exact q)
theorem unI{f:Value->Sem Value}{g:Int->Int}
 (rule:∀(i:Int) (t:Tok) (s:Shared) (Q:Value->Shared->Prop) (E:Value->Shared->Prop),Q (.int (g i) s.toks) {s with toks:=s.toks+1}->wpAny (model X.prog X.w) X.A (f (.int i t)) Q E s):
 WD X f (rU fun i=>.int (g i)):=by
 intro pins s σ H x v Q I rx h
 obtain⟨i,rfl,q⟩:=h
 obtain⟨t,rfl⟩:=rx
 exact rule i t s _ _ ⟨.int (g i),H,I.tok _,⟨_,rfl⟩,q⟩
theorem N3:WD X (unaryOp .USub) (rU fun i=>.int (-i)):=unI fun _ _ _ _ _ q=>neg_int q
end
noncomputable def N4:V->V->Bool
 |.aU,.aU=>true|.aU,.int _=>true|.int _,.aU=>true|.aU,.bl _=>true|.bl _,.aU=>true|.aU,.str _=>true|.str _,.aU=>true
 |.int _,.int _=>true|.bl _,.bl _=>true|.str _,.str _=>true|.EX _,.EX _=>true
 |.int _,.str _=>true|.str _,.int _=>true|.bl _,.str _=>true|.str _,.bl _=>true
 |_,_=>false
noncomputable def rEq:R2:=fun x y H Q=>N4 x y=true/\Q (.bl (decide (x=y))) H
noncomputable def rNe:R2:=fun x y H Q=>N4 x y=true/\Q (.bl (!decide (x=y))) H
theorem Bw{i j:Int}:decide (V.int i=V.int j)=(i==j):=by
 rw[Bool.eq_iff_iff]
 simp
theorem Ft{i j:Bool}:decide (V.bl i=V.bl j)=(i==j):=by
 rw[Bool.eq_iff_iff]
 simp
theorem Bx{i j:Str}:decide (V.str i=V.str j)=(i==j):=by
 rw[Bool.eq_iff_iff]
 simp
theorem By{i j:Array UInt8}:decide (V.EX i=V.EX j)=(i.toList==j.toList):=by
 rw[Bool.eq_iff_iff]
 cases i
 cases j
 simp
section
variable{X:Cx}{a b c:Expr}{ta tb tc:TE}{pos:Pos}
theorem aP{pins:List (Addr×Obj)}{σ:St}{H:Hp}{s:Shared}{Q:VK}{k k':Bool}(I:Inv X pins σ H s)(q:Q (.bl k) H)(e:k=k'):EP X pins σ Q (.bool k') s:=by
 subst e
 exact⟨.bl k,H,I,rfl,q⟩
theorem Tg:kq X (compareOp .Eq) rEq:=by
 intro pins s σ H x y v u Q I rx ry h
 obtain⟨hs,q⟩:=h
 cases x with
 |aU=>
  cases rx
  cases y with
  |aU=>cases ry;exact PySem.EqNone.eq_none_none (aP I q (by simp))
  |bl j=>cases ry;exact PySem.EqNone.eq_none_bool (aP I q (by simp))
  |int j=>obtain⟨t',rfl⟩:=ry;exact PySem.EqNone.eq_none_int (aP I q (by simp))
  |str j=>obtain⟨t',rfl⟩:=ry;exact PySem.EqNone.eq_none_str (aP I q (by simp))
  |_=>exact absurd (show false=true from hs) Bool.false_ne_true
 |bl i=>
  cases rx
  cases y with
  |aU=>cases ry;exact PySem.EqNone.eq_bool_none (aP I q (by simp))
  |bl j=>cases ry;exact eq_bool (aP I q Ft)
  |str j=>obtain⟨t',rfl⟩:=ry;exact PySem.EqMixed.eq_bool_str (aP I q (by simp))
  |_=>exact absurd (show false=true from hs) Bool.false_ne_true
 |int i=>
  obtain⟨t,rfl⟩:=rx
  cases y with
  |aU=>cases ry;exact PySem.EqNone.eq_int_none (aP I q (by simp))
  |int j=>obtain⟨t',rfl⟩:=ry;exact eq_int (aP I q Bw)
  |str j=>obtain⟨t',rfl⟩:=ry;exact PySem.EqMixed.eq_int_str (aP I q (by simp))
  |_=>exact absurd (show false=true from hs) Bool.false_ne_true
 |str i=>
  obtain⟨t,rfl⟩:=rx
  cases y with
  |aU=>cases ry;exact PySem.EqNone.eq_str_none (aP I q (by simp))
  |bl j=>cases ry;exact PySem.EqMixed.eq_str_bool (aP I q (by simp))
  |int j=>obtain⟨t',rfl⟩:=ry;exact PySem.EqMixed.eq_str_int (aP I q (by simp))
  |str j=>obtain⟨t',rfl⟩:=ry;exact eq_str (aP I q Bx)
  |_=>exact absurd (show false=true from hs) Bool.false_ne_true
 |EX i=>
  obtain⟨t,rfl⟩:=rx
  cases y with
  |EX j=>obtain⟨t',rfl⟩:=ry;exact PySem.W.eq_bytes (aP I q By)
  |_=>exact absurd (show false=true from hs) Bool.false_ne_true
 |_=>cases y<;>exact absurd (show false=true from hs) Bool.false_ne_true
theorem Th:kq X (compareOp .NotEq) rNe:=by
 intro pins s σ H x y v u Q I rx ry h
 obtain⟨hs,q⟩:=h
 cases x with
 |aU=>
  cases rx
  cases y with
  |aU=>cases ry;exact PySem.EqNone.ne_none_none (aP I q (by simp))
  |bl j=>cases ry;exact PySem.EqNone.ne_none_bool (aP I q (by simp))
  |int j=>obtain⟨t',rfl⟩:=ry;exact PySem.EqNone.ne_none_int (aP I q (by simp))
  |str j=>obtain⟨t',rfl⟩:=ry;exact PySem.EqNone.ne_none_str (aP I q (by simp))
  |_=>exact absurd (show false=true from hs) Bool.false_ne_true
 |bl i=>
  cases rx
  cases y with
  |aU=>cases ry;exact PySem.EqNone.ne_bool_none (aP I q (by simp))
  |bl j=>cases ry;exact ne_bool (aP I q (congrArg not Ft))
  |str j=>obtain⟨t',rfl⟩:=ry;exact PySem.EqMixed.ne_bool_str (aP I q (by simp))
  |_=>exact absurd (show false=true from hs) Bool.false_ne_true
 |int i=>
  obtain⟨t,rfl⟩:=rx
  cases y with
  |aU=>cases ry;exact PySem.EqNone.ne_int_none (aP I q (by simp))
  |int j=>obtain⟨t',rfl⟩:=ry;exact ne_int (aP I q (congrArg not Bw))
  |str j=>obtain⟨t',rfl⟩:=ry;exact PySem.EqMixed.ne_int_str (aP I q (by simp))
  |_=>exact absurd (show false=true from hs) Bool.false_ne_true
 |str i=>
  obtain⟨t,rfl⟩:=rx
  cases y with
  |aU=>cases ry;exact PySem.EqNone.ne_str_none (aP I q (by simp))
  |bl j=>cases ry;exact PySem.EqMixed.ne_str_bool (aP I q (by simp))
  |int j=>obtain⟨t',rfl⟩:=ry;exact PySem.EqMixed.ne_str_int (aP I q (by simp))
  |str j=>obtain⟨t',rfl⟩:=ry;exact ne_str (aP I q (congrArg not Bx))
  |_=>exact absurd (show false=true from hs) Bool.false_ne_true
 |EX i=>
  obtain⟨t,rfl⟩:=rx
  cases y with
  |EX j=>obtain⟨t',rfl⟩:=ry;exact PySem.W.ne_bytes (aP I q (congrArg not By))
  |_=>exact absurd (show false=true from hs) Bool.false_ne_true
 |_=>cases y<;>exact absurd (show false=true from hs) Bool.false_ne_true
theorem Mx:kq X (compareOp .Lt) (EY fun i j=>.bl (decide (i<j))):=JB fun _ _ _ _ _ _ _ q=>lt_int q
theorem My:kq X (compareOp .LtE) (EY fun i j=>.bl (decide (i<=j))):=JB fun _ _ _ _ _ _ _ q=>le_int q
theorem Mz:kq X (compareOp .Gt) (EY fun i j=>.bl (decide (j<i))):=JB fun _ _ _ _ _ _ _ q=>gt_int q
theorem MA:kq X (compareOp .GtE) (EY fun i j=>.bl (decide (j<=i))):=JB fun _ _ _ _ _ _ _ q=>ge_int q
theorem N5:kq X (compareOp .Is) (fun x y H Q=>y=.aU/\Q (.bl (decide (x=.aU))) H):=by
 intro pins s σ H x y v u Q I rx ry h
 obtain⟨rfl,q⟩:=h
 cases ry
 refine is_none_gen (aP I q ?_)
 cases x<;>first
  |(cases rx;rfl)
  |(obtain⟨t,rfl⟩:=rx;rfl)
theorem JD:kq X (compareOp .IsNot) (fun x y H Q=>y=.aU/\Q (.bl (!decide (x=.aU))) H):=by
 intro pins s σ H x y v u Q I rx ry h
 obtain⟨rfl,q⟩:=h
 cases ry
 refine isnot_none_gen (aP I q ?_)
 cases x<;>first
  |(cases rx;rfl)
  |(obtain⟨t,rfl⟩:=rx;rfl)
theorem zO(b:Expr){op:CmpOp}(h:op≠.In:=by decide)(h2:op≠.NotIn:=by decide):behindInMarks op b=false:=by
 have e1:(op==CmpOp.In)=false:=by cases op<;>first|rfl|exact absurd rfl h
 have e2:(op==CmpOp.NotIn)=false:=by cases op<;>first|rfl|exact absurd rfl h2
 cases b<;>simp[behindInMarks,e1,e2]
noncomputable def Ti(t:TE):TT:=fun σ H Q=>t σ H fun x H'=>∃k,x=.bl k/\Q k H'
noncomputable def zP(r r':R2)(ta tb tc:TE):TE:=fun σ H Q=>ta σ H fun x H1=>tb σ H1 fun y H2=>r x y H2 fun z H3=>∃k,z=.bl k/\
 (if k=true then tc σ H3 fun w' H4=>r' y w' H4 Q else Q (.bl false) H3)
theorem Fv{op op':CmpOp}{r r':R2}(ho:kq X (compareOp op) r)(ho':kq X (compareOp op') r')(ha:PE X a ta)(hb:PE X b tb)(hc:PE X c tc)
 (hm:lastMarks [op,op'] [b,c]=false:=by with_unfolding_all rfl):PE X (.Compare a [op,op'] [b,c] pos) (zP r r' ta tb tc):=by
 intro pins s σ H Q I h
 refine Compare_chain (bK (ha pins s σ H _ I h) fun v s1 ⟨x,H1,I1,r1,q1⟩=>chain_link (bK (hb pins s1 σ H1 _ I1 q1) fun u s2 ⟨y,H2,I2,r2,q2⟩=>
  bK (ho pins s2 σ H2 x y v u _ I2 r1 r2 q2) fun d s3 ⟨z,H3,I3,r3,k,e,q3⟩=>?_)) hm
 subst e
 cases r3
 refine wpAny_truthy_bool ?_
 cases k with
 |false=>exact ite_ff ⟨.bl false,H3,I3,rfl,q3⟩
 |true=>exact ite_tt (chain_last (bK (hc pins s3 σ H3 _ I3 q3) fun w' s4 ⟨z',H4,I4,r4,q4⟩=>ho' pins s4 σ H4 y z' u w' Q I4 r2 r4 q4))
theorem Fw{op op':CmpOp}{r r':R2}(ho:kq X (compareOp op) r)(ho':kq X (compareOp op') r')(ha:PE X a ta)(hb:PE X b tb)(hc:PE X c tc)
 (hm:lastMarks [op,op'] [b,c]=false:=by with_unfolding_all rfl):PT X (.Compare a [op,op'] [b,c] pos) (Ti (zP r r' ta tb tc)):=by
 intro pins s σ H Q I h
 refine isTrue_chain (bK (ha pins s σ H _ I h) fun v s1 ⟨x,H1,I1,r1,q1⟩=>test_link (bK (hb pins s1 σ H1 _ I1 q1) fun u s2 ⟨y,H2,I2,r2,q2⟩=>
  bK (ho pins s2 σ H2 x y v u _ I2 r1 r2 q2) fun d s3 ⟨z,H3,I3,r3,k,e,q3⟩=>?_)) hm
 subst e
 cases r3
 refine wpAny_truthy_bool ?_
 cases k with
 |false=>
  obtain⟨k',e',q'⟩:=q3
  cases e'
  exact ite_ff ⟨H3,I3,q'⟩
 |true=>
  refine ite_tt (test_last (bK (hc pins s3 σ H3 _ I3 q3) fun w' s4 ⟨z',H4,I4,r4,q4⟩=>bK (ho' pins s4 σ H4 y z' u w' _ I4 r2 r4 q4) fun d' s5 ⟨z2,H5,I5,r5,k2,e2,q5⟩=>?_))
  subst e2
  cases r5
  exact wpAny_truthy_bool ⟨H5,I5,q5⟩
theorem qh:(sizeLine:Nat)<2^63:=by rw[sizeLine_eq];decide
theorem zQ:kq X (binaryOp .Add) (fun x y H Q=>∃i j,x=.str i/\y=.str j/\i.length+j.length<=sizeLine/\Q (.str (i++j)) H):=by
 intro pins s σ H x y v u Q I rx ry h
 obtain⟨i,j,rfl,rfl,hz,q⟩:=h
 obtain⟨t,rfl⟩:=rx
 obtain⟨t',rfl⟩:=ry
 exact add_str (fun t' tk=>⟨.str (i++j),H,I.tok _,⟨_,rfl⟩,q⟩) hz
theorem vals1{x:V}{us:List Value}(r:Vals [x] us):∃u,us=[u]/\RelV x u:=by
 cases r with
 |cons r1 r2=>cases r2;exact⟨_,rfl,r1⟩
theorem vals2{x y:V}{us:List Value}(r:Vals [x,y] us):∃u w',us=[u,w']/\RelV x u/\RelV y w':=by
 cases r with
 |cons r1 r2=>
  cases r2 with
  |cons r3 r4=>cases r4;exact⟨_,_,rfl,r1,r3⟩
theorem Fx:fJ X (.builtin "abs") (fun xs H Q=>∃i,xs=[.int i]/\Q (.int (if i<0 then-i else i)) H):=by
 intro pins s σ H xs us Q I r h
 obtain⟨i,rfl,q⟩:=h
 obtain⟨u,rfl,t,rfl⟩:=vals1 r
 exact call_abs_int fun u tk=>⟨.int (if i<0 then-i else i),H,I.tok _,⟨_,rfl⟩,q⟩
theorem Dy(hc:X.calm=true):fJ X (.builtin "max") (fun xs H Q=>∃i j,xs=[.int i,.int j]/\Q (.int (if j>i then j else i)) H):=by
 intro pins s σ H xs us Q I r h
 obtain⟨i,j,rfl,q⟩:=h
 obtain⟨u,w',rfl,⟨t,rfl⟩,⟨t',rfl⟩⟩:=vals2 r
 refine max_two_ints (I.ok.hd hc) fun h' tk k=>⟨_,H,I.kept k,?_,q⟩
 by_cases hj:j>i
 ·rw[if_pos hj,if_pos hj];exact⟨_,rfl⟩
 ·rw[if_neg hj,if_neg hj];exact⟨_,rfl⟩
theorem Dz(hc:X.calm=true):fJ X (.builtin "min") (fun xs H Q=>∃i j,xs=[.int i,.int j]/\Q (.int (if j<i then j else i)) H):=by
 intro pins s σ H xs us Q I r h
 obtain⟨i,j,rfl,q⟩:=h
 obtain⟨u,w',rfl,⟨t,rfl⟩,⟨t',rfl⟩⟩:=vals2 r
 refine min_two_ints (I.ok.hd hc) fun h' tk k=>⟨_,H,I.kept k,?_,q⟩
 by_cases hj:j<i
 ·rw[if_pos hj,if_pos hj];exact⟨_,rfl⟩
 ·rw[if_neg hj,if_neg hj];exact⟨_,rfl⟩
end
structure zS(h:Heap)(x dx C:Addr)(mA:Str->Option Value):Prop where
 obj:h.get? x=some (PySem.W.instObj C dx)
 ns:h.Ns1 dx mA
 ne:dx≠x
theorem DC{h:Heap}{dx:Addr}{mA:Str->Option Value}(n:h.Ns1 dx mA):∃od,h.get? dx=some od/\∀name,PySem.W.lookIn name od=some (mA name):=by
 obtain⟨o,es,ep,ho,hd,hk,_,hm⟩:=n
 refine⟨o,ho,fun name=>?_⟩
 have e:=hm name
 unfold nsFind findBy at e
 rw[←Array.find?_toList]at e
 unfold PySem.W.lookIn
 rw[hd]
 dsimp only
 split
 ·rename_i y q
  rw[q]at e
  exact congrArg some e
 ·rename_i q
  rw[q]at e
  have a:es.toList.any (·.refKey)=false:=by
   rw[List.any_eq_false]
   intro y hy
   obtain⟨z,t,hkey⟩:=hk y (Array.mem_toList_iff.mp hy)
   simp[DictEntry.refKey,hkey]
  have a':¬es.toList.any (·.refKey)=true:=by rw[a];exact Bool.false_ne_true
  rw[if_neg a']
  exact congrArg some e
theorem zS.look{h:Heap}{x dx C:Addr}{mA:Str->Option Value}(I:zS h x dx C mA):∃od,PySem.W.InstAt h x (PySem.W.instObj C dx) C (some od)/\∀name,PySem.W.lookIn name od=some (mA name):=
 let⟨od,ho,hl⟩:=DC I.ns
 ⟨od,⟨I.obj,rfl,rfl,ho⟩,hl⟩
section
variable{prog:Program}{w:World}{A:Around}{E:Value->Shared->Prop}{s:Shared}{K:PySem.W.Frag}{x dx C f:Addr}{mA:Str->Option Value}{name:Str}{v:Value}
theorem get_map{expr:Bool}{Q:Value->Shared->Prop}(X:K.In s.heap)(I:zS s.heap x dx C mA)(hg:PySem.W.plainGet K C name=true)(hh:PySem.W.hasDictIn K C=true)
 (ha:PySem.W.findIn K (.ref C) name=some none) (hv:mA name=some v) (hv':PySem.W.handedIn v=true) (h:Q v {s with toks:=s.toks+1}):
 wpAny (model prog w) A (getAttr (.ref x) name expr) Q E s:=by
 obtain⟨od,J,hl⟩:=I.look
 exact PySem.W.get_value X J (PySem.W.plainGet_of hg).1 (PySem.W.findObj_own hh ha rfl (by rw[hl,hv])) hv' h
theorem Fy{pl:Sem Bool}{Q:Value×List Value->Shared->Prop}(X:K.In s.heap)(I:zS s.heap x dx C mA)(hg:PySem.W.plainGet K C name=true)
 (hf:PySem.W.findIn K (.ref C) name=some (some (.ref f))) (ht:PySem.W.isFn K (.ref f)=true) (hv:mA name=none) (h:Q (.ref f,[.ref x]) s):
 wpAny (model prog w) A (getMethod (.ref x) name pl) Q E s:=by
 obtain⟨od,J,hl⟩:=I.look
 exact PySem.W.method_fn X J (PySem.W.plainGet_of hg).1 (PySem.W.plainGet_of hg).2 hf (beq_iff_eq.mp ht) (by show(PySem.W.lookIn name od).map (·.isSome)=some false;rw[hl,hv];rfl) h
theorem JE{ns:List Str}{Q:Unit->Shared->Prop}(X:K.In s.heap)(I:zS s.heap x dx C mA)
 (hs:PySem.W.findIn K (.ref C) "__setattr__"=some (some (.builtin "object.__setattr__"))) (hp:PySem.W.plainOver K C=true) (ht:PySem.W.takerIn K C name=some none) (hh:PySem.W.hasDictIn K C=true)
 (hw:PySem.Within mA ns) (hsz:ns.length<=sizeLine)
 (h:∀h',zS h' x dx C (fun y=>if y=name then some v else mA y)->Heap.SameBut dx s.heap h'->Q () {s with heap:=h',toks:=s.toks+2}):
 wpAny (model prog w) A (setAttr (.ref x) name v) Q E s:=by
 obtain⟨od,J,hl⟩:=I.look
 refine PySem.W.set_plain X J hs (PySem.W.osa_open (s:={s with toks:=s.toks+1}) (r:=none) X J hp ht fun b=>?_)
 obtain⟨cd,hc,hd'⟩:=PySem.W.any_some hh
 have hx:s.heap.get? x=some ⟨.ref C,some dx,.plain,#[]⟩:=I.obj
 refine wpAny_bind (wpAny_pure (wpAny_bind (wpAny_bind (wpAny_loadPart hx (wpAny_bind (PySem.W.Looks.here (s:={s with toks:=s.toks+1}) (PySem.W.looks_clsIn X hc) ?_))))))
 rw[hd']
 refine wpAny_pure (a:=some dx) (wpAny_bind (wpAny_pure (wpAny_bind ?_)))
 refine wpAny_nsSet1 (s:={s with toks:=s.toks+1}) I.ns fun h' hn2 hs2=>?_
 obtain⟨oD,esD,epD,hoD,hdD,hcD⟩:=hn2.count (PySem.Within.cons name v hw)
 refine wpAny_bind (wpAny_lookBehind hoD (by rw[hdD];exact pastItsLine_dict (Nat.le_trans hcD (by rw[List.length_cons];omega))) ?_)
 exact wpAny_pure (h _ ⟨(hs2.2 _ (Ne.symm I.ne)).trans I.obj,hn2,I.ne⟩ hs2)
theorem FA{R:Result->Shared->Prop}{vs:List Value}{kw:List (Str×Value)}(X:K.In s.heap)(hm:PySem.W.makesIn K C=true)
 (hi:PySem.W.findIn K (.ref C) "__init__"=some (some (.ref f))) (hf:PySem.W.typeIn K (.ref f)=some (.type "function"))
 (h:codeAny (model prog w) (A.under (.builtin "type.__call__" ⟨.ref C::vs,kw⟩)) (.call (.ref f) ⟨.ref (s.heap.objs.size+1)::vs,kw⟩) (PySem.W.InitBack (s.heap.objs.size+1) R)
   {s with heap:=(s.heap.push PySem.W.emptyDict).push (PySem.W.instObj C s.heap.objs.size)}):
 codeAny (model prog w) A (.call (.ref C) ⟨vs,kw⟩) R s:=by
 obtain⟨hh,g,d,t,os⟩:=s
 exact PySem.W.make_core (PySem.W.makes_of X hm) (PySem.W.looks_findIn X hi) (fun self=>PySem.W.bind_fn X self hf) (.inl rfl) h
end
noncomputable def iQ(f:Str)(v:V):List (Str×V)->List (Str×V)
 |[]=>[(f,v)]
 |(g,x)::r=>if g=f then(g,v)::r else(g,x)::iQ f v r
theorem oH(f g:Str)(v:V):∀fs:List (Str×V),(iQ f v fs).lookup g=if g=f then some v else fs.lookup g
 |[]=>by
  show List.lookup g [(f,v)]=_
  by_cases h:g=f
  ·have hb:(g==f)=true:=beq_iff_eq.mpr h
   simp only[List.lookup,hb,if_pos h]
  ·have hb:(g==f)=false:=beq_eq_false_iff_ne.mpr h
   simp only[List.lookup,hb,if_neg h]
 |(k,x)::r=>by
  have ih:=oH f g v r
  rw[show iQ f v ((k,x)::r)=(if k=f then(k,v)::r else(k,x)::iQ f v r)from rfl]
  by_cases hk:k=f
  ·rw[if_pos hk]
   by_cases h:g=k
   ·have hb:(g==k)=true:=beq_iff_eq.mpr h
    simp only[List.lookup,hb,if_pos (h.trans hk)]
   ·have hb:(g==k)=false:=beq_eq_false_iff_ne.mpr h
    simp only[List.lookup,hb,if_neg (fun e:g=f=>h (e.trans hk.symm))]
  ·rw[if_neg hk]
   by_cases h:g=k
   ·have hb:(g==k)=true:=beq_iff_eq.mpr h
    simp only[List.lookup,hb,if_neg (fun e:g=f=>hk (h.symm.trans e))]
   ·have hb:(g==k)=false:=beq_eq_false_iff_ne.mpr h
    simp only[List.lookup,hb]
    exact ih
theorem nV(f:Str)(v:V):∀fs:List (Str×V),f∈(iQ f v fs).map (·.1)/\∀g,g∈fs.map (·.1)->g∈(iQ f v fs).map (·.1)
 |[]=>⟨by simp[iQ],fun g h=>by simp at h⟩
 |(k,x)::r=>by
  obtain⟨i1,i2⟩:=nV f v r
  rw[show iQ f v ((k,x)::r)=(if k=f then(k,v)::r else(k,x)::iQ f v r)from rfl]
  by_cases hk:k=f
  ·rw[if_pos hk]
   subst hk
   exact⟨by simp,fun g h=>by simpa using h⟩
  ·rw[if_neg hk]
   refine⟨?_,fun g h=>?_⟩
   ·rw[List.map_cons]
    exact List.mem_cons_of_mem _ i1
   ·rw[List.map_cons]at h⊢
    rcases List.mem_cons.mp h with e|e
    ·exact List.mem_cons.mpr (.inl e)
    ·exact List.mem_cons_of_mem _ (i2 g e)
theorem oJ(f:Str)(v:V):∀fs:List (Str×V),(iQ f v fs).length<=fs.length+1
 |[]=>by simp[iQ]
 |(k,x)::r=>by
  have ih:=oJ f v r
  rw[show iQ f v ((k,x)::r)=(if k=f then(k,v)::r else(k,x)::iQ f v r)from rfl]
  by_cases hk:k=f
  ·rw[if_pos hk,List.length_cons,List.length_cons];omega
  ·rw[if_neg hk,List.length_cons,List.length_cons];omega
theorem se.some_of{v:V}{o:Option Value}(r:se (some v) o):∃u,o=some u/\RelV v u:=by
 cases o with
 |none=>exact(show False from r).elim
 |some u=>exact⟨u,rfl,r⟩
theorem se.none_of{o:Option Value}(r:se none o):o=none:=by
 cases o with
 |none=>rfl
 |some u=>exact(show False from r).elim
theorem DE{v:V}{u:Value}(r:RelV v u):PySem.W.handedIn u=true:=by
 cases v with
 |aU=>cases(show u=Value.none from r);rfl
 |bl b=>cases(show u=Value.bool b from r);rfl
 |int i=>obtain⟨t,e⟩:=(show∃t,u=Value.int i t from r);cases e;rfl
 |str x=>obtain⟨t,e⟩:=(show∃t,u=Value.str x t from r);cases e;rfl
 |EX b=>obtain⟨t,e⟩:=(show∃t,u=Value.bytes b t from r);cases e;rfl
 |Nv b=>obtain⟨t,e⟩:=(show∃t,u=Value.float b t from r);cases e;rfl
 |ref a=>cases(show u=Value.ref a from r);rfl
 |ty n=>cases(show u=Value.type n from r);rfl
section
variable{P:Program}{w:World}{H H':Hp}{h h':Heap}{a C dx:Addr}{fs fs':List (Str×V)}
theorem pO(hok:lN P w H h)(e:H a=some (.ins C dx fs)):∃mA,zS h a dx C mA/\(∀f,se (fs.lookup f) (mA f))/\PySem.Within mA (fs.map (·.1))/\fs.length<=1000/\H dx=some (.own a):=by
 obtain⟨d,z,ne,ob,mA,n,r,q⟩:=(show cI P w H h a (.ins C dx fs)from hok a _ e)
 exact⟨mA,⟨ob,n,ne⟩,r,q,z,d⟩
end
structure JF(K:PySem.W.Frag)(C:Addr):Prop where
 pg:PySem.W.plainGet K C Str.empty=true
 hd:PySem.W.hasDictIn K C=true
 po:PySem.W.plainOver K C=true
 sa:PySem.W.findIn K (.ref C) "__setattr__"=some (some (.builtin "object.__setattr__"))
theorem JF.get{K:PySem.W.Frag}{C:Addr}(c:JF K C)(f:Str):PySem.W.plainGet K C f=true:=c.pg
noncomputable def kW(K:PySem.W.Frag)(C:Addr)(f:Str):Prop:=PySem.W.findIn K (.ref C) f=some none
theorem kW.Tj{K:PySem.W.Frag}{C:Addr}{f:Str}(n:kW K C f):PySem.W.takerIn K C f=some none:=by
 unfold PySem.W.takerIn
 rw[show PySem.W.findIn K (.ref C) f=some none from n]
 rfl
structure Meth(K:PySem.W.Frag)(C:Addr)(m:Str)(f:Addr):Prop where
 at_:PySem.W.findIn K (.ref C) m=some (some (.ref f))
 fn:PySem.W.isFn K (.ref f)=true
 kp:PySem.W.keepIn K (.ref f)=true
section
variable{X:Cx}{pins:List (Addr×Obj)}{σ:St}{H:Hp}{s:Shared}{a C dx:Addr}{fs:List (Str×V)}{f:Str}{v:V}{A:Around}{E:Value->Shared->Prop}
theorem zU{b:Bool}{Q:Value->Shared->Prop}(I:Inv X pins σ H s)(e:H a=some (.ins C dx fs))(c:JF X.K C)(n:kW X.K C f)(l:fs.lookup f=some v)
 (h:∀u s',Inv X pins σ H s'->RelV v u->Q u s'):wpAny (model X.prog X.w) A (getAttr (.ref a) f b) Q E s:=by
 obtain⟨mA,O,r,_,_,_⟩:=pO I.hok e
 obtain⟨u,hu,ru⟩:=se.some_of (v:=v) (o:=mA f) (by rw[←l];exact r f)
 exact get_map I.oG O (c.get f) c.hd n hu (DE ru) (h u _ (I.tok _) ru)
theorem qi{m:Str}{g:Addr}{pl:Sem Bool}{Q:Value×List Value->Shared->Prop}(I:Inv X pins σ H s)(e:H a=some (.ins C dx fs))(c:JF X.K C)(k:Meth X.K C m g)(l:fs.lookup m=none)
 (h:Q (.ref g,[.ref a]) s):wpAny (model X.prog X.w) A (getMethod (.ref a) m pl) Q E s:=by
 obtain⟨mA,O,r,_,_,_⟩:=pO I.hok e
 have hn:mA m=none:=se.none_of (by rw[←l];exact r m)
 exact Fy I.oG O (c.get m) k.at_ k.fn hn h
theorem zV{y:V}{u:Value}{Q:Unit->Shared->Prop}(I:Inv X pins σ H s)(e:H a=some (.ins C dx fs))(c:JF X.K C)(n:kW X.K C f)(hl:fs.length<1000)(ry:RelV y u)
 (h:∀s',Inv X pins σ (upd H a (.ins C dx (iQ f y fs))) s'->Q () s'):wpAny (model X.prog X.w) A (setAttr (.ref a) f u) Q E s:=by
 obtain⟨mA,O,r,wi,_,ho⟩:=pO I.hok e
 have hz:(fs.map (·.1)).length<=sizeLine:=by rw[List.length_map,sizeLine_eq];omega
 refine JE I.oG O c.sa c.po n.Tj c.hd wi hz fun h' O' sb=>h _ ?_
 have hd:∃o,h'.get? dx=some o:=let⟨o,_,_,e',_⟩:=O'.ns;⟨o,e'⟩
 refine I.write (x:=a) (e:=dx) (by rw[e];exact True.intro) (.inr ho) (fun b q hb z=>(sb.2 b hb).trans z) hd ?_
 refine⟨by rw[ao O.ne];exact ho,?_,O.ne,O'.obj,_,O'.ns,fun g=>?_,fun g hg=>?_⟩
 ·have:=oJ f y fs;omega
 ·show se ((iQ f y fs).lookup g) (if g=f then some u else mA g)
  rw[oH]
  by_cases q:g=f
  ·rw[if_pos q,if_pos q];exact ry
  ·rw[if_neg q,if_neg q];exact r g
 ·by_cases q:g=f
  ·rw[q];exact(nV f y fs).1
  ·refine(nV f y fs).2 g (wi g fun z=>hg ?_)
   show(if g=f then some u else mA g)=none
   rw[if_neg q];exact z
theorem Inv.made(I:Inv X pins σ H s):Inv X pins σ (upd (upd H s.heap.objs.size (.own (s.heap.objs.size+1))) (s.heap.objs.size+1) (.ins C s.heap.objs.size []))
 {s with heap:=(s.heap.push PySem.W.emptyDict).push (PySem.W.instObj C s.heap.objs.size)}:=by
 have e1:(s.heap.push PySem.W.emptyDict).get? s.heap.objs.size=some PySem.W.emptyDict:=Heap.get?_push_size s.heap rfl
 have e2:((s.heap.push PySem.W.emptyDict).push (PySem.W.instObj C s.heap.objs.size)).get? (s.heap.objs.size+1)=some (PySem.W.instObj C s.heap.objs.size):=by
  have:=Heap.get?_push_size (s.heap.push PySem.W.emptyDict) (o:=PySem.W.instObj C s.heap.objs.size) rfl
  rwa [Heap.size_push]at this
 have e3:(s.heap.push PySem.W.emptyDict).Ns s.heap.objs.size (fun _=>none):=⟨PySem.W.emptyDict,#[],_,e1,rfl,(fun e he=>absurd he (by simp)),fun _=>rfl⟩
 have I1:=I.laid (a:=s.heap.objs.size) (o:=.own (s.heap.objs.size+1)) (h':=s.heap.push PySem.W.emptyDict) (t':=s.toks) (fun b u q=>Heap.get?_push_of_some _ q) (Nat.le_refl _) ⟨_,e1⟩
 refine I1.laid (a:=s.heap.objs.size+1) (o:=.ins C s.heap.objs.size []) (t':=s.toks) (fun b u q=>Heap.get?_push_of_some _ q) (Nat.le_of_eq (Heap.size_push _ _)) ?_
 have ne:s.heap.objs.size≠s.heap.objs.size+1:=Nat.ne_of_lt (Nat.lt_succ_self _)
 refine⟨by rw[ao ne,aD],Nat.zero_le _,ne,e2,fun _=>none,(Heap.Ns1.of_empty e3).at fun o q=>Heap.get?_push_of_some _ q,fun _=>True.intro,fun y hy=>absurd rfl hy⟩
theorem JG{prog:Program}{w:World}{env:Env}{e:Expr}{f:Str}{pos:Pos}{s:Shared}{Q:Value->Shared->Prop}(hb:attributeBase e f env (eval e env)=eval e env)
 (h:wpAny (model prog w) A (eval e env) (fun o s₁=>wpAny (model prog w) A (getAttr o f true) Q E s₁) E s):wpAny (model prog w) A (eval (.Attribute e f pos) env) Q E s:=
 Attribute_any_ h (by rw[arm_eval_Attribute,hb])
end
noncomputable def WG(K:PySem.W.Frag)(ta:TE)(f:Str):TE:=fun σ H Q=>ta σ H fun x H1=>∃a C dx fs v,x=.ref a/\H1 a=some (.ins C dx fs)/\JF K C/\kW K C f/\fs.lookup f=some v/\Q v H1
noncomputable def Tn(K:PySem.W.Frag)(ta tv:TE)(f:Str):TS:=fun D σ H=>tv σ H fun y H1=>ta σ H1 fun x H2=>∃a C dx fs,x=.ref a/\H2 a=some (.ins C dx fs)/\JF K C/\kW K C f/\fs.length<1000/\
 D.nx σ (upd H2 a (.ins C dx (iQ f y fs)))
section
variable{X:Cx}{o e value:Expr}{f:Str}{pos pos' tpos:Pos}{ta tv:TE}
theorem N6(he:PE X e ta)(hb:attributeBase e f X.env (eval e X.env)=eval e X.env):PE X (.Attribute e f pos) (WG X.K ta f):=by
 intro pins s σ H Q I h
 refine JG hb (bK (he pins s σ H _ I h) fun u s1 ⟨x,H1,I1,rx,a,C,dx,fs,v,ex,ea,c,n,l,q⟩=>?_)
 subst ex
 obtain rfl:u=Value.ref a:=rx
 exact zU I1 ea c n l fun u' s2 I2 ru=>⟨v,H1,I2,ru,q⟩
theorem gY(ha:PE X o ta)(hv:PE X value tv)(hs:swapsWith value (some (.Attribute o f pos')) pos.line X.env=pure false):PS X (.Assign [.Attribute o f pos'] value pos) (Tn X.K ta tv f):=by
 intro pins s σ H D I h
 refine plainObj_wpAny_Assign_Attribute (bK (hv pins s σ H _ I h) fun u s1 ⟨y,H1,I1,ry,q⟩=>bK (ha pins s1 σ H1 _ I1 q) fun ov s2 ⟨x,H2,I2,rx,a,C,dx,fs,ex,ea,c,n,l,q2⟩=>?_) hs
 subst ex
 obtain rfl:ov=Value.ref a:=rx
 exact zV I2 ea c n l ry fun s3 I3=>⟨σ,_,I3,q2⟩
end
section
variable{X:Cx}{pins:List (Addr×Obj)}{σ:St}{H:Hp}{s:Shared}{A:Around}{E:Value->Shared->Prop}{Q:Value->Shared->Prop}{c:Value}{b:Bool}
inductive pq(K:PySem.W.Frag)(H:Hp):V->Value->Prop where
 |aU:pq K H .aU (.type "NoneType")
 |bl (x:Bool):pq K H (.bl x) (.type "bool")
 |int (i:Int):pq K H (.int i) (.type "int")
 |str (x:Str):pq K H (.str x) (.type "str")
 |Nv (x:UInt64):pq K H (.Nv x) (.type "float")
 |lst {a:Addr} {xs:List V} (e:H a=some (.lst xs)):pq K H (.ref a) (.type "list")
 |wO {a:Addr} {o:Obj} {xs:List V} (e:H a=some (.wO o (.lst xs))):pq K H (.ref a) (.type "list")
 |tup {a:Addr} {xs:List V} (e:H a=some (.tup xs)):pq K H (.ref a) (.type "tuple")
 |dK {a:Addr} {kvs:List (Key×V)} (e:H a=some (.dK kvs)):pq K H (.ref a) (.type "dict")
 |dT {a:Addr} {kvs:List (List Key×V)} (e:H a=some (.dT kvs)):pq K H (.ref a) (.type "dict")
 |ins {a C dx:Addr} {fs:List (Str×V)} (e:H a=some (.ins C dx fs)) (cl:JF K C) (ha:PySem.W.findIn K (.ref C) "__class__"=some (some (.builtin "object.__class__")))
   (hn:PySem.W.specialIn K (.builtin "object.__class__") "__get__"=some (some (.builtin "getset_descriptor.__get__"))) (htk:PySem.W.takesIn K (.builtin "object.__class__")=some true)
   (hm:PySem.W.mroIn K C (.type "object")=some true):pq K H (.ref a) (.ref C)
theorem gm{x:V}{u t:Value}(I:Inv X pins σ H s)(rx:RelV x u)(ty:pq X.K H x t)(e:PySem.W.kitOne X.K t c=some b)(h:∀tk,Q (.bool b) {s with toks:=tk}):
 wpAny (model X.prog X.w) A (call (.builtin "isinstance") [u,c]) Q E s:=by
 cases ty with
 |aU=>cases(show u=Value.none from rx);exact PySem.W.kia_one PySem.W.kitx_none I.oG True.intro e (fun z=>nomatch z) h
 |bl y=>cases(show u=Value.bool y from rx);exact PySem.W.kia_one PySem.W.kitx_bool I.oG True.intro e (fun z=>nomatch z) h
 |int i=>obtain⟨t,q⟩:=(show∃t,u=Value.int i t from rx);cases q;exact PySem.W.kia_one PySem.W.kitx_int I.oG True.intro e (fun z=>nomatch z) h
 |str y=>obtain⟨t,q⟩:=(show∃t,u=Value.str y t from rx);cases q;exact PySem.W.kia_one PySem.W.kitx_str I.oG True.intro e (fun z=>nomatch z) h
 |Nv y=>obtain⟨t,q⟩:=(show∃t,u=Value.float y t from rx);cases q;exact PySem.W.kia_one PySem.W.kitx_float I.oG True.intro e (fun z=>nomatch z) h
 |@lst a xs ea=>
  cases(show u=Value.ref a from rx)
  obtain⟨_,_,n,_,h1⟩:=(show cI X.prog X.w H s.heap a (.lst xs)from I.hok a _ ea)
  exact PySem.W.kia_one PySem.W.kitx_list I.oG ⟨_,h1,rfl⟩ e (fun z=>nomatch z) h
 |@wO a ob xs ea=>
  cases(show u=Value.ref a from rx)
  obtain⟨_,_,_,n,_,h1⟩:=(show cI X.prog X.w H s.heap a (.wO ob (.lst xs))from I.hok a _ ea)
  exact PySem.W.kia_one PySem.W.kitx_list I.oG ⟨_,h1,rfl⟩ e (fun z=>nomatch z) h
 |@tup a xs ea=>
  cases(show u=Value.ref a from rx)
  obtain⟨_,_,_,p⟩:=(show cI X.prog X.w H s.heap a (.tup xs)from I.hok a _ ea)
  obtain⟨o,h1,h2,_⟩:=p
  exact PySem.W.kia_one PySem.W.kitx_tuple I.oG ⟨o,h1,h2⟩ e (fun z=>nomatch z) h
 |@dK a kvs ea=>
  cases(show u=Value.ref a from rx)
  obtain⟨_,_,vs,_,p⟩:=(show cI X.prog X.w H s.heap a (.dK kvs)from I.hok a _ ea)
  obtain⟨o,es,ep,h1,h2,_⟩:=p
  exact PySem.W.kia_one PySem.W.kitx_dict I.oG ⟨o,h1,h2.1⟩ e (fun z=>nomatch z) h
 |@dT a kvs ea=>
  cases(show u=Value.ref a from rx)
  obtain⟨_,_,xs,_,o,es,ep,h1,h2,_⟩:=(show cI X.prog X.w H s.heap a (.dT kvs)from I.hok a _ ea)
  exact PySem.W.kia_one PySem.W.kitx_dict I.oG ⟨o,h1,h2.1⟩ e (fun z=>nomatch z) h
 |@ins a C dx fs ea cl ha hn htk hm=>
  cases(show u=Value.ref a from rx)
  obtain⟨mA,O,_⟩:=pO I.hok ea
  obtain⟨od,J,_⟩:=O.look
  exact PySem.W.kia_one (PySem.W.kitx_own (cl.get _) cl.hd ha hn htk hm) I.oG J e (fun z=>nomatch z) h
end
structure dN(k:Nat)(A:Around):Prop where
 hd:A.handled=none
 dp:A.depth+3*k+5<recursionLimit
 un:A.units+16*k+200<cLine
theorem dN.mono{j k:Nat}{A:Around}(r:dN k A)(h:j<=k):dN j A:=⟨r.hd,by have:=r.dp;omega,by have:=r.un;omega⟩
theorem dN.deeper{k:Nat}{A:Around}(r:dN (k+1) A)(env:Env):dN k (A.deeper env):=
 ⟨r.hd,by have:=r.dp;show A.depth+1+3*k+5<_;omega,by have:=r.un;show A.units+3+16*k+200<_;omega⟩
theorem zX{A:Around}{C:Addr}{us:List Value}{kw:List (Str×Value)}:(A.under (.builtin "type.__call__" ⟨.ref C::us,kw⟩)).depth=A.depth+1:=by
 first|rfl|simp[Around.under,Code.weight,Code.isCreation,Code.isGuard,Code.isCaller,Code.frames,Code.isFrame,guardIds]
theorem zY{A:Around}{C:Addr}{us:List Value}{kw:List (Str×Value)}:(A.under (.builtin "type.__call__" ⟨.ref C::us,kw⟩)).units=A.units+1:=by
 first|rfl|simp[Around.under,Code.cUnits,Code.frames,Code.isFrame]
theorem dN.make{k:Nat}{A:Around}(r:dN (k+1) A)(C:Addr)(us:List Value)(kw:List (Str×Value)):dN k (A.under (.builtin "type.__call__" ⟨.ref C::us,kw⟩)):=
 ⟨r.hd,by have:=r.dp;rw[zX];omega,by have:=r.un;rw[zY];omega⟩
theorem dN.depth{k:Nat}{A:Around}(r:dN k A):A.depth<recursionLimit:=by have:=r.dp;omega
theorem dN.units{k:Nat}{A:Around}(r:dN k A):A.units+64<cLine:=by have:=r.un;omega
def N7:TA:=fun _ H Q=>Q [] H
noncomputable def FD(ta:TE)(tr:TA):TA:=fun σ H Q=>ta σ H fun x H1=>tr σ H1 fun xs H2=>Q (x::xs) H2
section
variable{X:Cx}{e:Expr}{es:List Expr}{te:TE}{t:TA}{pos:Pos}
theorem dD:PA X [] N7:=fun _ _ _ _ H Q I h=>Calls.spliced_nil ⟨[],H,I,.nil,h⟩
theorem bC(ha:PE X e te)(hr:PA X es t)(hs:starEach (e::es) X.env=(false,eval e X.env)::starEach es X.env:=by rfl):PA X (e::es) (FD te t):=by
 intro pos pins s σ H Q I h
 rw[hs]
 show wpAny _ _ (spliced ((false,eval e X.env)::backTo pos (starEach es X.env))) _ _ s
 refine Calls.spliced_cons (bK (ha pins s σ H _ I h) fun u s1 ⟨x,H1,I1,r1,q1⟩=>?_)
 exact bK (hr pos pins s1 σ H1 _ I1 q1) fun us s2 ⟨xs,H2,I2,r2,q2⟩=>⟨x::xs,H2,I2,.cons r1 r2,q2⟩
noncomputable def WH(t:TA):TE:=fun σ H Q=>t σ H fun xs H1=>xs.length<=sizeLine/\∀p,H1 p=none->Q (.ref p) (upd H1 p (.tup xs))
noncomputable def WI(t:TA):TE:=fun σ H Q=>t σ H fun xs H1=>xs.length<=sizeLine/\∀p,H1 p=none->Q (.ref p) (upd H1 p (.lst xs))
theorem z4{x1}(h:PA X es t):PE X (.Tuple es x1 pos) (WH t):=by
 intro pins s σ H Q I hq
 refine wpAny_Tuple_spliced (bK (h pos pins s σ H _ I hq) fun us s1 ⟨xs,H1,I1,r,z,q⟩=>⟨by rw[←r.length];exact z,?_⟩)
 have hf:H1 s1.heap.objs.size=none:=I1.hok.fresh (Nat.le_refl _)
 refine⟨.ref s1.heap.objs.size,upd H1 s1.heap.objs.size (.tup xs),I1.laid (t':=s1.toks) (fun b u e=>Heap.get?_push_of_some _ e) (Nat.le_refl _) ?_,rfl,q _ hf⟩
 exact⟨z,us,r,⟨_,Heap.get?_push_size _ rfl,rfl,_,rfl⟩⟩
theorem FE(h:PA X es t):PE X (.List es pos) (WI t):=by
 intro pins s σ H Q I hq
 refine wpAny_List_spliced (bK (h pos pins s σ H _ I hq) fun us s1 ⟨xs,H1,I1,r,z,q⟩=>⟨by rw[←r.length];exact z,?_⟩)
 have hf:H1 s1.heap.objs.size=none:=I1.hok.fresh (Nat.le_refl _)
 refine⟨.ref s1.heap.objs.size,upd H1 s1.heap.objs.size (.lst xs),I1.laid (t':=s1.toks) (fun b u e=>Heap.get?_push_of_some _ e) (Nat.le_refl _) ?_,rfl,q _ hf⟩
 exact⟨z,us,0,r,Heap.get?_push_size _ rfl⟩
end
abbrev Sp:=List V->Hp->VK->XK->Prop
abbrev DF:=List Env->Hp->Shared->XK->Value->Shared->Prop
structure z5(P:Program)(w:World)(K:PySem.W.Frag)(mg:Str->Option Value)(base:Heap)(A:Around)(outer:List Env)(s:Shared)(H:Hp):Prop where
 frames:A.frames=some outer
 mod:Mod K mg base
 bs:∀b o,base.get? b=some o->s.heap.get? b=some o/\H b=none
 Js:base.objs.size<=s.heap.objs.size
 o8:s.heap.FunFrames base outer
 Ny:∀b∈frs outer,H b=none
 hok:lN P w H s.heap
 bare:AllBare s.gens
noncomputable def CE(outer:List Env)(P:Program)(w:World)(H:Hp)(s:Shared)(Q:VK)(u:Value)(s':Shared):Prop:=
 ∃v H',s'.os=s.os/\AllBare s'.gens/\Un (frs outer) [] H H' s.heap s'.heap/\lN P w H' s'.heap/\RelV v u/\Q v H'
noncomputable def CR(CX:DF)(outer:List Env)(P:Program)(w:World)(H:Hp)(s:Shared)(Q:VK)(E:XK)(r:Result)(s':Shared):Prop:=
 match r with
 |.ok (.ret u)=>CE outer P w H s Q u s'
 |.ok _=>False
 |.error e=>CX outer H s E e s'
structure aL(P:Program)(w:World)(K:PySem.W.Frag)(mg:Str->Option Value)(base:Heap)(CX:DF)(k:Nat)(f:Addr)(fd:FuncData)(ps:List Str)(sp:Sp):Prop where
 len:∀vs H Q E,sp vs H Q E->vs.length=ps.length
 run:∀(A:Around) (outer:List Env) (s:Shared) (H:Hp) (args:Args) (us:List Value) (vs:List V) (Q:VK) (E:XK),dN k A->z5 P w K mg base A outer s H->BindsTo s fd args (ps.zip us)->Vals vs us->sp vs H Q E->
  codeAny (model P w) A (.call (.ref f) args) (CR CX outer P w H s Q E) s
theorem aL.imp{P:Program}{w:World}{K:PySem.W.Frag}{mg:Str->Option Value}{base:Heap}{CX:DF}{k:Nat}{f:Addr}{fd:FuncData}{ps:List Str}{sp YY:Sp}(F:aL P w K mg base CX k f fd ps sp)
 (h:∀vs H Q E,YY vs H Q E->sp vs H Q E):aL P w K mg base CX k f fd ps YY:=
 ⟨fun vs H Q E q=>F.len vs H Q E (h _ _ _ _ q),fun A outer s H args us vs Q E hr he hb hv hs=>F.run A outer s H args us vs Q E hr he hb hv (h _ _ _ _ hs)⟩
theorem z5.make{P:Program}{w:World}{K:PySem.W.Frag}{mg:Str->Option Value}{base:Heap}{A:Around}{outer:List Env}{s:Shared}{H:Hp}(e:z5 P w K mg base A outer s H)(C:Addr)(us:List Value)(kw:List (Str×Value)):
 z5 P w K mg base (A.under (.builtin "type.__call__" ⟨.ref C::us,kw⟩)) outer s H:=⟨by first|exact e.frames|(simpa[Around.under,Code.envs,Code.isFrame,pushEnvs]using e.frames),e.mod,e.bs,e.Js,e.o8,e.Ny,e.hok,e.bare⟩
section
variable{X:Cx}{pins:List (Addr×Obj)}{σ:St}{H:Hp}{s s':Shared}
theorem Inv.To(I:Inv X pins σ H s):z5 X.prog X.w X.K X.mg X.base X.A X.stack s H:=
 ⟨I.ok.frames,I.ok.mod,I.bs,Nat.le_trans I.ok.Js I.sz,I.stack,I.lV,I.hok,I.bare⟩
theorem Inv.after{Q:VK}{u:Value}(I:Inv X pins σ H s)(h:CE X.stack X.prog X.w H s Q u s'):EP X pins σ Q u s':=by
 obtain⟨v,H',os,bare,un,hok,r,q⟩:=h
 obtain⟨hh,g,d,t,os'⟩:=s'
 obtain rfl:os'=s.os:=os
 exact⟨v,H',I.call (h':=hh) (g':=g) (d':=d) (t':=t) (ch:=[]) un hok bare (fun b z=>absurd z (by simp)),r,q⟩
end
noncomputable def Binds(K:PySem.W.Frag)(fd:FuncData)(ps:List Str)(ds:List Value):Prop:=
 ∀(s:Shared) (us:List Value),K.In s.heap->(us++ds).length=ps.length->BindsTo s fd ⟨us,[]⟩ (ps.zip (us++ds))
theorem Binds.all{K:PySem.W.Frag}{fd:FuncData}{ps:List Str}(h:∀us:List Value,us.length=ps.length->bindArgs fd ⟨us,[]⟩=pure (ps.zip us)):Binds K fd ps []:=fun s us _ hl=>by
 rw[List.append_nil]at hl⊢
 exact .of_eq (h us hl)
noncomputable def Passes(CX:DF)(X:Cx)(E:XK):Prop:=∀(pins:List (Addr×Obj)) (σ:St) (H:Hp) (s:Shared) (e:Value) (s':Shared),Inv X pins σ H s->CX X.stack H s E e s'->X.xe e s'
section
variable{X:Cx}{CX:DF}{k:Nat}{f C:Addr}{fd:FuncData}{ps:List Str}{sp:Sp}{FF:List V}{ds:List Value}{E:XK}{x m:Str}{p pos apos:Pos}{e o:Expr}{es:List Expr}{ta:TE}{t:TA}
theorem z6{pins:List (Addr×Obj)}{σ:St}{H:Hp}{s:Shared}{Q:VK}{us:List Value}{vs:List V}(F:aL X.prog X.w X.K X.mg X.base CX k f fd ps sp)(hr:dN k X.A)(hb:Binds X.K fd ps ds)(hd:Vals FF ds)(hx:Passes CX X E)
 (I:Inv X pins σ H s) (r:Vals vs us) (h:sp (vs++FF) H Q E):wpAny (model X.prog X.w) X.A (call (.ref f) us) (EP X pins σ Q) X.xe s:=by
 have r2:Vals (vs++FF) (us++ds):=r.append hd
 have hl:(us++ds).length=ps.length:=by rw[←r2.length];exact F.len _ _ _ _ h
 refine wpAny_call (codeAny_mono (F.run X.A X.stack s H ⟨us,[]⟩ (us++ds) (vs++FF) Q E hr I.To (hb s us I.oG hl) r2 h) fun r s' hq=>?_)
 cases r with
 |error e=>exact hx pins σ H s e s' I hq
 |ok fl=>
  cases fl with
  |ret u=>exact I.after hq
  |next=>exact False.elim hq
  |brk=>exact False.elim hq
  |cont=>exact False.elim hq
structure Mk(K:PySem.W.Frag)(C f:Addr):Prop where
 makes:PySem.W.makesIn K C=true
 init:PySem.W.findIn K (.ref C) "__init__"=some (some (.ref f))
 fn:PySem.W.isFn K (.ref f)=true
 kp:PySem.W.keepIn K (.ref C)=true
theorem FG{pins:List (Addr×Obj)}{σ:St}{H:Hp}{s:Shared}{Q:VK}{us:List Value}{vs:List V}(M:Mk X.K C f)(F:aL X.prog X.w X.K X.mg X.base CX k f fd ps sp)(hr:dN (k+1) X.A)(hb:Binds X.K fd ps ds)(hd:Vals FF ds)
 (hx:Passes CX X E) (I:Inv X pins σ H s) (r:Vals vs us)
 (h:∀x dx,H x=none->H dx=none->dx≠x->sp (.ref x::(vs++FF)) (upd (upd H dx (.own x)) x (.ins C dx [])) (fun v H2=>v=.aU/\Q (.ref x) H2) E):
 wpAny (model X.prog X.w) X.A (call (.ref C) us) (EP X pins σ Q) X.xe s:=by
 have hq:=h (s.heap.objs.size+1) s.heap.objs.size (I.hok.fresh (Nat.le_succ _)) (I.hok.fresh (Nat.le_refl _)) (Nat.ne_of_lt (Nat.lt_succ_self _))
 have I2:=Inv.made (C:=C) I
 have r2:Vals (V.ref (s.heap.objs.size+1)::(vs++FF)) (Value.ref (s.heap.objs.size+1)::(us++ds)):=.cons rfl (r.append hd)
 have hl:(Value.ref (s.heap.objs.size+1)::us++ds).length=ps.length:=by
  have e:=r2.length
  rw[F.len _ _ _ _ hq]at e
  exact e.symm
 refine wpAny_call (FA (f:=f) I.oG M.makes M.init (beq_iff_eq.mp M.fn) (codeAny_mono (F.run _ X.stack _ _ ⟨Value.ref (s.heap.objs.size+1)::us,[]⟩ (Value.ref (s.heap.objs.size+1)::(us++ds)) _ _ E (hr.make C us [])
  (I2.To.make C us []) (hb _ (Value.ref (s.heap.objs.size+1)::us) I2.oG hl) r2 hq) fun r s' hq'=>?_))
 cases r with
 |error e=>exact hx pins σ _ _ e s' I2 hq'
 |ok fl=>
  cases fl with
  |ret u=>
   obtain⟨v,H',I3,rv,ev,q3⟩:=I2.after hq'
   subst ev
   exact⟨rv,⟨V.ref (s.heap.objs.size+1),H',I3,rfl,q3⟩⟩
  |next=>exact False.elim hq'
  |brk=>exact False.elim hq'
  |cont=>exact False.elim hq'
end
section
variable{X:Cx}{CX:DF}{k:Nat}{f C:Addr}{fd:FuncData}{ps ks:List Str}{sp:Sp}{E:XK}{x m:Str}{p pos apos kpos:Pos}{e o:Expr}{es:List Expr}{kws:List Keyword}{te ta:TE}{t tk:TA}{nm:Option Str}
variable{g:List Value->List Value->List Value}{gV:List V->List V->List V}
end
structure au(N P:List Str)(sc:Scope):Prop where
 kind:sc.kind=.function
 co:sc.isCoroutine=false
 gen:sc.isGenerator=false
 nd:N.Nodup
 pre:N.take P.length=P
 par:∀x∈P,sc.names.lookup x=some .local\/sc.names.lookup x=some .cell
 N8:∀y∈sc.names,y.2≠.free
theorem tG{kindOf:Str->Option NameKind}{x:Str}:∀{binds:List (Str×Value)} {m:Str->Option Value},(∀v,(x,v)∉binds)->bindL kindOf binds m x=m x
 |[],_,_=>rfl
 |(n,v)::r,m,h=>by
  unfold bindL
  rw[tG fun w hw=>h w (List.mem_cons_of_mem _ hw)]
  split
  ·have:x≠n:=by rintro rfl;exact h v List.mem_cons_self
   simp[this]
  ·rfl
theorem tH{kindOf:Str->Option NameKind}{x:Str}:∀{binds:List (Str×Value)} {m:Str->Option Value},(∀v,(x,v)∉binds)->bindC kindOf binds m x=m x
 |[],_,_=>rfl
 |(n,v)::r,m,h=>by
  unfold bindC
  rw[tH fun w hw=>h w (List.mem_cons_of_mem _ hw)]
  split
  ·rfl
  ·have:x≠n:=by rintro rfl;exact h v List.mem_cons_self
   simp[this]
theorem tK{kindOf:Str->Option NameKind}{x:Str}{v:Value}:∀{P:List Str} {vs:List Value} {i:Nat} {m:Str->Option Value},P.Nodup->P[i]?=some x->vs[i]?=some v->kindOf x=some .local->
 bindL kindOf (P.zip vs) m x=some v
 |[],_,_,_,_,h,_,_=>by simp at h
 |_::_,[],_,_,_,_,h,_=>by simp at h
 |p::P,w::vs,0,m,nd,h1,h2,hk=>by
  simp at h1 h2;subst h1;subst h2
  show bindL kindOf ((p,w)::P.zip vs) m p=_
  unfold bindL
  rw[tG fun v hv=>(List.nodup_cons.mp nd).1 (List.of_mem_zip hv).1,if_pos hk]
  simp
 |p::P,w::vs,i+1,m,nd,h1,h2,hk=>by
  show bindL kindOf ((p,w)::P.zip vs) m x=_
  unfold bindL
  exact tK (i:=i) (List.nodup_cons.mp nd).2 (by simpa using h1) (by simpa using h2) hk
theorem tL{kindOf:Str->Option NameKind}{x:Str}{v:Value}:∀{P:List Str} {vs:List Value} {i:Nat} {m:Str->Option Value},P.Nodup->P[i]?=some x->vs[i]?=some v->kindOf x≠some .local->
 bindC kindOf (P.zip vs) m x=some v
 |[],_,_,_,_,h,_,_=>by simp at h
 |_::_,[],_,_,_,_,h,_=>by simp at h
 |p::P,w::vs,0,m,nd,h1,h2,hk=>by
  simp at h1 h2;subst h1;subst h2
  show bindC kindOf ((p,w)::P.zip vs) m p=_
  unfold bindC
  rw[tH fun v hv=>(List.nodup_cons.mp nd).1 (List.of_mem_zip hv).1,if_neg hk]
  simp
 |p::P,w::vs,i+1,m,nd,h1,h2,hk=>by
  show bindC kindOf ((p,w)::P.zip vs) m x=_
  unfold bindC
  exact tL (i:=i) (List.nodup_cons.mp nd).2 (by simpa using h1) (by simpa using h2) hk
noncomputable def start(N:List Str)(vs:List V):St:=vs.map some++List.replicate (N.length -vs.length) none
noncomputable def DG(CX:DF)(P:Program)(w:World)(K:PySem.W.Frag)(mg:Str->Option Value)(base:Heap)(N:List Str)(qual:Str)(scope:Scope)(f:Addr)(cd:Value)(A:Around)(outer:List Env)(s:Shared)(H:Hp)(E:XK):Cx where
 prog:=P
 w:=w
 K:=K
 mg:=mg
 base:=base
 A:=A.deeper (envOfC qual scope s.heap.objs.size f cd)
 N:=N
 s₀:=s
 H₀:=H
 env:=envOfC qual scope s.heap.objs.size f cd
 outer:=outer
 stack:=envOfC qual scope s.heap.objs.size f cd::outer
 ex:=[]
 calm:=true
 fn:=fun _=>true
 pn:=[]
 xe:=fun e s'=>wpAny (model P w) (A.deeper (envOfC qual scope s.heap.objs.size f cd)) (leaving (envOfC qual scope s.heap.objs.size f cd) e) (fun _ s''=>CX outer H s E e s'') (fun e' s''=>CX outer H s E e' s'') s'
theorem wV{sc:Scope}{n:Nat}{x:Str}(h:sc.names.lookup x=some .cell):∃c,(cellsFrom n sc.names []).lookup x=some c:=by
 have q:=PySem.W.cellsFrom_some sc.names n [] (.inl h)
 exact Option.isSome_iff_exists.mp q
theorem DH{CX:DF}{P:Program}{w:World}{K:PySem.W.Frag}{mg:Str->Option Value}{base:Heap}{N ps:List Str}{qual:Str}{scope:Scope}{f:Addr}{cd:Value}{A:Around}{outer:List Env}{s s1:Shared}{H:Hp}{E:XK}{us:List Value}{vs:List V}
 (S:au N ps scope) (hd:A.handled=none) (e0:z5 P w K mg base A outer s H) (hl:vs.length=ps.length) (r:Vals vs us)
 (x:InCallC s s.heap.objs.size (bindL (envOfC qual scope s.heap.objs.size f cd).kindOf (ps.zip us) fun _=>none) (cellsFrom (s.heap.objs.size+1) scope.names []) (bindC (envOfC qual scope s.heap.objs.size f cd).kindOf (ps.zip us) fun _=>none) s1):
 Inv (DG CX P w K mg base N qual scope f cd A outer s H E) [] (start N vs) H s1:=by
 have hpl:ps.length<=N.length:=by have:=congrArg List.length S.pre;rw[List.length_take]at this;omega
 obtain⟨h1,tk,rfl,hk⟩:=x.done
 have Tp:∀b:Addr,b∉(DG CX P w K mg base N qual scope f cd A outer s H E).ex:=fun b z=>absurd (show b∈([]:List Addr)from z) (by simp)
 refine⟨⟨e0.mod,S.kind,rfl,rfl,Nat.le_refl _,fun y z c h1 h2=>?_,fun y hy=>?_,fun y c _ h=>?_,fun _=>hd,Around.frames_deeper e0.frames,.inr ⟨rfl,rfl⟩,fun b z=>absurd z (Tp b),e0.bs,e0.Js,fun b _ _=>Tp b,fun b z=>absurd z (Tp b),e0.o8,e0.Ny⟩,
  rfl,e0.bare,Un.kept hk,⟨_,x.toInCall.ns,fun i y v h1 h2 h3=>?_⟩,fun y c h=>⟨_,x.cell y c h⟩,e0.hok.fresh (Nat.le_refl _),fun y c h=>?_,fun p hp=>absurd (show p∈([]:List (Addr×Obj))from hp) (by simp),e0.hok.kept hk,?_⟩
 ·exact name_of_addr x.apart (PySem.mem_of_lookup h1) (PySem.mem_of_lookup h2)
 ·have hy:scope.names.lookup y=some .cell\/scope.names.lookup y=some .free:=hy
  rcases hy with hy|hy
  ·exact wV hy
  ·exact absurd rfl (S.N8 _ (PySem.mem_of_lookup hy))
 ·exact Nat.le_of_lt (x.above y c (PySem.mem_of_lookup h))
 ·have hi:i<vs.length:=by
   unfold start at h2
   by_cases hi:i<vs.length
   ·exact hi
   ·rw[List.getElem?_append_right (by simpa using hi)]at h2
    rw[List.getElem?_replicate]at h2
    split at h2<;>cases h2
  have ha:vs[i]?=some v:=by
   unfold start at h2
   rw[List.getElem?_append_left (by simpa using hi),List.getElem?_map]at h2
   cases e:vs[i]? with
   |none=>rw[e]at h2;cases h2
   |some a=>rw[e]at h2;cases h2;rfl
  obtain⟨u,hu,rv⟩:=r.get ha
  have hp:ps[i]?=some y:=by
   rw[←S.pre,List.getElem?_take_of_lt (by omega)];exact h1
  have YZ:ps.Nodup:=by rw[←S.pre];exact S.nd.sublist (List.take_sublist _ _)
  refine⟨u,rv,?_⟩
  rcases S.par y (List.mem_of_getElem? hp)with k|k
  ·exact .inl ⟨k,tK YZ hp hu k⟩
  ·obtain⟨c,e⟩:=wV (n:=s.heap.objs.size+1) k
   refine .inr ⟨.inl k,c,e,?_⟩
   have q:=x.cell y c e
   rw[tL YZ hp hu (by show scope.names.lookup y≠_;rw[k];decide)]at q
   exact q
 ·exact e0.hok.fresh (Nat.le_of_lt (x.above y c (PySem.mem_of_lookup h)))
 ·unfold start
  show _=N.length
  rw[List.length_append,List.length_map,List.length_replicate]
  omega
theorem Tq{CX:DF}{P:Program}{w:World}{K:PySem.W.Frag}{mg:Str->Option Value}{base:Heap}{k:Nat}{f:Addr}{name qual:Str}{params:Arguments}{body:List Stmt}{scope:Scope}{dV kV doc pm cdv ct oc:Value}{an od:Option Addr}
 {osl:Array (Option Value)} {N ps:List Str} {sp:Sp} (lk:K.lookup f=some ⟨oc,od,.func (PySem.W.fnOf name qual params body scope dV kV doc pm an cdv ct),osl⟩) (hcd:PySem.W.codeIn K cdv qual=true) (S:au N ps scope)
 (len:∀vs H Q E,sp vs H Q E->vs.length=ps.length)
 (hbody:∀(A:Around) (outer:List Env) (s:Shared) (H:Hp) (vs:List V) (Q:VK) (E:XK),dN k (A.deeper (envOfC qual scope s.heap.objs.size f cdv))->sp vs H Q E->
   ∃t,zy (DG CX P w K mg base N qual scope f cdv A outer s H E) body t/\t {nx:=fun _ H'=>Q .aU H',rt:=Q} (start N vs) H):
 aL P w K mg base CX (k+1) f (PySem.W.fnOf name qual params body scope dV kV doc pm an cdv ct) ps sp:=by
 refine⟨len,fun A outer s H args us vs Q E hr e0 hb r z7=>?_⟩
 have hl:=len _ _ _ _ z7
 have KX:K.In s.heap:=e0.mod.RS.keeps fun b o e=>(e0.bs b o e).1
 have lim:s.heap.NoLimit:=e0.mod.nolimit.keeps fun b o e=>(e0.bs b o e).1
 have hkind:∀y∈ps.zip us,scope.names.lookup y.1=some .local\/(scope.names.lookup y.1=some .cell/\((cellsFrom (s.heap.objs.size+1) scope.names []).lookup y.1).isSome=true):=fun⟨n,v⟩ hy=>by
  rcases S.par n (List.of_mem_zip hy).1 with q|q
  ·exact .inl q
  ·exact .inr ⟨q,PySem.W.cellsFrom_some _ _ _ (.inl q)⟩
 refine codeAny_call_function hr.depth (KX _ _ lk) rfl S.co S.gen rfl (PySem.W.codeRec_of KX hcd) (hb _ _ _ _ ?_)
 refine wpAny_newFunctionEnv_cells S.kind hkind fun env he s1 x=>?_
 subst he
 refine⟨lim.keeps x.toInCall.keep,codeAny_func ?_⟩
 obtain⟨t,ht,hq⟩:=hbody A outer s H vs Q E (hr.deeper _) z7
 have I:Inv (DG CX P w K mg base N qual scope f cdv A outer s H E) [] (start N vs) H s1:=DH S hr.hd e0 hl r x
 refine wpAny_mono (ht [] s1 (start N vs) H _ I hq) (fun fl s' hs=>?_) fun e s' hs=>hs
 have fin:∀{σ':St} {H':Hp} {v:V} {u:Value},Inv (DG CX P w K mg base N qual scope f cdv A outer s H E) [] σ' H' s'->RelV v u->Q v H'->CE outer P w H s Q u s':=
  fun{σ' H' v u} J rv q=>⟨v,H',J.os,J.bare,J.base,J.hok,rv,q⟩
 cases fl with
 |ret u=>
  obtain⟨v,σ',H',J,rv,q⟩:=hs
  exact fin J rv q
 |next=>
  obtain⟨σ',H',J,q⟩:=hs
  exact fin (v:=V.aU) (u:=Value.none) J rfl q
 |brk=>
  obtain⟨_,_,_,q⟩:=hs
  exact False.elim q
 |cont=>
  obtain⟨_,_,_,q⟩:=hs
  exact False.elim q
section
variable{X:Cx}{x:Str}{p pos:Pos}{e:Expr}{es:List Expr}{t:TA}{id T:String}{r:List V->Hp->VK->Prop}
noncomputable def Y0(r:List V->Hp->VK->Prop)(t:TA):TE:=fun σ H Q=>t σ H fun vs H1=>r vs H1 Q
theorem qj(hc:fJ X (.builtin id) r)(hg:Gl X x)(hm:X.mg x=none)(hv:bootBuiltins x=some (.builtin id))(ha:PA X (e::es) t)(hn:x≠"__name__":=by decide)(hdb:(x==("__debug__":Str))=false:=by decide)
 (he:starEach (e::es) X.env=(false,eval e X.env)::starEach es X.env:=by rfl) (hpl:(backTo pos (starEach es X.env)).any (·.1)=false:=by rfl):PE X (.Call (.Name x p) (e::es) [] pos) (Y0 r t):=by
 intro pins s σ H Q I h
 refine wpAny_Call_Name_kw (jn I hg hm hv ?_ hn hdb)
 exact PyProof.Rows.callWith_builtin1 (bK (ha pos pins s σ H _ I h) fun us s1 ⟨vs,H1,I1,r1,q1⟩=>hc pins s1 σ H1 vs us Q I1 r1 q1) he hpl
theorem DI(hc:fJ X (.type T) r)(hg:Gl X x)(hm:X.mg x=none)(hv:bootBuiltins x=some (.type T))(ha:PA X (e::es) t)(hn:x≠"__name__":=by decide)(hdb:(x==("__debug__":Str))=false:=by decide)
 (he:starEach (e::es) X.env=(false,eval e X.env)::starEach es X.env:=by rfl) (hpl:(backTo pos (starEach es X.env)).any (·.1)=false:=by rfl):PE X (.Call (.Name x p) (e::es) [] pos) (Y0 r t):=by
 intro pins s σ H Q I h
 refine wpAny_Call_Name_kw (jn I hg hm hv ?_ hn hdb)
 exact PyProof.Rows.callWith_type1 (bK (ha pos pins s σ H _ I h) fun us s1 ⟨vs,H1,I1,r1,q1⟩=>hc pins s1 σ H1 vs us Q I1 r1 q1) he hpl
end
end L2
namespace HT
open PySem PyProof.Rows
section
open PySem.SeqAt
open PySem.AutoSeq1 (wpAny_loadPart')
open PySem.MeetsSeq PySem.MeetsSeq2 PySem.MeetsSeq3
end
section
variable{prog:Program}{w:World}{A:Around}{E:Value->Shared->Prop}{s:Shared}
theorem JH{t b:Addr}{vs ws:List Value}{Q:Value->Shared->Prop}(ht:IsTup s.heap t vs.toArray)(hb:IsTup s.heap b ws.toArray)(hv:vs≠[])
 (h1:ws=[]->Q (.ref t) s) (h2:ws≠[]->Q (.ref s.heap.objs.size) {s with heap:=s.heap.push {cls:=.type "tuple",data:=.seq (vs++ws).toArray}})
 (hsz:vs.length+ws.length<=sizeLine):wpAny (model prog w) A (binaryOp .Add (.ref t) (.ref b)) Q E s:=by
 obtain⟨⟨cls,dd,data,sl⟩,ho,hc,n,hd⟩:=id ht
 obtain⟨⟨aan,dd2,data2,sl2⟩,ho2,hc2,n2,hd2⟩:=id hb
 simp only at hc hd hc2 hd2
 subst hc hd hc2 hd2
 have e:vs.toArray++ws.toArray=(vs++ws).toArray:=by simp
 by_cases hw:ws=[]
 ·exact concat_meets ⟨_,ho,rfl⟩ ⟨_,ho2,rfl⟩ noFill_tuple_add seq_tuple_add PySem.F.slot_tuple_add PySem.F.entry_tuple_add (PySem.F.args_tuple_add_2 _ _)
   (tuple_addW1 t b vs.toArray ws.toArray n n2 dd dd2 sl sl2 (by simpa using hv) (by simp[hw])) ⟨ho,ho2,h1 hw⟩
 ·refine concat_meets ⟨_,ho,rfl⟩ ⟨_,ho2,rfl⟩ noFill_tuple_add seq_tuple_add PySem.F.slot_tuple_add PySem.F.entry_tuple_add (PySem.F.args_tuple_add_2 _ _)
   (tuple_addW2 t b vs.toArray ws.toArray n n2 dd dd2 sl sl2 (by simpa using hv) (by simpa using hw) (by rw[List.size_toArray,List.size_toArray];exact hsz)) ⟨ho,ho2,?_⟩
  rw[e]
  exact h2 hw
noncomputable def tM(n d:Nat):Option Int->Nat
 |none=>d
 |some v=>if v<0 then(v+(n:Int)).toNat else min v.toNat n
theorem FH(n d:Nat):tM n d none=d:=rfl
theorem uE(n d k:Nat):tM n d (some (k:Int))=min k n:=by
 show(if(k:Int)<0 then((k:Int)+(n:Int)).toNat else min (k:Int).toNat n)=min k n
 rw[if_neg (by omega),Int.toNat_natCast]
end
end HT
namespace L2
open PySem PySem.Spec PyProof.Rows
abbrev TO:=St->Hp->(Option Int->Hp->Prop)->Prop
noncomputable def PO(X:Cx)(e:Option Expr)(t:TO):Prop:=
 ∀(pins:List (Addr×Obj)) (s:Shared) (σ:St) (H:Hp) (Q:Option Int->Hp->Prop),Inv X pins σ H s->t σ H Q->
  wpAny (model X.prog X.w) X.A (evalPart e X.env) (fun u s'=>∃o H',Inv X pins σ H' s'/\IsPart u o/\Q o H') X.xe s
def JI:TO:=fun _ H Q=>Q none H
noncomputable def Tr(t:TE):TO:=fun σ H Q=>t σ H fun x H1=>∃i,x=.int i/\Q (some i) H1
theorem intsAre_of{ns:List Int}:∀{us:List Value},Vals (ns.map V.int) us->IntsAre us ns:=by
 induction ns with
 |nil=>intro us r;rw[List.map_nil]at r;cases r;exact .nil
 |cons n ns ih=>
  intro us r
  rw[List.map_cons]at r
  cases r with
  |cons r1 r2=>
   obtain⟨t,e⟩:=r1
   subst e
   exact .cons n t (ih r2)
section
variable{X:Cx}{e:Expr}{te:TE}{lo hi:Option Expr}{tl th:TO}{pos p2:Pos}
theorem JJ:PO X none JI:=by
 intro pins s σ H Q I h
 rw[evalPart_none]
 exact wpAny_pure ⟨none,H,I,.none,h⟩
theorem JK(h:PE X e te):PO X (some e) (Tr te):=by
 intro pins s σ H Q I hw
 rw[evalPart_some]
 refine bK (h pins s σ H _ I hw) fun u s1 ⟨x,H1,I1,r1,q1⟩=>?_
 obtain⟨i,rfl,q⟩:=q1
 obtain⟨t,rfl⟩:=r1
 exact⟨some i,H1,I1,.int i t,q⟩
noncomputable def Y3(X:Cx)(r:V->Option Int->Option Int->Hp->VK->Prop):Prop:=
 ∀(pins:List (Addr×Obj)) (s:Shared) (σ:St) (H:Hp) (x:V) (v vl vu:Value) (lo hi:Option Int) (sl:Addr) (Q:VK),Inv X pins σ H s->RelV x v->s.heap.IsSliceOf sl vl vu .none->IsPart vl lo->IsPart vu hi->r x lo hi H Q->
  ∃T id,typeLookup (.type T) "__getitem__"=pure (some (.builtin id))/\s.TypeIs v T/\wpAny (model X.prog X.w) X.A (getItem v (.ref sl)) (EP X pins σ Q) X.xe s
noncomputable def tSl(r:V->Option Int->Option Int->Hp->VK->Prop)(te:TE)(tl th:TO):TE:=fun σ H Q=>te σ H fun x H1=>tl σ H1 fun l H2=>th σ H2 fun u H3=>r x l u H3 Q
theorem FI{r:V->Option Int->Option Int->Hp->VK->Prop}(hr:Y3 X r)(he:PE X e te)(hl:PO X lo tl)(hu:PO X hi th):PE X (.Subscript e (.Slice lo hi none p2) pos) (tSl r te tl th):=by
 intro pins s σ H Q I h
 refine Subscript_ (bK (he pins s σ H _ I h) fun v s1 ⟨x,H1,I1,r1,q1⟩=>?_)
 refine wpAny_Slice (bK (hl pins s1 σ H1 _ I1 q1) fun vl s2 ⟨l,H2,I2,pl,q2⟩=>bK (hu pins s2 σ H2 _ I2 q2) fun vu s3 ⟨u,H3,I3,pu,q3⟩=>?_)
 rw[evalPart_none]
 refine wpAny_pure ?_
 have I4:Inv X pins σ H3 {s3 with heap:=s3.heap.push {cls:=.type "slice",data:=.fields #[vl,vu,.none]}}:=I3.kept (t':=s3.toks) fun b ob q=>Heap.get?_push_of_some _ q
 obtain⟨T,id,hT,ht,hg⟩:=hr pins {s3 with heap:=s3.heap.push {cls:=.type "slice",data:=.fields #[vl,vu,.none]}} σ H3 x v vl vu l u s3.heap.objs.size Q I4 r1 (Heap.IsSliceOf.new ..) pl pu q3
 show wpAny (model X.prog X.w) X.A (subscriptTail e (.Slice lo hi none p2) v (.ref s3.heap.objs.size)) (EP X pins σ Q) X.xe {s3 with heap:=s3.heap.push {cls:=.type "slice",data:=.fields #[vl,vu,.none]}}
 exact tail_any (ops:=[.ref s3.heap.objs.size,v]) ht hT hg (by with_unfolding_all rfl)
noncomputable def DJ(xs:List V)(lo hi:Option Int):List V:=(xs.drop (HT.tM xs.length 0 lo)).take (HT.tM xs.length xs.length hi -HT.tM xs.length 0 lo)
theorem wW(xs:List V)(lo hi:Option Int):(DJ xs lo hi).length<=xs.length:=by
 unfold DJ
 rw[List.length_take,List.length_drop]
 omega
noncomputable def Tt(K:PySem.W.Frag):R2:=fun x y H Q=>∃a b xs ys,x=.ref a/\y=.ref b/\kU K H a xs/\kU K H b ys/\xs≠[]/\xs.length+ys.length<=sizeLine/\
 (ys=[]->Q (.ref a) H)/\(ys≠[]->∀p,H p=none->Q (.ref p) (upd H p (.tup (xs++ys))))
theorem Vals.uF{xs:List V}{us:List Value}(r:Vals xs us):us=[]↔xs=[]:=by
 cases r with
 |nil=>simp
 |cons _ _=>simp
theorem JL:kq X (binaryOp .Add) (Tt X.K):=by
 intro pins s σ H x y v u Q I rx ry h
 obtain⟨a,b,xs,ys,rfl,rfl,ha,hb,hx,hz,q1,q2⟩:=h
 cases rx
 cases ry
 obtain⟨its,r1,p1,_⟩:=I.tuple ha
 obtain⟨its2,r2,p2,_⟩:=I.tuple hb
 refine HT.JH p1 p2 (fun z=>hx (r1.uF.mp z)) (fun z=>⟨.ref a,H,I,rfl,q1 (r2.uF.mp z)⟩) (fun z=>?_) (by rw[←r1.length,←r2.length];exact hz)
 refine⟨.ref s.heap.objs.size,_,I.laid (t':=s.toks) (o:=.tup (xs++ys)) (fun b ob q=>Heap.get?_push_of_some _ q) (Nat.le_refl _) ?_,rfl,q2 (fun w=>z (r2.uF.mpr w)) _ (I.hok.fresh (Nat.le_refl _))⟩
 exact⟨by rw[List.length_append];exact hz,_,r1.append r2,IsTup.new _ _⟩
end
noncomputable def wG(n:Nat)(i:Int):Option Nat:=if 0<=i then(if i<n then some i.toNat else none)else if-(n:Int)<=i then some (i+n).toNat else none
noncomputable def lO{α:Type}(xs:List α)(i:Int):Option α:=(wG xs.length i).bind fun j=>xs[j]?
theorem BA{n:Nat}{i:Int}{j:Nat}(h:wG n i=some j):seqIndex? i n=some j/\j<n/\-(n:Int)<=i/\i<n:=by
 unfold wG at h
 by_cases h0:0<=i
 ·rw[if_pos h0]at h
  by_cases h1:i<n
  ·rw[if_pos h1]at h
   have e:i.toNat=j:=Option.some.inj h
   exact⟨by rw[seqIndex_of h0 h1,e],by omega,by omega,h1⟩
  ·rw[if_neg h1]at h;cases h
 ·rw[if_neg h0]at h
  by_cases h1: -(n:Int)<=i
  ·rw[if_pos h1]at h
   have e:(i+n).toNat=j:=Option.some.inj h
   exact⟨by rw[seqIndex_neg (by omega) h1,e],by omega,h1,by omega⟩
  ·rw[if_neg h1]at h;cases h
theorem uG{α:Type}{xs:List α}{i:Int}{v:α}(h:lO xs i=some v):∃j,seqIndex? i xs.length=some j/\xs[j]?=some v/\j<xs.length/\-(xs.length:Int)<=i/\i<xs.length:=by
 unfold lO at h
 cases e:wG xs.length i with
 |none=>rw[e]at h;cases h
 |some j=>
  rw[e]at h
  obtain⟨h1,h2,h3,h4⟩:=BA e
  exact⟨j,h1,h,h2,h3,h4⟩
theorem bV{α:Type}{xs:List α}{j:Nat}{v:α}(h:xs[j]?=some v):lO xs (j:Int)=some v:=by
 have hj:j<xs.length:=(List.getElem?_eq_some_iff.mp h).1
 have e:wG xs.length (j:Int)=some j:=by
  unfold wG
  rw[if_pos (by omega),if_pos (by omega)];simp
 unfold lO;rw[e];exact h
noncomputable def lY(b:Expr):Prop:=∀o i,subscripted b false o i=operate [o,i] (getItem o i)
noncomputable def JM(X:Cx)(r:R2):Prop:=
 ∀(value slice:Expr) (pins:List (Addr×Obj)) (s:Shared) (σ:St) (H:Hp) (x y:V) (v u:Value) (Q:VK),Inv X pins σ H s->RelV x v->RelV y u->r x y H Q->
  subscripted slice false v u=operate [v,u] (getItem v u)->wpAny (model X.prog X.w) X.A (subscriptTail value slice v u) (EP X pins σ Q) X.xe s
noncomputable def WJ(X:Cx)(id:String)(r:V->List V->Hp->VK->Prop):Prop:=
 ∀(pins:List (Addr×Obj)) (s:Shared) (σ:St) (H:Hp) (x:V) (xs:List V) (v:Value) (us:List Value) (Q:VK),Inv X pins σ H s->RelV x v->Vals xs us->r x xs H Q->
  wpAny (model X.prog X.w) X.A (call (.builtin id) (v::us)) (EP X pins σ Q) X.xe s
section
variable{X:Cx}{a b:Expr}{ta tb:TE}{pos:Pos}
theorem JM.or{r r':R2}(h:JM X r)(h':JM X r'):JM X (fun x y H Q=>r x y H Q\/r' x y H Q):=by
 intro value slice pins s σ H x y v u Q I rx ry q hs
 rcases q with q|q
 ·exact h value slice pins s σ H x y v u Q I rx ry q hs
 ·exact h' value slice pins s σ H x y v u Q I rx ry q hs
theorem FJ{r:R2}(hr:JM X r)(ha:PE X a ta)(hb:PE X b tb)(hs:lY b):PE X (.Subscript a b pos) (tOp r ta tb):=by
 intro pins s σ H Q I h
 exact Subscript_ (WE ha hb I h fun v u s2 x y H2 I2 rx ry q=>hr a b pins s2 σ H2 x y v u Q I2 rx ry q (hs _ _))
noncomputable def Tu(K:PySem.W.Frag):R2:=fun x y H Q=>∃p xs i v,x=.ref p/\y=.int i/\jV K H p xs/\lO xs i=some v/\Q v H
noncomputable def Tv(K:PySem.W.Frag):R2:=fun x y H Q=>∃p xs i v,x=.ref p/\y=.int i/\kU K H p xs/\lO xs i=some v/\Q v H
noncomputable def Tw:R2:=fun x y H Q=>∃z i c,x=.str z/\y=.int i/\z.length<=sizeLine/\lO z.cps.toList i=some c/\Q (.str ⟨#[c]⟩) H
theorem JN:JM X (Tu X.K):=by
 intro value slice pins s σ H x y v u Q I rx ry h hs
 obtain⟨p,xs,i,z,rfl,rfl,hq,he,q⟩:=h
 cases rx
 obtain⟨t,rfl⟩:=ry
 obtain⟨its,r,pl,hz⟩:=I.list hq
 obtain⟨j,h1,h2,h3,h4,h5⟩:=uG he
 obtain⟨w,ew,rw'⟩:=r.get h2
 have hl:=r.length
 have hn:=qh
 have fin:EP X pins σ Q w s:=⟨z,H,I,rw',q⟩
 by_cases h0:0<=i
 ·have hj:i.toNat=j:=by
   rw[seqIndex_of h0 h5]at h1
   exact Option.some.inj h1
  exact item_listR pl.isList h0 (by omega) (by rw[hj];simpa using ew) fin hs
 ·have hj:(i+(its.toArray.size:Int)).toNat=j:=by
   rw[seqIndex_neg (by omega) h4]at h1
   rw[List.size_toArray,←hl]
   exact Option.some.inj h1
  exact subscriptTail_builtinR (x:=w) pl.isList.typeIs slot_list_getitem.lookup
   (wpAny_getItem_list_neg (Q:=fun r s'=>r=w/\EP X pins σ Q r s') pl.isList (by omega) (by rw[List.size_toArray]<;>omega) (by omega) (by rw[hj];simpa using ew) ⟨rfl,fin⟩) hs
theorem N9:JM X (Tv X.K):=by
 intro value slice pins s σ H x y v u Q I rx ry h hs
 obtain⟨p,xs,i,z,rfl,rfl,hq,he,q⟩:=h
 cases rx
 obtain⟨t,rfl⟩:=ry
 obtain⟨its,r,pl,hz⟩:=I.tuple hq
 obtain⟨j,h1,h2,h3,h4,h5⟩:=uG he
 obtain⟨w,ew,rw'⟩:=r.get h2
 have hl:=r.length
 have hn:=qh
 have fin:EP X pins σ Q w s:=⟨z,H,I,rw',q⟩
 exact subscriptTail_builtinR (x:=w) pl.typeIs slot_tuple_getitem.lookup
  (getItem_tuple (j:=j) (Q:=fun r s'=>r=w/\EP X pins σ Q r s') pl (by omega) (by omega) (by rw[List.size_toArray,←hl];exact h1) (by simpa using ew) ⟨rfl,fin⟩) hs
theorem Oa:JM X Tw:=by
 intro value slice pins s σ H x y v u Q I rx ry h hs
 obtain⟨z,i,c,rfl,rfl,hz,he,q⟩:=h
 obtain⟨t,rfl⟩:=rx
 obtain⟨t',rfl⟩:=ry
 obtain⟨j,h1,h2,h3,h4,h5⟩:=uG he
 have hl:z.cps.toList.length=z.length:=by simp[Str.length]
 rw[hl]at h1 h4 h5
 have hn:=qh
 exact tail_any (typeIs_str s z t) slot_str_getitem.lookup (getItem_str (c:=c) (by
  have e1:decide (i< -(2^63:Int))=false:=decide_eq_false (by omega)
  have e2:decide (i>=2^63)=false:=decide_eq_false (by omega)
  rw[e1,e2,Bool.or_false]) (by rw[h1];simpa using h2) ⟨.str ⟨#[c]⟩,H,I.tok _,⟨_,rfl⟩,q⟩) hs
noncomputable def rIx(K:PySem.W.Frag):R2:=fun x y H Q=>Tu K x y H Q\/Tv K x y H Q\/Tw x y H Q
theorem z8:JM X (rIx X.K):=JN.or (N9.or Oa)
theorem z9(its:List Value)(n j:Nat)(u:Value):Obj.mapSeq (·.setIfInBounds j u) {cls:=.type "list",data:=.seq its.toArray n}={cls:=.type "list",data:=.seq (its.set j u).toArray n}:=by
 simp[Obj.mapSeq]
theorem Inv.lst{pins:List (Addr×Obj)}{σ:St}{H:Hp}{s:Shared}{p:Addr}{xs:List V}(I:Inv X pins σ H s)(h:H p=some (.lst xs)):
 ∃(its:List Value) (n:Nat),Vals xs its/\s.heap.get? p=some {cls:=.type "list",data:=.seq its.toArray n}/\xs.length<=sizeLine:=by
 obtain⟨z,its,n,r,e⟩:=I.hok p _ h
 exact⟨its,n,r,e,z⟩
theorem Inv.Ob{pins:List (Addr×Obj)}{σ:St}{H:Hp}{s:Shared}{p:Addr}{xs ys:List V}{its its':List Value}{n n':Nat}{f:Obj->Obj}(I:Inv X pins σ H s)(h:H p=some (.lst xs))
 (ho:s.heap.get? p=some {cls:=.type "list",data:=.seq its.toArray n}) (hf:f {cls:=.type "list",data:=.seq its.toArray n}={cls:=.type "list",data:=.seq its'.toArray n'}) (r:Vals ys its') (hz:ys.length<=sizeLine) (t:Nat):
 Inv X pins σ (upd H p (.lst ys)) {s with heap:=s.heap.update p f,toks:=t}:=by
 have e:(s.heap.update p f).get? p=some {cls:=.type "list",data:=.seq its'.toArray n'}:=by
  rw[Heap.get?_update_self f ho (by rw[hf]<;>rfl),hf]
 refine I.write (x:=p) (e:=p) (by rw[h];trivial) (.inl rfl) (fun b u hb q=>(Heap.get?_update_other _ _ (Ne.symm hb)).trans q) ⟨_,e⟩ ?_
 exact⟨hz,its',n',r,e⟩
noncomputable def MB:V->V->V->Hp->(Hp->Prop)->Prop:=fun o i v H Q=>∃p xs k j,o=.ref p/\i=.int k/\H p=some (.lst xs)/\wG xs.length k=some j/\Q (upd H p (.lst (xs.set j v)))
theorem set_list:S6 X MB:=by
 intro pins s σ H o i v ov iv u Q I ro ri rv h
 obtain⟨p,xs,k,j,rfl,rfl,hp,hj,q⟩:=h
 cases ro
 obtain⟨t,rfl⟩:=ri
 obtain⟨its,n,r,ho,hz⟩:=I.lst hp
 obtain⟨h1,h2,h3,h4⟩:=BA hj
 have hl:=r.length
 have hn:=qh
 have I':Inv X pins σ (upd H p (.lst (xs.set j v))) {s with heap:=s.heap.update p (Obj.mapSeq (·.setIfInBounds j u))}:=
  I.Ob hp ho (z9 its n j u) (r.set rv j) (by rw[List.length_set];exact hz) s.toks
 by_cases h0:0<=k
 ·have hk:k.toNat=j:=by
   rw[seqIndex_of h0 h4]at h1
   exact Option.some.inj h1
  exact PySem.W.ki_setAt ho h0 (by omega) (by rw[List.size_toArray,←hl];exact h4) (by rw[hk];exact⟨_,I',q⟩)
 ·have hk:(k+(its.toArray.size:Int)).toNat=j:=by
   rw[seqIndex_neg (by omega) h3]at h1
   rw[List.size_toArray,←hl]
   exact Option.some.inj h1
  exact PySem.W.ki_setBack ho (by omega) (by rw[List.size_toArray,←hl];exact h3) (by omega) (by rw[hk];exact⟨_,I',q⟩)
theorem uH(lo hi:Option Int)(n:Nat):(sliceBounds lo hi none n).1=((HT.tM n 0 lo:Nat):Int)/\(sliceBounds lo hi none n).2.1=((HT.tM n n hi:Nat):Int)/\(sliceBounds lo hi none n).2.2=1:=by
 refine⟨?_,?_,rfl⟩
 ·cases lo with
  |none=>simp[sliceBounds,HT.tM]
  |some i=>
   simp only[sliceBounds,HT.tM,Option.getD_none,show(1:Int)>0 by decide,if_true]
   by_cases h:i<0
   ·simp only[h,if_true]<;>omega
   ·simp only[h,if_false]<;>omega
 ·cases hi with
  |none=>simp[sliceBounds,HT.tM]
  |some i=>
   simp only[sliceBounds,HT.tM,Option.getD_none,show(1:Int)>0 by decide,if_true]
   by_cases h:i<0
   ·simp only[h,if_true]<;>omega
   ·simp only[h,if_false]<;>omega
theorem sr(its:List Value)(lo hi:Option Int):slicePick its.toArray lo hi none=((its.drop (HT.tM its.length 0 lo)).take (HT.tM its.length its.length hi -HT.tM its.length 0 lo)).toArray:=by
 obtain⟨h1,h2,h3⟩:=uH lo hi its.toArray.size
 unfold slicePick
 rw[h1,h2,h3]
 simp only[sliceRange_one,pick_run,List.size_toArray]<;>rfl
noncomputable def WK(K:PySem.W.Frag):V->Option Int->Option Int->Hp->VK->Prop:=fun x lo hi H Q=>∃a xs,x=.ref a/\jV K H a xs/\∀p,H p=none->Q (.ref p) (upd H p (.lst (DJ xs lo hi)))
theorem JO:Y3 X (WK X.K):=by
 intro pins s σ H x v vl vu lo hi sl Q I rx hs pl pu h
 obtain⟨a,xs,rfl,hx,q⟩:=h
 cases rx
 obtain⟨its,r,ht,hz⟩:=I.list hx
 have hlen:=r.length
 refine⟨"list",_,slot_list_getitem.lookup,ht.isList.typeIs,?_⟩
 refine wpAny_getItem_list_slice ht.isList hs pl pu .none (by simp) ?_ (by rw[List.size_toArray]<;>omega)
 rw[sr,←hlen]
 refine⟨.ref s.heap.objs.size,_,I.laid (t':=s.toks) (o:=.lst (DJ xs lo hi)) (fun b ob q=>Heap.get?_push_of_some _ q) (Nat.le_refl _) ?_,rfl,q _ (I.hok.fresh (Nat.le_refl _))⟩
 exact⟨Nat.le_trans (wW xs lo hi) hz,_,0,(r.drop (HT.tM xs.length 0 lo)).take (HT.tM xs.length xs.length hi -HT.tM xs.length 0 lo),Heap.get?_push_size _ rfl⟩
theorem iR:fJ X (.builtin "len") (fun xs H Q=>∃p ys,xs=[.ref p]/\(jV X.K H p ys\/kU X.K H p ys)/\Q (.int ys.length) H):=by
 intro pins s σ H xs us Q I r h
 obtain⟨p,ys,rfl,hq,q⟩:=h
 obtain⟨u,rfl,rx⟩:=vals1 r
 cases rx
 have hn:=qh
 rcases hq with hq|hq
 ·obtain⟨its,r',pl,hz⟩:=I.list hq
  have hlen:=r'.length
  exact Calls.call_len_list pl.isList (by simp only[List.size_toArray]<;>omega) ⟨.int ys.length,H,I.tok _,⟨s.toks+1,by rw[List.size_toArray,hlen]⟩,q⟩
 ·obtain⟨its,r',pl,hz⟩:=I.tuple hq
  have hlen:=r'.length
  exact len_tuple pl (by simp only[List.size_toArray]<;>omega) ⟨.int ys.length,H,I.tok _,⟨s.toks+1,by rw[List.size_toArray,hlen]⟩,q⟩
theorem l5:fJ X (.type "list") (fun xs H Q=>∃p ys,xs=[.ref p]/\(jV X.K H p ys\/kU X.K H p ys)/\∀l,H l=none->Q (.ref l) (upd H l (.lst ys))):=by
 intro pins s σ H xs us Q I r h
 obtain⟨p,ys,rfl,hq,q⟩:=h
 obtain⟨u,rfl,rx⟩:=vals1 r
 cases rx
 have fin:∀(its:List Value),Vals ys its->ys.length<=sizeLine->∀(h':Heap) (c':Nat),(∀b o',s.heap.get? b=some o'->h'.get? b=some o')->
  h'.get? s.heap.objs.size=some {cls:=.type "list",dict:=none,data:=.seq its.toArray c',slots:= #[]}->EP X pins σ Q (.ref s.heap.objs.size) {s with heap:=h'}:=fun its r' hz h' c' kp e=>
  ⟨.ref s.heap.objs.size,_,I.laid (t':=s.toks) kp (Nat.le_refl _) (show cI X.prog X.w _ h' _ (.lst ys)from⟨hz,its,c',r',e⟩),rfl,q _ (I.hok.fresh (Nat.le_refl _))⟩
 rcases hq with hq|hq
 ·obtain⟨its,r',pl,hz⟩:=I.list hq
  have hlen:=r'.length
  obtain⟨o,ho,hc,n,hd⟩:=pl.isList
  exact call_list_seq p (.inl rfl) ho hc hd (fun h' c' kp e=>fin its r' hz h' c' kp e) (by simp only[List.size_toArray]<;>omega)
 ·obtain⟨its,r',pl,hz⟩:=I.tuple hq
  have hlen:=r'.length
  obtain⟨o,ho,hc,n,hd⟩:=pl
  exact call_list_seq p (.inr rfl) ho hc hd (fun h' c' kp e=>fin its r' hz h' c' kp e) (by simp only[List.size_toArray]<;>omega)
theorem kr:fJ X (.type "tuple") (fun xs H Q=>∃p ys,xs=[.ref p]/\((jV X.K H p ys/\∀l,H l=none->Q (.ref l) (upd H l (.tup ys)))\/(kU X.K H p ys/\Q (.ref p) H))):=by
 intro pins s σ H xs us Q I r h
 obtain⟨p,ys,rfl,h⟩:=h
 obtain⟨u,rfl,rx⟩:=vals1 r
 cases rx
 rcases h with⟨hq,q⟩|⟨hq,q⟩
 ·obtain⟨its,r',pl,hz⟩:=I.list hq
  have hlen:=r'.length
  refine call_tuple_list pl.isList (fun h' kp=>?_) (by simp only[List.size_toArray]<;>omega)
  have I1:Inv X pins σ H {s with heap:=h'}:=I.kept (t':=s.toks) kp
  have I2:Inv X pins σ (upd H h'.objs.size (.tup ys)) {s with heap:=h'.push {cls:=.type "tuple",data:=.seq its.toArray}}:=
   I1.laid (t':=s.toks) (fun b o e=>Heap.get?_push_of_some _ e) (Nat.le_refl _) (show cI X.prog X.w _ _ _ (.tup ys)from⟨hz,its,r',IsTup.new _ _⟩)
  exact⟨.ref h'.objs.size,_,I2,rfl,q _ (I1.hok.fresh (Nat.le_refl _))⟩
 ·obtain⟨its,r',pl,hz⟩:=I.tuple hq
  exact call_tuple_same pl ⟨.ref p,H,I,rfl,q⟩
noncomputable def WL(K:PySem.W.Frag)(T:String)(x:V)(H:Hp):Prop:=match x with
 |.str _=>T="str"
 |.int _=>T="int"
 |.ref p=>(T="list"/\∃xs,jV K H p xs)\/(T="tuple"/\∃o,K.lookup p=some o/\o.cls=.type "tuple"/\o.dict=none)\/
   (T="dict"/\((∃kvs,H p=some (.dK kvs))\/∃kvs,H p=some (.dT kvs)))\/(T="set"/\∃S n,H p=some (.set S n))
 |_=>False
theorem FL{pins:List (Addr×Obj)}{σ:St}{H:Hp}{s:Shared}{T:String}{x:V}{v:Value}(I:Inv X pins σ H s)(r:RelV x v)(ty:WL X.K T x H):
 s.TypeIs v T/\∀a,v=.ref a->∃ob,s.heap.get? a=some ob/\ob.dict=none:=by
 cases x with
 |str z=>
  obtain⟨t,rfl⟩:=r
  cases(show T="str"from ty)
  exact⟨typeIs_str s z t,fun _ e=>nomatch e⟩
 |int i=>
  obtain⟨t,rfl⟩:=r
  cases(show T="int"from ty)
  exact⟨typeIs_int s i t,fun _ e=>nomatch e⟩
 |ref p=>
  cases r
  rcases ty with⟨rfl,xs,hq⟩|⟨rfl,o,hk,hc,hd⟩|⟨rfl,hk⟩|⟨rfl,S,n,hk⟩
  ·obtain⟨its,_,pl,_⟩:=I.list hq
   refine⟨pl.isList.typeIs,fun a e=>?_⟩
   cases e
   obtain⟨o,n,e,c,hd,_⟩:=pl
   exact⟨o,e,hd⟩
  ·refine⟨⟨o,I.oG p o hk,hc⟩,fun a e=>?_⟩
   cases e
   exact⟨o,I.oG _ o hk,hd⟩
  ·have z:∃o,s.heap.get? p=some o/\o.ExactDict:=by
    rcases hk with⟨kvs,hk⟩|⟨kvs,hk⟩
    ·obtain⟨_,_,_,_,o,_,_,e,ex,_⟩:=I.hok p _ hk
     exact⟨o,e,ex⟩
    ·obtain⟨_,_,_,_,o,_,_,e,ex,_⟩:=I.hok p _ hk
     exact⟨o,e,ex⟩
   obtain⟨o,e,ex⟩:=z
   refine⟨⟨o,e,ex.1⟩,fun a e2=>?_⟩
   cases e2
   exact⟨o,e,ex.2.1⟩
  ·obtain⟨o,_,_,_,e,ex,_⟩:=I.hok p _ hk
   refine⟨⟨o,e,ex.1⟩,fun a e2=>?_⟩
   cases e2
   exact⟨o,e,ex.2.1⟩
 |_=>exact False.elim ty
noncomputable def WM(K:PySem.W.Frag)(T:String)(r:V->List V->Hp->VK->Prop)(to:TE):TE:=fun σ H Q=>to σ H fun x H1=>WL K T x H1/\r x [] H1 Q
noncomputable def WO(K:PySem.W.Frag)(T:String)(r:V->List V->Hp->VK->Prop)(to:TE)(t:TA):TE:=fun σ H Q=>to σ H fun x H1=>WL K T x H1/\t σ H1 fun xs H2=>r x xs H2 Q
variable{o e:Expr}{es:List Expr}{to:TE}{t:TA}{name:Str}{apos cpos:Pos}{T id:String}{r:V->List V->Hp->VK->Prop}
theorem FN(pa:PlainAttrs T)(slot:Slot T name id)(hty:typeOf (.builtin id)=pure (.type "method_descriptor"))(hm:WJ X id r)(ho:PE X o to)
 (hbase:attributeBase o name X.env (eval o X.env)=eval o X.env:=by rfl) (hline:(apos.endLine==cpos.line)=true:=by rfl):PE X (.Call (.Attribute o name apos) [] [] cpos) (WM X.K T r to):=by
 intro pins s σ H Q I h
 refine wpAny_Call_method0_late hbase hline (bK (ho pins s σ H _ I h) fun v s1 ⟨x,H1,I1,r1,ty,q1⟩=>?_)
 obtain⟨h1,h2⟩:=FL I1 r1 ty
 exact⟨T,id,pa,slot,hty,h1,h2,Calls.callWith_builtin rfl (PySem.evalArgs_none (hm pins s1 σ H1 x [] v [] Q I1 r1 .nil q1))⟩
theorem MC(pa:PlainAttrs T)(slot:Slot T name id)(hty:typeOf (.builtin id)=pure (.type "method_descriptor"))(hm:WJ X id r)(ho:PE X o to)(ha:PA X (e::es) t)
 (hbase:attributeBase o name X.env (eval o X.env)=eval o X.env:=by rfl)
 (hfew:((backTo cpos (starEach (e::es) X.env)).all (fun x=>!x.1)&&(backToKw cpos (keywordEach [] X.env)).all (fun x=>x.1.isSome)
   &&decide ((e::es).length+([]:List Keyword).length+(if([]:List Keyword).isEmpty then 0 else 1)<30))=true:=by rfl)
 (hline:(apos.endLine==cpos.line)=true:=by rfl) (hs:starEach (e::es) X.env=(false,eval e X.env)::starEach es X.env:=by rfl) (hplain:(backTo cpos (starEach es X.env)).any (·.1)=false:=by rfl):
 PE X (.Call (.Attribute o name apos) (e::es) [] cpos) (WO X.K T r to t):=by
 intro pins s σ H Q I h
 refine wpAny_Call_method_late hbase hfew hline rfl (bK (ho pins s σ H _ I h) fun v s1 ⟨x,H1,I1,r1,ty,q1⟩=>?_)
 obtain⟨h1,h2⟩:=FL I1 r1 ty
 refine⟨T,id,pa,slot,hty,h1,h2,?_⟩
 have hA:=ha cpos pins s1 σ H1 _ I1 q1
 rw[hs]at hA⊢
 refine Calls.callWith_builtin (by show(false||(backTo cpos (starEach es X.env)).any (·.1))=false;rw[hplain]<;>rfl) (Calls.evalArgs_plain ?_)
 exact bK hA fun us s2 ⟨vs,H2,I2,r2,q2⟩=>hm pins s2 σ H2 x vs v us Q I2 r1 r2 q2
end
noncomputable def Y4(X:Cx)(id:String)(r:V->List V->Hp->VK->Prop):Prop:=
 ∀(pins:List (Addr×Obj)) (s:Shared) (σ:St) (H:Hp) (x:V) (xs:List V) (v:Value) (us:List Value) (Q:VK),Inv X pins σ H s->RelV x v->Vals xs us->r x xs H Q->
  wpAny (model X.prog X.w) X.A (call (.builtin id) (v::us)) (EP X pins σ Q) X.xe s
theorem Vals.one:∀{x:V} {us:List Value},Vals [x] us->∃u,us=[u]/\RelV x u
 |_,_,.cons r .nil=>⟨_,rfl,r⟩
theorem Vals.zero:∀{us:List Value},Vals [] us->us=[]
 |_,.nil=>rfl
theorem Vals.dropLast{xs:List V}{us:List Value}(h:Vals xs us):Vals xs.dropLast us.dropLast:=by
 induction h with
 |nil=>exact .nil
 |cons r t ih=>
  cases t with
  |nil=>exact .nil
  |cons q t'=>exact .cons r ih
theorem Vals.rep{xs:List V}{us:List Value}(h:Vals xs us):∀k:Nat,Vals (List.replicate k xs).flatten (List.replicate k us).flatten
 |0=>.nil
 |k+1=>by
  rw[List.replicate_succ,List.replicate_succ,List.flatten_cons,List.flatten_cons]
  exact Vals.append h (Vals.rep h k)
theorem Aa{α:Type}(l:List α):l.eraseIdx (l.length -1)=l.dropLast:=by
 induction l with
 |nil=>rfl
 |cons a r ih=>
  cases r with
  |nil=>rfl
  |cons b r=>
   have e:(a::b::r).length -1=((b::r).length -1)+1:=by
    have h1:(a::b::r).length=r.length+2:=rfl
    have h2:(b::r).length=r.length+1:=rfl
    omega
   rw[e,List.eraseIdx_cons_succ,ih]
   all_goals rfl
theorem foldl_rep(its:List Value):∀(k:Nat) (acc:List Value),
 List.foldl (fun x1 x2=>x1++x2) acc.toArray (List.replicate k its.toArray)=(acc++(List.replicate k its).flatten).toArray
 |0,acc=>by simp
 |k+1,acc=>by
  have e:acc.toArray++its.toArray=(acc++its).toArray:=by simp
  have e2:(acc++its)++(List.replicate k its).flatten=acc++(List.replicate (k+1) its).flatten:=by
   rw[List.replicate_succ,List.flatten_cons,List.append_assoc]
  rw[←e2,←foldl_rep its k (acc++its),←e,List.replicate_succ,List.foldl_cons]
section
variable{X:Cx}{pins:List (Addr×Obj)}{σ:St}{H:Hp}{s:Shared}{l b:Addr}{xs ys zs:List V}
theorem Inv.Tz{its its':List Value}{n:Nat}{f:Array Value->Array Value}{t':Nat}(I:Inv X pins σ H s)(hH:H l=some (.lst xs))
 (e:s.heap.get? l=some {cls:=.type "list",data:=.seq its.toArray n}) (hf:f its.toArray=its'.toArray) (hv:Vals ys its') (hz:ys.length<=sizeLine):
 Inv X pins σ (upd H l (.lst ys)) {s with heap:=s.heap.update l (Obj.mapSeq f),toks:=t'}:=by
 have q:=PySem.IsL.update e f
 rw[hf]at q
 refine I.write (x:=l) (e:=l) (by rw[hH];exact trivial) (.inl rfl) (fun b' u hb hu=>(Heap.get?_update_other s.heap (Obj.mapSeq f) (Ne.symm hb)).trans hu) ⟨_,q⟩ ?_
 exact⟨hz,its',_,hv,q⟩
theorem Inv.TF{its:List Value}{t':Nat}(I:Inv X pins σ H s)(hv:Vals ys its)(hz:ys.length<=sizeLine):
 Inv X pins σ (upd H s.heap.objs.size (.lst ys)) {s with heap:=s.heap.push {cls:=.type "list",data:=.seq its.toArray},toks:=t'}:=
 I.laid (fun _ _ q=>Heap.get?_push_of_some _ q) (Nat.le_refl _) ⟨hz,its,0,hv,Heap.get?_push_size _ rfl⟩
theorem Inv.fresh(I:Inv X pins σ H s):H s.heap.objs.size=none:=I.hok.fresh (Nat.le_refl _)
theorem Inv.TH(I:Inv X pins σ H s)(hH:H l=some (.lst xs)):xs.length<=sizeLine/\∃(its:List Value) (n:Nat),Vals xs its/\xs.length=its.length/\s.heap.get? l=some {cls:=.type "list",data:=.seq its.toArray n}:=by
 obtain⟨z,its,n,r,e⟩:=I.hok l _ hH
 exact⟨z,its,n,r,r.length,e⟩
theorem FO{n:Nat}(h:n<=sizeLine):Builtin.List.listTooLong n=false:=by
 unfold Builtin.List.listTooLong
 exact decide_eq_false (by omega)
end
section
variable{X:Cx}
noncomputable def uI:V->List V->Hp->VK->Prop:=fun x vs H Q=>∃l xs y,x=.ref l/\vs=[y]/\H l=some (.lst xs)/\xs.length<sizeLine/\Q .aU (upd H l (.lst (xs++[y])))
theorem jW:Y4 X "list.append" uI:=by
 intro pins s σ H x vs v us Q I rx rv h
 obtain⟨l,xs,y,rfl,rfl,hH,hz,q⟩:=h
 cases rx
 obtain⟨u,rfl,ru⟩:=rv.one
 obtain⟨z,its,n,r,hl,e⟩:=I.TH hH
 refine call_meets F.slot_list_append ⟨_,e,rfl⟩ F.entry_list_append (F.args_list_append_2 _ _) (PySem.list_append l its.toArray n u (by rw[List.size_toArray];omega)) ⟨e,?_⟩
 refine⟨.aU,_,I.Tz (its':=its++[u]) hH e (by simp) (r.append (.cons ru .nil)) ?_,rfl,q⟩
 rw[List.length_append,List.length_singleton]
 omega
noncomputable def WQ:V->List V->Hp->VK->Prop:=fun x vs H Q=>∃l xs y,x=.ref l/\vs=[]/\H l=some (.lst xs)/\xs[xs.length -1]?=some y/\Q y (upd H l (.lst xs.dropLast))
theorem Oc:Y4 X "list.pop" WQ:=by
 intro pins s σ H x vs v us Q I rx rv h
 obtain⟨l,xs,y,rfl,rfl,hH,hy,q⟩:=h
 cases rx
 have hus:=rv.zero
 subst hus
 obtain⟨z,its,n,r,hl,e⟩:=I.TH hH
 obtain⟨u,hu,ru⟩:=r.get hy
 have hy':its.toArray[its.toArray.size -1]?=some u:=by
  show its.toArray[its.length -1]?=some u
  rw[←Array.getElem?_toList,←hl]
  exact hu
 refine call_meets F.slot_list_pop ⟨_,e,rfl⟩ F.entry_list_pop (F.args_list_pop_1 _) (MeetsSeq.list_pop_last l its.toArray n u hy' (by rw[List.size_toArray];omega)) ⟨e,?_⟩
 refine⟨y,_,I.Tz (its':=its.dropLast) hH e ?_ r.dropLast ?_,ru,q⟩
 ·show its.toArray.eraseIdxIfInBounds (its.toArray.size -1)=its.dropLast.toArray
  rw[List.size_toArray,List.eraseIdxIfInBounds_toArray,Aa]
 ·rw[List.length_dropLast]
  omega
theorem len_rep{α:Type}(xs:List α)(k:Nat):(List.replicate k xs).flatten.length=k*xs.length:=by
 induction k with
 |zero=>simp
 |succ k ih=>rw[List.replicate_succ,List.flatten_cons,List.length_append,ih,Nat.succ_mul,Nat.add_comm]
end
section
variable{prog:Program}{w:World}{A:Around}{E:Value->Shared->Prop}{s:Shared}
end
section
variable{X:Cx}
end
end L2
namespace Y5
open PySem PySem.W PySem.Calls PyProof.Rows
theorem pA{P:Params}{h:Heap}:∀(ns:List Int) (vs:List Value),WellAll P h vs (ns.map WData.int)->IntsAre vs ns:=by
 intro ns
 induction ns with
 |nil=>
  intro vs w
  rw[List.map_nil]at w
  cases w
  exact .nil
 |cons n ns ih=>
  intro vs w
  rw[List.map_cons]at w
  cases w with
  |cons a b=>
   cases a
   exact .cons _ _ (ih _ b)
theorem DK{l:OpenLaw}{n:Nat}(hn:l.most=some n){P:Params}{h:Heap}{args:List WData}{vals:List Value}
 (hpre:l.row.toRowW.claim.pre args=true) (hwl:WellAll P h vals args):
 ∃a vs ns,vals=[Value.ref a]/\args=[WData.list (ns.map WData.int)]/\h.get? a=some {cls:=.type "list",data:=.seq vs.toArray}/\IntsAre vs ns/\ns.length<=n:=by
 have hsh:WShape.hasAll [] args [.list .int]=true:=(pre_splitW hpre).1
 have hc:l.pre.holds [] {args:=args}=true:=(pre_splitW hpre).2
 obtain⟨d,r,rfl,h1,h2⟩:=hasAllW_cons hsh
 obtain rfl:=hasAllW_nil h2
 obtain⟨xs,rfl,h3⟩:=hasW_list h1
 obtain⟨ns,rfl⟩:=items_int h3
 have hlen:ns.length<=n:=by
  unfold OpenLaw.pre at hc
  have h4:(WTm.not (.lt (.lit (.int (n:Int))) (.len (.arg 0)))).holds [] {args:=[.list (ns.map .int)]}=true:=by
   have h4:=(holds_andW hc).1
   rw[hn]at h4
   exact h4
  have h5:=condW_of h4 (w_not (w_lt w_lit (w_len_list (w_arg rfl))))
  rw[List.length_map]at h5
  refine Nat.le_of_not_lt fun q=>?_
  have q':(n:Int)<((ns.length:Nat):Int):=by omega
  first
   |(rw[decide_eq_true q']at h5;exact absurd h5 (by decide))
   |(simp at h5;omega)
 cases hwl with
 |cons w1 w2=>
  cases w2
  cases w1 with
  |list ho hall=>exact⟨_,_,ns,rfl,rfl,ho,pA ns _ hall,hlen⟩
theorem DM(l:OpenLaw)(args:List WData):l.row.toRowW.claim.post args (.bool true) args=true:=
 postW_of (r:=l.row.toRowW) (X:=(true==true))
  (show WShape.has [] (.bool true) .bool=true by first|rfl|decide|simp[WShape.has,WShape.arms,WShape.armsAll])
  (show(WTm.eq .res (.lit (.bool true))).value [] {args:=args,res:=some (.bool true),after:=args}=some (.bool (true==true))from w_eq_bool (w_res rfl) w_lit) rfl
theorem wX{l:OpenLaw}{n:Nat}{q:Program}{loose:List Str}{XP:(Str->Option Value)->Heap->Prop}{YP:World->Heap->Prop}{d:DefRec}
 (hn:l.most=some n) (hdf:d.params.defaults=[])
 (call:∀(w:World) (s₀ s₁:Shared) (mg mb:Str->Option Value) (fa:Addr) (o:Obj) (pm cd doc:Value) (a:Addr) (vs:List Value) (ns:List Int),
   Ground q loose [] XP w s₀ mg mb s₁.heap->YP w s₁.heap->
   s₁.heap.get? fa=some o->o.data=.func (docDef d.name d.params d.body d.scope pm cd doc)->s₁.heap.CodeRec cd d.name->mg d.name=some (.ref fa)->
   s₁.heap.get? a=some {cls:=.type "list",data:=.seq vs.toArray}->IntsAre vs ns->ns.length<=n->s₁.gens= #[]->
   codeAny (model l.prog w) callerA (.call (.ref fa) ⟨[.ref a],[]⟩) (fun r s'=>r=.ok (.ret (.bool true))/\OldK s₁.heap s'.heap/\s'.os=s₁.os/\AllBare s'.gens) s₁):
 WalkO q loose XP YP l.row.toRowW d [] (fun f vs=>PySem.call f vs):=by
 intro w s₀ s₁ mg mb G Y fa o pm cd doc dV kV ho hd hcd hD hmg hg args vals as hpre hlay hrd hwl hlo
 obtain rfl:dV=.none:=Dflts.none hD hdf
 obtain rfl:kV=.none:=Dflts.noKw hD
 obtain⟨a,vs,ns,rfl,rfl,hobj,hints,hlen⟩:=DK hn hpre hwl
 refine enter_call (codeAny_mono (call w s₀ s₁ mg mb fa o pm cd doc a vs ns G Y ho (fd_plain hd) hcd hmg hobj hints hlen hg) fun r s' hq=>?_)
 obtain⟨rfl,h2,h3,h4⟩:=hq
 exact⟨.inl ⟨.bool true,.bool true,[],rfl,fun _=>rfl,.bool true,DM l _,fun _=>⟨List.Pairwise.nil,fun _ hm=>(nomatch hm)⟩⟩,h2,h3,h4⟩
section
variable{prog:Program}{w:World}{A:Around}{E:Value->Shared->Prop}{s:Shared}{K:Frag}
end
end Y5
namespace L2
open PySem PySem.Spec PyProof.Rows
theorem tN:∀{vs:List Value} {ns:List Int},IntsAre vs ns->Vals (ns.map V.int) vs
 |_,_,.nil=>.nil
 |_,_,.cons n t h=>.cons ⟨t,rfl⟩ (tN h)
noncomputable def FP(H:Hp):Prop:=∀b,H b=none\/∃o xs,H b=some (.wO o (.lst xs))
theorem FQ{P:Program}{w:World}{K:PySem.W.Frag}{mg mb:Str->Option Value}{CX:DF}{k:Nat}{fa a:Addr}{fd:FuncData}{x:Str}{sp:Sp}{s₁:Shared}{vs:List Value}{ns:List Int}
 (KX:K.In s₁.heap) (hns:s₁.heap.Ns mainGlobals mg) (hb:s₁.heap.Ns builtinsNs mb) (hbb:∀x:Str,x≠"__name__"->mb x=bootBuiltins x) (hlim:s₁.heap.NoLimit) (hg:s₁.gens= #[])
 (ha:s₁.heap.get? a=some {cls:=.type "list",data:=.seq vs.toArray}) (hi:IntsAre vs ns) (hl:ns.length<=sizeLine) (hr:dN k callerA)
 (F:∀base:Heap,K.In base->base.Ns mainGlobals mg->aL P w K mg base CX k fa fd [x] sp) (hbind:∀(s:Shared) (u:Value),BindsTo s fd ⟨[u],[]⟩ [(x,u)])
 (z7:∀H:Hp,FP H->jV K H a (ns.map V.int)->sp [.ref a] H (fun v _=>v=.bl true) fun _ _ _=>False)
 (WR:∀H e s',CX [] H s₁ (fun _ _ _=>False) e s'->False):
 codeAny (model P w) callerA (.call (.ref fa) ⟨[.ref a],[]⟩) (fun r s'=>r=.ok (.ret (.bool true))/\OldK s₁.heap s'.heap/\s'.os=s₁.os/\AllBare s'.gens) s₁:=by
 have rv:=tN hi
 have WU:=hi.length
 have core:∀H:Hp,FP H->jV K H a (ns.map V.int)->lN P w H s₁.heap->(∀b,H b≠none->b=a)->(H a≠none->K.lookup a=none)->
  codeAny (model P w) callerA (.call (.ref fa) ⟨[.ref a],[]⟩) (fun r s'=>r=.ok (.ret (.bool true))/\OldK s₁.heap s'.heap/\s'.os=s₁.os/\AllBare s'.gens) s₁:=by
  intro H hO hS hok hA hK
  have BB:∀{b:Addr} {o:Obj},s₁.heap.get? b=some o->H b=none->(uB s₁.heap H).get? b=some o:=fun e n=>Fc e n
  have Tp:∀{b:Addr} {o:Obj} {es:Array DictEntry} {ep:Nat},s₁.heap.get? b=some o->o.data=.dict es ep->H b=none:=fun{b o es ep} e d=>by
   cases q:H b with
   |none=>rfl
   |some u=>
    have e':b=a:=hA b (by rw[q];simp)
    subst e'
    rw[ha]at e;cases e
    have d':Data.seq vs.toArray _=Data.dict es ep:=d
    cases d'
  have V6:∀{b:Addr} {m:Str->Option Value},s₁.heap.Ns b m->(uB s₁.heap H).Ns b m:=fun{b m} ⟨o,es,ep,e,d,r⟩=>⟨o,es,ep,BB e (Tp e d),d,r⟩
  have Y6:K.In (uB s₁.heap H):=fun b o e=>BB (KX b o e) (by
   cases q:H b with
   |none=>rfl
   |some u=>
    have e':b=a:=hA b (by rw[q];simp)
    subst e'
    rw[hK (by rw[q];simp)]at e;cases e)
  have hM:Mod K mg (uB s₁.heap H):=⟨Y6,V6 hns,⟨mb,V6 hb,hbb⟩,let⟨mc,h1,h2⟩:=hlim;⟨mc,V6 h1,h2⟩⟩
  have e0:z5 P w K mg (uB s₁.heap H) callerA [] s₁ H:=⟨rfl,hM,fun b o e=>Jq e,Nat.le_of_eq (Dl _ _),trivial,fun b hb=>absurd (show b∈([]:List Addr)from hb) (by simp),hok,.of_eq hg⟩
  refine codeAny_mono ((F _ Y6 (V6 hns)).run callerA [] s₁ H ⟨[.ref a],[]⟩ [.ref a] [.ref a] _ _ hr e0 (hbind s₁ (.ref a)) (.cons rfl .nil) (z7 H hO hS)) fun r s' h=>?_
  cases r with
  |error e=>exact(WR H e s' h).elim
  |ok fl=>
   cases fl with
   |next=>exact False.elim h
   |brk=>exact False.elim h
   |cont=>exact False.elim h
   |ret u=>
    obtain⟨v,H',os,bare,un,WV,r',q⟩:=h
    have q':v=.bl true:=q
    subst q'
    obtain rfl:u=Value.bool true:=r'
    refine⟨rfl,OldK.of_keep fun b o e=>?_,os,bare⟩
    cases q:H b with
    |none=>exact un.keep b o e q (by intro z;exact absurd (show b∈([]:List Addr)from z) (by simp)) (by simp)
    |some u=>
     rcases hO b with z|⟨ob,xs,z⟩
     ·rw[q]at z;cases z
     ·have z2:=un.lU b ob _ z
      obtain⟨e1,_⟩:=hok b _ z
      obtain⟨e2,_⟩:=WV b _ z2
      rw[e]at e1;cases e1
      exact e2
 cases hk:K.lookup a with
 |some o=>
  have e:=KX a o hk
  rw[ha]at e
  cases e
  refine core (fun _=>none) (fun _=>.inl rfl) (.inr ⟨_,vs.toArray,_,hk,rfl,rfl,rfl,by rw[List.size_toArray,WU];exact hl,by simpa using rv⟩) (fun b u z=>by have z':(none:Option HO)=some u:=z;cases z') (fun b z=>absurd rfl z) fun z=>absurd rfl z
 |none=>
  refine core (fun b=>if b=a then some (.wO {cls:=.type "list",data:=.seq vs.toArray} (.lst (ns.map V.int)))else none) (fun b=>?_) (.inl (.inr ⟨{cls:=.type "list",data:=.seq vs.toArray},if_pos rfl⟩)) (fun b u z=>?_) (fun b z=>?_) fun _=>hk
  ·by_cases hb:b=a
   ·exact .inr ⟨_,_,if_pos hb⟩
   ·exact .inl (if_neg hb)
  ·by_cases hb:b=a
   ·have z':=(if_pos hb).symm.trans z
    cases z'
    subst hb
    exact⟨ha,by rw[List.length_map];exact hl,vs,_,rv,ha⟩
   ·have z':=(if_neg hb).symm.trans z
    cases z'
  ·by_cases hb:b=a
   ·exact hb
   ·exact absurd (if_neg hb) z
theorem JP{l:PySem.W.OpenLaw}{n k:Nat}{q:Program}{loose:List Str}{XP:(Str->Option Value)->Heap->Prop}{YP:World->Heap->Prop}{d:DefRec}{K:Params->PySem.W.Frag}{CX:World->DF}{sp:World->Sp}{x:Str}
 (hn:l.most=some n) (hn2:n<=sizeLine) (hdf:d.params.defaults=[]) (hr:dN k callerA)
 (hY:∀(w:World) (h:Heap),YP w h->(K w.params).In h)
 (F:∀(w:World) (mg:Str->Option Value) (fa:Addr) (h:Heap),(K w.params).In h->h.Ns mainGlobals mg->mg d.name=some (.ref fa)->
   ∃fd:FuncData,(∀(s:Shared) (u:Value),BindsTo s fd ⟨[u],[]⟩ [(x,u)])/\
    ∀base:Heap,(K w.params).In base->base.Ns mainGlobals mg->aL l.prog w (K w.params) mg base (CX w) k fa fd [x] (sp w))
 (z7:∀(w:World) (H:Hp) (a:Addr) (ns:List Int),ns.length<=n->FP H->jV (K w.params) H a (ns.map V.int)->sp w [.ref a] H (fun v _=>v=.bl true) fun _ _ _=>False)
 (WR:∀(w:World) (H:Hp) (s:Shared) (e:Value) (s':Shared),CX w [] H s (fun _ _ _=>False) e s'->False):
 PySem.W.WalkO q loose XP YP l.row.toRowW d [] (fun f vs=>PySem.call f vs):=by
 refine Y5.wX hn hdf fun w s₀ s₁ mg mb fa o pm cd doc a vs ns G Y ho hd hcd hmg hobj hints hlen hg=>?_
 have KX:=hY w _ Y
 obtain⟨fd,hb,hF⟩:=F w mg fa _ KX G.T.g hmg
 exact FQ KX G.T.g G.T.b G.T.builtins G.T.nolimit hg hobj hints (Nat.le_trans hlen hn2) hr hF hb (fun H hO hS=>z7 w H a ns hlen hO hS) fun H e s'=>WR w H s₁ e s'
noncomputable def inClass(s:Stmt)(j:Nat):Stmt:=match s with
 |.ClassDef _ _ _ body _ _ _ _ _ _ _=>body.getD j (.Pass ⟨0,0,0,0⟩)
 |_=>.Pass ⟨0,0,0,0⟩
noncomputable def cP(s:Stmt):Arguments:=match s with
 |.FunctionDef _ a _ _ _ _ _ _ _ _=>a
 |_=>{posonlyargs:=[],args:=[],vararg:=none,kwonlyargs:=[],kw_defaults:=[],kwarg:=none,defaults:=[]}
noncomputable def ah(s:Stmt):List Stmt:=match s with
 |.FunctionDef _ _ b _ _ _ _ _ _ _=>b
 |_=>[]
noncomputable def aa(s:Stmt):Scope:=match s with
 |.FunctionDef _ _ _ _ _ _ sc _ _ _=>sc
 |_=>{kind:=.function,names:=[],isGenerator:=false,isCoroutine:=false}
abbrev TJ:DF:=fun _ _ _ _ _ _=>False
abbrev E0:XK:=fun _ _ _=>False
structure FT(K:PySem.W.Frag)(x qual:Str)(st:Stmt)(f:Addr)(fd:FuncData):Prop where
 ex:∃(oc:Value) (od:Option Addr) (kV doc pm:Value) (an:Option Addr) (cdv ct:Value) (osl:Array (Option Value)),
  fd=PySem.W.fnOf x qual (cP st) (ah st) (aa st) .none kV doc pm an cdv ct/\K.lookup f=some ⟨oc,od,.func fd,osl⟩/\PySem.W.codeIn K cdv qual=true
 kp:PySem.W.keepIn K (.ref f)=true
section
variable{P:Program}{w:World}{K:PySem.W.Frag}{mg:Str->Option Value}{base:Heap}
theorem FT.binds{x qual:Str}{st:Stmt}{f:Addr}{fd:FuncData}{ps:List Str}(F:FT K x qual st f fd)
 (h:∀(kV doc pm:Value) (an:Option Addr) (cdv ct:Value) (us:List Value),us.length=ps.length->bindArgs (PySem.W.fnOf x qual (cP st) (ah st) (aa st) .none kV doc pm an cdv ct) ⟨us,[]⟩=pure (ps.zip us)):Binds K fd ps []:=by
 obtain⟨oc,od,kV,doc,pm,an,cdv,ct,osl,rfl,lk,hcd⟩:=F.ex
 exact .all (h kV doc pm an cdv ct)
theorem FU{x qual:Str}{st:Stmt}{f:Addr}{oc:Value}{od an:Option Addr}{osl:Array (Option Value)}{kV doc pm cdv ct:Value}(l:K.lookup f=some ⟨oc,od,.func (PySem.W.fnOf x qual (cP st) (ah st) (aa st) .none kV doc pm an cdv ct),osl⟩)
 (c:PySem.W.codeIn K cdv qual=true) (k:PySem.W.keepIn K (.ref f)=true):FT K x qual st f (PySem.W.fnOf x qual (cP st) (ah st) (aa st) .none kV doc pm an cdv ct):=⟨⟨oc,od,kV,doc,pm,an,cdv,ct,osl,rfl,l,c⟩,k⟩
end
section
variable{X:Cx}
theorem pv(i:Nat){x:Str}{pos:Pos}(hN:X.N[i]?=some x:=by rfl)(hv:RT X.env.scope x:=by first|exact Or.inl rfl|exact Or.inr (Or.inl rfl)|exact Or.inr (Or.inr rfl))(hd:(x==("__debug__":Str))=false:=by decide)
 (hcd:(x==("__classdict__":Str))=false:=by decide):PE X (.Name x pos) (j7 i):=Ff hN hv hd hcd
end
noncomputable def ay(H H':Hp):Prop:=∀b o,H b=some o->H' b=some o
theorem ay.refl(H:Hp):ay H H:=fun _ _ h=>h
theorem ay.trans{H H1 H2:Hp}(a:ay H H1)(b:ay H1 H2):ay H H2:=fun c o h=>b c o (a c o h)
theorem ay.free{H H':Hp}(e:ay H H'){l:Addr}(h:H' l=Option.none):H l=Option.none:=by
 cases q:H l with
 |none=>rfl
 |some o=>
  rw[e l o q]at h
  cases h
theorem bits_le{x:Int}{n:Nat}(h:x.natAbs<2^n):Builtin.Int.intBits x<=n:=by
 unfold Builtin.Int.intBits
 split
 ·exact Nat.zero_le _
 ·rename_i hx
  have hx':x.natAbs≠0:=fun e=>hx (by simp[Int.natAbs_eq_zero.mp e])
  have:=(Nat.log2_lt hx').mpr h
  omega
theorem Ab{i j:Int}(h:Builtin.Int.intBits i+Builtin.Int.intBits j<=134217728):IntMulOk i j:=by
 unfold IntMulOk Builtin.Int.intTooBig
 have h':¬((Builtin.Int.intBits i:Int)+(Builtin.Int.intBits j:Int)>((bitsLine:Nat):Int)):=by
  rw[bitsLine_eq]
  omega
 intro z
 rw[Bool.and_eq_true]at z
 exact h' (of_decide_eq_true z.2)
section
variable{X:Cx}
theorem JQ:kq X (binaryOp .Mult) (rI IntMulOk fun i j=>.int (i*j)):=RX fun _ _ _ _ _ _ _ hc q=>mul_int q hc
noncomputable def tO(_ j:Int):Prop:=j≠0/\j.natAbs.log2<9000
theorem FW:kq X (binaryOp .FloorDiv) (rI tO fun i j=>.int (i.fdiv j)):=RX fun _ _ _ _ _ _ _ hc q=>floordiv_int hc.1 q (.inl (PyProof.noPylong_of_log2 hc.2))
end
theorem aZ{H:Hp}{p:Addr}(h:H p=none)(o:HO):ay H (upd H p o):=fun b u q=>by rw[ao (aR q h)];exact q
theorem ay.tup{K:PySem.W.Frag}{H H':Hp}{a:Addr}{xs:List V}(e:ay H H')(h:kU K H a xs):kU K H' a xs:=by
 rcases h with(h|⟨o,h⟩)|h
 ·exact .inl (.inl (e _ _ h))
 ·exact .inl (.inr ⟨o,e _ _ h⟩)
 ·exact .inr h
theorem tQ{n:Nat}(h:n<=100000):n<=sizeLine:=Nat.le_trans h (by decide)
end L2
namespace L2
theorem gw{i j:Int}(h1:0<=j)(h2:j<=1000000)(h3:i.natAbs<2^64):sj i j:=⟨h1,h2,h3⟩
end L2
namespace L2
open PySem PySem.Spec PyProof.Rows
theorem FY{H:Hp}{p q:Addr}{o u:HO}(hq:H q=some u)(hp:H p=none):upd H p o q=some u:=by
 rw[ao (aR hq hp)]
 exact hq
theorem cI.thing{P:Program}{w:World}{H:Hp}{h:Heap}{a:Addr}{o:HO}(x:cI P w H h a o):∃ob,h.get? a=some ob:=by
 cases o with
 |lst xs=>obtain⟨_,_,_,_,e⟩:=x;exact⟨_,e⟩
 |tup xs=>obtain⟨_,_,_,ob,e,_⟩:=x;exact⟨_,e⟩
 |dK kvs=>obtain⟨_,_,_,_,ob,_,_,e,_⟩:=x;exact⟨_,e⟩
 |dT kvs=>obtain⟨_,_,_,_,ob,_,_,e,_⟩:=x;exact⟨_,e⟩
 |set S n=>obtain⟨ob,_,_,_,e,_⟩:=x;exact⟨_,e⟩
 |ins C dx fs=>obtain⟨_,_,_,e,_⟩:=x;exact⟨_,e⟩
 |own y=>exact x
 |xd fs=>obtain⟨_,⟨_,_,_,e,_⟩,_⟩:=x;exact⟨_,e⟩
 |nO lo hi=>obtain⟨_,_,_,e⟩:=x;exact⟨_,e⟩
 |wO ob u=>obtain⟨e,_⟩:=x;exact⟨_,e⟩
 |Mt ps=>exact⟨_,x⟩
 |met f y=>exact⟨_,x⟩
 |ext φ=>obtain⟨_,e,_⟩:=x;exact e
theorem lN.gone{P:Program}{w:World}{H:Hp}{h:Heap}{a:Addr}(x:lN P w H h)(e:h.get? a=none):H a=none:=by
 cases q:H a with
 |none=>rfl
 |some u=>
  obtain⟨ob,z⟩:=(x a u q).thing
  rw[e]at z
  cases z
theorem lN.tracked{P:Program}{w:World}{H:Hp}{h h':Heap}(x:lN P w H h)(k:∀b u ob,H b=some u->h.get? b=some ob->h'.get? b=some ob):lN P w H h':=fun a o e=>
 (x a o e).stay (fun b u z q=>by
   rcases z with rfl|z
   ·exact k b o u e q
   ·exact k b _ u z q) (fun _ q=>q) fun _ _ q=>q
structure Fly(P:Program)(w:World)(outer:List Env)(H:Hp)(s:Shared)(H':Hp)(a C:Addr)(s':Shared):Prop where
 os:s'.os=s.os
 bare:AllBare s'.gens
 un:Un (frs outer) [] H H' s.heap s'.heap
 hok:lN P w H' s'.heap
 new:H' a=none
 old:s.heap.get? a=none
 fly:∃(B:Heap) (a0:Value),Heap.FlyingW B outer a (.ref C) a0 s'.heap/\∀b o,s'.heap.get? b=some o->b∉frs outer->((∃o',s.heap.get? b=some o')\/∃u,H' b=some u)->B.get? b=some o
noncomputable def cV(P:Program)(w:World):DF:=fun outer H s E e s'=>∃a C H',e=.ref a/\Fly P w outer H s H' a C s'/\E (.ref C) none H'
section
variable{P:Program}{w:World}{K:PySem.W.Frag}{mg:Str->Option Value}{base:Heap}{N:List Str}{qual:Str}{scope:Scope}{f:Addr}{cd:Value}{A:Around}{outer:List Env}{s:Shared}{H:Hp}{E:XK}
abbrev lP(P:Program)(w:World)(K:PySem.W.Frag)(mg:Str->Option Value)(base:Heap)(N:List Str)(qual:Str)(scope:Scope)(f:Addr)(cd:Value)(A:Around)(outer:List Env)(s:Shared)(H:Hp)(E:XK):Cx:=
 DG (cV P w) P w K mg base N qual scope f cd A outer s H E
theorem qk{e:Env}{l:List Env}{L b:Addr}(hf:e.frame=some L):b∈frs (e::l)↔b=L\/b∈frs l:=by
 unfold frs
 rw[List.filterMap_cons,hf]
 exact List.mem_cons
theorem wY{pins:List (Addr×Obj)}{σ:St}{H1 H2:Hp}{s1:Shared}{h2:Heap}(I:Inv (lP P w K mg base N qual scope f cd A outer s H E) pins σ H1 s1)
 (u:Un (frs (lP P w K mg base N qual scope f cd A outer s H E).stack) [] H1 H2 s1.heap h2):Un (frs outer) [] H H2 s.heap h2:=by
 have lf:(lP P w K mg base N qual scope f cd A outer s H E).env.frame=some s.heap.objs.size:=rfl
 have st:∀b,b∈frs (lP P w K mg base N qual scope f cd A outer s H E).stack↔b=s.heap.objs.size\/b∈frs outer:=fun b=>qk lf
 have EZ:Un (frs outer) [] H H1 s.heap s1.heap:=I.base
 have noL:∀b o,s.heap.get? b=some o->b∉frs outer->b∉frs (lP P w K mg base N qual scope f cd A outer s H E).stack:=fun b o q hb z=>by
  rcases(st b).mp z with z|z
  ·exact absurd (Heap.lt_size q) (by rw[z];exact Nat.lt_irrefl _)
  ·exact hb z
 refine⟨fun b o q n hb hx=>?_,fun b o q n hb hx=>?_,fun b o q n hx=>?_,fun b o q hx=>?_,fun b xs q=>u.tups b xs (EZ.tups b xs q),fun b o v q=>u.lU b o v (EZ.lU b o v q),fun b ps q=>?_⟩
 ·exact u.keep b o (EZ.keep b o q n hb hx) (EZ.free b o q n hx) (noL b o q hb) hx
 ·obtain⟨sl,e1⟩:=EZ.slot b o q n hb hx
  obtain⟨sl2,e2⟩:=u.slot b _ e1 (EZ.free b o q n hx) ((st b).mpr (.inr hb)) hx
  exact⟨sl2,e2⟩
 ·obtain⟨o',e1⟩:=EZ.there b o q hx
  exact u.free b o' e1 (EZ.free b o q n hx) hx
 ·obtain⟨o',e1⟩:=EZ.there b o q hx
  exact u.there b o' e1 hx
 ·obtain⟨m1,e1⟩:=EZ.nT b ps q
  obtain⟨m2,e2⟩:=u.nT b _ e1
  exact⟨m1++m2,by rw[e2,Array.append_assoc]⟩
theorem FZ{l:List Env}{H1 H2:Hp}{h1 h2 h3:Heap}(u:Un (frs l) [] H1 H2 h1 h2)(k:∀b o,h2.get? b=some o->b∉frs l->((∃o',h1.get? b=some o')\/∃u,H2 b=some u)->h3.get? b=some o)
 (ff:∀b,b∈frs l->∃o,h2.get? b=some o/\∀vs,o.data≠.fields vs) (up:h2.UpToSlots h3):Un (frs l) [] H1 H2 h1 h3:=by
 have fr:∀b o,b∈frs l->h2.get? b=some o->∃sl,h3.get? b=some {o with slots:=sl}:=fun b o hb q=>by
  obtain⟨o',e,nf⟩:=ff b hb
  rw[q]at e
  cases e
  exact up b o q nf
 refine⟨fun b o q n hb hx=>k b o (u.keep b o q n hb hx) hb (.inl ⟨o,q⟩),fun b o q n hb hx=>?_,u.free,fun b o q hx=>?_,u.tups,u.lU,u.nT⟩
 ·obtain⟨sl,e1⟩:=u.slot b o q n hb hx
  obtain⟨sl2,e2⟩:=fr b _ hb e1
  exact⟨sl2,e2⟩
 ·obtain⟨o',e1⟩:=u.there b o q hx
  by_cases hb:b∈frs l
  ·obtain⟨sl,e2⟩:=fr b o' hb e1
   exact⟨_,e2⟩
  ·exact⟨o',k b o' e1 hb (.inl ⟨o,q⟩)⟩
theorem F3{pins:List (Addr×Obj)}{σ:St}{H1:Hp}{s1:Shared}{a:Addr}(I:Inv (lP P w K mg base N qual scope f cd A outer s H E) pins σ H1 s1)(e:s1.heap.get? a=none):s.heap.get? a=none:=by
 have EZ:Un (frs outer) [] H H1 s.heap s1.heap:=I.base
 cases q:s.heap.get? a with
 |none=>rfl
 |some o=>
  obtain⟨o',z⟩:=EZ.there a o q (by simp)
  rw[e]at z
  cases z
theorem Ac{pins:List (Addr×Obj)}{σ:St}{H1:Hp}{s1:Shared}{h':Heap}{a C:Addr}{args:List Value}(I:Inv (lP P w K mg base N qual scope f cd A outer s H E) pins σ H1 s1)
 (hx:Heap.MadeExcOf s1.heap h' a (.ref C) args) (q:E (.ref C) none H1):(lP P w K mg base N qual scope f cd A outer s H E).xe (.ref a) {s1 with heap:=h'}:=by
 have lf:(lP P w K mg base N qual scope f cd A outer s H E).env.frame=some s.heap.objs.size:=rfl
 have st:∀b,b∈frs (lP P w K mg base N qual scope f cd A outer s H E).stack↔b=s.heap.objs.size\/b∈frs outer:=fun b=>qk lf
 have ff:=I.stack
 have hin:∀env∈(lP P w K mg base N qual scope f cd A outer s H E).stack,∀b,env.frame=some b->b∈frs (lP P w K mg base N qual scope f cd A outer s H E).stack:=fun env he b hb=>List.mem_filterMap.mpr ⟨env,he,hb⟩
 have Y7:=PySem.W.funFrames_hide ff hin
 refine wpAny_leaves_madeW (base:=PySem.W.hideAll s1.heap (frs (lP P w K mg base N qual scope f cd A outer s H E).stack)) (h:=s1.heap) I.ok.frames lf (fun b o z=>PySem.W.of_hideAll _ z) Y7 hx fun h2 t x1 x2 x3 x4=>?_
 have Od:∀b o,s1.heap.get? b=some o->b∉frs (lP P w K mg base N qual scope f cd A outer s H E).stack->h2.get? b=some o:=fun b o z nb=>x1.1 b o (PySem.W.hideAll_get _ z nb)
 have fm:∀b,b∈frs (lP P w K mg base N qual scope f cd A outer s H E).stack->∃o,s1.heap.get? b=some o/\∀vs,o.data≠.fields vs:=fun b hb=>(Y7.mem hb).2
 have up:s1.heap.UpToSlots h2:=(Heap.UpToSlots.of_keeps hx.keeps).trans x4
 have u1:Un (frs (lP P w K mg base N qual scope f cd A outer s H E).stack) [] H1 H1 s1.heap h2:=FZ Un.refl (fun b o z nb _=>Od b o z nb) fm up
 refine⟨a,C,H1,rfl,⟨I.os,I.bare,wY I u1,I.hok.tracked fun b u ob z zz=>Od b ob zz fun m=>?_,I.hok.gone hx.new,F3 I hx.new,_,_,x1,fun b o z nb hor=>?_⟩,q⟩
 ·have:=I.lV b m
  rw[z]at this
  cases this
 ·have V7:b∉frs (lP P w K mg base N qual scope f cd A outer s H E).stack:=fun m=>by
   rcases hor with⟨o',e⟩|⟨u,e⟩
   ·rcases(st b).mp m with m|m
    ·exact absurd (Heap.lt_size e) (by rw[m];exact Nat.lt_irrefl _)
    ·exact nb m
   ·have:=I.lV b m
    rw[e]at this
    cases this
  have:∃o1,s1.heap.get? b=some o1:=by
   rcases hor with⟨o',e⟩|⟨u,e⟩
   ·exact Un.there (show Un (frs outer) [] H H1 s.heap s1.heap from I.base) b o' e (by simp)
   ·exact(I.hok b u e).thing
  obtain⟨o1,e1⟩:=this
  have e2:=Od b o1 e1 V7
  have z':h2.get? b=some o:=z
  rw[e2]at z'
  cases z'
  exact PySem.W.hideAll_get _ e1 V7
theorem F4{pins:List (Addr×Obj)}{σ:St}{H1:Hp}{s1 s':Shared}{e:Value}(I:Inv (lP P w K mg base N qual scope f cd A outer s H E) pins σ H1 s1)
 (hc:cV P w (lP P w K mg base N qual scope f cd A outer s H E).stack H1 s1 E e s'):(lP P w K mg base N qual scope f cd A outer s H E).xe e s':=by
 obtain⟨a,C,H2,rfl,F,q⟩:=hc
 obtain⟨B,a0,x,kB⟩:=F.fly
 have lf:(lP P w K mg base N qual scope f cd A outer s H E).env.frame=some s.heap.objs.size:=rfl
 have st:∀b,b∈frs (lP P w K mg base N qual scope f cd A outer s H E).stack↔b=s.heap.objs.size\/b∈frs outer:=fun b=>qk lf
 refine wpAny_leaves_onW I.ok.frames lf x fun h2 x1 x4=>?_
 have fm:∀b,b∈frs (lP P w K mg base N qual scope f cd A outer s H E).stack->∃o,s'.heap.get? b=some o/\∀vs,o.data≠.fields vs:=fun b hb=>(x.2.2.1.mem hb).2
 have Jt:∀b u,H2 b=some u->b∉frs (lP P w K mg base N qual scope f cd A outer s H E).stack:=fun b u z m=>by
  have e1:=I.lV b m
  obtain⟨o,ho,_⟩:=I.stack.mem m|>.2
  rw[F.un.free b o ho e1 (by simp)]at z
  cases z
 have u1:=FZ F.un (fun b o z nb hor=>x1.1 b o (kB b o z nb hor)) fm x4
 refine⟨a,C,H2,rfl,⟨F.os.trans I.os,F.bare,wY I u1,F.hok.tracked fun b u ob z zz=>x1.1 b ob (kB b ob zz (Jt b u z) (.inr ⟨u,z⟩)),F.new,F3 I F.old,B,a0,x1,fun b o z nb hor=>?_⟩,q⟩
 have V7:b∉frs (lP P w K mg base N qual scope f cd A outer s H E).stack:=fun m=>by
  rcases hor with⟨o',e⟩|⟨u,e⟩
  ·rcases(st b).mp m with m|m
   ·exact absurd (Heap.lt_size e) (by rw[m];exact Nat.lt_irrefl _)
   ·exact nb m
  ·exact Jt b u e m
 have TL:(∃o',s1.heap.get? b=some o')\/∃u,H2 b=some u:=by
  rcases hor with⟨o',e⟩|z
  ·exact .inl (Un.there (show Un (frs outer) [] H H1 s.heap s1.heap from I.base) b o' e (by simp))
  ·exact .inr z
 have:∃o1,s'.heap.get? b=some o1:=by
  rcases TL with⟨o',e⟩|⟨u,e⟩
  ·exact F.un.there b o' e (by simp)
  ·exact(F.hok b u e).thing
 obtain⟨o1,e1⟩:=this
 have e3:=kB b o1 e1 V7 TL
 have e2:=x1.1 b o1 e3
 have z':h2.get? b=some o:=z
 rw[e2]at z'
 cases z'
 exact e3
theorem MD:Passes (cV P w) (lP P w K mg base N qual scope f cd A outer s H E) E:=fun _ _ _ _ _ _ I h=>F4 I h
end
abbrev Y8:List Value:=[.type "ValueError",.type "Exception",.type "BaseException",.type "object"]
structure TM(K:PySem.W.Frag)(C:Addr):Prop where
 exc:PySem.W.excIn K C Y8 "ValueError.__new__"=true
 ga:PySem.W.findIn K (.ref C) "__getattribute__"=some (some (.builtin "BaseException.__getattribute__"))
 gt:PySem.W.findIn K (.ref C) "__getattr__"=some none
 cl:PySem.W.findIn K (.ref C) "__class__"=some (some (.builtin "object.__class__"))
 ob:PySem.W.mroIn K C (.type "object")=some true
 bs:PySem.W.mroIn K C (.type "BaseException")=some true
theorem JR{K:PySem.W.Frag}{h:Heap}{C:Addr}{bmB:List Value}{newId:String}(X:K.In h)(q:PySem.W.excIn K C bmB newId=true):
 ∃bm N nm qn bs hdct sn sub ab col dd k0 k1 k2 k3 k5 mN,h.get? C=some (excClassObj nm qn C N bs bm hdct sn sub ab col dd k0 k1 k2 k3 k5 newId)/\h.Ns N mN/\mN "__init__"=none/\OwnTail h bmB bm:=by
 unfold PySem.W.excIn at q
 cases hl:K.lookup C with
 |none=>rw[hl]at q;simp at q
 |some o=>
  have ho:=X _ _ hl
  obtain⟨oc,dd,od,sl⟩:=o
  rw[hl]at q
  split at q
  ·rename_i dd' cd YV he
   cases he
   split at q
   ·rename_i C' bm k0 k1 k2 k3 n k5 hm hs
    simp only[Bool.and_eq_true,beq_iff_eq,Bool.not_eq_true']at q
    obtain⟨⟨⟨⟨⟨q1,q2⟩,q3⟩,q4⟩,q5⟩,q6⟩:=q
    subst q1 q2
    obtain⟨nm,bs,mro,ns,qn,hd,sn,sub,ab,col,del⟩:=cd
    dsimp only at hm q3 q5 q6
    subst hm q3
    have es:sl= #[k0,k1,k2,k3,some (.builtin n),k5]:=by
     cases sl
     dsimp only at hs
     rw[hs]
    subst es
    exact⟨bm,ns,nm,qn,bs,hd,sn,sub,ab,col,dd,k0,k1,k2,k3,k5,_,ho,Heap.Ns.of_isNs (PySem.W.isNs_of_in X q5),PySem.W.nsMap_none_of_in X q5 q6,PySem.W.tail_of_in X q4⟩
   ·cases q
  ·cases q
noncomputable def Ad(X:Cx)(R:Addr->Hp->Prop):Prop:=∀(pins:List (Addr×Obj)) (σ:St) (H:Hp) (s:Shared) (h':Heap) (a C:Addr) (args:List Value),Inv X pins σ H s->Heap.MadeExcOf s.heap h' a (.ref C) args->R C H->X.xe (.ref a) {s with heap:=h'}
theorem BC{P:Program}{w:World}{K:PySem.W.Frag}{mg:Str->Option Value}{base:Heap}{N:List Str}{qual:Str}{scope:Scope}{f:Addr}{cd:Value}{A:Around}{outer:List Env}{s:Shared}{H:Hp}{E:XK}:
 Ad (lP P w K mg base N qual scope f cd A outer s H E) (fun C H'=>E (.ref C) none H'):=fun _ _ _ _ _ _ _ _ I hx q=>Ac I hx q
noncomputable def Oe(R:Addr->Hp->Prop)(C:Addr)(t:TA):TS:=fun _ σ H=>t σ H fun vs H1=>vs.length<=sizeLine/\R C H1
section
variable{X:Cx}{x:Str}{C:Addr}{e:Expr}{t:TA}{np cpos pos:Pos}{R:Addr->Hp->Prop}
theorem F5(hR:Ad X R)(hc:X.calm=true)(hg:Gl X x)(hm:X.mg x=some (.ref C))(q:TM X.K C)(ha:PA X [e] t)(hs:starEach [e] X.env=[(false,eval e X.env)]:=by rfl)
 (hd:(x==("__debug__":Str))=false:=by decide):PS X (.Raise (some (.Call (.Name x np) [e] [] cpos)) none pos) (Oe R C t):=by
 intro pins s σ H D I h
 obtain⟨bm,N,nm,qn,bs,hdct,sn,sub,ab,col,dd,k0,k1,k2,k3,k5,mN,hC,hN,hni,T⟩:=JR I.ok.mod.RS q.exc
 refine wpAny_Raise_call_subT (C:=C) (bm:=bm) (mN:=mN) (nm:=nm) (q:=qn) (N:=N) (bs:=bs) (hdct:=hdct) (sn:=sn) (sub:=sub) (ab:=ab) (col:=col) (dd:=dd) (k0:=k0) (k1:=k1) (k2:=k2) (k3:=k3) (k5:=k5) (F:=PySem.F.excBase_ValueError) (T.hasType PySem.F.excBase_ValueError.hasBase) (I.ok.hd hc) (by rw[hs];rfl) hni (pM I hg hm ⟨rfl,?_⟩ hd)
 have h2:=ha cpos pins s σ H _ I h
 rw[hs]at h2⊢
 refine Calls.evalArgs_plain (bK h2 fun us s2 z=>?_)
 obtain⟨vs,H1,I1,r,hl,q1⟩:=z
 refine⟨rfl,by rw[←r.length];exact hl,I1.bk _ _ hC,hN.keeps I1.bk,T.keeps I1.bk,fun h' a hx=>hR pins σ H1 s2 h' a C _ I1 hx q1⟩
end
theorem PS.r9{X:Cx}{st:Stmt}{t:TS}(h:PS X.r9 st t):PS X st t:=fun pins s σ H D I hw=>
 wpAny_mono (h pins s σ H D (I.sf _) hw) (fun _ _ q=>q.jo) fun _ _ z=>False.elim z
theorem FT.WW{P:Program}{w:World}{K:PySem.W.Frag}{mg:Str->Option Value}{base:Heap}{x qual:Str}{st:Stmt}{f:Addr}{fd:FuncData}{N ps:List Str}{k:Nat}{sp:Sp}(F:FT K x qual st f fd)(S:au N ps (aa st))
 (len:∀vs H Q E,sp vs H Q E->vs.length=ps.length)
 (hb:∀(cdv:Value) (A:Around) (outer:List Env) (s:Shared) (H:Hp) (vs:List V) (Q:VK) (E:XK),dN k (A.deeper (envOfC qual (aa st) s.heap.objs.size f cdv))->sp vs H Q E->
   ∃t,zy (lP P w K mg base N qual (aa st) f cdv A outer s H E) (ah st) t/\t {nx:=fun _ H'=>Q .aU H',rt:=Q} (start N vs) H):aL P w K mg base (cV P w) (k+1) f fd ps sp:=by
 obtain⟨oc,od,kV,doc,pm,an,cdv,ct,osl,e,lk,hcd⟩:=F.ex
 subst e
 exact Tq lk hcd S len fun A outer s H vs Q E hr h=>hb cdv A outer s H vs Q E hr h
theorem aL.TN{P:Program}{w:World}{K:PySem.W.Frag}{mg:Str->Option Value}{base:Heap}{k:Nat}{f:Addr}{fd:FuncData}{ps:List Str}{sp:Sp}(F:aL P w K mg base (cV P w) k f fd ps sp):
 aL P w K mg base TJ k f fd ps (fun vs H Q _=>sp vs H Q E0):=
 ⟨fun vs H Q E h=>F.len vs H Q E0 h,fun A outer s H args us vs Q E hr e0 hb r h=>codeAny_mono (F.run A outer s H args us vs Q E0 hr e0 hb r h) fun r s' z=>by
   cases r with
   |error e=>
    obtain⟨_,_,_,_,_,q⟩:=z
    exact q.elim
   |ok fl=>cases fl<;>exact z⟩
noncomputable def FX(X:Cx)(pins:List (Addr×Obj))(σ:St)(E:XK)(e:Value)(s':Shared):Prop:=∃H1 s1,Inv X pins σ H1 s1/\cV X.prog X.w X.stack H1 s1 E e s'
section
variable{X:Cx}{k:Nat}{f:Addr}{fd:FuncData}{ps:List Str}{sp:Sp}{x:Str}{p pos:Pos}{e:Expr}{es:List Expr}{t:TA}
end
noncomputable def TQ(a C:Addr)(h:Heap):Prop:=∃ob vs,h.get? a=some ob/\ob.cls=.ref C/\ob.data=.fields vs
def WX(a C:Addr):HO:=.ext (TQ a C)
section
variable{X:Cx}{pins:List (Addr×Obj)}{σ:St}{H:Hp}{s:Shared}
end
section
variable{prog:Program}{w:World}{A:Around}{E:Value->Shared->Prop}{s:Shared}{K:PySem.W.Frag}{a C:Addr}
end
inductive TR:V->Value->Prop where
 |own (D:Addr):TR (.ref D) (.ref D)
 |ty (n:String):TR (.ty n) (.type n)
noncomputable def kX(cells:List (Str×Addr)):List (Str×NameKind)->List (Str×Addr)->List (Str×Addr)
 |[],acc=>acc
 |(n,k)::r,acc=>kX cells r (if k=.free then(n,(cells.lookup n).getD 0)::acc else acc)
theorem qm{env:Env}:∀(l:List (Str×NameKind)) (acc:List (Str×Addr)),(∀p∈l,p.2=.free->∃c,env.cells.lookup p.1=some c)->
 (forIn l acc fun(x:Str×NameKind) (cs:List (Str×Addr))=>if(x.2==NameKind.free)=true then(do let c←cellOf env x.1;pure (ForInStep.yield ((x.1,c)::cs)))else(pure (ForInStep.yield cs):Sem _))=pure (kX env.cells l acc)
 |[],acc,_=>rfl
 |(n,k)::r,acc,h=>by
  have ih:=fun acc=>qm (env:=env) r acc fun p hp=>h p (List.mem_cons_of_mem _ hp)
  rw[List.forIn_cons]
  by_cases hk:k=.free
  ·obtain⟨c,hc⟩:=h (n,k) List.mem_cons_self hk
   have hc':env.cells.lookup n=some c:=hc
   have e:cellOf env n=pure c:=by unfold cellOf;rw[hc']
   have e2:(k==NameKind.free)=true:=by simp[hk]
   simp only[e2,if_true,e,pure_bind,ih]
   simp only[kX,hk,if_true,hc',Option.getD_some]
  ·have e2:(k==NameKind.free)=false:=by simpa using hk
   simp only[e2,Bool.false_eq_true,if_false,pure_bind,ih]
   simp only[kX,hk,if_false]
theorem qo{scope:Scope}{env:Env}(h:∀p∈scope.names,p.2=.free->∃c,env.cells.lookup p.1=some c):closureFor scope env=pure (kX env.cells scope.names []):=by
 have:=qm (env:=env) scope.names [] h
 unfold closureFor
 simp only[bind_pure]
 exact this
theorem wZ{cells:List (Str×Addr)}:∀(l:List (Str×NameKind)) (acc:List (Str×Addr)),(∀p∈l,p.2=.free->∃c,cells.lookup p.1=some c)->(∀y c,acc.lookup y=some c->cells.lookup y=some c)->
 ∀y c,(kX cells l acc).lookup y=some c->cells.lookup y=some c
 |[],_,_,ha,y,c,h=>ha y c h
 |(n,k)::r,acc,hl,ha,y,c,h=>by
  refine wZ r _ (fun p hp=>hl p (List.mem_cons_of_mem _ hp)) (fun z d hz=>?_) y c h
  by_cases hk:k=.free
  ·rw[if_pos hk,List.lookup_cons]at hz
   obtain⟨c',hc'⟩:=hl (n,k) List.mem_cons_self hk
   have hc2:cells.lookup n=some c':=hc'
   split at hz
   ·rename_i e
    have e':z=n:=by simpa using e
    subst e'
    rw[hc2]at hz⊢
    exact hz
   ·exact ha z d hz
  ·rw[if_neg hk]at hz
   exact ha z d hz
theorem qp{cells:List (Str×Addr)}:∀(l:List (Str×NameKind)) (acc:List (Str×Addr)) (y:Str),((acc.lookup y).isSome=true\/(y,NameKind.free)∈l)->((kX cells l acc).lookup y).isSome=true
 |[],_,_,h=>h.elim id fun z=>nomatch z
 |(n,k)::r,acc,y,h=>by
  refine qp r _ y ?_
  by_cases hk:k=.free
  ·rw[if_pos hk,List.lookup_cons]
   by_cases e:(y==n)=true
   ·left;rw[e];rfl
   ·rw[Bool.not_eq_true]at e
    rw[e]
    rcases h with h|h
    ·exact .inl h
    ·rcases List.mem_cons.mp h with h|h
     ·have:y=n:=congrArg Prod.fst h
      subst this
      simp at e
     ·exact .inr h
  ·rw[if_neg hk]
   rcases h with h|h
   ·exact .inl h
   ·rcases List.mem_cons.mp h with h|h
    ·have:NameKind.free=k:=congrArg Prod.snd h
     exact absurd this.symm hk
    ·exact .inr h
theorem tR{cells:List (Str×Addr)}:∀(l:List (Str×NameKind)) (acc:List (Str×Addr)) (y:Str) (c:Addr),(kX cells l acc).lookup y=some c->(∃c',acc.lookup y=some c')\/(y,NameKind.free)∈l
 |[],_,y,c,h=>.inl ⟨c,h⟩
 |(n,k)::r,acc,y,c,h=>by
  rcases tR r _ y c h with⟨c',h'⟩|h'
  ·by_cases hk:k=.free
   ·rw[if_pos hk,List.lookup_cons]at h'
    split at h'
    ·rename_i e
     have e':y=n:=by simpa using e
     subst e'
     subst hk
     exact .inr List.mem_cons_self
    ·exact .inl ⟨c',h'⟩
   ·rw[if_neg hk]at h'
    exact .inl ⟨c',h'⟩
  ·exact .inr (List.mem_cons_of_mem _ h')
theorem jr{env:Env}(hk:env.scope.kind=.function):∀(l:List (Str×NameKind)) (y:Str),
 (l.map fun(n,k)=>if(k==NameKind.free&&env.scope.kind==.function&&env.kindOf n==some .cell)then(n,NameKind.cell)else(n,k)).lookup y=(l.lookup y).map fun k=>if(k==NameKind.free&&env.kindOf y==some .cell)=true then NameKind.cell else k
 |[],_=>rfl
 |(n,k)::r,y=>by
  have ih:=jr hk r y
  have hk':(env.scope.kind==ScopeKind.function)=true:=by rw[hk];rfl
  rw[List.map_cons,List.lookup_cons]
  by_cases e:(y==n)=true
  ·have e':y=n:=by simpa using e
   subst e'
   by_cases hc:(k==NameKind.free&&env.kindOf y==some .cell)=true
   ·have hc2:(k==NameKind.free&&env.scope.kind==.function&&env.kindOf y==some .cell)=true:=by
     rw[hk',Bool.and_true];exact hc
    simp only[hc2,if_true,List.lookup_cons,beq_self_eq_true,Option.map_some,hc]
   ·have hc2:¬(k==NameKind.free&&env.scope.kind==.function&&env.kindOf y==some .cell)=true:=by
     rw[hk',Bool.and_true];exact hc
    rw[if_neg hc2]
    simp only[List.lookup_cons,beq_self_eq_true,Option.map_some]
    rw[if_neg hc]
  ·rw[Bool.not_eq_true]at e
   by_cases hc2:(k==NameKind.free&&env.scope.kind==.function&&env.kindOf n==some .cell)=true
   ·simp only[hc2,if_true,e,List.lookup_cons]
    exact ih
   ·rw[Bool.not_eq_true]at hc2
    simp only[hc2,Bool.false_eq_true,if_false,e,List.lookup_cons]
    exact ih
noncomputable def fX(sc RY:Scope)(N N' xs:List Str):Bool:=
 sc.kind==.function&&xs.all (fun x=>sc.names.lookup x==some .local&&!N'.contains x)&&
 sc.names.all (fun p=>p.2 !=.cell&&(p.2 !=.local||sc.names.lookup p.1==some .local)&&(p.2 !=.free||(RY.names.lookup p.1==some .cell&&sc.names.lookup p.1==some .free)))&&
 N'.all (fun y=>sc.names.lookup y !=some .local)&&(N.length==N'.length&&(N.zip N').all (fun p=>p.1==p.2||sc.names.lookup p.2==none))
structure gx(sc RY:Scope)(N N' xs:List Str):Prop where
 kind:sc.kind=.function
 own:∀x∈xs,sc.names.lookup x=some .local/\x∉N'
 uJ:∀p∈sc.names,p.2≠.cell
 loc:∀p∈sc.names,p.2=.local->sc.names.lookup p.1=some .local
 free:∀p∈sc.names,p.2=.free->RY.names.lookup p.1=some .cell/\sc.names.lookup p.1=some .free
 out:∀y∈N',sc.names.lookup y≠some .local
 len:N.length=N'.length
 pair:∀(i:Nat) (y:Str),N'[i]?=some y->sc.names.lookup y≠none->N[i]?=some y
theorem gx.of{sc RY:Scope}{N N' xs:List Str}(h:fX sc RY N N' xs=true):gx sc RY N N' xs:=by
 unfold fX at h
 simp only[Bool.and_eq_true,List.all_eq_true,Bool.or_eq_true,bne_iff_ne,beq_iff_eq,Bool.not_eq_true',ne_eq]at h
 obtain⟨⟨⟨⟨h1,h2⟩,h3⟩,h4⟩,h5,h6⟩:=h
 refine⟨h1,fun x hx=>⟨(h2 x hx).1,fun z=>?_⟩,fun p hp=>(h3 p hp).1.1,fun p hp e=>?_,fun p hp e=>?_,h4,h5,fun i y hy hn=>?_⟩
 ·have:=(h2 x hx).2
  rw[List.contains_eq_mem]at this
  simp[z]at this
 ·rcases(h3 p hp).1.2 with z|z
  ·exact absurd e z
  ·exact z
 ·rcases(h3 p hp).2 with z|z
  ·exact absurd e z
  ·exact z
 ·have hi:i<N'.length:=(List.getElem?_eq_some_iff.mp hy).1
  have hN:N[i]?=some (N[i]'(by lia)):=List.getElem?_eq_getElem (by lia)
  have hm:(N[i]'(by lia),y)∈N.zip N':=by
   refine List.mem_of_getElem? (i:=i) ?_
   rw[List.getElem?_zip_eq_some]
   exact⟨hN,hy⟩
  rcases h6 _ hm with z|z
  ·rw[hN]
   exact congrArg some z
  ·exact absurd z hn
noncomputable def aH(X:Cx)(scope:Scope)(C:Addr)(xs N':List Str)(s:Shared)(H:Hp)(fp:List Addr):Cx:=
 {X with N:=xs++N',s₀:=s,H₀:=H,env:=compEnvC scope (kX X.env.cells scope.names []) C X.env,outer:=X.stack,stack:=X.stack,ex:=fp,fn:=fun y=>xs.contains y,pn:=[],xe:=fun _ _=>False}
section
variable{X:Cx}{pins:List (Addr×Obj)}{σ:St}{H:Hp}{s:Shared}{scope:Scope}{xs N':List Str}{fp:List Addr}
theorem kY(I:Inv X pins σ H s)(O:gx scope X.env.scope X.N N' xs):∀p∈scope.names,p.2=.free->∃c,X.env.cells.lookup p.1=some c:=fun p hp e=>
 I.ok.has p.1 (.inl (O.free p hp e).1)
theorem iu(I:Inv X pins σ H s)(O:gx scope X.env.scope X.N N' xs)(y:Str):(relabel scope X.env).names.lookup y=(scope.names.lookup y).map fun k=>if k=.free then NameKind.cell else k:=by
 unfold relabel
 show(List.map _ scope.names).lookup y=_
 rw[jr I.ok.kind]
 cases e:scope.names.lookup y with
 |none=>rfl
 |some k=>
  rw[Option.map_some,Option.map_some]
  by_cases hk:k=.free
  ·subst hk
   have:=(O.free (y,.free) (PySem.mem_of_lookup e) rfl).1
   have h2:X.env.kindOf y=some .cell:=this
   rw[h2]
   rfl
  ·rw[if_neg hk,if_neg (by simp[hk])]
theorem w4{h1:Heap}{tk:Nat}(I:Inv X pins σ H s)(O:gx scope X.env.scope X.N N' xs)(hf:∀b∈fp,lX X pins H b)(hlt:∀b∈fp,b<s.heap.objs.size){m0:Str->Option Value}
 (hn:h1.Ns s.heap.objs.size m0) (hk:∀b o,s.heap.get? b=some o->h1.get? b=some o):
 Inv (aH X scope s.heap.objs.size xs N' s H fp) [] (xs.map (fun _=>none)++σ) H {s with heap:=h1,toks:=tk}:=by
 have hcl:=wZ (cells:=X.env.cells) scope.names [] (kY I O) (fun y c z=>nomatch z)
 refine⟨⟨I.ok.mod,?_,I.ok.glob,I.ok.blt,Nat.le_refl _,fun x y c h1 h2=>I.ok.inj x y c (hcl x c h1) (hcl y c h2),fun y hy=>?_,fun y c h1 h2=>?_,I.ok.hd,I.ok.frames,.inl rfl,fun b hb=>⟨Nat.ne_of_lt (hlt b hb),fun x c e=>(hf b hb).2.2.2.2.1 x c (hcl x c e)⟩,
  I.bs,Nat.le_trans I.ok.Js I.sz,fun b o e hb=>?_,fun b hb z=>?_,I.stack,I.lV⟩,rfl,I.bare,Un.kept hk,⟨m0,hn,fun i y v e1 e2 e3=>?_⟩,fun y c e=>?_,I.hok.fresh (Nat.le_refl _),fun y c e=>I.ko y c (hcl y c e),fun p hp=>absurd (show p∈([]:List (Addr×Obj))from hp) (by simp),I.hok.kept hk,?_⟩
 ·show scope.kind=_
  exact O.kind
 ·have hy':(relabel scope X.env).names.lookup y=some .cell\/(relabel scope X.env).names.lookup y=some .free:=hy
  rw[iu I O]at hy'
  have hfree:scope.names.lookup y=some .free:=by
   cases e:scope.names.lookup y with
   |none=>rw[e]at hy';rcases hy' with z|z<;>cases z
   |some k=>
    rw[e]at hy'
    by_cases hk:k=.free
    ·rw[hk]
    ·rw[Option.map_some,if_neg hk]at hy'
     rcases hy' with z|z
     ·have:k=.cell:=Option.some.inj z
      exact absurd this (O.uJ (y,k) (PySem.mem_of_lookup e))
     ·exact absurd (Option.some.inj z) hk
  exact Option.isSome_iff_exists.mp (qp scope.names [] y (.inr (PySem.mem_of_lookup hfree)))
 ·have h2':(kX X.env.cells scope.names []).lookup y=some c:=h2
  have hy:y∈xs:=by
   have h1':xs.contains y=true:=h1
   simpa using h1'
  rcases tR scope.names [] y c h2' with⟨_,z⟩|z
  ·cases z
  ·have q1:=(O.free (y,.free) z rfl).2
   rw[(O.own y hy).1]at q1
   cases q1
 ·have e':X.base.get? b=some o:=e
  rcases(hf b hb).2.2.2.1 with z|z
  ·exact I.ok.Fd b o e' z
  ·exact absurd (Nat.lt_of_lt_of_le (Heap.lt_size e') (Nat.le_trans I.ok.Js z)) (Nat.lt_irrefl _)
 ·rcases List.mem_cons.mp (I.zH b z)with q|q
  ·exact(hf b hb).2.1 q
  ·exact(hf b hb).2.2.1 q
 ·have JS:(xs++N')[i]?=some y:=e1
  by_cases hi:i<xs.length
  ·rw[List.getElem?_append_left (by simpa using hi),List.getElem?_map]at e2
   cases q:xs[i]? with
   |none=>rw[q]at e2;cases e2
   |some z=>rw[q]at e2;cases e2
  ·rw[List.getElem?_append_right (by simpa using hi)]at e2
   rw[List.getElem?_append_right (by lia)]at JS
   rw[List.length_map]at e2
   have hyN:y∈N':=List.mem_of_getElem? JS
   have Of:RT (relabel scope X.env) y:=e3
   unfold RT at Of
   rw[iu I O]at Of
   have hfree:scope.names.lookup y=some .free:=by
    cases e:scope.names.lookup y with
    |none=>rw[e]at Of;rcases Of with z|z|z<;>cases z
    |some k=>
     rw[e]at Of
     by_cases hk:k=.free
     ·rw[hk]
     ·rw[Option.map_some,if_neg hk]at Of
      rcases Of with z|z|z
      ·have:k=.local:=Option.some.inj z
       subst this
       exact absurd e (O.out y hyN)
      ·have:k=.cell:=Option.some.inj z
       exact absurd this (O.uJ (y,k) (PySem.mem_of_lookup e))
      ·exact absurd (Option.some.inj z) hk
   have Y9:=(O.free (y,.free) (PySem.mem_of_lookup hfree) rfl).1
   obtain⟨m,hn0,hl⟩:=I.loc
   have e1N:=O.pair _ y JS (by rw[hfree];simp)
   obtain⟨u,r,l⟩:=hl _ y v e1N e2 (.inr (.inl Y9))
   refine⟨u,r,?_⟩
   rcases l with⟨l1,_⟩|⟨_,c,hc,o,ho,hd⟩
   ·have:X.env.scope.names.lookup y=some .local:=l1
    rw[Y9]at this
    cases this
   ·refine .inr ⟨.inl ?_,c,?_,o,hk c o ho,hd⟩
    ·show(relabel scope X.env).names.lookup y=_
     rw[iu I O,hfree]
     rfl
    ·obtain⟨c',hc'⟩:=Option.isSome_iff_exists.mp (qp (cells:=X.env.cells) scope.names [] y (.inr (PySem.mem_of_lookup hfree)))
     have q:=hcl y c' hc'
     rw[hc]at q
     show(kX X.env.cells scope.names []).lookup y=some c
     rw[hc',←Option.some.inj q]
 ·obtain⟨v,o,ho,hd⟩:=I.cell y c (hcl y c e)
  exact⟨v,o,hk c o ho,hd⟩
 ·show(xs.map (fun _=>none)++σ).length=(xs++N').length
  rw[List.length_append,List.length_append,List.length_map,I.len,O.len]
end
noncomputable def PF(X:Cx)(ifs:List Expr)(t:TT):Prop:=
 ∀(pins:List (Addr×Obj)) (s:Shared) (σ:St) (H:Hp) (Q:Bool->Hp->Prop),Inv X pins σ H s->t σ H Q->
  wpAny (model X.prog X.w) X.A (forIn ifs true fun c r=>if r=true then do let ok←isTrue c X.env (eval c X.env);pure (ForInStep.yield ok)else pure (ForInStep.yield r)) (TP X pins σ Q) X.xe s
def WY:TT:=fun _ H Q=>Q true H
theorem Og{X:Cx}:PF X [] WY:=fun _ _ _ H _ I h=>wpAny_tests_nil ⟨H,I,h⟩
theorem Oh{X:Cx}{c:Expr}{t:TT}(h:PT X c t):PF X [c] t:=fun pins s σ H Q I q=>wpAny_tests_one (h pins s σ H Q I q)
noncomputable def F6(k:Nat)(wi:TI)(g:TG)(tc:TT)(te:TE):TE:=fun σ H Q=>wi σ H fun J H1=>∀D,H1 D=none->∃W:Nat->Nat->Hp->Prop,(∃m,W 0 m (upd H1 D (.lst [])))/\∀i m H2,W i m H2->
 (J.stop i H2/\Q (.ref D) H2)\/(J.go i H2/\∀x H3,J.RW i H2 x H3->∀v0:List (Option V),v0.length=k->g x (v0++σ) H3 fun σ2 H4=>∃v1:List (Option V),v1.length=k/\σ2=v1++σ/\
   tc σ2 H4 fun b H5=>if b=true then te σ2 H5 fun y H6=>∃ys,H6 D=some (.lst ys)/\ys.length<sizeLine/\∃m',m'<m/\W (i+1) m' (upd H6 D (.lst (ys++[y])))else∃m',m'<m/\W (i+1) m' H5)
theorem l6{prog:Program}{w:World}{A:Around}{R:Result->Shared->Prop}{s:Shared}{elt target iter:Expr}{ifs:List Expr}{scope:Scope}{pos:Pos}{it acc:Value}{env:Env}(I:Nat->Shared->Prop)
 (turn:∀n s,I n s->wpAny (model prog w) A (pyNext it) (fun r s₁=>match r with
   |none=>R (.ok .next) s₁
   |some v=>wpAny (model prog w) A (letOwnedTupleGo target it v) (fun _ s₁'=>wpAny (model prog w) A (assign target env v) (fun _ s₂=>
     wpAny (model prog w) A (forIn ifs true fun c r=>if r=true then do let ok←isTrue c env (eval c env);pure (ForInStep.yield ok)else pure (ForInStep.yield r)) (fun ok s₃=>
      if ok=true then wpAny (model prog w) A (eval elt env) (fun x s₄=>
       wpAny (model prog w) A (call (.builtin "list.append") [acc,x]) (fun _ s₅=>∃m,m<n/\I m s₅) (fun _ _=>False) s₄) (fun _ _=>False) s₃
      else∃m,m<n/\I m s₃) (fun _ _=>False) s₂) (fun _ _=>False) s₁') (fun _ _=>False) s₁) (fun _ _=>False) s)
 (n:Nat) (h:I n s):
 codeAny (model prog w) A (.compLoop (.ListComp elt [⟨target,iter,ifs,0⟩] scope pos) 0 it acc env) R s:=by
 refine codeAny_loop rfl I (fun n s hI=>?_) n h
 show wpAny _ A ((compTurn (.ListComp elt [⟨target,iter,ifs,0⟩] scope pos) 0 it acc env).onRaise (fun x=>do noteFrame x env;theTreesLotGoes x)) _ _ s
 refine wpAny_noted ?_
 rw[compTurn_list]
 refine wpAny_bind (wpAny_standAt (wpAny_bind (wpAny_mono (turn n s hI) (fun r s₁ h₁=>?_) fun _ _ h'=>h'.elim)))
 cases r with
 |none=>exact wpAny_pure h₁
 |some v=>
  refine wpAny_bind (wpAny_mono h₁ (fun _ s₁' h₁'=>?_) fun _ _ h'=>h'.elim)
  refine wpAny_bind (wpAny_mono h₁' (fun _ s₂ h₂=>wpAny_bind (wpAny_mono h₂ (fun ok s₃ h₃=>?_) fun _ _ h'=>h'.elim)) fun _ _ h'=>h'.elim)
  cases ok with
  |false=>exact wpAny_pure ⟨rfl,h₃⟩
  |true=>
   exact wpAny_bind (wpAny_bind (wpAny_mono h₃ (fun x s₄ h₄=>wpAny_bind (wpAny_mono h₄ (fun _ s₅ h₅=>wpAny_pure (wpAny_pure ⟨rfl,h₅⟩)) fun _ _ h'=>h'.elim)) fun _ _ h'=>h'.elim))
section
variable{X:Cx}
theorem Ae{tg iter elt:Expr}{ifs:List Expr}{scope:Scope}{xs N':List Str}{pos:Pos}{g:TG}{tc:TT}{te:TE}(hc:X.calm=true)(O:gx scope X.env.scope X.N N' xs)
 (hg:∀C s0 H0 fp,PG (aH X scope C xs N' s0 H0 fp) tg g) (hf:∀C s0 H0 fp,PF (aH X scope C xs N' s0 H0 fp) ifs tc) (he:∀C s0 H0 fp,PE (aH X scope C xs N' s0 H0 fp) elt te)
 {pins:List (Addr×Obj)} {σ:St} {H1:Hp} {s2:Shared} {it:Addr} {fp:List Addr} {tn:Nat->Heap->Prop} {J:It} {Q:VK} {E:Value->Shared->Prop} {RR:Value->Addr->Result->Shared->Prop}
 (I2:Inv X pins σ H1 s2) (T:Turn X.prog X.w X.K tg J fp it tn) (st2:tn 0 s2.heap) (f2:∀b∈fp,lX X pins H1 b)
 (h:∀D,H1 D=none->∃W:Nat->Nat->Hp->Prop,(∃m,W 0 m (upd H1 D (.lst [])))/\∀i m H2,W i m H2->
   (J.stop i H2/\Q (.ref D) H2)\/(J.go i H2/\∀x H3,J.RW i H2 x H3->∀v0:List (Option V),v0.length=xs.length->g x (v0++σ) H3 fun σ2 H4=>∃v1:List (Option V),v1.length=xs.length/\σ2=v1++σ/\
     tc σ2 H4 fun b H5=>if b=true then te σ2 H5 fun y H6=>∃ys,H6 D=some (.lst ys)/\ys.length<sizeLine/\∃m',m'<m/\W (i+1) m' (upd H6 D (.lst (ys++[y])))else∃m',m'<m/\W (i+1) m' H5))
 (hRR:∀D C s' H',(∃m,s'.heap.Ns C m)->(∀h',Heap.SameBut C s'.heap h'->Inv X pins σ H' {s' with heap:=h'})->s2.heap.objs.size<=D->s2.heap.objs.size<=C->Q (.ref D) H'->RR (.ref D) C (.ok .next) s'):
 wpAny (model X.prog X.w) X.A (newList []) (fun acc s₃=>wpAny (model X.prog X.w) X.A (newFunctionEnv scope X.env.globals (kX X.env.cells scope.names []) [] X.env.qual none .none (some X.env)) (fun cenv s₄=>
  codeAny (model X.prog X.w) X.A (.compStart (.ListComp elt [⟨tg,iter,ifs,0⟩] scope pos) 0 (.ref it) acc {cenv with scope:=relabel scope X.env}) (RR acc cenv.locals) s₄) E s₃) E s2:=by
 refine wpAny_newObj_type (wpAny_newFunctionEnv O.uJ (by intro y hy;simp at hy) (fun h₁ qu qv=>?_) O.kind)
 dsimp only at qu qv⊢
 have hD:H1 s2.heap.objs.size=none:=I2.hok.fresh (Nat.le_refl _)
 obtain⟨W,⟨m0,w0⟩,turn⟩:=h s2.heap.objs.size hD
 have I3:Inv X pins σ (upd H1 s2.heap.objs.size (.lst [])) {s2 with heap:=s2.heap.push {cls:=.type "list",dict:=none,data:=.seq ([]:List Value).toArray}}:=
  I2.laid (t':=s2.toks) (fun b u e=>Heap.get?_push_of_some _ e) (Nat.le_refl _) ⟨Nat.zero_le _,[],0,.nil,Heap.get?_push_size _ rfl⟩
 have Oi:∀b∈fp,b<s2.heap.objs.size:=fun b hb=>by
  obtain⟨o,e,_⟩:=T.obj _ _ st2 b hb
  exact Heap.lt_size e
 have f3:∀b∈fp,lX X pins (upd H1 s2.heap.objs.size (.lst [])) b:=fun b hb=>by
  obtain⟨q0,q⟩:=f2 b hb
  exact⟨by rw[ao (Nat.ne_of_lt (Oi b hb))];exact q0,q⟩
 generalize JT:({s2 with heap:=s2.heap.push {cls:=.type "list",dict:=none,data:=.seq ([]:List Value).toArray}}:Shared)=s3 at I3
 have iy:s3.heap=s2.heap.push {cls:=.type "list",dict:=none,data:=.seq ([]:List Value).toArray}:=by rw[←JT]
 have hsz:s3.heap.objs.size=s2.heap.objs.size+1:=by rw[iy,Heap.size_push]
 have old:∀b o,s3.heap.get? b=some o->h₁.get? b=some o:=fun b o e=>
  qv.extBut b o (by rw[←iy];exact Nat.ne_of_lt (Heap.lt_size e)) (Heap.get?_push_of_some _ (by rw[←iy];exact e))
 have J4:Inv (aH X scope s3.heap.objs.size xs N' s3 (upd H1 s2.heap.objs.size (.lst [])) fp) [] (xs.map (fun _=>none)++σ) (upd H1 s2.heap.objs.size (.lst [])) {s3 with heap:=h₁,toks:=s2.toks+([]:List (Str×Value)).length}:=
  w4 I3 O f3 (fun b hb=>by rw[hsz];exact Nat.lt_succ_of_lt (Oi b hb)) (by rw[iy];exact qu) old
 have WZ:({s3 with heap:=h₁,toks:=s2.toks+([]:List (Str×Value)).length}:Shared)={s2 with heap:=h₁,toks:=s2.toks+([]:List (Str×Value)).length}:=by rw[←JT]
 rw[WZ]at J4
 have TU:tn 0 h₁:=T.keep _ _ _ st2 fun b hb o e=>old b o (by rw[iy];exact Heap.get?_push_of_some _ e)
 have hC:(s2.heap.push {cls:=.type "list",dict:=none,data:=.seq ([]:List Value).toArray}).objs.size=s3.heap.objs.size:=by rw[iy]
 have Oj:∀{H':Hp},(∀b∈fp,H' b=none)->∀b∈fp,lX (aH X scope s3.heap.objs.size xs N' s3 (upd H1 s2.heap.objs.size (.lst [])) fp) [] H' b:=fun hn b hb=>
  ⟨hn b hb,Nat.ne_of_lt (by rw[hsz];exact Nat.lt_succ_of_lt (Oi b hb)),J4.ok.Dp b hb,.inl hb,fun x c e=>((J4.ok.V3 b hb).2 x c e),fun p hp=>absurd (show p∈([]:List (Addr×Obj))from hp) (by simp)⟩
 have loop:codeAny (model X.prog X.w) X.A (.compLoop (.ListComp elt [⟨tg,iter,ifs,0⟩] scope pos) 0 (.ref it) (.ref s2.heap.objs.size) (compEnvC scope (kX X.env.cells scope.names []) s3.heap.objs.size X.env))
  (RR (.ref s2.heap.objs.size) s3.heap.objs.size) {s2 with heap:=h₁,toks:=s2.toks+([]:List (Str×Value)).length}:=by
  refine l6 (fun n s'=>∃(i:Nat) (v0:List (Option V)) (H':Hp),v0.length=xs.length/\Inv (aH X scope s3.heap.objs.size xs N' s3 (upd H1 s2.heap.objs.size (.lst [])) fp) [] (v0++σ) H' s'/\tn i s'.heap/\(∀b∈fp,H' b=none)/\W i n H') ?_ m0
   ⟨0,xs.map (fun _=>none),_,List.length_map _,J4,TU,fun b hb=>(f3 b hb).1,w0⟩
  rintro n s5 ⟨i,v0,H5,hv0,I5,JA,NU,w5⟩
  rcases turn i n H5 w5 with⟨stop,qn⟩|⟨go,step⟩
  ·refine bK (T.done (aH X scope s3.heap.objs.size xs N' s3 (upd H1 s2.heap.objs.size (.lst [])) fp) rfl rfl rfl hc i [] s5 (v0++σ) H5 _ I5 (Oj NU) JA stop) ?_
   rintro r s6 ⟨hr,I6⟩
   subst hr
   obtain⟨m,hnm,_⟩:=I6.loc
   refine hRR _ _ s6 H5 ⟨m,hnm⟩ (fun h' DN=>?_) (Nat.le_refl _) (by rw[hsz];exact Nat.le_succ _) qn
   have Ol:∀b o,s3.heap.get? b=some o->b≠s3.heap.objs.size:=fun b o e=>Nat.ne_of_lt (Heap.lt_size e)
   have u:=I6.base
   have W0:=I3.Fe (s':={s6 with heap:=h'}) (H':=H5) (ch:=fp) I6.os ⟨fun b o e n hb hx=>DN.extBut b _ (Ol b o e) (u.keep b o e n hb hx),fun b o e n hb hx=>by
    obtain⟨sl,q⟩:=u.slot b o e n hb hx
    exact⟨sl,DN.extBut b _ (Ol b o e) q⟩,u.free,fun b o e hx=>by
    obtain⟨o',q⟩:=u.there b o e hx
    exact⟨o',DN.extBut b _ (Ol b o e) q⟩,u.tups,u.lU,u.nT⟩ (fun a o e=>?_) I6.bare (fun b hb=>?_)
   ·exact W0
   ·have TV:∀b u,H5 b=some u->b≠s3.heap.objs.size:=fun b u e z=>by
     subst z
     have:=I6.free
     have e2:H5 s3.heap.objs.size=none:=this
     rw[e2]at e
     cases e
    refine(I6.hok a o e).stay (fun b u hb q=>DN.extBut b u ?_ q) (fun _ q=>q) fun _ _ q=>q
    rcases hb with rfl|hb
    ·exact TV _ _ e
    ·exact TV _ _ hb
   ·obtain⟨q0,q1,q2,q3,q4,q5⟩:=f3 b hb
    exact⟨q3,q1,q4,q5⟩
  ·refine bK (T.item (aH X scope s3.heap.objs.size xs N' s3 (upd H1 s2.heap.objs.size (.lst [])) fp) rfl rfl rfl hc i [] s5 (v0++σ) H5 _ I5 (Oj NU) JA go) ?_
   rintro r s6 ⟨u,hr,h6⟩
   subst hr
   refine bK h6 ?_
   rintro _ s7 ⟨x,H7,I7,r7,y7,Om,W2⟩
   have W3:=I7.pinned (Oj W2) (T.obj _ _ Om)
   refine bK (hg _ _ _ _ _ s7 (v0++σ) H7 x u _ W3 r7 (step x H7 y7 v0 hv0)) ?_
   rintro _ s8 ⟨σ8,H8,I8,v1,hv1,e8,q8⟩
   subst e8
   have fin:∀{s9:Shared} {H9:Hp},Inv (aH X scope s3.heap.objs.size xs N' s3 (upd H1 s2.heap.objs.size (.lst [])) fp) ([]++nU fp s7.heap) (v1++σ) H9 s9->(∃m',m'<n/\W (i+1) m' H9)->
    ∃m,m<n/\∃(i:Nat) (v0:List (Option V)) (H':Hp),v0.length=xs.length/\Inv (aH X scope s3.heap.objs.size xs N' s3 (upd H1 s2.heap.objs.size (.lst [])) fp) [] (v0++σ) H' s9/\tn i s9.heap/\(∀b∈fp,H' b=none)/\W i m H':=fun{s9 H9} I9 ⟨m',hm,w9⟩=>by
    refine⟨m',hm,i+1,v1,H9,hv1,I9.jq,T.keep _ _ _ Om fun b hb o e=>(I9.pin (b,o) (List.mem_append_right _ (List.mem_append_right _ (fj hb e)))).1,fun b hb=>?_,w9⟩
    obtain⟨o,e,d⟩:=T.obj _ _ Om b hb
    exact(I9.pin (b,o) (List.mem_append_right _ (List.mem_append_right _ (fj hb e)))).2.1
   refine bK (hf _ _ _ _ _ s8 (v1++σ) H8 _ I8 q8) ?_
   rintro ok s9 ⟨H9,I9,q9⟩
   cases ok with
   |false=>exact fin I9 q9
   |true=>
    show wpAny _ _ _ _ _ _
    refine bK (he _ _ _ _ _ s9 (v1++σ) H9 _ I9 q9) ?_
    rintro y W4 ⟨vy,W5,W6,W7,ys,hys,hl,W8⟩
    refine bK (jW (X:=aH X scope s3.heap.objs.size xs N' s3 (upd H1 s2.heap.objs.size (.lst [])) fp) _ W4 (v1++σ) W5 (.ref s2.heap.objs.size) [vy] _ [y] (fun _ H'=>∃m',m'<n/\W (i+1) m' H') W6 rfl (.cons W7 .nil) ⟨_,ys,vy,rfl,rfl,hys,hl,W8⟩) ?_
    rintro _ s11 ⟨_,H11,W9,_,Xa⟩
    exact fin W9 Xa
 rw[hC]
 exact codeAny_compStart_list loop (T.self X.A 0 _ _ _ TU loop)
theorem JU{tg iter elt:Expr}{ifs:List Expr}{scope:Scope}(xs N':List Str){pos:Pos}{wi:TI}{g:TG}{tc:TT}{te:TE}(hc:X.calm=true)(ho:fX scope X.env.scope X.N N' xs=true)(hi:PI X tg iter wi)
 (hg:∀C s0 H0 fp,PG (aH X scope C xs N' s0 H0 fp) tg g) (hf:∀C s0 H0 fp,PF (aH X scope C xs N' s0 H0 fp) ifs tc) (he:∀C s0 H0 fp,PE (aH X scope C xs N' s0 H0 fp) elt te)
 (hs:∀z,foldedSetIterable iter X.env z=pure z:=by intro _;rfl):PE X (.ListComp elt [⟨tg,iter,ifs,0⟩] scope pos) (F6 xs.length wi g tc te):=by
 intro pins s σ H Q I h
 have O:=gx.of ho
 rw[eval_ListComp]
 refine wpAny_comprehension_free (use:=none) rfl hs (qo (kY I O)) O.kind O.loc (bK (hi pins s σ H _ I h) fun v s1 h1=>bK h1 fun itv s2 h2=>?_)
 obtain⟨it,fp,tn,J,H2,e,I2,T,st2,f2,hq⟩:=h2
 subst e
 refine Ae (RR:=fun acc C=>compPost (model X.prog X.w) X.A X.xe none (EP X pins σ Q) acc C) hc O hg hf he I2 T st2 f2 hq ?_
 rintro D C s' H' ⟨m,hm⟩ hI _ _ q
 exact⟨m,hm,fun h' DN=>⟨.ref D,H',hI h' DN,rfl,q⟩⟩
end
theorem DO{bs:List Bool}:∀{us:List Value},Vals (bs.map V.bl) us->us=bs.map Value.bool:=by
 induction bs with
 |nil=>intro us r;rw[List.map_nil]at r;cases r;rfl
 |cons b bs ih=>
  intro us r
  rw[List.map_cons]at r
  cases r with
  |cons r1 r2=>
   have e:_=Value.bool b:=r1
   rw[e,ih r2]
   rfl
theorem Af(bs:List Bool):((List.range bs.length).all fun i=>(bs[i]?).getD true)=bs.all id:=by
 rw[Bool.eq_iff_iff,List.all_eq_true,List.all_eq_true]
 constructor
 ·intro h b hb
  obtain⟨i,hi,rfl⟩:=List.getElem_of_mem hb
  have:=h i (List.mem_range.mpr hi)
  simp only[List.getElem?_eq_getElem hi,Option.getD_some]at this
  exact this
 ·intro h i hi
  have hi':=List.mem_range.mp hi
  simp only[List.getElem?_eq_getElem hi',Option.getD_some]
  exact h _ (List.getElem_mem hi')
section
variable{X:Cx}
theorem DP(hc:X.calm=true):fJ X (.builtin "sum") (fun xs H Q=>∃(p:Addr) (ns:List Int),xs=[.ref p]/\jV X.K H p (ns.map V.int)/\Q (.int ns.sum) H):=by
 intro pins s σ H xs us Q I r h
 obtain⟨p,ns,rfl,hS,q⟩:=h
 obtain⟨u,rfl,ru⟩:=Vals.one r
 cases(show u=Value.ref p from ru)
 obtain⟨its,rv,pl,_⟩:=I.list hS
 have hi:=intsAre_of rv
 obtain⟨xs,hx⟩:=hi.allInts.items
 have hl':s.heap.IsList p (intItems xs):=hx▸pl.isList
 refine sum_intListG (I.ok.hd hc) hl' fun h' tk t' hk=>?_
 have e1:ns=xs.toList.map (·.1):=by
  rw[←nums_intItems,←hx]
  exact(show numsOf its.toArray.toList=ns from hi.numsOf).symm
 have e2:preSum (numAt xs) xs.size=ns.sum:=by
  rw[preSum_eq,List.take_of_length_le (by simp),e1]
 rw[e2]
 exact⟨.int ns.sum,H,I.kept hk,⟨_,rfl⟩,q⟩
theorem DQ(hc:X.calm=true):fJ X (.builtin "all") (fun xs H Q=>∃(p:Addr) (bs:List Bool),xs=[.ref p]/\jV X.K H p (bs.map V.bl)/\Q (.bl (bs.all id)) H):=by
 intro pins s σ H xs us Q I r h
 obtain⟨p,bs,rfl,hS,q⟩:=h
 obtain⟨u,rfl,ru⟩:=Vals.one r
 cases(show u=Value.ref p from ru)
 obtain⟨its,rv,pl,_⟩:=I.list hS
 have hb:=DO rv
 have hl:=pl.isList
 have hlt:p<s.heap.objs.size:=by obtain⟨_,e,_⟩:=hl;exact Heap.lt_size e
 refine call_all_walk (wpAny_pyIter_list hl ?_)
 refine⟨s.heap.objs.size,[s.heap.objs.size,p],[s.heap.objs.size],its.toArray.size,_,_,fun i=>(bs[i]?).getD true,rfl,Walks.list (A:=X.A.in1) (I.ok.hd hc) _ p (Nat.ne_of_lt hlt) its.toArray,
  ⟨⟨_,Heap.get?_push_size _ rfl,rfl,rfl⟩,hl.push _⟩,fun i v s' Q' E' hP hQ=>?_,fun h' tk hk=>?_⟩
 ·have hv:its[i]?=some v:=by simpa using hP
  rw[hb,List.getElem?_map]at hv
  cases e:bs[i]? with
  |none=>rw[e]at hv;cases hv
  |some b=>
   rw[e]at hv
   simp only[e,Option.getD_some]at hQ
   have:v=Value.bool b:=(Option.some.inj hv).symm
   subst this
   exact wpAny_truthy_bool hQ
 ·have e:((List.range its.toArray.size).all fun i=>(bs[i]?).getD true)=bs.all id:=by
   have el:its.toArray.size=bs.length:=by rw[List.size_toArray,hb,List.length_map]
   rw[el]
   exact Af bs
  rw[e]
  exact⟨.bl _,H,I.kept fun b o z=>hk b o (fun hm=>by rw[List.mem_singleton.mp hm]at z;exact Nat.lt_irrefl _ (Heap.lt_size z)) (Heap.get?_push_of_some _ z),rfl,q⟩
theorem w6{tg iter elt:Expr}{ifs:List Expr}{scope:Scope}{xs N':List Str}{pos:Pos}{g:TG}{tc:TT}{te:TE}(hc:X.calm=true)(O:gx scope X.env.scope X.N N' xs)
 (hg:∀C s0 H0 fp,PG (aH X scope C xs N' s0 H0 fp) tg g) (hf:∀C s0 H0 fp,PF (aH X scope C xs N' s0 H0 fp) ifs tc) (he:∀C s0 H0 fp,PE (aH X scope C xs N' s0 H0 fp) elt te)
 {pins:List (Addr×Obj)} {σ:St} {H1:Hp} {s2:Shared} {it:Addr} {fp:List Addr} {tn:Nat->Heap->Prop} {J:It} {Q:VK} {E:Value->Shared->Prop} {RR:Value->Addr->Result->Shared->Prop}
 (I2:Inv X pins σ H1 s2) (T:Turn X.prog X.w X.K tg J fp it tn) (st2:tn 0 s2.heap) (f2:∀b∈fp,lX X pins H1 b)
 (h:∀D,H1 D=none->∃W:Nat->Nat->Hp->Prop,(∃m,W 0 m (upd H1 D (.lst [])))/\∀i m H2,W i m H2->
   (J.stop i H2/\Q (.ref D) H2)\/(J.go i H2/\∀x H3,J.RW i H2 x H3->∀v0:List (Option V),v0.length=xs.length->g x (v0++σ) H3 fun σ2 H4=>∃v1:List (Option V),v1.length=xs.length/\σ2=v1++σ/\
     tc σ2 H4 fun b H5=>if b=true then te σ2 H5 fun y H6=>∃ys,H6 D=some (.lst ys)/\ys.length<sizeLine/\∃m',m'<m/\W (i+1) m' (upd H6 D (.lst (ys++[y])))else∃m',m'<m/\W (i+1) m' H5))
 (hRR:∀D C s' H',(∃m,s'.heap.Ns C m)->(∀h',Heap.SameBut C s'.heap h'->Inv X pins σ H' {s' with heap:=h'})->s2.heap.objs.size<=D->s2.heap.objs.size<=C->H' C=none->Q (.ref D) H'->RR (.ref D) C (.ok .next) s'):
 wpAny (model X.prog X.w) X.A (newList []) (fun acc s₃=>wpAny (model X.prog X.w) X.A (newFunctionEnv scope X.env.globals (kX X.env.cells scope.names []) [] X.env.qual none .none (some X.env)) (fun cenv s₄=>
  codeAny (model X.prog X.w) X.A (.compStart (.ListComp elt [⟨tg,iter,ifs,0⟩] scope pos) 0 (.ref it) acc {cenv with scope:=relabel scope X.env}) (RR acc cenv.locals) s₄) E s₃) E s2:=by
 refine wpAny_newObj_type (wpAny_newFunctionEnv O.uJ (by intro y hy;simp at hy) (fun h₁ qu qv=>?_) O.kind)
 dsimp only at qu qv⊢
 have hD:H1 s2.heap.objs.size=none:=I2.hok.fresh (Nat.le_refl _)
 obtain⟨W,⟨m0,w0⟩,turn⟩:=h s2.heap.objs.size hD
 have I3:Inv X pins σ (upd H1 s2.heap.objs.size (.lst [])) {s2 with heap:=s2.heap.push {cls:=.type "list",dict:=none,data:=.seq ([]:List Value).toArray}}:=
  I2.laid (t':=s2.toks) (fun b u e=>Heap.get?_push_of_some _ e) (Nat.le_refl _) ⟨Nat.zero_le _,[],0,.nil,Heap.get?_push_size _ rfl⟩
 have Oi:∀b∈fp,b<s2.heap.objs.size:=fun b hb=>by
  obtain⟨o,e,_⟩:=T.obj _ _ st2 b hb
  exact Heap.lt_size e
 have f3:∀b∈fp,lX X pins (upd H1 s2.heap.objs.size (.lst [])) b:=fun b hb=>by
  obtain⟨q0,q⟩:=f2 b hb
  exact⟨by rw[ao (Nat.ne_of_lt (Oi b hb))];exact q0,q⟩
 generalize JT:({s2 with heap:=s2.heap.push {cls:=.type "list",dict:=none,data:=.seq ([]:List Value).toArray}}:Shared)=s3 at I3
 have iy:s3.heap=s2.heap.push {cls:=.type "list",dict:=none,data:=.seq ([]:List Value).toArray}:=by rw[←JT]
 have hsz:s3.heap.objs.size=s2.heap.objs.size+1:=by rw[iy,Heap.size_push]
 have old:∀b o,s3.heap.get? b=some o->h₁.get? b=some o:=fun b o e=>
  qv.extBut b o (by rw[←iy];exact Nat.ne_of_lt (Heap.lt_size e)) (Heap.get?_push_of_some _ (by rw[←iy];exact e))
 have J4:Inv (aH X scope s3.heap.objs.size xs N' s3 (upd H1 s2.heap.objs.size (.lst [])) fp) [] (xs.map (fun _=>none)++σ) (upd H1 s2.heap.objs.size (.lst [])) {s3 with heap:=h₁,toks:=s2.toks+([]:List (Str×Value)).length}:=
  w4 I3 O f3 (fun b hb=>by rw[hsz];exact Nat.lt_succ_of_lt (Oi b hb)) (by rw[iy];exact qu) old
 have WZ:({s3 with heap:=h₁,toks:=s2.toks+([]:List (Str×Value)).length}:Shared)={s2 with heap:=h₁,toks:=s2.toks+([]:List (Str×Value)).length}:=by rw[←JT]
 rw[WZ]at J4
 have TU:tn 0 h₁:=T.keep _ _ _ st2 fun b hb o e=>old b o (by rw[iy];exact Heap.get?_push_of_some _ e)
 have hC:(s2.heap.push {cls:=.type "list",dict:=none,data:=.seq ([]:List Value).toArray}).objs.size=s3.heap.objs.size:=by rw[iy]
 have Oj:∀{H':Hp},(∀b∈fp,H' b=none)->∀b∈fp,lX (aH X scope s3.heap.objs.size xs N' s3 (upd H1 s2.heap.objs.size (.lst [])) fp) [] H' b:=fun hn b hb=>
  ⟨hn b hb,Nat.ne_of_lt (by rw[hsz];exact Nat.lt_succ_of_lt (Oi b hb)),J4.ok.Dp b hb,.inl hb,fun x c e=>((J4.ok.V3 b hb).2 x c e),fun p hp=>absurd (show p∈([]:List (Addr×Obj))from hp) (by simp)⟩
 have loop:codeAny (model X.prog X.w) X.A (.compLoop (.ListComp elt [⟨tg,iter,ifs,0⟩] scope pos) 0 (.ref it) (.ref s2.heap.objs.size) (compEnvC scope (kX X.env.cells scope.names []) s3.heap.objs.size X.env))
  (RR (.ref s2.heap.objs.size) s3.heap.objs.size) {s2 with heap:=h₁,toks:=s2.toks+([]:List (Str×Value)).length}:=by
  refine l6 (fun n s'=>∃(i:Nat) (v0:List (Option V)) (H':Hp),v0.length=xs.length/\Inv (aH X scope s3.heap.objs.size xs N' s3 (upd H1 s2.heap.objs.size (.lst [])) fp) [] (v0++σ) H' s'/\tn i s'.heap/\(∀b∈fp,H' b=none)/\W i n H') ?_ m0
   ⟨0,xs.map (fun _=>none),_,List.length_map _,J4,TU,fun b hb=>(f3 b hb).1,w0⟩
  rintro n s5 ⟨i,v0,H5,hv0,I5,JA,NU,w5⟩
  rcases turn i n H5 w5 with⟨stop,qn⟩|⟨go,step⟩
  ·refine bK (T.done (aH X scope s3.heap.objs.size xs N' s3 (upd H1 s2.heap.objs.size (.lst [])) fp) rfl rfl rfl hc i [] s5 (v0++σ) H5 _ I5 (Oj NU) JA stop) ?_
   rintro r s6 ⟨hr,I6⟩
   subst hr
   obtain⟨m,hnm,_⟩:=I6.loc
   refine hRR _ _ s6 H5 ⟨m,hnm⟩ (fun h' DN=>?_) (Nat.le_refl _) (by rw[hsz];exact Nat.le_succ _) I6.free qn
   have Ol:∀b o,s3.heap.get? b=some o->b≠s3.heap.objs.size:=fun b o e=>Nat.ne_of_lt (Heap.lt_size e)
   have u:=I6.base
   have W0:=I3.Fe (s':={s6 with heap:=h'}) (H':=H5) (ch:=fp) I6.os ⟨fun b o e n hb hx=>DN.extBut b _ (Ol b o e) (u.keep b o e n hb hx),fun b o e n hb hx=>by
    obtain⟨sl,q⟩:=u.slot b o e n hb hx
    exact⟨sl,DN.extBut b _ (Ol b o e) q⟩,u.free,fun b o e hx=>by
    obtain⟨o',q⟩:=u.there b o e hx
    exact⟨o',DN.extBut b _ (Ol b o e) q⟩,u.tups,u.lU,u.nT⟩ (fun a o e=>?_) I6.bare (fun b hb=>?_)
   ·exact W0
   ·have TV:∀b u,H5 b=some u->b≠s3.heap.objs.size:=fun b u e z=>by
     subst z
     have:=I6.free
     have e2:H5 s3.heap.objs.size=none:=this
     rw[e2]at e
     cases e
    refine(I6.hok a o e).stay (fun b u hb q=>DN.extBut b u ?_ q) (fun _ q=>q) fun _ _ q=>q
    rcases hb with rfl|hb
    ·exact TV _ _ e
    ·exact TV _ _ hb
   ·obtain⟨q0,q1,q2,q3,q4,q5⟩:=f3 b hb
    exact⟨q3,q1,q4,q5⟩
  ·refine bK (T.item (aH X scope s3.heap.objs.size xs N' s3 (upd H1 s2.heap.objs.size (.lst [])) fp) rfl rfl rfl hc i [] s5 (v0++σ) H5 _ I5 (Oj NU) JA go) ?_
   rintro r s6 ⟨u,hr,h6⟩
   subst hr
   refine bK h6 ?_
   rintro _ s7 ⟨x,H7,I7,r7,y7,Om,W2⟩
   have W3:=I7.pinned (Oj W2) (T.obj _ _ Om)
   refine bK (hg _ _ _ _ _ s7 (v0++σ) H7 x u _ W3 r7 (step x H7 y7 v0 hv0)) ?_
   rintro _ s8 ⟨σ8,H8,I8,v1,hv1,e8,q8⟩
   subst e8
   have fin:∀{s9:Shared} {H9:Hp},Inv (aH X scope s3.heap.objs.size xs N' s3 (upd H1 s2.heap.objs.size (.lst [])) fp) ([]++nU fp s7.heap) (v1++σ) H9 s9->(∃m',m'<n/\W (i+1) m' H9)->
    ∃m,m<n/\∃(i:Nat) (v0:List (Option V)) (H':Hp),v0.length=xs.length/\Inv (aH X scope s3.heap.objs.size xs N' s3 (upd H1 s2.heap.objs.size (.lst [])) fp) [] (v0++σ) H' s9/\tn i s9.heap/\(∀b∈fp,H' b=none)/\W i m H':=fun{s9 H9} I9 ⟨m',hm,w9⟩=>by
    refine⟨m',hm,i+1,v1,H9,hv1,I9.jq,T.keep _ _ _ Om fun b hb o e=>(I9.pin (b,o) (List.mem_append_right _ (List.mem_append_right _ (fj hb e)))).1,fun b hb=>?_,w9⟩
    obtain⟨o,e,d⟩:=T.obj _ _ Om b hb
    exact(I9.pin (b,o) (List.mem_append_right _ (List.mem_append_right _ (fj hb e)))).2.1
   refine bK (hf _ _ _ _ _ s8 (v1++σ) H8 _ I8 q8) ?_
   rintro ok s9 ⟨H9,I9,q9⟩
   cases ok with
   |false=>exact fin I9 q9
   |true=>
    show wpAny _ _ _ _ _ _
    refine bK (he _ _ _ _ _ s9 (v1++σ) H9 _ I9 q9) ?_
    rintro y W4 ⟨vy,W5,W6,W7,ys,hys,hl,W8⟩
    refine bK (jW (X:=aH X scope s3.heap.objs.size xs N' s3 (upd H1 s2.heap.objs.size (.lst [])) fp) _ W4 (v1++σ) W5 (.ref s2.heap.objs.size) [vy] _ [y] (fun _ H'=>∃m',m'<n/\W (i+1) m' H') W6 rfl (.cons W7 .nil) ⟨_,ys,vy,rfl,rfl,hys,hl,W8⟩) ?_
    rintro _ s11 ⟨_,H11,W9,_,Xa⟩
    exact fin W9 Xa
 rw[hC]
 exact codeAny_compStart_list loop (T.self X.A 0 _ _ _ TU loop)
theorem JV{i:Nat}{x:Str}{tg iter elt:Expr}{ifs:List Expr}{scope:Scope}{pos' pos spos:Pos}(xs N':List Str){wi:TI}{g:TG}{tc:TT}{te:TE}(hN:X.N.Nodup)(hi:X.N[i]?=some x)(hx:Loc X.env.scope x)(hc:X.calm=true)(ho:fX scope X.env.scope X.N N' xs=true)(TX:PI X tg iter wi)
 (hg:∀C s0 H0 fp,PG (aH X scope C xs N' s0 H0 fp) tg g) (hf:∀C s0 H0 fp,PF (aH X scope C xs N' s0 H0 fp) ifs tc) (he:∀C s0 H0 fp,PE (aH X scope C xs N' s0 H0 fp) elt te)
 (hsw:swapsWith (.ListComp elt [⟨tg,iter,ifs,0⟩] scope pos) (some (.Name x pos')) spos.line X.env=pure true:=by rfl)
 (hs:∀z,foldedSetIterable iter X.env z=pure z:=by intro _;rfl) (hfn:X.fn x=true\/X.env.scope.names.lookup x=some .local:=by first|exact .inl rfl|exact .inr rfl|assumption):
 PS X (.Assign [.Name x pos'] (.ListComp elt [⟨tg,iter,ifs,0⟩] scope pos) spos) (o9 (F6 xs.length wi g tc te) (jc i)):=by
 intro pins s σ H W I h
 have O:=gx.of ho
 rw[exec_Assign_Name_used _ _ _ _ hsw]
 refine wpAny_bind (wpAny_standAt (wpAny_bind ?_))
 show wpAny _ X.A (do let _←comprehension (.ListComp elt [⟨tg,iter,ifs,0⟩] scope pos) scope X.env _ (newList []) false (eval iter X.env) (some (assign (.Name x pos') X.env))) _ _ s
 refine wpAny_bind (wpAny_mono (wpAny_comprehension_free (use:=some (assign (.Name x pos') X.env)) (Q:=fun _ s'=>SP X pins W .next s') rfl hs (qo (kY I O)) O.kind O.loc (bK (TX pins s σ H _ I h) fun v s1 h1=>bK h1 fun itv s2 h2=>?_)) (fun _ s' hq=>wpAny_pure (wpAny_pure hq)) fun _ _ e=>e)
 obtain⟨it,fp,tn,J,H2,e,I2,T,st2,f2,hq⟩:=h2
 subst e
 refine w6 (Q:=fun x H1=>jc i x σ H1 W.nx) (RR:=fun acc C=>compPost (model X.prog X.w) X.A X.xe (some (assign (.Name x pos') X.env)) (fun _ s'=>SP X pins W .next s') acc C) hc O hg hf he I2 T st2 f2 hq ?_
 rintro D C s' H' ⟨m,hm⟩ hI _ hC fC q
 have I':Inv X pins σ H' s':=hI s'.heap ⟨rfl,fun _ _=>rfl⟩
 have lt:∀b o,s2.heap.get? b=some o->b≠C:=fun b o e=>Nat.ne_of_lt (Nat.lt_of_lt_of_le (Heap.lt_size e) hC)
 have nL:C≠X.env.locals:=fun e=>by
  obtain⟨m2,hn2,_⟩:=I2.loc
  obtain⟨o,_,_,ho2,_⟩:=hn2
  exact lt _ o ho2 e.symm
 have nC:∀y c,X.env.cells.lookup y=some c->c≠C:=fun y c e z=>by
  obtain⟨v,o,e1,_⟩:=I2.cell y c e
  exact lt _ o e1 z
 have nP:∀p∈X.pn++pins,p.1≠C:=fun p hp z=>lt _ _ (I2.pin p hp).1 z
 show wpAny _ X.A (assign (.Name x pos') X.env (.ref D)) _ _ _
 refine wpAny_assign_Name (tF I' hN hi hx (v:=.ref D) rfl (fun s'' Xb hsm=>?_) hfn)
 obtain⟨a,DN,ha⟩:=hsm
 have aC:a≠C:=by
  rcases ha with rfl|ha
  ·exact Ne.symm nL
  ·exact nC x a ha
 refine⟨m,hm.sameBut DN (Ne.symm aC),fun h' hs'=>⟨_,H',?_,q⟩⟩
 refine Xb.Fe (s':={s'' with heap:=h'}) (H':=H') (ch:=[C]) rfl ⟨fun b o e n hb hx=>hs'.extBut b o (fun z=>hx (by rw[z];exact List.mem_singleton.mpr rfl)) e,fun b o e n hb hx=>⟨o.slots,hs'.extBut b o (fun z=>hx (by rw[z];exact List.mem_singleton.mpr rfl)) e⟩,fun b o e n hx=>n,fun b o e hx=>⟨o,hs'.extBut b o (fun z=>hx (by rw[z];exact List.mem_singleton.mpr rfl)) e⟩,fun b xs q=>q,fun b o u q=>q,fun b ps q=>⟨#[],by rw[Array.append_empty];exact q⟩⟩ (fun a o e=>?_) Xb.bare (fun b hb=>?_)
 ·refine(Xb.hok a o e).stay (fun b u hb q=>hs'.extBut b u ?_ q) (fun _ q=>q) fun _ _ q=>q
  rintro rfl
  rcases hb with rfl|hb
  ·rw[fC]at e;cases e
  ·rw[fC]at hb;cases hb
 ·rw[List.mem_singleton.mp hb]
  exact⟨.inr (Nat.le_trans I2.sz hC),nL,fun y c e z=>nC y c e z,nP⟩
theorem JW:WJ X "int.bit_length" (fun x xs H Q=>∃i:Int,x=.int i/\xs=[]/\Q (.int (Builtin.Int.intBits i:Nat)) H):=by
 intro pins s σ H x xs v us Q I rx rv h
 obtain⟨i,rfl,rfl,q⟩:=h
 obtain⟨t,rfl⟩:=rx
 cases rv
 exact call_gives F.slot_int_bit_length (typeIs_int s i t) F.entry_int_bit_length (F.args_int_bit_length_1 _) (PySem.AutoIntG2.int_bit_length_int_0 i t) (show EP X pins σ Q (.int _ _) _ from⟨.int _,H,I.tok _,⟨_,rfl⟩,q⟩)
noncomputable def V8(lo st:Int)(n:Nat):It:=⟨fun i _=>i<n,fun i H x H'=>H'=H/\x=.int (lo+i*st),fun i _=>n<=i⟩
theorem xg{P:Program}{w:World}{K:PySem.W.Frag}{tg:Expr}(it:Addr)(lo st:Int)(n:Nat):Turn P w K tg (V8 lo st n) [it] it (fun i h=>IsRangeIter h it (lo+(i:Nat)*st) ((n:Int) -(i:Nat)) st)where
 mem:=by simp
 obj:=fun i h st b hb=>by
  have e:b=it:=by simpa using hb
  subst e
  exact⟨_,st,fun v z=>by
   have z':Data.fields _=Data.cell v:=z
   cases z'⟩
 keep:=fun i h h' st k=>k it (by simp) _ st
 item:=by
  intro X hP hw hK hc i pins s σ H E I hf Xc hg
  subst hP hw hK
  obtain⟨f0,f1,f2,f3,f4,f5⟩:=hf it (by simp)
  have W:=Walks.range (prog:=X.prog) (w:=X.w) (I.ok.hd hc) it lo st n
  refine W.item i s _ _ hg Xc fun v h' tk hv st' kk=>?_
  obtain⟨t,rfl⟩:=hv
  have I1:Inv X pins σ H {s with heap:=h',toks:=tk}:=I.turned (fun b o hb e=>kk b o (by simpa using hb) e) f0 f1 f3 f4 f5
  exact⟨_,rfl,wR (s:={s with heap:=h',toks:=tk}) (n:="range_iterator") st' rfl rfl (by decide) ⟨.int (lo+i*st),H,I1,⟨t,rfl⟩,⟨rfl,rfl⟩,st',fun b hb=>(hf b hb).1⟩⟩
 done:=by
  intro X hP hw hK hc i pins s σ H E I hf Xc hg
  subst hP hw hK
  obtain⟨f0,f1,f2,f3,f4,f5⟩:=hf it (by simp)
  exact wpAny_pyNext_range_end (I.ok.hd hc) Xc (by have:n<=i:=hg;omega) fun h' eb=>⟨rfl,I.turned (t':=s.toks) (fun b o hb e=>eb b o hb e) f0 f1 f3 f4 f5⟩
 self:=fun _ _ _ _ _ st h=>wpAny_pyIter_rangeiter st h
theorem DR{tg:Expr}{pins:List (Addr×Obj)}{σ:St}{H:Hp}{s:Shared}{R:It->Hp->Prop}{E:Value->Shared->Prop}{lo hi st:Int}{n:Nat}{t u v:Tok}{tk:Nat}(I:Inv X pins σ H s)(hs:Builtin.Range.small lo hi st=true)(hn:Builtin.Range.rangeSize lo hi st=(n:Int))
 (q:R (V8 lo st n) H):wpAny (model X.prog X.w) X.A (pyIter (.ref s.heap.objs.size)) (Wz X pins σ tg R) E {s with heap:=s.heap.push {cls:=.type "range",data:=.fields #[.int lo t,.int hi u,.int st v]},toks:=tk}:=by
 refine wpAny_pyIter_range (IsRange.new ..) hs ?_
 have I1:Inv X pins σ H {s with heap:=s.heap.push {cls:=.type "range",data:=.fields #[.int lo t,.int hi u,.int st v]},toks:=tk}:=I.kept fun b o e=>Heap.get?_push_of_some _ e
 refine⟨(s.heap.push {cls:=.type "range",data:=.fields #[.int lo t,.int hi u,.int st v]}).objs.size,[(s.heap.push {cls:=.type "range",data:=.fields #[.int lo t,.int hi u,.int st v]}).objs.size],_,_,H,rfl,
  I1.kept (t':=tk) fun b o e=>Heap.get?_push_of_some _ e,xg _ lo st n,?_,fun b hb=>?_,q⟩
 ·have e1:lo+((0:Nat):Int)*st=lo:=by simp
  have e2:(n:Int) -((0:Nat):Int)=Builtin.Range.rangeSize lo hi st:=by rw[hn];simp
  show IsRangeIter _ _ (lo+((0:Nat):Int)*st) ((n:Int) -((0:Nat):Int)) st
  rw[e1,e2]
  exact Heap.get?_push_size _ rfl
 ·have e:b=(s.heap.push {cls:=.type "range",data:=.fields #[.int lo t,.int hi u,.int st v]}).objs.size:=by simpa using hb
  subst e
  exact I1.zJ (Nat.le_refl _) (I1.hok.fresh (Nat.le_refl _))
noncomputable def TY(ta:TA):TI:=fun σ H R=>ta σ H fun vs H1=>∃(i j k:Int) (n:Nat),vs=[.int i,.int j,.int k]/\(k≠0/\k.natAbs<1073741824/\Builtin.Range.small i j k=true/\Builtin.Range.rangeSize i j k=(n:Int))/\R (V8 i k n) H1
theorem DS{tg a b c:Expr}{ta:TA}{p pos:Pos}(hg:Gl X "range")(hm:X.mg "range"=none)(ha:PA X [a,b,c] ta)(hs:starEach [a,b,c] X.env=[(false,eval a X.env),(false,eval b X.env),(false,eval c X.env)]:=by rfl)(hs2:starEach [b,c] X.env=[(false,eval b X.env),(false,eval c X.env)]:=by rfl):
 PI X tg (.Call (.Name "range" p) [a,b,c] [] pos) (TY ta):=by
 intro pins s σ H R I h
 refine Call_ (jn I hg hm boot_range (PyProof.Rows.callWith_type1 (bK (ha pos pins s σ H _ I h) fun us s1 ⟨vs,H1,I1,r1,q1⟩=>?_) (by rw[hs,hs2]) (by rw[hs2];rfl)))
 obtain⟨i,j,k,n,e,⟨q1,q2,q3,q4⟩,q⟩:=q1
 subst e
 cases r1 with
 |cons r rr=>
  cases rr with
  |cons r' rr=>
   cases rr with
   |cons r'' rr=>
    cases rr
    obtain⟨t,rfl⟩:=r
    obtain⟨t',rfl⟩:=r'
    obtain⟨t'',rfl⟩:=r''
    exact call_range_3 q1 (DR I1 q3 q4 q) (.inl (PyProof.noPylong_small q2))
end
end L2
namespace L2
open PySem
end L2
namespace L2
open PySem PySem.Spec PyProof.Rows
noncomputable def Dt(X:Cx)(H:Hp)(x:V)(d:PyData):Prop:=
 ∀(pins:List (Addr×Obj)) (σ:St) (s:Shared) (u:Value),Inv X pins σ H s->RelV x u->∃as,Reads s.heap u d as
section
variable{X:Cx}{H:Hp}
theorem Oo(i:Int):Dt X H (.int i) (.int i):=fun _ _ s u _ r=>by
 obtain⟨t,rfl⟩:=r
 exact⟨_,.int i t⟩
theorem TZ(b:Bool):Dt X H (.bl b) (.bool b):=fun _ _ s u _ r=>by
 cases(show u=Value.bool b from r)
 exact⟨_,.bool b⟩
theorem Oq(x:Str):Dt X H (.str x) (.str x):=fun _ _ s u _ r=>by
 obtain⟨t,rfl⟩:=r
 exact⟨_,.str x t⟩
theorem Ot:Dt X H .aU .none:=fun _ _ s u _ r=>by
 cases(show u=Value.none from r)
 exact⟨_,.none⟩
theorem Ag{pins:List (Addr×Obj)}{σ:St}{s:Shared}(I:Inv X pins σ H s):∀{xs:List V} {ds:List PyData} {us:List Value},Paired (Dt X H) xs ds->Vals xs us->∃as,ReadsAll s.heap us ds as
 |_,_,_,.nil,.nil=>⟨_,.nil⟩
 |_,_,_,.cons h t,.cons r rr=>by
  obtain⟨as,q⟩:=h _ _ _ _ I r
  obtain⟨bs,q2⟩:=Ag I t rr
  exact⟨_,.cons q q2⟩
theorem F7{a:Addr}{xs:List V}{ds:List PyData}(h:jV X.K H a xs)(hall:Paired (Dt X H) xs ds):Dt X H (.ref a) (.list ds):=fun _ _ s u I r=>by
 cases(show u=Value.ref a from r)
 obtain⟨its,rv,pl,_⟩:=I.list h
 obtain⟨as,q⟩:=Ag I hall rv
 obtain⟨o,ho,hc,n,hd⟩:=pl.isList
 exact⟨_,.list ho hc hd (by simpa using q)⟩
theorem Ou{a:Addr}{xs:List V}{ds:List PyData}(h:kU X.K H a xs)(hall:Paired (Dt X H) xs ds):Dt X H (.ref a) (.tuple ds):=fun _ _ s u I r=>by
 cases(show u=Value.ref a from r)
 obtain⟨its,rv,ht,_⟩:=I.tuple h
 obtain⟨as,q⟩:=Ag I hall rv
 obtain⟨o,ho,hc,n,hd⟩:=ht
 exact⟨_,.tuple ho hc hd (by simpa using q)⟩
noncomputable def Xd(X:Cx):R2:=fun x y H Q=>∃dx dy,Dt X H x dx/\Dt X H y dy/\(SeqAt.shaped dx=true/\SeqAt.shaped dy=true/\SeqAt.noMix dx dy=true)/\Q (.bl (PySem.Spec.same dx dy)) H
noncomputable def Xe(X:Cx):R2:=fun x y H Q=>∃dx dy,Dt X H x dx/\Dt X H y dy/\(SeqAt.shaped dx=true/\SeqAt.shaped dy=true/\SeqAt.noMix dx dy=true)/\Q (.bl (!PySem.Spec.same dx dy)) H
theorem Ov(hu:X.A.units+64<cLine):kq X (compareOp .Eq) (Xd X):=by
 intro pins s σ H x y v u Q I rx ry h
 obtain⟨dx,dy,h1,h2,⟨q1,q2,q3⟩,q⟩:=h
 obtain⟨as,r1⟩:=h1 _ _ _ _ I rx
 obtain⟨bs,r2⟩:=h2 _ _ _ _ I ry
 exact eq_dataH_same r1 r2 q1 q2 hu q3 ⟨.bl _,H,I,rfl,q⟩
theorem Ow(hu:X.A.units+64<cLine):kq X (compareOp .NotEq) (Xe X):=by
 intro pins s σ H x y v u Q I rx ry h
 obtain⟨dx,dy,h1,h2,⟨q1,q2,q3⟩,q⟩:=h
 obtain⟨as,r1⟩:=h1 _ _ _ _ I rx
 obtain⟨bs,r2⟩:=h2 _ _ _ _ I ry
 exact ne_dataH_same r1 r2 q1 q2 hu q3 ⟨.bl _,H,I,rfl,q⟩
end
noncomputable def Xf(K:PySem.W.Frag)(a:Addr):It:=⟨fun i H=>∃xs x,jV K H a xs/\xs[i]?=some x,fun i H x H'=>∃p y,H p=none/\x=.ref p/\H'=upd H p (.tup [.int i,y])/\∀xs,jV K H a xs->xs[i]?=some y,fun i H=>∃xs,jV K H a xs/\xs.length=i⟩
theorem Inv.T3{X:Cx}{pins:List (Addr×Obj)}{σ:St}{H:Hp}{s:Shared}{h':Heap}{t':Nat}{ch:List Addr}{p:Addr}{xs:List V}(I:Inv X pins σ H s)(hf:∀b∈ch,lX X pins H b)
 (k:∀b o,b∉ch->s.heap.get? b=some o->h'.get? b=some o) (hp:s.heap.objs.size<=p) (new:cI X.prog X.w (upd H p (.tup xs)) h' p (.tup xs)) (ht:∀b∈ch,∃o,h'.get? b=some o):Inv X pins σ (upd H p (.tup xs)) {s with heap:=h',toks:=t'}:=by
 have hn:H p=none:=I.hok.fresh hp
 have Mu:∀b u,H b=some u->b∉ch:=fun b u e z=>by rw[(hf b z).1]at e;cases e
 have nep:∀b o,s.heap.get? b=some o->b≠p:=fun b o e z=>absurd (Nat.lt_of_lt_of_le (Heap.lt_size e) hp) (by rw[z];exact Nat.lt_irrefl _)
 refine I.step (g':=s.gens) (d':=s.drawn) (ch:=ch) (fun b hb=>?_) (fun b o _ _ hc e _=>k b o hc e) (fun b o _ _ hc e _=>⟨o.slots,k b o hc e⟩) (fun b o _ e n=>by rw[ao (nep b o e)];exact n)
  (fun b o hc e=>⟨o,k b o hc e⟩) (fun b ys e=>by rw[ao (aR e hn)];exact e) (fun b o u e=>by rw[ao (aR e hn)];exact e) (fun b ps e=>⟨#[],by rw[ao (aR e hn),e];simp⟩) (fun m hm=>?_) (fun b u e=>?_) I.bare
 ·obtain⟨f0,f1,f2,f3,f4,f5⟩:=hf b hb
  exact⟨f3,f1,f4,f5⟩
 ·obtain⟨o,es,ep,ho,r⟩:=hm
  exact⟨o,es,ep,k _ o (fun z=>(hf _ z).2.1 rfl) ho,r⟩
 ·by_cases hb:b=p
  ·subst hb
   rw[aD]at e
   cases e
   exact new
  ·rw[ao hb]at e
   refine(I.hok b u e).stay (fun c v hc q=>k c v ?_ q) (fun c q=>by rw[ao (aR q hn)];exact q) fun c ys q=>by rw[ao (aR q hn)];exact q
   rcases hc with z|z
   ·rw[z];exact Mu b u e
   ·exact Mu c _ z
theorem DT{P:Program}{w:World}{K:PySem.W.Frag}{elts:List Expr}{kk:Nat}{pos:Pos}(a e it:Addr)(hei:e≠it):
 Turn P w K (.Tuple elts kk pos) (Xf K a) [e,it] e (fun i h=>(∃old,IsEnum h e it i old)/\h.IsListIter it a i)where
 mem:=by simp
 obj:=fun i h st b hb=>by
  obtain⟨⟨old,he⟩,o,ho,c,d⟩:=st
  rcases List.mem_cons.mp hb with z|z
  ·subst z
   exact⟨_,he,fun v z=>by cases z⟩
  ·rw[List.mem_singleton.mp z]
   exact⟨o,ho,fun v z=>by rw[d]at z;cases z⟩
 keep:=fun i h h' st k=>by
  obtain⟨⟨old,he⟩,hl⟩:=st
  exact⟨⟨old,k e (by simp) _ he⟩,hl.at fun o x=>k it (by simp) o x⟩
 item:=by
  intro X hP hw hK hc i pins s σ H E I hf st hg
  subst hP hw hK
  obtain⟨xs,x,hq,hx⟩:=hg
  obtain⟨its,rv,p,hz⟩:=I.list hq
  obtain⟨u,hu,ru⟩:=rv.get hx
  obtain⟨⟨old,he⟩,hl⟩:=st
  have hit:=hf it (by simp)
  have hee:=hf e (by simp)
  have hai:a≠it:=fun z=>by
   obtain⟨o,ho,c,d⟩:=hl
   obtain⟨o',ho',c',_⟩:=p.isList
   rw[z,ho]at ho'
   cases ho'
   rw[c]at c'
   exact absurd c' (by decide)
  have hae:a≠e:=fun z=>by
   obtain⟨o',ho',c',_⟩:=p.isList
   have he':s.heap.get? e=some _:=he
   rw[z,he']at ho'
   cases ho'
   exact absurd (show Value.type "enumerate"=Value.type "list"from c') (by decide)
  have D:=Draws.list (prog:=X.prog) (w:=X.w) (A:=X.A.in1) (I.ok.hd hc) it a hai its.toArray
  have W:=WalksT.enumerateD D e hei (by simp[hei,hae.symm]) (by simp)
  have hlt:i<its.toArray.size:=by
   have:=(List.getElem?_eq_some_iff.mp hu).1
   simpa using this
  refine W.item i s _ _ hlt ⟨⟨old,he⟩,hl,p.isList⟩ fun T vals h' tk hPt hT Xg T4 hk=>?_
  obtain⟨t,y,hy,rfl⟩:=hPt
  have hyu:y=u:=by
   have:its[i]?=some y:=by simpa using hy
   rw[hu]at this
   exact(Option.some.inj this).symm
  subst hyu
  refine⟨.ref T,rfl,W.go elts kk pos i T _ _ _ T4 fun h'' hst hk2=>?_⟩
  have Za:T∉[e,it]:=W.apart i T h' T4
  obtain⟨⟨old',he'⟩,hl',_⟩:=hst
  have T5:IsTup h'' T #[.int i t,y]:=by
   obtain⟨o,ho,c⟩:=Xg
   exact⟨o,hk2 T o Za ho,c⟩
  have obj:cI X.prog X.w (upd H T (.tup [.int i,x])) h'' T (.tup [.int i,x]):=⟨tQ (by show 2<=100000;decide),[.int i t,y],.cons ⟨t,rfl⟩ (.cons ru .nil),T5⟩
  have I2:=I.T3 (t':=tk) (ch:=[e,it]) hf (fun b o hb eo=>hk2 b o hb (hk b o hb eo)) hT obj (fun b hb=>by
   rcases List.mem_cons.mp hb with z|z
   ·rw[z];exact⟨_,he'⟩
   ·rw[List.mem_singleton.mp z]
    obtain⟨o,ho,_⟩:=hl'
    exact⟨o,ho⟩)
  refine⟨.ref T,upd H T (.tup [.int i,x]),I2,rfl,⟨T,x,I.hok.fresh hT,rfl,rfl,fun ys hy=>by rw[I.qg hy hq];exact hx⟩,⟨⟨old',he'⟩,hl'⟩,fun b hb=>?_⟩
  rw[ao (show b≠T from fun z=>Za (by rw[←z];exact hb))]
  exact(hf b hb).1
 done:=by
  intro X hP hw hK hc i pins s σ H E I hf st hg
  subst hP hw hK
  obtain⟨xs,hq,hx⟩:=hg
  obtain⟨its,rv,p,hz⟩:=I.list hq
  obtain⟨⟨old,he⟩,hl⟩:=st
  obtain⟨f0,f1,f2,f3,f4,f5⟩:=hf it (by simp)
  have hai:a≠it:=fun z=>by
   obtain⟨o,ho,c,d⟩:=hl
   obtain⟨o',ho',c',_⟩:=p.isList
   rw[z,ho]at ho'
   cases ho'
   rw[c]at c'
   exact absurd c' (by decide)
  have D:=Draws.list (prog:=X.prog) (w:=X.w) (A:=X.A.in1) (I.ok.hd hc) it a hai its.toArray
  have hn:its.toArray.size=i:=by
   rw[List.size_toArray,←rv.length]
   exact hx
  exact wpAny_pyNext_enum_endD D he ⟨by rw[hn];exact hl,p.isList⟩ fun h' eb=>⟨rfl,I.turned (t':=s.toks) (fun b o hb x=>eb b o hb x) f0 f1 f3 f4 f5⟩
 self:=fun _ _ _ _ _ st h=>by
  obtain⟨⟨old,he⟩,_⟩:=st
  exact wpAny_pyIter_enum he h
section
variable{X:Cx}
noncomputable def T6(K:PySem.W.Frag)(ta:TA):TI:=fun σ H R=>ta σ H fun vs H1=>∃a,vs=[.ref a]/\(∃xs,jV K H1 a xs)/\R (Xf K a) H1
theorem JX{a:Expr}{ta:TA}{elts:List Expr}{kk:Nat}{tp p pos:Pos}(hg:Gl X "enumerate")(hm:X.mg "enumerate"=none)(ha:PA X [a] ta)(hv:bootBuiltins "enumerate"=some (.type "enumerate"):=by rfl)(hs:starEach [a] X.env=[(false,eval a X.env)]:=by rfl):
 PI X (.Tuple elts kk tp) (.Call (.Name "enumerate" p) [a] [] pos) (T6 X.K ta):=by
 intro pins s σ H R I h
 refine Call_ (jn I hg hm hv (PyProof.Rows.callWith_type1 (bK (ha pos pins s σ H _ I h) fun us s1 ⟨vs,H1,I1,r1,q1⟩=>?_) hs rfl))
 obtain⟨l,e,⟨xs,hq⟩,q⟩:=q1
 subst e
 obtain⟨u,rfl,ru⟩:=Vals.one r1
 cases(show u=Value.ref l from ru)
 obtain⟨its,rv,pl,_⟩:=I1.list hq
 refine call_enumerate_list pl.isList fun h' he hl hsz hk=>?_
 refine wpAny_pyIter_enum he ?_
 have I2:Inv X pins σ H1 {s1 with heap:=h'}:=I1.kept (t':=s1.toks) hk
 refine⟨s1.heap.objs.size+1,[s1.heap.objs.size+1,s1.heap.objs.size],_,_,H1,rfl,I2,DT l (s1.heap.objs.size+1) s1.heap.objs.size (Nat.succ_ne_self _),⟨⟨_,he⟩,hl⟩,fun b hb=>?_,q⟩
 rcases List.mem_cons.mp hb with z|z
 ·rw[z];exact I1.zJ (by lia) (I1.hok.fresh (by lia))
 ·rw[List.mem_singleton.mp z];exact I1.zJ (Nat.le_refl _) (I1.hok.fresh (Nat.le_refl _))
end
noncomputable def Xh(K:PySem.W.Frag)(a:Addr)(n:Nat):It:=
 ⟨fun i H=>∃xs,jV K H a xs/\xs.length=n/\i<n,fun i H x H'=>H'=H/\∀xs,jV K H a xs->xs.length=n->xs[n -1 -i]?=some x,fun i _=>i=n⟩
theorem F8{P:Program}{w:World}{K:PySem.W.Frag}{tg:Expr}(a it:Addr)(n:Nat):Turn P w K tg (Xh K a n) [it] it (fun i h=>h.IsRevIter it a ((n:Int) -1 -(i:Int)))where
 mem:=by simp
 obj:=fun i h st b hb=>by
  have e:b=it:=by simpa using hb
  subst e
  obtain⟨o,e,c,d⟩:=st
  refine⟨o,e,fun v z=>?_⟩
  rw[d]at z
  cases z
 keep:=fun i h h' st k=>st.at fun o e=>k it (List.mem_singleton.mpr rfl) o e
 item:=by
  intro X hP hw hK hc i pins s σ H E I hf st hg
  subst hP hw hK
  obtain⟨xs,hq,hn,hi⟩:=hg
  obtain⟨its,rv,p,hz⟩:=I.list hq
  have hx:xs[n -1 -i]?=some (xs[n -1 -i]'(by omega)):=List.getElem?_eq_getElem (by omega)
  obtain⟨u,hu,ru⟩:=rv.get hx
  obtain⟨f0,f1,f2,f3,f4,f5⟩:=hf it (List.mem_singleton.mpr rfl)
  have e:(n:Int) -1 -(i:Int)=((n -1 -i:Nat):Int):=by omega
  rw[e]at st
  refine wpAny_pyNext_rev_item st p.isList (x:=u) (by simpa using hu) fun h' st' sb=>?_
  have e2:((n -1 -i:Nat):Int) -1=(n:Int) -1 -((i+1:Nat):Int):=by omega
  rw[e2]at st'
  have I1:Inv X pins σ H {s with heap:=h'}:=I.turned (t':=s.toks) (fun b o hb z=>(sb.2 b hb).trans z) f0 f1 f3 f4 f5
  obtain⟨o,e3,c,d⟩:=id st'
  exact⟨u,rfl,wR (s:={s with heap:=h'}) e3 c d (by decide) ⟨_,H,I1,ru,⟨rfl,fun ys hy _=>by rw[I.qg hy hq];exact hx⟩,st',fun b hb=>(hf b hb).1⟩⟩
 done:=by
  intro X hP hw hK hc i pins s σ H E I hf st hg
  subst hP hw hK
  have hg':i=n:=hg
  subst hg'
  obtain⟨f0,f1,f2,f3,f4,f5⟩:=hf it (List.mem_singleton.mpr rfl)
  have e:(i:Int) -1 -(i:Int)= -1:=by omega
  rw[e]at st
  exact wpAny_pyNext_rev_end (I.ok.hd hc) st fun h' eb=>⟨rfl,I.turned (t':=s.toks) (fun b o hb z=>eb b o hb z) f0 f1 f3 f4 f5⟩
 self:=fun _ _ _ _ _ st h=>wpAny_pyIter_revIter st h
section
variable{X:Cx}{tg:Expr}
noncomputable def Xi(K:PySem.W.Frag)(ta:TA):TI:=fun σ H R=>ta σ H fun vs H1=>∃a xs,vs=[.ref a]/\jV K H1 a xs/\R (Xh K a xs.length) H1
theorem Ox{a:Expr}{ta:TA}{p pos:Pos}(hg:Gl X "reversed")(hm:X.mg "reversed"=none)(ha:PA X [a] ta)(hv:bootBuiltins "reversed"=some (.type "reversed"):=by rfl)(hs:starEach [a] X.env=[(false,eval a X.env)]:=by rfl):
 PI X tg (.Call (.Name "reversed" p) [a] [] pos) (Xi X.K ta):=by
 intro pins s σ H R I h
 refine Call_ (jn I hg hm hv (PyProof.Rows.callWith_type1 (bK (ha pos pins s σ H _ I h) fun us s1 ⟨vs,H1,I1,r1,q1⟩=>?_) hs rfl))
 obtain⟨l,xs,e,hq,q⟩:=q1
 subst e
 obtain⟨u,rfl,ru⟩:=Vals.one r1
 cases(show u=Value.ref l from ru)
 obtain⟨its,rv,pl,_⟩:=I1.list hq
 refine call_reversed_list pl.isList ?_
 have e0:((its.toArray.size:Nat):Int) -1=(xs.length:Int) -1 -((0:Nat):Int):=by
  have:=rv.length
  simp
  omega
 rw[e0]
 have st:Heap.IsRevIter (s1.heap.push (revObj l ((xs.length:Int) -1 -((0:Nat):Int)))) s1.heap.objs.size l ((xs.length:Int) -1 -((0:Nat):Int)):=⟨_,Heap.get?_push_size _ rfl,rfl,rfl⟩
 refine wpAny_pyIter_revIter st ?_
 refine⟨s1.heap.objs.size,[s1.heap.objs.size],_,_,H1,rfl,I1.kept (t':=s1.toks) fun b o z=>Heap.get?_push_of_some _ z,F8 l _ xs.length,st,fun b hb=>?_,q⟩
 have e:b=s1.heap.objs.size:=by simpa using hb
 subst e
 exact I1.zJ (Nat.le_refl _) (I1.hok.fresh (Nat.le_refl _))
end
end L2
namespace L2
open PySem
variable{r:List Expr}{env:Env}{pos:Pos}
inductive Oz:List Expr->List (Int×Int)->Prop where
 |nil:Oz [] []
 |cons {a b:Int} {j1 j2 k:Nat} {p1 p2 pos:Pos} {es:List Expr} {qs:List (Int×Int)} (h:Oz es qs):Oz (.Tuple [.Constant (.int a) j1 p1,.Constant (.int b) j2 p2] k pos::es) ((a,b)::qs)
end L2
namespace L2
open PySem PySem.Spec PyProof.Rows
section
variable{X:Cx}{H:Hp}
end
mutual
noncomputable def aM:PyData->Bool
 |.int _=>true
 |.list xs=>gy xs
 |.tuple xs=>gy xs
 |.none=>false
 |.bool _=>false
 |.str _=>false
 |.dict _=>false
noncomputable def gy:List PyData->Bool
 |[]=>true
 |x::xs=>aM x&&gy xs
end
mutual
theorem F9:∀d:PyData,aM d=true->d.canLay0=true
 |.int _,_=>by simp[PyData.canLay0]
 |.list xs,h=>by rw[aM]at h;rw[PyData.canLay0];exact nW xs h
 |.tuple xs,h=>by rw[aM]at h;rw[PyData.canLay0];exact nW xs h
 |.none,h=>by simp[aM]at h
 |.bool _,h=>by simp[aM]at h
 |.str _,h=>by simp[aM]at h
 |.dict _,h=>by simp[aM]at h
theorem nW:∀xs:List PyData,gy xs=true->PyData.canLayAll0 xs=true
 |[],_=>by simp[PyData.canLayAll0]
 |x::xs,h=>by
  rw[gy,Bool.and_eq_true]at h
  rw[PyData.canLayAll0,F9 x h.1,nW xs h.2]
  rfl
end
mutual
theorem Ga:∀d e:PyData,aM d=true->aM e=true->SeqAt.noMix d e=true
 |.int _,.int _,_,_=>by simp[SeqAt.noMix]
 |.int _,.list _,_,_=>by simp[SeqAt.noMix]
 |.int _,.tuple _,_,_=>by simp[SeqAt.noMix]
 |.list _,.int _,_,_=>by simp[SeqAt.noMix]
 |.list _,.tuple _,_,_=>by simp[SeqAt.noMix]
 |.tuple _,.int _,_,_=>by simp[SeqAt.noMix]
 |.tuple _,.list _,_,_=>by simp[SeqAt.noMix]
 |.list xs,.list ys,h,h2=>by rw[aM]at h h2;rw[SeqAt.noMix];exact nX xs ys h h2
 |.tuple xs,.tuple ys,h,h2=>by rw[aM]at h h2;rw[SeqAt.noMix];exact nX xs ys h h2
 |.none,_,h,_=>by simp[aM]at h
 |.bool _,_,h,_=>by simp[aM]at h
 |.str _,_,h,_=>by simp[aM]at h
 |.dict _,_,h,_=>by simp[aM]at h
 |.int _,.none,_,h=>by simp[aM]at h
 |.int _,.bool _,_,h=>by simp[aM]at h
 |.int _,.str _,_,h=>by simp[aM]at h
 |.int _,.dict _,_,h=>by simp[aM]at h
 |.list _,.none,_,h=>by simp[aM]at h
 |.list _,.bool _,_,h=>by simp[aM]at h
 |.list _,.str _,_,h=>by simp[aM]at h
 |.list _,.dict _,_,h=>by simp[aM]at h
 |.tuple _,.none,_,h=>by simp[aM]at h
 |.tuple _,.bool _,_,h=>by simp[aM]at h
 |.tuple _,.str _,_,h=>by simp[aM]at h
 |.tuple _,.dict _,_,h=>by simp[aM]at h
theorem nX:∀xs ys:List PyData,gy xs=true->gy ys=true->SeqAt.noMixAll xs ys=true
 |[],[],_,_=>by simp[SeqAt.noMixAll]
 |[],_::_,_,_=>by simp[SeqAt.noMixAll]
 |_::_,[],_,_=>by simp[SeqAt.noMixAll]
 |x::xs,y::ys,h,h2=>by
  rw[gy,Bool.and_eq_true]at h h2
  rw[SeqAt.noMixAll,Ga x y h.1 h2.1,nX xs ys h.2 h2.2]
  rfl
end
mutual
theorem DU:∀d e:PyData,aM d=true->aM e=true->(same d e=true↔d=e)
 |.int a,.int b,_,_=>by simp[same]
 |.int _,.list _,_,_=>by simp[same]
 |.int _,.tuple _,_,_=>by simp[same]
 |.list _,.int _,_,_=>by simp[same]
 |.list _,.tuple _,_,_=>by simp[same]
 |.tuple _,.int _,_,_=>by simp[same]
 |.tuple _,.list _,_,_=>by simp[same]
 |.list xs,.list ys,h,h2=>by rw[aM]at h h2;rw[same,kZ xs ys h h2,PyData.list.injEq]
 |.tuple xs,.tuple ys,h,h2=>by rw[aM]at h h2;rw[same,kZ xs ys h h2,PyData.tuple.injEq]
 |.none,_,h,_=>by simp[aM]at h
 |.bool _,_,h,_=>by simp[aM]at h
 |.str _,_,h,_=>by simp[aM]at h
 |.dict _,_,h,_=>by simp[aM]at h
 |.int _,.none,_,h=>by simp[aM]at h
 |.int _,.bool _,_,h=>by simp[aM]at h
 |.int _,.str _,_,h=>by simp[aM]at h
 |.int _,.dict _,_,h=>by simp[aM]at h
 |.list _,.none,_,h=>by simp[aM]at h
 |.list _,.bool _,_,h=>by simp[aM]at h
 |.list _,.str _,_,h=>by simp[aM]at h
 |.list _,.dict _,_,h=>by simp[aM]at h
 |.tuple _,.none,_,h=>by simp[aM]at h
 |.tuple _,.bool _,_,h=>by simp[aM]at h
 |.tuple _,.str _,_,h=>by simp[aM]at h
 |.tuple _,.dict _,_,h=>by simp[aM]at h
theorem kZ:∀xs ys:List PyData,gy xs=true->gy ys=true->(sameAll xs ys=true↔xs=ys)
 |[],[],_,_=>by simp[sameAll]
 |[],_::_,_,_=>by simp[sameAll]
 |_::_,[],_,_=>by simp[sameAll]
 |x::xs,y::ys,h,h2=>by
  rw[gy,Bool.and_eq_true]at h h2
  rw[sameAll,Bool.and_eq_true,DU x y h.1 h2.1,kZ xs ys h.2 h2.2,List.cons.injEq]
end
section
variable{X:Cx}
end
theorem xh{xs:List PyData}{n:Nat}(h:∀x∈xs,x.depth<=n):PyData.depthAll xs<=n:=by
 induction xs with
 |nil=>simp[PyData.depthAll]
 |cons x xs ih=>
  rw[PyData.depthAll]
  have:=h x (List.mem_cons_self ..)
  have:=ih fun y hy=>h y (List.mem_cons_of_mem _ hy)
  lia
end L2
namespace VL
open PySem PySem.Spec PyProof.Rows L2
theorem ff{C:Prop}(h:false=true):C:=Bool.noConfusion h
theorem nn{α:Type}{a:α}{C:Prop}(h:none=some a):C:=Option.noConfusion rfl (heq_of_eq h)
inductive W where
 |aU|bl (b:Bool)|int (i:Int)|str (x:Str)|ty (n:String)|cls (C:Addr)|err (C:Addr)
 |tup (l:List W)|lst (l:List W)|dct (ks vs:List W)|obj (C:Addr) (fs:List Str) (vs:List W)|jj (ns:List Int)
noncomputable def E2:HO->Bool
 |.lst _|.ins _ _ _|.dK _|.dT _|.set _ _=>true
 |_=>false
noncomputable def Xj:Key->W
 |.inl i=>.int i
 |.inr x=>.str x
noncomputable def Ah(K:PySem.W.Frag)(C:Addr)(fs:List Str):Prop:=JF K C/\fs.length<1000/\fs.Nodup/\∀x∈fs,kW K C x
mutual
noncomputable def Rep(K:PySem.W.Frag)(A:Addr->Prop)(H:Hp):W->V->Prop
 |.aU,v=>v=.aU
 |.bl b,v=>v=.bl b
 |.int i,v=>v=.int i
 |.str x,v=>v=.str x
 |.ty n,v=>v=.ty n
 |.cls C,v=>v=.ref C
 |.err C,v=>∃a,v=.ref a/\H a=some (WX a C)/\¬A a
 |.tup l,v=>∃p vs,v=.ref p/\H p=some (.tup vs)/\ai K A H l vs
 |.lst l,v=>∃p vs,v=.ref p/\¬A p/\Rd H p (.lst vs)/\ai K A H l vs
 |.dct ks ws,v=>∃p kvs,v=.ref p/\¬A p/\H p=some (.dK kvs)/\ks=kvs.map (fun x=>Xj x.1)/\ai K A H ws (kvs.map (·.2))
 |.obj C fs ws,v=>∃p dx vs,v=.ref p/\¬A p/\H p=some (.ins C dx (fs.zip vs))/\vs.length=fs.length/\Ah K C fs/\ai K A H ws vs
 |.jj ns,v=>∃p,v=.ref p/\((∃o,H p=some (.wO o (.lst (ns.map V.int))))\/jV K (fun _=>none) p (ns.map V.int))
noncomputable def ai(K:PySem.W.Frag)(A:Addr->Prop)(H:Hp):List W->List V->Prop
 |[],vs=>vs=[]
 |w::ws,vs=>∃v r,vs=v::r/\Rep K A H w v/\ai K A H ws r
end
section
variable{K:PySem.W.Frag}{A B:Addr->Prop}{H H':Hp}
theorem ay.rd{p:Addr}{u:HO}(s:ay H H')(h:Rd H p u):Rd H' p u:=by
 rcases h with h|⟨o,h⟩
 ·exact .inl (s _ _ h)
 ·exact .inr ⟨o,s _ _ h⟩
noncomputable def wH(B:Addr->Prop)(H H':Hp):Prop:=∀p o,H p=some o->(E2 o=true/\B p)\/H' p=some o
theorem wH.un{p:Addr}{o:HO}(h:wH A H H')(e:H p=some o)(n:E2 o=true->¬A p):H' p=some o:=by
 rcases h p o e with⟨z,y⟩|z
 ·exact(n z y).elim
 ·exact z
mutual
theorem Rep.chg(h:wH A H H')(ha:∀p o,H p=some o->B p->A p):∀(w:W) {v:V},Rep K A H w v->Rep K B H' w v
 |.aU,_,r=>by rw[Rep]at r⊢;exact r
 |.bl _,_,r=>by rw[Rep]at r⊢;exact r
 |.int _,_,r=>by rw[Rep]at r⊢;exact r
 |.str _,_,r=>by rw[Rep]at r⊢;exact r
 |.ty _,_,r=>by rw[Rep]at r⊢;exact r
 |.cls _,_,r=>by rw[Rep]at r⊢;exact r
 |.err C,v,r=>by
  rw[Rep]at r⊢
  obtain⟨a,e,h1,h2⟩:=r
  exact⟨a,e,h.un h1 (fun z=>by cases z),fun z=>h2 (ha a _ h1 z)⟩
 |.tup l,v,r=>by
  rw[Rep]at r⊢
  obtain⟨p,vs,e,h1,h2⟩:=r
  exact⟨p,vs,e,h.un h1 (fun z=>by cases z),ai.chg h ha l h2⟩
 |.lst l,v,r=>by
  rw[Rep]at r⊢
  obtain⟨p,vs,e,n,h1,h2⟩:=r
  refine⟨p,vs,e,fun z=>?_,?_,ai.chg h ha l h2⟩
  ·rcases h1 with h1|⟨o,h1⟩<;>exact n (ha p _ h1 z)
  ·rcases h1 with h1|⟨o,h1⟩
   ·exact .inl (h.un h1 fun _=>n)
   ·exact .inr ⟨o,h.un h1 fun z=>by cases z⟩
 |.dct ks ws,v,r=>by
  rw[Rep]at r⊢
  obtain⟨p,kvs,e,n,h1,h2,h3⟩:=r
  exact⟨p,kvs,e,fun z=>n (ha p _ h1 z),h.un h1 fun _=>n,h2,ai.chg h ha ws h3⟩
 |.obj C fs ws,v,r=>by
  rw[Rep]at r⊢
  obtain⟨p,dx,vs,e,n,h1,h2,hc,h3⟩:=r
  exact⟨p,dx,vs,e,fun z=>n (ha p _ h1 z),h.un h1 fun _=>n,h2,hc,ai.chg h ha ws h3⟩
 |.jj ns,v,r=>by
  rw[Rep]at r⊢
  obtain⟨p,e,h1⟩:=r
  exact⟨p,e,h1.imp (by rintro⟨o,z⟩;exact⟨o,h.un z fun z=>by cases z⟩) id⟩
theorem ai.chg(h:wH A H H')(ha:∀p o,H p=some o->B p->A p):∀(l:List W) {vs:List V},ai K A H l vs->ai K B H' l vs
 |[],_,r=>by rw[ai]at r⊢;exact r
 |w::l,vs,r=>by
  rw[ai]at r⊢
  obtain⟨v,r',e,h1,h2⟩:=r
  exact⟨v,r',e,Rep.chg h ha w h1,ai.chg h ha l h2⟩
end
theorem wH.same(s:ay H H'):wH A H H':=fun _ _ e=>.inr (s _ _ e)
theorem wH.put{p:Addr}{o0 o:HO}(hp:H p=some o0)(hm:E2 o0=true)(hA:A p):wH A H (upd H p o):=fun q u e=>by
 by_cases n:q=p
 ·subst n
  rw[hp]at e
  cases e
  exact .inl ⟨hm,hA⟩
 ·exact .inr (by rw[ao n];exact e)
theorem Rep.mv(s:ay H H')(ha:∀p o,H p=some o->B p->A p)(w:W){v:V}(h:Rep K A H w v):Rep K B H' w v:=Rep.chg (.same s) ha w h
theorem ai.mv(s:ay H H')(ha:∀p o,H p=some o->B p->A p)(l:List W){vs:List V}(h:ai K A H l vs):ai K B H' l vs:=ai.chg (.same s) ha l h
theorem Rep.same{w:W}{v:V}(s:ay H H')(h:Rep K A H w v):Rep K A H' w v:=Rep.mv s (fun _ _ _ z=>z) w h
theorem ai.same{l:List W}{vs:List V}(s:ay H H')(h:ai K A H l vs):ai K A H' l vs:=ai.mv s (fun _ _ _ z=>z) l h
theorem Rep.less{w:W}{v:V}(ha:∀p,B p->A p)(h:Rep K A H w v):Rep K B H w v:=Rep.mv (ay.refl H) (fun p _ _ z=>ha p z) w h
theorem ai.less{l:List W}{vs:List V}(ha:∀p,B p->A p)(h:ai K A H l vs):ai K B H l vs:=ai.mv (ay.refl H) (fun p _ _ z=>ha p z) l h
theorem ai.put{p:Addr}{xs:List V}{o:HO}(hp:H p=some (.lst xs))(hA:A p)(l:List W){vs:List V}(h:ai K A H l vs):ai K A (upd H p o) l vs:=ai.chg (.put hp rfl hA) (fun _ _ _ z=>z) l h
theorem ai.nil:ai K A H [] []:=by rw[ai]
theorem ai.cons{w:W}{v:V}{l:List W}{vs:List V}(h1:Rep K A H w v)(h2:ai K A H l vs):ai K A H (w::l) (v::vs):=by rw[ai];exact⟨v,vs,rfl,h1,h2⟩
theorem ai.nil_inv{vs:List V}(h:ai K A H [] vs):vs=[]:=by rw[ai]at h;exact h
theorem ai.cons_inv{w:W}{l:List W}{vs:List V}(h:ai K A H (w::l) vs):∃v r,vs=v::r/\Rep K A H w v/\ai K A H l r:=by rw[ai]at h;exact h
theorem ai.len:∀{l:List W} {vs:List V},ai K A H l vs->vs.length=l.length
 |[],vs,h=>by rw[h.nil_inv];rfl
 |w::l,vs,h=>by
  obtain⟨v,r,rfl,_,h2⟩:=h.cons_inv
  rw[List.length_cons,List.length_cons,h2.len]
theorem ai.app:∀{l m:List W} {vs us:List V},ai K A H l vs->ai K A H m us->ai K A H (l++m) (vs++us)
 |[],m,vs,us,h,k=>by rw[h.nil_inv];exact k
 |w::l,m,vs,us,h,k=>by
  obtain⟨v,r,rfl,h1,h2⟩:=h.cons_inv
  exact .cons h1 (h2.app k)
theorem ai.get:∀{l:List W} {vs:List V} {i:Nat} {w:W},ai K A H l vs->l[i]?=some w->∃v,vs[i]?=some v/\Rep K A H w v
 |[],_,_,_,_,e=>by simp at e
 |x::l,vs,0,w,h,e=>by
  obtain⟨v,r,rfl,h1,h2⟩:=h.cons_inv
  simp at e
  subst e
  exact⟨v,rfl,h1⟩
 |x::l,vs,i+1,w,h,e=>by
  obtain⟨v,r,rfl,h1,h2⟩:=h.cons_inv
  obtain⟨u,e2,h3⟩:=h2.get (i:=i) (by simpa using e)
  exact⟨u,by simpa using e2,h3⟩
theorem ai.set:∀{l:List W} {vs:List V} {i:Nat} {w:W} {v:V},ai K A H l vs->Rep K A H w v->ai K A H (l.set i w) (vs.set i v)
 |[],_,_,_,_,h,_=>by rw[h.nil_inv];exact .nil
 |x::l,vs,0,w,v,h,e=>by
  obtain⟨v',r,rfl,h1,h2⟩:=h.cons_inv
  exact .cons e h2
 |x::l,vs,i+1,w,v,h,e=>by
  obtain⟨v',r,rfl,h1,h2⟩:=h.cons_inv
  exact .cons h1 (h2.set e)
theorem ai.take:∀{l:List W} {vs:List V} (n:Nat),ai K A H l vs->ai K A H (l.take n) (vs.take n)
 |_,_,0,_=>.nil
 |[],vs,n+1,h=>by rw[h.nil_inv];exact .nil
 |x::l,vs,n+1,h=>by
  obtain⟨v',r,rfl,h1,h2⟩:=h.cons_inv
  exact .cons h1 (h2.take n)
theorem ai.drop:∀{l:List W} {vs:List V} (n:Nat),ai K A H l vs->ai K A H (l.drop n) (vs.drop n)
 |_,_,0,h=>h
 |[],vs,n+1,h=>by rw[h.nil_inv];exact .nil
 |x::l,vs,n+1,h=>by
  obtain⟨v',r,rfl,h1,h2⟩:=h.cons_inv
  exact h2.drop n
theorem ai.dropLast{l:List W}{vs:List V}(h:ai K A H l vs):ai K A H l.dropLast vs.dropLast:=by
 rw[List.dropLast_eq_take,List.dropLast_eq_take,h.len]
 exact h.take _
theorem ai.rep{l:List W}{vs:List V}(h:ai K A H l vs):∀n:Nat,ai K A H (List.replicate n l).flatten (List.replicate n vs).flatten
 |0=>.nil
 |n+1=>by
  rw[List.replicate_succ,List.replicate_succ,List.flatten_cons,List.flatten_cons]
  exact h.app (h.rep n)
theorem ai.ints{ns:List Int}:∀{vs:List V},ai K A H (ns.map W.int) vs->vs=ns.map V.int:=by
 induction ns with
 |nil=>intro vs h;exact h.nil_inv
 |cons n ns ih=>
  intro vs h
  obtain⟨v,r,rfl,h1,h2⟩:=h.cons_inv
  rw[Rep]at h1
  rw[h1,ih h2]
  rfl
theorem ai.JY(ns:List Int):ai K A H (ns.map W.int) (ns.map V.int):=by
 induction ns with
 |nil=>exact .nil
 |cons n ns ih=>exact .cons (by rw[Rep]) ih
theorem ai.bls{bs:List Bool}:∀{vs:List V},ai K A H (bs.map W.bl) vs->vs=bs.map V.bl:=by
 induction bs with
 |nil=>intro vs h;exact h.nil_inv
 |cons n ns ih=>
  intro vs h
  obtain⟨v,r,rfl,h1,h2⟩:=h.cons_inv
  rw[Rep]at h1
  rw[h1,ih h2]
  rfl
end
end VL
namespace VL
open PySem PySem.Spec
open PyProof.Rows hiding St
open L2
inductive Md where
 |s|f|t (ms:List Md)|o (fs:List Str) (ms:List Md)
 |io (m:Md)
mutual
noncomputable def Fp(K:PySem.W.Frag)(B:Addr->Prop)(H:Hp):Md->W->V->List Addr->Prop
 |.s,w,v,F=>F=[]/\Rep K B H w v
 |.f,w,v,F=>∃ws p vs,w=.lst ws/\v=.ref p/\F=[p]/\H p=some (.lst vs)/\ai K B H ws vs
 |.t ms,w,v,F=>∃ws p vs,w=.tup ws/\v=.ref p/\H p=some (.tup vs)/\cX K B H ms ws vs F
 |.o fs ms,w,v,F=>∃C dx ws p vs F',w=.obj C fs ws/\v=.ref p/\F=p::F'/\H p=some (.ins C dx (fs.zip vs))/\vs.length=fs.length/\Ah K C fs/\cX K B H ms ws vs F'
 |.io _,_,_,_=>False
noncomputable def cX(K:PySem.W.Frag)(B:Addr->Prop)(H:Hp):List Md->List W->List V->List Addr->Prop
 |[],ws,vs,F=>ws=[]/\vs=[]/\F=[]
 |m::ms,ws,vs,F=>∃w nQ v vs' F1 F2,ws=w::nQ/\vs=v::vs'/\F=F1++F2/\Fp K B H m w v F1/\cX K B H ms nQ vs' F2
end
noncomputable def su(B G:Addr->Prop)(H H':Hp):Prop:=∀p o,H p=some o->(E2 o=true/\B p/\¬G p)\/H' p=some o
section
variable{K:PySem.W.Frag}{A B G:Addr->Prop}{H H':Hp}
theorem su.c(h:su A G H H'):wH A H H':=fun p o e=>(h p o e).imp (fun z=>⟨z.1,z.2.1⟩) id
theorem su.un{p:Addr}{o:HO}(h:su A G H H')(e:H p=some o)(g:E2 o=true->G p):H' p=some o:=by
 rcases h p o e with⟨z,_,y⟩|z
 ·exact(y (g z)).elim
 ·exact z
mutual
theorem Fp.chg(h:su A G H H')(ha:∀p o,H p=some o->B p->A p):∀(m:Md) {w:W} {v:V} {F:List Addr},(∀p∈F,G p)->Fp K A H m w v F->Fp K B H' m w v F
 |.s,w,v,F,hF,r=>by
  rw[Fp]at r⊢
  exact⟨r.1,Rep.chg h.c ha w r.2⟩
 |.f,w,v,F,hF,r=>by
  rw[Fp]at r⊢
  obtain⟨ws,p,vs,e1,e2,e3,h1,h2⟩:=r
  exact⟨ws,p,vs,e1,e2,e3,h.un h1 (fun _=>hF p (by rw[e3];exact List.mem_cons_self)),ai.chg h.c ha ws h2⟩
 |.t ms,w,v,F,hF,r=>by
  rw[Fp]at r⊢
  obtain⟨ws,p,vs,e1,e2,h1,h2⟩:=r
  exact⟨ws,p,vs,e1,e2,h.un h1 (fun z=>by cases z),cX.chg h ha ms hF h2⟩
 |.o fs ms,w,v,F,hF,r=>by
  rw[Fp]at r⊢
  obtain⟨C,dx,ws,p,vs,F',e1,e2,e3,h1,h2,hc,h3⟩:=r
  exact⟨C,dx,ws,p,vs,F',e1,e2,e3,h.un h1 (fun _=>hF p (by rw[e3];exact List.mem_cons_self)),h2,hc,cX.chg h ha ms (fun q hq=>hF q (by rw[e3];exact List.mem_cons_of_mem _ hq)) h3⟩
 |.io _,w,v,F,hF,r=>by rw[Fp]at r;exact r.elim
theorem cX.chg(h:su A G H H')(ha:∀p o,H p=some o->B p->A p):∀(ms:List Md) {ws:List W} {vs:List V} {F:List Addr},(∀p∈F,G p)->cX K A H ms ws vs F->cX K B H' ms ws vs F
 |[],_,_,_,_,r=>by rw[cX]at r⊢;exact r
 |m::ms,ws,vs,F,hF,r=>by
  rw[cX]at r⊢
  obtain⟨w,nQ,v,vs',F1,F2,e1,e2,e3,h1,h2⟩:=r
  exact⟨w,nQ,v,vs',F1,F2,e1,e2,e3,Fp.chg h ha m (fun p hp=>hF p (by rw[e3];exact List.mem_append_left _ hp)) h1,cX.chg h ha ms (fun p hp=>hF p (by rw[e3];exact List.mem_append_right _ hp)) h2⟩
end
theorem su.same(s:ay H H'):su A (fun _=>True) H H':=fun _ _ e=>.inr (s _ _ e)
theorem Fp.mv(s:ay H H')(ha:∀p o,H p=some o->B p->A p)(m:Md){w:W}{v:V}{F:List Addr}(h:Fp K A H m w v F):Fp K B H' m w v F:=Fp.chg (.same s) ha m (fun _ _=>trivial) h
theorem cX.mv(s:ay H H')(ha:∀p o,H p=some o->B p->A p)(ms:List Md){w:List W}{v:List V}{F:List Addr}(h:cX K A H ms w v F):cX K B H' ms w v F:=cX.chg (.same s) ha ms (fun _ _=>trivial) h
mutual
theorem Fp.rep(hb:∀p,B p->A p):∀(m:Md) {w:W} {v:V} {F:List Addr},(∀p∈F,¬B p)->Fp K A H m w v F->Rep K B H w v
 |.s,w,v,F,hf,h=>by
  rw[Fp]at h
  exact h.2.less hb
 |.f,w,v,F,hf,h=>by
  rw[Fp]at h
  obtain⟨ws,p,vs,rfl,rfl,rfl,h1,h2⟩:=h
  rw[Rep]
  exact⟨p,vs,rfl,hf p (List.mem_singleton.mpr rfl),.inl h1,h2.less hb⟩
 |.t ms,w,v,F,hf,h=>by
  rw[Fp]at h
  obtain⟨ws,p,vs,rfl,rfl,h1,h2⟩:=h
  rw[Rep]
  exact⟨p,vs,rfl,h1,cX.rep hb ms hf h2⟩
 |.o fs ms,w,v,F,hf,h=>by
  rw[Fp]at h
  obtain⟨C,dx,ws,p,vs,F',rfl,rfl,rfl,h1,h2,hc,h3⟩:=h
  rw[Rep]
  exact⟨p,dx,vs,rfl,hf p List.mem_cons_self,h1,h2,hc,cX.rep hb ms (fun q hq=>hf q (List.mem_cons_of_mem _ hq)) h3⟩
 |.io _,w,v,F,hf,h=>by rw[Fp]at h;exact h.elim
theorem cX.rep(hb:∀p,B p->A p):∀(ms:List Md) {ws:List W} {vs:List V} {F:List Addr},(∀p∈F,¬B p)->cX K A H ms ws vs F->ai K B H ws vs
 |[],_,_,_,_,h=>by
  rw[cX]at h
  obtain⟨rfl,rfl,_⟩:=h
  exact .nil
 |m::ms,ws,vs,F,hf,h=>by
  rw[cX]at h
  obtain⟨w,nQ,v,vs',F1,F2,rfl,rfl,rfl,h1,h2⟩:=h
  exact .cons (Fp.rep hb m (fun p hp=>hf p (List.mem_append_left _ hp)) h1) (cX.rep hb ms (fun p hp=>hf p (List.mem_append_right _ hp)) h2)
end
mutual
theorem Fp.mu:∀(m:Md) {w:W} {v:V} {F:List Addr},Fp K A H m w v F->∀p∈F,∃o,H p=some o/\E2 o=true
 |.s,w,v,F,h,p,hp=>by
  rw[Fp]at h
  rw[h.1]at hp
  cases hp
 |.f,w,v,F,h,p,hp=>by
  rw[Fp]at h
  obtain⟨ws,q,vs,_,_,rfl,h1,_⟩:=h
  rw[List.mem_singleton.mp hp]
  exact⟨_,h1,rfl⟩
 |.t ms,w,v,F,h,p,hp=>by
  rw[Fp]at h
  obtain⟨ws,q,vs,_,_,h1,h2⟩:=h
  exact cX.mu ms h2 p hp
 |.o fs ms,w,v,F,h,p,hp=>by
  rw[Fp]at h
  obtain⟨C,dx,ws,q,vs,F',_,_,rfl,h1,_,_,h3⟩:=h
  rcases List.mem_cons.mp hp with rfl|hp
  ·exact⟨_,h1,rfl⟩
  ·exact cX.mu ms h3 p hp
 |.io _,w,v,F,h,p,hp=>by rw[Fp]at h;exact h.elim
theorem cX.mu:∀(ms:List Md) {ws:List W} {vs:List V} {F:List Addr},cX K A H ms ws vs F->∀p∈F,∃o,H p=some o/\E2 o=true
 |[],_,_,_,h,p,hp=>by
  rw[cX]at h
  rw[h.2.2]at hp
  cases hp
 |m::ms,ws,vs,F,h,p,hp=>by
  rw[cX]at h
  obtain⟨w,nQ,v,vs',F1,F2,_,_,rfl,h1,h2⟩:=h
  rcases List.mem_append.mp hp with hp|hp
  ·exact Fp.mu m h1 p hp
  ·exact cX.mu ms h2 p hp
end
inductive nR where
 |ix (n:Nat)|fl (n:Nat) (x:Str)
noncomputable def b7:W->List nR->Option W
 |w,[]=>some w
 |.tup l,.ix n::π=>match l[n]? with
  |some u=>b7 u π
  |none=>none
 |.obj _ _ l,.fl n _::π=>match l[n]? with
  |some u=>b7 u π
  |none=>none
 |_,_=>none
noncomputable def setAt:W->List nR->W->W
 |_,[],u=>u
 |.tup l,.ix n::π,u=>match l[n]? with
  |some x=>.tup (l.set n (setAt x π u))
  |none=>.tup l
 |.obj C fs l,.fl n _::π,u=>match l[n]? with
  |some x=>.obj C fs (l.set n (setAt x π u))
  |none=>.obj C fs l
 |w,_,_=>w
noncomputable def j8:Md->List nR->Option Md
 |m,[]=>some m
 |.t ms,.ix n::π=>match ms[n]? with
  |some m=>j8 m π
  |none=>none
 |.o fs ms,.fl n x::π=>if fs[n]?=some x then(match ms[n]? with
  |some m=>j8 m π
  |none=>none)else none
 |_,_=>none
noncomputable def wJ(K:PySem.W.Frag)(H:Hp):V->List nR->V->Prop
 |v,[],u=>u=v
 |v,.ix n::π,u=>∃p vs x,v=.ref p/\H p=some (.tup vs)/\vs[n]?=some x/\wJ K H x π u
 |v,.fl n f::π,u=>∃p vs x,v=.ref p/\(∃(C dx:Addr) (fs:List Str),H p=some (.ins C dx (fs.zip vs))/\vs.length=fs.length/\Ah K C fs/\fs[n]?=some f)/\vs[n]?=some x/\wJ K H x π u
theorem qw{α:Type}:∀{l:List α} {n:Nat} {x:α},l[n]?=some x->l.set n x=l
 |[],_,_,e=>by cases e
 |y::l,0,x,e=>by cases e;rfl
 |y::l,n+1,x,e=>by rw[List.set_cons_succ,qw (by simpa using e)]
theorem cX.at:∀(ms:List Md) {ws:List W} {vs:List V} {F:List Addr} {n:Nat} {m:Md} {w:W},cX K A H ms ws vs F->ms[n]?=some m->ws[n]?=some w->
 ∃v F1 F' F2,vs[n]?=some v/\F=F1++F'++F2/\Fp K A H m w v F'/\∀(H':Hp) (B:Addr->Prop) w' v' zA,Fp K B H' m w' v' zA->su A (·∈F1++F2) H H'->(∀p o,H p=some o->B p->A p)->cX K B H' ms (ws.set n w') (vs.set n v') (F1++zA++F2)
 |[],_,_,_,n,m,w,_,e,_=>by cases e
 |m0::ms,ws,vs,F,0,m,w,h,e1,e2=>by
  rw[cX]at h
  obtain⟨w0,nQ,v,vs',F1,F2,rfl,rfl,rfl,h1,h2⟩:=h
  cases e1
  cases e2
  refine⟨v,[],F1,F2,rfl,by simp,h1,fun H' B w' v' zA h' hc ha=>?_⟩
  rw[cX]
  exact⟨w',nQ,v',vs',zA,F2,rfl,rfl,by simp,h',cX.chg hc ha ms (fun p hp=>by simpa using hp) h2⟩
 |m0::ms,ws,vs,F,n+1,m,w,h,e1,e2=>by
  rw[cX]at h
  obtain⟨w0,nQ,v,vs',F1,F2,rfl,rfl,rfl,h1,h2⟩:=h
  obtain⟨u,G1,G',G2,q1,rfl,q3,q4⟩:=cX.at ms h2 (n:=n) (by simpa using e1) (by simpa using e2)
  refine⟨u,F1++G1,G',G2,by simpa using q1,by simp,q3,fun H' B w' v' zA h' hc ha=>?_⟩
  rw[cX]
  refine⟨w0,nQ.set n w',v,vs'.set n v',F1,G1++zA++G2,rfl,rfl,by simp,Fp.chg hc ha m0 (fun p hp=>by simp[hp]) h1,q4 H' B w' v' zA h' (fun p o e=>(hc p o e).imp (fun⟨a,b,c⟩=>⟨a,b,fun z=>c ?_⟩) id) ha⟩
  rcases List.mem_append.mp z with z|z<;>simp[z]
theorem Fp.path:∀(π:List nR) (m:Md) {w:W} {v:V} {F:List Addr} {m':Md} {w':W},Fp K A H m w v F->j8 m π=some m'->b7 w π=some w'->
 ∃v' F1 F' F2,F=F1++F'++F2/\wJ K H v π v'/\Fp K A H m' w' v' F'/\∀(H':Hp) (B:Addr->Prop) w'' zA,Fp K B H' m' w'' v' zA->su A (·∈F1++F2) H H'->(∀p o,H p=some o->B p->A p)->Fp K B H' m (setAt w π w'') v (F1++zA++F2)
 |[],m,w,v,F,m',w',h,e1,e2=>by
  rw[j8]at e1
  rw[b7]at e2
  cases e1
  cases e2
  refine⟨v,[],F,[],by simp,rfl,h,fun H' B w'' zA h' _ _=>?_⟩
  rw[setAt]
  simpa using h'
 |n::π,.s,w,v,F,m',w',h,e1,e2=>by cases n<;>exact nn e1
 |n::π,.f,w,v,F,m',w',h,e1,e2=>by cases n<;>exact nn e1
 |n::π,.io _,w,v,F,m',w',h,e1,e2=>by cases n<;>exact nn e1
 |.fl n _::π,.t ms,w,v,F,m',w',h,e1,e2=>by cases e1
 |.ix n::π,.o fs ms,w,v,F,m',w',h,e1,e2=>by cases e1
 |.ix n::π,.t ms,w,v,F,m',w',h,e1,e2=>by
  rw[Fp]at h
  obtain⟨ws,p,vs,rfl,rfl,h1,h2⟩:=h
  rw[j8]at e1
  rw[b7]at e2
  cases em:ms[n]? with
  |none=>rw[em]at e1;exact nn e1
  |some m1=>
   cases ew:ws[n]? with
   |none=>rw[ew]at e2;exact nn e2
   |some w1=>
    rw[em]at e1
    rw[ew]at e2
    obtain⟨v1,F1,F',F2,q1,rfl,q3,q4⟩:=cX.at ms h2 em ew
    obtain⟨v',G1,G',G2,rfl,r2,r3,r4⟩:=Fp.path π m1 q3 e1 e2
    refine⟨v',F1++G1,G',G2++F2,by simp,⟨p,vs,v1,rfl,h1,q1,r2⟩,r3,fun H' B w'' zA h' hc ha=>?_⟩
    rw[setAt,ew,Fp]
    have a:=q4 H' B _ v1 _ (r4 H' B w'' zA h' (fun p o e=>(hc p o e).imp (by rintro⟨a,b,c⟩;exact⟨a,b,fun z=>c (by rcases List.mem_append.mp z with z|z<;>simp[z])⟩) id) ha) (fun p o e=>(hc p o e).imp (by rintro⟨a,b,c⟩;exact⟨a,b,fun z=>c (by rcases List.mem_append.mp z with z|z<;>simp[z])⟩) id) ha
    rw[qw q1]at a
    refine⟨_,p,vs,rfl,rfl,hc.un h1 (fun z=>by cases z),?_⟩
    simpa using a
 |.fl n f::π,.o fs ms,w,v,F,m',w',h,e1,e2=>by
  rw[Fp]at h
  obtain⟨C,dx,ws,p,vs,F0,rfl,rfl,rfl,h1,hl,hcl,h2⟩:=h
  rw[j8]at e1
  rw[b7]at e2
  by_cases hf:fs[n]?=some f
  rotate_left
  ·rw[if_neg hf]at e1
   cases e1
  rw[if_pos hf]at e1
  cases em:ms[n]? with
  |none=>rw[em]at e1;exact nn e1
  |some m1=>
   cases ew:ws[n]? with
   |none=>rw[ew]at e2;exact nn e2
   |some w1=>
    rw[em]at e1
    rw[ew]at e2
    obtain⟨v1,F1,F',F2,q1,rfl,q3,q4⟩:=cX.at ms h2 em ew
    obtain⟨v',G1,G',G2,rfl,r2,r3,r4⟩:=Fp.path π m1 q3 e1 e2
    refine⟨v',p::F1++G1,G',G2++F2,by simp,⟨p,vs,v1,rfl,⟨C,dx,fs,h1,hl,hcl,hf⟩,q1,r2⟩,r3,fun H' B w'' zA h' hc ha=>?_⟩
    rw[setAt,ew,Fp]
    have a:=q4 H' B _ v1 _ (r4 H' B w'' zA h' (fun p o e=>(hc p o e).imp (by rintro⟨a,b,c⟩;exact⟨a,b,fun z=>c (by rcases List.mem_append.mp z with z|z<;>simp[z])⟩) id) ha) (fun p o e=>(hc p o e).imp (by rintro⟨a,b,c⟩;exact⟨a,b,fun z=>c (by rcases List.mem_append.mp z with z|z<;>simp[z])⟩) id) ha
    rw[qw q1]at a
    refine⟨C,dx,_,p,vs,F1++(G1++zA++G2)++F2,rfl,rfl,by simp,hc.un h1 (fun _=>by simp),hl,hcl,a⟩
end
noncomputable def fK(K:PySem.W.Frag)(A:Addr->Prop)(H H':Hp)(m:Md)(w:W)(v:V):Prop:=
 ∃F:List Addr,F.Nodup/\(∀p∈F,H p=none)/\Fp K (fun q=>A q\/q∈F) H' m w v F
noncomputable def Dom(A:Addr->Prop)(H:Hp):Prop:=∀p,A p->∃o,H p=some o
theorem Dom.no{A:Addr->Prop}{H:Hp}(d:Dom A H){p:Addr}(h:H p=none):¬A p:=fun z=>by
 obtain⟨o,e⟩:=d p z
 rw[h]at e
 cases e
theorem Dom.same{A:Addr->Prop}{H H':Hp}(d:Dom A H)(s:ay H H'):Dom A H':=fun p z=>by
 obtain⟨o,e⟩:=d p z
 exact⟨o,s _ _ e⟩
section
variable{K:PySem.W.Frag}{A B:Addr->Prop}{H H':Hp}{m:Md}{w:W}{v:V}
theorem fK.rep(d:Dom A H)(h:fK K A H H' m w v):Rep K A H' w v:=by
 obtain⟨F,nd,nw,h⟩:=h
 exact Fp.rep (fun p z=>.inl z) m (fun p hp=>d.no (nw p hp)) h
theorem fK.of(h:Rep K A H' w v):fK K A H H' .s w v:=⟨[],List.nodup_nil,by simp,by rw[Fp];exact⟨rfl,h.less fun p z=>by simpa using z⟩⟩
theorem fK.s(d:Dom A H)(h:fK K A H H' m w v):fK K A H H' .s w v:=.of (h.rep d)
theorem fK.new{ws:List W}{p:Addr}{vs:List V}(hp:H p=none)(h1:H' p=some (.lst vs))(h2:ai K A H' ws vs)(hn:ai K (fun q=>A q\/q=p) H' ws vs):fK K A H H' .f (.lst ws) (.ref p):=
 ⟨[p],(by simp),(by simpa using hp),by rw[Fp];exact⟨ws,p,vs,rfl,rfl,rfl,h1,hn.less fun q z=>by simpa using z⟩⟩
theorem fK.fresh{ws:List W}{p:Addr}{vs:List V}{H1:Hp}(s:ay H H1)(hp:H1 p=none)(h:ai K A H1 ws vs):fK K A H (upd H1 p (.lst vs)) .f (.lst ws) (.ref p):=by
 have sm:=aZ hp (.lst vs)
 refine .new (s.free hp) aD (h.same sm) (ai.mv sm (fun q o z y=>?_) ws h)
 rcases y with y|y
 ·exact y
 ·rw[y,hp]at z
  cases z
theorem fK.T7(h:fK K A H H' .f w v):∃ws p vs,w=.lst ws/\v=.ref p/\H p=none/\H' p=some (.lst vs)/\ai K (fun q=>A q\/q=p) H' ws vs:=by
 obtain⟨F,nd,nw,h⟩:=h
 rw[Fp]at h
 obtain⟨ws,p,vs,rfl,rfl,rfl,h1,h2⟩:=h
 exact⟨ws,p,vs,rfl,rfl,nw p (List.mem_singleton.mpr rfl),h1,h2.less fun q z=>by simpa using z⟩
theorem fK.back{H0:Hp}(s:ay H0 H)(hb:∀p,B p->A p)(h:fK K A H H' m w v):fK K B H0 H' m w v:=by
 obtain⟨F,nd,nw,h⟩:=h
 exact⟨F,nd,fun p hp=>s.free (nw p hp),Fp.mv (ay.refl _) (fun p o _ z=>z.imp (hb p) id) m h⟩
end
abbrev Ev:=List (Option W)
noncomputable def look:Ev->Nat->Option W
 |[],_=>none
 |x::_,0=>x
 |_::l,n+1=>look l n
theorem bN:∀{ε:Ev} {i:Nat} {w:W},look ε i=some w↔ε[i]?=some (some w)
 |[],i,w=>by simp[look]
 |x::l,0,w=>by simp[look]
 |x::l,i+1,w=>by rw[look,bN];simp
abbrev Ms:=List (Nat×Md)
def aQ(M:Ms)(i:Nat):Prop:=∃m,(i,m)∈M
structure Fz where
 ab:Addr->Prop
 B:Addr->Prop
 s0:Option V
abbrev FB(A:Fz)(M:Ms)(σ:St):Addr->Prop:=A.B
structure RZ(K:PySem.W.Frag)(M:Ms)(A:Fz)(H0:Hp)(σ:St)(H:Hp)(ε:Ev)(F:Nat->List Addr):Prop where
 un:∀i m m',(i,m)∈M->(i,m')∈M->m=m'
 val:∀i m w,(i,m)∈M->look ε i=some w->∃v,σ[i]?=some (some v)/\Fp K A.B H m w v (F i)
 emp:∀i,aQ M i->look ε i=none->F i=[]
 nd:∀i,aQ M i->(F i).Nodup
 ds:∀i j p,aQ M i->aQ M j->p∈F i->p∈F j->i=j
 nw:∀i p,aQ M i->p∈F i->H0 p=none
 na:∀i p,aQ M i->p∈F i->¬A.ab p
 all:∀p,A.B p↔A.ab p\/∃i,aQ M i/\p∈F i
structure SR(K:PySem.W.Frag)(M:Ms)(A:Fz)(H0:Hp)(σ:St)(H:Hp)(ε:Ev):Prop where
 len:σ.length=ε.length
 sh:∀i w,¬aQ M i->look ε i=some w->∃v,σ[i]?=some (some v)/\Rep K A.B H w v
 sm:ay H0 H
 dm:Dom A.ab H
 sl:∀v,A.s0=some v->σ[0]?=some (some v)/\aQ M 0
 ow:∃F,RZ K M A H0 σ H ε F
theorem aW{ε:Ev}{i j:Nat}{x:Option W}(h:i≠j):look (ε.set i x) j=look ε j:=by
 cases e:look ε j with
 |none=>
  cases e2:look (ε.set i x) j with
  |none=>rfl
  |some w=>
   rw[bN,List.getElem?_set_ne h,←bN,e]at e2
   cases e2
 |some w=>
  rw[bN,List.getElem?_set_ne h,←bN]
  exact e
theorem l7{ε:Ev}{i:Nat}{w w':W}(h:look (ε.set i (some w)) i=some w'):w'=w:=by
 rw[bN,List.getElem?_set]at h
 rw[if_pos rfl]at h
 split at h
 ·cases h
  rfl
 ·cases h
theorem uK{ε:Ev}{i:Nat}{w:W}(h:look ε i=some w):i<ε.length:=by
 rw[bN]at h
 exact(List.getElem?_eq_some_iff.mp h).1
section
variable{K:PySem.W.Frag}{M M':Ms}{A:Fz}{H0 H H1:Hp}{σ:St}{ε:Ev}{F:Nat->List Addr}
theorem RZ.has(O:RZ K M A H0 σ H ε F){i:Nat}{p:Addr}(hi:aQ M i)(hp:p∈F i):∃o,H p=some o/\E2 o=true:=by
 cases hl:look ε i with
 |none=>
  rw[O.emp i hi hl]at hp
  cases hp
 |some w=>
  obtain⟨m,hm⟩:=hi
  obtain⟨v,_,h⟩:=O.val i m w hm hl
  exact Fp.mu m h p hp
theorem SR.dom(S:SR K M A H0 σ H ε):Dom A.B H:=fun p z=>by
 obtain⟨F,O⟩:=S.ow
 rcases(O.all p).mp z with z|⟨i,hi,hp⟩
 ·exact S.dm p z
 ·obtain⟨o,e,_⟩:=O.has hi hp
  exact⟨o,e⟩
theorem SR.sub'(S:SR K M A H0 σ H ε):∀p,A.ab p->A.B p:=fun p z=>by
 obtain⟨F,O⟩:=S.ow
 exact(O.all p).mpr (.inl z)
theorem SR.same(S:SR K M A H0 σ H ε)(s:ay H H1):SR K M A H0 σ H1 ε:=by
 obtain⟨F,O⟩:=S.ow
 exact⟨S.len,fun i w hi e=>let⟨v,h1,h2⟩:=S.sh i w hi e;⟨v,h1,h2.same s⟩,S.sm.trans s,S.dm.same s,S.sl,F,
  ⟨O.un,fun i m w hm e=>let⟨v,h1,h2⟩:=O.val i m w hm e;⟨v,h1,Fp.mv s (fun _ _ _ z=>z) m h2⟩,O.emp,O.nd,O.ds,O.nw,O.na,O.all⟩⟩
theorem SR.sub(S:SR K M A H0 σ H ε)(h:∀x∈M',x∈M)(z0:Option V)(hz:∀v,z0=some v->A.s0=some v/\aQ M' 0):∃A',A'.ab=A.ab/\A'.s0=z0/\(∀p,A'.B p->A.B p)/\SR K M' A' H0 σ H ε:=by
 obtain⟨F,O⟩:=S.ow
 have hh:∀i,aQ M' i->aQ M i:=by rintro i ⟨m,hm⟩;exact⟨m,h _ hm⟩
 have hb:∀p,(A.ab p\/∃i,aQ M' i/\p∈F i)->A.B p:=fun p z=>(O.all p).mpr (z.imp id<|by rintro⟨i,hi,hp⟩;exact⟨i,hh i hi,hp⟩)
 refine⟨⟨A.ab,fun p=>A.ab p\/∃i,aQ M' i/\p∈F i,z0⟩,rfl,rfl,hb,S.len,fun i w hi' e=>?_,S.sm,S.dm,fun v e=>⟨(S.sl v (hz v e).1).1,(hz v e).2⟩,F,⟨fun i m m' a b=>O.un i m m' (h _ a) (h _ b),fun i m w hm e=>?_,fun i hi=>O.emp i (hh i hi),fun i hi=>O.nd i (hh i hi),fun i j p hi hj=>O.ds i j p (hh i hi) (hh j hj),fun i p hi=>O.nw i p (hh i hi),fun i p hi=>O.na i p (hh i hi),fun p=>Iff.rfl⟩⟩
 ·by_cases hi:aQ M i
  ·have hi0:=hi
   obtain⟨m,hm⟩:=hi
   obtain⟨v,h1,h2⟩:=O.val i m w hm e
   refine⟨v,h1,Fp.rep hb m (fun p hp z=>?_) h2⟩
   rcases z with z|⟨j,hj,Xk⟩
   ·exact O.na i p hi0 hp z
   ·have:=O.ds i j p hi0 (hh j hj) hp Xk
    subst this
    exact hi' hj
  ·obtain⟨v,h1,h2⟩:=S.sh i w hi e
   exact⟨v,h1,h2.less hb⟩
 ·obtain⟨v,h1,h2⟩:=O.val i m w (h _ hm) e
  exact⟨v,h1,Fp.mv (ay.refl _) (fun p _ _ z=>hb p z) m h2⟩
theorem SR.go(S:SR K M A H0 σ H ε):SR K [] ⟨A.ab,A.ab,none⟩ H0 σ H ε:=by
 obtain⟨A',e1,e0,e2,S'⟩:=S.sub (M':=[]) (fun x hx=>by cases hx) none (fun v e=>by cases e)
 obtain⟨F,O⟩:=S'.ow
 have e:∀p,A'.B p↔A.ab p:=fun p=>by
  rw[O.all p,e1]
  exact⟨fun z=>z.elim id (by rintro⟨i,⟨m,hm⟩,_⟩;cases hm),.inl⟩
 have:A'.B=A.ab:=funext fun p=>propext (e p)
 have:A'=⟨A.ab,A.ab,none⟩:=by
  cases A'
  simp only at e1 e0 this
  rw[e1,this,e0]
 rw[←this]
 exact S'
theorem SR.set(S:SR K M A H0 σ H ε){i:Nat}{w:W}{v:V}(hi:¬aQ M i)(h:Rep K A.B H w v):SR K M A H0 (σ.set i (some v)) H (ε.set i (some w)):=by
 obtain⟨F,O⟩:=S.ow
 refine⟨by rw[List.length_set,List.length_set];exact S.len,fun j w' hj e=>?_,S.sm,S.dm,fun u e=>?_,F,⟨O.un,fun j m w' hm e=>?_,fun j hj e=>?_,O.nd,O.ds,O.nw,O.na,O.all⟩⟩
 ·by_cases ne:i=j
  ·subst ne
   have hl:i<σ.length:=by
    rw[S.len]
    have:=uK e
    rwa [List.length_set]at this
   have:=l7 e
   subst this
   exact⟨v,List.getElem?_set_self hl,h⟩
  ·rw[aW ne]at e
   obtain⟨u,h1,h2⟩:=S.sh j w' hj e
   exact⟨u,by rw[List.getElem?_set_ne ne];exact h1,h2⟩
 ·obtain⟨h1,h2⟩:=S.sl u e
  exact⟨by rw[List.getElem?_set_ne (by rintro rfl;exact hi h2)];exact h1,h2⟩
 ·have ne:i≠j:=by rintro rfl;exact hi ⟨m,hm⟩
  rw[aW ne]at e
  obtain⟨u,h1,h2⟩:=O.val j m w' hm e
  exact⟨u,by rw[List.getElem?_set_ne ne];exact h1,h2⟩
 ·have ne:i≠j:=by rintro rfl;exact hi hj
  rw[aW ne]at e
  exact O.emp j hj e
theorem SR.own(S:SR K M' A H0 σ H ε){i:Nat}{m:Md}{w:W}{v:V}(hM:∀x,x∈M↔x=(i,m)\/x∈M')(hi:¬aQ M' i)(s:ay H H1)(h:fK K A.B H H1 m w v):
 ∃A',A'.ab=A.ab/\A'.s0=A.s0/\(∀p o,H p=some o->A'.B p->A.B p)/\SR K M A' H0 (σ.set i (some v)) H1 (ε.set i (some w)):=by
 obtain⟨F,O⟩:=S.ow
 obtain⟨G,nd,nw,fp⟩:∃G:List Addr,G.Nodup/\(∀p∈G,H p=none)/\(i<ε.length->Fp K (fun q=>A.B q\/q∈G) H1 m w v G)/\(ε.length<=i->G=[]):=by
  by_cases hil:i<ε.length
  ·obtain⟨G,nd,nw,fp⟩:=h
   exact⟨G,nd,nw,fun _=>fp,fun z=>by lia⟩
  ·exact⟨[],List.nodup_nil,by simp,fun z=>(hil z).elim,fun _=>rfl⟩
 have hm:∀j,aQ M j↔j=i\/aQ M' j:=fun j=>by
  constructor
  ·rintro⟨m',h'⟩
   rcases(hM _).mp h' with e|e
   ·cases e
    exact .inl rfl
   ·exact .inr ⟨m',e⟩
  ·rintro(rfl|⟨m',h'⟩)
   ·exact⟨m,(hM _).mpr (.inl rfl)⟩
   ·exact⟨m',(hM _).mpr (.inr h')⟩
 have ne:∀j,aQ M' j->j≠i:=fun j hj e=>by subst e;exact hi hj
 have old:∀j p,aQ M' j->p∈F j->p∉G:=fun j p hj hp z=>by
  obtain⟨o,e,_⟩:=O.has hj hp
  rw[nw p z]at e
  cases e
 have ba:∀p o,H p=some o->(A.B p\/p∈G)->A.B p:=fun p o e z=>by
  rcases z with z|z
  ·exact z
  ·rw[nw p z]at e
   cases e
 refine⟨⟨A.ab,fun p=>A.B p\/p∈G,A.s0⟩,rfl,rfl,ba,by rw[List.length_set,List.length_set];exact S.len,fun j w' hj e=>?_,S.sm.trans s,S.dm.same s,fun u e=>?_,fun j=>if j=i then G else F j,⟨fun j m1 m2 a b=>?_,fun j m' w' hj e=>?_,fun j hj e=>?_,fun j hj=>?_,fun j k p hj hk a b=>?_,fun j p hj hp=>?_,fun j p hj hp=>?_,fun p=>?_⟩⟩
 ·have hj2:j≠i/\¬aQ M' j:=⟨fun z=>hj ((hm j).mpr (.inl z)),fun z=>hj ((hm j).mpr (.inr z))⟩
  rw[aW (Ne.symm hj2.1)]at e
  obtain⟨u,h1,h2⟩:=S.sh j w' hj2.2 e
  exact⟨u,by rw[List.getElem?_set_ne (Ne.symm hj2.1)];exact h1,Rep.mv s ba w' h2⟩
 ·obtain⟨h1,h2⟩:=S.sl u e
  exact⟨by rw[List.getElem?_set_ne (Ne.symm (ne 0 h2))];exact h1,(hm 0).mpr (.inr h2)⟩
 ·rcases(hM _).mp a with a|a
  ·rcases(hM _).mp b with b|b
   ·cases a
    cases b
    rfl
   ·cases a
    exact(hi ⟨_,b⟩).elim
  ·rcases(hM _).mp b with b|b
   ·cases b
    exact(hi ⟨_,a⟩).elim
   ·exact O.un j m1 m2 a b
 ·rcases(hM _).mp hj with a|a
  ·cases a
   have hil:i<ε.length:=by have:=uK e;rwa [List.length_set]at this
   have:=l7 e
   subst this
   exact⟨v,List.getElem?_set_self (by rw[S.len];exact hil),by rw[if_pos rfl];exact fp.1 hil⟩
  ·have n:=ne j ⟨m',a⟩
   rw[aW (Ne.symm n)]at e
   obtain⟨u,h1,h2⟩:=O.val j m' w' a e
   exact⟨u,by rw[List.getElem?_set_ne (Ne.symm n)];exact h1,by rw[if_neg n];exact Fp.mv s ba m' h2⟩
 ·by_cases n:j=i
  ·subst n
   rw[if_pos rfl]
   refine fp.2 (Nat.le_of_not_lt fun hil=>?_)
   have:look (ε.set j (some w)) j=some w:=by rw[bN];exact List.getElem?_set_self hil
   rw[this]at e
   cases e
  ·rw[aW (Ne.symm n)]at e
   rw[if_neg n]
   exact O.emp j (((hm j).mp hj).resolve_left n) e
 ·by_cases n:j=i
  ·rw[if_pos n]
   exact nd
  ·rw[if_neg n]
   exact O.nd j (((hm j).mp hj).resolve_left n)
 ·by_cases n1:j=i
  ·by_cases n2:k=i
   ·rw[n1,n2]
   ·rw[if_pos n1]at a
    rw[if_neg n2]at b
    exact(old k p (((hm k).mp hk).resolve_left n2) b a).elim
  ·by_cases n2:k=i
   ·rw[if_neg n1]at a
    rw[if_pos n2]at b
    exact(old j p (((hm j).mp hj).resolve_left n1) a b).elim
   ·rw[if_neg n1]at a
    rw[if_neg n2]at b
    exact O.ds j k p (((hm j).mp hj).resolve_left n1) (((hm k).mp hk).resolve_left n2) a b
 ·by_cases n:j=i
  ·rw[if_pos n]at hp
   exact S.sm.free (nw p hp)
  ·rw[if_neg n]at hp
   exact O.nw j p (((hm j).mp hj).resolve_left n) hp
 ·by_cases n:j=i
  ·rw[if_pos n]at hp
   exact S.dm.no (nw p hp)
  ·rw[if_neg n]at hp
   exact O.na j p (((hm j).mp hj).resolve_left n) hp
 ·constructor
  ·rintro(z|z)
   ·rcases(O.all p).mp z with z|⟨j,hj,hp⟩
    ·exact .inl z
    ·exact .inr ⟨j,(hm j).mpr (.inr hj),by rw[if_neg (ne j hj)];exact hp⟩
   ·exact .inr ⟨i,(hm i).mpr (.inl rfl),by rw[if_pos rfl];exact z⟩
  ·rintro(z|⟨j,hj,hp⟩)
   ·exact .inl ((O.all p).mpr (.inl z))
   ·by_cases n:j=i
    ·rw[if_pos n]at hp
     exact .inr hp
    ·rw[if_neg n]at hp
     exact .inl ((O.all p).mpr (.inr ⟨j,((hm j).mp hj).resolve_left n,hp⟩))
theorem RZ.chg(S:SR K M A H0 σ H ε)(O:RZ K M A H0 σ H ε F){i:Nat}{m:Md}{w w':W}{v:V}{F':List Addr}(hi:(i,m)∈M)(hl:look ε i=some w)(hv:σ[i]?=some (some v))
 (hc:∀p o,H p=some o->(E2 o=true/\p∈F i)\/H1 p=some o) (nd:F'.Nodup) (nw:∀p∈F',p∈F i\/H p=none) (h:Fp K (fun p=>(A.B p/\p∉F i)\/p∈F') H1 m w' v F'):
 ∃A',A'.ab=A.ab/\A'.s0=A.s0/\(∀p,A'.B p↔(A.B p/\p∉F i)\/p∈F')/\(∀p o,H p=some o->A'.B p->A.B p)/\wH A.B H H1/\SR K M A' H0 σ H1 (ε.set i (some w')):=by
 have hhi:aQ M i:=⟨m,hi⟩
 have Od:∀p,p∈F i->A.B p:=fun p hp=>(O.all p).mpr (.inr ⟨i,hhi,hp⟩)
 have cB:wH A.B H H1:=fun p o e=>(hc p o e).imp (fun z=>⟨z.1,Od p z.2⟩) id
 have ba:∀p o,H p=some o->((A.B p/\p∉F i)\/p∈F')->A.B p:=fun p o e z=>by
  rcases z with z|z
  ·exact z.1
  ·rcases nw p z with z|z
   ·exact Od p z
   ·rw[z]at e
    cases e
 have V9:∀j p,aQ M j->j≠i->p∈F j->p∉F i/\p∉F':=fun j p hj n hp=>by
  have a:p∉F i:=fun z=>n (O.ds j i p hj hhi hp z)
  refine⟨a,fun z=>?_⟩
  rcases nw p z with z|z
  ·exact a z
  ·obtain⟨o,e,_⟩:=O.has hj hp
   rw[z]at e
   cases e
 refine⟨⟨A.ab,fun p=>(A.B p/\p∉F i)\/p∈F',A.s0⟩,rfl,rfl,fun _=>Iff.rfl,ba,cB,by rw[List.length_set];exact S.len,fun j w'' hj e=>?_,fun p o e=>?_,fun p z=>?_,S.sl,fun j=>if j=i then F' else F j,⟨O.un,fun j m' w'' hj e=>?_,fun j hj e=>?_,fun j hj=>?_,fun j k p hj hk a b=>?_,fun j p hj hp=>?_,fun j p hj hp=>?_,fun p=>?_⟩⟩
 ·have n:i≠j:=by rintro rfl;exact hj hhi
  rw[aW n]at e
  obtain⟨u,h1,h2⟩:=S.sh j w'' hj e
  exact⟨u,h1,Rep.chg cB ba w'' h2⟩
 ·rcases hc p o (S.sm p o e)with⟨_,z⟩|z
  ·rw[O.nw i p hhi z]at e
   cases e
  ·exact z
 ·obtain⟨o,e⟩:=S.dm p z
  rcases hc p o e with⟨_,y⟩|y
  ·exact(O.na i p hhi y z).elim
  ·exact⟨o,y⟩
 ·by_cases n:j=i
  ·subst n
   have em:=O.un j m m' hi hj
   subst em
   have:=l7 e
   subst this
   exact⟨v,hv,by rw[if_pos rfl];exact h⟩
  ·rw[aW (Ne.symm n)]at e
   obtain⟨u,h1,h2⟩:=O.val j m' w'' hj e
   refine⟨u,h1,?_⟩
   rw[if_neg n]
   refine Fp.chg (G:=fun p=>p∈F j) (fun p o e=>?_) ba m' (fun p hp=>hp) h2
   rcases hc p o e with⟨z,y⟩|z
   ·exact .inl ⟨z,Od p y,fun q=>(V9 j p ⟨m',hj⟩ n q).1 y⟩
   ·exact .inr z
 ·by_cases n:j=i
  ·subst n
   have:look (ε.set j (some w')) j=some w':=by rw[bN];exact List.getElem?_set_self (uK hl)
   rw[this]at e
   cases e
  ·rw[aW (Ne.symm n)]at e
   rw[if_neg n]
   exact O.emp j hj e
 ·by_cases n:j=i
  ·rw[if_pos n]
   exact nd
  ·rw[if_neg n]
   exact O.nd j hj
 ·by_cases n1:j=i
  ·by_cases n2:k=i
   ·rw[n1,n2]
   ·rw[if_pos n1]at a
    rw[if_neg n2]at b
    exact((V9 k p hk n2 b).2 a).elim
  ·by_cases n2:k=i
   ·rw[if_neg n1]at a
    rw[if_pos n2]at b
    exact((V9 j p hj n1 a).2 b).elim
   ·rw[if_neg n1]at a
    rw[if_neg n2]at b
    exact O.ds j k p hj hk a b
 ·by_cases n:j=i
  ·rw[if_pos n]at hp
   rcases nw p hp with z|z
   ·exact O.nw i p hhi z
   ·exact S.sm.free z
  ·rw[if_neg n]at hp
   exact O.nw j p hj hp
 ·by_cases n:j=i
  ·rw[if_pos n]at hp
   rcases nw p hp with z|z
   ·exact O.na i p hhi z
   ·exact S.dm.no z
  ·rw[if_neg n]at hp
   exact O.na j p hj hp
 ·constructor
  ·rintro(⟨z,y⟩|z)
   ·rcases(O.all p).mp z with z|⟨j,hj,hp⟩
    ·exact .inl z
    ·have n:j≠i:=by rintro rfl;exact y hp
     exact .inr ⟨j,hj,by rw[if_neg n];exact hp⟩
   ·exact .inr ⟨i,hhi,by rw[if_pos rfl];exact z⟩
  ·rintro(z|⟨j,hj,hp⟩)
   ·exact .inl ⟨(O.all p).mpr (.inl z),fun y=>O.na i p hhi y z⟩
   ·by_cases n:j=i
    ·rw[if_pos n]at hp
     exact .inr hp
    ·rw[if_neg n]at hp
     exact .inl ⟨(O.all p).mpr (.inr ⟨j,hj,hp⟩),(V9 j p hj n hp).1⟩
end
inductive BI where
 |len|abs|max2|min2|sum|all|any|list|tuple|zC
 deriving DecidableEq
inductive CE where
 |var (i:Nat)|int (i:Int)|bl (b:Bool)|str (x:Str)|aU|BD (n:String)|glob (g:Nat)
 |bin (op:Operator) (a b:CE)|neg (a:CE)|not (a:CE)
 |cmp (op:CmpOp) (a b:CE)|sA (o p:CmpOp) (a b c:CE)
 |and (as:List CE)|or (as:List CE)|ite (c a b:CE)
 |tup (as:List CE)|lst (as:List CE)
 |ix (a i:CE)|sl (a lo hi:CE)
 |call (f:Nat) (as:List CE)|blt (b:BI) (as:List CE)|bits (a:CE)
 |comp (ts:List Nat) (one:Bool) (n:Nat) (it:CE) (c:CE) (e:CE)
 |nO (as:List CE)|uL (a:CE)|rev (a:CE)
 |pop (i:Nat)
 |own (i:Nat) (π:List nR)|JZ (i g f:Nat) (as:List CE)
 |Ai (is:List Nat) (a:CE)
inductive CS where
 |set (i:Nat) (e:CE)|DV (ts:List Nat) (e:CE)|par (ts:List Nat) (es:List CE)
 |app (i:Nat) (e:CE)|put (i:Nat) (k e:CE)|drop (i:Nat)|Aj (j:Nat) (e:CE)
 |ret (e:CE)|iff (c:CE) (a b:List CS)|DW (c:CE) (b:List CS)
 |fr (ts:List Nat) (one:Bool) (it:CE) (b:List CS)
 |brk|raise (c:Nat) (e:CE)
 |R3 (i:Nat) (π:List nR) (e:CE)|DX (i n:Nat) (e:CE)
 |R4 (e:CE)|T8 (e:CE)
 |T9 (ts:List Nat) (e:CE)|xj|Ua (ts:List Nat) (e:CE)|Ub (i j k:Nat)
noncomputable def Uc:W->W->(W->Prop)->Prop
 |.int i,.int j,Q=>Q (.int (i+j))
 |.lst a,.lst b,Q=>a.length+b.length<=sizeLine/\Q (.lst (a++b))
 |.tup a,.tup b,Q=>a≠[]/\a.length+b.length<=sizeLine/\Q (.tup (a++b))
 |.str a,.str b,Q=>a.length+b.length<=sizeLine/\Q (.str (a++b))
 |_,_,_=>False
noncomputable def Ud:W->W->(W->Prop)->Prop
 |.int i,.int j,Q=>IntMulOk i j/\Q (.int (i*j))
 |.lst a,.int k,Q=> -(2^63)<=k/\k<2^63/\a.length*k.toNat<=sizeLine/\Q (.lst (List.replicate k.toNat a).flatten)
 |_,_,_=>False
noncomputable def R5(C:Int->Int->Prop)(g:Int->Int->Int):W->W->(W->Prop)->Prop
 |.int i,.int j,Q=>C i j/\Q (.int (g i j))
 |_,_,_=>False
noncomputable def Ue:W->W->(W->Prop)->Prop
 |.int i,.int j,Q=>Q (.int (i -j))
 |_,_,_=>False
noncomputable def gZ:Operator->W->W->(W->Prop)->Prop
 |.Add=>Uc
 |.Sub=>Ue
 |.Mult=>Ud
 |.FloorDiv=>R5 tO fun i j=>i.fdiv j
 |.Mod=>R5 (fun _ j=>j≠0) fun i j=>i.fmod j
 |.Pow=>R5 sj fun i j=>i^j.toNat
 |.LShift=>R5 sj fun i j=>i*2^j.toNat
 |.RShift=>R5 (fun _ j=>0<=j) fun i j=>i/2^j.toNat
 |_=>fun _ _ _=>False
noncomputable def fE:Nat->W->Bool
 |_,.int _=>true
 |_,.str x=>PyData.strOk x
 |_,.aU=>true
 |n+1,.lst l=>l.all (fE n)
 |n+1,.tup l=>l.all (fE n)
 |_,_=>false
noncomputable def gU:Nat->W->Bool
 |_,.bl _=>true
 |_,.str x=>PyData.strOk x
 |_,.aU=>true
 |n+1,.lst l=>l.all (gU n)
 |n+1,.tup l=>l.all (gU n)
 |_,_=>false
noncomputable def Xl(ne:Bool):W->W->(W->Prop)->Prop
 |.int i,.int j,Q=>Q (.bl (if ne then !decide (i=j)else decide (i=j)))
 |.str i,.str j,Q=>Q (.bl (if ne then !decide (i=j)else decide (i=j)))
 |.bl i,.bl j,Q=>Q (.bl (if ne then !decide (i=j)else decide (i=j)))
 |x,y,Q=>((fE 9 x=true/\fE 9 y=true)\/(gU 9 x=true/\gU 9 y=true))/\∀b:Bool,(b=true↔x=y)->Q (.bl (if ne then !b else b))
noncomputable def Gb(p:Int->Int->Bool):W->W->(W->Prop)->Prop
 |.int i,.int j,Q=>Q (.bl (p i j))
 |_,_,_=>False
noncomputable def Xm(ne:Bool):W->W->(W->Prop)->Prop
 |.aU,.aU,Q=>Q (.bl (!ne))
 |.bl _,.aU,Q=>Q (.bl ne)
 |.int _,.aU,Q=>Q (.bl ne)
 |.str _,.aU,Q=>Q (.bl ne)
 |.lst _,.aU,Q=>Q (.bl ne)
 |.tup _,.aU,Q=>Q (.bl ne)
 |.err _,.aU,Q=>Q (.bl ne)
 |_,_,_=>False
noncomputable def cH:CmpOp->W->W->(W->Prop)->Prop
 |.Eq=>Xl false
 |.NotEq=>Xl true
 |.Lt=>Gb fun i j=>decide (i<j)
 |.LtE=>Gb fun i j=>decide (i<=j)
 |.Gt=>Gb fun i j=>decide (j<i)
 |.GtE=>Gb fun i j=>decide (j<=i)
 |.Is=>Xm false
 |.IsNot=>Xm true
 |_=>fun _ _ _=>False
noncomputable def OA:W->W->(W->Prop)->Prop
 |.lst l,.int i,Q=>∃w,lO l i=some w/\Q w
 |.tup l,.int i,Q=>∃w,lO l i=some w/\Q w
 |.jj ns,.int i,Q=>∃n,lO ns i=some n/\Q (.int n)
 |_,_,_=>False
noncomputable def ly(l:List W)(lo hi:Option Int):List W:=(l.drop (HT.tM l.length 0 lo)).take (HT.tM l.length l.length hi -HT.tM l.length 0 lo)
noncomputable def ku:CE->Bool
 |.aU=>true
 |_=>false
noncomputable def prI:W->(Option Int->Prop)->Prop
 |.int i,Q=>Q (some i)
 |_,_=>False
noncomputable def J0(c:CE)(y:W)(Q:Option Int->Prop):Prop:=cond (ku c) (Q none) (prI y Q)
noncomputable def Wa:W->Option Int->Option Int->(W->Prop)->Prop
 |.lst l,lo,hi,Q=>Q (.lst (ly l lo hi))
 |.jj ns,lo,hi,Q=>Q (.lst (ly (ns.map W.int) lo hi))
 |_,_,_,_=>False
noncomputable def Zb:W->Option String
 |.aU=>some "NoneType"
 |.bl _=>some "bool"
 |.int _=>some "int"
 |.str _=>some "str"
 |.lst _=>some "list"
 |.tup _=>some "tuple"
 |_=>none
noncomputable def DY(a b:String):Bool:=a==b||(a=="bool"&&b=="int")
noncomputable def sd:BI->List W->(W->Prop)->Prop
 |.len,[.lst l],Q=>Q (.int l.length)
 |.len,[.tup l],Q=>Q (.int l.length)
 |.len,[.jj ns],Q=>Q (.int ns.length)
 |.abs,[.int i],Q=>Q (.int (if i<0 then-i else i))
 |.max2,[.int i,.int j],Q=>Q (.int (if j>i then j else i))
 |.min2,[.int i,.int j],Q=>Q (.int (if j<i then j else i))
 |.sum,[.lst l],Q=>∃ns:List Int,l=ns.map W.int/\Q (.int ns.sum)
 |.all,[.lst l],Q=>∃bs:List Bool,l=bs.map W.bl/\Q (.bl (bs.all id))
 |.list,[.lst l],Q=>Q (.lst l)
 |.list,[.tup l],Q=>Q (.lst l)
 |.tuple,[.lst l],Q=>Q (.tup l)
 |.tuple,[.tup l],Q=>Q (.tup l)
 |.zC,[w,.ty n],Q=>∃a,Zb w=some a/\Q (.bl (DY a n))
 |_,_,_=>False
noncomputable def bf(ε:Ev):List Nat->List W->Ev
 |i::is,w::ws=>bf (ε.set i (some w)) is ws
 |_,_=>ε
noncomputable def wT(one:Bool)(ts:List Nat)(w:W)(ε:Ev)(Q:Ev->Prop):Prop:=
 match one,ts,w with
 |true,[i],w=>Q (ε.set i (some w))
 |false,ts,.tup l=>l.length=ts.length/\Q (bf ε ts l)
 |_,_,_=>False
noncomputable def j9(f:W->(Option W->Prop)->Prop):List W->List W->(List W->Prop)->Prop
 |[],acc,Q=>Q acc
 |w::ws,acc,Q=>f w fun r=>match r with
  |some y=>acc.length<sizeLine/\j9 f ws (acc++[y]) Q
  |none=>j9 f ws acc Q
noncomputable def truth:W->(Bool->Prop)->Prop
 |.bl b,Q=>Q b
 |_,_=>False
noncomputable def items:W->(List W->Prop)->Prop
 |.lst l,Q=>Q l
 |.tup l,Q=>Q l
 |_,_=>False
noncomputable def iz(lo st:Int)(n:Nat):List W:=(List.range n).map fun(i:Nat)=>W.int (lo+(i:Int)*st)
noncomputable def Gd:List W->(List W->Prop)->Prop
 |[.int j],Q=> -(2^62)<=j/\j<2^62/\Q (iz 0 1 j.toNat)
 |[.int i,.int j],Q=>(-(2^62)<=i/\i<2^62/\-(2^62)<=j/\j<2^62)/\Q (iz i 1 (j -i).toNat)
 |[.int i,.int j,.int k],Q=>∃n:Nat,(k≠0/\k.natAbs<1073741824/\Builtin.Range.small i j k=true/\Builtin.Range.rangeSize i j k=(n:Int))/\Q (iz i k n)
 |_,_=>False
noncomputable def jd(l:List W):List W:=List.zipWith (fun(i:Nat) w=>W.tup [.int i,w]) (List.range l.length) l
abbrev b6:=List W->(W->Prop)->(Addr->Prop)->Prop
noncomputable def OB:W->Bool
 |.aU|.bl _|.int _|.str _=>true
 |_=>false
section
variable(Φ:Nat->b6)(G:Nat->W)
mutual
noncomputable def wE(R:Addr->Prop):CE->Ev->(W->Prop)->Prop
 |.var i,ε,Q=>match look ε i with
  |some w=>Q w
  |none=>False
 |.int i,_,Q=>Q (.int i)
 |.bl b,_,Q=>Q (.bl b)
 |.str x,_,Q=>Q (.str x)
 |.aU,_,Q=>Q .aU
 |.BD n,_,Q=>Q (.ty n)
 |.glob g,_,Q=>Q (G g)
 |.bin op a b,ε,Q=>wE R a ε fun x=>wE R b ε fun y=>gZ op x y Q
 |.neg a,ε,Q=>wE R a ε fun x=>match x with
  |.int i=>Q (.int (-i))
  |_=>False
 |.not a,ε,Q=>wE R a ε fun x=>truth x fun b=>Q (.bl (!b))
 |.cmp op a b,ε,Q=>wE R a ε fun x=>wE R b ε fun y=>cH op x y Q
 |.sA o p a b c,ε,Q=>wE R a ε fun x=>wE R b ε fun y=>cH o x y fun z=>truth z fun k=>if k=true then wE R c ε fun u=>cH p y u Q else Q (.bl false)
 |.and as,ε,Q=>zG R as ε Q
 |.or as,ε,Q=>Nn R as ε Q
 |.ite c a b,ε,Q=>wE R c ε fun x=>truth x fun k=>if k=true then wE R a ε Q else wE R b ε Q
 |.tup as,ε,Q=>wA R as ε fun ws=>ws.length<=sizeLine/\Q (.tup ws)
 |.lst as,ε,Q=>wA R as ε fun ws=>ws.length<=sizeLine/\Q (.lst ws)
 |.ix a i,ε,Q=>wE R a ε fun x=>wE R i ε fun y=>OA x y Q
 |.sl a lo hi,ε,Q=>wE R a ε fun x=>wE R lo ε fun y=>J0 lo y fun l=>wE R hi ε fun z=>J0 hi z fun h=>Wa x l h Q
 |.call f as,ε,Q=>wA R as ε fun ws=>Φ f ws Q R
 |.blt b as,ε,Q=>wA R as ε fun ws=>sd b ws Q
 |.bits a,ε,Q=>wE R a ε fun x=>match x with
  |.int i=>Q (.int (Builtin.Int.intBits i:Nat))
  |_=>False
 |.comp ts one n it c e,ε,Q=>wE R it ε fun z=>items z fun ws=>j9 (fun w K=>wT one ts w (List.replicate n none++ε) fun ε'=>wE (fun _=>False) c ε' fun x=>truth x fun k=>if k=true then wE (fun _=>False) e ε' fun y=>K (some y)else K none) ws [] fun l=>Q (.lst l)
 |.nO as,ε,Q=>wA R as ε fun ws=>Gd ws fun l=>Q (.lst l)
 |.uL a,ε,Q=>wE R a ε fun x=>match x with
  |.lst l=>Q (.lst (jd l))
  |_=>False
 |.rev a,ε,Q=>wE R a ε fun x=>match x with
  |.lst l=>Q (.lst l.reverse)
  |_=>False
 |.pop _,_,_=>False
 |.own i π,ε,Q=>match look ε i with
  |some w=>match b7 w π with
   |some u=>Q u
   |none=>False
  |none=>False
 |.Ai _ a,ε,Q=>wE R a ε fun w=>OB w=true/\Q w
 |.JZ _ _ _ _,_,_=>False
noncomputable def wA(R:Addr->Prop):List CE->Ev->(List W->Prop)->Prop
 |[],_,Q=>Q []
 |a::as,ε,Q=>wE R a ε fun x=>wA R as ε fun xs=>Q (x::xs)
noncomputable def zG(R:Addr->Prop):List CE->Ev->(W->Prop)->Prop
 |[],_,_=>False
 |a::as,ε,Q=>match as with
  |[]=>wE R a ε Q
  |b::bs=>wE R a ε fun x=>truth x fun k=>if k=true then zG R (b::bs) ε Q else Q (.bl false)
noncomputable def Nn(R:Addr->Prop):List CE->Ev->(W->Prop)->Prop
 |[],_,_=>False
 |a::as,ε,Q=>match as with
  |[]=>wE R a ε Q
  |b::bs=>wE R a ε fun x=>truth x fun k=>if k=true then Q (.bl true)else Nn R (b::bs) ε Q
end
structure Dn where
 nx:Ev->Prop
 rt:W->Prop
 bk:Ev->Prop
 ct:Ev->Prop
 ex:Addr->Prop
mutual
noncomputable def wP(R:Addr->Prop):CE->Ev->(W->Ev->Prop)->Prop
 |.pop i,ε,Q=>match look ε i with
  |some (.lst l)=>∃w,l[l.length -1]?=some w/\Q w (ε.set i (some (.lst l.dropLast)))
  |_=>False
 |.JZ i g f as,ε,Q=>match look ε i with
  |some (.obj C _ _)=>G g=.cls C/\Np R as ε fun ws ε'=>match look ε' i with
   |some w0=>Φ f (w0::ws) (fun r=>∃w y,r=.tup [w,y]/\Q w (ε'.set i (some y))) R
   |none=>False
  |_=>False
 |.bin op a b,ε,Q=>wP R a ε fun x gQ=>wP R b gQ fun y jm=>gZ op x y fun z=>Q z jm
 |.cmp op a b,ε,Q=>wP R a ε fun x gQ=>wP R b gQ fun y jm=>cH op x y fun z=>Q z jm
 |.call f as,ε,Q=>Np R as ε fun ws ε'=>Φ f ws (fun w=>Q w ε') R
 |.blt b as,ε,Q=>Np R as ε fun ws ε'=>sd b ws fun w=>Q w ε'
 |.ix a b,ε,Q=>wP R a ε fun x gQ=>wP R b gQ fun y jm=>OA x y fun z=>Q z jm
 |.and as,ε,Q=>Bk R as ε Q
 |e,ε,Q=>wE Φ G R e ε fun w=>Q w ε
noncomputable def Np(R:Addr->Prop):List CE->Ev->(List W->Ev->Prop)->Prop
 |[],ε,Q=>Q [] ε
 |a::as,ε,Q=>wP R a ε fun x gQ=>Np R as gQ fun xs jm=>Q (x::xs) jm
noncomputable def Bk(R:Addr->Prop):List CE->Ev->(W->Ev->Prop)->Prop
 |[],_,_=>False
 |a::as,ε,Q=>match as with
  |[]=>wP R a ε Q
  |b::bs=>wP R a ε fun x ε'=>truth x fun k=>if k=true then Bk R (b::bs) ε' Q else Q (.bl false) ε'
end
noncomputable def pB(b:W->Dn->Ev->Prop)(D:Dn):List W->Ev->Prop
 |[],ε=>D.nx ε
 |w::ws,ε=>b w {nx:=pB b D ws,rt:=D.rt,bk:=D.nx,ct:=pB b D ws,ex:=fun _=>False} ε
noncomputable def OC(c:Ev->(Bool->Prop)->Prop)(b:Dn->Ev->Prop)(D:Dn)(ε:Ev):Prop:=
 ∃J:Nat->Ev->Prop,(∃m,J m ε)/\∀m ε,J m ε->c ε fun k=>if k=true then∃N:Ev->Prop,(∀ε',N ε'->∃m',m'<m/\J m' ε')/\b {nx:=N,rt:=D.rt,bk:=D.nx,ct:=N,ex:=fun _=>False} ε else D.nx ε
mutual
noncomputable def wS:CS->Dn->Ev->Prop
 |.set i e,D,ε=>wE Φ G D.ex e ε fun w=>D.nx (ε.set i (some w))
 |.DV ts e,D,ε=>wE Φ G D.ex e ε fun w=>match w with
  |.tup l=>l.length=ts.length/\D.nx (bf ε ts l)
  |_=>False
 |.par ts es,D,ε=>wA Φ G D.ex es ε fun ws=>ws.length=ts.length/\D.nx (bf ε ts ws)
 |.app i e,D,ε=>match look ε i with
  |some (.lst l)=>wE Φ G D.ex e ε fun w=>l.length<sizeLine/\D.nx (ε.set i (some (.lst (l++[w]))))
  |_=>False
 |.put i k e,D,ε=>wE Φ G D.ex e ε fun w=>match look ε i with
  |some (.lst l)=>wE Φ G D.ex k ε fun x=>match x with
   |.int j=>∃n,wG l.length j=some n/\D.nx (ε.set i (some (.lst (l.set n w))))
   |_=>False
  |_=>False
 |.drop i,D,ε=>wP Φ G D.ex (.pop i) ε fun _ ε'=>D.nx ε'
 |.Aj j e,D,ε=>wP Φ G D.ex e ε fun w ε'=>D.nx (ε'.set j (some w))
 |.ret e,D,ε=>wE Φ G D.ex e ε D.rt
 |.iff c a b,D,ε=>wE Φ G D.ex c ε fun x=>truth x fun k=>if k=true then wSs a D ε else wSs b D ε
 |.DW c b,D,ε=>OC (fun ε Q=>wE Φ G (fun _=>False) c ε fun x=>truth x Q) (wSs b) D ε
 |.fr ts one it b,D,ε=>wE Φ G (fun _=>False) it ε fun z=>items z fun ws=>pB (fun w D' ε'=>wT one ts w ε' fun pC=>wSs b D' pC) D ws ε
 |.brk,D,ε=>D.bk ε
 |.raise g e,D,ε=>match G g with
  |.cls C=>wE Φ G D.ex e ε fun _=>D.ex C
  |_=>False
 |.R3 i π e,D,ε=>match look ε i with
  |some w0=>match b7 w0 π with
   |some (.lst l)=>wE Φ G D.ex e ε fun w=>l.length<sizeLine/\D.nx (ε.set i (some (setAt w0 π (.lst (l++[w])))))
   |_=>False
  |none=>False
 |.DX i n e,D,ε=>wE Φ G D.ex e ε fun w=>match look ε i with
  |some (.obj C fs ws)=>n<ws.length/\D.nx (ε.set i (some (.obj C fs (ws.set n w))))
  |_=>False
 |.R4 e,D,ε=>wE Φ G D.ex e ε fun w=>match look ε 0 with
  |some w0=>D.rt (.tup [w,w0])
  |none=>False
 |.T8 e,D,ε=>wP Φ G D.ex e ε fun _ ε'=>D.nx ε'
 |.T9 ts e,D,ε=>wE Φ G D.ex e ε fun w=>match w with
  |.tup l=>l.length=ts.length/\D.nx (bf ε ts l)
  |_=>False
 |.xj,_,_=>False
 |.Ub i j k,D,ε=>match look ε i with
  |some x=>match look ε j with
   |some y=>match look ε k with
    |some z=>D.rt (.tup [x,y,z])
    |none=>False
   |none=>False
  |none=>False
 |.Ua ts e,D,ε=>wE Φ G D.ex e ε fun w=>match w with
  |.lst l=>l.length=ts.length/\D.nx (bf ε ts l)
  |_=>False
noncomputable def wSs:List CS->Dn->Ev->Prop
 |[],D,ε=>D.nx ε
 |s::ss,D,ε=>match ss with
  |[]=>wS s D ε
  |t::ts=>wS s {D with nx:=wSs (t::ts) D} ε
end
end
noncomputable def bq(K:PySem.W.Frag)(B:Addr->Prop)(H:Hp)(w:W)(v:V):Prop:=
 match w with
 |.lst l=>∃p vs,v=.ref p/\Rd H p (.lst vs)/\ai K B H l vs
 |w=>Rep K B H w v
section
variable{K:PySem.W.Frag}{A B:Addr->Prop}{H H':Hp}{w:W}{v:V}
theorem Rep.b(h:Rep K B H w v):bq K B H w v:=by
 cases w with
 |lst l=>
  rw[Rep]at h
  obtain⟨p,vs,e,_,h1,h2⟩:=h
  exact⟨p,vs,e,h1,h2⟩
 |_=>exact h
theorem bq.same(s:ay H H')(h:bq K B H w v):bq K B H' w v:=by
 cases w with
 |lst l=>
  obtain⟨p,vs,e,h1,h2⟩:=h
  exact⟨p,vs,e,VL.ay.rd s h1,h2.same s⟩
 |_=>exact Rep.same s h
theorem bq.lst{l:List W}(h:bq K B H (.lst l) v):∃p vs,v=.ref p/\Rd H p (.lst vs)/\ai K B H l vs:=h
theorem bq.Ug{l:List W}(h:bq K B H (.tup l) v):∃p vs,v=.ref p/\H p=some (.tup vs)/\ai K B H l vs:=by
 have h:Rep K B H (.tup l) v:=h
 rw[Rep]at h
 exact h
theorem bq.tup{l:List W}(h:bq K B H (.tup l) v):∃p vs,v=.ref p/\kU K H p vs/\ai K B H l vs:=by
 have h:Rep K B H (.tup l) v:=h
 rw[Rep]at h
 obtain⟨p,vs,e,h1,h2⟩:=h
 exact⟨p,vs,e,kU.of h1,h2⟩
theorem bq.int{i:Int}(h:bq K B H (.int i) v):v=.int i:=by
 have h:Rep K B H (.int i) v:=h
 rw[Rep]at h
 exact h
theorem bq.bl{i:Bool}(h:bq K B H (.bl i) v):v=.bl i:=by
 have h:Rep K B H (.bl i) v:=h
 rw[Rep]at h
 exact h
theorem bq.str{i:Str}(h:bq K B H (.str i) v):v=.str i:=by
 have h:Rep K B H (.str i) v:=h
 rw[Rep]at h
 exact h
theorem bq.aU(h:bq K B H .aU v):v=.aU:=by
 have h:Rep K B H .aU v:=h
 rw[Rep]at h
 exact h
theorem bq.ty{n:String}(h:bq K B H (.ty n) v):v=.ty n:=by
 have h:Rep K B H (.ty n) v:=h
 rw[Rep]at h
 exact h
theorem iS(i:Int):Rep K B H (.int i) (.int i):=by rw[Rep]
theorem zD(i:Bool):Rep K B H (.bl i) (.bl i):=by rw[Rep]
theorem Uh(i:Str):Rep K B H (.str i) (.str i):=by rw[Rep]
theorem Ui:Rep K B H .aU .aU:=by rw[Rep]
theorem rTy(n:String):Rep K B H (.ty n) (.ty n):=by rw[Rep]
theorem DZ{l:List W}{p:Addr}{vs:List V}(h1:H p=some (.tup vs))(h2:ai K B H l vs):Rep K B H (.tup l) (.ref p):=by rw[Rep];exact⟨p,vs,rfl,h1,h2⟩
end
abbrev KP:=W->Prop
noncomputable def Cont(K:PySem.W.Frag)(B:Addr->Prop)(H:Hp)(m:Md)(P:KP)(Q:VK):Prop:=∀w v H',P w->ay H H'->fK K B H H' m w v->Q v H'
theorem Cont.now{K:PySem.W.Frag}{B:Addr->Prop}{H:Hp}{P:KP}{Q:VK}(c:Cont K B H .s P Q){w:W}{v:V}(p:P w)(h:Rep K B H w v):Q v H:=c w v H p (ay.refl H) (.of h)
theorem Cont.s{K:PySem.W.Frag}{B:Addr->Prop}{H:Hp}{m:Md}{P:KP}{Q:VK}(d:Dom B H)(c:Cont K B H .s P Q):Cont K B H m P Q:=fun w v H' p s' h=>c w v H' p s' (h.s d)
noncomputable def J1(X:Cx)(f:Value->Value->Sem Value)(r:W->W->KP->Prop)(m:W->W->Md):Prop:=
 ∀(pins:List (Addr×Obj)) (s:Shared) (σ:St) (H:Hp) (B:Addr->Prop) (x y:W) (vx vy:V) (v u:Value) (P:KP) (Q:VK),Inv X pins σ H s->Dom B H->RelV vx v->RelV vy u->bq X.K B H x vx->bq X.K B H y vy->r x y P->Cont X.K B H (m x y) P Q->
  wpAny (model X.prog X.w) X.A (f v u) (EP X pins σ Q) X.xe s
section
variable{X:Cx}
theorem J2:kq X (binaryOp .Add) (fun x y H Q=>∃l b xs zs,x=.ref l/\y=.ref b/\Rd H l (.lst xs)/\Rd H b (.lst zs)/\xs.length+zs.length<=sizeLine/\∀p,H p=none->Q (.ref p) (upd H p (.lst (xs++zs)))):=by
 intro pins s σ H x y v u Q I rx ry h
 obtain⟨l,b,xs,zs,rfl,rfl,hH,hB,hz,q⟩:=h
 cases rx
 cases ry
 obtain⟨z,its,n,r,e⟩:=hH.ok I.hok
 obtain⟨z2,its2,n2,r2,e2⟩:=hB.ok I.hok
 have hl:=r.length
 have hl2:=r2.length
 refine PySem.P.add_list e e2 ?_ (by rw[List.size_toArray,List.size_toArray];lia)
 have ea:its.toArray++its2.toArray=(its++its2).toArray:=by simp
 rw[ea]
 exact⟨.ref _,_,I.TF (t':=s.toks) (r.append r2) (by rw[List.length_append];lia),rfl,q _ I.fresh⟩
theorem J3:kq X (binaryOp .Mult) (fun x y H Q=>∃l k xs,x=.ref l/\y=.int k/\Rd H l (.lst xs)/\-(2^63)<=k/\k<2^63/\xs.length*k.toNat<=sizeLine/\∀p,H p=none->Q (.ref p) (upd H p (.lst (List.replicate k.toNat xs).flatten))):=by
 intro pins s σ H x y v u Q I rx ry h
 obtain⟨l,k,xs,rfl,rfl,hH,h1,h2,hz,q⟩:=h
 cases rx
 obtain⟨t,rfl⟩:=ry
 obtain⟨z,its,n,r,e⟩:=hH.ok I.hok
 have hl:=r.length
 have hlen:its.toArray.size*k.toNat<=sizeLine:=by rw[List.size_toArray,←hl];exact hz
 have hcap:¬its.toArray.size*k.toNat>(2^63 -1)/8:=by
  have:(sizeLine:Nat)<=(2^63 -1)/8:=by decide
  lia
 have hfit:¬(!Builtin.List.listFitsIndex k)=true:=by
  rw[fitsIndex_both h1 h2]
  exact Bool.false_ne_true
 have Uj:¬Builtin.List.listTooLong (its.toArray.size*k.toNat)=true:=by
  rw[FO hlen]
  exact Bool.false_ne_true
 have hnew:List.foldl (fun x1 x2=>x1++x2) #[] (List.replicate (if its.toArray.isEmpty=true then 0 else k.toNat) its.toArray)=(List.replicate k.toNat its).flatten.toArray:=by
  have f0:∀m:Nat,List.foldl (fun x1 x2=>x1++x2) #[] (List.replicate m its.toArray)=(List.replicate m its).flatten.toArray:=fun m=>by
   have:=foldl_rep its m []
   rw[List.nil_append]at this
   exact this
  rw[f0]
  cases its with
  |nil=>simp
  |cons a r'=>rw[if_neg (by simp)]
 refine wpAny_binaryOp_repeat_ref (T:="list") (U:="int") (by decide) ⟨_,e,rfl⟩ (fun s'=>typeIs_int s' k t) noFill_list_mul F.fills_int_mul F.slot_int_rmul repeat_list F.slot_int_index.lookup
  (call_meets F.slot_int_rmul (typeIs_int s k t) F.entry_int_rmul (F.args_int_rmul_2 _ _) (int___rmul___int_list k t l its.toArray n)
    ⟨e,rfl,⟨_,e,rfl⟩,call_meets F.slot_list_mul ⟨_,e,rfl⟩ F.entry_list_mul (F.args_list_mul_2 _ _) (AutoListH.list___mul___list_int_3 l its.toArray n k t hfit hcap Uj) ⟨e,?_⟩⟩)
 rw[hnew]
 exact⟨.ref _,_,I.TF (t':=s.toks) (r.rep k.toNat) (by rw[len_rep,Nat.mul_comm];exact hz),rfl,q _ I.fresh⟩
noncomputable def J5:W->W->Md
 |.lst _,_=>.f
 |_,_=>.s
theorem OD:J1 X (binaryOp .Add) Uc J5:=by
 intro pins s σ H B x y vx vy v u P Q I d rx ry hx hy h c
 cases x with
 |int i=>
  cases y with
  |int j=>
   cases hx.int
   cases hy.int
   exact NV pins s σ H _ _ v u Q I rx ry ⟨i,j,rfl,rfl,c.now h (iS _)⟩
  |_=>exact h.elim
 |str i=>
  cases y with
  |str j=>
   cases hx.str
   cases hy.str
   exact zQ pins s σ H _ _ v u Q I rx ry ⟨i,j,rfl,rfl,h.1,c.now h.2 (Uh _)⟩
  |_=>exact h.elim
 |lst a=>
  cases y with
  |lst b=>
   obtain⟨p,vs,rfl,h1,h2⟩:=hx.lst
   obtain⟨q,us,rfl,k1,k2⟩:=hy.lst
   obtain⟨hl,h⟩:=h
   refine J2 pins s σ H _ _ v u Q I rx ry ⟨p,q,vs,us,rfl,rfl,h1,k1,by rw[h2.len,k2.len];exact hl,fun r hr=>?_⟩
   exact c _ _ _ h (aZ hr _) (.fresh (ay.refl H) hr (h2.app k2))
  |_=>exact h.elim
 |tup a=>
  cases y with
  |tup b=>
   obtain⟨p,vs,rfl,OE,h2⟩:=hx.Ug
   have h1:kU X.K H p vs:=kU.of OE
   obtain⟨q,us,rfl,k1,k2⟩:=hy.tup
   obtain⟨hne,hl,h⟩:=h
   refine JL pins s σ H _ _ v u Q I rx ry ⟨p,q,vs,us,rfl,rfl,h1,k1,fun z=>hne ?_,by rw[h2.len,k2.len];exact hl,fun z=>?_,fun _ r hr=>?_⟩
   ·have:=h2.len
    rw[z]at this
    exact List.length_eq_zero_iff.mp this.symm
   ·have:=k2.len
    rw[z]at this
    have e:b=[]:=List.length_eq_zero_iff.mp this.symm
    subst e
    rw[List.append_nil]at h
    exact c.now h (DZ OE h2)
   ·exact c _ _ _ h (aZ hr _) (.of (DZ aD ((h2.app k2).same (aZ hr _))))
  |_=>exact h.elim
 |_=>exact h.elim
theorem OG:J1 X (binaryOp .Mult) Ud J5:=by
 intro pins s σ H B x y vx vy v u P Q I d rx ry hx hy h c
 cases x with
 |int i=>
  cases y with
  |int j=>
   cases hx.int
   cases hy.int
   exact JQ pins s σ H _ _ v u Q I rx ry ⟨i,j,rfl,rfl,h.1,c.now h.2 (iS _)⟩
  |_=>exact h.elim
 |lst a=>
  cases y with
  |int k=>
   obtain⟨p,vs,rfl,h1,h2⟩:=hx.lst
   cases hy.int
   obtain⟨l1,l2,hl,h⟩:=h
   refine J3 pins s σ H _ _ v u Q I rx ry ⟨p,k,vs,rfl,rfl,h1,l1,l2,by rw[h2.len];exact hl,fun r hr=>?_⟩
   exact c _ _ _ h (aZ hr _) (.fresh (ay.refl H) hr (h2.rep _))
  |_=>exact h.elim
 |_=>exact h.elim
def mS:W->W->Md:=fun _ _=>.s
theorem OH:J1 X (binaryOp .Sub) Ue mS:=by
 intro pins s σ H B x y vx vy v u P Q I d rx ry hx hy h c
 cases x with
 |int i=>
  cases y with
  |int j=>
   cases hx.int
   cases hy.int
   exact NW pins s σ H _ _ v u Q I rx ry ⟨i,j,rfl,rfl,c.now h (iS _)⟩
  |_=>exact h.elim
 |_=>exact h.elim
theorem xm{f:Value->Value->Sem Value}{C:Int->Int->Prop}{g:Int->Int->Int}(ho:kq X f (rI C fun i j=>.int (g i j))):J1 X f (R5 C g) mS:=by
 intro pins s σ H B x y vx vy v u P Q I d rx ry hx hy h c
 cases x with
 |int i=>
  cases y with
  |int j=>
   cases hx.int
   cases hy.int
   exact ho pins s σ H _ _ v u Q I rx ry ⟨i,j,rfl,rfl,h.1,c.now h.2 (iS _)⟩
  |_=>exact h.elim
 |_=>exact h.elim
noncomputable def J6:Operator->W->W->Md
 |.Add=>J5
 |.Mult=>J5
 |_=>mS
theorem Ak(op:Operator):J1 X (binaryOp op) (gZ op) (J6 op):=by
 cases op with
 |Add=>exact OD
 |Sub=>exact OH
 |Mult=>exact OG
 |FloorDiv=>exact xm FW
 |Mod=>exact xm JC
 |Pow=>exact xm NX
 |LShift=>exact xm NY
 |RShift=>exact xm NZ
 |_=>exact fun pins s σ H B x y vx vy v u P Q I d rx ry hx hy h c=>h.elim
theorem uM{f:Value->Value->Sem Value}{p:Int->Int->Bool}(ho:kq X f (EY fun i j=>.bl (p i j))):J1 X f (Gb p) mS:=by
 intro pins s σ H B x y vx vy v u P Q I d rx ry hx hy h c
 cases x with
 |int i=>
  cases y with
  |int j=>
   cases hx.int
   cases hy.int
   exact ho pins s σ H _ _ v u Q I rx ry ⟨i,j,rfl,rfl,c.now h (zD _)⟩
  |_=>exact h.elim
 |_=>exact h.elim
end
mutual
noncomputable def toD:W->PyData
 |.aU=>.none
 |.bl b=>.bool b
 |.int i=>.int i
 |.str x=>.str x
 |.lst l=>.list (toDL l)
 |.tup l=>.tuple (toDL l)
 |_=>.none
noncomputable def toDL:List W->List PyData
 |[]=>[]
 |w::l=>toD w::toDL l
end
mutual
noncomputable def gq:W->Bool
 |.aU=>true
 |.bl _=>true
 |.int _=>true
 |.str x=>PyData.strOk x
 |.lst l=>nY l
 |.tup l=>nY l
 |_=>false
noncomputable def nY:List W->Bool
 |[]=>true
 |w::l=>gq w&&nY l
end
section
variable{X:Cx}{B:Addr->Prop}{H:Hp}
mutual
theorem Uk:∀(w:W) {v:V},gq w=true->Rep X.K B H w v->Dt X H v (toD w)
 |.aU,v,_,h=>by rw[Rep]at h;subst h;rw[toD];exact Ot
 |.bl b,v,_,h=>by rw[Rep]at h;subst h;rw[toD];exact TZ b
 |.int i,v,_,h=>by rw[Rep]at h;subst h;rw[toD];exact Oo i
 |.str x,v,_,h=>by rw[Rep]at h;subst h;rw[toD];exact Oq x
 |.lst l,v,d,h=>by
  rw[Rep]at h
  rw[gq]at d
  rw[toD]
  obtain⟨p,vs,rfl,_,h1,h2⟩:=h
  exact F7 (.inl h1) (BE l d h2)
 |.tup l,v,d,h=>by
  rw[Rep]at h
  rw[gq]at d
  rw[toD]
  obtain⟨p,vs,rfl,h1,h2⟩:=h
  exact Ou (kU.of h1) (BE l d h2)
 |.ty _,_,d,_=>by simp[gq]at d
 |.cls _,_,d,_=>by simp[gq]at d
 |.err _,_,d,_=>by simp[gq]at d
 |.dct _ _,_,d,_=>by simp[gq]at d
 |.obj _ _ _,_,d,_=>by simp[gq]at d
 |.jj _,_,d,_=>by simp[gq]at d
theorem BE:∀(l:List W) {vs:List V},nY l=true->ai X.K B H l vs->Paired (Dt X H) vs (toDL l)
 |[],vs,_,h=>by rw[h.nil_inv,toDL];exact .nil
 |w::l,vs,d,h=>by
  obtain⟨v,r,rfl,h1,h2⟩:=h.cons_inv
  rw[nY,Bool.and_eq_true]at d
  rw[toDL]
  exact .cons (Uk w d.1 h1) (BE l d.2 h2)
end
theorem J7{w:W}{v:V}(d:gq w=true)(h:bq X.K B H w v):Dt X H v (toD w):=by
 cases w with
 |lst l=>
  obtain⟨p,vs,rfl,h1,h2⟩:=h.lst
  rw[gq]at d
  rw[toD]
  exact F7 (.inl h1) (BE l d h2)
 |_=>exact Uk (B:=B) _ d h
end
mutual
theorem toD_lay:∀w:W,gq w=true->(toD w).canLay0=true
 |.aU,_=>by simp[toD,PyData.canLay0]
 |.bl _,_=>by simp[toD,PyData.canLay0]
 |.int _,_=>by simp[toD,PyData.canLay0]
 |.str x,d=>by rw[gq]at d;simp[toD,PyData.canLay0,d]
 |.lst l,d=>by rw[gq]at d;rw[toD,PyData.canLay0];exact toDL_lay l d
 |.tup l,d=>by rw[gq]at d;rw[toD,PyData.canLay0];exact toDL_lay l d
 |.ty _,d=>by simp[gq]at d
 |.cls _,d=>by simp[gq]at d
 |.err _,d=>by simp[gq]at d
 |.dct _ _,d=>by simp[gq]at d
 |.obj _ _ _,d=>by simp[gq]at d
 |.jj _,d=>by simp[gq]at d
theorem toDL_lay:∀l:List W,nY l=true->PyData.canLayAll0 (toDL l)=true
 |[],_=>by simp[toDL,PyData.canLayAll0]
 |w::l,d=>by
  rw[nY,Bool.and_eq_true]at d
  rw[toDL,PyData.canLayAll0,toD_lay w d.1,toDL_lay l d.2]
  rfl
end
mutual
theorem toD_same:∀x y:W,gq x=true->gq y=true->(same (toD x) (toD y)=true↔x=y)
 |.aU,.aU,_,_=>by simp[toD,same]
 |.aU,.bl _,_,_=>by simp[toD,same]
 |.aU,.int _,_,_=>by simp[toD,same]
 |.aU,.str _,_,_=>by simp[toD,same]
 |.aU,.lst _,_,_=>by simp[toD,same]
 |.aU,.tup _,_,_=>by simp[toD,same]
 |.bl _,.aU,_,_=>by simp[toD,same]
 |.bl a,.bl b,_,_=>by simp[toD,same]
 |.bl _,.int _,_,_=>by simp[toD,same]
 |.bl _,.str _,_,_=>by simp[toD,same]
 |.bl _,.lst _,_,_=>by simp[toD,same]
 |.bl _,.tup _,_,_=>by simp[toD,same]
 |.int _,.aU,_,_=>by simp[toD,same]
 |.int _,.bl _,_,_=>by simp[toD,same]
 |.int _,.int _,_,_=>by simp[toD,same]
 |.int _,.str _,_,_=>by simp[toD,same]
 |.int _,.lst _,_,_=>by simp[toD,same]
 |.int _,.tup _,_,_=>by simp[toD,same]
 |.str _,.aU,_,_=>by simp[toD,same]
 |.str _,.bl _,_,_=>by simp[toD,same]
 |.str _,.int _,_,_=>by simp[toD,same]
 |.str _,.str _,_,_=>by simp[toD,same]
 |.str _,.lst _,_,_=>by simp[toD,same]
 |.str _,.tup _,_,_=>by simp[toD,same]
 |.lst _,.aU,_,_=>by simp[toD,same]
 |.lst _,.bl _,_,_=>by simp[toD,same]
 |.lst _,.int _,_,_=>by simp[toD,same]
 |.lst _,.str _,_,_=>by simp[toD,same]
 |.lst a,.lst b,d,e=>by
  rw[gq]at d e
  rw[toD,toD,same,toDL_same a b d e,W.lst.injEq]
 |.lst _,.tup _,_,_=>by simp[toD,same]
 |.tup _,.aU,_,_=>by simp[toD,same]
 |.tup _,.bl _,_,_=>by simp[toD,same]
 |.tup _,.int _,_,_=>by simp[toD,same]
 |.tup _,.str _,_,_=>by simp[toD,same]
 |.tup _,.lst _,_,_=>by simp[toD,same]
 |.tup a,.tup b,d,e=>by
  rw[gq]at d e
  rw[toD,toD,same,toDL_same a b d e,W.tup.injEq]
 |.ty _,_,d,_=>by simp[gq]at d
 |.cls _,_,d,_=>by simp[gq]at d
 |.err _,_,d,_=>by simp[gq]at d
 |.dct _ _,_,d,_=>by simp[gq]at d
 |.obj _ _ _,_,d,_=>by simp[gq]at d
 |.jj _,_,d,_=>by simp[gq]at d
 |_,.ty _,_,d=>by simp[gq]at d
 |_,.cls _,_,d=>by simp[gq]at d
 |_,.err _,_,d=>by simp[gq]at d
 |_,.dct _ _,_,d=>by simp[gq]at d
 |_,.obj _ _ _,_,d=>by simp[gq]at d
 |_,.jj _,_,d=>by simp[gq]at d
theorem toDL_same:∀x y:List W,nY x=true->nY y=true->(sameAll (toDL x) (toDL y)=true↔x=y)
 |[],[],_,_=>by simp[toDL,sameAll]
 |[],_::_,_,_=>by simp[toDL,sameAll]
 |_::_,[],_,_=>by simp[toDL,sameAll]
 |x::xs,y::ys,d,e=>by
  rw[nY,Bool.and_eq_true]at d e
  rw[toDL,toDL,sameAll,Bool.and_eq_true,toD_same x y d.1 e.1,toDL_same xs ys d.2 e.2,List.cons.injEq]
end
theorem toDL_map:∀l:List W,toDL l=l.map toD
 |[]=>by rw[toDL];rfl
 |w::l=>by rw[toDL,toDL_map l];rfl
theorem qx:∀l:List W,nY l=l.all gq
 |[]=>by rw[nY];rfl
 |w::l=>by rw[nY,qx l];rfl
theorem J8:∀(n:Nat) (w:W),(fE n w=true\/gU n w=true)->gq w=true/\(toD w).depth<=n+1
 |n,.aU,_=>by simp[gq,toD,PyData.depth]
 |n,.bl _,_=>by simp[gq,toD,PyData.depth]
 |n,.int _,_=>by simp[gq,toD,PyData.depth]
 |n,.str x,h=>by
  have:PyData.strOk x=true:=by
   rcases h with h|h
   ·unfold fE at h;exact h
   ·unfold gU at h;exact h
  simp[gq,toD,PyData.depth,this]
 |0,.lst l,h=>by rcases h with h|h<;>simp[fE,gU]at h
 |0,.tup l,h=>by rcases h with h|h<;>simp[fE,gU]at h
 |n+1,.lst l,h=>by
  have h1:∀w∈l,gq w=true/\(toD w).depth<=n+1:=fun w hw=>by
   refine J8 n w ?_
   rcases h with h|h
   ·rw[fE]at h;exact .inl (List.all_eq_true.mp h w hw)
   ·rw[gU]at h;exact .inr (List.all_eq_true.mp h w hw)
  refine⟨by rw[gq,qx];exact List.all_eq_true.mpr fun w hw=>(h1 w hw).1,?_⟩
  rw[toD,toDL_map]
  exact Nat.succ_le_succ (xh fun x hx=>by
   obtain⟨w,hw,rfl⟩:=List.mem_map.mp hx
   exact(h1 w hw).2)
 |n+1,.tup l,h=>by
  have h1:∀w∈l,gq w=true/\(toD w).depth<=n+1:=fun w hw=>by
   refine J8 n w ?_
   rcases h with h|h
   ·rw[fE]at h;exact .inl (List.all_eq_true.mp h w hw)
   ·rw[gU]at h;exact .inr (List.all_eq_true.mp h w hw)
  refine⟨by rw[gq,qx];exact List.all_eq_true.mpr fun w hw=>(h1 w hw).1,?_⟩
  rw[toD,toDL_map]
  exact Nat.succ_le_succ (xh fun x hx=>by
   obtain⟨w,hw,rfl⟩:=List.mem_map.mp hx
   exact(h1 w hw).2)
 |0,.ty _,h=>by rcases h with h|h<;>simp[fE,gU]at h
 |0,.cls _,h=>by rcases h with h|h<;>simp[fE,gU]at h
 |0,.err _,h=>by rcases h with h|h<;>simp[fE,gU]at h
 |0,.dct _ _,h=>by rcases h with h|h<;>simp[fE,gU]at h
 |0,.obj _ _ _,h=>by rcases h with h|h<;>simp[fE,gU]at h
 |0,.jj _,h=>by rcases h with h|h<;>simp[fE,gU]at h
 |n+1,.ty _,h=>by rcases h with h|h<;>simp[fE,gU]at h
 |n+1,.cls _,h=>by rcases h with h|h<;>simp[fE,gU]at h
 |n+1,.err _,h=>by rcases h with h|h<;>simp[fE,gU]at h
 |n+1,.dct _ _,h=>by rcases h with h|h<;>simp[fE,gU]at h
 |n+1,.obj _ _ _,h=>by rcases h with h|h<;>simp[fE,gU]at h
 |n+1,.jj _,h=>by rcases h with h|h<;>simp[fE,gU]at h
inductive BF(b:Bool):PyData->Prop where
 |none:BF b .none
 |str (x:Str):BF b (.str x)
 |bool (x:Bool) (h:b=true):BF b (.bool x)
 |int (x:Int) (h:b=false):BF b (.int x)
 |list {l:List PyData} (h:∀x∈l,BF b x):BF b (.list l)
 |tuple {l:List PyData} (h:∀x∈l,BF b x):BF b (.tuple l)
mutual
theorem uN{b:Bool}:∀d e:PyData,BF b d->BF b e->SeqAt.noMix d e=true
 |.list xs,.list ys,h,k=>by
  cases h with
  |list h=>
   cases k with
   |list k=>rw[SeqAt.noMix];exact qy xs ys h k
 |.tuple xs,.tuple ys,h,k=>by
  cases h with
  |tuple h=>
   cases k with
   |tuple k=>rw[SeqAt.noMix];exact qy xs ys h k
 |.bool _,.int _,h,k=>by
  cases h with
  |bool _ h=>
   cases k with
   |int _ k=>rw[h]at k;cases k
 |.int _,.bool _,h,k=>by
  cases h with
  |int _ h=>
   cases k with
   |bool _ k=>rw[h]at k;exact ff k
 |.dict _,_,h,_=>by cases h
 |.none,.none,_,_=>by simp[SeqAt.noMix]
 |.none,.bool _,_,_=>by simp[SeqAt.noMix]
 |.none,.int _,_,_=>by simp[SeqAt.noMix]
 |.none,.str _,_,_=>by simp[SeqAt.noMix]
 |.none,.list _,_,_=>by simp[SeqAt.noMix]
 |.none,.tuple _,_,_=>by simp[SeqAt.noMix]
 |.none,.dict _,_,_=>by simp[SeqAt.noMix]
 |.bool _,.none,_,_=>by simp[SeqAt.noMix]
 |.bool _,.bool _,_,_=>by simp[SeqAt.noMix]
 |.bool _,.str _,_,_=>by simp[SeqAt.noMix]
 |.bool _,.list _,_,_=>by simp[SeqAt.noMix]
 |.bool _,.tuple _,_,_=>by simp[SeqAt.noMix]
 |.bool _,.dict _,_,_=>by simp[SeqAt.noMix]
 |.int _,.none,_,_=>by simp[SeqAt.noMix]
 |.int _,.int _,_,_=>by simp[SeqAt.noMix]
 |.int _,.str _,_,_=>by simp[SeqAt.noMix]
 |.int _,.list _,_,_=>by simp[SeqAt.noMix]
 |.int _,.tuple _,_,_=>by simp[SeqAt.noMix]
 |.int _,.dict _,_,_=>by simp[SeqAt.noMix]
 |.str _,.none,_,_=>by simp[SeqAt.noMix]
 |.str _,.bool _,_,_=>by simp[SeqAt.noMix]
 |.str _,.int _,_,_=>by simp[SeqAt.noMix]
 |.str _,.str _,_,_=>by simp[SeqAt.noMix]
 |.str _,.list _,_,_=>by simp[SeqAt.noMix]
 |.str _,.tuple _,_,_=>by simp[SeqAt.noMix]
 |.str _,.dict _,_,_=>by simp[SeqAt.noMix]
 |.list _,.none,_,_=>by simp[SeqAt.noMix]
 |.list _,.bool _,_,_=>by simp[SeqAt.noMix]
 |.list _,.int _,_,_=>by simp[SeqAt.noMix]
 |.list _,.str _,_,_=>by simp[SeqAt.noMix]
 |.list _,.tuple _,_,_=>by simp[SeqAt.noMix]
 |.list _,.dict _,_,_=>by simp[SeqAt.noMix]
 |.tuple _,.none,_,_=>by simp[SeqAt.noMix]
 |.tuple _,.bool _,_,_=>by simp[SeqAt.noMix]
 |.tuple _,.int _,_,_=>by simp[SeqAt.noMix]
 |.tuple _,.str _,_,_=>by simp[SeqAt.noMix]
 |.tuple _,.list _,_,_=>by simp[SeqAt.noMix]
 |.tuple _,.dict _,_,_=>by simp[SeqAt.noMix]
theorem qy{b:Bool}:∀xs ys:List PyData,(∀x∈xs,BF b x)->(∀y∈ys,BF b y)->SeqAt.noMixAll xs ys=true
 |[],[],_,_=>by simp[SeqAt.noMixAll]
 |[],_::_,_,_=>by simp[SeqAt.noMixAll]
 |_::_,[],_,_=>by simp[SeqAt.noMixAll]
 |x::xs,y::ys,h,k=>by
  rw[SeqAt.noMixAll,uN x y (h x List.mem_cons_self) (k y List.mem_cons_self),qy xs ys (fun z hz=>h z (List.mem_cons_of_mem _ hz)) fun z hz=>k z (List.mem_cons_of_mem _ hz)]
  rfl
end
theorem uO:∀(n:Nat) (w:W),fE n w=true->BF false (toD w)
 |n,.aU,_=>by rw[toD];exact .none
 |n,.int i,_=>by rw[toD];exact .int i rfl
 |n,.str x,_=>by rw[toD];exact .str x
 |n,.bl _,h=>by cases n<;>simp[fE]at h
 |n+1,.lst l,h=>by
  rw[fE]at h
  rw[toD,toDL_map]
  exact .list fun x hx=>by
   obtain⟨w,hw,rfl⟩:=List.mem_map.mp hx
   exact uO n w (List.all_eq_true.mp h w hw)
 |n+1,.tup l,h=>by
  rw[fE]at h
  rw[toD,toDL_map]
  exact .tuple fun x hx=>by
   obtain⟨w,hw,rfl⟩:=List.mem_map.mp hx
   exact uO n w (List.all_eq_true.mp h w hw)
 |0,.lst l,h=>by simp[fE]at h
 |0,.tup l,h=>by simp[fE]at h
 |n,.ty _,h=>by cases n<;>simp[fE]at h
 |n,.cls _,h=>by cases n<;>simp[fE]at h
 |n,.err _,h=>by cases n<;>simp[fE]at h
 |n,.dct _ _,h=>by cases n<;>simp[fE]at h
 |n,.obj _ _ _,h=>by cases n<;>simp[fE]at h
 |n,.jj _,h=>by cases n<;>simp[fE]at h
theorem uP:∀(n:Nat) (w:W),gU n w=true->BF true (toD w)
 |n,.aU,_=>by rw[toD];exact .none
 |n,.bl i,_=>by rw[toD];exact .bool i rfl
 |n,.str x,_=>by rw[toD];exact .str x
 |n,.int _,h=>by cases n<;>simp[gU]at h
 |n+1,.lst l,h=>by
  rw[gU]at h
  rw[toD,toDL_map]
  exact .list fun x hx=>by
   obtain⟨w,hw,rfl⟩:=List.mem_map.mp hx
   exact uP n w (List.all_eq_true.mp h w hw)
 |n+1,.tup l,h=>by
  rw[gU]at h
  rw[toD,toDL_map]
  exact .tuple fun x hx=>by
   obtain⟨w,hw,rfl⟩:=List.mem_map.mp hx
   exact uP n w (List.all_eq_true.mp h w hw)
 |0,.lst l,h=>by simp[gU]at h
 |0,.tup l,h=>by simp[gU]at h
 |n,.ty _,h=>by cases n<;>simp[gU]at h
 |n,.cls _,h=>by cases n<;>simp[gU]at h
 |n,.err _,h=>by cases n<;>simp[gU]at h
 |n,.dct _ _,h=>by cases n<;>simp[gU]at h
 |n,.obj _ _ _,h=>by cases n<;>simp[gU]at h
 |n,.jj _,h=>by cases n<;>simp[gU]at h
section
variable{X:Cx}
theorem uQ(hu:X.A.units+64<cLine)(ne:Bool){pins:List (Addr×Obj)}{s:Shared}{σ:St}{H:Hp}{B:Addr->Prop}{x y:W}{vx vy:V}{v u:Value}{P:KP}{Q:VK}(I:Inv X pins σ H s)(rx:RelV vx v)(ry:RelV vy u)(hx:bq X.K B H x vx)(hy:bq X.K B H y vy)
 (h:((fE 9 x=true/\fE 9 y=true)\/(gU 9 x=true/\gU 9 y=true))/\∀b:Bool,(b=true↔x=y)->P (.bl (if ne then !b else b))) (c:Cont X.K B H .s P Q):
 wpAny (model X.prog X.w) X.A (compareOp (if ne then .NotEq else .Eq) v u) (EP X pins σ Q) X.xe s:=by
 obtain⟨hp,h⟩:=h
 have d1:=J8 9 x (hp.imp And.left And.left)
 have d2:=J8 9 y (hp.imp And.right And.right)
 have sx:SeqAt.shaped (toD x)=true:=by
  unfold SeqAt.shaped
  rw[toD_lay x d1.1,decide_eq_true (Nat.le_trans d1.2 (by decide))]
  rfl
 have sy:SeqAt.shaped (toD y)=true:=by
  unfold SeqAt.shaped
  rw[toD_lay y d2.1,decide_eq_true (Nat.le_trans d2.2 (by decide))]
  rfl
 have mx:SeqAt.noMix (toD x) (toD y)=true:=by
  rcases hp with⟨h1,h2⟩|⟨h1,h2⟩
  ·exact uN _ _ (uO 9 x h1) (uO 9 y h2)
  ·exact uN _ _ (uP 9 x h1) (uP 9 y h2)
 have q:=h (same (toD x) (toD y)) (toD_same x y d1.1 d2.1)
 cases ne with
 |true=>exact Ow hu pins s σ H _ _ v u Q I rx ry ⟨_,_,J7 d1.1 hx,J7 d2.1 hy,⟨sx,sy,mx⟩,c.now q (zD _)⟩
 |false=>exact Ov hu pins s σ H _ _ v u Q I rx ry ⟨_,_,J7 d1.1 hx,J7 d2.1 hy,⟨sx,sy,mx⟩,c.now q (zD _)⟩
theorem ME(hu:X.A.units+64<cLine)(ne:Bool):J1 X (compareOp (if ne then .NotEq else .Eq)) (Xl ne) mS:=by
 intro pins s σ H B x y vx vy v u P Q I d rx ry hx hy h c
 have sc:∀a b:V,N4 a b=true->(∀k:Bool,k=decide (a=b)->Q (.bl (if ne then !k else k)) H)->RelV a v->RelV b u->wpAny (model X.prog X.w) X.A (compareOp (if ne then .NotEq else .Eq) v u) (EP X pins σ Q) X.xe s:=fun a b hs q ra rb=>by
  cases ne with
  |true=>exact Th pins s σ H _ _ v u Q I ra rb ⟨hs,q _ rfl⟩
  |false=>exact Tg pins s σ H _ _ v u Q I ra rb ⟨hs,q _ rfl⟩
 cases x with
 |int i=>
  cases y with
  |int j=>
   cases hx.int
   cases hy.int
   refine sc _ _ rfl (fun k hk=>c.now (w:=.bl (if ne then !k else k)) ?_ (zD _)) rx ry
   rw[hk,show decide (V.int i=V.int j)=decide (i=j)from by simp]
   exact h
  |_=>exact uQ hu ne I rx ry hx hy h c
 |str i=>
  cases y with
  |str j=>
   cases hx.str
   cases hy.str
   refine sc _ _ rfl (fun k hk=>c.now (w:=.bl (if ne then !k else k)) ?_ (zD _)) rx ry
   rw[hk,show decide (V.str i=V.str j)=decide (i=j)from by simp]
   exact h
  |_=>exact uQ hu ne I rx ry hx hy h c
 |bl i=>
  cases y with
  |bl j=>
   cases hx.bl
   cases hy.bl
   refine sc _ _ rfl (fun k hk=>c.now (w:=.bl (if ne then !k else k)) ?_ (zD _)) rx ry
   rw[hk,show decide (V.bl i=V.bl j)=decide (i=j)from by simp]
   exact h
  |_=>exact uQ hu ne I rx ry hx hy h c
 |_=>exact uQ hu ne I rx ry hx hy h c
theorem MF(ne:Bool):J1 X (compareOp (if ne then .IsNot else .Is)) (Xm ne) mS:=by
 intro pins s σ H B x y vx vy v u P Q I d rx ry hx hy h c
 have fin:vy=.aU->(∀k:Bool,k=decide (vx=.aU)->P (.bl (if ne then !k else k)))->wpAny (model X.prog X.w) X.A (compareOp (if ne then .IsNot else .Is) v u) (EP X pins σ Q) X.xe s:=fun e q=>by
  cases ne with
  |true=>exact JD pins s σ H _ _ v u Q I rx ry ⟨e,c.now (q _ rfl) (zD _)⟩
  |false=>exact N5 pins s σ H _ _ v u Q I rx ry ⟨e,c.now (q _ rfl) (zD _)⟩
 cases y with
 |aU=>
  have e:=hy.aU
  cases x with
  |aU=>
   have e2:=hx.aU
   refine fin e fun k hk=>?_
   rw[hk,e2]
   cases ne<;>exact h
  |bl b=>
   have e2:=hx.bl
   refine fin e fun k hk=>?_
   rw[hk,e2]
   cases ne<;>exact h
  |int b=>
   have e2:=hx.int
   refine fin e fun k hk=>?_
   rw[hk,e2]
   cases ne<;>exact h
  |str b=>
   have e2:=hx.str
   refine fin e fun k hk=>?_
   rw[hk,e2]
   cases ne<;>exact h
  |lst b=>
   obtain⟨p,vs,e2,_⟩:=hx.lst
   refine fin e fun k hk=>?_
   rw[hk,e2]
   cases ne<;>exact h
  |tup b=>
   obtain⟨p,vs,e2,_⟩:=hx.tup
   refine fin e fun k hk=>?_
   rw[hk,e2]
   cases ne<;>exact h
  |err b=>
   have hx:Rep X.K B H (.err b) vx:=hx
   rw[Rep]at hx
   obtain⟨p,e2,_⟩:=hx
   refine fin e fun k hk=>?_
   rw[hk,e2]
   cases ne<;>exact h
  |_=>exact h.elim
 |_=>
  exfalso
  cases x<;>exact h
theorem Al(hu:X.A.units+64<cLine)(op:CmpOp):J1 X (compareOp op) (cH op) mS:=by
 cases op with
 |Eq=>exact ME hu false
 |NotEq=>exact ME hu true
 |Lt=>exact uM Mx
 |LtE=>exact uM My
 |Gt=>exact uM Mz
 |GtE=>exact uM MA
 |Is=>exact MF false
 |IsNot=>exact MF true
 |_=>exact fun pins s σ H B x y vx vy v u P Q I d rx ry hx hy h c=>h.elim
end
noncomputable def ER(X:Cx)(H0:Hp)(R:Addr->Prop):Prop:=∃E:XK,Passes (cV X.prog X.w) X E/\(∀C H',R C->ay H0 H'->E (.ref C) none H')/\Ad X (fun C H'=>R C/\ay H0 H')
theorem Ea{X:Cx}:Passes (cV X.prog X.w) X E0:=fun _ _ _ _ _ _ _ h=>by
 obtain⟨_,_,_,_,_,q⟩:=h
 exact q.elim
theorem ER.none{X:Cx}{H0:Hp}:ER X H0 fun _=>False:=⟨E0,Ea,fun _ _ z=>z.elim,fun _ _ _ _ _ _ _ _ _ _ z=>z.1.elim⟩
abbrev RL:=(Addr->Prop)->Hp->Hp->W->V->Prop
abbrev WT:=Ev->(W->Prop)->Prop
noncomputable def Ge(K:PySem.W.Frag)(m:Md):RL:=fun B H H' w v=>fK K B H H' m w v
noncomputable def Zc(K:PySem.W.Frag):RL:=fun B _ H' w v=>bq K B H' w v
noncomputable def tV(X:Cx)(M:Ms)(R:Addr->Prop)(ρ:RL)(t:WT):TE:=fun σ H Q=>∃A H0 ε P,SR X.K M A H0 σ H ε/\ER X H0 R/\t ε P/\∀w v H',P w->ay H H'->ρ (FB A M σ) H H' w v->Q v H'
noncomputable def Zd(X:Cx)(M:Ms)(R:Addr->Prop)(t:WT):TT:=fun σ H Q=>∃A H0 ε P,SR X.K M A H0 σ H ε/\ER X H0 R/\t ε P/\∀x H',P x->ay H H'->∃b,x=.bl b/\Q b H'
abbrev Xn:=(Addr->Prop)->Hp->List W->List V->Prop
noncomputable def Ze(X:Cx)(M:Ms)(R:Addr->Prop)(ρ:Xn)(t:Ev->(List W->Prop)->Prop):TA:=fun σ H Q=>∃A H0 ε P,SR X.K M A H0 σ H ε/\ER X H0 R/\t ε P/\∀ws vs H',P ws->ay H H'->ρ (FB A M σ) H' ws vs->Q vs H'
abbrev VE(X:Cx)(M:Ms)(R:Addr->Prop)(m:Md)(e:Expr)(t:WT):Prop:=PE X e (tV X M R (Ge X.K m) t)
abbrev VB(X:Cx)(M:Ms)(R:Addr->Prop)(e:Expr)(t:WT):Prop:=PE X e (tV X M R (Zc X.K) t)
abbrev VT(X:Cx)(M:Ms)(R:Addr->Prop)(e:Expr)(t:WT):Prop:=PT X e (Zd X M R t)
noncomputable def oK(K:PySem.W.Frag)(B:Addr->Prop)(H:Hp):List W->List V->Prop
 |[],vs=>vs=[]
 |w::ws,vs=>∃v r,vs=v::r/\bq K B H w v/\oK K B H ws r
noncomputable def ρL(K:PySem.W.Frag):Xn:=fun B H ws vs=>ai K B H ws vs
noncomputable def Xo(K:PySem.W.Frag):Xn:=fun B H ws vs=>oK K B H ws vs
abbrev VA(X:Cx)(M:Ms)(R:Addr->Prop)(es:List Expr)(t:Ev->(List W->Prop)->Prop):Prop:=PA X es (Ze X M R (ρL X.K) t)
abbrev R6(X:Cx)(M:Ms)(R:Addr->Prop)(es:List Expr)(t:Ev->(List W->Prop)->Prop):Prop:=PA X es (Ze X M R (Xo X.K) t)
theorem PE.imp{X:Cx}{e:Expr}{t t':TE}(h:PE X e t)(k:∀σ H Q,t' σ H Q->t σ H Q):PE X e t':=fun pins s σ H Q I w=>h pins s σ H Q I (k σ H Q w)
theorem PT.imp{X:Cx}{e:Expr}{t t':TT}(h:PT X e t)(k:∀σ H Q,t' σ H Q->t σ H Q):PT X e t':=fun pins s σ H Q I w=>h pins s σ H Q I (k σ H Q w)
theorem PW.imp{X:Cx}{e:Expr}{t t':TT}(h:PW X e t)(k:∀σ H Q,t' σ H Q->t σ H Q):PW X e t':=fun wh pins s σ H Q I w=>h wh pins s σ H Q I (k σ H Q w)
theorem PA.imp{X:Cx}{e:List Expr}{t t':TA}(h:PA X e t)(k:∀σ H Q,t' σ H Q->t σ H Q):PA X e t':=fun pos pins s σ H Q I w=>h pos pins s σ H Q I (k σ H Q w)
section
variable{X:Cx}{M:Ms}{R:Addr->Prop}{e a b c:Expr}{t ta tb tc:WT}{m:Md}{pos:Pos}
theorem Gf(h:VE X M R m e t):VE X M R .s e t:=PE.imp h<|by rintro σ H Q ⟨A,H0,ε,P,S,er,p,k⟩;exact⟨A,H0,ε,P,S,er,p,fun w v H' pw s r=>k w v H' pw s (r.s S.dom)⟩
theorem Ul(h:VE X M R m e t):VB X M R e t:=PE.imp h<|by rintro σ H Q ⟨A,H0,ε,P,S,er,p,k⟩;exact⟨A,H0,ε,P,S,er,p,fun w v H' pw s r=>k w v H' pw s (r.rep S.dom).b⟩
theorem Gg{i:Nat}(h:PE X e (j7 i))(hm:aQ M i->(i,.f)∈M):VB X M R e (fun ε Q=>match look ε i with|some w=>Q w|none=>False):=PE.imp h<|by
 rintro σ H Q ⟨A,H0,ε,P,S,er,p,k⟩
 revert p
 cases hl:look ε i with
 |none=>exact fun p=>p.elim
 |some w=>
  intro p
  by_cases hi:aQ M i
  ·obtain⟨F,O⟩:=S.ow
   obtain⟨v,h1,h2⟩:=O.val i .f w (hm hi) hl
   rw[Fp]at h2
   obtain⟨ws,q,vs,rfl,rfl,_,h3,h4⟩:=h2
   exact⟨_,h1,k _ _ H p (ay.refl H) ⟨q,vs,rfl,.inl h3,h4⟩⟩
  ·obtain⟨v,h1,h2⟩:=S.sh i w hi hl
   exact⟨v,h1,k _ _ H p (ay.refl H) h2.b⟩
theorem OI{i:Nat}(h:PE X e (j7 i))(hi:¬aQ M i):VE X M R .s e (fun ε Q=>match look ε i with|some w=>Q w|none=>False):=PE.imp h<|by
 rintro σ H Q ⟨A,H0,ε,P,S,er,p,k⟩
 revert p
 cases hl:look ε i with
 |none=>exact fun p=>p.elim
 |some w=>
  intro p
  obtain⟨v,h1,h2⟩:=S.sh i w hi hl
  exact⟨v,h1,k _ _ H p (ay.refl H) (.of h2)⟩
noncomputable def sC(K:PySem.W.Frag)(i:Nat)(π:List nR):TE:=fun σ H Q=>∃v u,σ[i]?=some (some v)/\wJ K H v π u/\Q u H
theorem Gh{i:Nat}{π:List nR}{m m':Md}{K:PySem.W.Frag}{A:Fz}{H0 H:Hp}{σ:St}{ε:Ev}{w u:W}(S:SR K M A H0 σ H ε)(hm:(i,m)∈M)(hp:j8 m π=some m')(hl:look ε i=some w)(hu:b7 w π=some u):
 ∃v v' F,σ[i]?=some (some v)/\wJ K H v π v'/\Fp K A.B H m' u v' F:=by
 obtain⟨F,O⟩:=S.ow
 obtain⟨v,h1,h2⟩:=O.val i m w hm hl
 obtain⟨v',F1,F',F2,_,r,fp,_⟩:=Fp.path π m h2 hp hu
 exact⟨v,v',F',h1,r,fp⟩
theorem xo{ε:Ev}{i:Nat}{π:List nR}{Q:W->Prop}(h:match look ε i with|some w=>(match b7 w π with|some u=>Q u|none=>False)|none=>False):∃w u,look ε i=some w/\b7 w π=some u/\Q u:=by
 cases hl:look ε i with
 |none=>rw[hl]at h;exact h.elim
 |some w=>
  rw[hl]at h
  dsimp only at h
  cases hu:b7 w π with
  |none=>rw[hu]at h;exact h.elim
  |some u=>rw[hu]at h;exact⟨w,u,rfl,hu,h⟩
theorem OJ{i:Nat}{π:List nR}{m0:Md}(h:PE X e (sC X.K i π))(hm:(i,m0)∈M)(hp:j8 m0 π=some .f):VB X M R e (fun ε Q=>match look ε i with|some w=>(match b7 w π with|some u=>Q u|none=>False)|none=>False):=PE.imp h<|by
 rintro σ H Q ⟨A,H0,ε,P,S,er,p,k⟩
 obtain⟨w,u,e1,e2,q⟩:=xo p
 obtain⟨v,v',F,h1,h2,h3⟩:=Gh S hm hp e1 e2
 rw[Fp]at h3
 obtain⟨ws,q',vs,rfl,rfl,_,h3,h4⟩:=h3
 exact⟨v,_,h1,h2,k _ _ H q (ay.refl H) ⟨q',vs,rfl,.inl h3,h4⟩⟩
theorem OL{i:Nat}{π:List nR}{m0:Md}(h:PE X e (sC X.K i π))(hm:(i,m0)∈M)(hp:j8 m0 π=some .s):VE X M R .s e (fun ε Q=>match look ε i with|some w=>(match b7 w π with|some u=>Q u|none=>False)|none=>False):=PE.imp h<|by
 rintro σ H Q ⟨A,H0,ε,P,S,er,p,k⟩
 obtain⟨w,u,e1,e2,q⟩:=xo p
 obtain⟨v,v',F,h1,h2,h3⟩:=Gh S hm hp e1 e2
 rw[Fp]at h3
 exact⟨v,v',h1,h2,k _ _ H q (ay.refl H) (.of h3.2)⟩
theorem Eb{v:V}{w:W}(h:PE X e (tC v))(hr:∀B H,Rep X.K B H w v):VE X M R .s e (fun _ Q=>Q w):=PE.imp h<|by rintro σ H Q ⟨A,H0,ε,P,S,er,p,k⟩;exact k _ _ H p (ay.refl H) (.of (hr _ _))
theorem Gi{op:Operator}(ha:VB X M R a ta)(hb:VB X M R b tb)(hm:∀x y,J6 op x y=m\/m=.s):VE X M R m (.BinOp a op b pos) (fun ε Q=>ta ε fun x=>tb ε fun y=>gZ op x y Q):=by
 rintro pins s σ H Q I ⟨A,H0,ε,P,S,er,p,k⟩
 refine wpAny_BinOp (bin ha hb I (R:=fun vx vy H2=>∃x y,gZ op x y P/\ay H H2/\bq X.K (FB A M σ) H2 x vx/\bq X.K (FB A M σ) H2 y vy) ⟨A,H0,ε,_,S,er,p,fun x vx H1 hx s1 rx=>⟨A,H0,ε,_,S.same s1,er,hx,fun y vy H2 hy s2 ry=>⟨x,y,hy,s1.trans s2,bq.same s2 rx,ry⟩⟩⟩ ?_)
 rintro v u s2 vx vy H2 I2 rv ru ⟨x,y,h,sm,hx,hy⟩
 have d:=(S.same sm).dom
 refine Ak op pins s2 σ H2 (FB A M σ) x y vx vy v u P Q I2 d rv ru hx hy h ?_
 have c:Cont X.K (FB A M σ) H2 m P Q:=fun w z H' pw s' r=>k w z H' pw (sm.trans s') (r.back sm fun _ z=>z)
 rcases hm x y with e|e
 ·rw[e];exact c
 ·subst e;exact Cont.s d c
end
theorem cD{x:W}{Q:Bool->Prop}(h:truth x Q):∃b,x=.bl b/\Q b:=by
 cases x with
 |bl b=>exact⟨b,rfl,h⟩
 |_=>exact h.elim
theorem Rep.nZ{K:PySem.W.Frag}{B:Addr->Prop}{H:Hp}{b:Bool}{v:V}(h:Rep K B H (.bl b) v):v=.bl b:=by rw[Rep]at h;exact h
theorem Rep.int_inv{K:PySem.W.Frag}{B:Addr->Prop}{H:Hp}{b:Int}{v:V}(h:Rep K B H (.int b) v):v=.int b:=by rw[Rep]at h;exact h
theorem fK.bE{K:PySem.W.Frag}{B:Addr->Prop}{H H':Hp}{w:W}{v:V}(h:fK K B H H' .s w v):Rep K B H' w v:=by
 obtain⟨F,_,_,h⟩:=h
 rw[Fp]at h
 obtain⟨rfl,h⟩:=h
 exact h.less fun p z=>.inl z
section
variable{X:Cx}{M:Ms}{R:Addr->Prop}{e a b c:Expr}{t ta tb tc:WT}{m:Md}{pos:Pos}{rest es:List Expr}
noncomputable def OM:W->Bool
 |.lst _=>true
 |_=>false
theorem ON{op:Operator}{x y:W}{P:W->Prop}(h:gZ op x y P)(ho:(op=.Add/\(OM x=true\/OM y=true))\/(op=.Mult/\OM x=true)):J6 op x y=.f:=by
 rcases ho with⟨rfl,ho⟩|⟨rfl,ho⟩
 ·cases x with
  |lst l=>rfl
  |_=>
   rcases ho with ho|ho
   ·cases ho
   ·cases y<;>first|exact h.elim|exact ff ho
 ·cases x<;>first|rfl|exact ff ho
theorem Am{op:Operator}{Xp Xq:RL}(ha:PE X a (tV X M R Xp ta))(hb:PE X b (tV X M R Xq tb))(h1:∀B H H' w v,Dom B H->Xp B H H' w v->bq X.K B H' w v)(h2:∀B H H' w v,Dom B H->Xq B H H' w v->bq X.K B H' w v)
 (ho:∀B H H' w v B2 H2 H2' w2 v2,Xp B H H' w v->Xq B2 H2 H2' w2 v2->(op=.Add/\(OM w=true\/OM w2=true))\/(op=.Mult/\OM w=true)):VE X M R .f (.BinOp a op b pos) (fun ε Q=>ta ε fun x=>tb ε fun y=>gZ op x y Q):=by
 rintro pins s σ H Q I ⟨A,H0,ε,P,S,er,p,k⟩
 refine wpAny_BinOp (bin ha hb I (R:=fun vx vy H2=>∃x y,gZ op x y P/\ay H H2/\bq X.K (FB A M σ) H2 x vx/\bq X.K (FB A M σ) H2 y vy/\J6 op x y=.f) ⟨A,H0,ε,_,S,er,p,fun x vx H1 hx s1 rx=>⟨A,H0,ε,_,S.same s1,er,hx,fun y vy H2 hy s2 ry=>⟨x,y,hy,s1.trans s2,bq.same s2 (h1 _ _ _ _ _ S.dom rx),h2 _ _ _ _ _ (S.same s1).dom ry,ON hy (ho _ _ _ _ _ _ _ _ _ _ rx ry)⟩⟩⟩ ?_)
 rintro v u s2 vx vy H2 I2 rv ru ⟨x,y,h,sm,hx,hy,em⟩
 have d:=(S.same sm).dom
 refine Ak op pins s2 σ H2 (FB A M σ) x y vx vy v u P Q I2 d rv ru hx hy h ?_
 rw[em]
 exact fun w z H' pw s' r=>k w z H' pw (sm.trans s') (r.back sm fun _ z=>z)
theorem OO(ha:VE X M R .s a ta):VE X M R .s (.UnaryOp .USub a pos) (fun ε Q=>ta ε fun x=>match x with|.int i=>Q (.int (-i))|_=>False):=PE.imp (Te N3 ha)<|by
 rintro σ H Q ⟨A,H0,ε,P,S,er,p,k⟩
 refine⟨A,H0,ε,_,S,er,p,fun x vx H1 hx s1 rx=>?_⟩
 cases x with
 |int i=>exact⟨i,rx.bE.int_inv,k _ _ H1 hx s1 (.of (iS _))⟩
 |_=>exact hx.elim
theorem OP(ha:VE X M R .s a ta):VE X M R .s (.UnaryOp .Not a pos) (fun ε Q=>ta ε fun x=>truth x fun b=>Q (.bl (!b))):=PE.imp (NJ ha)<|by
 rintro σ H Q ⟨A,H0,ε,P,S,er,p,k⟩
 refine⟨A,H0,ε,_,S,er,p,fun x vx H1 hx s1 rx=>?_⟩
 obtain⟨b,rfl,hx⟩:=cD hx
 exact⟨b,rx.bE.nZ,k _ _ H1 hx s1 (.of (zD _))⟩
theorem OQ{op:CmpOp}(hu:X.A.units+64<cLine)(hm:behindInMarks op b=false)(ha:VB X M R a ta)(hb:VB X M R b tb):VE X M R .s (.Compare a [op] [b] pos) (fun ε Q=>ta ε fun x=>tb ε fun y=>cH op x y Q):=by
 rintro pins s σ H Q I ⟨A,H0,ε,P,S,er,p,k⟩
 refine wpAny_Compare1 (bin ha hb I (R:=fun vx vy H2=>∃x y,cH op x y P/\ay H H2/\bq X.K (FB A M σ) H2 x vx/\bq X.K (FB A M σ) H2 y vy) ⟨A,H0,ε,_,S,er,p,fun x vx H1 hx s1 rx=>⟨A,H0,ε,_,S.same s1,er,hx,fun y vy H2 hy s2 ry=>⟨x,y,hy,s1.trans s2,bq.same s2 rx,ry⟩⟩⟩ ?_) hm
 rintro v u s2 vx vy H2 I2 rv ru ⟨x,y,h,sm,hx,hy⟩
 exact Al hu op pins s2 σ H2 (FB A M σ) x y vx vy v u P Q I2 (S.same sm).dom rv ru hx hy h fun w z H' pw s' r=>k w z H' pw (sm.trans s') (r.back sm fun _ z=>z)
theorem OR{op:CmpOp}(hu:X.A.units+64<cLine)(hm:behindInMarks op b=false)(ha:VB X M R a ta)(hb:VB X M R b tb):VT X M R (.Compare a [op] [b] pos) (fun ε Q=>ta ε fun x=>tb ε fun y=>cH op x y Q):=by
 rintro pins s σ H Q I ⟨A,H0,ε,P,S,er,p,k⟩
 have q:=bin ha hb I (R:=fun vx vy H2=>∃x y,cH op x y P/\ay H H2/\bq X.K (FB A M σ) H2 x vx/\bq X.K (FB A M σ) H2 y vy) ⟨A,H0,ε,_,S,er,p,fun x vx H1 hx s1 rx=>⟨A,H0,ε,_,S.same s1,er,hx,fun y vy H2 hy s2 ry=>⟨x,y,hy,s1.trans s2,bq.same s2 rx,ry⟩⟩⟩
  (f:=compareOp op) (Q:=EP X pins σ fun z H'=>∃b,z=.bl b/\Q b H')<|by
    rintro v u s2 vx vy H2 I2 rv ru ⟨x,y,h,sm,hx,hy⟩
    refine Al hu op pins s2 σ H2 (FB A M σ) x y vx vy v u _ _ I2 (S.same sm).dom rv ru hx hy h fun w z H' pw s' r=>?_
    obtain⟨b,rfl,q⟩:=k w H' pw (sm.trans s')
    exact⟨b,r.bE.nZ,q⟩
 refine wpAny_isTrue_Compare1 (bK q fun v s1 q1=>bK q1 fun u s2 q2=>bK q2 fun c s3 ⟨z,H3,I3,r3,b,ez,q3⟩=>?_) hm
 subst ez
 cases r3
 exact wpAny_truthy_bool ⟨H3,I3,q3⟩
noncomputable def uR:CmpOp->Option (Int->Int->Bool)
 |.Lt=>some fun i j=>decide (i<j)
 |.LtE=>some fun i j=>decide (i<=j)
 |.Gt=>some fun i j=>decide (j<i)
 |.GtE=>some fun i j=>decide (j<=i)
 |_=>none
theorem n5{op:CmpOp}{p:Int->Int->Bool}(h:uR op=some p):kq X (compareOp op) (EY fun i j=>.bl (p i j))/\∀x y P,cH op x y P->∃i j,x=.int i/\y=.int j/\P (.bl (p i j)):=by
 cases op with
 |Lt=>
  cases h
  refine⟨Mx,fun x y P h=>?_⟩
  cases x<;>first|exact h.elim|(cases y<;>first|exact h.elim|exact⟨_,_,rfl,rfl,h⟩)
 |LtE=>
  cases h
  refine⟨My,fun x y P h=>?_⟩
  cases x<;>first|exact h.elim|(cases y<;>first|exact h.elim|exact⟨_,_,rfl,rfl,h⟩)
 |Gt=>
  cases h
  refine⟨Mz,fun x y P h=>?_⟩
  cases x<;>first|exact h.elim|(cases y<;>first|exact h.elim|exact⟨_,_,rfl,rfl,h⟩)
 |GtE=>
  cases h
  refine⟨MA,fun x y P h=>?_⟩
  cases x<;>first|exact h.elim|(cases y<;>first|exact h.elim|exact⟨_,_,rfl,rfl,h⟩)
 |_=>exact nn h
theorem BG{o p:CmpOp}{f g:Int->Int->Bool}(ho:uR o=some f)(hp:uR p=some g){σ:St}{H:Hp}{Q:VK}{A:Fz}{H0:Hp}{ε:Ev}{P:W->Prop}(S:SR X.K M A H0 σ H ε)(er:ER X H0 R)
 (h:ta ε fun x=>tb ε fun y=>cH o x y fun z=>truth z fun k=>if k=true then tc ε fun u=>cH p y u P else P (.bl false)) (k:∀w v H',P w->ay H H'->Rep X.K (FB A M σ) H' w v->Q v H'):
 zP (EY fun i j=>.bl (f i j)) (EY fun i j=>.bl (g i j)) (tV X M R (Ge X.K .s) ta) (tV X M R (Ge X.K .s) tb) (tV X M R (Ge X.K .s) tc) σ H Q:=by
 refine⟨A,H0,ε,_,S,er,h,fun x vx H1 hx s1 rx=>⟨A,H0,ε,_,S.same s1,er,hx,fun y vy H2 hy s2 ry=>?_⟩⟩
 obtain⟨i,j,rfl,rfl,hy⟩:=(n5 (X:=X) ho).2 _ _ _ hy
 have e1:=rx.bE.int_inv
 have e2:=ry.bE.int_inv
 refine⟨i,j,e1,e2,f i j,rfl,?_⟩
 have hy:if f i j=true then tc ε fun u=>cH p (.int j) u P else P (.bl false):=hy
 cases hf:f i j with
 |false=>
  rw[hf]at hy
  exact k _ _ H2 hy (s1.trans s2) (zD _)
 |true=>
  rw[hf]at hy
  refine⟨A,H0,ε,_,S.same (s1.trans s2),er,hy,fun u vu H3 hu s3 ru=>?_⟩
  obtain⟨i',j',e3,rfl,hu⟩:=(n5 (X:=X) hp).2 _ _ _ hu
  cases e3
  exact⟨j,j',e2,ru.bE.int_inv,k _ _ H3 hu ((s1.trans s2).trans s3) (zD _)⟩
theorem J9{o p:CmpOp}{f g:Int->Int->Bool}(ho:uR o=some f)(hp:uR p=some g)(ha:VE X M R .s a ta)(hb:VE X M R .s b tb)(hc:VE X M R .s c tc)(hm:lastMarks [o,p] [b,c]=false):
 VE X M R .s (.Compare a [o,p] [b,c] pos) (fun ε Q=>ta ε fun x=>tb ε fun y=>cH o x y fun z=>truth z fun k=>if k=true then tc ε fun u=>cH p y u Q else Q (.bl false)):=
 PE.imp (Fv (n5 ho).1 (n5 hp).1 ha hb hc hm)<|by rintro σ H Q ⟨A,H0,ε,P,S,er,h,k⟩;exact BG ho hp S er h fun w v H' pw s r=>k w v H' pw s (.of r)
theorem Ka{o p:CmpOp}{f g:Int->Int->Bool}(ho:uR o=some f)(hp:uR p=some g)(ha:VE X M R .s a ta)(hb:VE X M R .s b tb)(hc:VE X M R .s c tc)(hm:lastMarks [o,p] [b,c]=false):
 VT X M R (.Compare a [o,p] [b,c] pos) (fun ε Q=>ta ε fun x=>tb ε fun y=>cH o x y fun z=>truth z fun k=>if k=true then tc ε fun u=>cH p y u Q else Q (.bl false)):=
 PT.imp (Fw (n5 ho).1 (n5 hp).1 ha hb hc hm) fun σ H Q ⟨A,H0,ε,P,S,er,h,k⟩=>BG ho hp S er h fun w v H' pw s r=>by
  obtain⟨b,rfl,q⟩:=k w H' pw s
  exact⟨b,r.nZ,q⟩
theorem OS(ha:VE X M R .s a ta)(hb:VE X M R .s (.BoolOp .And (b::rest) pos) tb):VE X M R .s (.BoolOp .And (a::b::rest) pos) (fun ε Q=>ta ε fun x=>truth x fun k=>if k=true then tb ε Q else Q (.bl false)):=
 PE.imp (NI ha hb)<|by
  rintro σ H Q ⟨A,H0,ε,P,S,er,h,k⟩
  refine⟨A,H0,ε,_,S,er,h,fun x vx H1 hx s1 rx=>?_⟩
  obtain⟨q,rfl,hx⟩:=cD hx
  refine⟨q,rx.bE.nZ,?_⟩
  cases q with
  |true=>exact⟨A,H0,ε,_,S.same s1,er,hx,fun y vy H2 hy s2 ry=>k _ _ H2 hy (s1.trans s2) (ry.back s1 fun _ z=>z)⟩
  |false=>exact k _ _ H1 hx s1 (.of (zD _))
theorem Um(ha:VE X M R .s a ta)(hb:VE X M R .s (.BoolOp .Or (b::rest) pos) tb):VE X M R .s (.BoolOp .Or (a::b::rest) pos) (fun ε Q=>ta ε fun x=>truth x fun k=>if k=true then Q (.bl true)else tb ε Q):=
 PE.imp (SW ha hb)<|by
  rintro σ H Q ⟨A,H0,ε,P,S,er,h,k⟩
  refine⟨A,H0,ε,_,S,er,h,fun x vx H1 hx s1 rx=>?_⟩
  obtain⟨q,rfl,hx⟩:=cD hx
  refine⟨q,rx.bE.nZ,?_⟩
  cases q with
  |false=>exact⟨A,H0,ε,_,S.same s1,er,hx,fun y vy H2 hy s2 ry=>k _ _ H2 hy (s1.trans s2) (ry.back s1 fun _ z=>z)⟩
  |true=>exact k _ _ H1 hx s1 (.of (zD _))
abbrev MG(X:Cx)(M:Ms)(R:Addr->Prop)(e:Expr)(t:WT):Prop:=PW X e (Zd X M R t)
theorem Kc(ha:VT X M R a ta):MG X M R (.BoolOp .And [a] pos) ta:=Jw ha
theorem OT(ha:VT X M R a ta):MG X M R (.BoolOp .Or [a] pos) ta:=NF ha
theorem OU(ha:VT X M R a ta)(hb:MG X M R (.BoolOp .And (b::rest) pos) tb):MG X M R (.BoolOp .And (a::b::rest) pos) (fun ε Q=>ta ε fun x=>truth x fun k=>if k=true then tb ε Q else Q (.bl false)):=
 PW.imp (NG ha hb)<|by
  rintro σ H Q ⟨A,H0,ε,P,S,er,h,k⟩
  refine⟨A,H0,ε,_,S,er,h,fun x H1 hx s1=>?_⟩
  obtain⟨q,rfl,hx⟩:=cD hx
  refine⟨q,rfl,?_⟩
  cases q with
  |true=>exact⟨A,H0,ε,P,S.same s1,er,hx,fun y H2 hy s2=>k _ H2 hy (s1.trans s2)⟩
  |false=>
   obtain⟨b,e,q⟩:=k _ H1 hx s1
   cases e
   exact q
theorem Uo(ha:VT X M R a ta)(hb:MG X M R (.BoolOp .Or (b::rest) pos) tb):MG X M R (.BoolOp .Or (a::b::rest) pos) (fun ε Q=>ta ε fun x=>truth x fun k=>if k=true then Q (.bl true)else tb ε Q):=
 PW.imp (SO ha hb)<|by
  rintro σ H Q ⟨A,H0,ε,P,S,er,h,k⟩
  refine⟨A,H0,ε,_,S,er,h,fun x H1 hx s1=>?_⟩
  obtain⟨q,rfl,hx⟩:=cD hx
  refine⟨q,rfl,?_⟩
  cases q with
  |false=>exact⟨A,H0,ε,P,S.same s1,er,hx,fun y H2 hy s2=>k _ H2 hy (s1.trans s2)⟩
  |true=>
   obtain⟨b,e,q⟩:=k _ H1 hx s1
   cases e
   exact q
theorem OV(ha:VT X M R a ta):VT X M R (.UnaryOp .Not a pos) (fun ε Q=>ta ε fun x=>truth x fun b=>Q (.bl (!b))):=PT.imp (NH ha)<|by
 rintro σ H Q ⟨A,H0,ε,P,S,er,h,k⟩
 refine⟨A,H0,ε,_,S,er,h,fun x H1 hx s1=>?_⟩
 obtain⟨q,rfl,hx⟩:=cD hx
 obtain⟨b,e,z⟩:=k _ H1 hx s1
 cases e
 exact⟨q,rfl,z⟩
theorem An(he:∀whole,isTrue e X.env whole=(do let v←whole;standAt e.pos;holding [v] (truthy v)))(h:VE X M R .s e t):VT X M R e t:=PT.imp (ND h he)<|by
 rintro σ H Q ⟨A,H0,ε,P,S,er,h,k⟩
 refine⟨A,H0,ε,P,S,er,h,fun x vx H1 hx s1 rx=>?_⟩
 obtain⟨b,rfl,z⟩:=k _ H1 hx s1
 exact⟨b,rx.bE.nZ,z⟩
theorem Gj(hc:VT X M R c tc)(ha:VE X M R m a ta)(hb:VE X M R m b tb):VE X M R m (.IfExp c a b pos) (fun ε Q=>tc ε fun x=>truth x fun k=>if k=true then ta ε Q else tb ε Q):=PE.imp (Fi hc ha hb)<|by
 rintro σ H Q ⟨A,H0,ε,P,S,er,h,k⟩
 refine⟨A,H0,ε,_,S,er,h,fun x H1 hx s1=>?_⟩
 obtain⟨q,rfl,hx⟩:=cD hx
 refine⟨q,rfl,?_⟩
 cases q with
 |true=>exact⟨A,H0,ε,_,S.same s1,er,hx,fun y vy H2 hy s2 ry=>k _ _ H2 hy (s1.trans s2) (ry.back s1 fun _ z=>z)⟩
 |false=>exact⟨A,H0,ε,_,S.same s1,er,hx,fun y vy H2 hy s2 ry=>k _ _ H2 hy (s1.trans s2) (ry.back s1 fun _ z=>z)⟩
theorem OW:VA X M R [] (fun _ Q=>Q []):=PA.imp dD<|by rintro σ H Q ⟨A,H0,ε,P,S,er,h,k⟩;exact k [] [] H h (ay.refl H) .nil
theorem Kd{tr:Ev->(List W->Prop)->Prop}(hs:starEach (a::es) X.env=(false,eval a X.env)::starEach es X.env)(ha:VE X M R .s a ta)(hr:VA X M R es tr):VA X M R (a::es) (fun ε Q=>ta ε fun x=>tr ε fun xs=>Q (x::xs)):=
 PA.imp (bC ha hr hs)<|by
  rintro σ H Q ⟨A,H0,ε,P,S,er,h,k⟩
  refine⟨A,H0,ε,_,S,er,h,fun x vx H1 hx s1 rx=>⟨A,H0,ε,_,S.same s1,er,hx,fun xs vs H2 hxs s2 rs=>?_⟩⟩
  exact k _ _ H2 hxs (s1.trans s2) (.cons (rx.bE.same s2) rs)
theorem Ke:R6 X M R [] (fun _ Q=>Q []):=PA.imp dD<|by rintro σ H Q ⟨A,H0,ε,P,S,er,h,k⟩;exact k [] [] H h (ay.refl H) rfl
theorem Gk{tr:Ev->(List W->Prop)->Prop}(hs:starEach (a::es) X.env=(false,eval a X.env)::starEach es X.env)(ha:VB X M R a ta)(hr:R6 X M R es tr):R6 X M R (a::es) (fun ε Q=>ta ε fun x=>tr ε fun xs=>Q (x::xs)):=
 PA.imp (bC ha hr hs)<|by
  rintro σ H Q ⟨A,H0,ε,P,S,er,h,k⟩
  refine⟨A,H0,ε,_,S,er,h,fun x vx H1 hx s1 rx=>⟨A,H0,ε,_,S.same s1,er,hx,fun xs vs H2 hxs s2 rs=>?_⟩⟩
  exact k _ _ H2 hxs (s1.trans s2) ⟨vx,vs,rfl,bq.same s2 rx,rs⟩
theorem OX{ts:Ev->(List W->Prop)->Prop}(h:VA X M R es ts):VE X M R .f (.List es pos) (fun ε Q=>ts ε fun ws=>ws.length<=sizeLine/\Q (.lst ws)):=PE.imp (FE h)<|by
 rintro σ H Q ⟨A,H0,ε,P,S,er,h,k⟩
 refine⟨A,H0,ε,_,S,er,h,fun ws vs H1 hx s1 rs=>?_⟩
 refine⟨by rw[ai.len rs];exact hx.1,fun p hp=>?_⟩
 exact k _ _ _ hx.2 (s1.trans (aZ hp _)) (.fresh s1 hp rs)
theorem OY{ts:Ev->(List W->Prop)->Prop}{x1:Nat}(h:VA X M R es ts):VE X M R .s (.Tuple es x1 pos) (fun ε Q=>ts ε fun ws=>ws.length<=sizeLine/\Q (.tup ws)):=PE.imp (z4 h)<|by
 rintro σ H Q ⟨A,H0,ε,P,S,er,h,k⟩
 refine⟨A,H0,ε,_,S,er,h,fun ws vs H1 hx s1 rs=>?_⟩
 refine⟨by rw[ai.len rs];exact hx.1,fun p hp=>?_⟩
 exact k _ _ _ hx.2 (s1.trans (aZ hp _)) (.of (DZ aD (ai.same (aZ hp _) rs)))
theorem BH{K:PySem.W.Frag}{B:Addr->Prop}{H:Hp}{l:List W}{vs:List V}{i:Int}{w:W}(h:ai K B H l vs)(e:lO l i=some w):∃v,lO vs i=some v/\Rep K B H w v:=by
 unfold lO at e⊢
 rw[h.len]
 cases hj:wG l.length i with
 |none=>rw[hj]at e;exact nn e
 |some j=>
  rw[hj]at e
  exact h.get e
theorem bq.jj{K:PySem.W.Frag}{B:Addr->Prop}{H:Hp}{ns:List Int}{v:V}(h:bq K B H (.jj ns) v):∃p,v=.ref p/\jV K H p (ns.map V.int):=by
 have h:Rep K B H (.jj ns) v:=h
 rw[Rep]at h
 obtain⟨p,e,h⟩:=h
 refine⟨p,e,?_⟩
 rcases h with⟨o,h⟩|h
 ·exact .inl (.inr ⟨o,h⟩)
 ·rcases h with(h|⟨o,h⟩)|h
  ·cases h
  ·cases h
  ·exact .inr h
theorem BJ{ns:List Int}{i n:Int}(e:lO ns i=some n):lO (ns.map V.int) i=some (.int n):=by
 unfold lO at e⊢
 rw[List.length_map]
 cases hj:wG ns.length i with
 |none=>rw[hj]at e;exact nn e
 |some j=>
  rw[hj]at e
  show(ns.map V.int)[j]?=_
  have e:ns[j]?=some n:=e
  rw[List.getElem?_map,e]
  rfl
theorem Up(hs:lY b)(ha:VB X M R a ta)(hb:VE X M R .s b tb):VE X M R .s (.Subscript a b pos) (fun ε Q=>ta ε fun x=>tb ε fun y=>OA x y Q):=PE.imp (FJ z8 ha hb hs)<|by
 rintro σ H Q ⟨A,H0,ε,P,S,er,h,k⟩
 refine⟨A,H0,ε,_,S,er,h,fun x vx H1 hx s1 rx=>⟨A,H0,ε,_,S.same s1,er,hx,fun y vy H2 hy s2 ry=>?_⟩⟩
 have rx:=bq.same s2 rx
 cases x with
 |lst l=>
  cases y with
  |int i=>
   obtain⟨p,vs,rfl,h1,h2⟩:=rx.lst
   obtain⟨w,e,hy⟩:=hy
   obtain⟨v,e2,h3⟩:=BH h2 e
   exact .inl ⟨p,vs,i,v,rfl,ry.bE.int_inv,.inl h1,e2,k _ _ H2 hy (s1.trans s2) (.of h3)⟩
  |_=>exact hy.elim
 |tup l=>
  cases y with
  |int i=>
   obtain⟨p,vs,rfl,h1,h2⟩:=rx.tup
   obtain⟨w,e,hy⟩:=hy
   obtain⟨v,e2,h3⟩:=BH h2 e
   exact .inr (.inl ⟨p,vs,i,v,rfl,ry.bE.int_inv,h1,e2,k _ _ H2 hy (s1.trans s2) (.of h3)⟩)
  |_=>exact hy.elim
 |jj ns=>
  cases y with
  |int i=>
   obtain⟨p,rfl,h1⟩:=rx.jj
   obtain⟨n,e,hy⟩:=hy
   exact .inl ⟨p,_,i,_,rfl,ry.bE.int_inv,h1,BJ e,k _ _ H2 hy (s1.trans s2) (.of (iS _))⟩
  |_=>exact hy.elim
 |_=>exact hy.elim
theorem MH{K:PySem.W.Frag}{B:Addr->Prop}{H:Hp}{l:List W}{vs:List V}(h:ai K B H l vs)(lo hi:Option Int):ai K B H (ly l lo hi) (DJ vs lo hi):=by
 unfold ly DJ
 rw[h.len]
 exact(h.drop _).take _
noncomputable def Uq(X:Cx)(M:Ms)(R:Addr->Prop)(t:Ev->(Option Int->Prop)->Prop):TO:=fun σ H Q=>∃A H0 ε P,SR X.K M A H0 σ H ε/\ER X H0 R/\t ε P/\∀o H',P o->ay H H'->Q o H'
theorem PO.imp{e:Option Expr}{t t':TO}(h:PO X e t)(k:∀σ H Q,t' σ H Q->t σ H Q):PO X e t':=fun pins s σ H Q I w=>h pins s σ H Q I (k σ H Q w)
theorem Kf:PO X none (Uq X M R fun _ Q=>Q none):=PO.imp JJ<|by rintro σ H Q ⟨A,H0,ε,P,S,er,h,k⟩;exact k none H h (ay.refl H)
theorem Kg(ha:VE X M R .s a ta):PO X (some a) (Uq X M R fun ε Q=>ta ε fun y=>match y with|.int i=>Q (some i)|_=>False):=PO.imp (JK ha)<|by
 rintro σ H Q ⟨A,H0,ε,P,S,er,h,k⟩
 refine⟨A,H0,ε,_,S,er,h,fun x vx H1 hx s1 rx=>?_⟩
 cases x with
 |int i=>exact⟨i,rx.bE.int_inv,k _ H1 hx s1⟩
 |_=>exact hx.elim
theorem Ur{lo hi:Option Expr}{p2:Pos}{tl th:Ev->(Option Int->Prop)->Prop}(ha:VB X M R a ta)(hl:PO X lo (Uq X M R tl))(hh:PO X hi (Uq X M R th)):VE X M R .f (.Subscript a (.Slice lo hi none p2) pos) (fun ε Q=>ta ε fun x=>tl ε fun l=>th ε fun h=>Wa x l h Q):=
 PE.imp (FI JO ha hl hh)<|by
  rintro σ H Q ⟨A,H0,ε,P,S,er,h,k⟩
  refine⟨A,H0,ε,_,S,er,h,fun x vx H1 hx s1 rx=>⟨A,H0,ε,_,S.same s1,er,hx,fun l H2 hl s2=>⟨A,H0,ε,_,S.same (s1.trans s2),er,hl,fun h H3 hh s3=>?_⟩⟩⟩
  have rx:=bq.same (s2.trans s3) rx
  cases x with
  |lst ws=>
   obtain⟨p,vs,rfl,h1,h2⟩:=rx.lst
   refine⟨p,vs,rfl,.inl h1,fun q hq=>?_⟩
   exact k _ _ _ hh (((s1.trans s2).trans s3).trans (aZ hq _)) (.fresh ((s1.trans s2).trans s3) hq (MH h2 l h))
  |jj ns=>
   obtain⟨p,rfl,h1⟩:=rx.jj
   refine⟨p,_,rfl,h1,fun q hq=>?_⟩
   exact k _ _ _ hh (((s1.trans s2).trans s3).trans (aZ hq _)) (.fresh ((s1.trans s2).trans s3) hq (MH (ai.JY ns) l h))
  |_=>exact hh.elim
def Us:BI->Md
 |.list=>.f
 |_=>.s
noncomputable def kC(X:Cx)(f:Value)(b:BI):Prop:=
 ∀(pins:List (Addr×Obj)) (s:Shared) (σ:St) (H:Hp) (B:Addr->Prop) (ws:List W) (vs:List V) (us:List Value) (P:KP) (Q:VK),Inv X pins σ H s->Dom B H->Vals vs us->oK X.K B H ws vs->sd b ws P->Cont X.K B H (Us b) P Q->
  wpAny (model X.prog X.w) X.A (call f us) (EP X pins σ Q) X.xe s
noncomputable def R7(K:PySem.W.Frag)(b:BI):List V->Hp->VK->Prop:=fun vs H Q=>∃(B:Addr->Prop) (ws:List W) (P:KP),Dom B H/\oK K B H ws vs/\sd b ws P/\Cont K B H (Us b) P Q
theorem kC.r{f:Value}{b:BI}(h:kC X f b):fJ X f (R7 X.K b):=by rintro pins s σ H vs us Q I r ⟨B,ws,P,d,h1,h2,k⟩;exact h pins s σ H B ws vs us P Q I d r h1 h2 k
theorem jt{K:PySem.W.Frag}{B:Addr->Prop}{H:Hp}{w:W}{vs:List V}(h:oK K B H [w] vs):∃v,vs=[v]/\bq K B H w v:=by
 obtain⟨v,r,rfl,h1,h2⟩:=h
 cases(show r=[]from h2)
 exact⟨v,rfl,h1⟩
theorem Gm{K:PySem.W.Frag}{B:Addr->Prop}{H:Hp}{w w':W}{vs:List V}(h:oK K B H [w,w'] vs):∃v v',vs=[v,v']/\bq K B H w v/\bq K B H w' v':=by
 obtain⟨v,r,rfl,h1,h2⟩:=h
 obtain⟨v',rfl,h3⟩:=jt h2
 exact⟨v,v',rfl,h1,h3⟩
theorem cw_len:kC X (.builtin "len") .len:=by
 intro pins s σ H B ws vs us P Q I d r hb h c
 match ws,h with
 |[.lst l],h=>
  obtain⟨v,rfl,h1⟩:=jt hb
  obtain⟨p,xs,rfl,h1,h2⟩:=h1.lst
  exact iR pins s σ H _ us Q I r ⟨p,xs,rfl,.inl (.inl h1),c.now (w:=.int xs.length) (by rw[h2.len];exact h) (iS _)⟩
 |[.tup l],h=>
  obtain⟨v,rfl,h1⟩:=jt hb
  obtain⟨p,xs,rfl,h1,h2⟩:=h1.tup
  exact iR pins s σ H _ us Q I r ⟨p,xs,rfl,.inr h1,c.now (w:=.int xs.length) (by rw[h2.len];exact h) (iS _)⟩
 |[.jj ns],h=>
  obtain⟨v,rfl,h1⟩:=jt hb
  obtain⟨p,rfl,h2⟩:=h1.jj
  exact iR pins s σ H _ us Q I r ⟨p,_,rfl,.inl h2,c.now (w:=.int ns.length) h (by rw[List.length_map];exact iS _)⟩
theorem cw_abs:kC X (.builtin "abs") .abs:=by
 intro pins s σ H B ws vs us P Q I d r hb h c
 match ws,h with
 |[.int i],h=>
  obtain⟨v,rfl,h1⟩:=jt hb
  cases h1.int
  exact Fx pins s σ H _ us Q I r ⟨i,rfl,c.now h (iS _)⟩
theorem cw_max(hc:X.calm=true):kC X (.builtin "max") .max2:=by
 intro pins s σ H B ws vs us P Q I d r hb h c
 match ws,h with
 |[.int i,.int j],h=>
  obtain⟨v,v',rfl,h1,h2⟩:=Gm hb
  cases h1.int
  cases h2.int
  exact Dy hc pins s σ H _ us Q I r ⟨i,j,rfl,c.now h (iS _)⟩
theorem cw_min(hc:X.calm=true):kC X (.builtin "min") .min2:=by
 intro pins s σ H B ws vs us P Q I d r hb h c
 match ws,h with
 |[.int i,.int j],h=>
  obtain⟨v,v',rfl,h1,h2⟩:=Gm hb
  cases h1.int
  cases h2.int
  exact Dz hc pins s σ H _ us Q I r ⟨i,j,rfl,c.now h (iS _)⟩
theorem cw_sum(hc:X.calm=true):kC X (.builtin "sum") .sum:=by
 intro pins s σ H B ws vs us P Q I d r hb h c
 match ws,h with
 |[.lst l],h=>
  obtain⟨ns,rfl,h⟩:=h
  obtain⟨v,rfl,h1⟩:=jt hb
  obtain⟨p,xs,rfl,h1,h2⟩:=h1.lst
  have e:=ai.ints h2
  subst e
  exact DP hc pins s σ H _ us Q I r ⟨p,ns,rfl,.inl h1,c.now h (iS _)⟩
theorem cw_all(hc:X.calm=true):kC X (.builtin "all") .all:=by
 intro pins s σ H B ws vs us P Q I d r hb h c
 match ws,h with
 |[.lst l],h=>
  obtain⟨bs,rfl,h⟩:=h
  obtain⟨v,rfl,h1⟩:=jt hb
  obtain⟨p,xs,rfl,h1,h2⟩:=h1.lst
  have e:=ai.bls h2
  subst e
  exact DQ hc pins s σ H _ us Q I r ⟨p,bs,rfl,.inl h1,c.now h (zD _)⟩
theorem cw_list:kC X (.type "list") .list:=by
 intro pins s σ H B ws vs us P Q I d r hb h c
 match ws,h with
 |[.lst l],h=>
  obtain⟨v,rfl,h1⟩:=jt hb
  obtain⟨p,xs,rfl,h1,h2⟩:=h1.lst
  exact l5 pins s σ H _ us Q I r ⟨p,xs,rfl,.inl (.inl h1),fun q hq=>c _ _ _ h (aZ hq _) (.fresh (ay.refl H) hq h2)⟩
 |[.tup l],h=>
  obtain⟨v,rfl,h1⟩:=jt hb
  obtain⟨p,xs,rfl,h1,h2⟩:=h1.tup
  exact l5 pins s σ H _ us Q I r ⟨p,xs,rfl,.inr h1,fun q hq=>c _ _ _ h (aZ hq _) (.fresh (ay.refl H) hq h2)⟩
theorem cw_tuple:kC X (.type "tuple") .tuple:=by
 intro pins s σ H B ws vs us P Q I d r hb h c
 match ws,h with
 |[.lst l],h=>
  obtain⟨v,rfl,h1⟩:=jt hb
  obtain⟨p,xs,rfl,h1,h2⟩:=h1.lst
  exact kr pins s σ H _ us Q I r ⟨p,xs,rfl,.inl ⟨.inl h1,fun q hq=>c _ _ _ h (aZ hq _) (.of (DZ aD (ai.same (aZ hq _) h2)))⟩⟩
 |[.tup l],h=>
  obtain⟨v,rfl,h1⟩:=jt hb
  obtain⟨p,xs,rfl,OE,h2⟩:=h1.Ug
  have h1:kU X.K H p xs:=kU.of OE
  exact kr pins s σ H _ us Q I r ⟨p,xs,rfl,.inr ⟨h1,c.now h (DZ OE h2)⟩⟩
noncomputable def xq(K:PySem.W.Frag):Prop:=∀a∈["NoneType","bool","int","str","list","tuple"],∀b∈["int","bool","tuple","list","str","dict"],PySem.W.kitOne K (.type a) (.type b)=some (DY a b)
theorem cw_isi(hk:xq X.K):fJ X (.builtin "isinstance") (fun vs H Q=>∃(B:Addr->Prop) (w:W) (n:String) (P:KP),n∈["int","bool","tuple","list","str","dict"]/\oK X.K B H [w,.ty n] vs/\sd .zC [w,.ty n] P/\Cont X.K B H .s P Q):=by
 rintro pins s σ H vs us Q I r ⟨B,w,n,P,hn,hb,h,c⟩
 obtain⟨v,v',rfl,h1,h2⟩:=Gm hb
 cases h2.ty
 obtain⟨a,ha,h⟩:=h
 have fin:Q (.bl (DY a n)) H:=c.now h (zD _)
 obtain⟨u1,u2,rfl,r1,r2⟩:=vals2 r
 cases(show u2=Value.type n from r2)
 have kk:∀a',a'∈["NoneType","bool","int","str","list","tuple"]->a=a'->PySem.W.kitOne X.K (.type a') (.type n)=some (DY a n):=fun a' m e=>by rw[e];exact hk a' m n hn
 have go:∀tk:Tok,EP X pins σ Q (.bool (DY a n)) {s with toks:=tk}:=fun tk=>⟨.bl _,H,I.tok _,rfl,fin⟩
 cases w with
 |aU=>
  cases h1.aU
  cases ha
  exact gm I r1 .aU (kk _ (by simp) rfl) go
 |bl b=>
  cases h1.bl
  cases ha
  exact gm I r1 (.bl b) (kk _ (by simp) rfl) go
 |int b=>
  cases h1.int
  cases ha
  exact gm I r1 (.int b) (kk _ (by simp) rfl) go
 |str b=>
  cases h1.str
  cases ha
  exact gm I r1 (.str b) (kk _ (by simp) rfl) go
 |lst l=>
  obtain⟨p,xs,rfl,q1,q2⟩:=h1.lst
  cases ha
  rcases q1 with q1|⟨o,q1⟩
  ·exact gm I r1 (.lst q1) (kk _ (by simp) rfl) go
  ·exact gm I r1 (.wO q1) (kk _ (by simp) rfl) go
 |tup l=>
  obtain⟨p,xs,rfl,q1,q2⟩:=h1.tup
  cases ha
  cases(show u1=Value.ref p from r1)
  obtain⟨its,r',⟨o,e1,e2,_⟩,_⟩:=I.tuple q1
  exact PySem.W.kia_one PySem.W.kitx_tuple I.oG ⟨o,e1,e2⟩ (kk _ (by simp) rfl) (fun z=>nomatch z) go
 |_=>exact nn ha
end
noncomputable def MI(K:PySem.W.Frag)(n:Nat)(m:Md)(sp:b6):Sp:=fun vs H Q E=>∃A ws P R,ws.length=n/\ai K A H ws vs/\Dom A H/\sp ws P R/\Cont K A H m P Q/\∀C H',R C->ay H H'->E (.ref C) none H'
noncomputable def Ut(K:PySem.W.Frag)(n:Nat)(m0:Md)(sp:b6):Sp:=fun vs H Q E=>∃(ab:Addr->Prop) (F:List Addr) (w0:W) (v0:V) (ws:List W) (vs':List V) (P:W->Prop) (R:Addr->Prop),vs=v0::vs'/\ws.length+1=n/\F.Nodup/\(∀p∈F,¬ab p)/\Dom ab H/\Fp K (fun p=>ab p\/p∈F) H m0 w0 v0 F/\ai K (fun p=>ab p\/p∈F) H ws vs'/\sp (w0::ws) P R/\
 (∀w y v F' H',P (.tup [w,y])->wH (·∈F) H H'->F'.Nodup->(∀p∈F',p∈F\/H p=none)->Fp K (fun p=>ab p\/p∈F') H' m0 y v0 F'->Rep K (fun p=>ab p\/p∈F') H' w v->Q v H')/\(∀C H',R C->wH (·∈F) H H'->E (.ref C) none H')
noncomputable def eY(K:PySem.W.Frag)(n:Nat)(m:Md)(sp:b6):Sp:=
 match m with
 |.io m0=>Ut K n m0 sp
 |m=>MI K n m sp
inductive gi(P:Program)(w:World)(K:PySem.W.Frag)(mg:Str->Option Value)(base:Heap):Nat->Value->Nat->Sp->Prop where
 |fn {k:Nat} {f:Addr} {fd:FuncData} {ps:List Str} {sp:Sp} (kp:PySem.W.keepIn K (.ref f)=true) (b:Binds K fd ps []) (F:aL P w K mg base (cV P w) k f fd ps sp):gi P w K mg base k (.ref f) ps.length sp
 |mk {k n:Nat} {C f:Addr} {fd:FuncData} {ps:List Str} {sp Zf:Sp} (M:Mk K C f) (b:Binds K fd ps []) (F:aL P w K mg base (cV P w) k f fd ps Zf)
  (h:∀vs H Q E,sp vs H Q E->∀x dx,H x=none->H dx=none->dx≠x->Zf (.ref x::vs) (upd (upd H dx (.own x)) x (.ins C dx [])) (fun v H2=>v=.aU/\Q (.ref x) H2) E):gi P w K mg base (k+1) (.ref C) n sp
theorem gi.keep{P:Program}{w:World}{K:PySem.W.Frag}{mg:Str->Option Value}{base:Heap}{k n:Nat}{fv:Value}{sp:Sp}(c:gi P w K mg base k fv n sp):PySem.W.keepIn K fv=true:=by
 cases c with
 |fn kp _ _=>exact kp
 |mk M _ _ _=>exact M.kp
theorem gi.run{X:Cx}{k n:Nat}{fv:Value}{sp:Sp}{pins:List (Addr×Obj)}{σ:St}{H:Hp}{s:Shared}{Q:VK}{E:XK}{us:List Value}{vs:List V}(c:gi X.prog X.w X.K X.mg X.base k fv n sp)(hr:dN k X.A)(hx:Passes (cV X.prog X.w) X E)(I:Inv X pins σ H s)(r:Vals vs us)(h:sp vs H Q E):
 wpAny (model X.prog X.w) X.A (call fv us) (EP X pins σ Q) X.xe s:=by
 cases c with
 |fn kp b F=>exact z6 (ds:=[]) (FF:=[]) F hr b .nil hx I r (by rw[List.append_nil];exact h)
 |mk M b F l=>exact FG (ds:=[]) (FF:=[]) M F hr b .nil hx I r (fun x dx h1 h2 h3=>by rw[List.append_nil];exact l vs H Q E h x dx h1 h2 h3)
section
variable{X:Cx}{M:Ms}{R:Addr->Prop}{e a b c:Expr}{t ta tb tc:WT}{m:Md}{pos p:Pos}{es:List Expr}{x:Str}
theorem BK{ts:Ev->(List W->Prop)->Prop}{k n:Nat}{fv:Value}{sp:b6}(F:gi X.prog X.w X.K X.mg X.base k fv n (MI X.K n m sp))(hr:dN k X.A)(hg:Gl X x)(hm:X.mg x=some fv)
 (hn:∀ws P R,sp ws P R->ws.length=n) (ha:VA X M R (e::es) ts) (hdb:(x==("__debug__":Str))=false) (he:starEach (e::es) X.env=(false,eval e X.env)::starEach es X.env) (hpl:(backTo pos (starEach es X.env)).any (·.1)=false):
 VE X M R m (.Call (.Name x p) (e::es) [] pos) (fun ε Q=>ts ε fun ws=>sp ws Q R):=by
 rintro pins s σ H Q I ⟨A,H0,ε,P,S,er,h,kk⟩
 obtain⟨E,pE,hE,hR⟩:=er
 refine wpAny_Call_Name_kw (pM I hg hm ?_ hdb)
 refine PySem.W.callWith_K (h₀:=X.base) I.ok.mod.RS F.keep (bK (ha pos pins s σ H (fun vs H1=>∃ws,ay H H1/\ai X.K (FB A M σ) H1 ws vs/\sp ws P R) I ⟨A,H0,ε,_,S,⟨E,pE,hE,hR⟩,h,fun ws vs H1 hw s1 rs=>⟨ws,s1,rs,hw⟩⟩) fun us s1 ⟨vs,H1,I1,r,ws,sm,rs,z7⟩=>⟨I1.oG,?_⟩) he hpl
 exact F.run hr pE I1 r ⟨FB A M σ,ws,P,R,hn _ _ _ z7,rs,(S.same sm).dom,z7,fun w v H' pw s' r'=>kk w v H' pw (sm.trans s') (r'.back sm fun _ z=>z),fun C H' rc s'=>hE C H' rc (S.sm.trans (sm.trans s'))⟩
theorem OZ{ts:Ev->(List W->Prop)->Prop}{bi:BI}{id:String}(hc:fJ X (.builtin id) (R7 X.K bi))(hg:Gl X x)(hm:X.mg x=none)(hv:bootBuiltins x=some (.builtin id))(ha:R6 X M R (e::es) ts)(hn:x≠"__name__")(hdb:(x==("__debug__":Str))=false)
 (he:starEach (e::es) X.env=(false,eval e X.env)::starEach es X.env) (hpl:(backTo pos (starEach es X.env)).any (·.1)=false):VE X M R (Us bi) (.Call (.Name x p) (e::es) [] pos) (fun ε Q=>ts ε fun ws=>sd bi ws Q):=
 PE.imp (qj hc hg hm hv ha hn hdb he hpl)<|by rintro σ H Q ⟨A,H0,ε,P,S,er,h,k⟩;exact⟨A,H0,ε,_,S,er,h,fun ws vs H1 hw s1 rs=>⟨FB A M σ,ws,P,(S.same s1).dom,rs,hw,fun w v H' pw s' r=>k w v H' pw (s1.trans s') (r.back s1 fun _ z=>z)⟩⟩
theorem O2{ts:Ev->(List W->Prop)->Prop}{bi:BI}{id:String}(hc:fJ X (.type id) (R7 X.K bi))(hg:Gl X x)(hm:X.mg x=none)(hv:bootBuiltins x=some (.type id))(ha:R6 X M R (e::es) ts)(hn:x≠"__name__")(hdb:(x==("__debug__":Str))=false)
 (he:starEach (e::es) X.env=(false,eval e X.env)::starEach es X.env) (hpl:(backTo pos (starEach es X.env)).any (·.1)=false):VE X M R (Us bi) (.Call (.Name x p) (e::es) [] pos) (fun ε Q=>ts ε fun ws=>sd bi ws Q):=
 PE.imp (DI hc hg hm hv ha hn hdb he hpl)<|by rintro σ H Q ⟨A,H0,ε,P,S,er,h,k⟩;exact⟨A,H0,ε,_,S,er,h,fun ws vs H1 hw s1 rs=>⟨FB A M σ,ws,P,(S.same s1).dom,rs,hw,fun w v H' pw s' r=>k w v H' pw (s1.trans s') (r.back s1 fun _ z=>z)⟩⟩
theorem O3{n:String}(hk:xq X.K)(hn':n∈["int","bool","tuple","list","str","dict"])(hg:Gl X x)(hm:X.mg x=none)(hv:bootBuiltins x=some (.builtin "isinstance"))(ha:VB X M R a ta)(hb:VB X M R b (fun _ Q=>Q (.ty n)))(hn:x≠"__name__")(hdb:(x==("__debug__":Str))=false)
 (he:starEach [a,b] X.env=(false,eval a X.env)::starEach [b] X.env) (he2:starEach [b] X.env=(false,eval b X.env)::starEach [] X.env) (hpl:(backTo pos (starEach [b] X.env)).any (·.1)=false):
 VE X M R .s (.Call (.Name x p) [a,b] [] pos) (fun ε Q=>ta ε fun w=>sd .zC [w,.ty n] Q):=
 PE.imp (qj (cw_isi hk) hg hm hv (bC ha (bC hb dD he2) he) hn hdb he hpl)<|by
  rintro σ H Q ⟨A,H0,ε,P,S,er,h,k⟩
  refine⟨A,H0,ε,_,S,er,h,fun w v H1 hw s1 r1=>⟨A,H0,ε,fun w2=>w2=.ty n,S.same s1,er,rfl,fun w2 v2 H2 wK s2 r2=>?_⟩⟩
  subst wK
  exact⟨FB A M σ,w,n,P,hn',⟨v,[v2],rfl,bq.same s2 r1,v2,[],rfl,r2,rfl⟩,hw,fun w' v' H' pw s' r=>k w' v' H' pw ((s1.trans s2).trans s') (r.back (s1.trans s2) fun _ z=>z)⟩
theorem Kh{cpos apos:Pos}(ha:VE X M R .s a ta)(hbase:attributeBase a "bit_length" X.env (eval a X.env)=eval a X.env)(hline:(apos.endLine==cpos.line)=true):
 VE X M R .s (.Call (.Attribute a "bit_length" apos) [] [] cpos) (fun ε Q=>ta ε fun x=>match x with|.int i=>Q (.int (Builtin.Int.intBits i:Nat))|_=>False):=
 PE.imp (FN PySem.F.plainAttrs_int PySem.F.slot_int_bit_length PySem.F.type_int_bit_length JW ha hbase hline)<|by
  rintro σ H Q ⟨A,H0,ε,P,S,er,h,k⟩
  refine⟨A,H0,ε,_,S,er,h,fun w v H1 hw s1 r1=>?_⟩
  cases w with
  |int i=>
   have e:=r1.bE.int_inv
   subst e
   exact⟨rfl,i,rfl,rfl,k _ _ H1 hw s1 (.of (iS _))⟩
  |_=>exact hw.elim
end
inductive Ec(K:PySem.W.Frag)(br:Bool)(B:Addr->Prop)(H:Hp):It->List W->Prop where
 |lst {a:Addr} {vs:List V} {ws:List W} (h:Rd H a (.lst vs)) (n:br=false->¬B a) (r:ai K B H ws vs):Ec K br B H (WA K a) ws
 |tup {a:Addr} {vs:List V} {ws:List W} (h:kU K H a vs) (r:ai K B H ws vs):Ec K br B H (WB K a) ws
 |nO (lo:Int) (n:Nat):Ec K br B H (S9 lo n) (iz lo 1 n)
 |Kl (lo st:Int) (n:Nat):Ec K br B H (V8 lo st n) (iz lo st n)
 |uL {a:Addr} {vs:List V} {ws:List W} (h:Rd H a (.lst vs)) (n:br=false->¬B a) (r:ai K B H ws vs):Ec K br B H (Xf K a) (jd ws)
 |rev {a:Addr} {vs:List V} {ws:List W} (h:Rd H a (.lst vs)) (n:br=false->¬B a) (r:ai K B H ws vs):Ec K br B H (Xh K a vs.length) ws.reverse
structure IW(K:PySem.W.Frag)(B:Addr->Prop)(Hs:Hp)(J:It)(ws:List W):Prop where
 go:∀i H,ay Hs H->i<ws.length->J.go i H
 yl:∀i H x H' w,ay Hs H->ws[i]?=some w->J.RW i H x H'->ay H H'/\∀B':Addr->Prop,(∀p o,Hs p=some o->B' p->B p)->Rep K B' H' w x
 st:∀i H,ay Hs H->i=ws.length->J.stop i H
theorem l9(lo st:Int)(n:Nat):(iz lo st n).length=n:=by unfold iz;simp
theorem xr{lo st:Int}{n i:Nat}{w:W}(h:(iz lo st n)[i]?=some w):w=.int (lo+i*st)/\i<n:=by
 unfold iz at h
 rw[List.getElem?_map]at h
 by_cases hi:i<n
 ·rw[List.getElem?_range hi]at h
  cases h
  exact⟨rfl,hi⟩
 ·rw[List.getElem?_eq_none (by simpa using hi)]at h
  cases h
theorem tS(l:List W):(jd l).length=l.length:=by unfold jd;simp
theorem n6{l:List W}{i:Nat}{w:W}(h:(jd l)[i]?=some w):∃x,l[i]?=some x/\w=.tup [.int i,x]:=by
 unfold jd at h
 rw[List.getElem?_zipWith]at h
 by_cases hi:i<l.length
 ·rw[List.getElem?_range hi,List.getElem?_eq_getElem hi]at h
  cases h
  exact⟨_,List.getElem?_eq_getElem hi,rfl⟩
 ·rw[List.getElem?_eq_none (by simpa using hi)]at h
  cases h
theorem Ec.iw{K:PySem.W.Frag}{br:Bool}{B:Addr->Prop}{Hs:Hp}{J:It}{ws:List W}(h:Ec K br B Hs J ws):IW K B Hs J ws:=by
 cases h with
 |@lst a vs _ h n r=>
  have q:∀H,ay Hs H->jV K H a vs:=fun H s=>.inl (VL.ay.rd s h)
  refine⟨fun i H s hi=>?_,fun i H x H' w s hw y=>?_,fun i H s hi=>⟨vs,q H s,by rw[r.len,hi];exact Nat.le_refl _⟩⟩
  ·have hi':i<vs.length:=by rw[r.len];exact hi
   exact⟨vs,vs[i],q H s,List.getElem?_eq_getElem hi'⟩
  ·obtain⟨rfl,y⟩:=y
   obtain⟨v,e,hr⟩:=r.get hw
   have:=y vs (q _ s)
   rw[e]at this
   cases this
   exact⟨ay.refl _,fun B' hB=>Rep.mv s hB w hr⟩
 |@tup a vs _ h r=>
  have q:∀H,ay Hs H->kU K H a vs:=fun H s=>L2.ay.tup s h
  refine⟨fun i H s hi=>?_,fun i H x H' w s hw y=>?_,fun i H s hi=>⟨vs,q H s,by rw[r.len,hi];exact Nat.le_refl _⟩⟩
  ·have hi':i<vs.length:=by rw[r.len];exact hi
   exact⟨vs,vs[i],q H s,List.getElem?_eq_getElem hi'⟩
  ·obtain⟨rfl,y⟩:=y
   obtain⟨v,e,hr⟩:=r.get hw
   have:=y vs (q _ s)
   rw[e]at this
   cases this
   exact⟨ay.refl _,fun B' hB=>Rep.mv s hB w hr⟩
 |nO lo n=>
  refine⟨fun i H s hi=>by rw[l9]at hi;exact hi,fun i H x H' w s hw y=>?_,fun i H s hi=>by rw[l9]at hi;exact Nat.le_of_eq hi.symm⟩
  obtain⟨rfl,rfl⟩:=y
  obtain⟨rfl,_⟩:=xr hw
  exact⟨ay.refl _,fun B' _=>by rw[Int.mul_one];exact iS _⟩
 |Kl lo st n=>
  refine⟨fun i H s hi=>by rw[l9]at hi;exact hi,fun i H x H' w s hw y=>?_,fun i H s hi=>by rw[l9]at hi;exact Nat.le_of_eq hi.symm⟩
  obtain⟨rfl,rfl⟩:=y
  obtain⟨rfl,_⟩:=xr hw
  exact⟨ay.refl _,fun B' _=>iS _⟩
 |@uL a vs ws h n r=>
  have q:∀H,ay Hs H->jV K H a vs:=fun H s=>.inl (VL.ay.rd s h)
  refine⟨fun i H s hi=>?_,fun i H x H' w s hw y=>?_,fun i H s hi=>⟨vs,q H s,by rw[r.len,hi,tS]⟩⟩
  ·rw[tS]at hi
   have hi':i<vs.length:=by rw[r.len];exact hi
   exact⟨vs,vs[i],q H s,List.getElem?_eq_getElem hi'⟩
  ·obtain⟨p,y,hp,rfl,rfl,hy⟩:=y
   obtain⟨w',hw',rfl⟩:=n6 hw
   obtain⟨v,e,hr⟩:=r.get hw'
   have e2:=hy vs (q _ s)
   rw[e]at e2
   obtain rfl:v=y:=Option.some.inj e2
   have s2:=aZ (H:=H) hp (.tup [.int i,v])
   exact⟨s2,fun B' hB=>DZ aD (.cons (iS _) (.cons (Rep.mv (s.trans s2) hB w' hr) .nil))⟩
 |@rev a vs ws h n r=>
  have q:∀H,ay Hs H->jV K H a vs:=fun H s=>.inl (VL.ay.rd s h)
  have hl:=r.len
  refine⟨fun i H s hi=>?_,fun i H x H' w s hw y=>?_,fun i H s hi=>?_⟩
  ·rw[List.length_reverse]at hi
   exact⟨vs,q H s,rfl,by rw[hl];exact hi⟩
  ·obtain⟨rfl,y⟩:=y
   have hi:i<ws.length:=by
    have:=(List.getElem?_eq_some_iff.mp hw).1
    rwa [List.length_reverse]at this
   rw[List.getElem?_reverse hi]at hw
   obtain⟨v,e,hr⟩:=r.get hw
   have:=y vs (q _ s) rfl
   rw[hl,e]at this
   cases this
   exact⟨ay.refl _,fun B' hB=>Rep.mv s hB w hr⟩
  ·rw[List.length_reverse]at hi
   show i=vs.length
   rw[hl,hi]
noncomputable def itemsOf:W->Option (List W)
 |.lst l=>some l
 |.tup l=>some l
 |_=>none
theorem tT{z:W}{Q:List W->Prop}:items z Q↔∃ws,itemsOf z=some ws/\Q ws:=by
 cases z<;>simp[items,itemsOf]
noncomputable def Gn(X:Cx)(M:Ms)(R:Addr->Prop)(br:Bool)(t:WT):TI:=fun σ H Q=>∃A H0 ε P,SR X.K M A H0 σ H ε/\ER X H0 R/\t ε P/\∀z,P z->∃ws,itemsOf z=some ws/\∀J H1,ay H H1->Ec X.K br (FB A M σ) H1 J ws->Q J H1
theorem PI.imp{X:Cx}{tg e:Expr}{t t':TI}(h:PI X tg e t)(k:∀σ H Q,t' σ H Q->t σ H Q):PI X tg e t':=fun pins s σ H Q I w=>h pins s σ H Q I (k σ H Q w)
section
variable{X:Cx}{M:Ms}{R:Addr->Prop}{e a b c tg:Expr}{t ta tb tc:WT}{m:Md}{pos p:Pos}{es:List Expr}{x:Str}{br:Bool}
theorem O4{l:Expr}{tl:TE}(hl:PE X l tl):PI X tg l (fun σ H Q=>tl σ H fun x H1=>∃a,x=.ref a/\(((∃xs,jV X.K H1 a xs)/\Q (WA X.K a) H1)\/((∃xs,kU X.K H1 a xs)/\Q (WB X.K a) H1))):=by
 intro pins s σ H Q I h
 refine bK (hl pins s σ H _ I h) ?_
 rintro v s1 ⟨x,H1,I1,r1,q1⟩
 obtain⟨a,e,q⟩:=q1
 subst e
 cases r1
 rcases q with⟨⟨xs,hq⟩,q⟩|⟨⟨xs,hq⟩,q⟩
 ·obtain⟨its,rv,p,hz⟩:=I1.list hq
  refine wpAny_pyIter_list p.isList ?_
  refine⟨s1.heap.objs.size,[s1.heap.objs.size],_,_,H1,rfl,I1.kept (t':=s1.toks) fun b o e=>Heap.get?_push_of_some _ e,Dr a _,⟨_,Heap.get?_push_size _ rfl,rfl,rfl⟩,fun b hb=>?_,q⟩
  have e:b=s1.heap.objs.size:=by simpa using hb
  subst e
  exact I1.zJ (Nat.le_refl _) (I1.hok.fresh (Nat.le_refl _))
 ·obtain⟨its,rv,p,hz⟩:=I1.tuple hq
  refine wpAny_pyIter_tuple (show s1.heap.IsTuple a its.toArray from p) ?_
  refine⟨s1.heap.objs.size,[s1.heap.objs.size],_,_,H1,rfl,I1.kept (t':=s1.toks) fun b o e=>Heap.get?_push_of_some _ e,zK a _,⟨_,Heap.get?_push_size _ rfl,rfl,rfl⟩,fun b hb=>?_,q⟩
  have e:b=s1.heap.objs.size:=by simpa using hb
  subst e
  exact I1.zJ (Nat.le_refl _) (I1.hok.fresh (Nat.le_refl _))
noncomputable def O5(K:PySem.W.Frag)(br:Bool):RL:=fun B _ H' w v=>bq K B H' w v/\(br=false->Rep K B H' w v)
theorem je(h:VE X M R m e t):PE X e (tV X M R (O5 X.K br) t):=PE.imp h<|by rintro σ H Q ⟨A,H0,ε,P,S,er,p,k⟩;exact⟨A,H0,ε,P,S,er,p,fun w v H' pw s r=>k w v H' pw s ⟨(r.rep S.dom).b,fun _=>r.rep S.dom⟩⟩
theorem Uu(h:VB X M R e t):PE X e (tV X M R (O5 X.K true) t):=PE.imp h<|by rintro σ H Q ⟨A,H0,ε,P,S,er,p,k⟩;exact⟨A,H0,ε,P,S,er,p,fun w v H' pw s r=>k w v H' pw s ⟨r,fun z=>by cases z⟩⟩
theorem O5.lst{K:PySem.W.Frag}{B:Addr->Prop}{H H':Hp}{l:List W}{v:V}(h:O5 K br B H H' (.lst l) v):∃p vs,v=.ref p/\Rd H' p (.lst vs)/\(br=false->¬B p)/\ai K B H' l vs:=by
 obtain⟨p,vs,rfl,h1,h2⟩:=h.1.lst
 refine⟨p,vs,rfl,h1,fun e=>?_,h2⟩
 have:=h.2 e
 rw[Rep]at this
 obtain⟨p',_,e',n,_⟩:=this
 cases e'
 exact n
theorem fY(hl:PE X a (tV X M R (O5 X.K br) ta)):PI X tg a (Gn X M R br ta):=PI.imp (O4 hl)<|by
 rintro σ H Q ⟨A,H0,ε,P,S,er,h,k⟩
 refine⟨A,H0,ε,P,S,er,h,fun z v H1 hz s1 r1=>?_⟩
 obtain⟨ws,hi,k⟩:=k z hz
 cases z with
 |lst l=>
  cases hi
  obtain⟨p,vs,rfl,h1,h2,h3⟩:=r1.lst
  exact⟨p,rfl,.inl ⟨⟨vs,.inl h1⟩,k _ H1 s1 (.lst h1 h2 h3)⟩⟩
 |tup l=>
  cases hi
  obtain⟨p,vs,rfl,h1,h2⟩:=r1.1.tup
  exact⟨p,rfl,.inr ⟨⟨vs,h1⟩,k _ H1 s1 (.tup h1 h2)⟩⟩
 |_=>exact nn hi
theorem O6{elts:List Expr}{kk:Nat}{tp:Pos}(hg:Gl X "enumerate")(hm:X.mg "enumerate"=none)(ha:PE X a (tV X M R (O5 X.K br) ta))(hs:starEach [a] X.env=(false,eval a X.env)::starEach [] X.env):
 PI X (.Tuple elts kk tp) (.Call (.Name "enumerate" p) [a] [] pos) (Gn X M R br (fun ε Q=>ta ε fun x=>match x with|.lst l=>Q (.lst (jd l))|_=>False)):=
 PI.imp (JX hg hm (bC ha dD hs) rfl hs)<|by
  rintro σ H Q ⟨A,H0,ε,P,S,er,h,k⟩
  refine⟨A,H0,ε,_,S,er,h,fun z v H1 hz s1 r1=>?_⟩
  cases z with
  |lst l=>
   obtain⟨ws,hi,k⟩:=k _ hz
   cases hi
   obtain⟨p,vs,rfl,h1,h2,h3⟩:=r1.lst
   exact⟨p,rfl,⟨vs,.inl h1⟩,k _ H1 s1 (.uL h1 h2 h3)⟩
  |_=>exact hz.elim
theorem O7(hg:Gl X "reversed")(hm:X.mg "reversed"=none)(ha:PE X a (tV X M R (O5 X.K br) ta))(hs:starEach [a] X.env=(false,eval a X.env)::starEach [] X.env):
 PI X tg (.Call (.Name "reversed" p) [a] [] pos) (Gn X M R br (fun ε Q=>ta ε fun x=>match x with|.lst l=>Q (.lst l.reverse)|_=>False)):=
 PI.imp (Ox hg hm (bC ha dD hs) rfl hs)<|by
  rintro σ H Q ⟨A,H0,ε,P,S,er,h,k⟩
  refine⟨A,H0,ε,_,S,er,h,fun z v H1 hz s1 r1=>?_⟩
  cases z with
  |lst l=>
   obtain⟨ws,hi,k⟩:=k _ hz
   cases hi
   obtain⟨p,vs,rfl,h1,h2,h3⟩:=r1.lst
   exact⟨p,vs,rfl,.inl h1,k _ H1 s1 (.rev h1 h2 h3)⟩
  |_=>exact hz.elim
theorem Km(hg:Gl X "range")(hm:X.mg "range"=none)(ha:VE X M R .s a ta)(hs:starEach [a] X.env=(false,eval a X.env)::starEach [] X.env):
 PI X tg (.Call (.Name "range" p) [a] [] pos) (Gn X M R br (fun ε Q=>ta ε fun x=>Gd [x] fun l=>Q (.lst l))):=
 PI.imp (Ds hg hm (bC ha dD hs) hs)<|by
  rintro σ H Q ⟨A,H0,ε,P,S,er,h,k⟩
  refine⟨A,H0,ε,_,S,er,h,fun x vx H1 hz s1 r1=>?_⟩
  cases x with
  |int j=>
   obtain⟨l1,l2,hz⟩:=hz
   obtain⟨nQ,hi,k⟩:=k _ hz
   cases hi
   cases r1.bE.int_inv
   exact⟨j,rfl,l1,l2,k _ H1 s1 (.nO 0 j.toNat)⟩
  |_=>exact hz.elim
theorem Kn(hg:Gl X "range")(hm:X.mg "range"=none)(ha:VE X M R .s a ta)(hb:VE X M R .s b tb)(hs:starEach [a,b] X.env=(false,eval a X.env)::starEach [b] X.env)(hs2:starEach [b] X.env=(false,eval b X.env)::starEach [] X.env):
 PI X tg (.Call (.Name "range" p) [a,b] [] pos) (Gn X M R br (fun ε Q=>ta ε fun x=>tb ε fun y=>Gd [x,y] fun l=>Q (.lst l))):=
 PI.imp (Du hg hm (bC ha (bC hb dD hs2) hs) (by rw[hs,hs2];rfl) hs2)<|by
  rintro σ H Q ⟨A,H0,ε,P,S,er,h,k⟩
  refine⟨A,H0,ε,_,S,er,h,fun x vx H1 hz s1 r1=>⟨A,H0,ε,_,S.same s1,er,hz,fun y vy H2 hz s2 r2=>?_⟩⟩
  cases x with
  |int i=>
   cases y with
   |int j=>
    obtain⟨l1,hz⟩:=hz
    obtain⟨nQ,hi,k⟩:=k _ hz
    cases hi
    cases r1.bE.int_inv
    cases r2.bE.int_inv
    exact⟨i,j,rfl,l1,k _ H2 (s1.trans s2) (.nO i (j -i).toNat)⟩
   |_=>exact hz.elim
  |_=>exact hz.elim
theorem Ko(hg:Gl X "range")(hm:X.mg "range"=none)(ha:VE X M R .s a ta)(hb:VE X M R .s b tb)(hc:VE X M R .s c tc)(hs:starEach [a,b,c] X.env=(false,eval a X.env)::starEach [b,c] X.env)(hs2:starEach [b,c] X.env=(false,eval b X.env)::starEach [c] X.env)(JT:starEach [c] X.env=(false,eval c X.env)::starEach [] X.env):
 PI X tg (.Call (.Name "range" p) [a,b,c] [] pos) (Gn X M R br (fun ε Q=>ta ε fun x=>tb ε fun y=>tc ε fun z=>Gd [x,y,z] fun l=>Q (.lst l))):=
 PI.imp (DS hg hm (bC ha (bC hb (bC hc dD JT) hs2) hs) (by rw[hs,hs2,JT];rfl) (by rw[hs2,JT];rfl))<|by
  rintro σ H Q ⟨A,H0,ε,P,S,er,h,k⟩
  refine⟨A,H0,ε,_,S,er,h,fun x vx H1 hz s1 r1=>⟨A,H0,ε,_,S.same s1,er,hz,fun y vy H2 hz s2 r2=>⟨A,H0,ε,_,S.same (s1.trans s2),er,hz,fun z vz H3 hz s3 r3=>?_⟩⟩⟩
  cases x with
  |int i=>
   cases y with
   |int j=>
    cases z with
    |int l=>
     obtain⟨n,l1,hz⟩:=hz
     obtain⟨nQ,hi,k⟩:=k _ hz
     cases hi
     cases r1.bE.int_inv
     cases r2.bE.int_inv
     cases r3.bE.int_inv
     exact⟨i,j,l,n,rfl,l1,k _ H3 ((s1.trans s2).trans s3) (.Kl i l n)⟩
    |_=>exact hz.elim
   |_=>exact hz.elim
  |_=>exact hz.elim
end
noncomputable def up(M:Ms)(n:Nat):Ms:=M.map fun x=>(x.1+n,x.2)
section
variable{K:PySem.W.Frag}{M:Ms}{A:Fz}{H0 H H1:Hp}{σ v0:St}{ε δ:Ev}
theorem n8{n i:Nat}{m:Md}:(i,m)∈up M n↔n<=i/\(i -n,m)∈M:=by
 unfold up
 rw[List.mem_map]
 constructor
 ·rintro⟨⟨j,m'⟩,hj,e⟩
  cases e
  exact⟨Nat.le_add_left _ _,by rw[Nat.add_sub_cancel];exact hj⟩
 ·rintro⟨h,hj⟩
  exact⟨(i -n,m),hj,by simp;omega⟩
theorem fk{n i:Nat}:aQ (up M n) i↔n<=i/\aQ M (i -n):=by
 constructor
 ·rintro⟨m,h⟩
  exact⟨(n8.mp h).1,m,(n8.mp h).2⟩
 ·rintro⟨h,m,h'⟩
  exact⟨m,n8.mpr ⟨h,h'⟩⟩
theorem qz{n i:Nat}(hn:δ.length=n)(h:n<=i):look (δ++ε) i=look ε (i -n):=by
 have e:∀w,look (δ++ε) i=some w↔look ε (i -n)=some w:=fun w=>by
  rw[bN,bN,List.getElem?_append_right (by lia),hn]
 cases h1:look ε (i -n)with
 |none=>
  cases h2:look (δ++ε) i with
  |none=>rfl
  |some w=>
   rw[e]at h2
   rw[h1]at h2
   cases h2
 |some w=>exact(e w).mpr h1
theorem SR.block(S:SR K M A H0 σ H ε){n:Nat}(hv:v0.length=n)(s:ay H H1){D:Addr}{o:HO}(hD:H D=none)(h1D:H1 D=some o):SR K (up M n) ⟨fun q=>A.ab q\/q=D,fun q=>A.B q\/q=D,none⟩ H0 (v0++σ) H1 (List.replicate n none++ε):=by
 obtain⟨F,O⟩:=S.ow
 have hd:(List.replicate n (none:Option W)).length=n:=by simp
 have ax:∀{i:Nat},n<=i->(v0++σ)[i]?=σ[i -n]?:=fun{i} h=>by rw[List.getElem?_append_right (by lia),hv]
 have hb:∀p o,H p=some o->(A.B p\/p=D)->A.B p:=fun p o e z=>by
  rcases z with z|rfl
  ·exact z
  ·rw[hD]at e
   cases e
 refine⟨by rw[List.length_append,List.length_append,hv,hd,S.len],fun i w hi e=>?_,S.sm.trans s,fun p z=>?_,(fun v e=>by cases e),fun i=>F (i -n),⟨fun i m m' a b=>O.un _ m m' (n8.mp a).2 (n8.mp b).2,fun i m w hm e=>?_,fun i hi e=>?_,fun i hi=>O.nd _ (fk.mp hi).2,fun i j p hi hj a b=>?_,fun i p hi hp=>O.nw _ p (fk.mp hi).2 hp,fun i p hi hp z=>?_,fun p=>?_⟩⟩
 ·by_cases h1:n<=i
  ·rw[qz hd h1]at e
   rw[ax h1]
   obtain⟨v,q1,q2⟩:=S.sh (i -n) w (fun z=>hi (fk.mpr ⟨h1,z⟩)) e
   exact⟨v,q1,Rep.mv s hb w q2⟩
  ·rw[bN,List.getElem?_append_left (by rw[hd];lia),List.getElem?_replicate,if_pos (by lia)]at e
   cases e
 ·rcases z with z|rfl
  ·exact(S.dm.same s) p z
  ·exact⟨_,h1D⟩
 ·obtain⟨h1,h2⟩:=n8.mp hm
  rw[qz hd h1]at e
  rw[ax h1]
  obtain⟨v,q1,q2⟩:=O.val _ m w h2 e
  exact⟨v,q1,Fp.mv s hb m q2⟩
 ·obtain⟨h1,h2⟩:=fk.mp hi
  rw[qz hd h1]at e
  exact O.emp _ h2 e
 ·have:=O.ds _ _ p (fk.mp hi).2 (fk.mp hj).2 a b
  have:=(fk.mp hi).1
  have:=(fk.mp hj).1
  lia
 ·rcases z with z|rfl
  ·exact O.na _ p (fk.mp hi).2 hp z
  ·obtain⟨o,e,_⟩:=O.has (fk.mp hi).2 hp
   rw[hD]at e
   cases e
 ·constructor
  ·rintro(z|rfl)
   ·rcases(O.all p).mp z with z|⟨i,hi,hp⟩
    ·exact .inl (.inl z)
    ·exact .inr ⟨i+n,fk.mpr ⟨by lia,by rw[Nat.add_sub_cancel];exact hi⟩,by rw[Nat.add_sub_cancel];exact hp⟩
   ·exact .inl (.inr rfl)
  ·rintro((z|rfl)|⟨i,hi,hp⟩)
   ·exact .inl ((O.all p).mpr (.inl z))
   ·exact .inr rfl
   ·exact .inl ((O.all p).mpr (.inr ⟨i -n,(fk.mp hi).2,hp⟩))
end
noncomputable def O8:List Nat->Jj
 |[]=>S7
 |i::is=>Mw (jc i) (O8 is)
noncomputable def gT(K:PySem.W.Frag)(one:Bool)(ts:List Nat):TG:=
 match one,ts with
 |true,[i]=>jc i
 |true,_=>fun _ _ _ _=>False
 |false,ts=>NN K ts.length (O8 ts)
noncomputable def cQ(σ:St):List Nat->List V->St
 |i::is,v::vs=>cQ (σ.set i (some v)) is vs
 |_,_=>σ
theorem xu:∀(is:List Nat) (vs:List V) (σ:St),(cQ σ is vs).length=σ.length
 |[],vs,σ=>by rw[cQ];simp
 |i::is,[],σ=>by rw[cQ];simp
 |i::is,v::vs,σ=>by rw[cQ,xu is vs,List.length_set]
theorem xw{n:Nat}:∀(is:List Nat) (vs:List V) (v0 σ:St),v0.length=n->(∀i∈is,i<n)->cQ (v0++σ) is vs=cQ v0 is vs++σ
 |[],vs,v0,σ,_,_=>by rw[cQ,cQ]<;>simp
 |i::is,[],v0,σ,_,_=>by rw[cQ,cQ]<;>simp
 |i::is,v::vs,v0,σ,hn,h=>by
  have hi:=h i List.mem_cons_self
  rw[cQ,cQ,List.set_append_left _ _ (by lia),xw is vs _ σ (by rw[List.length_set];exact hn) fun j hj=>h j (List.mem_cons_of_mem _ hj)]
section
variable{K:PySem.W.Frag}{M:Ms}{A:Fz}{H0 H:Hp}
theorem uS:∀(is:List Nat) (vs:List V) (σ:St) (Q:St->Hp->Prop),vs.length=is.length->Q (cQ σ is vs) H->O8 is vs σ H Q
 |[],[],σ,Q,_,q=>⟨rfl,q⟩
 |[],_::_,_,_,h,_=>by cases h
 |_::_,[],_,_,h,_=>by cases h
 |i::is,v::vs,σ,Q,h,q=>⟨v,vs,rfl,uS is vs _ Q (by simpa using h) (by rw[cQ]at q;exact q)⟩
theorem SR.bf:∀(is:List Nat) (ws:List W) (vs:List V) {σ:St} {ε:Ev},(∀i∈is,¬aQ M i)->SR K M A H0 σ H ε->ai K (FB A M σ) H ws vs->ws.length=is.length->SR K M A H0 (cQ σ is vs) H (bf ε is ws)
 |[],ws,vs,σ,ε,_,S,_,_=>by
  rw[cQ,VL.bf]<;>first|exact S|simp
 |i::is,[],vs,σ,ε,_,S,_,h=>by cases h
 |i::is,w::ws,vs,σ,ε,hm,S,r,h=>by
  obtain⟨v,r',rfl,h1,h2⟩:=r.cons_inv
  rw[cQ,VL.bf]
  have hi:=hm i List.mem_cons_self
  exact SR.bf is ws r' (fun j hj=>hm j (List.mem_cons_of_mem _ hj)) (S.set hi h1) h2 (by simpa using h)
theorem tgt{σ:St}{ε:Ev}{one:Bool}{ts:List Nat}{w:W}{v:V}{P:Ev->Prop}{Q:St->Hp->Prop}(hM:∀i∈ts,¬aQ M i)(S:SR K M A H0 σ H ε)(hr:Rep K (FB A M σ) H w v)(h:wT one ts w ε P)
 (k:∀vs ε',P ε'->SR K M A H0 (cQ σ ts vs) H ε'->Q (cQ σ ts vs) H):gT K one ts v σ H Q:=by
 cases one with
 |true=>
  match ts,h with
  |[i],h=>
   have:=k [v] (ε.set i (some w)) h (by rw[cQ,cQ]<;>first|exact S.set (hM i List.mem_cons_self) hr|simp)
   rw[cQ,cQ]at this
   ·exact this
   ·simp
 |false=>
  cases w with
  |tup l=>
   obtain⟨hl,h⟩:=h
   rw[Rep]at hr
   obtain⟨p,vs,rfl,h1,h2⟩:=hr
   exact⟨p,vs,rfl,kU.of h1,by rw[h2.len,hl],uS ts vs σ Q (by rw[h2.len,hl]) (k vs _ h (SR.bf ts l vs hM S h2 hl))⟩
  |_=>exact h.elim
end
theorem PF.imp{X:Cx}{e:List Expr}{t t':TT}(h:PF X e t)(k:∀σ H Q,t' σ H Q->t σ H Q):PF X e t':=fun pins s σ H Q I w=>h pins s σ H Q I (k σ H Q w)
noncomputable def Xr(K:PySem.W.Frag)(M:Ms)(t:WT):TE:=fun σ H Q=>∃A H0 ε P,SR K M A H0 σ H ε/\t ε P/\∀w v H',P w->ay H H'->Rep K (FB A M σ) H' w v->Q v H'
noncomputable def Xs(K:PySem.W.Frag)(M:Ms)(t:WT):TT:=fun σ H Q=>∃A H0 ε P,SR K M A H0 σ H ε/\t ε P/\∀x H',P x->ay H H'->∃b,x=.bl b/\Q b H'
section
variable{X:Cx}{M:Ms}{R:Addr->Prop}{tg iter elt:Expr}{ifs:List Expr}{scope:Scope}{xs N':List Str}{pos:Pos}{ti tc te:WT}{one:Bool}{ts:List Nat}
theorem xx(hlt:∀i∈ts,i<xs.length)(σ:St)(H:Hp)(Q:VK)
 (hh:tV X M R (Ge X.K .f) (fun ε Q=>ti ε fun z=>items z fun ws=>j9 (fun w K=>wT one ts w (List.replicate xs.length none++ε) fun ε'=>tc ε' fun x=>truth x fun k=>if k=true then te ε' fun y=>K (some y)else K none) ws [] fun l=>Q (.lst l)) σ H Q):
 F6 xs.length (Gn X M R true ti) (gT X.K one ts) (Xs X.K (up M xs.length) tc) (Xr X.K (up M xs.length) te) σ H Q:=by
 obtain⟨A,H0,ε,P,S,er,h,k⟩:=hh
 refine⟨A,H0,ε,_,S,er,h,fun z hz=>?_⟩
 obtain⟨ws,ez,hw⟩:=tT.mp hz
 refine⟨ws,ez,fun J H1 s1 it D hD=>?_⟩
 have iw:=it.iw
 generalize hf':(fun(w:W) (K:Option W->Prop)=>wT one ts w (List.replicate xs.length none++ε) fun ε'=>tc ε' fun x=>truth x fun k=>if k=true then te ε' fun y=>K (some y)else K none)=f at hw
 have Zg:H D=none:=s1.free hD
 refine⟨fun i m H2=>∃acc vs,m=ws.length -i/\i<=ws.length/\ay H1 H2/\H2 D=some (.lst vs)/\ai X.K (fun q=>FB A M σ q\/q=D) H2 acc vs/\j9 f (ws.drop i) acc (fun l=>P (.lst l)),
  ⟨ws.length,[],[],rfl,Nat.zero_le _,aZ hD _,aD,.nil,hw⟩,?_⟩
 rintro i m H2 ⟨acc,vs,rfl,hi,s2,Wb,ra,hm⟩
 by_cases Gp:i<ws.length
 ·refine .inr ⟨iw.go i H2 s2 Gp,fun x H3 y v0 hv0=>?_⟩
  have hwi:ws[i]?=some ws[i]:=List.getElem?_eq_getElem Gp
  rw[List.drop_eq_getElem_cons Gp]at hm
  generalize ws[i]=w at*
  obtain⟨s3,hrep⟩:=iw.yl i H2 x H3 w s2 hwi y
  have s13:ay H H3:=s1.trans (s2.trans s3)
  have h3D:H3 D=some (.lst vs):=s3 _ _ Wb
  have S3:SR X.K (up M xs.length) ⟨fun q=>A.ab q\/q=D,fun q=>A.B q\/q=D,none⟩ H0 (v0++σ) H3 (List.replicate xs.length none++ε):=S.block hv0 s13 Zg h3D
  have hr3:Rep X.K (fun q=>A.B q\/q=D) H3 w x:=by
   refine hrep _ fun p o e z=>?_
   rcases z with z|rfl
   ·exact z
   ·rw[hD]at e
    cases e
  have hM:∀j∈ts,¬aQ (up M xs.length) j:=fun j hj z=>by
   have:=(fk.mp z).1
   have:=hlt j hj
   lia
  rw[j9,←hf']at hm
  rw[hf']at hm
  refine tgt hM S3 hr3 hm fun us ε' hp S4=>?_
  have e4:cQ (v0++σ) ts us=cQ v0 ts us++σ:=xw ts us v0 σ hv0 hlt
  rw[e4]at S4⊢
  have hv1:(cQ v0 ts us).length=xs.length:=by rw[xu];exact hv0
  refine⟨cQ v0 ts us,hv1,rfl,⟨_,H0,ε',_,S4,hp,fun q H5 hq s5=>?_⟩⟩
  obtain⟨b,rfl,hq⟩:=cD hq
  refine⟨b,rfl,?_⟩
  have Wc:ay H2 H5:=s3.trans s5
  cases b with
  |false=>exact⟨ws.length -(i+1),by lia,acc,vs,rfl,Gp,s2.trans Wc,Wc _ _ Wb,ra.same Wc,hq⟩
  |true=>
   refine⟨_,H0,ε',_,S4.same s5,hq,fun y vy H6 hy s6 ry=>?_⟩
   obtain⟨hlen,hy⟩:=hy
   have Xu:=Wc.trans s6
   have Zh:=Xu _ _ Wb
   refine⟨vs,Zh,by rw[ra.len];exact hlen,ws.length -(i+1),by lia,acc++[y],vs++[vy],rfl,Gp,fun b o e=>?_,aD,?_,hy⟩
   ·rw[ao (aR e hD)]
    exact Xu _ _ (s2 _ _ e)
   ·have ry2:Rep X.K (fun q=>A.B q\/q=D) H6 y vy:=ry
    exact ai.put Zh (.inr rfl) _ ((ra.same Xu).app (.cons ry2 .nil))
 ·have e:i=ws.length:=by lia
  subst e
  refine .inl ⟨iw.st _ H2 s2 rfl,?_⟩
  rw[List.drop_length,j9]at hm
  exact k _ _ H2 hm (s1.trans s2) (.new Zg Wb (ra.less fun p z=>.inl z) ra)
theorem Kp(hc:X.calm=true)(ho:fX scope X.env.scope X.N N' xs=true)(hlt:∀i∈ts,i<xs.length)(hi:PI X tg iter (Gn X M R true ti))(hg:∀C s0 H0 fp,PG (aH X scope C xs N' s0 H0 fp) tg (gT X.K one ts))
 (hf:∀C s0 H0 fp,PF (aH X scope C xs N' s0 H0 fp) ifs (Xs X.K (up M xs.length) tc)) (he:∀C s0 H0 fp,PE (aH X scope C xs N' s0 H0 fp) elt (Xr X.K (up M xs.length) te)) (hs:∀z,foldedSetIterable iter X.env z=pure z):
 VE X M R .f (.ListComp elt [⟨tg,iter,ifs,0⟩] scope pos) (fun ε Q=>ti ε fun z=>items z fun ws=>j9 (fun w K=>wT one ts w (List.replicate xs.length none++ε) fun ε'=>tc ε' fun x=>truth x fun k=>if k=true then te ε' fun y=>K (some y)else K none) ws [] fun l=>Q (.lst l)):=
 PE.imp (JU xs N' hc ho hi hg hf he hs) fun σ H Q h=>xx hlt σ H Q h
end
section
variable{K:PySem.W.Frag}{M M':Ms}{A:Fz}{H0 H H1:Hp}{σ:St}{ε:Ev}
theorem SR.rb(S:SR K M A H0 σ H ε):∃Hs,SR K M A Hs σ H ε/\ay H0 Hs/\ay Hs H/\(∀p o,H p=some o->(E2 o=true/\A.B p)\/Hs p=some o):=by
 classical
 obtain⟨F,O⟩:=S.ow
 have get:∀p o,(if(∃i,aQ M i/\p∈F i)then none else H p)=some o->H p=some o:=fun p o z=>by
  split at z
  ·cases z
  ·exact z
 refine⟨fun p=>if(∃i,aQ M i/\p∈F i)then none else H p,⟨S.len,S.sh,get,S.dm,S.sl,F,⟨O.un,O.val,O.emp,O.nd,O.ds,fun i p hi hp=>if_pos ⟨i,hi,hp⟩,O.na,O.all⟩⟩,fun b o z=>?_,get,fun p o z=>?_⟩
 ·try dsimp only
  rw[if_neg]
  ·exact S.sm _ _ z
  ·rintro⟨i,hi,e⟩
   rw[O.nw i b hi e]at z
   cases z
 ·by_cases hp:∃i,aQ M i/\p∈F i
  ·have hp0:=hp
   obtain⟨i,hi,hp⟩:=hp
   obtain⟨o',e,hm⟩:=O.has hi hp
   rw[z]at e
   cases e
   exact .inl ⟨hm,(O.all p).mpr (.inr hp0)⟩
  ·exact .inr ((if_neg hp).trans z)
end
section
variable{K:PySem.W.Frag}{B A:Addr->Prop}{H Hs:Hp}
theorem Ec.low{J:It}{ws:List W}(h:∀p o,H p=some o->(E2 o=true/\B p)\/Hs p=some o)(ha:∀p,A p->B p)(i:Ec K false B H J ws):Ec K false A Hs J ws:=by
 have rd:∀{a:Addr} {vs:List V},Rd H a (.lst vs)->¬B a->Rd Hs a (.lst vs):=fun{a vs} r n=>by
  rcases r with r|⟨o,r⟩
  ·rcases h a _ r with⟨_,z⟩|z
   ·exact(n z).elim
   ·exact .inl z
  ·rcases h a _ r with⟨_,z⟩|z
   ·exact(n z).elim
   ·exact .inr ⟨o,z⟩
 cases i with
 |lst q n r=>exact .lst (rd q (n rfl)) (fun e z=>n e (ha _ z)) (ai.chg h (fun p _ _ z=>ha p z) _ r)
 |@tup a vs _ q r=>
  refine .tup ?_ (ai.chg h (fun p _ _ z=>ha p z) _ r)
  rcases q with(q|⟨o,q⟩)|q
  ·rcases h a _ q with⟨z,_⟩|z
   ·cases z
   ·exact .inl (.inl z)
  ·rcases h a _ q with⟨z,_⟩|z
   ·cases z
   ·exact .inl (.inr ⟨o,z⟩)
  ·exact .inr q
 |nO lo n=>exact .nO lo n
 |Kl lo st n=>exact .Kl lo st n
 |uL q n r=>exact .uL (rd q (n rfl)) (fun e z=>n e (ha _ z)) (ai.chg h (fun p _ _ z=>ha p z) _ r)
 |rev q n r=>exact .rev (rd q (n rfl)) (fun e z=>n e (ha _ z)) (ai.chg h (fun p _ _ z=>ha p z) _ r)
end
abbrev WS:=Dn->Ev->Prop
noncomputable def kg:Md->Bool
 |.io _=>true
 |_=>false
noncomputable def Ao(K:PySem.W.Frag)(ab:Addr->Prop)(s0:Option V)(H0 H':Hp)(m:Md)(w:W)(v:V):Prop:=
 match m with
 |.io m0=>∃wr w0 v0 F',w=.tup [wr,w0]/\s0=some v0/\F'.Nodup/\(∀p∈F',H0 p=none/\¬ab p)/\Fp K (fun p=>ab p\/p∈F') H' m0 w0 v0 F'/\Rep K (fun p=>ab p\/p∈F') H' wr v
 |m=>fK K ab H0 H' m w v
theorem Ao.of{K:PySem.W.Frag}{ab:Addr->Prop}{s0:Option V}{H0 H':Hp}{m:Md}{w:W}{v:V}(hm:kg m=false)(h:fK K ab H0 H' m w v):Ao K ab s0 H0 H' m w v:=by
 cases m with
 |io _=>cases hm
 |_=>exact h
theorem Ao.back{K:PySem.W.Frag}{ab:Addr->Prop}{s0:Option V}{H0 Hs H':Hp}{m:Md}{w:W}{v:V}(s:ay H0 Hs)(h:Ao K ab s0 Hs H' m w v):Ao K ab s0 H0 H' m w v:=by
 cases m with
 |io m0=>
  obtain⟨wr,w0,v0,F',h1,h2,h3,h4,h5⟩:=h
  exact⟨wr,w0,v0,F',h1,h2,h3,fun p hp=>⟨s.free (h4 p hp).1,(h4 p hp).2⟩,h5⟩
 |_=>exact fK.back s (fun _ z=>z) h
structure KS(X:Cx)(M:Ms)(m:Md)(ab:Addr->Prop)(s0:Option V)(H0:Hp)(d:Dn)(D:Ends):Prop where
 nx:∀A ε σ H,A.ab=ab->A.s0=s0->d.nx ε->SR X.K M A H0 σ H ε->D.nx σ H
 rt:∀w v H',d.rt w->ay H0 H'->Ao X.K ab s0 H0 H' m w v->D.rt v H'
 bk:∀A ε σ H,A.ab=ab->A.s0=s0->d.bk ε->SR X.K M A H0 σ H ε->D.bk σ H
 ct:∀A ε σ H,A.ab=ab->A.s0=s0->d.ct ε->SR X.K M A H0 σ H ε->D.ct σ H
noncomputable def sV(X:Cx)(M:Ms)(m:Md)(t:WS):TS:=fun D σ H=>∃A H0 ε d,SR X.K M A H0 σ H ε/\ER X H0 d.ex/\A.s0.isSome=kg m/\t d ε/\KS X M m A.ab A.s0 H0 d D
abbrev VS(X:Cx)(M:Ms)(m:Md)(st:Stmt)(t:WS):Prop:=PS X st (sV X M m t)
abbrev Kq(X:Cx)(M:Ms)(m:Md)(st:List Stmt)(t:WS):Prop:=zy X st (sV X M m t)
theorem PS.imp{X:Cx}{e:Stmt}{t t':TS}(h:PS X e t)(k:∀D σ H,t' D σ H->t D σ H):PS X e t':=fun pins s σ H D I w=>h pins s σ H D I (k D σ H w)
theorem zy.imp{X:Cx}{e:List Stmt}{t t':TS}(h:zy X e t)(k:∀D σ H,t' D σ H->t D σ H):zy X e t':=fun pins s σ H D I w=>h pins s σ H D I (k D σ H w)
section
variable{X:Cx}{M M':Ms}{R:Addr->Prop}{m mr m0:Md}{st:Stmt}{rest:List Stmt}{t u:WS}{e e1 e2 c:Expr}{te t1 t2 tc:(Addr->Prop)->WT}{pos pos':Pos}{x:Str}{i:Nat}{π:List nR}
theorem Kr:Kq X M m [] (fun d ε=>d.nx ε):=zy.imp Jx<|by rintro D σ H ⟨A,H0,ε,d,S,er,hz,h,k⟩;exact k.nx A ε σ H rfl rfl h S
theorem Ks(h:VS X M m st t):Kq X M m [st] t:=Bt h
theorem Gq(h:VS X M m st t)(k:Kq X M m rest u):Kq X M m (st::rest) (fun d ε=>t {d with nx:=u d} ε):=
 zy.imp (dM h k)<|by rintro D σ H ⟨A,H0,ε,d,S,er,hz,h,k⟩;exact⟨A,H0,ε,{d with nx:=u d},S,er,hz,h,fun A' ε' σ' H' ea eb hn S'=>⟨A',H0,ε',d,S',er,(by rw[eb];exact hz),hn,by rw[ea,eb];exact k⟩,k.rt,k.bk,k.ct⟩
theorem O9:VS X M m (.Break pos) (fun d ε=>d.bk ε):=PS.imp Fj<|by rintro D σ H ⟨A,H0,ε,d,S,er,hz,h,k⟩;exact k.bk A ε σ H rfl rfl h S
theorem Pa{ts:List Nat}(hps:∀{tv:TE},PE X e tv->PS X st (o9 tv (gT X.K false ts)))(hi:∀i∈ts,¬aQ M i)(he:∀R,VE X M R .s e (te R)):
 VS X M m st (fun d ε=>te d.ex ε fun w=>match w with|.tup l=>l.length=ts.length/\d.nx (bf ε ts l)|_=>False):=by
 rintro pins s σ H D I ⟨A,H0,ε,d,S,er,hz,h,k⟩
 refine hps (he d.ex) pins s σ H D I ⟨A,H0,ε,_,S,er,h,fun w v H1 hw s1 r=>?_⟩
 cases w with
 |tup l=>exact tgt (P:=d.nx) hi (S.same s1) r.bE hw fun vs ε' hp S'=>k.nx A _ _ H1 rfl rfl hp S'
 |_=>exact hw.elim
theorem Pb{ts:List Nat}{es:List Expr}{ta:(Addr->Prop)->Ev->(List W->Prop)->Prop}(hps:∀{tv:TA},PA X es tv->PS X st (fun D σ H=>tv σ H fun vs H1=>vs.length=ts.length/\D.nx (cQ σ ts vs) H1))(hi:∀i∈ts,¬aQ M i)(he:∀R,VA X M R es (ta R)):
 VS X M m st (fun d ε=>ta d.ex ε fun ws=>ws.length=ts.length/\d.nx (bf ε ts ws)):=by
 rintro pins s σ H D I ⟨A,H0,ε,d,S,er,hz,h,k⟩
 refine hps (he d.ex) pins s σ H D I ⟨A,H0,ε,_,S,er,h,fun ws vs H1 hw s1 r=>?_⟩
 exact⟨by rw[ai.len r,hw.1],k.nx A _ _ H1 rfl rfl hw.2 (SR.bf ts ws vs hi (S.same s1) r hw.1)⟩
theorem pP{K:PySem.W.Frag}{A:Fz}{H0 H:Hp}{σ:St}{ε:Ev}{w:W}{l:List W}(S:SR K M A H0 σ H ε)(hm:(i,m0)∈M)(hp:j8 m0 π=some .f)(hl:look ε i=some w)(hu:b7 w π=some (.lst l)):
 ∃v p vs,σ[i]?=some (some v)/\wJ K H v π (.ref p)/\H p=some (.lst vs)/\ai K A.B H l vs/\A.B p/\∀H1,ay H H1->∀(nQ:List W) (vs':List V),ai K A.B H1 nQ vs'->
  ∃A',A'.ab=A.ab/\A'.s0=A.s0/\(∀q o,H1 q=some o->A'.B q->A.B q)/\wH A.B H1 (upd H1 p (.lst vs'))/\SR K M A' H0 σ (upd H1 p (.lst vs')) (ε.set i (some (setAt w π (.lst nQ)))):=by
 obtain⟨F,O⟩:=S.ow
 obtain⟨v,h1,h2⟩:=O.val i m0 w hm hl
 obtain⟨v',F1,F',F2,eF,r,fp,back⟩:=Fp.path π m0 h2 hp hu
 rw[Fp]at fp
 obtain⟨ws,p,vs,e1,rfl,rfl,h3,h4⟩:=fp
 cases e1
 have R8:p∈F i:=by rw[eF];simp
 have Xv:A.B p:=(O.all p).mpr (.inr ⟨i,⟨m0,hm⟩,R8⟩)
 refine⟨v,p,vs,h1,r,h3,h4,Xv,fun H1 s nQ vs' hr=>?_⟩
 have S1:=S.same s
 obtain⟨F0,O0⟩:=S1.ow
 have O1:RZ K M A H0 σ H1 ε F:=⟨O.un,fun i m w hm e=>let⟨v,h1,h2⟩:=O.val i m w hm e;⟨v,h1,Fp.mv s (fun _ _ _ z=>z) m h2⟩,O.emp,O.nd,O.ds,O.nw,O.na,O.all⟩
 have Zi:=s _ _ h3
 have cB:wH A.B H1 (upd H1 p (.lst vs')):=.put Zi rfl Xv
 have Xw:p∉F1++F2:=by
  have:=O.nd i ⟨m0,hm⟩
  rw[eF]at this
  intro z
  have h1:=List.nodup_append.mp this
  rcases List.mem_append.mp z with z|z
  ·have h2:=List.nodup_append.mp h1.1
   exact h2.2.2 p z p (by simp) rfl
  ·exact h1.2.2 p (by simp) p z rfl
 have fp':Fp K A.B (upd H1 p (.lst vs')) m0 (setAt w π (.lst nQ)) v (F1++[p]++F2):=by
  refine back (upd H1 p (.lst vs')) A.B (.lst nQ) [p] ?_ (fun q o e=>?_) (fun q _ _ z=>z)
  ·rw[Fp]
   exact⟨nQ,p,vs',rfl,rfl,rfl,aD,ai.chg cB (fun _ _ _ z=>z) nQ hr⟩
  ·by_cases n:q=p
   ·subst n
    rw[h3]at e
    cases e
    exact .inl ⟨rfl,Xv,Xw⟩
   ·exact .inr (by rw[ao n];exact s _ _ e)
 rw[←eF]at fp'
 have hc:∀q o,H1 q=some o->(E2 o=true/\q∈F i)\/upd H1 p (.lst vs') q=some o:=fun q o e=>by
  by_cases n:q=p
  ·subst n
   rw[Zi]at e
   cases e
   exact .inl ⟨rfl,R8⟩
  ·exact .inr (by rw[ao n];exact e)
 have Xx:Fp K (fun q=>(A.B q/\q∉F i)\/q∈F i) (upd H1 p (.lst vs')) m0 (setAt w π (.lst nQ)) v (F i):=Fp.mv (ay.refl _) (fun q _ _ z=>by
  rcases z with z|z
  ·exact z.1
  ·exact(O.all q).mpr (.inr ⟨i,⟨m0,hm⟩,z⟩)) m0 fp'
 obtain⟨A',a1,a2,_,a3,a4,a5⟩:=O1.chg (F':=F i) S1 hm hl h1 hc (O.nd i ⟨m0,hm⟩) (fun q hq=>.inl hq) Xx
 exact⟨A',a1,a2,a3,cB,a5⟩
theorem Aq{ε:Ev}{P:List W->Prop}(h:match look ε i with|some (.lst l)=>P l|_=>False):∃l,look ε i=some (.lst l)/\P l:=by
 cases hl:look ε i with
 |none=>rw[hl]at h;exact h.elim
 |some w0=>
  rw[hl]at h
  cases w0 with
  |lst l=>exact⟨l,rfl,h⟩
  |_=>exact h.elim
theorem Pc{ε:Ev}{P:W->List W->Prop}(h:match look ε i with|some w0=>(match b7 w0 π with|some (.lst l)=>P w0 l|_=>False)|none=>False):∃w0 l,look ε i=some w0/\b7 w0 π=some (.lst l)/\P w0 l:=by
 cases hl:look ε i with
 |none=>rw[hl]at h;exact h.elim
 |some w0=>
  rw[hl]at h
  dsimp only at h
  cases hu:b7 w0 π with
  |none=>rw[hu]at h;exact h.elim
  |some u=>
   rw[hu]at h
   cases u with
   |lst l=>exact⟨w0,l,rfl,hu,h⟩
   |_=>exact h.elim
theorem Xy:j8 m0 []=some m0:=by cases m0<;>rw[j8]
theorem Pd{w:W}:b7 w []=some w:=by cases w<;>rw[b7]
theorem Pe{w u:W}:setAt w [] u=u:=by cases w<;>rw[setAt]
theorem Pf(hps:∀{tv:TE},PE X e tv->PS X st (Bu (WO X.K "list" uI (sC X.K i π) (FD tv N7))))(hm:(i,m0)∈M)(hp:j8 m0 π=some .f)(he:∀R,VE X M R .s e (te R)):
 VS X M m st (fun d ε=>match look ε i with|some w0=>(match b7 w0 π with|some (.lst l)=>te d.ex ε fun w=>l.length<sizeLine/\d.nx (ε.set i (some (setAt w0 π (.lst (l++[w])))))|_=>False)|none=>False):=by
 rintro pins s σ H D I ⟨A,H0,ε,d,S,er,hz,h,k⟩
 obtain⟨w0,l,e1,e2,h⟩:=Pc h
 obtain⟨v0,p,vs,h1,h2,h3,h4,hB,upd'⟩:=pP S hm hp e1 e2
 refine hps (he d.ex) pins s σ H D I ⟨v0,_,h1,h2,.inl ⟨rfl,vs,.inl (.inl h3)⟩,A,H0,ε,_,S,er,h,fun w v H1 hw s1 r=>?_⟩
 obtain⟨A',a1,a2,_,_,S'⟩:=upd' H1 s1 (l++[w]) (vs++[v]) ((h4.same s1).app (.cons r.bE .nil))
 exact⟨p,vs,v,rfl,rfl,s1 _ _ h3,by rw[h4.len];exact hw.1,k.nx A' _ _ _ a1 a2 hw.2 S'⟩
theorem Pg(hps:∀{tv:TE},PE X e tv->PS X st (Bu (WO X.K "list" uI (j7 i) (FD tv N7))))(hi:(i,.f)∈M)(he:∀R,VE X M R .s e (te R)):
 VS X M m st (fun d ε=>match look ε i with|some (.lst l)=>te d.ex ε fun w=>l.length<sizeLine/\d.nx (ε.set i (some (.lst (l++[w]))))|_=>False):=by
 rintro pins s σ H D I ⟨A,H0,ε,d,S,er,hz,h,k⟩
 obtain⟨l,e1,h⟩:=Aq h
 obtain⟨v0,p,vs,h1,h2,h3,h4,hB,upd'⟩:=pP (π:=[]) S hi Xy e1 Pd
 cases h2
 refine hps (he d.ex) pins s σ H D I ⟨_,h1,.inl ⟨rfl,vs,.inl (.inl h3)⟩,A,H0,ε,_,S,er,h,fun w v H1 hw s1 r=>?_⟩
 obtain⟨A',a1,a2,_,_,S'⟩:=upd' H1 s1 (l++[w]) (vs++[v]) ((h4.same s1).app (.cons r.bE .nil))
 rw[Pe]at S'
 exact⟨p,vs,v,rfl,rfl,s1 _ _ h3,by rw[h4.len];exact hw.1,k.nx A' _ _ _ a1 a2 hw.2 S'⟩
theorem Ph(hps:∀{tv tk:TE},PE X e tv->PE X e1 tk->PS X st (o9 tv (S8 (j7 i) tk MB)))(hi:(i,.f)∈M)(he:∀R,VE X M R .s e (te R))(hk:∀R,VE X M R .s e1 (t1 R)):
 VS X M m st (fun d ε=>te d.ex ε fun w=>match look ε i with|some (.lst l)=>(t1 d.ex ε fun x=>(match x with|.int j=>∃n,wG l.length j=some n/\d.nx (ε.set i (some (.lst (l.set n w))))|_=>False))|_=>False):=by
 rintro pins s σ H D I ⟨A,H0,ε,d,S,er,hz,h,k⟩
 refine hps (he d.ex) (hk d.ex) pins s σ H D I ⟨A,H0,ε,_,S,er,h,fun w v H1 hw s1 r=>?_⟩
 obtain⟨l,e1,hw⟩:=Aq hw
 obtain⟨v0,p,vs,h1,h2,h3,h4,hB,upd'⟩:=pP (π:=[]) S hi Xy e1 Pd
 cases h2
 refine⟨_,h1,A,H0,ε,_,S.same s1,er,hw,fun z vz H2 hz' s2 rz=>?_⟩
 cases z with
 |int j=>
  obtain⟨n,e,hz'⟩:=hz'
  have s12:=s1.trans s2
  obtain⟨A',a1,a2,_,_,S'⟩:=upd' H2 s12 (l.set n w) (vs.set n v) ((h4.same s12).set (r.bE.same s2))
  rw[Pe]at S'
  exact⟨p,vs,j,n,rfl,rz.bE.int_inv,s12 _ _ h3,by rw[h4.len];exact e,k.nx A' _ _ _ a1 a2 hz' S'⟩
 |_=>exact hz'.elim
theorem Gr(he:∀R,VE X [] R mr e (te R))(hm:mr=m\/m=.s)(ho:kg m=false):VS X M m (.Return (some e) pos) (fun d ε=>te d.ex ε d.rt):=by
 rintro pins s σ H D I ⟨A,H0,ε,d,S,er,hz,h,k⟩
 refine uC (he d.ex) pins s σ H D I ⟨_,H0,ε,_,S.go,er,h,fun w v H1 hw s1 r=>?_⟩
 rcases hm with rfl|rfl
 ·exact k.rt w v H1 hw (S.sm.trans s1) (.of ho (r.back S.sm fun _ z=>z))
 ·exact k.rt w v H1 hw (S.sm.trans s1) (.of ho ((r.s S.dm).back S.sm fun _ z=>z))
theorem Ku(he:PE X e (j7 i))(hi:(i,m)∈M)(ho:kg m=false):VS X M m (.Return (some e) pos) (fun d ε=>match look ε i with|some w=>d.rt w|none=>False):=by
 rintro pins s σ H D I ⟨A,H0,ε,d,S,er,hz,h,k⟩
 try dsimp only at h
 cases hl:look ε i with
 |none=>rw[hl]at h;exact h.elim
 |some w=>
  rw[hl]at h
  obtain⟨F,O⟩:=S.ow
  obtain⟨v,h1,h2⟩:=O.val i m w hi hl
  refine uC he pins s σ H D I ⟨_,h1,k.rt _ _ H h S.sm (.of ho ⟨F i,O.nd i ⟨m,hi⟩,fun p hp=>O.nw i p ⟨m,hi⟩ hp,Fp.mv (ay.refl _) (fun q _ _ z=>?_) m h2⟩)⟩
  rcases z with z|z
  ·exact(O.all q).mpr (.inl z)
  ·exact(O.all q).mpr (.inr ⟨i,⟨m,hi⟩,z⟩)
theorem uT{K:PySem.W.Frag}{A:Fz}{H0 H:Hp}{σ:St}{ε:Ev}{wr w0:W}{v:V}(S:SR K M A H0 σ H ε)(h0:(0,m0)∈M)(hl:look ε 0=some w0)(hs:∃v0,A.s0=some v0)(r:Rep K A.B H wr v):Ao K A.ab A.s0 H0 H (.io m0) (.tup [wr,w0]) v:=by
 obtain⟨v0,hs⟩:=hs
 obtain⟨F,O⟩:=S.ow
 obtain⟨u,h1,h2⟩:=O.val 0 m0 w0 h0 hl
 rw[(S.sl v0 hs).1]at h1
 cases h1
 have hb:∀p,(A.ab p\/p∈F 0)->A.B p:=fun p z=>(O.all p).mpr (z.imp id fun z=>⟨0,⟨m0,h0⟩,z⟩)
 exact⟨wr,w0,v0,F 0,rfl,hs,O.nd 0 ⟨m0,h0⟩,fun p hp=>⟨O.nw 0 p ⟨m0,h0⟩ hp,O.na 0 p ⟨m0,h0⟩ hp⟩,Fp.mv (ay.refl _) (fun p _ _ z=>hb p z) m0 h2,r.less hb⟩
theorem Uv{a b:List Stmt}(hc:∀R,VT X M R c (tc R))(ha:Kq X M m a t)(hb:Kq X M m b u):VS X M m (.If c a b pos) (fun d ε=>tc d.ex ε fun x=>truth x fun k=>if k=true then t d ε else u d ε):=by
 rintro pins s σ H D I ⟨A,H0,ε,d,S,er,hz,h,k⟩
 refine S5 (hc d.ex) ha hb pins s σ H D I ⟨A,H0,ε,_,S,er,h,fun x H1 hx s1=>?_⟩
 obtain⟨q,rfl,hx⟩:=cD hx
 refine⟨q,rfl,?_⟩
 cases q with
 |true=>exact⟨A,H0,ε,d,S.same s1,er,hz,hx,k⟩
 |false=>exact⟨A,H0,ε,d,S.same s1,er,hz,hx,k⟩
end
theorem Gs{X:Cx}{st:Stmt}{t:TS}(h:PS X.r9 st t):PS X st t:=PS.r9 h
section
variable{X:Cx}{M:Ms}{m:Md}{body:List Stmt}{tb:WS}{c iter tg:Expr}{tc:WT}{ti:(Addr->Prop)->WT}{pos:Pos}{one:Bool}{ts:List Nat}
theorem Pj(hc:VT X.r9 M (fun _=>False) c tc)(hb:Kq X.r9 M m body tb):VS X M m (.While c body [] pos) (fun d ε=>OC (fun ε Q=>tc ε fun x=>truth x Q) tb d ε):=by
 refine PS.imp (Gs (Fo PassesOwn.never hc hb)) ?_
 rintro D σ H ⟨A,H0,ε,d,S,er,hz,h,k⟩
 obtain⟨J,⟨m0,j0⟩,turn⟩:=h
 refine⟨fun n σ' H'=>∃A' ε',A'.ab=A.ab/\A'.s0=A.s0/\J n ε'/\SR X.K M A' H0 σ' H' ε',⟨m0,A,ε,rfl,rfl,j0,S⟩,?_⟩
 rintro n σ1 H1 ⟨A1,gQ,ea,eb,j1,S1⟩
 refine⟨A1,H0,gQ,_,S1,.none,turn n gQ j1,fun x H2 hx s2=>?_⟩
 obtain⟨q,rfl,hx⟩:=cD hx
 refine⟨q,rfl,?_⟩
 cases q with
 |true=>
  obtain⟨N,hN,hx⟩:=hx
  refine⟨fun σ' H'=>∃A' ε',A'.ab=A.ab/\A'.s0=A.s0/\N ε'/\SR X.K M A' H0 σ' H' ε',fun σ' H' ⟨A',ε',a1,a2,q1,q2⟩=>?_,A1,H0,gQ,_,S1.same s2,.none,(by rw[eb];exact hz),hx,⟨fun A' ε' σ' H' a1 a2 q1 q2=>⟨A',ε',a1.trans ea,a2.trans eb,q1,q2⟩,by rw[ea,eb];exact k.rt,fun A' ε' σ' H' a1 a2 q1 q2=>k.nx A' ε' σ' H' (a1.trans ea) (a2.trans eb) q1 q2,fun A' ε' σ' H' a1 a2 q1 q2=>⟨A',ε',a1.trans ea,a2.trans eb,q1,q2⟩⟩⟩
  obtain⟨m',l,j'⟩:=hN ε' q1
  exact⟨m',l,A',ε',a1,a2,j',q2⟩
 |false=>exact k.nx A1 _ _ H2 ea eb hx (S1.same s2)
theorem Pk(hc:X.calm=true)(hM:∀i∈ts,¬aQ M i)(hi:PI X.r9 tg iter (Gn X.r9 M (fun _=>False) false (ti fun _=>False)))(hg:PG X.r9 tg (gT X.K one ts))(hb:Kq X.r9 M m body tb)(hs:∀x,foldedSetIterable iter X.env x=pure x):
 VS X M m (.For tg iter body [] pos) (fun d ε=>ti (fun _=>False) ε fun z=>items z fun ws=>pB (fun w D' ε'=>wT one ts w ε' fun pC=>tb D' pC) d ws ε):=by
 refine PS.imp (Gs (NS PassesOwn.never hc hi hg hb hs)) ?_
 rintro D σ H ⟨A,H0,ε,d,S,er,hz,h,k⟩
 refine⟨A,H0,ε,_,S,.none,h,fun z hz'=>?_⟩
 obtain⟨ws,ez,hw⟩:=tT.mp hz'
 refine⟨ws,ez,fun J H1 s1 it=>?_⟩
 have S1:=S.same s1
 obtain⟨Hs,Ss,b0,b1,b2⟩:=S1.rb
 have low:Ec X.K false A.ab Hs J ws:=it.low (fun p o e=>b2 p o e) fun p z=>S.sub' p z
 have iw:=low.iw
 refine⟨fun i n σ' H'=>n=ws.length -i/\i<=ws.length/\∃A' ε',A'.ab=A.ab/\A'.s0=A.s0/\SR X.K M A' Hs σ' H' ε'/\pB (fun w D' ε'=>wT one ts w ε' fun pC=>tb D' pC) d (ws.drop i) ε',⟨ws.length,rfl,Nat.zero_le _,A,ε,rfl,rfl,Ss,hw⟩,?_⟩
 have up:∀{A':Fz} {σ':St} {H':Hp} {ε':Ev},SR X.K M A' Hs σ' H' ε'->SR X.K M A' H0 σ' H' ε':=fun{A' σ' H' ε'} q=>by
  obtain⟨F,O⟩:=q.ow
  exact⟨q.len,q.sh,b0.trans q.sm,q.dm,q.sl,F,⟨O.un,O.val,O.emp,O.nd,O.ds,fun i p hi e=>b0.free (O.nw i p hi e),O.na,O.all⟩⟩
 rintro i n σ2 H2 ⟨rfl,hi2,A2,jm,ea,eb,S2,wK⟩
 by_cases hlt:i<ws.length
 ·refine .inr ⟨iw.go i H2 S2.sm hlt,fun σ' H'=>∃A' ε',A'.ab=A.ab/\A'.s0=A.s0/\SR X.K M A' Hs σ' H' ε'/\pB (fun w D' ε'=>wT one ts w ε' fun pC=>tb D' pC) d (ws.drop (i+1)) ε',by rintro σ' H' ⟨A',ε',a1,a2,q1,q2⟩;exact⟨ws.length -(i+1),by omega,rfl,hlt,A',ε',a1,a2,q1,q2⟩,fun x H3 y=>?_⟩
  have hwi:ws[i]?=some ws[i]:=List.getElem?_eq_getElem hlt
  rw[List.drop_eq_getElem_cons hlt,pB]at wK
  generalize ws[i]=w at*
  obtain⟨s3,hrep⟩:=iw.yl i H2 x H3 w S2.sm hwi y
  have hr:Rep X.K (FB A2 M σ2) H3 w x:=hrep _ fun p o e z=>by
   obtain⟨F,O⟩:=S2.ow
   rcases(O.all p).mp z with z|⟨j,hj,e2⟩
   ·rw[ea]at z
    exact z
   ·rw[O.nw j p hj e2]at e
    cases e
  refine tgt hM (S2.same s3) hr wK fun vs ε' hp S4=>?_
  exact⟨A2,Hs,ε',_,S4,.none,(by rw[eb];exact hz),hp,⟨fun A' pC Uw Zj a1 a2 q1 q2=>⟨A',pC,a1.trans ea,a2.trans eb,q2,q1⟩,fun w' v' H' q1 q2 q3=>k.rt w' v' H' q1 (b0.trans q2) (by rw[ea,eb]at q3;exact q3.back b0),fun A' pC Uw Zj a1 a2 q1 q2=>k.nx A' _ _ _ (a1.trans ea) (a2.trans eb) q1 (up q2),fun A' pC Uw Zj a1 a2 q1 q2=>⟨A',pC,a1.trans ea,a2.trans eb,q2,q1⟩⟩⟩
 ·have e:i=ws.length:=by omega
  subst e
  refine .inl ⟨iw.st _ H2 S2.sm rfl,?_⟩
  rw[List.drop_length,pB]at wK
  exact k.nx A2 _ _ _ ea eb wK (up S2)
end
structure Go(A:Fz)(H:Hp)(A':Fz)(H':Hp):Prop where
 ab:A'.ab=A.ab
 s0:A'.s0=A.s0
 B:∀p o,H p=some o->A'.B p->A.B p
 ch:wH A.B H H'
theorem Go.same{A:Fz}{H H':Hp}(s:ay H H'):Go A H A H':=⟨rfl,rfl,fun _ _ _ z=>z,.same s⟩
theorem Go.trans{A A1 A2:Fz}{H H1 H2:Hp}(g:Go A H A1 H1)(k:Go A1 H1 A2 H2):Go A H A2 H2:=by
 refine⟨k.ab.trans g.ab,k.s0.trans g.s0,fun p o e z=>?_,fun p o e=>?_⟩
 ·rcases g.ch p o e with⟨_,y⟩|y
  ·exact y
  ·exact g.B p o e (k.B p o y z)
 ·rcases g.ch p o e with y|y
  ·exact .inl y
  ·rcases k.ch p o y with⟨h1,h2⟩|h
   ·exact .inl ⟨h1,g.B p o e h2⟩
   ·exact .inr h
theorem Go.rep{K:PySem.W.Frag}{A A1:Fz}{H H1:Hp}{w:W}{v:V}(g:Go A H A1 H1)(h:Rep K A.B H w v):Rep K A1.B H1 w v:=Rep.chg g.ch g.B w h
abbrev Pn:=Ev->(W->Ev->Prop)->Prop
abbrev Ux:=Ev->(List W->Ev->Prop)->Prop
noncomputable def tP(X:Cx)(M:Ms)(R:Addr->Prop)(t:Pn):TE:=fun σ H Q=>∃A H0 ε P,SR X.K M A H0 σ H ε/\ER X H0 R/\t ε P/\∀A' w v H' ε',P w ε'->Go A H A' H'->SR X.K M A' H0 σ H' ε'->Rep X.K A'.B H' w v->Q v H'
noncomputable def tPA(X:Cx)(M:Ms)(R:Addr->Prop)(t:Ux):TA:=fun σ H Q=>∃A H0 ε P,SR X.K M A H0 σ H ε/\ER X H0 R/\t ε P/\∀A' ws vs H' ε',P ws ε'->Go A H A' H'->SR X.K M A' H0 σ H' ε'->ai X.K A'.B H' ws vs->Q vs H'
abbrev VP(X:Cx)(M:Ms)(R:Addr->Prop)(e:Expr)(t:Pn):Prop:=PE X e (tP X M R t)
abbrev Po(X:Cx)(M:Ms)(R:Addr->Prop)(es:List Expr)(t:Ux):Prop:=PA X es (tPA X M R t)
section
variable{X:Cx}{M:Ms}{R:Addr->Prop}{m m0:Md}{e a b c:Expr}{es rest:List Expr}{t ta tb:Pn}{tl:Ux}{pos apos cpos p:Pos}{i j:Nat}{st:Stmt}{x:Str}{π:List nR}
theorem Uy{t:WT}(h:VE X M R .s e t):VP X M R e (fun ε Q=>t ε fun w=>Q w ε):=PE.imp h<|by rintro σ H Q ⟨A,H0,ε,P,S,er,h,k⟩;exact⟨A,H0,ε,_,S,er,h,fun w v H' hw s r=>k A w v H' ε hw (.same s) (S.same s) r.bE⟩
theorem Pp(hi:(i,.f)∈M)(hv:PE X e (j7 i))(hbase:attributeBase e "pop" X.env (eval e X.env)=eval e X.env)(hline:(apos.endLine==cpos.line)=true):
 VP X M R (.Call (.Attribute e "pop" apos) [] [] cpos) (fun ε Q=>match look ε i with|some (.lst l)=>∃w,l[l.length -1]?=some w/\Q w (ε.set i (some (.lst l.dropLast)))|_=>False):=
 PE.imp (FN PySem.F.plainAttrs_list PySem.F.slot_list_pop PySem.F.type_list_pop Oc hv hbase hline)<|by
  rintro σ H Q ⟨A,H0,ε,P,S,er,h,k⟩
  obtain⟨l,e1,w,e2,h⟩:=Aq h
  obtain⟨v0,q,vs,h1,h2,h3,h4,hB,upd'⟩:=pP (π:=[]) S hi Xy e1 Pd
  cases h2
  obtain⟨v,e3,hr⟩:=h4.get e2
  obtain⟨A',a1,a2,a3,a4,S'⟩:=upd' H (ay.refl H) l.dropLast vs.dropLast h4.dropLast
  rw[Pe]at S'
  have g:Go A H A' (upd H q (.lst vs.dropLast)):=⟨a1,a2,a3,a4⟩
  exact⟨_,h1,.inl ⟨rfl,vs,.inl (.inl h3)⟩,q,vs,v,rfl,rfl,h3,by rw[h4.len];exact e3,k A' w v _ _ h g S' (g.rep hr)⟩
theorem Pq{op:Operator}(ha:VP X M R a ta)(hb:VP X M R b tb):VP X M R (.BinOp a op b pos) (fun ε Q=>ta ε fun x gQ=>tb gQ fun y jm=>gZ op x y fun z=>Q z jm):=by
 rintro pins s σ H Q I ⟨A,H0,ε,P,S,er,p,k⟩
 refine wpAny_BinOp (bin ha hb I (R:=fun vx vy H2=>∃x y A2 jm,gZ op x y (fun z=>P z jm)/\Go A H A2 H2/\SR X.K M A2 H0 σ H2 jm/\Rep X.K A2.B H2 x vx/\Rep X.K A2.B H2 y vy) ⟨A,H0,ε,_,S,er,p,fun A1 x vx H1 gQ hx g1 S1 rx=>⟨A1,H0,gQ,_,S1,er,hx,fun A2 y vy H2 jm hy g2 S2 ry=>⟨x,y,A2,jm,hy,g1.trans g2,S2,g2.rep rx,ry⟩⟩⟩ ?_)
 rintro v u s2 vx vy H2 I2 rv ru ⟨x,y,A2,jm,h,g,S2,hx,hy⟩
 exact Ak op pins s2 σ H2 A2.B x y vx vy v u _ Q I2 S2.dom rv ru hx.b hy.b h fun w z H' pw s' r=>k A2 w z H' jm pw (g.trans (.same s')) (S2.same s') (r.rep S2.dom)
theorem Pr{op:CmpOp}(hu:X.A.units+64<cLine)(hm:behindInMarks op b=false)(ha:VP X M R a ta)(hb:VP X M R b tb):VP X M R (.Compare a [op] [b] pos) (fun ε Q=>ta ε fun x gQ=>tb gQ fun y jm=>cH op x y fun z=>Q z jm):=by
 rintro pins s σ H Q I ⟨A,H0,ε,P,S,er,p,k⟩
 refine wpAny_Compare1 (bin ha hb I (R:=fun vx vy H2=>∃x y A2 jm,cH op x y (fun z=>P z jm)/\Go A H A2 H2/\SR X.K M A2 H0 σ H2 jm/\Rep X.K A2.B H2 x vx/\Rep X.K A2.B H2 y vy) ⟨A,H0,ε,_,S,er,p,fun A1 x vx H1 gQ hx g1 S1 rx=>⟨A1,H0,gQ,_,S1,er,hx,fun A2 y vy H2 jm hy g2 S2 ry=>⟨x,y,A2,jm,hy,g1.trans g2,S2,g2.rep rx,ry⟩⟩⟩ ?_) hm
 rintro v u s2 vx vy H2 I2 rv ru ⟨x,y,A2,jm,h,g,S2,hx,hy⟩
 exact Al hu op pins s2 σ H2 A2.B x y vx vy v u _ Q I2 S2.dom rv ru hx.b hy.b h fun w z H' pw s' r=>k A2 w z H' jm pw (g.trans (.same s')) (S2.same s') (r.rep S2.dom)
theorem Kv:Po X M R [] (fun ε Q=>Q [] ε):=PA.imp dD<|by rintro σ H Q ⟨A,H0,ε,P,S,er,h,k⟩;exact k A [] [] H ε h (.same (ay.refl H)) S .nil
theorem Gu(hs:starEach (a::es) X.env=(false,eval a X.env)::starEach es X.env)(ha:VP X M R a ta)(hr:Po X M R es tl):Po X M R (a::es) (fun ε Q=>ta ε fun x gQ=>tl gQ fun xs jm=>Q (x::xs) jm):=
 PA.imp (bC ha hr hs)<|by
  rintro σ H Q ⟨A,H0,ε,P,S,er,h,k⟩
  refine⟨A,H0,ε,_,S,er,h,fun A1 x vx H1 gQ hx g1 S1 rx=>⟨A1,H0,gQ,_,S1,er,hx,fun A2 xs vs H2 jm hxs g2 S2 rs=>?_⟩⟩
  exact k A2 _ _ H2 jm hxs (g1.trans g2) S2 (.cons (g2.rep rx) rs)
theorem Uz(hs:lY b)(ha:VP X M R a ta)(hb:VP X M R b tb):VP X M R (.Subscript a b pos) (fun ε Q=>ta ε fun x gQ=>tb gQ fun y jm=>OA x y fun z=>Q z jm):=PE.imp (FJ z8 ha hb hs)<|by
 rintro σ H Q ⟨A,H0,ε,P,S,er,h,k⟩
 refine⟨A,H0,ε,_,S,er,h,fun A1 x vx H1 gQ hx g1 S1 rx=>⟨A1,H0,gQ,_,S1,er,hx,fun A2 y vy H2 jm hy g2 S2 ry=>?_⟩⟩
 have rx:=(g2.rep rx).b
 cases x with
 |lst l=>
  cases y with
  |int i=>
   obtain⟨p,vs,rfl,h1,h2⟩:=rx.lst
   obtain⟨w,e,hy⟩:=hy
   obtain⟨v,e2,h3⟩:=BH h2 e
   exact .inl ⟨p,vs,i,v,rfl,ry.int_inv,.inl h1,e2,k A2 _ _ H2 jm hy (g1.trans g2) S2 h3⟩
  |_=>exact hy.elim
 |tup l=>
  cases y with
  |int i=>
   obtain⟨p,vs,rfl,h1,h2⟩:=rx.tup
   obtain⟨w,e,hy⟩:=hy
   obtain⟨v,e2,h3⟩:=BH h2 e
   exact .inr (.inl ⟨p,vs,i,v,rfl,ry.int_inv,h1,e2,k A2 _ _ H2 jm hy (g1.trans g2) S2 h3⟩)
  |_=>exact hy.elim
 |jj ns=>
  cases y with
  |int i=>
   obtain⟨p,rfl,h1⟩:=rx.jj
   obtain⟨n,e,hy⟩:=hy
   exact .inl ⟨p,_,i,_,rfl,ry.int_inv,h1,BJ e,k A2 _ _ H2 jm hy (g1.trans g2) S2 (iS _)⟩
  |_=>exact hy.elim
 |_=>exact hy.elim
theorem ai.bl{K:PySem.W.Frag}{B:Addr->Prop}{H:Hp}:∀{ws:List W} {vs:List V},ai K B H ws vs->oK K B H ws vs
 |[],_,h=>h.nil_inv
 |w::ws,_,h=>by
  obtain⟨v,r,rfl,h1,h2⟩:=h.cons_inv
  exact⟨v,r,rfl,h1.b,h2.bl⟩
theorem Pu{bi:BI}{id:String}(hc:fJ X (.builtin id) (R7 X.K bi))(hg:Gl X x)(hm:X.mg x=none)(hv:bootBuiltins x=some (.builtin id))(ha:Po X M R (e::es) tl)(hn:x≠"__name__")(hdb:(x==("__debug__":Str))=false)
 (he:starEach (e::es) X.env=(false,eval e X.env)::starEach es X.env) (hpl:(backTo pos (starEach es X.env)).any (·.1)=false):VP X M R (.Call (.Name x p) (e::es) [] pos) (fun ε Q=>tl ε fun ws ε'=>sd bi ws fun w=>Q w ε'):=
 PE.imp (qj hc hg hm hv ha hn hdb he hpl)<|by rintro σ H Q ⟨A,H0,ε,P,S,er,h,k⟩;exact⟨A,H0,ε,_,S,er,h,fun A1 ws vs H1 gQ hw g1 S1 rs=>⟨A1.B,ws,fun w=>P w gQ,S1.dom,rs.bl,hw,fun w v H' pw s' r=>k A1 w v H' gQ pw (g1.trans (.same s')) (S1.same s') (r.rep S1.dom)⟩⟩
theorem Kw(hps:∀{tv:TE},PE X e tv->PS X st (o9 tv (jc j)))(hj:¬aQ M j){tt:(Addr->Prop)->Pn}(he:∀R,VP X M R e (tt R)):VS X M m st (fun d ε=>tt d.ex ε fun w ε'=>d.nx (ε'.set j (some w))):=by
 rintro pins s σ H D I ⟨A,H0,ε,d,S,er,hz,h,k⟩
 exact hps (he d.ex) pins s σ H D I ⟨A,H0,ε,_,S,er,h,fun A1 w v H1 ε' hw g S1 r=>k.nx A1 _ _ H1 g.ab g.s0 hw (S1.set hj r)⟩
theorem BL{tt:(Addr->Prop)->Pn}(hps:∀R,PS X st (Bu (tP X M R (tt R)))):VS X M m st (fun d ε=>tt d.ex ε fun w ε'=>d.nx ε'):=by
 rintro pins s σ H D I ⟨A,H0,ε,d,S,er,hz,h,k⟩
 exact hps d.ex pins s σ H D I ⟨A,H0,ε,_,S,er,h,fun A1 w v H1 ε' hw g S1 r=>k.nx A1 _ _ H1 g.ab g.s0 hw S1⟩
theorem Pw{te:(Addr->Prop)->WT}(he:∀R,VE X M R .s e (te R))(h0:(0,m0)∈M):VS X M (.io m0) (.Return (some e) pos) (fun d ε=>te d.ex ε fun w=>match look ε 0 with|some w0=>(d.rt (.tup [w,w0]))|none=>False):=by
 rintro pins s σ H D I ⟨A,H0,ε,d,S,er,hz,h,k⟩
 refine uC (he d.ex) pins s σ H D I ⟨A,H0,ε,_,S,er,h,fun w v H1 hw s1 r=>?_⟩
 cases hl:look ε 0 with
 |none=>rw[hl]at hw;exact hw.elim
 |some w0=>
  rw[hl]at hw
  exact k.rt _ v H1 hw (S.sm.trans s1) (uT (S.same s1) h0 hl (Option.isSome_iff_exists.mp hz) r.bE)
theorem Px(h0:(0,m0)∈M):VS X M (.io m0) (.Return none pos) (fun d ε=>match look ε 0 with|some w0=>(d.rt (.tup [.aU,w0]))|none=>False):=by
 rintro pins s σ H D I ⟨A,H0,ε,d,S,er,hz,h,k⟩
 try dsimp only at h
 cases hl:look ε 0 with
 |none=>rw[hl]at h;exact h.elim
 |some w0=>
  rw[hl]at h
  exact Bv pins s σ H D I (k.rt _ _ H h S.sm (uT S h0 hl (Option.isSome_iff_exists.mp hz) Ui))
end
section
variable{X:Cx}{M:Ms}{R:Addr->Prop}{m m0:Md}{e o a b c:Expr}{es rest:List Expr}{t ta tb:Pn}{tl:Ux}{pos apos cpos p:Pos}{i j n:Nat}{st:Stmt}{x:Str}{π:List nR}
theorem Ky{k n:Nat}{fv:Value}{sp:b6}(F:gi X.prog X.w X.K X.mg X.base k fv n (MI X.K n m sp))(hr:dN k X.A)(hg:Gl X x)(hm:X.mg x=some fv)
 (hn:∀ws P R,sp ws P R->ws.length=n) (ha:Po X M R (e::es) tl) (hdb:(x==("__debug__":Str))=false) (he:starEach (e::es) X.env=(false,eval e X.env)::starEach es X.env) (hpl:(backTo pos (starEach es X.env)).any (·.1)=false):
 VP X M R (.Call (.Name x p) (e::es) [] pos) (fun ε Q=>tl ε fun ws ε'=>sp ws (fun w=>Q w ε') R):=by
 rintro pins s σ H Q I ⟨A,H0,ε,P,S,er,h,kk⟩
 obtain⟨E,pE,hE,hR⟩:=er
 refine wpAny_Call_Name_kw (pM I hg hm ?_ hdb)
 refine PySem.W.callWith_K (h₀:=X.base) I.ok.mod.RS F.keep (bK (ha pos pins s σ H (fun vs H1=>∃ws A1 gQ,Go A H A1 H1/\SR X.K M A1 H0 σ H1 gQ/\ai X.K A1.B H1 ws vs/\sp ws (fun w=>P w gQ) R) I ⟨A,H0,ε,_,S,⟨E,pE,hE,hR⟩,h,fun A1 ws vs H1 gQ hw g1 S1 rs=>⟨ws,A1,gQ,g1,S1,rs,hw⟩⟩) fun us s1 ⟨vs,H1,I1,r,ws,A1,gQ,g1,S1,rs,z7⟩=>⟨I1.oG,?_⟩) he hpl
 exact F.run hr pE I1 r ⟨A1.B,ws,_,R,hn _ _ _ z7,rs,S1.dom,z7,fun w v H' pw s' r'=>kk A1 w v H' gQ pw (g1.trans (.same s')) (S1.same s') (r'.rep S1.dom),fun C H' rc s'=>hE C H' rc (S1.sm.trans s')⟩
theorem MJ{K:PySem.W.Frag}{A:Fz}{H0 H:Hp}{σ:St}{ε:Ev}{w0:W}{sp:b6}{ws:List W}{vs:List V}{P:W->Ev->Prop}{Q:VK}{E:XK}{v0:V}(S:SR K M A H0 σ H ε)(hi:(i,m0)∈M)(hl:look ε i=some w0)(hv:σ[i]?=some (some v0))(rs:ai K A.B H ws vs)(hn:ws.length+1=n)
 (h:sp (w0::ws) (fun r=>∃w y,r=.tup [w,y]/\P w (ε.set i (some y))) R) (hE:∀C H',R C->ay H0 H'->E (.ref C) none H') (kk:∀A' w v H' ε',P w ε'->Go A H A' H'->SR K M A' H0 σ H' ε'->Rep K A'.B H' w v->Q v H'):Ut K n m0 sp (v0::vs) H Q E:=by
 obtain⟨F,O⟩:=S.ow
 obtain⟨v,h1,h2⟩:=O.val i m0 w0 hi hl
 rw[hv]at h1
 cases h1
 have hh:aQ M i:=⟨m0,hi⟩
 have eB:∀p,((A.B p/\p∉F i)\/p∈F i)->A.B p:=fun p z=>by
  rcases z with z|z
  ·exact z.1
  ·exact(O.all p).mpr (.inr ⟨i,hh,z⟩)
 refine⟨fun p=>A.B p/\p∉F i,F i,w0,v0,ws,vs,_,R,rfl,hn,O.nd i hh,fun p hp z=>z.2 hp,fun p z=>S.dom p z.1,Fp.mv (ay.refl _) (fun p _ _ z=>eB p z) m0 h2,rs.less eB,h,fun w y v F' H' hw hc nd nw fp rw'=>?_,fun C H' rc hc=>hE C H' rc fun p o e=>?_⟩
 ·obtain⟨w',y',e,hw⟩:=hw
  cases e
  obtain⟨A',a1,a2,aB,a3,a4,S'⟩:=O.chg (F':=F') S hi hl hv (fun p o e=>(hc p o e).imp (fun z=>⟨z.1,z.2⟩) id) nd nw fp
  exact kk A' w v H' _ hw ⟨a1,a2,a3,a4⟩ S' (rw'.less fun p z=>(aB p).mp z)
 ·rcases hc p o (S.sm p o e)with⟨_,z⟩|z
  ·rw[O.nw i p hh z]at e
   cases e
  ·exact z
theorem Py{pl:Sem Bool}{G:W}{k n:Nat}{f:Addr}{fd:FuncData}{ps fs:List Str}{ms:List Md}{sp:b6}(hG:∀C,G=.cls C->Meth X.K C x f)(F:aL X.prog X.w X.K X.mg X.base (cV X.prog X.w) k f fd ps (Ut X.K n (.o fs ms) sp))(hr:dN k X.A)(hb:Binds X.K fd ps [])(hi:(i,.o fs ms)∈M)(hx:fs.contains x=false)
 (hn:∀ws P R,sp ws P R->ws.length=n) (hv:PE X o (j7 i)) (ha:Po X M R (e::es) tl) (hst:starEach (e::es) X.env=(false,eval e X.env)::starEach es X.env) (hpl:(backTo pos (starEach es X.env)).any (·.1)=false)
 (ht:eval (.Call (.Attribute o x apos) (e::es) [] pos) X.env=(do
   let ov←eval o X.env
   standAt apos.atName
   let(f,first)←holding [ov] (getMethod ov x pl)
   callWith pos f first (backTo pos (starEach (e::es) X.env)) (backToKw pos (keywordEach [] X.env)))):
 VP X M R (.Call (.Attribute o x apos) (e::es) [] pos) (fun ε Q=>match look ε i with|some (.obj C _ _)=>G=.cls C/\(tl ε fun ws ε'=>match look ε' i with|some w0=>sp (w0::ws) (fun r=>∃w y,r=.tup [w,y]/\Q w (ε'.set i (some y))) R|none=>False)|_=>False):=by
 rintro pins s σ H Q I ⟨A,H0,ε,P,S,er,h,kk⟩
 obtain⟨E,pE,hE,hR⟩:=er
 try dsimp only at h
 cases hl:look ε i with
 |none=>rw[hl]at h;exact h.elim
 |some w1=>
  rw[hl]at h
  cases w1 with
  |obj C fs' ws1=>
   obtain⟨hg,h⟩:=h
   obtain⟨F0,O0⟩:=S.ow
   obtain⟨v0,hv0,UA⟩:=O0.val i _ _ hi hl
   rw[Fp]at UA
   obtain⟨C',dx,nQ,q,Wd,F',e1,rfl,e3,h1,h2,hc,_⟩:=UA
   cases e1
   have lk:(fs.zip Wd).lookup x=none:=by
    have:∀(l:List Str) (r:List V),l.contains x=false->(l.zip r).lookup x=none:=fun l=>by
     induction l with
     |nil=>intro r _;rfl
     |cons y l ih=>
      intro r hx
      cases r with
      |nil=>rfl
      |cons z r=>
       rw[List.contains_cons,Bool.or_eq_false_iff]at hx
       rw[List.zip_cons_cons,List.lookup_cons,hx.1]
       exact ih r hx.2
    exact this fs Wd hx
   have mt:=hG C hg
   refine PySem.W.methodCall_KW (pl:=pl) (bK (hv pins s σ H (fun v' H'=>v'=V.ref q/\H'=H) I ⟨_,hv0,rfl,rfl⟩) fun u s1 ⟨x1,H1,I1,rx,ex,eh⟩=>?_) ht
   subst ex
   subst eh
   obtain rfl:u=Value.ref q:=rx
   refine qi I1 h1 hc.1 mt lk ?_
   refine PySem.W.callWith_K (first:=[.ref q]) (h₀:=X.base) I.ok.mod.RS mt.kp (bK (ha pos pins s1 σ H1 (fun vs' Xz=>∃ws A1 gQ w0,Go A H1 A1 Xz/\SR X.K M A1 H0 σ Xz gQ/\ai X.K A1.B Xz ws vs'/\look gQ i=some w0/\sp (w0::ws) (fun r=>∃w y,r=.tup [w,y]/\P w (gQ.set i (some y))) R) I1 ⟨A,H0,ε,_,S,⟨E,pE,hE,hR⟩,h,fun A1 ws vs H1 gQ hw g1 S1 rs=>?_⟩) fun us s2 ⟨vs,H2,I2,r,ws,A1,gQ,w0,g1,S1,rs,hl1,z7⟩=>⟨I2.oG,?_⟩) hst hpl
   ·try dsimp only at hw
    cases hl1:look gQ i with
    |none=>rw[hl1]at hw;exact hw.elim
    |some w0=>
     rw[hl1]at hw
     exact⟨ws,A1,gQ,w0,g1,S1,rs,hl1,hw⟩
   ·refine z6 (us:=.ref q::us) (vs:=.ref q::vs) (ds:=[]) (FF:=[]) F hr hb .nil pE I2 (.cons rfl r) ?_
    rw[List.append_nil]
    exact MJ S1 hi hl1 hv0 rs (by have:=hn _ _ _ z7;simpa using this) z7 hE fun A' w v H' ε' hw g S' rr=>kk A' w v H' ε' hw (g1.trans g) S' rr
  |_=>exact h.elim
end
theorem Pz{x:Str}:∀(l:List Str) (r:List V),l.contains x=false->(l.zip r).lookup x=none:=fun l=>by
 induction l with
 |nil=>intro r _;rfl
 |cons y l ih=>
  intro r hx
  cases r with
  |nil=>rfl
  |cons z r=>
   rw[List.contains_cons,Bool.or_eq_false_iff]at hx
   rw[List.zip_cons_cons,List.lookup_cons,hx.1]
   exact ih r hx.2
theorem PB{x:Str}{n:Nat}{v:V}:∀(l:List Str) (r:List V) (n:Nat),l.Nodup->l[n]?=some x->r[n]?=some v->(l.zip r).lookup x=some v:=fun l=>by
 induction l with
 |nil=>intro r n _ e _;exact nn e
 |cons y l ih=>
  intro r n nd e1 e2
  cases r with
  |nil=>exact nn e2
  |cons z r=>
   rw[List.zip_cons_cons,List.lookup_cons]
   cases n with
   |zero=>
    cases e1
    cases e2
    rw[beq_self_eq_true]
   |succ n=>
    have JS:l[n]?=some x:=by simpa using e1
    have ne:(x==y)=false:=by
     rw[beq_eq_false_iff_ne]
     rintro rfl
     exact(List.nodup_cons.mp nd).1 (List.mem_of_getElem? JS)
    rw[ne]
    exact ih r n (List.nodup_cons.mp nd).2 JS (by simpa using e2)
theorem Kz{x:Str}{v:V}:∀(l:List Str) (r:List V) (n:Nat),l.Nodup->l[n]?=some x->r.length=l.length->iQ x v (l.zip r)=l.zip (r.set n v):=fun l=>by
 induction l with
 |nil=>intro r n _ e _;exact nn e
 |cons y l ih=>
  intro r n nd e1 hl
  cases r with
  |nil=>cases hl
  |cons z r=>
   cases n with
   |zero=>
    cases e1
    rw[List.set_cons_zero,List.zip_cons_cons,List.zip_cons_cons,iQ]
    rw[if_pos (by first|rfl|simp)]
   |succ n=>
    have JS:l[n]?=some x:=by simpa using e1
    have ne:y≠x:=by
     rintro rfl
     exact(List.nodup_cons.mp nd).1 (List.mem_of_getElem? JS)
    rw[List.set_cons_succ,List.zip_cons_cons,List.zip_cons_cons,iQ]
    rw[if_neg (by first|exact ne|simpa using ne),ih r n (List.nodup_cons.mp nd).2 JS (by simpa using hl)]
section
variable{X:Cx}{M:Ms}{R:Addr->Prop}{m m0:Md}{e o a b c:Expr}{es rest:List Expr}{t ta tb:Pn}{tl:Ux}{pos apos cpos p:Pos}{i j n:Nat}{st:Stmt}{x:Str}{π:List nR}
theorem KA{pl:Sem Bool}{G:W}{k n:Nat}{f:Addr}{fd:FuncData}{ps fs:List Str}{ms:List Md}{sp:b6}(hG:∀C,G=.cls C->Meth X.K C x f)(F:aL X.prog X.w X.K X.mg X.base (cV X.prog X.w) k f fd ps (Ut X.K n (.o fs ms) sp))(hr:dN k X.A)(hb:Binds X.K fd ps [])(hi:(i,.o fs ms)∈M)(hx:fs.contains x=false)
 (hn:∀ws P R,sp ws P R->ws.length=n) (hv:PE X o (j7 i))
 (ht:eval (.Call (.Attribute o x apos) [] [] pos) X.env=(do
   let ov←eval o X.env
   standAt apos.atName
   let(f,first)←holding [ov] (getMethod ov x pl)
   callWith pos f first (backTo pos (starEach [] X.env)) (backToKw pos (keywordEach [] X.env)))):
 VP X M R (.Call (.Attribute o x apos) [] [] pos) (fun ε Q=>match look ε i with|some (.obj C _ _)=>G=.cls C/\(match look ε i with|some w0=>sp [w0] (fun r=>∃w y,r=.tup [w,y]/\Q w (ε.set i (some y))) R|none=>False)|_=>False):=by
 rintro pins s σ H Q I ⟨A,H0,ε,P,S,er,h,kk⟩
 obtain⟨E,pE,hE,hR⟩:=er
 try dsimp only at h
 cases hl:look ε i with
 |none=>rw[hl]at h;exact h.elim
 |some w1=>
  rw[hl]at h
  cases w1 with
  |obj C fs' ws1=>
   obtain⟨hg,h⟩:=h
   obtain⟨F0,O0⟩:=S.ow
   obtain⟨v0,hv0,UA⟩:=O0.val i _ _ hi hl
   rw[Fp]at UA
   obtain⟨C',dx,nQ,q,Wd,F',e1,rfl,e3,h1,h2,hc,_⟩:=UA
   cases e1
   have mt:=hG C hg
   refine PySem.W.methodCall_KW (pl:=pl) (bK (hv pins s σ H (fun v' H'=>v'=V.ref q/\H'=H) I ⟨_,hv0,rfl,rfl⟩) fun u s1 ⟨x1,H1,I1,rx,ex,eh⟩=>?_) ht
   subst ex
   subst eh
   obtain rfl:u=Value.ref q:=rx
   refine qi I1 h1 hc.1 mt (Pz fs Wd hx) ?_
   refine PySem.W.callWith_K0 (first:=[.ref q]) I1.oG mt.kp (z6 (us:=[.ref q]) (vs:=[.ref q]) (ds:=[]) (FF:=[]) F hr hb .nil pE I1 (.cons rfl .nil) ?_)
   exact MJ S hi hl hv0 .nil (by have:=hn _ _ _ h;simpa using this) h hE fun A' w v H' ε' hw g S' rr=>kk A' w v H' ε' hw g S' rr
  |_=>exact h.elim
theorem SR.more{K:PySem.W.Frag}{A:Fz}{H0 H H1:Hp}{σ:St}{ε:Ev}{G:List Addr}(S:SR K M A H0 σ H ε)(s:ay H H1)(nw:∀q∈G,H q=none)(ex:∀q∈G,∃o,H1 q=some o):SR K M ⟨fun q=>A.ab q\/q∈G,fun q=>A.B q\/q∈G,A.s0⟩ H0 σ H1 ε:=by
 obtain⟨F,O⟩:=S.ow
 have hb:∀p o,H p=some o->(A.B p\/p∈G)->A.B p:=fun p o e z=>by
  rcases z with z|z
  ·exact z
  ·rw[nw p z]at e
   cases e
 refine⟨S.len,fun i w hi e=>?_,S.sm.trans s,fun p z=>?_,S.sl,F,⟨O.un,fun i m w hm e=>?_,O.emp,O.nd,O.ds,O.nw,fun i p hi hp z=>?_,fun p=>?_⟩⟩
 ·obtain⟨v,h1,h2⟩:=S.sh i w hi e
  exact⟨v,h1,Rep.mv s hb w h2⟩
 ·rcases z with z|z
  ·exact S.dm.same s p z
  ·exact ex p z
 ·obtain⟨v,h1,h2⟩:=O.val i m w hm e
  exact⟨v,h1,Fp.mv s hb m h2⟩
 ·rcases z with z|z
  ·exact O.na i p hi hp z
  ·obtain⟨o,e,_⟩:=O.has hi hp
   rw[nw p z]at e
   cases e
 ·show(A.B p\/p∈G)↔_
  rw[O.all p]
  constructor
  ·rintro((z|z)|z)
   ·exact .inl (.inl z)
   ·exact .inr z
   ·exact .inl (.inr z)
  ·rintro((z|z)|z)
   ·exact .inl (.inl z)
   ·exact .inr z
   ·exact .inl (.inr z)
theorem PC(h:PE X e (j7 i)):PE X e (sC X.K i []):=PE.imp h<|by
 rintro σ H Q ⟨v,u,h1,h2,q⟩
 cases h2
 exact⟨v,h1,q⟩
theorem wJ.ix{K:PySem.W.Frag}{H:Hp}{n:Nat}:∀(π:List nR) {v u:V},wJ K H v (π++[.ix n]) u->∃p vs,wJ K H v π (.ref p)/\H p=some (.tup vs)/\vs[n]?=some u
 |[],v,u,⟨p,vs,x,e,h1,h2,h3⟩=>by
  cases h3
  exact⟨p,vs,by rw[e];rfl,h1,h2⟩
 |.ix m::π,v,u,⟨p,vs,x,e,h1,h2,h3⟩=>by
  obtain⟨q,vs',a,b,c⟩:=wJ.ix π h3
  exact⟨q,vs',⟨p,vs,x,e,h1,h2,a⟩,b,c⟩
 |.fl m _::π,v,u,⟨p,vs,x,e,h1,h2,h3⟩=>by
  obtain⟨q,vs',a,b,c⟩:=wJ.ix π h3
  exact⟨q,vs',⟨p,vs,x,e,h1,h2,a⟩,b,c⟩
theorem UB(h:PE X a (sC X.K i π))(hb:PE X b (tC (.int n)))(hs:lY b):PE X (.Subscript a b pos) (sC X.K i (π++[.ix n])):=
 PE.imp (FJ z8 h hb hs)<|by
  rintro σ H Q ⟨v,u,h1,h2,hq⟩
  obtain⟨q,vs,r,h3,h4⟩:=wJ.ix π h2
  exact⟨v,.ref q,h1,r,.inr (.inl ⟨q,vs,n,u,rfl,rfl,kU.of h3,bV h4,hq⟩)⟩
theorem wJ.fl{K:PySem.W.Frag}{H:Hp}{n:Nat}{f:Str}:∀(π:List nR) {v u:V},wJ K H v (π++[.fl n f]) u->∃p vs C dx fs,wJ K H v π (.ref p)/\H p=some (.ins C dx (List.zip fs vs))/\Ah K C fs/\fs[n]?=some f/\vs[n]?=some u
 |[],v,u,⟨p,vs,x,e,⟨C,dx,fs,h1,_,h4,h5⟩,h2,h3⟩=>by
  cases h3
  exact⟨p,vs,C,dx,fs,by rw[e];rfl,h1,h4,h5,h2⟩
 |.ix m::π,v,u,⟨p,vs,x,e,h1,h2,h3⟩=>by
  obtain⟨q,vs',C,dx,fs,a,b,c⟩:=wJ.fl π h3
  exact⟨q,vs',C,dx,fs,⟨p,vs,x,e,h1,h2,a⟩,b,c⟩
 |.fl m _::π,v,u,⟨p,vs,x,e,h1,h2,h3⟩=>by
  obtain⟨q,vs',C,dx,fs,a,b,c⟩:=wJ.fl π h3
  exact⟨q,vs',C,dx,fs,⟨p,vs,x,e,h1,h2,a⟩,b,c⟩
theorem PD{f:Str}(h:PE X a (sC X.K i π))(hb:attributeBase a f X.env (eval a X.env)=eval a X.env):PE X (.Attribute a f pos) (sC X.K i (π++[.fl n f])):=
 PE.imp (N6 h hb)<|by
  rintro σ H Q ⟨v,u,h1,h2,hq⟩
  obtain⟨q,vs,C,dx,fs,r,h3,h4,h5,h6⟩:=wJ.fl π h2
  exact⟨v,.ref q,h1,r,q,C,dx,_,u,rfl,h3,h4.1,h4.2.2.2 f (List.mem_of_getElem? h5),PB (v:=u) (n:=n) fs vs n h4.2.2.1 h5 h6,hq⟩
theorem PJ{f:Str}{fs:List Str}{ms:List Md}{te:(Addr->Prop)->WT}(hps:∀{tv:TE},PE X e tv->PS X st (Tn X.K (j7 i) tv f))(hi:(i,.o fs ms)∈M)(hf:fs[n]?=some f)(hm:ms[n]?=some .s)(he:∀R,VE X M R .s e (te R)):
 VS X M m st (fun d ε=>te d.ex ε fun w=>match look ε i with|some (.obj C fs ws)=>n<ws.length/\d.nx (ε.set i (some (.obj C fs (ws.set n w))))|_=>False):=by
 rintro pins s σ H D I ⟨A,H0,ε,d,S,er,hz,h,k⟩
 refine hps (he d.ex) pins s σ H D I ⟨A,H0,ε,_,S,er,h,fun w v H1 hw s1 r=>?_⟩
 try dsimp only at hw
 cases hl:look ε i with
 |none=>rw[hl]at hw;exact hw.elim
 |some w1=>
  rw[hl]at hw
  cases w1 with
  |obj C fs' ws=>
   obtain⟨hn,hw⟩:=hw
   have S1:=S.same s1
   obtain⟨F,O⟩:=S1.ow
   obtain⟨v0,hv0,fp⟩:=O.val i _ _ hi hl
   rw[Fp]at fp
   obtain⟨C',dx,nQ,q,vs,F',e1,rfl,e3,h1,h2,hc,h3⟩:=fp
   cases e1
   have r:=r.bE
   have hB:A.B q:=(O.all q).mpr (.inr ⟨i,⟨_,hi⟩,by rw[e3];exact List.mem_cons_self⟩)
   obtain⟨w0,hw0⟩:∃w0,ws[n]?=some w0:=⟨_,List.getElem?_eq_getElem hn⟩
   obtain⟨v1,F1,G,F2,q1,e4,q3,q4⟩:=cX.at ms h3 hm hw0
   rw[Fp]at q3
   obtain⟨rfl,_⟩:=q3
   have cB:wH A.B H1 (upd H1 q (.ins C dx (fs.zip (vs.set n v)))):=.put h1 rfl hB
   have Xw:q∉F':=by
    have:=O.nd i ⟨_,hi⟩
    rw[e3]at this
    exact(List.nodup_cons.mp this).1
   have fp':cX X.K A.B (upd H1 q (.ins C dx (fs.zip (vs.set n v)))) ms (ws.set n w) (vs.set n v) F':=by
    rw[e4]
    refine q4 _ A.B w v [] ?_ (fun p o e=>?_) (fun _ _ _ z=>z)
    ·rw[Fp]
     exact⟨rfl,Rep.chg cB (fun _ _ _ z=>z) w r⟩
    ·by_cases ne:p=q
     ·subst ne
      rw[h1]at e
      cases e
      refine .inl ⟨rfl,hB,fun z=>Xw ?_⟩
      rw[e4]
      rcases List.mem_append.mp z with z|z<;>simp[z]
     ·exact .inr (by rw[ao ne];exact e)
   refine⟨_,hv0,q,C,dx,_,rfl,h1,hc.1,hc.2.2.2 f (List.mem_of_getElem? hf),?_,?_⟩
   ·rw[List.length_zip,h2,Nat.min_self]
    exact hc.2.1
   ·rw[Kz fs vs n hc.2.2.1 hf h2]
    obtain⟨A',a1,a2,_,_,_,S'⟩:=O.chg (F':=F i) (H1:=upd H1 q (.ins C dx (fs.zip (vs.set n v)))) (w':=.obj C fs (ws.set n w)) S1 hi hl hv0 (fun p o e=>by
     by_cases ne:p=q
     ·subst ne
      rw[h1]at e
      cases e
      exact .inl ⟨rfl,by rw[e3];exact List.mem_cons_self⟩
     ·exact .inr (by rw[ao ne];exact e)) (O.nd i ⟨_,hi⟩) (fun p hp=>.inl hp) (Fp.mv (ay.refl _) (fun p _ _ z=>by
      rcases z with z|z
      ·exact z.1
      ·exact(O.all p).mpr (.inr ⟨i,⟨_,hi⟩,z⟩)) _ (by
       rw[Fp]
       exact⟨C,dx,ws.set n w,q,vs.set n v,F',rfl,rfl,e3,aD,by rw[List.length_set];exact h2,hc,fp'⟩))
    exact k.nx A' _ _ _ a1 a2 hw S'
  |_=>exact hw.elim
end
end VL
namespace L2
open PySem PySem.Spec PyProof.Rows
section
variable{pr:Program}{wo:World}{B:Around}{EE:Value->Shared->Prop}
theorem BN{z l:Addr}{its:Array Value}(ne:l≠z):∀(m j:Nat) (t:Shared) (R:List Value->Shared->Prop),t.heap.IsListIter z l j->t.heap.IsList l its->j+m<=its.size->
 (∀h1,h1.IsListIter z l (j+m)->Heap.SameBut z t.heap h1->R ((its.toList.drop j).take m) {t with heap:=h1})->wpAny (model pr wo) B (draw (.ref z) m) R EE t
 |0,j,t,R,i1,_,_,k=>by
  have q:R [] t:=by simpa using k t.heap i1 (Heap.SameBut.refl ..)
  exact wpAny_pure q
 |m+1,j,t,R,i1,l1,le,k=>by
  have lt:j<its.size:=by lia
  refine wpAny_bind (m:=pyNext (.ref z)) (wpAny_pyNext_list_item i1 l1 (x:=its[j]) (by simp[lt]) fun h1 i2 s1=>?_)
  refine wpAny_bind (wpAny_holding (BN ne m (j+1) _ _ i2 (l1.extBut s1.extBut ne) (by lia) fun h2 i3 s2=>wpAny_pure ?_))
  have e:its.toList.drop j=its[j]::its.toList.drop (j+1):=by simp[List.drop_eq_getElem_cons,lt]
  have q:=k h2 (by rw[←Nat.add_assoc,Nat.add_right_comm];exact i3) (s1.trans s2)
  rwa [e,List.take_succ_cons]at q
theorem KC{l:Addr}{its:Array Value}{t:Shared}{R:List Value->Shared->Prop}(hd:B.handled=none)(l1:t.heap.IsList l its)
 (k:∀h1,Heap.ExtBut t.heap.objs.size t.heap h1->R its.toList {t with heap:=h1}):wpAny (model pr wo) B (unpackItems (.ref l) its.size none) R EE t:=by
 have ne:l≠t.heap.objs.size:=let⟨_,e,_⟩:=l1;Nat.ne_of_lt (Heap.lt_size e)
 unfold unpackItems notIterableAtAll
 refine wpAny_bind (wpAny_bind (wpAny_specialOf l1.typeIs slot_list_iter.lookup (wpAny_pure ?_)))
 rw[if_neg (by simp)]
 refine wpAny_bind (wpAny_holding (wpAny_pyIter_list l1 ?_))
 refine wpAny_bind (wpAny_holding (BN ne its.size 0 _ _ ⟨_,Heap.get?_push_size _ rfl,rfl,rfl⟩ (l1.push _) (by lia) fun h1 i1 s1=>?_))
 have al:(its.toList.drop 0).take its.size=its.toList:=by
  rw[List.drop_zero,List.take_of_length_le (by simp)]
 rw[al,if_neg (by simp)]
 refine wpAny_bind (wpAny_holding (wpAny_pyNext_list_end hd i1 ((l1.push _).extBut s1.extBut ne) (by simp) fun h2 x2=>?_))
 rw[if_neg (by simp)]
 exact wpAny_pure (k h2 fun b o hb e=>x2 b o hb (s1.extBut b o hb (Heap.get?_push_of_some _ e)))
end
section
variable{X:Cx}{pos:Pos}
noncomputable def PK(K:PySem.W.Frag)(n:Nat)(t:Jj):TG:=fun v σ H Q=>∃a xs,v=.ref a/\jV K H a xs/\xs.length=n/\t xs σ H Q
theorem PL{es:List Expr}{k:Nat}{t:Jj}{n:Nat}(hc:X.calm=true)(h:RU X es t)(hn:(assignEach es X.env).length=n:=by rfl)(hst:(assignEach es X.env).findIdx? (·.1)=none:=by rfl):PG X (.Tuple es k pos) (PK X.K n t):=by
 rintro pins s σ H _ _ Q I r ⟨a,xs,rfl,hq,hl,hw⟩
 cases r
 obtain⟨its,rv,⟨o,m,e,c,_,dd⟩,hz⟩:=I.list hq
 have hle:=rv.length
 rw[assign_Tuple]
 refine wpAny_bind (wpAny_standAt ?_)
 unfold unpack
 rw[hst,show(assignEach es X.env).length=its.toArray.size by simp[hn,←hl,hle]]
 refine wpAny_bind (wpAny_holding (KC (I.ok.hd hc) ⟨o,e,c,_,dd⟩ fun h' hx=>?_))
 have I1:Inv X pins σ H {s with heap:=h'}:=I.kept (t':=s.toks) fun b o e=>hx b o (Nat.ne_of_lt (Heap.lt_size e)) e
 exact h pins _ σ H xs _ Q I1 (by simpa using rv) hw
end
end L2
namespace VL
open PySem PySem.Spec
open PyProof.Rows hiding St
open L2
section
variable{K:PySem.W.Frag}{M M':Ms}{A:Fz}{H0 H H1:Hp}{σ:St}{ε:Ev}
theorem SR.XA(S:SR K M' A H0 σ H ε)(h:∀x,x∈M↔x∈M'):SR K M A H0 σ H ε:=by
 obtain⟨F,O⟩:=S.ow
 have hh:∀i,aQ M i↔aQ M' i:=fun i=>⟨by rintro⟨m,hm⟩;exact⟨m,(h _).mp hm⟩,by rintro⟨m,hm⟩;exact⟨m,(h _).mpr hm⟩⟩
 exact⟨S.len,fun i w hi e=>S.sh i w (fun z=>hi ((hh i).mpr z)) e,S.sm,S.dm,fun v e=>⟨(S.sl v e).1,(hh 0).mpr (S.sl v e).2⟩,F,
  ⟨fun i m m' a b=>O.un i m m' ((h _).mp a) ((h _).mp b),fun i m w hm e=>O.val i m w ((h _).mp hm) e,fun i hi=>O.emp i ((hh i).mp hi),fun i hi=>O.nd i ((hh i).mp hi),fun i j p hi hj=>O.ds i j p ((hh i).mp hi) ((hh j).mp hj),fun i p hi=>O.nw i p ((hh i).mp hi),fun i p hi=>O.na i p ((hh i).mp hi),fun p=>(O.all p).trans ⟨fun z=>z.imp id<|by rintro⟨i,hi,hp⟩;exact⟨i,(hh i).mpr hi,hp⟩,fun z=>z.imp id<|by rintro⟨i,hi,hp⟩;exact⟨i,(hh i).mp hi,hp⟩⟩⟩⟩
theorem SR.rsv(S:SR K M A H0 σ H ε)(s:ay H H1){F:List Addr}(nw:∀p∈F,H p=none)(dm:∀p∈F,∃o,H1 p=some o):SR K M ⟨fun p=>A.ab p\/p∈F,fun p=>A.B p\/p∈F,A.s0⟩ H0 σ H1 ε:=by
 obtain⟨G,O⟩:=S.ow
 have ba:∀p o,H p=some o->(A.B p\/p∈F)->A.B p:=fun p o e z=>by
  rcases z with z|z
  ·exact z
  ·rw[nw p z]at e
   cases e
 refine⟨S.len,fun j w' hj e=>?_,S.sm.trans s,fun p z=>?_,S.sl,G,⟨O.un,fun j m' w' hj e=>?_,O.emp,O.nd,O.ds,O.nw,fun j p hj hp z=>?_,fun p=>?_⟩⟩
 ·obtain⟨u,h1,h2⟩:=S.sh j w' hj e
  exact⟨u,h1,Rep.mv s ba w' h2⟩
 ·rcases z with z|z
  ·exact S.dm.same s p z
  ·exact dm p z
 ·obtain⟨u,h1,h2⟩:=O.val j m' w' hj e
  exact⟨u,h1,Fp.mv s ba m' h2⟩
 ·rcases z with z|z
  ·exact O.na j p hj hp z
  ·obtain⟨o,e,_⟩:=O.has hj hp
   rw[nw p z]at e
   cases e
 ·constructor
  ·rintro(z|z)
   ·rcases(O.all p).mp z with z|z
    ·exact .inl (.inl z)
    ·exact .inr z
   ·exact .inl (.inr z)
  ·rintro((z|z)|z)
   ·exact .inl ((O.all p).mpr (.inl z))
   ·exact .inr z
   ·exact .inl ((O.all p).mpr (.inr z))
theorem SR.take(S:SR K M' A H0 σ H ε){i:Nat}{m:Md}{w:W}{v:V}{F:List Addr}(hM:∀x,x∈M↔x=(i,m)\/x∈M')(hi:¬aQ M' i)(hil:i<ε.length)(nd:F.Nodup)(ha:∀p∈F,A.ab p)(nw:∀p∈F,H0 p=none)(fp:Fp K A.B H m w v F):
 SR K M ⟨fun p=>A.ab p/\p∉F,A.B,A.s0⟩ H0 (σ.set i (some v)) H (ε.set i (some w)):=by
 obtain⟨G,O⟩:=S.ow
 have hm:∀j,aQ M j↔j=i\/aQ M' j:=fun j=>by
  constructor
  ·rintro⟨m',h'⟩
   rcases(hM _).mp h' with e|e
   ·cases e
    exact .inl rfl
   ·exact .inr ⟨m',e⟩
  ·rintro(rfl|⟨m',h'⟩)
   ·exact⟨m,(hM _).mpr (.inl rfl)⟩
   ·exact⟨m',(hM _).mpr (.inr h')⟩
 have ne:∀j,aQ M' j->j≠i:=fun j hj e=>by subst e;exact hi hj
 refine⟨by rw[List.length_set,List.length_set];exact S.len,fun j w' hj e=>?_,S.sm,fun p z=>S.dm p z.1,fun u e=>?_,fun j=>if j=i then F else G j,⟨fun j m1 m2 a b=>?_,fun j m' w' hj e=>?_,fun j hj e=>?_,fun j hj=>?_,fun j k p hj hk a b=>?_,fun j p hj hp=>?_,fun j p hj hp=>?_,fun p=>?_⟩⟩
 ·have hj2:j≠i/\¬aQ M' j:=⟨fun z=>hj ((hm j).mpr (.inl z)),fun z=>hj ((hm j).mpr (.inr z))⟩
  rw[aW (Ne.symm hj2.1)]at e
  obtain⟨u,h1,h2⟩:=S.sh j w' hj2.2 e
  exact⟨u,by rw[List.getElem?_set_ne (Ne.symm hj2.1)];exact h1,h2⟩
 ·obtain⟨h1,h2⟩:=S.sl u e
  exact⟨by rw[List.getElem?_set_ne (Ne.symm (ne 0 h2))];exact h1,(hm 0).mpr (.inr h2)⟩
 ·rcases(hM _).mp a with a|a
  ·rcases(hM _).mp b with b|b
   ·cases a
    cases b
    rfl
   ·cases a
    exact(hi ⟨_,b⟩).elim
  ·rcases(hM _).mp b with b|b
   ·cases b
    exact(hi ⟨_,a⟩).elim
   ·exact O.un j m1 m2 a b
 ·rcases(hM _).mp hj with a|a
  ·cases a
   have:=l7 e
   subst this
   exact⟨v,List.getElem?_set_self (by rw[S.len];exact hil),by rw[if_pos rfl];exact fp⟩
  ·have n:=ne j ⟨m',a⟩
   rw[aW (Ne.symm n)]at e
   obtain⟨u,h1,h2⟩:=O.val j m' w' a e
   exact⟨u,by rw[List.getElem?_set_ne (Ne.symm n)];exact h1,by rw[if_neg n];exact h2⟩
 ·by_cases n:j=i
  ·subst n
   have:look (ε.set j (some w)) j=some w:=by rw[bN];exact List.getElem?_set_self hil
   rw[this]at e
   cases e
  ·rw[aW (Ne.symm n)]at e
   rw[if_neg n]
   exact O.emp j (((hm j).mp hj).resolve_left n) e
 ·by_cases n:j=i
  ·rw[if_pos n]
   exact nd
  ·rw[if_neg n]
   exact O.nd j (((hm j).mp hj).resolve_left n)
 ·by_cases n1:j=i
  ·by_cases n2:k=i
   ·rw[n1,n2]
   ·rw[if_pos n1]at a
    rw[if_neg n2]at b
    exact(O.na k p (((hm k).mp hk).resolve_left n2) b (ha p a)).elim
  ·by_cases n2:k=i
   ·rw[if_neg n1]at a
    rw[if_pos n2]at b
    exact(O.na j p (((hm j).mp hj).resolve_left n1) a (ha p b)).elim
   ·rw[if_neg n1]at a
    rw[if_neg n2]at b
    exact O.ds j k p (((hm j).mp hj).resolve_left n1) (((hm k).mp hk).resolve_left n2) a b
 ·by_cases n:j=i
  ·rw[if_pos n]at hp
   exact nw p hp
  ·rw[if_neg n]at hp
   exact O.nw j p (((hm j).mp hj).resolve_left n) hp
 ·by_cases n:j=i
  ·rw[if_pos n]at hp
   exact fun z=>z.2 hp
  ·rw[if_neg n]at hp
   exact fun z=>O.na j p (((hm j).mp hj).resolve_left n) hp z.1
 ·constructor
  ·intro z
   by_cases hp:p∈F
   ·exact .inr ⟨i,(hm i).mpr (.inl rfl),by rw[if_pos rfl];exact hp⟩
   ·rcases(O.all p).mp z with z|⟨j,hj,Xk⟩
    ·exact .inl ⟨z,hp⟩
    ·exact .inr ⟨j,(hm j).mpr (.inr hj),by rw[if_neg (ne j hj)];exact Xk⟩
  ·rintro(z|⟨j,hj,hp⟩)
   ·exact(O.all p).mpr (.inl z.1)
   ·by_cases n:j=i
    ·rw[if_pos n]at hp
     exact(O.all p).mpr (.inl (ha p hp))
    ·rw[if_neg n]at hp
     exact(O.all p).mpr (.inr ⟨j,((hm j).mp hj).resolve_left n,hp⟩)
theorem SR.takes{K:PySem.W.Frag}{H0 H:Hp}:∀(ts:List Nat) (ms:List Md) {ws:List W} {vs:List V} {F:List Addr} {M M':Ms} {A:Fz} {σ:St} {ε:Ev},SR K M' A H0 σ H ε->cX K A.B H ms ws vs F->F.Nodup->(∀p∈F,A.ab p)->(∀p∈F,H0 p=none)->ts.length=ms.length->(∀x,x∈M↔x∈ts.zip ms\/x∈M')->(∀i∈ts,¬aQ M' i)->ts.Nodup->(∀i∈ts,i<ε.length)->
 SR K M ⟨fun p=>A.ab p/\p∉F,A.B,A.s0⟩ H0 (cQ σ ts vs) H (VL.bf ε ts ws)
 |[],[],ws,vs,F,M,M',A,σ,ε,S,h,_,_,_,_,hM,_,_,_=>by
  rw[cX]at h
  obtain⟨rfl,rfl,rfl⟩:=h
  have e:(fun p=>A.ab p/\p∉([]:List Addr))=A.ab:=funext fun p=>propext ⟨fun z=>z.1,fun z=>⟨z,by simp⟩⟩
  rw[e,cQ,VL.bf]
  ·exact S.XA fun x=>by rw[hM x];simp
  ·simp
  ·simp
 |[],_::_,ws,vs,F,M,M',A,σ,ε,_,_,_,_,_,hl,_,_,_,_=>by cases hl
 |_::_,[],ws,vs,F,M,M',A,σ,ε,_,_,_,_,_,hl,_,_,_,_=>by cases hl
 |i::ts,m::ms,ws,vs,F,M,M',A,σ,ε,S,h,nd,ha,nw,hl,hM,hi,un,lt=>by
  rw[cX]at h
  obtain⟨w,nQ,v,vs',F1,F2,rfl,rfl,rfl,h1,h2⟩:=h
  obtain⟨n1,n2,n3⟩:=List.nodup_append.mp nd
  obtain⟨u1,u2⟩:=List.nodup_cons.mp un
  rw[cQ,VL.bf]
  have S1:=S.take (M:=(i,m)::M') (fun x=>List.mem_cons) (hi i List.mem_cons_self) (lt i List.mem_cons_self) n1 (fun p hp=>ha p (List.mem_append_left _ hp)) (fun p hp=>nw p (List.mem_append_left _ hp)) h1
  have S2:=SR.takes ts ms (M:=M) S1 h2 n2 (fun p hp=>⟨ha p (List.mem_append_right _ hp),fun z=>n3 p z p hp rfl⟩) (fun p hp=>nw p (List.mem_append_right _ hp)) (by simpa using hl) (fun x=>by
   rw[hM x,List.zip_cons_cons,List.mem_cons,List.mem_cons]
   exact⟨fun z=>by
    rcases z with(z|z)|z
    ·exact .inr (.inl z)
    ·exact .inl z
    ·exact .inr (.inr z),fun z=>by
    rcases z with z|z|z
    ·exact .inl (.inr z)
    ·exact .inl (.inl z)
    ·exact .inr z⟩) (fun j hj=>by
   rintro⟨m',z⟩
   rcases List.mem_cons.mp z with z|z
   ·cases z
    exact u1 hj
   ·exact hi j (List.mem_cons_of_mem _ hj) ⟨m',z⟩) u2 (fun j hj=>by rw[List.length_set];exact lt j (List.mem_cons_of_mem _ hj))
  have e:(fun p=>(A.ab p/\p∉F1)/\p∉F2)=fun p=>A.ab p/\p∉F1++F2:=funext fun p=>propext ⟨fun z=>⟨z.1.1,fun y=>(List.mem_append.mp y).elim z.1.2 z.2⟩,fun z=>⟨⟨z.1,fun y=>z.2 (List.mem_append_left _ y)⟩,fun y=>z.2 (List.mem_append_right _ y)⟩⟩
  rw[←e]
  exact S2
end
theorem BO{K:PySem.W.Frag}{B:Addr->Prop}{H:Hp}:∀(ms:List Md) {ws:List W} {vs:List V} {F:List Addr},cX K B H ms ws vs F->vs.length=ms.length
 |[],ws,vs,F,h=>by
  rw[cX]at h
  rw[h.2.1]
  rfl
 |m::ms,ws,vs,F,h=>by
  rw[cX]at h
  obtain⟨w,nQ,v,vs',F1,F2,rfl,rfl,rfl,_,h2⟩:=h
  rw[List.length_cons,List.length_cons,BO ms h2]
section
variable{X:Cx}{M M':Ms}{m:Md}{st:Stmt}{te:(Addr->Prop)->WT}
theorem PM{ts:List Nat}{ms:List Md}(hps:∀R,PS X st (o9 (tV X M' R (Ge X.K (.t ms)) (te R)) (gT X.K false ts)))(hl:ts.length=ms.length)(hM:∀x,x∈M↔x∈ts.zip ms\/x∈M')(hi:∀i∈ts,¬aQ M' i)(un:ts.Nodup)(lt:∀i∈ts,i<X.N.length)(hio:kg m=true->0∉ts):
 VS X M m st (fun d ε=>te d.ex ε fun w=>match w with|.tup l=>l.length=ts.length/\d.nx (bf ε ts l)|_=>False):=by
 rintro pins s σ H D I ⟨A,H0,ε,d,S,er,hz,h,k⟩
 have h0:∀v,A.s0=some v->A.s0=some v/\aQ M' 0:=fun v e=>by
  refine⟨e,?_⟩
  have ho:kg m=true:=by rw[←hz,e];rfl
  obtain⟨m1,h1⟩:=(S.sl v e).2
  rcases(hM _).mp h1 with z|z
  ·exact(hio ho (List.of_mem_zip z).1).elim
  ·exact⟨m1,z⟩
 have le:∀i∈ts,i<ε.length:=fun i hi=>by rw[←S.len,I.len];exact lt i hi
 obtain⟨A1,ea,eb,hb,S'⟩:=S.sub (M':=M') (fun x hx=>(hM x).mpr (.inr hx)) A.s0 h0
 refine hps d.ex pins s σ H D I ⟨A1,H0,ε,_,S',er,h,fun w v H1 hw s1 r=>?_⟩
 cases w with
 |tup l=>
  obtain⟨F,nd,nw,fp⟩:=r
  rw[Fp]at fp
  obtain⟨ws,p,vs,e,rfl,hp,fl⟩:=fp
  cases e
  have mu:∀q∈F,∃o,H1 q=some o:=fun q hq=>by
   obtain⟨o,e,_⟩:=Fp.mu (K:=X.K) (A:=fun q=>A1.B q\/q∈F) (H:=H1) (.t ms) (w:=.tup l) (v:=.ref p) (by rw[Fp];exact⟨l,p,vs,rfl,rfl,hp,fl⟩) q hq
   exact⟨o,e⟩
  have S1:=S'.rsv s1 nw mu
  have S2:=SR.takes (M:=M) ts ms S1 fl nd (fun q hq=>.inr hq) (fun q hq=>by
   cases e:H0 q with
   |none=>rfl
   |some o=>
    have:=S'.sm q o e
    rw[nw q hq]at this
    cases this) hl hM hi un le
  have lv:vs.length=ts.length:=by
   rw[BO ms fl,hl]
  have eab:(fun q=>(A1.ab q\/q∈F)/\q∉F)=A.ab:=by
   rw[←ea]
   refine funext fun q=>propext ⟨fun z=>z.1.resolve_right z.2,fun z=>⟨.inl z,fun y=>?_⟩⟩
   obtain⟨o,e⟩:=S'.dm q z
   rw[nw q y]at e
   cases e
  refine⟨p,vs,rfl,kU.of hp,lv,uS ts vs σ _ lv (k.nx ⟨fun q=>(A1.ab q\/q∈F)/\q∉F,fun q=>A1.B q\/q∈F,A1.s0⟩ _ _ H1 eab eb hw.2 S2)⟩
 |_=>exact hw.elim
theorem PN{e:Expr}{ts:List Nat}(hps:∀{tv:TE},PE X e tv->PS X st (o9 tv (PK X.K ts.length (O8 ts))))(hi:∀i∈ts,¬aQ M i)(he:∀R,VE X M R .s e (te R)):
 VS X M m st (fun d ε=>te d.ex ε fun w=>match w with|.lst l=>l.length=ts.length/\d.nx (bf ε ts l)|_=>False):=by
 rintro pins s σ H D I ⟨A,H0,ε,d,S,er,hz,h,k⟩
 refine hps (he d.ex) pins s σ H D I ⟨A,H0,ε,_,S,er,h,fun w v H1 hw s1 r=>?_⟩
 cases w with
 |lst l=>
  have r:=r.bE
  rw[Rep]at r
  obtain⟨p,vs,rfl,_,h1,h2⟩:=r
  have lv:vs.length=ts.length:=by rw[h2.len,hw.1]
  exact⟨p,vs,rfl,.inl h1,lv,uS ts vs σ _ lv (k.nx A _ _ H1 rfl rfl hw.2 (SR.bf ts l vs hi (S.same s1) h2 hw.1))⟩
 |_=>exact hw.elim
theorem PR{a b c:Expr}{i j k kd:Nat}{m1 m2 m3:Md}{p q:Pos}(ha:PE X a (j7 i))(hb:PE X b (j7 j))(hc:PE X c (j7 k))(e1:starEach [a,b,c] X.env=(false,eval a X.env)::starEach [b,c] X.env)(e2:starEach [b,c] X.env=(false,eval b X.env)::starEach [c] X.env)(e3:starEach [c] X.env=(false,eval c X.env)::starEach [] X.env)(hi:(i,m1)∈M)(hj:(j,m2)∈M)(hk:(k,m3)∈M)(n1:i≠j)(n2:i≠k)(n3:j≠k):
 VS X M (.t [m1,m2,m3]) (.Return (some (.Tuple [a,b,c] kd p)) q) (fun d ε=>match look ε i with|some x=>(match look ε j with|some y=>(match look ε k with|some z=>d.rt (.tup [x,y,z])|none=>False)|none=>False)|none=>False):=by
 rintro pins s σ H D I ⟨A,H0,ε,d,S,er,hz,h,kk⟩
 try dsimp only at h
 cases l1:look ε i with
 |none=>rw[l1]at h;exact h.elim
 |some x=>
 cases l2:look ε j with
 |none=>rw[l1,l2]at h;exact h.elim
 |some y=>
 cases l3:look ε k with
 |none=>rw[l1,l2,l3]at h;exact h.elim
 |some z=>
  rw[l1,l2,l3]at h
  obtain⟨F,O⟩:=S.ow
  obtain⟨v1,h1,f1⟩:=O.val i m1 x hi l1
  obtain⟨v2,h2,f2⟩:=O.val j m2 y hj l2
  obtain⟨v3,h3,f3⟩:=O.val k m3 z hk l3
  refine uC (z4 (bC ha (bC hb (bC hc dD e3) e2) e1)) pins s σ H D I ⟨v1,h1,v2,h2,v3,h3,by show 3<=sizeLine;decide,fun r hr=>?_⟩
  have sm:=aZ (H:=H) hr (.tup [v1,v2,v3])
  have sub:∀q o,H q=some o->(A.ab q\/q∈F i++(F j++(F k++[])))->A.B q:=fun q _ _ z=>by
   rcases z with z|z
   ·exact(O.all q).mpr (.inl z)
   ·simp only[List.append_nil,List.mem_append]at z
    rcases z with z|z|z
    ·exact(O.all q).mpr (.inr ⟨i,⟨m1,hi⟩,z⟩)
    ·exact(O.all q).mpr (.inr ⟨j,⟨m2,hj⟩,z⟩)
    ·exact(O.all q).mpr (.inr ⟨k,⟨m3,hk⟩,z⟩)
  refine kk.rt _ _ _ h (S.sm.trans sm) (.of rfl ⟨F i++(F j++(F k++[])),?_,fun q hq=>?_,?_⟩)
  ·rw[List.append_nil,List.nodup_append,List.nodup_append]
   refine⟨O.nd i ⟨m1,hi⟩,⟨O.nd j ⟨m2,hj⟩,O.nd k ⟨m3,hk⟩,fun u hu t ht e=>?_⟩,fun u hu t ht e=>?_⟩
   ·subst e
    exact n3 (O.ds j k u ⟨m2,hj⟩ ⟨m3,hk⟩ hu ht)
   ·subst e
    rcases List.mem_append.mp ht with ht|ht
    ·exact n1 (O.ds i j u ⟨m1,hi⟩ ⟨m2,hj⟩ hu ht)
    ·exact n2 (O.ds i k u ⟨m1,hi⟩ ⟨m3,hk⟩ hu ht)
  ·simp only[List.append_nil,List.mem_append]at hq
   rcases hq with z|z|z
   ·exact O.nw i q ⟨m1,hi⟩ z
   ·exact O.nw j q ⟨m2,hj⟩ z
   ·exact O.nw k q ⟨m3,hk⟩ z
  ·rw[Fp]
   refine⟨_,r,_,rfl,rfl,aD,?_⟩
   rw[cX]
   refine⟨x,[y,z],v1,[v2,v3],F i,F j++(F k++[]),rfl,rfl,rfl,Fp.mv sm sub m1 f1,?_⟩
   rw[cX]
   refine⟨y,[z],v2,[v3],F j,F k++[],rfl,rfl,rfl,Fp.mv sm sub m2 f2,?_⟩
   rw[cX]
   refine⟨z,[],v3,[],F k,[],rfl,rfl,rfl,Fp.mv sm sub m3 f3,?_⟩
   rw[cX]
   exact⟨rfl,rfl,rfl⟩
end
theorem a2{a b:Bool}(z:(a&&b)=true):a=true/\b=true:=by cases a<;>cases b<;>first|exact⟨rfl,rfl⟩|exact ff z
theorem a3{a b c:Bool}(z:((a&&b)&&c)=true):(a=true/\b=true)/\c=true:=⟨a2 (a2 z).1,(a2 z).2⟩
structure SE where
 N:List Str
 nk:List (Str×NameKind)
 M:Ms
 fn:List Str
 gn:List Str
 zn:List Str
 md:List Md
 mt:List (Nat×Nat)
noncomputable def bH:List Md->Nat->Md
 |[],_=>.s
 |x::_,0=>x
 |_::l,n+1=>bH l n
def R9:Md->Bool
 |.f=>true
 |_=>false
def KD:Md->Bool
 |.s=>true
 |_=>false
noncomputable def xy(M:Ms)(i:Nat):Bool:=(M.lookup i).isSome
theorem mh{M:Ms}{i:Nat}(h:xy M i=false):¬aQ M i:=by
 rintro⟨m,hm⟩
 unfold xy at h
 have:∀M:Ms,(i,m)∈M->(M.lookup i).isSome=true:=fun M=>by
  induction M with
  |nil=>intro z;cases z
  |cons x M ih=>
   intro z
   obtain⟨a,b⟩:=x
   rw[List.lookup_cons]
   cases e:i==a with
   |true=>rfl
   |false=>
    rcases List.mem_cons.mp z with z|z
    ·cases z
     rw[beq_self_eq_true]at e
     cases e
    ·exact ih z
 rw[this M hm]at h
 cases h
theorem ju{M:Ms}{i:Nat}{m:Md}(h:M.lookup i=some m):(i,m)∈M:=by
 induction M with
 |nil=>exact nn h
 |cons x M ih=>
  obtain⟨a,b⟩:=x
  rw[List.lookup_cons]at h
  cases e:i==a with
  |true=>
   rw[e]at h
   cases h
   cases beq_iff_eq.mp e
   exact List.mem_cons_self
  |false=>
   rw[e]at h
   exact List.mem_cons_of_mem _ (ih h)
noncomputable def xA(M:Ms)(i:Nat):Bool:=match M.lookup i with
 |none=>true
 |some m=>R9 m
theorem xB{M:Ms}{i:Nat}(h:xA M i=true):aQ M i->(i,.f)∈M:=fun hi=>by
 unfold xA at h
 cases e:M.lookup i with
 |none=>exact(mh (by unfold xy;rw[e];rfl) hi).elim
 |some m=>
  rw[e]at h
  cases m<;>first|exact ju e|exact ff h
noncomputable def Ed(M:Ms)(i:Nat):Bool:=match M.lookup i with
 |none=>false
 |some m=>R9 m
theorem pQ{M:Ms}{i:Nat}(h:Ed M i=true):(i,.f)∈M:=by
 unfold Ed at h
 cases e:M.lookup i with
 |none=>rw[e]at h;exact ff h
 |some m=>
  rw[e]at h
  cases m<;>first|exact ju e|exact ff h
noncomputable def SE.sc(S:SE):Scope:={kind:=.function,names:=S.nk,isGenerator:=false,isCoroutine:=false}
noncomputable def UC(S:SE)(x:Str):Bool:=match S.nk.lookup x with
 |some .local=>true
 |some .cell=>true
 |some .free=>true
 |_=>false
noncomputable def okN(x:Str):Bool:=!(x==("__debug__":Str))&&!(x==("__classdict__":Str))&&!(x==("__name__":Str))
noncomputable def pF(S:SE)(x:Str):Bool:=(S.nk.lookup x==some .globalImplicit)&&okN x
noncomputable def tys:List String:=["int","bool","tuple","list","str","dict"]
noncomputable def uU:Expr->Bool
 |.Call _ _ _ _=>false
 |_=>true
noncomputable def jk(S:SE)(i:Nat):Expr->Bool
 |.Name x _=>S.N[i]?==some x&&UC S x&&okN x
 |_=>false
noncomputable def mC(f:Const->Bool):Expr->Bool
 |.Constant c _ _=>f c
 |_=>false
noncomputable def XC(f:Str->Pos->Bool):Expr->Bool
 |.Name x p=>f x p
 |_=>false
noncomputable def xC(f:Str->Bool):Expr->Bool:=XC fun x _=>f x
noncomputable def o1{α:Type}(f:α->Bool):List α->Bool
 |[a]=>f a
 |_=>false
noncomputable def PU(f:Expr->List CmpOp->List Expr->Bool):Expr->Bool
 |.Compare l os rs _=>f l os rs
 |_=>false
noncomputable def tU(f:Expr->List Expr->Bool->Pos->Bool):Expr->Bool
 |.Call g es ks p=>f g es ks.isEmpty p
 |_=>false
noncomputable def Ef(f:Expr->Str->Pos->Bool):Expr->Bool
 |.Attribute o m p=>f o m p
 |_=>false
noncomputable def Zk(f:Option Expr->Option Expr->Option Expr->Bool):Expr->Bool
 |.Slice l h t _=>f l h t
 |_=>false
noncomputable def Zl(f:Expr->List Comprehension->Scope->Bool):Expr->Bool
 |.ListComp x gs s _=>f x gs s
 |_=>false
noncomputable def Gv(f:Operator->Expr->Expr->Bool):Expr->Bool
 |.BinOp l o r _=>f o l r
 |_=>false
noncomputable def XD(f:UnaryOp->Expr->Bool):Expr->Bool
 |.UnaryOp o x _=>f o x
 |_=>false
noncomputable def Gw(f:CmpOp->Expr->Expr->Bool):Expr->Bool:=PU fun l os rs=>o1 (fun o=>o1 (fun r=>f o l r) rs) os
noncomputable def o2{α:Type}(f:α->α->Bool):List α->Bool
 |a::l=>o1 (f a) l
 |_=>false
noncomputable def o3{α:Type}(f:α->α->α->Bool):List α->Bool
 |a::l=>o2 (f a) l
 |_=>false
noncomputable def MK(f:CmpOp->CmpOp->Expr->Expr->Expr->Bool):Expr->Bool:=PU fun l os rs=>o2 (fun o o'=>o2 (fun r t=>f o o' l r t) rs) os
noncomputable def XE(f:BoolOp->List Expr->Bool):Expr->Bool
 |.BoolOp o es _=>f o es
 |_=>false
noncomputable def Zm(f:Expr->Expr->Expr->Bool):Expr->Bool
 |.IfExp t x y _=>f t x y
 |_=>false
noncomputable def Ar(f:List Expr->Bool):Expr->Bool
 |.Tuple es _ _=>f es
 |_=>false
noncomputable def UD(f:List Expr->Bool):Expr->Bool
 |.List es _=>f es
 |_=>false
noncomputable def Eg(f:Expr->Expr->Bool):Expr->Bool
 |.Subscript v s _=>f v s
 |_=>false
noncomputable def Zn(f:Expr->Option Expr->Option Expr->Bool):Expr->Bool:=Eg fun v s=>Zk (fun l h t=>t.isNone&&f v l h) s
noncomputable def oM(f:Str->List Expr->Bool):Expr->Bool:=tU fun g es k _=>k&&xC (fun x=>f x es) g
noncomputable def As(f:Expr->Str->Pos->Pos->Bool):Expr->Bool:=tU fun g es k c=>k&&es.isEmpty&&Ef (fun o m a=>f o m a c) g
noncomputable def ML(f:Expr->Expr->Expr->List Expr->Scope->Bool):Expr->Bool:=Zl fun x gs s=>o1 (fun g=>decide (g.is_async=0)&&f x g.target g.iter g.ifs s) gs
theorem g5{f:Const->Bool}{e:Expr}(h:mC f e=true):∃c k p,e=.Constant c k p/\f c=true:=by cases e<;>first|exact⟨_,_,_,rfl,h⟩|exact ff h
theorem BP{f:Str->Pos->Bool}{e:Expr}(h:XC f e=true):∃x p,e=.Name x p/\f x p=true:=by cases e<;>first|exact⟨_,_,rfl,h⟩|exact ff h
theorem xD{f:Expr->List CmpOp->List Expr->Bool}{e:Expr}(h:PU f e=true):∃l os rs p,e=.Compare l os rs p/\f l os rs=true:=by cases e<;>first|exact⟨_,_,_,_,rfl,h⟩|exact ff h
theorem iA{f:Expr->List Expr->Bool->Pos->Bool}{e:Expr}(h:tU f e=true):∃g es ks p,e=.Call g es ks p/\f g es ks.isEmpty p=true:=by cases e<;>first|exact⟨_,_,_,_,rfl,h⟩|exact ff h
theorem iB{f:Expr->Str->Pos->Bool}{e:Expr}(h:Ef f e=true):∃o m p,e=.Attribute o m p/\f o m p=true:=by cases e<;>first|exact⟨_,_,_,rfl,h⟩|exact ff h
theorem KG{f:Option Expr->Option Expr->Option Expr->Bool}{e:Expr}(h:Zk f e=true):∃l r t p,e=.Slice l r t p/\f l r t=true:=by cases e<;>first|exact⟨_,_,_,_,rfl,h⟩|exact ff h
theorem KH{f:Expr->List Comprehension->Scope->Bool}{e:Expr}(h:Zl f e=true):∃x gs s p,e=.ListComp x gs s p/\f x gs s=true:=by cases e<;>first|exact⟨_,_,_,_,rfl,h⟩|exact ff h
theorem fZ{α:Type}{f:α->Bool}{l:List α}(h:o1 f l=true):∃a,l=[a]/\f a=true:=by rcases l with _|⟨a,_|_⟩<;>first|exact⟨_,rfl,h⟩|exact ff h
theorem Au{α:Type}{f:α->α->Bool}{l:List α}(h:o2 f l=true):∃a b,l=[a,b]/\f a b=true:=by
 cases l with
 |nil=>exact ff h
 |cons a l=>
  obtain⟨b,rfl,h1⟩:=fZ h
  exact⟨_,_,rfl,h1⟩
theorem Gx{α:Type}{f:α->α->α->Bool}{l:List α}(h:o3 f l=true):∃a b c,l=[a,b,c]/\f a b c=true:=by
 cases l with
 |nil=>exact ff h
 |cons a l=>
  obtain⟨b,c,rfl,h1⟩:=Au h
  exact⟨_,_,_,rfl,h1⟩
theorem fq{f:Str->Bool}{e:Expr}(h:xC f e=true):∃x p,e=.Name x p/\f x=true:=BP h
theorem n9{f:Operator->Expr->Expr->Bool}{e:Expr}(h:Gv f e=true):∃l o r p,e=.BinOp l o r p/\f o l r=true:=by cases e<;>first|exact⟨_,_,_,_,rfl,h⟩|exact ff h
theorem pR{f:UnaryOp->Expr->Bool}{e:Expr}(h:XD f e=true):∃o x p,e=.UnaryOp o x p/\f o x=true:=by cases e<;>first|exact⟨_,_,_,rfl,h⟩|exact ff h
theorem tW{f:CmpOp->Expr->Expr->Bool}{e:Expr}(h:Gw f e=true):∃l o r p,e=.Compare l [o] [r] p/\f o l r=true:=by
 obtain⟨l,os,rs,p,rfl,h1⟩:=xD h
 obtain⟨o,rfl,h2⟩:=fZ h1
 obtain⟨r,rfl,h3⟩:=fZ h2
 exact⟨_,_,_,_,rfl,h3⟩
theorem Eh{f:CmpOp->CmpOp->Expr->Expr->Expr->Bool}{e:Expr}(h:MK f e=true):∃l o o' r t p,e=.Compare l [o,o'] [r,t] p/\f o o' l r t=true:=by
 obtain⟨l,os,rs,p,rfl,h1⟩:=xD h
 obtain⟨o,o',rfl,h2⟩:=Au h1
 obtain⟨r,t,rfl,h3⟩:=Au h2
 exact⟨_,_,_,_,_,_,rfl,h3⟩
theorem pS{f:BoolOp->List Expr->Bool}{e:Expr}(h:XE f e=true):∃o es p,e=.BoolOp o es p/\f o es=true:=by cases e<;>first|exact⟨_,_,_,rfl,h⟩|exact ff h
theorem KI{f:Expr->Expr->Expr->Bool}{e:Expr}(h:Zm f e=true):∃t x y p,e=.IfExp t x y p/\f t x y=true:=by cases e<;>first|exact⟨_,_,_,_,rfl,h⟩|exact ff h
theorem fL{f:List Expr->Bool}{e:Expr}(h:Ar f e=true):∃es k p,e=.Tuple es k p/\f es=true:=by cases e<;>first|exact⟨_,_,_,rfl,h⟩|exact ff h
theorem xE{f:List Expr->Bool}{e:Expr}(h:UD f e=true):∃es p,e=.List es p/\f es=true:=by cases e<;>first|exact⟨_,_,rfl,h⟩|exact ff h
theorem gA{f:Expr->Expr->Bool}{e:Expr}(h:Eg f e=true):∃v s p,e=.Subscript v s p/\f v s=true:=by cases e<;>first|exact⟨_,_,_,rfl,h⟩|exact ff h
theorem BQ{f:Expr->Option Expr->Option Expr->Bool}{e:Expr}(h:Zn f e=true):∃v l r q p,e=.Subscript v (.Slice l r none q) p/\f v l r=true:=by
 obtain⟨v,s,p,rfl,h1⟩:=gA h
 obtain⟨l,r,t,q,rfl,h2⟩:=KG h1
 obtain⟨k,h3⟩:=a2 h2
 rw[Option.isNone_iff_eq_none.mp k]
 exact⟨_,_,_,_,_,rfl,h3⟩
theorem aV{f:Str->List Expr->Bool}{e:Expr}(h:oM f e=true):∃x q es p,e=.Call (.Name x q) es [] p/\f x es=true:=by
 obtain⟨g,es,ks,p,rfl,h1⟩:=iA h
 obtain⟨k,h2⟩:=a2 h1
 obtain⟨x,q,rfl,h3⟩:=fq h2
 rw[List.isEmpty_iff.mp k]
 exact⟨_,_,_,_,rfl,h3⟩
theorem lA{f:Expr->Str->Pos->Pos->Bool}{e:Expr}(h:As f e=true):∃o m a c,e=.Call (.Attribute o m a) [] [] c/\f o m a c=true:=by
 obtain⟨g,es,ks,p,rfl,h1⟩:=iA h
 obtain⟨⟨k,l⟩,h2⟩:=a3 h1
 obtain⟨o,m,a,rfl,h3⟩:=iB h2
 rw[List.isEmpty_iff.mp k,List.isEmpty_iff.mp l]
 exact⟨_,_,_,_,rfl,h3⟩
theorem tX{f:Expr->Expr->Expr->List Expr->Scope->Bool}{e:Expr}(h:ML f e=true):∃elt tg iter ifs scope p,e=.ListComp elt [⟨tg,iter,ifs,0⟩] scope p/\f elt tg iter ifs scope=true:=by
 obtain⟨x,gs,s,p,rfl,h1⟩:=KH h
 obtain⟨⟨tg,it,fs,z⟩,rfl,h2⟩:=fZ h1
 obtain⟨k,h3⟩:=a2 h2
 cases of_decide_eq_true k
 exact⟨_,_,_,_,_,_,rfl,h3⟩
noncomputable def isI(n:Int):Const->Bool
 |.int j=>decide (j=n)
 |_=>false
noncomputable def xF(S:SE)(i:Nat):List nR->Expr->Bool
 |[],e=>jk S i e
 |.fl _ x::π,e=>Ef (fun a f _=>decide (f=x)&&uU a&&xF S i π a) e
 |.ix n::π,e=>Eg (fun a k=>mC (isI n) k&&xF S i π a) e
noncomputable def mj(S:SE)(m:Md->Bool)(i:Nat)(π:List nR)(e:Expr):Bool:=!π.isEmpty&&xF S i π.reverse e&&(match S.M.lookup i with
 |some m0=>(match j8 m0 π with
  |some k=>m k
  |none=>false)
 |none=>false)
noncomputable def gj(S:SE):CE->Expr->Bool
 |.var i,e=>jk S i e&&xA S.M i
 |.own i π,e=>mj S R9 i π e
 |_,_=>false
noncomputable def UE:BI->Str
 |.len=>"len"
 |.abs=>"abs"
 |.max2=>"max"
 |.min2=>"min"
 |.sum=>"sum"
 |.all=>"all"
 |.any=>"any"
 |.list=>"list"
 |.tuple=>"tuple"
 |.zC=>"isinstance"
noncomputable def Zo:BI->Nat->Bool
 |.any,_=>false
 |_,n=>0<n
noncomputable def Gy:CE->Bool
 |.ite _ _ _=>false
 |.not a=>Gy a
 |.Ai _ a=>Gy a
 |.and as=>Gz as
 |.or as=>Gz as
 |_=>true
where Gz:List CE->Bool
 |[]=>true
 |a::as=>Gy a&&Gz as
noncomputable def BR:Expr->Bool
 |.Slice _ _ _ _=>false
 |_=>true
noncomputable def Av:Expr->Bool
 |.Set _ _ _=>false
 |_=>true
noncomputable def BS:List Expr->Option (List Str)
 |[]=>some []
 |.Name x _::es=>(BS es).map fun l=>x::l
 |_::_=>none
noncomputable def Sa:Expr->Option (Bool×List Str)
 |.Name x _=>some (true,[x])
 |.Tuple es _ _=>(BS es).map fun l=>(false,l)
 |_=>none
noncomputable def mask(xs:List Str)(N:List Str):List Str:=N.map fun y=>if xs.contains y then y++("!":Str)else y
noncomputable def SE.comp(S:SE)(scope:Scope)(xs:List Str):SE:=
 {S with N:=xs++mask xs S.N,nk:=scope.names.map fun p=>(p.1,if p.2=.free then .cell else p.2),M:=up S.M xs.length}
noncomputable def SE.lend(S:SE)(is:List Nat):SE:={S with M:=S.M.filter (fun x=>!is.contains x.1)}
noncomputable def brE:Expr->Bool
 |.Call (.Name _ _) (_::_) _ _=>true
 |.Compare _ _ _ _=>true
 |_=>false
noncomputable def UG:CE->Option String
 |.BD n=>some n
 |_=>none
noncomputable def GA:CE->Bool
 |.uL _=>true
 |_=>false
noncomputable def PV(n:Bool)(f:Expr->Bool):Option Expr->Bool
 |none=>n
 |some e=>!n&&f e
def MM:CE->Bool
 |.bl b=>b
 |_=>false
noncomputable def UH:BI->List CE->Bool
 |.zC,[_,c]=>(UG c).isSome
 |.zC,_=>false
 |_,_=>true
noncomputable def XF(y:Bool)(f:Expr->Bool):List Expr->Bool
 |[]=>y
 |[e]=>f e
 |_=>false
noncomputable def xG(f:Expr->Bool)(g:List Expr->Bool):List Expr->Bool
 |e::es=>f e&&g es
 |[]=>false
noncomputable def PX(f:Expr->Bool):List Expr->Bool:=o1 f
noncomputable def xH(S:SE)(ts:List Nat)(one:Bool)(n:Nat)(uL:Bool)(fi:Expr->Bool)(fc:SE->List Expr->Bool)(fx:SE->Expr->Bool)(elt tg iter:Expr)(ifs:List Expr)(scope:Scope):Bool:=
 match Sa tg with
 |some (o,xs)=>(one==o)&&(n==xs.length)&&(ts==List.range n)&&fX scope S.sc S.N (mask xs S.N) xs&&decide (xs++mask xs S.N).Nodup&&Av iter&&(!uL||!one)&&fi iter&&fc (S.comp scope xs) ifs&&fx (S.comp scope xs) elt
 |none=>false
noncomputable def jl(Ψ:Nat->Md):CE->Bool
 |.lst _=>true
 |.comp _ _ _ _ _ _=>true
 |.blt .list _=>true
 |.sl _ _ _=>true
 |.bin .Add a b=>jl Ψ a||jl Ψ b
 |.bin .Mult a _=>jl Ψ a
 |.call f _=>match Ψ f with
  |.f=>true
  |_=>false
 |.ite _ a b=>jl Ψ a&&jl Ψ b
 |_=>false
noncomputable def mo(Ψ:Nat->Md)(c:CE):Md:=if jl Ψ c=true then .f else .s
mutual
noncomputable def aG(S:SE)(it:Bool):CE->Expr->Bool
 |.var i,e=>jk S i e&&!xy S.M i
 |.int i,e=>mC (fun c=>decide (c=.int i)) e
 |.bl b,e=>mC (fun c=>decide (c=.bool b)) e
 |.str x,e=>mC (fun c=>decide (c=.str x)) e
 |.aU,e=>mC (fun c=>decide (c=.none)) e
 |.BD n,e=>xC (fun x=>decide (x=Str.ofString n)&&pF S x&&S.zn.contains x&&tys.contains n) e
 |.glob g,e=>xC (fun x=>S.gn[g]?==some x&&pF S x) e
 |.bin op a b,e=>Gv (fun o l r=>decide (op=o)&&(aG S false a l||gj S a l)&&(aG S false b r||gj S b r)) e
 |.neg a,e=>XD (fun o x=>decide (o=.USub)&&aG S false a x) e
 |.not a,e=>XD (fun o x=>decide (o=.Not)&&aG S false a x) e
 |.cmp op a b,e=>Gw (fun o l r=>decide (op=o)&&!decide (op=.In)&&!decide (op=.NotIn)&&(aG S false a l||gj S a l)&&(aG S false b r||gj S b r)) e
 |.sA p q a b c,e=>MK (fun o o' l r t=>decide (p=o)&&decide (q=o')&&(uR p).isSome&&(uR q).isSome&&aG S false a l&&aG S false b r&&aG S false c t) e
 |.and as,e=>XE (fun o es=>decide (o=.And)&&!es.isEmpty&&gR S as es) e
 |.or as,e=>XE (fun o es=>decide (o=.Or)&&!es.isEmpty&&gR S as es) e
 |.ite c a b,e=>Zm (fun t x y=>aG S false c t&&Gy c&&aG S false a x&&aG S false b y) e
 |.tup as,e=>Ar (fun es=>gR S as es) e
 |.lst as,e=>UD (fun es=>gR S as es) e
 |.ix a i,e=>Eg (fun v s=>BR s&&(aG S false a v||gj S a v)&&aG S false i s) e
 |.sl a lo hi,e=>Zn (fun v l h=>(aG S false a v||gj S a v)&&PV (ku lo) (fun x=>aG S false lo x) l&&PV (ku hi) (fun x=>aG S false hi x) h) e
 |.call f as,e=>oM (fun x es=>S.fn[f]?==some x&&pF S x&&!es.isEmpty&&!kg (bH S.md f)&&!S.mt.any (·.1==f)&&gR S as es) e
 |.blt b as,e=>oM (fun x es=>decide (x=UE b)&&pF S x&&S.zn.contains x&&Zo b es.length&&UH b as&&mq S as es) e
 |.bits a,e=>As (fun o m ap cp=>decide (m=("bit_length":Str))&&(ap.endLine==cp.line)&&uU o&&aG S false a o) e
 |.comp ts one n i c x,e=>ML (fun elt tg iter ifs scope=>xH S ts one n (GA i) (fun iter=>aG S true i iter||gj S i iter) (fun S' ifs=>XF (MM c) (fun f=>aG S' false c f&&Gy c) ifs) (fun S' elt=>aG S' false x elt) elt tg iter ifs scope) e
 |.nO as,e=>oM (fun x es=>it&&decide (x=("range":Str))&&pF S x&&S.zn.contains x&&(as.length==1||as.length==2||as.length==3)&&gR S as es) e
 |.uL a,e=>oM (fun x es=>it&&decide (x=("enumerate":Str))&&pF S x&&S.zn.contains x&&PX (fun v=>aG S false a v) es) e
 |.rev a,e=>oM (fun x es=>it&&decide (x=("reversed":Str))&&pF S x&&S.zn.contains x&&PX (fun v=>aG S false a v) es) e
 |.pop _,_=>false
 |.own i π,e=>mj S KD i π e
 |.Ai is a,e=>brE e&&aG (S.lend is) false a e
 |.JZ _ _ _ _,_=>false
noncomputable def gR(S:SE):List CE->List Expr->Bool
 |[],es=>es.isEmpty
 |a::as,es=>xG (fun e=>aG S false a e) (fun es=>gR S as es) es
noncomputable def mq(S:SE):List CE->List Expr->Bool
 |[],es=>es.isEmpty
 |a::as,es=>xG (fun e=>aG S false a e||gj S a e) (fun es=>mq S as es) es
end
structure XOk(S:SE)(Φ:Nat->b6)(Ψ:Nat->Md)(G:Nat->W)(X:Cx):Prop where
 hN:X.N=S.N
 nd:X.N.Nodup
 calm:X.calm=true
 un:X.A.units+64<cLine
 nk:∀x,X.env.scope.names.lookup x=S.nk.lookup x
 fns:∀(j:Nat) (x:Str),S.fn[j]?=some x->S.mt.any (·.1==j)=false->∃fv n k,X.mg x=some fv/\gi X.prog X.w X.K X.mg X.base k fv n (eY X.K n (Ψ j) (Φ j))/\dN k X.A/\∀ws P R,Φ j ws P R->ws.length=n
 KJ:∀(j g:Nat) (x:Str),S.fn[j]?=some x->(j,g)∈S.mt->∃f fd ps n k,(∀C,G g=.cls C->Meth X.K C x f)/\Binds X.K fd ps []/\aL X.prog X.w X.K X.mg X.base (cV X.prog X.w) k f fd ps (eY X.K n (Ψ j) (Φ j))/\dN k X.A/\∀ws P R,Φ j ws P R->ws.length=n
 Jk:Ψ=bH S.md
 Jl:∀(j:Nat) (x:Str),S.gn[j]?=some x->∃u v,X.mg x=some u/\RelV v u/\∀B H,Rep X.K B H (G j) v
 uV:∀x∈S.zn,X.mg x=none
 kit:xq X.K
section
variable{S:SE}{Φ:Nat->b6}{Ψ:Nat->Md}{G:Nat->W}{X:Cx}
theorem XOk.r9(h:XOk S Φ Ψ G X):XOk S Φ Ψ G X.r9:=⟨h.hN,h.nd,h.calm,h.un,h.nk,h.fns,h.KJ,h.Jk,h.Jl,h.uV,h.kit⟩
theorem BU{x:Str}(h:okN x=true):(x==("__debug__":Str))=false/\(x==("__classdict__":Str))=false/\x≠"__name__":=by
 unfold okN at h
 simp only[Bool.and_eq_true,Bool.not_eq_true']at h
 exact⟨h.1.1,h.1.2,fun z=>by rw[z]at h;exact absurd h.2 (by simp)⟩
theorem cJ{x:Str}(hX:XOk S Φ Ψ G X)(h:pF S x=true):Gl X x/\(x==("__debug__":Str))=false/\x≠"__name__":=by
 unfold pF at h
 rw[Bool.and_eq_true]at h
 obtain⟨h1,h2,h3⟩:=BU h.2
 refine⟨?_,h1,h3⟩
 show X.env.scope.names.lookup x=_
 rw[hX.nk]
 exact beq_iff_eq.mp h.1
theorem dO(hX:XOk S Φ Ψ G X){i:Nat}{e:Expr}(h:jk S i e=true):PE X e (j7 i):=by
 cases e with
 |Name x pos=>
  simp only[jk,Bool.and_eq_true]at h
  obtain⟨⟨h1,h2⟩,h3⟩:=h
  obtain⟨d1,d2,_⟩:=BU h3
  refine Ff (by rw[hX.hN];exact beq_iff_eq.mp h1) ?_ d1 d2
  unfold UC at h2
  rw[←hX.nk]at h2
  unfold RT
  split at h2<;>first|exact .inl (by assumption)|exact .inr (.inl (by assumption))|exact .inr (.inr (by assumption))|exact ff h2
 |_=>exact ff h
noncomputable def noStar:Expr->Bool
 |.Starred _ _=>false
 |_=>true
theorem aI{e:Expr}(h:noStar e=true)(es:List Expr)(env:Env):starEach (e::es) env=(false,eval e env)::starEach es env:=by
 cases e<;>first|rfl|exact ff h
theorem cK:∀{es:List Expr} (h:es.all noStar=true) (pos:Pos) (env:Env),(backTo pos (starEach es env)).any (·.1)=false
 |[],_,_,_=>rfl
 |e::es,h,pos,env=>by
  rw[List.all_cons,Bool.and_eq_true]at h
  rw[aI h.1]
  show(false||(backTo pos (starEach es env)).any (·.1))=false
  rw[cK h.2]
  rfl
theorem fy{m:Md->Bool}{i:Nat}{π:List nR}{e:Expr}(h:mj S m i π e=true):
 (∃m0 k,π≠[]/\xF S i π.reverse e=true/\S.M.lookup i=some m0/\j8 m0 π=some k/\m k=true)/\((∃a f q,e=.Attribute a f q)\/∃a j c d q,e=.Subscript a (.Constant (.int j) c d) q):=by
 unfold mj at h
 rw[Bool.and_eq_true,Bool.and_eq_true]at h
 obtain⟨⟨h0,h1⟩,h2⟩:=h
 have hn:π≠[]:=fun z=>by rw[z]at h0;exact ff h0
 constructor
 ·split at h2
  ·rename_i m0 hl
   split at h2
   ·rename_i k hk
    exact⟨m0,k,hn,h1,hl,hk,h2⟩
   ·cases h2
  ·cases h2
 ·cases hr:π.reverse with
  |nil=>exact(hn (by simpa using hr)).elim
  |cons s r=>
   rw[hr]at h1
   cases s with
   |ix n=>
    obtain⟨v,s,p,rfl,h3⟩:=gA h1
    obtain⟨c,k,q,rfl,h4⟩:=g5 (a2 h3).1
    cases c<;>first|exact .inr ⟨_,_,_,_,_,rfl⟩|exact ff h4
   |fl n x=>
    obtain⟨o,m,p,rfl,h3⟩:=iB h1
    exact .inl ⟨_,_,_,rfl⟩
theorem qA{m:Md->Bool}{i:Nat}{π:List nR}{v:Expr}{p:Pos}(h:mj S m i π (.Starred v p)=true):False:=by
 rcases(fy h).2 with⟨_,_,_,e⟩|⟨_,_,_,_,_,e⟩<;>cases e
theorem bw{it:Bool}{c:CE}{e:Expr}(h:aG S it c e=true\/gj S c e=true):noStar e=true:=by
 cases e with
 |Starred v p=>
  rcases h with h|h
  ·cases c with
   |own i π=>exact(qA h).elim
   |Ai is a=>exact ff h
   |_=>exact ff h
  ·cases c<;>first|exact ff h|exact(qA h).elim
 |_=>rfl
theorem jf{a b:Bool}(h:(a||b)=true):a=true\/b=true:=by
 cases a
 ·exact .inr h
 ·exact .inl rfl
theorem oh:∀{cs:List CE} {es:List Expr},gR S cs es=true->es.all noStar=true
 |[],es,h=>by
  cases es with
  |nil=>rfl
  |cons _ _=>exact ff h
 |c::cs,[],h=>by cases h
 |c::cs,e::es,h=>by
  have h:=a2 h
  rw[List.all_cons,bw (.inl h.1),oh h.2]
  rfl
theorem qC:∀{cs:List CE} {es:List Expr},mq S cs es=true->es.all noStar=true
 |[],es,h=>by
  cases es with
  |nil=>rfl
  |cons _ _=>exact ff h
 |c::cs,[],h=>by cases h
 |c::cs,e::es,h=>by
  have h:=a2 h
  rw[List.all_cons,bw (jf h.1),qC h.2]
  rfl
theorem uW{b:Expr}(h:BR b=true):lY b:=fun o i=>by cases b<;>first|rfl|exact ff h
theorem tY{a:Expr}(h:uU a=true)(f:Str)(env:Env)(wh:Sem Value):attributeBase a f env wh=wh:=by cases a<;>first|rfl|exact ff h
theorem qE(hX:XOk S Φ Ψ G X){i:Nat}:∀(π:List nR) (e:Expr),xF S i π e=true->PE X e (sC X.K i π.reverse)
 |[],e,h=>PC (dO hX h)
 |.fl n x::π,e,h=>by
  obtain⟨o,m,p,rfl,h0⟩:=iB h
  obtain⟨⟨h1,h2⟩,h3⟩:=a3 h0
  have h1:=of_decide_eq_true h1
  subst h1
  rw[List.reverse_cons]
  exact PD (qE hX π _ h3) (tY h2 _ _ _)
 |.ix n::π,e,h=>by
  obtain⟨v,s,p,rfl,h0⟩:=gA h
  obtain⟨h2,h3⟩:=a2 h0
  obtain⟨c,k,q,rfl,h4⟩:=g5 h2
  cases c<;>try exact ff h4
  have h1:=of_decide_eq_true h4
  subst h1
  rw[List.reverse_cons]
  exact UB (qE hX π _ h3) kT (uW rfl)
theorem Aw(hX:XOk S Φ Ψ G X){m:Md->Bool}{i:Nat}{π:List nR}{e:Expr}(h:mj S m i π e=true):∃m0 k,(i,m0)∈S.M/\j8 m0 π=some k/\m k=true/\PE X e (sC X.K i π):=by
 obtain⟨⟨m0,k,_,h1,h2,h3,h4⟩,_⟩:=fy h
 have:=qE hX π.reverse e h1
 rw[List.reverse_reverse]at this
 exact⟨m0,k,ju h2,h3,h4,this⟩
theorem UI(hX:XOk S Φ Ψ G X){i:Nat}{π:List nR}{e:Expr}(h:mj S KD i π e=true)(R:Addr->Prop):VE X S.M R .s e (fun ε Q=>match look ε i with|some w=>(match b7 w π with|some u=>Q u|none=>False)|none=>False):=by
 obtain⟨m0,k,hm,hp,hk,pe⟩:=Aw hX h
 cases k<;>first|(cases hk;done)|skip
 exact OL pe hm hp
theorem MN(hX:XOk S Φ Ψ G X){i:Nat}{π:List nR}{e:Expr}(h:mj S R9 i π e=true)(R:Addr->Prop):VB X S.M R e (fun ε Q=>match look ε i with|some w=>(match b7 w π with|some u=>Q u|none=>False)|none=>False):=by
 obtain⟨m0,k,hm,hp,hk,pe⟩:=Aw hX h
 cases k<;>first|(cases hk;done)|skip
 exact OJ pe hm hp
end
structure cS(Φ:Nat->b6)(Ψ:Nat->Md)(G:Nat->W)(c:CE):Prop where
 e:∀{S:SE} {X:Cx},XOk S Φ Ψ G X->∀ex,aG S false c ex=true->∀R,VE X S.M R (mo Ψ c) ex (wE Φ G R c)
 t:∀{S:SE} {X:Cx},XOk S Φ Ψ G X->∀ex,aG S false c ex=true->Gy c=true->∀R,VT X S.M R ex (wE Φ G R c)
 i:∀{S:SE} {X:Cx},XOk S Φ Ψ G X->∀tg br ex,(aG S true c ex||(br&&gj S c ex))=true->(GA c=true->∃elts kk tp,tg=Expr.Tuple elts kk tp)->∀R,PI X tg ex (Gn X S.M R br (wE Φ G R c))
structure sD(Φ:Nat->b6)(Ψ:Nat->Md)(G:Nat->W)(cs:List CE):Prop where
 a:∀{S:SE} {X:Cx},XOk S Φ Ψ G X->∀es,gR S cs es=true->∀R,VA X S.M R es (wA Φ G R cs)
 b:∀{S:SE} {X:Cx},XOk S Φ Ψ G X->∀es,mq S cs es=true->∀R,R6 X S.M R es (wA Φ G R cs)
 av:∀{S:SE} {X:Cx},XOk S Φ Ψ G X->∀es pos,es≠[]->gR S cs es=true->∀R,VE X S.M R .s (.BoolOp .And es pos) (zG Φ G R cs)
 ov:∀{S:SE} {X:Cx},XOk S Φ Ψ G X->∀es pos,es≠[]->gR S cs es=true->∀R,VE X S.M R .s (.BoolOp .Or es pos) (Nn Φ G R cs)
 «at»:∀{S:SE} {X:Cx},XOk S Φ Ψ G X->∀es pos,es≠[]->gR S cs es=true->Gy.Gz cs=true->∀R,MG X S.M R (.BoolOp .And es pos) (zG Φ G R cs)
 ot:∀{S:SE} {X:Cx},XOk S Φ Ψ G X->∀es pos,es≠[]->gR S cs es=true->Gy.Gz cs=true->∀R,MG X S.M R (.BoolOp .Or es pos) (Nn Φ G R cs)
section
variable{Φ:Nat->b6}{Ψ:Nat->Md}{G:Nat->W}
theorem gc{c:CE}(h:jl Ψ c=false):mo Ψ c=.s:=by unfold mo;rw[h];rfl
theorem lC{c:CE}(h:jl Ψ c=true):mo Ψ c=.f:=by unfold mo;rw[h];rfl
theorem cS.s{c:CE}(h:cS Φ Ψ G c){S:SE}{X:Cx}(hX:XOk S Φ Ψ G X){ex:Expr}(k:aG S false c ex=true)(R:Addr->Prop):VE X S.M R .s ex (wE Φ G R c):=Gf (h.e hX ex k R)
theorem cS.b{c:CE}(h:cS Φ Ψ G c){S:SE}{X:Cx}(hX:XOk S Φ Ψ G X){ex:Expr}(k:(aG S false c ex||gj S c ex)=true)(R:Addr->Prop):VB X S.M R ex (wE Φ G R c):=by
 rcases jf k with k|k
 ·exact Ul (h.e hX ex k R)
 ·cases c with
  |var i=>
   have k:(jk S i ex&&xA S.M i)=true:=k
   rw[Bool.and_eq_true]at k
   exact Gg (dO hX k.1) (xB k.2)
  |own i π=>exact MN hX k R
  |_=>exact ff k
theorem cS.mk1{c:CE}(he:∀{S:SE} {X:Cx},XOk S Φ Ψ G X->∀ex,aG S false c ex=true->∀R,VE X S.M R (mo Ψ c) ex (wE Φ G R c))
 (ht:∀{S:SE} {ex:Expr} (env:Env),aG S false c ex=true->∀whole,isTrue ex env whole=(do let v←whole;standAt ex.pos;holding [v] (truthy v)))
 (hi:∀(S:SE) (ex:Expr),aG S true c ex=true->aG S false c ex=true) (hv:∀(S:SE) (ex:Expr),gj S c ex=false):cS Φ Ψ G c:=
 ⟨he,fun hX ex k _ R=>An (ht _ k) (Gf (he hX ex k R)),fun{S X} hX tg br ex k _ R=>by
   rw[hv,Bool.and_false,Bool.or_false]at k
   exact fY (je (he hX ex (hi _ _ k) R))⟩
theorem PY(i:Nat):cS Φ Ψ G (.var i):=by
 have he:∀{S:SE} {X:Cx},XOk S Φ Ψ G X->∀ex,aG S false (.var i) ex=true->∀R,VE X S.M R (mo Ψ (.var i)) ex (wE Φ G R (.var i)):=fun{S X} hX ex k R=>by
  have k:=a2 k
  have hm:¬aQ S.M i:=mh (by simpa using k.2)
  rw[gc rfl]
  exact OI (dO hX k.1) hm
 refine⟨he,fun{S X} hX ex k _ R=>An (fun whole=>?_) (Gf (he hX ex k R)),fun{S X} hX tg br ex k _ R=>?_⟩
 ·have k:=a2 k
  cases ex<;>first|rfl|(have:=k.1;exact ff this)
 ·rcases jf k with k|k
  ·exact fY (je (he hX ex (by exact k) R))
  ·rw[Bool.and_eq_true]at k
   obtain⟨rfl,k2⟩:=k
   have k2:(jk S i ex&&xA S.M i)=true:=k2
   rw[Bool.and_eq_true]at k2
   exact fY (Uu (Gg (dO hX k2.1) (xB k2.2)))
theorem PZ(i:Nat)(π:List nR):cS Φ Ψ G (.own i π):=by
 have ew:∀R,wE Φ G R (.own i π)=fun ε Q=>match look ε i with|some w=>(match b7 w π with|some u=>Q u|none=>False)|none=>False:=fun R=>rfl
 have he:∀{S:SE} {X:Cx},XOk S Φ Ψ G X->∀ex,aG S false (.own i π) ex=true->∀R,VE X S.M R (mo Ψ (.own i π)) ex (wE Φ G R (.own i π)):=fun{S X} hX ex k R=>by
  rw[gc rfl,ew]
  exact UI hX k R
 refine⟨he,fun{S X} hX ex k _ R=>An (fun whole=>?_) (Gf (he hX ex k R)),fun{S X} hX tg br ex k _ R=>?_⟩
 ·rcases(fy k).2 with⟨_,_,_,rfl⟩|⟨_,_,_,_,_,rfl⟩<;>rfl
 ·rcases jf k with k|k
  ·exact fY (je (he hX ex (by exact k) R))
  ·rw[Bool.and_eq_true]at k
   obtain⟨rfl,k2⟩:=k
   rw[ew]
   exact fY (Uu (MN hX k2 R))
theorem P1(i:Int):cS Φ Ψ G (.int i):=by
 refine .mk1 (fun{S X} hX ex k R=>?_) (fun{S ex} env k whole=>?_) (fun S ex k=>by exact k) (fun _ _=>rfl)
 ·obtain⟨c,q,p,rfl,k⟩:=g5 k
  cases of_decide_eq_true k
  rw[gc rfl]
  exact Eb kT fun _ _=>iS _
 ·obtain⟨c,q,p,rfl,k⟩:=g5 k
  rfl
theorem UJ(i:Bool):cS Φ Ψ G (.bl i):=by
 refine .mk1 (fun{S X} hX ex k R=>?_) (fun{S ex} env k whole=>?_) (fun S ex k=>by exact k) (fun _ _=>rfl)
 ·obtain⟨c,q,p,rfl,k⟩:=g5 k
  cases of_decide_eq_true k
  rw[gc rfl]
  exact Eb SN fun _ _=>zD _
 ·obtain⟨c,q,p,rfl,k⟩:=g5 k
  rfl
theorem P4(i:Str):cS Φ Ψ G (.str i):=by
 refine .mk1 (fun{S X} hX ex k R=>?_) (fun{S ex} env k whole=>?_) (fun S ex k=>by exact k) (fun _ _=>rfl)
 ·obtain⟨c,q,p,rfl,k⟩:=g5 k
  cases of_decide_eq_true k
  rw[gc rfl]
  exact Eb NC fun _ _=>Uh _
 ·obtain⟨c,q,p,rfl,k⟩:=g5 k
  rfl
theorem P5:cS Φ Ψ G .aU:=by
 refine .mk1 (fun{S X} hX ex k R=>?_) (fun{S ex} env k whole=>?_) (fun S ex k=>by exact k) (fun _ _=>rfl)
 ·obtain⟨c,q,p,rfl,k⟩:=g5 k
  cases of_decide_eq_true k
  rw[gc rfl]
  exact Eb NB fun _ _=>Ui
 ·obtain⟨c,q,p,rfl,k⟩:=g5 k
  rfl
theorem KL{n:String}(h:tys.contains n=true):bootBuiltins (Str.ofString n)=some (.type n):=by
 have:n∈tys:=by simpa using h
 unfold tys at this
 simp only[List.mem_cons,List.not_mem_nil,or_false]at this
 rcases this with rfl|rfl|rfl|rfl|rfl|rfl<;>rfl
theorem P6(n:String):cS Φ Ψ G (.BD n):=by
 refine .mk1 (fun{S X} hX ex k R=>?_) (fun{S ex} env k whole=>?_) (fun S ex k=>by exact k) (fun _ _=>rfl)
 ·obtain⟨x,q,rfl,kk⟩:=fq k
  replace k:=kk
  simp only[Bool.and_eq_true]at k
  obtain⟨⟨⟨k1,k2⟩,k3⟩,k4⟩:=k
  obtain⟨g1,g2,g3⟩:=cJ hX k2
  have k1:=of_decide_eq_true k1
  subst k1
  rw[gc rfl]
  exact Eb (v:=.ty n) (Jv g1 (hX.uV _ (by simpa using k3)) (KL k4) rfl g3 g2) fun _ _=>rTy _
 ·obtain⟨x,q,rfl,kk⟩:=fq k
  replace k:=kk
  rfl
theorem KN(g:Nat):cS Φ Ψ G (.glob g):=by
 refine .mk1 (fun{S X} hX ex k R=>?_) (fun{S ex} env k whole=>?_) (fun S ex k=>by exact k) (fun _ _=>rfl)
 ·obtain⟨x,q,rfl,kk⟩:=fq k
  replace k:=kk
  simp only[Bool.and_eq_true]at k
  obtain⟨k1,k2⟩:=k
  obtain⟨g1,g2,g3⟩:=cJ hX k2
  obtain⟨u,v,h1,h2,h3⟩:=hX.Jl g _ (beq_iff_eq.mp k1)
  rw[gc rfl]
  exact Eb (Ju g1 h1 h2 g2) h3
 ·obtain⟨x,q,rfl,kk⟩:=fq k
  replace k:=kk
  rfl
theorem Ax{K:PySem.W.Frag}{B:Addr->Prop}{H H':Hp}{w:W}{v:V}(h:fK K B H H' .f w v):OM w=true:=by
 obtain⟨ws,p,vs,rfl,_⟩:=h.T7
 rfl
theorem GC{S:SE}{a:CE}{l:Expr}(k:gj S a l=true)(z:jl Ψ a=true):False:=by cases a<;>first|exact ff k|exact ff z
theorem P7(op:Operator){a b:CE}(ha:cS Φ Ψ G a)(hb:cS Φ Ψ G b):cS Φ Ψ G (.bin op a b):=by
 refine .mk1 (fun{S X} hX ex k R=>?_) (fun{S ex} env k whole=>?_) (fun S ex k=>by exact k) (fun _ _=>rfl)
 ·obtain⟨l,o,r,pos,rfl,kk⟩:=n9 k
  replace k:=kk
  simp only[Bool.and_eq_true]at k
  obtain⟨⟨k1,k2⟩,k3⟩:=k
  have k1:=of_decide_eq_true k1
  subst k1
  show VE X S.M R _ _ fun ε Q=>wE Φ G R a ε fun x=>wE Φ G R b ε fun y=>gZ op x y Q
  have bB:∀B H H' w v,Dom B H->Zc X.K B H H' w v->bq X.K B H' w v:=fun _ _ _ _ _ _ h=>h
  have bM:∀B H H' w v,Dom B H->Ge X.K .f B H H' w v->bq X.K B H' w v:=fun _ _ _ _ _ d h=>(fK.rep d h).b
  have bA:=ha.b hX k2 R
  have P8:=hb.b hX k3 R
  have fa:jl Ψ a=true->VE X S.M R .f l (wE Φ G R a):=fun z=>by
   rcases jf k2 with k2|k2
   ·have:=ha.e hX l k2 R
    rw[lC z]at this
    exact this
   ·exact(GC k2 z).elim
  have fb:jl Ψ b=true->VE X S.M R .f r (wE Φ G R b):=fun z=>by
   rcases jf k3 with k3|k3
   ·have:=hb.e hX r k3 R
    rw[lC z]at this
    exact this
   ·exact(GC k3 z).elim
  cases op with
  |Add=>
   by_cases za:jl Ψ a=true
   ·rw[lC (show jl Ψ (.bin .Add a b)=true by show(jl Ψ a||jl Ψ b)=true;rw[za];rfl)]
    exact Am (fa za) P8 bM bB fun _ _ _ _ _ _ _ _ _ _ h1 _=>.inl ⟨rfl,.inl (Ax h1)⟩
   ·by_cases zb:jl Ψ b=true
    ·rw[lC (show jl Ψ (.bin .Add a b)=true by show(jl Ψ a||jl Ψ b)=true;rw[zb,Bool.or_true])]
     exact Am bA (fb zb) bB bM fun _ _ _ _ _ _ _ _ _ _ _ h2=>.inl ⟨rfl,.inr (Ax h2)⟩
    ·rw[gc (show jl Ψ (.bin .Add a b)=false by show(jl Ψ a||jl Ψ b)=false;rw[Bool.not_eq_true _|>.mp za,Bool.not_eq_true _|>.mp zb];rfl)]
     exact Gi bA P8 fun _ _=>.inr rfl
  |Mult=>
   by_cases za:jl Ψ a=true
   ·rw[lC (show jl Ψ (.bin .Mult a b)=true from za)]
    exact Am (fa za) P8 bM bB fun _ _ _ _ _ _ _ _ _ _ h1 _=>.inr ⟨rfl,Ax h1⟩
   ·rw[gc (show jl Ψ (.bin .Mult a b)=false from Bool.not_eq_true _|>.mp za)]
    exact Gi bA P8 fun _ _=>.inr rfl
  |_=>
   rw[gc rfl]
   exact Gi bA P8 fun _ _=>.inr rfl
 ·obtain⟨l,o,r,pos,rfl,kk⟩:=n9 k
  replace k:=kk
  rfl
theorem P9{a:CE}(ha:cS Φ Ψ G a):cS Φ Ψ G (.neg a):=by
 refine .mk1 (fun{S X} hX ex k R=>?_) (fun{S ex} env k whole=>?_) (fun S ex k=>by exact k) (fun _ _=>rfl)
 ·obtain⟨o,x,pos,rfl,kk⟩:=pR k
  replace k:=kk
  rw[Bool.and_eq_true]at k
  cases of_decide_eq_true k.1
  rw[gc rfl]
  exact OO (ha.s hX k.2 R)
 ·obtain⟨o,x,pos,rfl,kk⟩:=pR k
  replace k:=kk
  rw[Bool.and_eq_true]at k
  cases of_decide_eq_true k.1
  rfl
theorem Qa{a:CE}(ha:cS Φ Ψ G a):cS Φ Ψ G (.not a):=by
 have e:∀R,wE Φ G R (.not a)=fun ε Q=>wE Φ G R a ε fun x=>truth x fun b=>Q (.bl (!b)):=fun R=>rfl
 have he:∀{S:SE} {X:Cx},XOk S Φ Ψ G X->∀ex,aG S false (.not a) ex=true->∀R,VE X S.M R (mo Ψ (.not a)) ex (wE Φ G R (.not a)):=fun{S X} hX ex k R=>by
  obtain⟨o,x,pos,rfl,kk⟩:=pR k
  replace k:=kk
  rw[Bool.and_eq_true]at k
  cases of_decide_eq_true k.1
  rw[gc rfl,e]
  exact OP (ha.s hX k.2 R)
 refine⟨he,fun{S X} hX ex k kt R=>?_,fun{S X} hX tg br ex k _ R=>?_⟩
 ·obtain⟨o,x,pos,rfl,kk⟩:=pR k
  replace k:=kk
  rw[Bool.and_eq_true]at k
  cases of_decide_eq_true k.1
  rw[e]
  exact OV (ha.t hX _ k.2 (by exact kt) R)
 ·have hv:gj S (.not a) ex=false:=rfl
  rw[hv,Bool.and_false,Bool.or_false]at k
  exact fY (je (he hX ex (by exact k) R))
theorem Qc(op:CmpOp){a b:CE}(ha:cS Φ Ψ G a)(hb:cS Φ Ψ G b):cS Φ Ψ G (.cmp op a b):=by
 have e:∀R,wE Φ G R (.cmp op a b)=fun ε Q=>wE Φ G R a ε fun x=>wE Φ G R b ε fun y=>cH op x y Q:=fun R=>rfl
 have he:∀{S:SE} {X:Cx},XOk S Φ Ψ G X->∀ex,aG S false (.cmp op a b) ex=true->∀R,VE X S.M R .s ex (wE Φ G R (.cmp op a b))/\VT X S.M R ex (wE Φ G R (.cmp op a b)):=fun{S X} hX ex k R=>by
  obtain⟨l,o,r,pos,rfl,kk⟩:=tW k
  replace k:=kk
  simp only[Bool.and_eq_true,Bool.not_eq_true']at k
  obtain⟨⟨⟨⟨k1,k2⟩,k3⟩,k4⟩,k5⟩:=k
  have k1:=of_decide_eq_true k1
  subst k1
  have hm:=zO r (op:=op) (of_decide_eq_false k2) (of_decide_eq_false k3)
  rw[e]
  exact⟨OQ hX.un hm (ha.b hX k4 R) (hb.b hX k5 R),OR hX.un hm (ha.b hX k4 R) (hb.b hX k5 R)⟩
 refine⟨fun hX ex k R=>by rw[gc rfl];exact(he hX ex k R).1,fun hX ex k _ R=>(he hX ex k R).2,fun{S X} hX tg br ex k _ R=>?_⟩
 have hv:gj S (.cmp op a b) ex=false:=rfl
 rw[hv,Bool.and_false,Bool.or_false]at k
 exact fY (je (he hX ex (by exact k) R).1)
theorem KO(p q:CmpOp){a b c:CE}(ha:cS Φ Ψ G a)(hb:cS Φ Ψ G b)(hc:cS Φ Ψ G c):cS Φ Ψ G (.sA p q a b c):=by
 have e:∀R,wE Φ G R (.sA p q a b c)=fun ε Q=>wE Φ G R a ε fun x=>wE Φ G R b ε fun y=>cH p x y fun z=>truth z fun k=>if k=true then wE Φ G R c ε fun u=>cH q y u Q else Q (.bl false):=fun R=>rfl
 have he:∀{S:SE} {X:Cx},XOk S Φ Ψ G X->∀ex,aG S false (.sA p q a b c) ex=true->∀R,VE X S.M R .s ex (wE Φ G R (.sA p q a b c))/\VT X S.M R ex (wE Φ G R (.sA p q a b c)):=fun{S X} hX ex k R=>by
  obtain⟨l,o,o',r,t,pos,rfl,kk⟩:=Eh k
  replace k:=kk
  simp only[Bool.and_eq_true]at k
  obtain⟨⟨⟨⟨⟨⟨k1,k2⟩,k3⟩,k4⟩,k5⟩,k6⟩,k7⟩:=k
  have k1:=of_decide_eq_true k1
  have k2:=of_decide_eq_true k2
  subst k1 k2
  obtain⟨f,hf⟩:=Option.isSome_iff_exists.mp k3
  obtain⟨g,hg⟩:=Option.isSome_iff_exists.mp k4
  have hm:lastMarks [p,q] [r,t]=false:=by
   show behindInMarks q t=false
   refine zO t ?_ ?_
   ·rintro rfl
    cases hg
   ·rintro rfl
    cases hg
  rw[e]
  exact⟨J9 hf hg (ha.s hX k5 R) (hb.s hX k6 R) (hc.s hX k7 R) hm,Ka hf hg (ha.s hX k5 R) (hb.s hX k6 R) (hc.s hX k7 R) hm⟩
 refine⟨fun hX ex k R=>by rw[gc rfl];exact(he hX ex k R).1,fun hX ex k _ R=>(he hX ex k R).2,fun{S X} hX tg br ex k _ R=>?_⟩
 have hv:gj S (.sA p q a b c) ex=false:=rfl
 rw[hv,Bool.and_false,Bool.or_false]at k
 exact fY (je (he hX ex (by exact k) R).1)
theorem jX{es:List Expr}(h:(!es.isEmpty)=true):es≠[]:=by
 rintro rfl
 cases h
theorem Qd{as:List CE}(ha:sD Φ Ψ G as):cS Φ Ψ G (.and as):=by
 have e:∀R,wE Φ G R (.and as)=zG Φ G R as:=fun R=>rfl
 have he:∀{S:SE} {X:Cx},XOk S Φ Ψ G X->∀ex,aG S false (.and as) ex=true->∀R,VE X S.M R .s ex (wE Φ G R (.and as)):=fun{S X} hX ex k R=>by
  obtain⟨o,es,pos,rfl,kk⟩:=pS k
  replace k:=kk
  rw[Bool.and_eq_true,Bool.and_eq_true]at k
  cases of_decide_eq_true k.1.1
  rw[e]
  exact ha.av hX _ _ (jX k.1.2) k.2 R
 refine⟨fun hX ex k R=>by rw[gc rfl];exact he hX ex k R,fun{S X} hX ex k kt R=>?_,fun{S X} hX tg br ex k _ R=>?_⟩
 ·obtain⟨o,es,pos,rfl,kk⟩:=pS k
  replace k:=kk
  rw[Bool.and_eq_true,Bool.and_eq_true]at k
  cases of_decide_eq_true k.1.1
  rw[e]
  exact(ha.at hX _ _ (jX k.1.2) k.2 (by exact kt) R).pt
 ·have hv:gj S (.and as) ex=false:=rfl
  rw[hv,Bool.and_false,Bool.or_false]at k
  exact fY (je (he hX ex (by exact k) R))
theorem UK{as:List CE}(ha:sD Φ Ψ G as):cS Φ Ψ G (.or as):=by
 have e:∀R,wE Φ G R (.or as)=Nn Φ G R as:=fun R=>rfl
 have he:∀{S:SE} {X:Cx},XOk S Φ Ψ G X->∀ex,aG S false (.or as) ex=true->∀R,VE X S.M R .s ex (wE Φ G R (.or as)):=fun{S X} hX ex k R=>by
  obtain⟨o,es,pos,rfl,kk⟩:=pS k
  replace k:=kk
  rw[Bool.and_eq_true,Bool.and_eq_true]at k
  cases of_decide_eq_true k.1.1
  rw[e]
  exact ha.ov hX _ _ (jX k.1.2) k.2 R
 refine⟨fun hX ex k R=>by rw[gc rfl];exact he hX ex k R,fun{S X} hX ex k kt R=>?_,fun{S X} hX tg br ex k _ R=>?_⟩
 ·obtain⟨o,es,pos,rfl,kk⟩:=pS k
  replace k:=kk
  rw[Bool.and_eq_true,Bool.and_eq_true]at k
  cases of_decide_eq_true k.1.1
  rw[e]
  exact(ha.ot hX _ _ (jX k.1.2) k.2 (by exact kt) R).pt
 ·have hv:gj S (.or as) ex=false:=rfl
  rw[hv,Bool.and_false,Bool.or_false]at k
  exact fY (je (he hX ex (by exact k) R))
theorem UL{X:Cx}{M:Ms}{R:Addr->Prop}{m:Md}{e:Expr}{t:WT}{c:CE}(h:VE X M R m e t)(hm:mo Ψ c=m\/mo Ψ c=.s):VE X M R (mo Ψ c) e t:=by
 rcases hm with z|z
 ·rw[z];exact h
 ·rw[z];exact Gf h
theorem Qe{c a b:CE}(hc:cS Φ Ψ G c)(ha:cS Φ Ψ G a)(hb:cS Φ Ψ G b):cS Φ Ψ G (.ite c a b):=by
 have e:∀R,wE Φ G R (.ite c a b)=fun ε Q=>wE Φ G R c ε fun x=>truth x fun k=>if k=true then wE Φ G R a ε Q else wE Φ G R b ε Q:=fun R=>rfl
 have he:∀{S:SE} {X:Cx},XOk S Φ Ψ G X->∀ex,aG S false (.ite c a b) ex=true->∀R,VE X S.M R (mo Ψ (.ite c a b)) ex (wE Φ G R (.ite c a b)):=fun{S X} hX ex k R=>by
  obtain⟨t,x,y,p,rfl,kk⟩:=KI k
  simp only[Bool.and_eq_true]at kk
  obtain⟨⟨⟨k1,k2⟩,k3⟩,k4⟩:=kk
  rw[e]
  by_cases z:jl Ψ a=true/\jl Ψ b=true
  ·rw[lC (show jl Ψ (.ite c a b)=true by show(jl Ψ a&&jl Ψ b)=true;rw[z.1,z.2];rfl)]
   have h1:=ha.e hX x k3 R
   have h2:=hb.e hX y k4 R
   rw[lC z.1]at h1
   rw[lC z.2]at h2
   exact Gj (hc.t hX t k1 k2 R) h1 h2
  ·rw[gc (show jl Ψ (.ite c a b)=false by
    show(jl Ψ a&&jl Ψ b)=false
    cases h1:jl Ψ a
    ·rfl
    ·cases h2:jl Ψ b
     ·rfl
     ·exact absurd ⟨h1,h2⟩ z)]
   exact Gj (hc.t hX t k1 k2 R) (ha.s hX k3 R) (hb.s hX k4 R)
 refine⟨he,(fun hX ex k kt R=>by exact ff kt),fun{S X} hX tg br ex k _ R=>?_⟩
 have hv:gj S (.ite c a b) ex=false:=rfl
 rw[hv,Bool.and_false,Bool.or_false]at k
 exact fY (je (he hX ex (by exact k) R))
theorem Qg{as:List CE}(ha:sD Φ Ψ G as):cS Φ Ψ G (.tup as):=by
 refine .mk1 (fun{S X} hX ex k R=>?_) (fun{S ex} env k whole=>?_) (fun S ex k=>by exact k) (fun _ _=>rfl)
 ·obtain⟨es,q,p,rfl,kk⟩:=fL k
  rw[gc rfl]
  exact OY (ha.a hX es kk R)
 ·obtain⟨es,q,p,rfl,kk⟩:=fL k
  rfl
theorem Qh{as:List CE}(ha:sD Φ Ψ G as):cS Φ Ψ G (.lst as):=by
 refine .mk1 (fun{S X} hX ex k R=>?_) (fun{S ex} env k whole=>?_) (fun S ex k=>by exact k) (fun _ _=>rfl)
 ·obtain⟨es,p,rfl,kk⟩:=xE k
  rw[lC rfl]
  exact OX (ha.a hX es kk R)
 ·obtain⟨es,p,rfl,kk⟩:=xE k
  rfl
theorem UM{a i:CE}(ha:cS Φ Ψ G a)(hi:cS Φ Ψ G i):cS Φ Ψ G (.ix a i):=by
 refine .mk1 (fun{S X} hX ex k R=>?_) (fun{S ex} env k whole=>?_) (fun S ex k=>by exact k) (fun _ _=>rfl)
 ·obtain⟨v,s,p,rfl,kk⟩:=gA k
  simp only[Bool.and_eq_true]at kk
  rw[gc rfl]
  exact Up (uW kk.1.1) (ha.b hX kk.1.2 R) (hi.s hX kk.2 R)
 ·obtain⟨v,s,p,rfl,kk⟩:=gA k
  rfl
theorem MO{lo:CE}(hl:cS Φ Ψ G lo){S:SE}{X:Cx}(hX:XOk S Φ Ψ G X){l:Option Expr}(k:PV (ku lo) (fun x=>aG S false lo x) l=true)(R:Addr->Prop):PO X l (Uq X S.M R fun ε Q=>wE Φ G R lo ε fun y=>J0 lo y Q):=by
 cases l with
 |none=>
  have z:ku lo=true:=k
  cases lo with
  |aU=>
   exact Kf
  |_=>exact ff z
 |some x=>
  have k:(!ku lo&&aG S false lo x)=true:=k
  rw[Bool.and_eq_true]at k
  have e:(fun(ε:Ev) (Q:Option Int->Prop)=>wE Φ G R lo ε fun y=>J0 lo y Q)=fun ε Q=>wE Φ G R lo ε fun y=>match y with|.int i=>Q (some i)|_=>False:=by
   have hn:ku lo=false:=by simpa using k.1
   unfold J0
   rw[hn]
   funext ε Q
   congr 1
   funext y
   cases y<;>rfl
  rw[e]
  exact Kg (hl.s hX k.2 R)
theorem UN{a lo hi:CE}(ha:cS Φ Ψ G a)(hl:cS Φ Ψ G lo)(hh:cS Φ Ψ G hi):cS Φ Ψ G (.sl a lo hi):=by
 refine .mk1 (fun{S X} hX ex k R=>?_) (fun{S ex} env k whole=>?_) (fun S ex k=>by exact k) (fun _ _=>rfl)
 ·obtain⟨v,l,r,q,p,rfl,kk⟩:=BQ k
  simp only[Bool.and_eq_true]at kk
  rw[lC rfl]
  exact Ur (ha.b hX kk.1.1 R) (MO hl hX kk.1.2 R) (MO hh hX kk.2 R)
 ·obtain⟨v,l,r,q,p,rfl,kk⟩:=BQ k
  rfl
theorem KQ(f:Nat){as:List CE}(ha:sD Φ Ψ G as):cS Φ Ψ G (.call f as):=by
 refine .mk1 (fun{S X} hX ex k R=>?_) (fun{S ex} env k whole=>?_) (fun S ex k=>by exact k) (fun _ _=>rfl)
 ·obtain⟨x,q,es,p,rfl,kk⟩:=aV k
  simp only[Bool.and_eq_true]at kk
  obtain⟨⟨⟨⟨⟨k1,k2⟩,k3⟩,k5⟩,k6⟩,k4⟩:=kk
  obtain⟨g1,g2,g3⟩:=cJ hX k2
  obtain⟨fv,n,kl,hm,F,hr,hn⟩:=hX.fns f x (beq_iff_eq.mp k1) (by simpa using k6)
  have F:gi X.prog X.w X.K X.mg X.base kl fv n (MI X.K n (Ψ f) (Φ f)):=by
   rw[←hX.Jk]at k5
   cases hp:Ψ f<;>rw[hp]at k5 F<;>first|exact F|exact ff k5
  have st:=oh k4
  cases es with
  |nil=>exact ff k3
  |cons e es=>
   rw[List.all_cons,Bool.and_eq_true]at st
   have h:=BK (M:=S.M) (R:=R) (p:=q) (pos:=p) F hr g1 hm hn (ha.a hX _ k4 R) g2 (aI st.1 _ _) (cK st.2 _ _)
   refine UL h ?_
   by_cases z:jl Ψ (.call f as)=true
   ·rw[lC z]
    left
    have z:(match Ψ f with|.f=>true|_=>false)=true:=z
    cases hp:Ψ f<;>rw[hp]at z<;>first|rfl|exact ff z
   ·exact .inr (gc (by simpa using z))
 ·obtain⟨x,q,es,p,rfl,kk⟩:=aV k
  rfl
theorem xJ{X:Cx}(hc:X.calm=true):∀b:BI,b≠.any->b≠.zC->(∃id,bootBuiltins (UE b)=some (.builtin id)/\fJ X (.builtin id) (R7 X.K b))\/(∃id,bootBuiltins (UE b)=some (.type id)/\fJ X (.type id) (R7 X.K b))
 |.len,_,_=>.inl ⟨"len",rfl,cw_len.r⟩
 |.abs,_,_=>.inl ⟨"abs",rfl,cw_abs.r⟩
 |.max2,_,_=>.inl ⟨"max",rfl,(cw_max hc).r⟩
 |.min2,_,_=>.inl ⟨"min",rfl,(cw_min hc).r⟩
 |.sum,_,_=>.inl ⟨"sum",rfl,(cw_sum hc).r⟩
 |.all,_,_=>.inl ⟨"all",rfl,(cw_all hc).r⟩
 |.list,_,_=>.inr ⟨"list",rfl,cw_list.r⟩
 |.tuple,_,_=>.inr ⟨"tuple",rfl,cw_tuple.r⟩
 |.any,h,_=>absurd rfl h
 |.zC,_,h=>absurd rfl h
theorem gu{S:SE}{a:CE}{as:List CE}{es:List Expr}(k:gR S (a::as) es=true):∃e r,es=e::r/\aG S false a e=true/\gR S as r=true:=by
 cases es with
 |nil=>exact ff k
 |cons e r=>exact⟨e,r,rfl,a2 k⟩
theorem qF{S:SE}{es:List Expr}(k:gR S [] es=true):es=[]:=List.isEmpty_iff.mp k
theorem Ay{S:SE}{a:CE}{as:List CE}{es:List Expr}(k:mq S (a::as) es=true):∃e r,es=e::r/\(aG S false a e||gj S a e)=true/\mq S as r=true:=by
 cases es with
 |nil=>exact ff k
 |cons e r=>exact⟨e,r,rfl,a2 k⟩
theorem Ei{S:SE}{es:List Expr}(k:mq S [] es=true):es=[]:=List.isEmpty_iff.mp k
theorem Qi(b:BI){as:List CE}(ha:sD Φ Ψ G as)(hall:∀c∈as,cS Φ Ψ G c):cS Φ Ψ G (.blt b as):=by
 refine .mk1 (fun{S X} hX ex k R=>?_) (fun{S ex} env k whole=>?_) (fun S ex k=>by exact k) (fun _ _=>rfl)
 ·obtain⟨x,q,es,p,rfl,kk⟩:=aV k
  simp only[Bool.and_eq_true]at kk
  obtain⟨⟨⟨⟨⟨k1,k2⟩,k3⟩,k4⟩,k5⟩,k6⟩:=kk
  have k1:=of_decide_eq_true k1
  obtain⟨g1,g2,g3⟩:=cJ hX k2
  have hz:=hX.uV x (by simpa using k3)
  have st:=qC k6
  cases es with
  |nil=>cases b<;>exact ff k4
  |cons e es=>
   rw[List.all_cons,Bool.and_eq_true]at st
   by_cases hi:b=.zC
   ·subst hi
    rw[gc rfl]
    rcases as with _|⟨a,_|⟨c,_|⟨d,as⟩⟩⟩<;>try exact ff k5
    obtain⟨n,hn⟩:=Option.isSome_iff_exists.mp k5
    have ec:c=.BD n:=by cases c<;>first|(cases hn;rfl)|exact nn hn
    subst ec
    obtain⟨k7,k8⟩:=a2 k6
    obtain⟨e2,r,rfl,k9,Sb⟩:=Ay k8
    cases Ei Sb
    have st2:=st.2
    rw[List.all_cons,Bool.and_eq_true]at st2
    have kt:aG S false (.BD n) e2=true:=by
     rcases jf k9 with z|z
     ·exact z
     ·exact ff z
    have mem:n∈["int","bool","tuple","list","str","dict"]:=by
     obtain⟨y,q2,rfl,kk⟩:=fq kt
     have:=(a2 kk).2
     unfold tys at this
     exact List.contains_iff_mem.mp this
    have hA:=(hall a List.mem_cons_self).b hX k7 R
    have hC:=(hall (.BD n) (List.mem_cons_of_mem _ List.mem_cons_self)).b hX k9 R
    have hv:bootBuiltins x=some (.builtin "isinstance"):=by rw[k1];rfl
    exact O3 (M:=S.M) (R:=R) (p:=q) (pos:=p) hX.kit mem g1 hz hv hA hC g3 g2 (aI st.1 _ _) (aI st2.1 _ _) (cK st.2 _ _)
   ·have hm:mo Ψ (.blt b as)=Us b:=by
     cases b<;>first|rfl|exact gc rfl|exact lC rfl
    rw[hm]
    rcases xJ hX.calm b (by rintro rfl;exact ff k4) hi with⟨id,hv,hc⟩|⟨id,hv,hc⟩
    ·exact OZ hc g1 hz (by rw[k1];exact hv) (ha.b hX _ k6 R) g3 g2 (aI st.1 _ _) (cK st.2 _ _)
    ·exact O2 hc g1 hz (by rw[k1];exact hv) (ha.b hX _ k6 R) g3 g2 (aI st.1 _ _) (cK st.2 _ _)
 ·obtain⟨x,q,es,p,rfl,kk⟩:=aV k
  rfl
theorem KR{a:CE}(ha:cS Φ Ψ G a):cS Φ Ψ G (.bits a):=by
 refine .mk1 (fun{S X} hX ex k R=>?_) (fun{S ex} env k whole=>?_) (fun S ex k=>by exact k) (fun _ _=>rfl)
 ·obtain⟨o,m,ap,cp,rfl,kk⟩:=lA k
  simp only[Bool.and_eq_true]at kk
  obtain⟨⟨⟨k1,k2⟩,k4⟩,k3⟩:=kk
  have k1:=of_decide_eq_true k1
  subst k1
  rw[gc rfl]
  exact Kh (ha.s hX k3 R) (tY k4 _ _ _) k2
 ·obtain⟨o,m,ap,cp,rfl,kk⟩:=lA k
  rfl
theorem Qj{K:PySem.W.Frag}{B B':Addr->Prop}{H:Hp}{w:W}{v:V}(hs:OB w=true)(r:Rep K B H w v):Rep K B' H w v:=by
 cases w<;>first|(rw[Rep]at r⊢;exact r)|exact ff hs
theorem xK{S:SE}{is:List Nat}:∀x∈(S.lend is).M,x∈S.M:=fun x hx=>(List.mem_filter.mp hx).1
theorem Qk(is:List Nat){a:CE}(ha:cS Φ Ψ G a):cS Φ Ψ G (.Ai is a):=by
 have ew:∀R,wE Φ G R (.Ai is a)=fun ε Q=>wE Φ G R a ε fun w=>OB w=true/\Q w:=fun R=>rfl
 have he:∀{S:SE} {X:Cx},XOk S Φ Ψ G X->∀ex,aG S false (.Ai is a) ex=true->∀R,VE X S.M R .s ex (wE Φ G R (.Ai is a)):=fun{S X} hX ex k R=>by
  have k:=a2 k
  have Jm:XOk (S.lend is) Φ Ψ G X:=⟨hX.hN,hX.nd,hX.calm,hX.un,hX.nk,hX.fns,hX.KJ,hX.Jk,hX.Jl,hX.uV,hX.kit⟩
  rw[ew]
  refine PE.imp (ha.s Jm k.2 R) ?_
  rintro σ H Q ⟨A,H0,ε,P,S',er,h,kk⟩
  obtain⟨A',ea,e0,hb,S2⟩:=S'.sub (M':=(S.lend is).M) xK none (fun v e=>by cases e)
  exact⟨A',H0,ε,_,S2,er,h,fun w v H' hw s r=>kk w v H' hw.2 s (.of (Qj hw.1 r.bE))⟩
 refine⟨fun{S X} hX ex k R=>by rw[gc rfl];exact he hX ex k R,fun{S X} hX ex k kt R=>?_,fun{S X} hX tg br ex k _ R=>?_⟩
 ·have k:=a2 k
  have Jm:XOk (S.lend is) Φ Ψ G X:=⟨hX.hN,hX.nd,hX.calm,hX.un,hX.nk,hX.fns,hX.KJ,hX.Jk,hX.Jl,hX.uV,hX.kit⟩
  rw[ew]
  refine PT.imp (ha.t Jm ex k.2 kt R) ?_
  rintro σ H Q ⟨A,H0,ε,P,S',er,h,kk⟩
  obtain⟨A',ea,e0,hb,S2⟩:=S'.sub (M':=(S.lend is).M) xK none (fun v e=>by cases e)
  exact⟨A',H0,ε,_,S2,er,h,fun w H' hw s=>kk w H' hw.2 s⟩
 ·have hv:gj S (.Ai is a) ex=false:=rfl
  rw[hv,Bool.and_false,Bool.or_false]at k
  exact fY (je (he hX ex (by exact k) R))
theorem Ql(i g f:Nat)(as:List CE):cS Φ Ψ G (.JZ i g f as):=.mk1 (fun hX ex k R=>by cases k) (fun env k whole=>by cases k) (fun S ex k=>by cases k) (fun _ _=>rfl)
theorem Qm(i:Nat):cS Φ Ψ G (.pop i):=.mk1 (fun hX ex k R=>by cases k) (fun env k whole=>by cases k) (fun S ex k=>by cases k) (fun _ _=>rfl)
theorem Qn{as:List CE}(hall:∀c∈as,cS Φ Ψ G c):cS Φ Ψ G (.nO as):=by
 refine⟨fun{S X} hX ex k R=>?_,fun{S X} hX ex k _ R=>?_,fun{S X} hX tg br ex k _ R=>?_⟩
 ·obtain⟨x,q,es,p,rfl,kk⟩:=aV k
  simp at kk
 ·obtain⟨x,q,es,p,rfl,kk⟩:=aV k
  simp at kk
 ·have hv:gj S (.nO as) ex=false:=rfl
  rw[hv,Bool.and_false,Bool.or_false]at k
  obtain⟨x,q,es,p,rfl,kk⟩:=aV k
  simp only[Bool.and_eq_true]at kk
  obtain⟨⟨⟨⟨⟨_,k1⟩,k2⟩,k3⟩,k4⟩,k5⟩:=kk
  have k1:=of_decide_eq_true k1
  subst k1
  obtain⟨g1,g2,g3⟩:=cJ hX k2
  have hz:=hX.uV _ (by simpa using k3)
  rcases as with _|⟨a,_|⟨b,_|⟨c,_|⟨d,as⟩⟩⟩⟩
  ·simp at k4
  ·obtain⟨e,r,rfl,k6,k7⟩:=gu k5
   cases qF k7
   exact Km (M:=S.M) (R:=R) (br:=br) (tg:=tg) (p:=q) (pos:=p) g1 hz ((hall a List.mem_cons_self).s hX k6 R) (aI (bw (.inl k6)) _ _)
  ·obtain⟨e,r,rfl,k6,k7⟩:=gu k5
   obtain⟨f,r,rfl,k8,k9⟩:=gu k7
   cases qF k9
   exact Kn (M:=S.M) (R:=R) (br:=br) (tg:=tg) (p:=q) (pos:=p) g1 hz ((hall a (by simp)).s hX k6 R) ((hall b (by simp)).s hX k8 R) (aI (bw (.inl k6)) _ _) (aI (bw (.inl k8)) _ _)
  ·obtain⟨e,r,rfl,k6,k7⟩:=gu k5
   obtain⟨f,r,rfl,k8,k9⟩:=gu k7
   obtain⟨g,r,rfl,Sb,k11⟩:=gu k9
   cases qF k11
   exact Ko (M:=S.M) (R:=R) (br:=br) (tg:=tg) (p:=q) (pos:=p) g1 hz ((hall a (by simp)).s hX k6 R) ((hall b (by simp)).s hX k8 R) ((hall c (by simp)).s hX Sb R) (aI (bw (.inl k6)) _ _) (aI (bw (.inl k8)) _ _) (aI (bw (.inl Sb)) _ _)
  ·simp at k4
theorem xM{f:Expr->Bool}{es:List Expr}(h:PX f es=true):∃e,es=[e]/\f e=true:=fZ h
theorem Qo{a:CE}(ha:cS Φ Ψ G a):cS Φ Ψ G (.uL a):=by
 refine⟨fun{S X} hX ex k R=>?_,fun{S X} hX ex k _ R=>?_,fun{S X} hX tg br ex k ht R=>?_⟩
 ·obtain⟨x,q,es,p,rfl,kk⟩:=aV k
  simp at kk
 ·obtain⟨x,q,es,p,rfl,kk⟩:=aV k
  simp at kk
 ·have hv:gj S (.uL a) ex=false:=rfl
  rw[hv,Bool.and_false,Bool.or_false]at k
  obtain⟨x,q,es,p,rfl,kk⟩:=aV k
  simp only[Bool.and_eq_true]at kk
  obtain⟨⟨⟨⟨_,k1⟩,k2⟩,k3⟩,k5⟩:=kk
  have k1:=of_decide_eq_true k1
  subst k1
  obtain⟨e,rfl,k5⟩:=xM k5
  obtain⟨g1,g2,g3⟩:=cJ hX k2
  obtain⟨elts,kk,tp,rfl⟩:=ht rfl
  exact O6 g1 (hX.uV _ (by simpa using k3)) (je (ha.e hX e k5 R)) (aI (bw (.inl k5)) _ _)
theorem Qp{a:CE}(ha:cS Φ Ψ G a):cS Φ Ψ G (.rev a):=by
 refine⟨fun{S X} hX ex k R=>?_,fun{S X} hX ex k _ R=>?_,fun{S X} hX tg br ex k ht R=>?_⟩
 ·obtain⟨x,q,es,p,rfl,kk⟩:=aV k
  simp at kk
 ·obtain⟨x,q,es,p,rfl,kk⟩:=aV k
  simp at kk
 ·have hv:gj S (.rev a) ex=false:=rfl
  rw[hv,Bool.and_false,Bool.or_false]at k
  obtain⟨x,q,es,p,rfl,kk⟩:=aV k
  simp only[Bool.and_eq_true]at kk
  obtain⟨⟨⟨⟨_,k1⟩,k2⟩,k3⟩,k5⟩:=kk
  have k1:=of_decide_eq_true k1
  subst k1
  obtain⟨e,rfl,k5⟩:=xM k5
  obtain⟨g1,g2,g3⟩:=cJ hX k2
  exact O7 g1 (hX.uV _ (by simpa using k3)) (je (ha.e hX e k5 R)) (aI (bw (.inl k5)) _ _)
theorem qG{f:NameKind->NameKind}:∀(l:List (Str×NameKind)) (y:Str),(l.map fun p=>(p.1,f p.2)).lookup y=(l.lookup y).map f
 |[],_=>rfl
 |(n,k)::r,y=>by
  rw[List.map_cons,List.lookup_cons,List.lookup_cons]
  by_cases e:(y==n)=true
  ·rw[e];rfl
  ·rw[Bool.not_eq_true]at e
   rw[e]
   exact qG r y
theorem uX{sc a b:Scope}{N N' xs:List Str}(h:∀x,a.names.lookup x=b.names.lookup x):fX sc a N N' xs=fX sc b N N' xs:=by
 unfold fX
 simp only[h]
theorem uY{S:SE}{X:Cx}(hX:XOk S Φ Ψ G X){scope:Scope}{xs:List Str}(ho:fX scope X.env.scope X.N (mask xs S.N) xs=true)(hn:(xs++mask xs S.N).Nodup){pins:List (Addr×Obj)}{σ:St}{H:Hp}{s:Shared}(I:Inv X pins σ H s)(C:Addr)(s0:Shared)(H0:Hp)(fp:List Addr):
 XOk (S.comp scope xs) Φ Ψ G (aH X scope C xs (mask xs S.N) s0 H0 fp):=by
 refine⟨rfl,hn,hX.calm,hX.un,fun x=>?_,hX.fns,hX.KJ,hX.Jk,hX.Jl,hX.uV,hX.kit⟩
 show(relabel scope X.env).names.lookup x=_
 rw[iu I (gx.of ho)]
 show _=(scope.names.map fun p=>(p.1,if p.2=.free then NameKind.cell else p.2)).lookup x
 rw[qG (f:=fun k=>if k=.free then NameKind.cell else k)]
noncomputable def g6(X:Cx)(i:Nat)(x:Str):Prop:=X.N[i]?=some x/\Loc X.env.scope x/\(X.fn x=true\/X.env.scope.names.lookup x=some .local)
noncomputable def dw(X:Cx):List Nat->List Str->Prop
 |[],xs=>xs=[]
 |i::is,xs=>∃x r,xs=x::r/\g6 X i x/\dw X is r
theorem MP{X:Cx}(hN:X.N.Nodup){i:Nat}{x:Str}{p:Pos}(h:g6 X i x):PG X (.Name x p) (jc i):=Jy hN h.1 h.2.1 h.2.2
theorem Az{X:Cx}(hN:X.N.Nodup):∀(es:List Expr) (xs:List Str) (ts:List Nat),BS es=some xs->dw X ts xs->RU X es (O8 ts)/\(assignEach es X.env).length=ts.length/\(assignEach es X.env).findIdx? (·.1)=none
 |[],xs,ts,h,k=>by
  cases h
  cases ts with
  |nil=>exact⟨Jz,rfl,rfl⟩
  |cons i is=>
   obtain⟨x,r,e,_⟩:=k
   cases e
 |.Name x p::es,xs,ts,h,k=>by
  rw[BS]at h
  obtain⟨l,hl,rfl⟩:=Option.map_eq_some_iff.mp h
  cases ts with
  |nil=>cases k
  |cons i is=>
   obtain⟨x',r,e,h1,h2⟩:=k
   cases e
   obtain⟨q1,q2,q3⟩:=Az hN es l is hl h2
   have e:assignEach (.Name x p::es) X.env=(false,assign (.Name x p) X.env)::assignEach es X.env:=rfl
   refine⟨Fl (MP hN h1) q1 rfl,by rw[e,List.length_cons,q2,List.length_cons],?_⟩
   rw[e,List.findIdx?_cons,q3]
   rfl
 |.BoolOp ..::es,xs,ts,h,k=>by cases h
 |.NamedExpr ..::es,xs,ts,h,k=>by cases h
 |.BinOp ..::es,xs,ts,h,k=>by cases h
 |.UnaryOp ..::es,xs,ts,h,k=>by cases h
 |.Lambda ..::es,xs,ts,h,k=>by cases h
 |.IfExp ..::es,xs,ts,h,k=>by cases h
 |.Dict ..::es,xs,ts,h,k=>by cases h
 |.Set ..::es,xs,ts,h,k=>by cases h
 |.ListComp ..::es,xs,ts,h,k=>by cases h
 |.SetComp ..::es,xs,ts,h,k=>by cases h
 |.DictComp ..::es,xs,ts,h,k=>by cases h
 |.GeneratorExp ..::es,xs,ts,h,k=>by cases h
 |.Await ..::es,xs,ts,h,k=>by cases h
 |.Yield ..::es,xs,ts,h,k=>by cases h
 |.YieldFrom ..::es,xs,ts,h,k=>by cases h
 |.Compare ..::es,xs,ts,h,k=>by cases h
 |.Call ..::es,xs,ts,h,k=>by cases h
 |.FormattedValue ..::es,xs,ts,h,k=>by cases h
 |.JoinedStr ..::es,xs,ts,h,k=>by cases h
 |.Constant ..::es,xs,ts,h,k=>by cases h
 |.Attribute ..::es,xs,ts,h,k=>by cases h
 |.Subscript ..::es,xs,ts,h,k=>by cases h
 |.Starred ..::es,xs,ts,h,k=>by cases h
 |.List ..::es,xs,ts,h,k=>by cases h
 |.Tuple ..::es,xs,ts,h,k=>by cases h
 |.Slice ..::es,xs,ts,h,k=>by cases h
theorem KU{X:Cx}(hc:X.calm=true)(hN:X.N.Nodup){tg:Expr}{one:Bool}{xs:List Str}{ts:List Nat}(h:Sa tg=some (one,xs))(k:dw X ts xs):PG X tg (gT X.K one ts):=by
 cases tg with
 |Name x p=>
  cases h
  match ts,k with
  |[i],k=>
   obtain⟨x',r,e,h1,h2⟩:=k
   cases e
   exact MP hN h1
  |[],k=>cases k
  |_::_::_,k=>
   obtain⟨x',r,e,h1,h2⟩:=k
   cases e
   obtain⟨x2,r2,e2,_⟩:=h2
   cases e2
 |Tuple es kk p=>
  rw[Sa]at h
  obtain⟨l,hl,e⟩:=Option.map_eq_some_iff.mp h
  cases e
  obtain⟨q1,q2,q3⟩:=Az hN es xs ts hl k
  have:gT X.K false ts=NN X.K ts.length (O8 ts):=by cases ts<;>rfl
  rw[this]
  exact NO hc q1 q2 q3
 |_=>exact nn h
theorem oN{X:Cx}:∀(xs:List Str) (n:Nat),(∀k x,xs[k]?=some x->g6 X (n+k) x)->dw X ((List.range xs.length).map (n+·)) xs
 |[],n,_=>by simp[dw]
 |x::xs,n,h=>by
  rw[List.length_cons,List.range_succ_eq_map,List.map_cons]
  refine⟨x,xs,rfl,h 0 x rfl,?_⟩
  have:=oN xs (n+1) fun k y hy=>by
   have:=h (k+1) y (by simpa using hy)
   rw[show n+1+k=n+(k+1) by lia]
   exact this
  rw[List.map_map]
  have e:(List.range xs.length).map (n+1+·)=(List.range xs.length).map ((n+·)∘Nat.succ):=List.map_congr_left fun k _=>by
   show n+1+k=n+(k+1)
   lia
  rw[←e]
  exact this
theorem xN{iter:Expr}(h:Av iter=true)(env:Env)(x:Value):foldedSetIterable iter env x=pure x:=by
 cases iter<;>first|rfl|exact ff h
theorem BV{ts:List Nat}{one:Bool}{n:Nat}{i c x:CE}{R:Addr->Prop}:wE Φ G R (.comp ts one n i c x)=fun ε Q=>wE Φ G R i ε fun z=>items z fun ws=>j9 (fun w K=>wT one ts w (List.replicate n none++ε) fun ε'=>wE Φ G (fun _=>False) c ε' fun x'=>truth x' fun k=>if k=true then wE Φ G (fun _=>False) x ε' fun y=>K (some y)else K none) ws [] fun l=>Q (.lst l):=rfl
theorem qH{ts:List Nat}{one:Bool}{n:Nat}{i c x:CE}(hi:cS Φ Ψ G i)(hc:cS Φ Ψ G c)(hx:cS Φ Ψ G x){S:SE}{X:Cx}(hX:XOk S Φ Ψ G X){ex:Expr}(k:aG S false (.comp ts one n i c x) ex=true)(R:Addr->Prop):
 ∃elt tg iter ifs scope p xs,ex=.ListComp elt [⟨tg,iter,ifs,0⟩] scope p/\n=xs.length/\(∀j∈ts,j<xs.length)/\fX scope X.env.scope X.N (mask xs S.N) xs=true/\(∀z,foldedSetIterable iter X.env z=pure z)/\PI X tg iter (Gn X S.M R true (wE Φ G R i))/\
  ∀pins s σ H,Inv X pins σ H s->(∀C s0 H0 fp,PG (aH X scope C xs (mask xs S.N) s0 H0 fp) tg (gT X.K one ts))/\(∀C s0 H0 fp,PF (aH X scope C xs (mask xs S.N) s0 H0 fp) ifs (Xs X.K (up S.M xs.length) (wE Φ G (fun _=>False) c)))/\
   ∀C s0 H0 fp,PE (aH X scope C xs (mask xs S.N) s0 H0 fp) elt (Xr X.K (up S.M xs.length) (wE Φ G (fun _=>False) x)):=by
 obtain⟨elt,tg,iter,ifs,scope,p,rfl,kk⟩:=tX k
 unfold xH at kk
 split at kk
 rotate_left
 ·cases kk
 rename_i o xs Qq
 simp only[Bool.and_eq_true]at kk
 obtain⟨⟨⟨⟨⟨⟨⟨⟨⟨k1,k2⟩,k3⟩,k4⟩,k5⟩,k6⟩,k7⟩,k8⟩,k9⟩,Sb⟩:=kk
 have k1:=beq_iff_eq.mp k1
 have k2:=beq_iff_eq.mp k2
 have k3:=beq_iff_eq.mp k3
 subst k1 k2 k3
 have hnd:=of_decide_eq_true k5
 have ho:fX scope X.env.scope X.N (mask xs S.N) xs=true:=by
  rw[hX.hN,uX (b:=S.sc) fun y=>hX.nk y]
  exact k4
 have O:=gx.of ho
 refine⟨elt,tg,iter,ifs,scope,p,xs,rfl,rfl,fun j hj=>List.mem_range.mp hj,ho,xN k6 _,hi.i hX tg true iter (by rw[Bool.true_and];exact k8) (fun z=>?_) R,fun pins s σ H I=>⟨fun C s0 H0 fp=>?_,fun C s0 H0 fp=>?_,fun C s0 H0 fp=>?_⟩⟩
 ·have:one=false:=by
   rw[z]at k7
   simpa using k7
  subst this
  cases tg with
  |Tuple es kk p=>exact⟨_,_,_,rfl⟩
  |Name y p=>cases Qq
  |_=>exact nn Qq
 ·have Jm:=uY hX ho hnd I C s0 H0 fp
  refine KU Jm.calm Jm.nd Qq ?_
  have:=oN (X:=aH X scope C xs (mask xs S.N) s0 H0 fp) xs 0 fun k y hy=>?_
  ·simpa using this
  ·have hm:y∈xs:=List.mem_of_getElem? hy
   have l1:(aH X scope C xs (mask xs S.N) s0 H0 fp).env.scope.names.lookup y=some .local:=by
    show(relabel scope X.env).names.lookup y=_
    rw[iu I O,(O.own y hm).1]
    rfl
   refine⟨?_,.inl l1,.inr l1⟩
   show(xs++mask xs S.N)[0+k]?=some y
   rw[Nat.zero_add,List.getElem?_append_left (List.getElem?_eq_some_iff.mp hy).1]
   exact hy
 ·have Jm:=uY hX ho hnd I C s0 H0 fp
  match ifs,k9 with
  |[],k9=>
   have k9:MM c=true:=k9
   cases c with
   |bl b=>
    have:b=true:=k9
    subst this
    refine PF.imp Og ?_
    rintro σ H Q ⟨A,H0,ε,P,S',h,k⟩
    obtain⟨b,e,q⟩:=k _ H h (ay.refl H)
    cases e
    exact q
   |_=>exact ff k9
  |[f],k9=>
   have k9:(aG (S.comp scope xs) false c f&&Gy c)=true:=k9
   rw[Bool.and_eq_true]at k9
   exact PF.imp (Oh (hc.t Jm f k9.1 k9.2 fun _=>False))<|by rintro σ H Q ⟨A,H0,ε,P,S',h,k⟩;exact⟨A,H0,ε,P,S',.none,h,k⟩
  |_::_::_,k9=>exact ff k9
 ·have Jm:=uY hX ho hnd I C s0 H0 fp
  exact PE.imp (hx.s Jm Sb fun _=>False)<|by rintro σ H Q ⟨A,H0,ε,P,S',h,k⟩;exact⟨A,H0,ε,P,S',.none,h,fun w v H' pw s r=>k w v H' pw s r.bE⟩
theorem KW(ts:List Nat)(one:Bool)(n:Nat){i c x:CE}(hi:cS Φ Ψ G i)(hc:cS Φ Ψ G c)(hx:cS Φ Ψ G x):cS Φ Ψ G (.comp ts one n i c x):=by
 refine .mk1 (fun{S X} hX ex k R=>?_) (fun{S ex} env k whole=>?_) (fun S ex k=>by exact k) (fun _ _=>rfl)
 ·obtain⟨elt,tg,iter,ifs,scope,p,xs,rfl,rfl,hlt,ho,hfs,TX,hr⟩:=qH hi hc hx hX k R
  rw[lC rfl]
  rw[BV]
  intro pins s σ H Q I hw
  obtain⟨q1,q2,q3⟩:=hr pins s σ H I
  exact Kp hX.calm ho hlt TX q1 q2 q3 hfs pins s σ H Q I hw
 ·obtain⟨elt,tg,iter,ifs,scope,p,rfl,kk⟩:=tX k
  rfl
theorem Qt:sD Φ Ψ G []:=by
 have en:∀{S:SE} {es:List Expr},gR S [] es=true->es=[]:=fun{S es} h=>by
  exact List.isEmpty_iff.mp h
 have enb:∀{S:SE} {es:List Expr},mq S [] es=true->es=[]:=fun{S es} h=>by
  exact List.isEmpty_iff.mp h
 refine⟨fun hX es k R=>?_,fun hX es k R=>?_,fun hX es pos hn k R=>absurd (en k) hn,fun hX es pos hn k R=>absurd (en k) hn,fun hX es pos hn k _ R=>absurd (en k) hn,fun hX es pos hn k _ R=>absurd (en k) hn⟩
 ·rw[en k]
  exact OW
 ·rw[enb k]
  exact Ke
theorem KY{a:CE}{as:List CE}(ha:cS Φ Ψ G a)(hs:sD Φ Ψ G as):sD Φ Ψ G (a::as):=by
 have ec:∀{S:SE} {es:List Expr},gR S (a::as) es=true->∃e r,es=e::r/\aG S false a e=true/\gR S as r=true:=fun{S es} h=>by
  rw[gR]at h
  cases es with
  |nil=>exact ff h
  |cons e r=>
   rw[xG,Bool.and_eq_true]at h
   exact⟨e,r,rfl,h.1,h.2⟩
 have ea:∀R,wA Φ G R (a::as)=fun ε Q=>wE Φ G R a ε fun x=>wA Φ G R as ε fun xs=>Q (x::xs):=fun R=>rfl
 refine⟨fun hX es k R=>?_,fun{S X} hX es k R=>?_,fun{S X} hX es pos hn k R=>?_,fun{S X} hX es pos hn k R=>?_,fun{S X} hX es pos hn k kt R=>?_,fun{S X} hX es pos hn k kt R=>?_⟩
 ·obtain⟨e,r,rfl,h1,h2⟩:=ec k
  rw[ea]
  exact Kd (aI (bw (.inl h1)) _ _) (ha.s hX h1 R) (hs.a hX r h2 R)
 ·rw[mq]at k
  cases es with
  |nil=>exact ff k
  |cons e r=>
   rw[xG,Bool.and_eq_true]at k
   rw[ea]
   exact Gk (aI (bw (jf k.1)) _ _) (ha.b hX k.1 R) (hs.b hX r k.2 R)
 ·obtain⟨e,r,rfl,h1,h2⟩:=ec k
  cases as with
  |nil=>
   have:r=[]:=by
    exact List.isEmpty_iff.mp h2
   subst this
   exact Fg (ha.s hX h1 R)
  |cons b bs=>
   cases r with
   |nil=>exact ff h2
   |cons e2 r=>exact OS (ha.s hX h1 R) (hs.av hX (e2::r) pos (by simp) h2 R)
 ·obtain⟨e,r,rfl,h1,h2⟩:=ec k
  cases as with
  |nil=>
   have:r=[]:=by
    exact List.isEmpty_iff.mp h2
   subst this
   exact Fg (ha.s hX h1 R)
  |cons b bs=>
   cases r with
   |nil=>exact ff h2
   |cons e2 r=>exact Um (ha.s hX h1 R) (hs.ov hX (e2::r) pos (by simp) h2 R)
 ·obtain⟨e,r,rfl,h1,h2⟩:=ec k
  have kt:=a2 kt
  cases as with
  |nil=>
   have:r=[]:=by
    exact List.isEmpty_iff.mp h2
   subst this
   exact Kc (ha.t hX e h1 kt.1 R)
  |cons b bs=>
   cases r with
   |nil=>exact ff h2
   |cons e2 r=>exact OU (ha.t hX e h1 kt.1 R) (hs.at hX (e2::r) pos (by simp) h2 kt.2 R)
 ·obtain⟨e,r,rfl,h1,h2⟩:=ec k
  have kt:=a2 kt
  cases as with
  |nil=>
   have:r=[]:=by
    exact List.isEmpty_iff.mp h2
   subst this
   exact OT (ha.t hX e h1 kt.1 R)
  |cons b bs=>
   cases r with
   |nil=>exact ff h2
   |cons e2 r=>exact Uo (ha.t hX e h1 kt.1 R) (hs.ot hX (e2::r) pos (by simp) h2 kt.2 R)
variable(Φ Ψ G)
mutual
theorem snd:∀c:CE,cS Φ Ψ G c
 |.var i=>PY i
 |.int i=>P1 i
 |.bl b=>UJ b
 |.str x=>P4 x
 |.aU=>P5
 |.BD n=>P6 n
 |.glob g=>KN g
 |.bin op a b=>P7 op (snd a) (snd b)
 |.neg a=>P9 (snd a)
 |.not a=>Qa (snd a)
 |.cmp op a b=>Qc op (snd a) (snd b)
 |.sA p q a b c=>KO p q (snd a) (snd b) (snd c)
 |.and as=>Qd (pG as).1
 |.or as=>UK (pG as).1
 |.ite c a b=>Qe (snd c) (snd a) (snd b)
 |.tup as=>Qg (pG as).1
 |.lst as=>Qh (pG as).1
 |.ix a i=>UM (snd a) (snd i)
 |.sl a lo hi=>UN (snd a) (snd lo) (snd hi)
 |.call f as=>KQ f (pG as).1
 |.blt b as=>Qi b (pG as).1 (pG as).2
 |.bits a=>KR (snd a)
 |.comp ts one n i c x=>KW ts one n (snd i) (snd c) (snd x)
 |.nO as=>Qn (pG as).2
 |.uL a=>Qo (snd a)
 |.rev a=>Qp (snd a)
 |.pop i=>Qm i
 |.own i π=>PZ i π
 |.Ai is a=>Qk is (snd a)
 |.JZ i g f as=>Ql i g f as
theorem pG:∀cs:List CE,sD Φ Ψ G cs/\∀c∈cs,cS Φ Ψ G c
 |[]=>⟨Qt,by simp⟩
 |c::cs=>⟨KY (snd c) (pG cs).1,fun d hd=>by
  rcases List.mem_cons.mp hd with e|h
  ·rw[e];exact snd c
  ·exact(pG cs).2 d h⟩
end
end
noncomputable def Sd(S:SE)(i:Nat)(x:Str):Bool:=S.N[i]?==some x&&(S.nk.lookup x==some .local||S.nk.lookup x==some .cell)
noncomputable def xO(S:SE):List Nat->List Str->Bool
 |[],xs=>xs.isEmpty
 |i::is,xs=>match xs with
  |x::r=>Sd S i x&&xO S is r
  |[]=>false
noncomputable def GD(S:SE)(ts:List Nat):Bool:=ts.all fun i=>!xy S.M i
noncomputable def SE.less(S:SE)(i:Nat):SE:={S with M:=S.M.filter (·.1 !=i)}
noncomputable def SE.BW(S:SE)(ts:List Nat):SE:={S with M:=S.M.filter fun x=>!ts.contains x.1}
def SE.bare(S:SE):SE:={S with M:=[]}
noncomputable def uZ:Expr->Bool
 |.Tuple _ _ _=>false
 |_=>true
noncomputable def BX:Expr->Bool
 |.ListComp _ _ _ _=>false
 |_=>true
noncomputable def Se(S:SE)(ts vs:List Expr):Option (Option (List Str)):=
 if !(ts.length==2||ts.length==3)||vs.length !=ts.length then some none
 else if vs.any fun|.Starred ..=>true|_=>false then some none
 else
  let line:=(ts.head?.map (·.pos.line)).getD 0
  let names:=ts.filterMap fun
   |.Name id pos=>if S.nk.lookup id==some .local&&pos.line==line then some id else none
   |_=>none
  if names.length !=ts.length||names.eraseDups.length !=names.length then some none
  else if vs.all (foldedForSure 8)then some none
  else if vs.all (constantsAlone 8)then none
  else some (some names)
noncomputable def Ej(f:List Expr->Expr->Bool):Stmt->Bool
 |.Assign ts v _=>f ts v
 |_=>false
noncomputable def Zp(f:Expr->List Stmt->List Stmt->Bool):Stmt->Bool
 |.While c a b _=>f c a b
 |_=>false
noncomputable def Zq(f:Expr->Expr->List Stmt->List Stmt->Bool):Stmt->Bool
 |.For t i a b _=>f t i a b
 |_=>false
noncomputable def Zr(f:Expr->Bool):Stmt->Bool
 |.Raise (some x) none _=>f x
 |_=>false
noncomputable def KZ(f:Expr->Bool):Stmt->Bool
 |.Expr v _=>f v
 |_=>false
noncomputable def GF(f:Str->Pos->Expr->Bool):Stmt->Bool:=Ej fun ts v=>o1 (XC fun x p=>f x p v) ts
noncomputable def BY(f:List Expr->Expr->Bool):Stmt->Bool:=Ej fun ts v=>o1 (Ar fun es=>f es v) ts
noncomputable def MQ(f:List Expr->List Expr->Bool):Stmt->Bool:=Ej fun ts v=>o1 (Ar fun es=>Ar (fun vs=>f es vs) v) ts
noncomputable def MR(f:Expr->Expr->Expr->Bool):Stmt->Bool:=Ej fun ts v=>o1 (Eg fun o k=>f o k v) ts
noncomputable def Qu(f:Expr->Str->Pos->Pos->Expr->Bool):Stmt->Bool:=KZ (tU fun g es k c=>k&&o1 (fun v=>Ef (fun o m a=>f o m a c v) g) es)
noncomputable def K0(n:Bool)(f:Expr->Bool):Stmt->Bool
 |.Return (some v) _=>f v
 |.Return none _=>n
 |_=>false
noncomputable def UO(f:Expr->List Stmt->List Stmt->Bool):Stmt->Bool
 |.If c a b _=>f c a b
 |_=>false
noncomputable def UP(f:Expr->List Stmt->Bool):Stmt->Bool:=Zp fun c a b=>b.isEmpty&&f c a
noncomputable def UQ(f:Expr->Expr->List Stmt->Bool):Stmt->Bool:=Zq fun t i a b=>b.isEmpty&&f t i a
noncomputable def XG:Stmt->Bool
 |.Break _=>true
 |_=>false
noncomputable def GG(f:Str->Expr->Bool):Stmt->Bool:=Zr (tU fun g es k _=>k&&o1 (fun e=>xC (fun x=>f x e) g) es)
noncomputable def Qv(f:Stmt->Bool)(g:List Stmt->Bool):List Stmt->Bool
 |e::es=>f e&&g es
 |[]=>false
mutual
noncomputable def Ek:Md->Md->Bool
 |.s,m=>KD m
 |.f,m=>R9 m
 |.t a,m=>match m with
  |.t b=>AA a b
  |_=>false
 |.o fs a,m=>match m with
  |.o gs b=>decide (fs=gs)&&AA a b
  |_=>false
 |.io a,m=>match m with
  |.io b=>Ek a b
  |_=>false
noncomputable def AA:List Md->List Md->Bool
 |[],l=>l.isEmpty
 |a::as,l=>match l with
  |b::bs=>Ek a b&&AA as bs
  |[]=>false
end
mutual
theorem u5:∀{a b:Md},Ek a b=true->a=b
 |.s,m,h=>by rw[Ek]at h;cases m<;>first|rfl|exact ff h
 |.f,m,h=>by rw[Ek]at h;cases m<;>first|rfl|exact ff h
 |.t a,m,h=>by
  cases m with
  |t b=>
   simp only[Ek]at h
   rw[u6 h]
  |_=>simp[Ek]at h
 |.o fs a,m,h=>by
  cases m with
  |o gs b=>
   simp only[Ek,Bool.and_eq_true]at h
   rw[of_decide_eq_true h.1,u6 h.2]
  |_=>simp[Ek]at h
 |.io a,m,h=>by
  cases m with
  |io b=>
   simp only[Ek]at h
   rw[u5 h]
  |_=>simp[Ek]at h
theorem u6:∀{a b:List Md},AA a b=true->a=b
 |[],l,h=>by
  cases l with
  |nil=>rfl
  |cons b bs=>simp[AA]at h
 |a::as,l,h=>by
  cases l with
  |nil=>simp[AA]at h
  |cons b bs=>
   simp only[AA,Bool.and_eq_true]at h
   rw[u5 h.1,u6 h.2]
end
noncomputable def hasB(M:Ms)(i:Nat)(m:Md):Bool:=match M.lookup i with
 |some k=>Ek k m
 |none=>false
theorem fF{M:Ms}{i:Nat}{m:Md}(h:hasB M i m=true):(i,m)∈M:=by
 unfold hasB at h
 cases e:M.lookup i with
 |none=>rw[e]at h;exact ff h
 |some k=>
  rw[e]at h
  rw[←u5 h]
  exact ju e
noncomputable def MS(f:Expr->Str->List Expr->Bool):Expr->Bool:=tU fun g es k c=>k&&Ef (fun o m a=>(a.endLine==c.line)&&decide (es.length<30)&&f o m es) g
mutual
noncomputable def mw(S:SE):CE->Expr->Bool
 |.pop i,e=>As (fun o m ap cp=>decide (m=("pop":Str))&&(ap.endLine==cp.line)&&Ed S.M i&&jk S i o) e
 |.JZ i g f as,e=>MS (fun o x es=>S.fn[f]?==some x&&S.mt.any (fun y=>y.1==f&&y.2==g)&&(match bH S.md f with
  |.io (.o fs ms)=>hasB S.M i (.o fs ms)&&!fs.contains x
  |_=>false)&&jk S i o&&tZ S as es) e
 |.bin op a b,e=>Gv (fun o l r=>decide (op=o)&&mw S a l&&mw S b r) e
 |.cmp op a b,e=>Gw (fun o l r=>decide (op=o)&&!decide (op=.In)&&!decide (op=.NotIn)&&mw S a l&&mw S b r) e
 |.call f as,e=>oM (fun x es=>S.fn[f]?==some x&&pF S x&&!es.isEmpty&&!kg (bH S.md f)&&!S.mt.any (·.1==f)&&tZ S as es) e
 |.blt b as,e=>oM (fun x es=>decide (x=UE b)&&pF S x&&S.zn.contains x&&Zo b es.length&&!decide (b=.zC)&&!decide (b=.list)&&!decide (b=.tuple)&&!es.isEmpty&&tZ S as es) e
 |.ix a b,e=>Eg (fun v s=>BR s&&mw S a v&&mw S b s) e
 |.and _,_=>false
 |c,e=>aG S false c e
noncomputable def tZ(S:SE):List CE->List Expr->Bool
 |[],es=>es.isEmpty
 |a::as,es=>xG (fun e=>mw S a e) (fun es=>tZ S as es) es
end
def Zs:Md->Bool
 |.s=>true
 |_=>false
noncomputable def UR(Ψ:Nat->Md):CE->Md
 |.tup as=>.t (as.map (mo Ψ))
 |.call f _=>Ψ f
 |c=>mo Ψ c
noncomputable def isVar:CE->Option Nat
 |.var i=>some i
 |_=>none
noncomputable def US(S:SE)(m:Md)(e:CE)(v:Expr):Bool:=match isVar e with
 |some i=>hasB S.M i m&&jk S i v
 |none=>false
noncomputable def UT(S:SE)(Ψ:Nat->Md)(m:Md)(e:CE)(v:Expr):Bool:=
 !kg m&&((Zs m&&aG S.bare false e v)||(Ek (UR Ψ e) m&&aG S.bare false e v)||US S m e v)
noncomputable def Qw(S:SE)(m:Md):Bool:=match m with
 |.io k=>hasB S.M 0 k
 |_=>false
noncomputable def MT(f:Expr->Str->Expr->Bool):Stmt->Bool:=Ej fun ts v=>o1 (Ef fun o x _=>f o x v) ts
noncomputable def oT(f:List Md->Bool):Md->Bool
 |.t ms=>f ms
 |_=>false
noncomputable def isCall:CE->Bool
 |.call _ _=>true
 |_=>false
noncomputable def Qx(S:SE)(i n:Nat)(x:Str):Bool:=match S.M.lookup i with
 |some (.o fs ms)=>fs[n]?==some x&&(match ms[n]? with
  |some k=>KD k
  |none=>false)
 |_=>false
noncomputable def Zt(S:SE)(ts:List Nat)(one uL:Bool)(fi:Expr->Bool)(fb:List Stmt->Bool)(tg it:Expr)(b:List Stmt):Bool:=
 match Sa tg with
 |some (o,xs)=>(one==o)&&xO S ts xs&&GD S ts&&Av it&&(!uL||!one)&&fi it&&fb b
 |none=>false
noncomputable def u7:Expr->Bool
 |.SetComp _ _ _ _=>false
 |.DictComp _ _ _ _ _=>false
 |_=>true
mutual
noncomputable def Qy(S:SE)(Ψ:Nat->Md)(m:Md):CS->Stmt->Bool
 |.set i e,st=>GF (fun x _ v=>Sd S i x&&(if xy S.M i=true then(!kg m||!(i==0))&&((Ed S.M i&&jl Ψ e)||(isCall e&&hasB S.M i (UR Ψ e)))&&aG (S.less i) false e v else aG S false e v)) st
 |.DV ts e,st=>BY (fun es v=>(match BS es with|some xs=>xO S ts xs|none=>false)&&GD S ts&&aG S false e v&&(uZ v||Ar (fun vs=>decide (Se S es vs=some none)) v)) st
 |.par ts es,st=>MQ (fun tg vs=>(match BS tg with|some xs=>xO S ts xs&&decide (Se S tg vs=some (some xs))&&decide xs.Nodup&&xs.all (fun x=>S.nk.lookup x==some .local)|none=>false)&&GD S ts&&gR S es vs) st
 |.app i e,st=>Qu (fun o mt ap cp v=>decide (mt=("append":Str))&&(ap.endLine==cp.line)&&Ed S.M i&&jk S i o&&aG S false e v) st
 |.put i k e,st=>MR (fun o j v=>Ed S.M i&&jk S i o&&BR j&&aG S false k j&&aG S false e v) st
 |.drop i,st=>KZ (fun v=>BX v&&u7 v&&mw S (.pop i) v) st
 |.Aj j e,st=>GF (fun x _ v=>Sd S j x&&!xy S.M j&&BX v&&u7 v&&mw S e v) st
 |.ret e,st=>K0 (ku e&&Zs m) (fun v=>UT S Ψ m e v) st
 |.iff c a b,st=>UO (fun t x y=>aG S false c t&&Gy c&&aN S Ψ m a x&&aN S Ψ m b y) st
 |.DW c b,st=>UP (fun t x=>aG S false c t&&Gy c&&aN S Ψ m b x) st
 |.fr ts one it b,st=>UQ (fun tg i x=>Zt S ts one (GA it) (fun i=>aG S true it i) (fun x=>aN S Ψ m b x) tg i x) st
 |.brk,st=>XG st
 |.raise g e,st=>GG (fun x v=>S.gn[g]?==some x&&pF S x&&aG S false e v) st
 |.R3 i π e,st=>Qu (fun o mt ap cp v=>decide (mt=("append":Str))&&(ap.endLine==cp.line)&&mj S R9 i π o&&aG S false e v) st
 |.DX i n e,st=>MT (fun o x v=>Qx S i n x&&jk S i o&&aG S false e v) st
 |.R4 e,st=>K0 (ku e&&Qw S m) (fun v=>Qw S m&&aG S false e v) st
 |.T8 e,st=>KZ (fun v=>BX v&&u7 v&&mw S e v) st
 |.T9 ts e,st=>BY (fun es v=>(match BS es with|some xs=>xO S ts xs|none=>false)&&decide ts.Nodup&&(!kg m||!ts.contains 0)&&isCall e&&(match UR Ψ e with|.t ms=>(ts.length==ms.length)&&(ts.zip ms).all (fun x=>hasB S.M x.1 x.2)|_=>false)&&aG (S.BW ts) false e v&&uZ v) st
 |.xj,_=>true
 |.Ub i j k,st=>K0 false (fun v=>Ar (fun es=>o3 (fun a b c=>oT (o3 fun m1 m2 m3=>jk S i a&&jk S j b&&jk S k c&&hasB S.M i m1&&hasB S.M j m2&&hasB S.M k m3&&decide (i≠j)&&decide (i≠k)&&decide (j≠k)) m) es) v) st
 |.Ua ts e,st=>BY (fun es v=>(match BS es with|some xs=>xO S ts xs|none=>false)&&GD S ts&&aG S false e v&&uZ v) st
noncomputable def aN(S:SE)(Ψ:Nat->Md)(m:Md):List CS->List Stmt->Bool
 |[],es=>es.isEmpty
 |a::as,es=>Qv (fun e=>Qy S Ψ m a e) (fun es=>aN S Ψ m as es) es
end
structure zE(S:SE)(Φ:Nat->b6)(Ψ:Nat->Md)(G:Nat->W)(X:Cx):Prop extends XOk S Φ Ψ G X where
 bk:X.env.blockKind=.function
 Sg:∀x,X.fn x=true
 AB:∀j x C,S.gn[j]?=some x->G j=.cls C->TM X.K C
 MU:∀i m m',(i,m)∈S.M->(i,m')∈S.M->m=m'
section
variable{S:SE}{Φ:Nat->b6}{Ψ:Nat->Md}{G:Nat->W}{X:Cx}
theorem zE.r9(h:zE S Φ Ψ G X):zE S Φ Ψ G X.r9:={toXOk:=h.toXOk.r9,bk:=h.bk,Sg:=h.Sg,AB:=h.AB,MU:=h.MU}
theorem XOk.Sh(h:XOk S Φ Ψ G X)(M:Ms):XOk {S with M:=M} Φ Ψ G X:=⟨h.hN,h.nd,h.calm,h.un,h.nk,h.fns,h.KJ,h.Jk,h.Jl,h.uV,h.kit⟩
theorem u9(h:zE S Φ Ψ G X){i:Nat}{x:Str}(k:Sd S i x=true):g6 X i x:=by
 unfold Sd at k
 simp only[Bool.and_eq_true,Bool.or_eq_true,beq_iff_eq]at k
 refine⟨by rw[h.hN];exact k.1,?_,.inl (h.Sg x)⟩
 unfold L2.Loc
 rw[h.nk]
 exact k.2
theorem iT(h:zE S Φ Ψ G X):∀{ts:List Nat} {xs:List Str},xO S ts xs=true->dw X ts xs
 |[],xs,k=>List.isEmpty_iff.mp k
 |i::is,[],k=>by cases k
 |i::is,x::r,k=>by
  rw[xO,Bool.and_eq_true]at k
  exact⟨x,r,rfl,u9 h k.1,iT h k.2⟩
theorem pU{ts:List Nat}(h:GD S ts=true):∀i∈ts,¬aQ S.M i:=fun i hi=>mh (by simpa using List.all_eq_true.mp h i hi)
theorem GH{i:Nat}{m:Md}(hi:(i,m)∈S.M)(hu:∀m',(i,m')∈S.M->m'=m){x:Nat×Md}:x∈S.M↔x=(i,m)\/x∈(S.less i).M:=by
 show _↔_\/x∈S.M.filter (·.1 !=i)
 rw[List.mem_filter,bne_iff_ne]
 obtain⟨a,b⟩:=x
 constructor
 ·intro h
  by_cases e:a=i
  ·subst e
   rw[hu b h]
   exact .inl rfl
  ·exact .inr ⟨h,e⟩
 ·rintro(e|h)
  ·cases e
   exact hi
  ·exact h.1
theorem GJ{i:Nat}:¬aQ (S.less i).M i:=by
 rintro⟨m,h⟩
 have h:(i,m)∈S.M.filter (·.1 !=i):=h
 rw[List.mem_filter,bne_iff_ne]at h
 exact h.2 rfl
noncomputable def BZ:Expr->Bool
 |.SetComp _ _ _ _=>false
 |.DictComp _ _ _ _ _=>false
 |_=>true
theorem Qz{it:Bool}{c:CE}{e:Expr}(h:aG S it c e=true):BZ e=true:=by
 cases e with
 |SetComp _ _ _ _=>
  cases c with
  |own i π=>
   rcases(fy h).2 with⟨_,_,_,e⟩|⟨_,_,_,_,_,e⟩<;>cases e
  |Ai is a=>exact ff h
  |_=>exact ff h
 |DictComp _ _ _ _ _=>
  cases c with
  |own i π=>
   rcases(fy h).2 with⟨_,_,_,e⟩|⟨_,_,_,_,_,e⟩<;>cases e
  |Ai is a=>exact ff h
  |_=>exact ff h
 |_=>rfl
noncomputable def XH(S:SE)(x:Str)(p:Pos):Expr->Bool
 |.ListComp _ _ scope q=>(S.nk.lookup x==some .local)&&(p.line==q.line)&&!(scope.names.any fun(n,k)=>n==x&&(k==.local||k==.cell))
 |_=>false
theorem UU(h:zE S Φ Ψ G X){e:Expr}(he:BZ e=true)(x:Str)(p:Pos)(l:Nat):swapsWith e (some (.Name x p)) l X.env=pure (XH S x p e):=by
 cases e with
 |ListComp a b scope q=>
  show(pure _:Sem Bool)=pure _
  rw[h.bk]
  show(pure (true&&(X.env.scope.names.lookup x==some .local)&&(p.line==q.line)&&_):Sem Bool)=_
  rw[h.nk,Bool.true_and]
  rfl
 |SetComp _ _ _ _=>exact ff he
 |DictComp _ _ _ _ _=>exact ff he
 |_=>rfl
theorem vd{e:Expr}{es:List Expr}{k:Nat}{p:Pos}(l:Nat)(env:Env):swapsWithSole [.Tuple es k p] e l env=pure false:=by
 cases e<;>rfl
theorem GK{e o i:Expr}{p:Pos}(l:Nat)(env:Env):swapsWithSole [.Subscript o i p] e l env=pure false:=by
 cases e<;>rfl
theorem ve{e:Expr}(he:uZ e=true)(es:List Expr)(k:Nat)(p:Pos)(env:Env):swappedStores [.Tuple es k p] e env=pure none:=by
 cases e<;>first|rfl|exact ff he
theorem GL{e o i:Expr}{p:Pos}(env:Env):swappedStores [.Subscript o i p] e env=pure none:=by
 cases e<;>rfl
theorem GN(h:zE S Φ Ψ G X){ts vs:List Expr}{k k2:Nat}{p p2:Pos}{o:Option (List Str)}(e:Se S ts vs=some o):swappedStores [.Tuple ts k p] (.Tuple vs k2 p2) X.env=pure o:=by
 unfold swappedStores
 unfold Se at e
 have hk:∀x,X.env.kindOf x=S.nk.lookup x:=fun x=>h.nk x
 simp only[hk,h.bk,bne_self_eq_false,Bool.or_false]
 dsimp only at e
 split at e
 ·rename_i c
  cases e
  exact if_pos c
 rename_i c1
 refine(if_neg c1).trans ?_
 split at e
 ·rename_i c
  cases e
  exact if_pos c
 rename_i c2
 refine(if_neg c2).trans ?_
 split at e
 ·rename_i c
  cases e
  exact if_pos c
 rename_i c3
 refine(if_neg c3).trans ?_
 split at e
 ·rename_i c
  cases e
  exact if_pos c
 rename_i c4
 refine(if_neg c4).trans ?_
 split at e
 ·cases e
 rename_i c5
 cases e
 exact if_neg c5
end
theorem jv{f:List Expr->Expr->Bool}{e:Stmt}(h:Ej f e=true):∃ts v q,e=.Assign ts v q/\f ts v=true:=by cases e<;>first|exact⟨_,_,_,rfl,h⟩|exact ff h
theorem K1{f:Expr->List Stmt->List Stmt->Bool}{e:Stmt}(h:Zp f e=true):∃c a b q,e=.While c a b q/\f c a b=true:=by cases e<;>first|exact⟨_,_,_,_,rfl,h⟩|exact ff h
theorem K2{f:Expr->Expr->List Stmt->List Stmt->Bool}{e:Stmt}(h:Zq f e=true):∃t i a b q,e=.For t i a b q/\f t i a b=true:=by cases e<;>first|exact⟨_,_,_,_,_,rfl,h⟩|exact ff h
theorem K3{f:Expr->Bool}{e:Stmt}(h:Zr f e=true):∃x q,e=.Raise (some x) none q/\f x=true:=by
 cases e<;>try exact ff h
 rename_i x y q
 cases x<;>cases y<;>first|exact⟨_,_,rfl,h⟩|exact ff h
theorem qI{f:Expr->Bool}{st:Stmt}(h:KZ f st=true):∃v q,st=.Expr v q/\f v=true:=by cases st<;>first|exact⟨_,_,rfl,h⟩|exact ff h
theorem t6{f:Str->Pos->Expr->Bool}{st:Stmt}(h:GF f st=true):∃x p v q,st=.Assign [.Name x p] v q/\f x p v=true:=by
 obtain⟨ts,v,q,rfl,h1⟩:=jv h
 obtain⟨t,rfl,h2⟩:=fZ h1
 obtain⟨x,p,rfl,h3⟩:=BP h2
 exact⟨_,_,_,_,rfl,h3⟩
theorem oi{f:List Expr->Expr->Bool}{st:Stmt}(h:BY f st=true):∃es k p v q,st=.Assign [.Tuple es k p] v q/\f es v=true:=by
 obtain⟨ts,v,q,rfl,h1⟩:=jv h
 obtain⟨t,rfl,h2⟩:=fZ h1
 obtain⟨es,k,p,rfl,h3⟩:=fL h2
 exact⟨_,_,_,_,_,rfl,h3⟩
theorem El{f:List Expr->List Expr->Bool}{st:Stmt}(h:MQ f st=true):∃es k p vs k' p' q,st=.Assign [.Tuple es k p] (.Tuple vs k' p') q/\f es vs=true:=by
 obtain⟨ts,v,q,rfl,h1⟩:=jv h
 obtain⟨t,rfl,h2⟩:=fZ h1
 obtain⟨es,k,p,rfl,h3⟩:=fL h2
 obtain⟨vs,k',p',rfl,h4⟩:=fL h3
 exact⟨_,_,_,_,_,_,_,rfl,h4⟩
theorem Em{f:Expr->Expr->Expr->Bool}{st:Stmt}(h:MR f st=true):∃o k p v q,st=.Assign [.Subscript o k p] v q/\f o k v=true:=by
 obtain⟨ts,v,q,rfl,h1⟩:=jv h
 obtain⟨t,rfl,h2⟩:=fZ h1
 obtain⟨o,k,p,rfl,h3⟩:=gA h2
 exact⟨_,_,_,_,_,rfl,h3⟩
theorem xP{f:Expr->Str->Pos->Pos->Expr->Bool}{st:Stmt}(h:Qu f st=true):∃o m ap v cp q,st=.Expr (.Call (.Attribute o m ap) [v] [] cp) q/\f o m ap cp v=true:=by
 obtain⟨v,q,rfl,h1⟩:=qI h
 obtain⟨g,es,ks,p,rfl,h2⟩:=iA h1
 obtain⟨k,h3⟩:=a2 h2
 obtain⟨e,rfl,h4⟩:=fZ h3
 obtain⟨o,m,a,rfl,h5⟩:=iB h4
 rw[List.isEmpty_iff.mp k]
 exact⟨_,_,_,_,_,_,rfl,h5⟩
theorem qJ{n:Bool}{f:Expr->Bool}{st:Stmt}(h:K0 n f st=true):(∃v q,st=.Return (some v) q/\f v=true)\/∃q,st=.Return none q/\n=true:=by
 cases st<;>try exact ff h
 rename_i v q
 cases v
 ·exact .inr ⟨_,rfl,h⟩
 ·exact .inl ⟨_,_,rfl,h⟩
theorem GO{f:Expr->List Stmt->List Stmt->Bool}{st:Stmt}(h:UO f st=true):∃c a b q,st=.If c a b q/\f c a b=true:=by
 cases st<;>try exact ff h
 exact⟨_,_,_,_,rfl,h⟩
theorem GQ{f:Expr->List Stmt->Bool}{st:Stmt}(h:UP f st=true):∃c a q,st=.While c a [] q/\f c a=true:=by
 obtain⟨c,a,b,q,rfl,h1⟩:=K1 h
 obtain⟨k,h2⟩:=a2 h1
 rw[List.isEmpty_iff.mp k]
 exact⟨_,_,_,rfl,h2⟩
theorem GR{f:Expr->Expr->List Stmt->Bool}{st:Stmt}(h:UQ f st=true):∃tg it a q,st=.For tg it a [] q/\f tg it a=true:=by
 obtain⟨t,i,a,b,q,rfl,h1⟩:=K2 h
 obtain⟨k,h2⟩:=a2 h1
 rw[List.isEmpty_iff.mp k]
 exact⟨_,_,_,_,rfl,h2⟩
theorem AD{f:Str->Expr->Bool}{st:Stmt}(h:GG f st=true):∃x np e cp q,st=.Raise (some (.Call (.Name x np) [e] [] cp)) none q/\f x e=true:=by
 obtain⟨x,q,rfl,h1⟩:=K3 h
 obtain⟨g,es,ks,p,rfl,h2⟩:=iA h1
 obtain⟨k,h3⟩:=a2 h2
 obtain⟨e,rfl,h4⟩:=fZ h3
 obtain⟨y,np,rfl,h5⟩:=fq h4
 rw[List.isEmpty_iff.mp k]
 exact⟨_,_,_,_,_,rfl,h5⟩
section
variable{X:Cx}{M:Ms}{m:Md}{st:Stmt}{i j k:Nat}{e:Expr}{te:(Addr->Prop)->WT}{M':Ms}{m0:Md}
theorem K4{x y z:Str}{a b c:Expr}{ta:TA}{px py pz pt pos:Pos}{kt k2 RV}(hc:X.calm=true)(hN:X.N.Nodup)(hi:X.N[i]?=some x)(hj:X.N[j]?=some y)(hk:X.N[k]?=some z)(hij:i≠j)(hik:i≠k)(hjk:j≠k)
 (hx:X.env.scope.names.lookup x=some .local) (hy:X.env.scope.names.lookup y=some .local) (hz:X.env.scope.names.lookup z=some .local) (ha:PA X [a,b,c] ta)
 (hw:swappedStores [.Tuple [.Name x px,.Name y py,.Name z pz] kt pt] (.Tuple [a,b,c] k2 RV) X.env=pure (some [x,y,z])):
 PS X (.Assign [.Tuple [.Name x px,.Name y py,.Name z pz] kt pt] (.Tuple [a,b,c] k2 RV) pos) (fun D σ H=>ta σ H fun vs H1=>∃v w u,vs=[v,w,u]/\D.nx (((σ.set i (some v)).set j (some w)).set k (some u)) H1):=by
 intro pins s σ H D I h
 rw[exec_Assign_arm]
 refine wpAny_bind (wpAny_standAt ?_)
 refine wpAny_bind (wpAny_pure ?_)
 rw[if_neg (by decide)]
 refine wpAny_bind (Tuple_ (bK (ha _ pins s σ H _ I h) fun us s1 ⟨vs,H1,I1,r1,q1⟩=>?_))
 obtain⟨v,w,u,e1,q1⟩:=q1
 subst e1
 obtain⟨u1,u2,u3,rfl,rv,rw',ru⟩:∃u1 u2 u3,us=[u1,u2,u3]/\RelV v u1/\RelV w u2/\RelV u u3:=by
  cases r1 with
  |cons p q=>
   cases q with
   |cons p' q'=>
    cases q' with
    |cons p'' q''=>
     cases q''
     exact⟨_,_,_,rfl,p,p',p''⟩
 refine wpAny_newObj_type ?_ (by show 3<=sizeLine;decide)
 have I2:Inv X pins σ H1 {s1 with heap:=s1.heap.push {cls:=.type "tuple",data:=.seq [u1,u2,u3].toArray}}:=I1.kept (t':=s1.toks) fun b o e=>Heap.get?_push_of_some _ e
 rw[hw]
 refine wpAny_bind (wpAny_pure ?_)
 show wpAny (model X.prog X.w) X.A (do rule "assign.swapped-stores";let items←unpackItems (.ref s1.heap.objs.size) 3 none;assignInOrder [fun v=>bindName X.env z v,fun v=>bindName X.env y v,fun v=>bindName X.env x v] items.reverse;pure Flow.next) _ _ _
 refine wpAny_bind (wpAny_rule (wpAny_bind (unpackItems_tuple (items:= #[u1,u2,u3]) (I.ok.hd hc) (IsTup.new s1.heap _) fun h' hx'=>?_)))
 have I3:=I2.kept (h':=h') (t':=s1.toks) fun b o e=>hx' b o (Nat.ne_of_lt (Heap.lt_size e)) e
 show wpAny _ _ (assignInOrder [fun v=>bindName X.env z v,fun v=>bindName X.env y v,fun v=>bindName X.env x v] [u3,u2,u1]>>=fun _=>pure Flow.next) _ _ _
 refine wpAny_bind (assignInOrder_cons (wpAny_bindName (gv I3 hN hk (.inl hz) ru (fun s2 I4=>?_) (.inr hz))))
 refine assignInOrder_cons (wpAny_bindName (gv I4 hN hj (.inl hy) rw' (fun s3 I5=>?_) (.inr hy)))
 refine assignInOrder_cons (wpAny_bindName (gv I5 hN hi (.inl hx) rv (fun s4 I6=>assignInOrder_nil (wpAny_pure ?_)) (.inr hx)))
 have e6:((σ.set k (some u)).set j (some w)).set i (some v)=((σ.set i (some v)).set j (some w)).set k (some u):=by
  rw[List.set_comm _ _ (Ne.symm hjk),List.set_comm _ _ (Ne.symm hik),List.set_comm _ _ (Ne.symm hij)]
 rw[e6]at I6
 exact⟨_,H1,I6,q1⟩
theorem K5(hps:∀R,PS X st (o9 (tV X M R (Ge X.K .s) (te R)) (jc i)))(hi:¬aQ M i):VS X M m st (fun d ε=>te d.ex ε fun w=>d.nx (ε.set i (some w))):=by
 rintro pins s σ H D I ⟨A,H0,ε,d,S,er,hz,h,k⟩
 refine hps d.ex pins s σ H D I ⟨A,H0,ε,_,S,er,h,fun w v H1 hw s1 r=>?_⟩
 exact k.nx A _ _ H1 rfl rfl hw ((S.same s1).set hi r.bE)
theorem GS(hps:∀R,PS X st (o9 (tV X M' R (Ge X.K m0) (te R)) (jc i)))(hM:∀x,x∈M↔x=(i,m0)\/x∈M')(hi:¬aQ M' i)(hio:kg m=true->i≠0):VS X M m st (fun d ε=>te d.ex ε fun w=>d.nx (ε.set i (some w))):=by
 rintro pins s σ H D I ⟨A,H0,ε,d,S,er,hz,h,k⟩
 have h0:∀v,A.s0=some v->A.s0=some v/\aQ M' 0:=fun v e=>by
  refine⟨e,?_⟩
  have ho:kg m=true:=by rw[←hz,e];rfl
  obtain⟨m1,h1⟩:=(S.sl v e).2
  rcases(hM _).mp h1 with z|z
  ·cases z
   exact(hio ho rfl).elim
  ·exact⟨m1,z⟩
 obtain⟨A1,ea,eb,hb,S'⟩:=S.sub (M':=M') (fun x hx=>(hM x).mpr (.inr hx)) A.s0 h0
 refine hps d.ex pins s σ H D I ⟨A1,H0,ε,_,S',er,h,fun w v H1 hw s1 r=>?_⟩
 obtain⟨A2,ea2,eb2,_,S2⟩:=S'.own hM hi s1 r
 exact k.nx A2 _ _ H1 (ea2.trans ea) (eb2.trans eb) hw S2
theorem K6{pos:Pos}:VS X M .s (.Return none pos) (fun d ε=>d.rt .aU):=by
 rintro pins s σ H D I ⟨A,H0,ε,d,S,er,hz,h,k⟩
 exact Bv pins s σ H D I (k.rt _ _ H h S.sm (.of rfl (.of (by rw[Rep]))))
theorem GU{x:Str}{C:Addr}{np cpos pos:Pos}(hc:X.calm=true)(hg:Gl X x)(hm:X.mg x=some (.ref C))(q:TM X.K C)(he:∀R,VE X M R .s e (te R))(hs:starEach [e] X.env=[(false,eval e X.env)])(hd:(x==("__debug__":Str))=false):
 VS X M m (.Raise (some (.Call (.Name x np) [e] [] cpos)) none pos) (fun d ε=>te d.ex ε fun _=>d.ex C):=by
 rintro pins s σ H D I ⟨A,H0,ε,d,S,⟨E,pE,hE,hR⟩,hz,h,k⟩
 exact F5 hR hc hg hm q (bC (he d.ex) dD hs) hs hd pins s σ H D I ⟨A,H0,ε,_,S,⟨E,pE,hE,hR⟩,h,fun w v H1 hw s1 r=>⟨by show 1<=sizeLine;decide,hw,S.sm.trans s1⟩⟩
end
theorem En{f:Expr->Str->List Expr->Bool}{e:Expr}(h:MS f e=true):∃o m a es c,e=.Call (.Attribute o m a) es [] c/\f o m es=true/\(a.endLine==c.line)=true/\es.length<30:=by
 obtain⟨g,es,ks,p,rfl,h1⟩:=iA h
 obtain⟨k,h2⟩:=a2 h1
 obtain⟨o,m,a,rfl,h3⟩:=iB h2
 rw[List.isEmpty_iff.mp k]
 have h4:=a3 h3
 exact⟨_,_,_,_,_,rfl,h4.2,h4.1.1,of_decide_eq_true h4.1.2⟩
theorem t7{y x:Str}{py apos pos:Pos}{es:List Expr}{env:Env}(hst:(backTo pos (starEach es env)).any (·.1)=false)(hlen:es.length<30)(hline:(apos.endLine==pos.line)=true):
 eval (.Call (.Attribute (.Name y py) x apos) es [] pos) env=(do
  let ov←eval (.Name y py) env
  standAt apos.atName
  let(f,first)←holding [ov] (getMethod ov x (do return (←importBound (.Name y py) env).getD true))
  callWith pos f first (backTo pos (starEach es env)) (backToKw pos (keywordEach [] env))):=by
 have UW:methodCallForm (es.length+([]:List Keyword).length) (backTo pos (starEach es env)) (backToKw pos (keywordEach [] env))=true:=by
  unfold methodCallForm
  have e1:(backTo pos (starEach es env)).all (fun x=>!x.1)=true:=by
   rw[List.all_eq_true]
   intro z hz
   rw[List.any_eq_false]at hst
   simpa using hst z hz
  rw[e1]
  show(true&&true&&decide (es.length+0+0<30))=true
  simpa using hlen
 have hpos:methodCallPos true (.Name y py) env apos pos=pure pos:=by unfold methodCallPos;simp[hline]
 rw[arm_eval_Call,show attributeBase (.Name y py) x env (eval (.Name y py) env)=eval (.Name y py) env from rfl]
 unfold methodCall
 rw[UW,hpos]
 rfl
theorem Eo{f:Expr->Str->Expr->Bool}{st:Stmt}(h:MT f st=true):∃o x p v q,st=.Assign [.Attribute o x p] v q/\f o x v=true:=by
 obtain⟨ts,v,q,rfl,h1⟩:=jv h
 obtain⟨t,rfl,h2⟩:=fZ h1
 obtain⟨o,x,p,rfl,h3⟩:=iB h2
 exact⟨_,_,_,_,_,rfl,h3⟩
noncomputable def GV(X:Cx)(M:Ms)(R:Addr->Prop)(ms:List Md)(t:Ev->(List W->Prop)->Prop):TA:=fun σ H Q=>∃A H0 ε P,SR X.K M A H0 σ H ε/\ER X H0 R/\t ε P/\∀ws vs H' F,P ws->ay H H'->F.Nodup->(∀p∈F,H p=none)->cX X.K (fun q=>A.B q\/q∈F) H' ms ws vs F->Q vs H'
section
variable{X:Cx}{M:Ms}{R:Addr->Prop}{a:Expr}{es:List Expr}{ta:WT}{m:Md}{ms:List Md}{pos:Pos}
theorem K7:PA X [] (GV X M R [] fun _ Q=>Q []):=PA.imp dD<|by rintro σ H Q ⟨A,H0,ε,P,S,er,h,k⟩;exact k [] [] H [] h (ay.refl H) List.nodup_nil (by simp) (by rw[cX];exact⟨rfl,rfl,rfl⟩)
theorem GW{tr:Ev->(List W->Prop)->Prop}(hs:starEach (a::es) X.env=(false,eval a X.env)::starEach es X.env)(ha:VE X M R m a ta)(hr:PA X es (GV X M R ms tr)):PA X (a::es) (GV X M R (m::ms) fun ε Q=>ta ε fun x=>tr ε fun xs=>Q (x::xs)):=
 PA.imp (bC ha hr hs)<|by
  rintro σ H Q ⟨A,H0,ε,P,S,er,h,k⟩
  refine⟨A,H0,ε,_,S,er,h,fun x vx H1 hx s1 rx=>?_⟩
  obtain⟨G,nd,nw,fp⟩:=rx
  have hex:∀q∈G,∃o,H1 q=some o:=fun q hq=>let⟨o,e,_⟩:=Fp.mu m fp q hq;⟨o,e⟩
  refine⟨_,H0,ε,_,S.more s1 nw hex,er,hx,fun xs vs H2 F hxs s2 nd2 XI Xx=>?_⟩
  refine k _ _ H2 (G++F) hxs (s1.trans s2) ?_ (fun p hp=>?_) ?_
  ·refine List.nodup_append.mpr ⟨nd,nd2,fun p hp q hq e=>?_⟩
   subst e
   obtain⟨o,e⟩:=hex p hp
   rw[XI p hq]at e
   cases e
  ·rcases List.mem_append.mp hp with hp|hp
   ·exact nw p hp
   ·exact s1.free (XI p hp)
  ·rw[cX]
   refine⟨x,xs,vx,vs,G,F,rfl,rfl,rfl,Fp.mv s2 (fun p o e z=>?_) m fp,cX.mv (ay.refl _) (fun p o e z=>?_) ms Xx⟩
   ·rcases z with z|z
    ·exact .inl z
    ·rcases List.mem_append.mp z with z|z
     ·exact .inr z
     ·rw[XI p z]at e
      cases e
   ·rcases z with z|z
    ·exact .inl (.inl z)
    ·rcases List.mem_append.mp z with z|z
     ·exact .inl (.inr z)
     ·exact .inr z
theorem K8{ts:Ev->(List W->Prop)->Prop}{x1:Nat}(h:PA X es (GV X M R ms ts)):VE X M R (.t ms) (.Tuple es x1 pos) (fun ε Q=>ts ε fun ws=>ws.length<=sizeLine/\Q (.tup ws)):=PE.imp (z4 h)<|by
 rintro σ H Q ⟨A,H0,ε,P,S,er,h,k⟩
 refine⟨A,H0,ε,_,S,er,h,fun ws vs H1 F hx s1 nd nw fp=>?_⟩
 have hl:∀(ms:List Md) {ws:List W} {vs:List V} {F:List Addr} {B:Addr->Prop},cX X.K B H1 ms ws vs F->vs.length=ws.length:=fun ms=>by
  induction ms with
  |nil=>
   intro ws vs F B h
   rw[cX]at h
   rw[h.1,h.2.1]
   rfl
  |cons m ms ih=>
   intro ws vs F B h
   rw[cX]at h
   obtain⟨w,nQ,v,vs',F1,F2,rfl,rfl,_,_,h2⟩:=h
   rw[List.length_cons,List.length_cons,ih h2]
 refine⟨by rw[hl ms fp];exact hx.1,fun p hp=>?_⟩
 have sn:=aZ hp (.tup vs)
 refine k _ _ _ hx.2 (s1.trans sn) ⟨F,nd,nw,?_⟩
 rw[Fp]
 exact⟨ws,p,vs,rfl,rfl,aD,cX.mv sn (fun _ _ _ z=>z) ms fp⟩
end
noncomputable def gB(Φ:Nat->b6)(Ψ:Nat->Md)(G:Nat->W)(s:CS):Prop:=∀{S:SE} {X:Cx} {m:Md},zE S Φ Ψ G X->∀st,Qy S Ψ m s st=true->VS X S.M m st (wS Φ G s)
noncomputable def oO(Φ:Nat->b6)(Ψ:Nat->Md)(G:Nat->W)(s:List CS):Prop:=∀{S:SE} {X:Cx} {m:Md},zE S Φ Ψ G X->∀st,aN S Ψ m s st=true->Kq X S.M m st (wSs Φ G s)
section
variable{Φ:Nat->b6}{Ψ:Nat->Md}{G:Nat->W}
theorem zE.Sh{S:SE}{X:Cx}(h:zE S Φ Ψ G X)(M:Ms)(un:∀i m m',(i,m)∈M->(i,m')∈M->m=m'):zE {S with M:=M} Φ Ψ G X:={toXOk:=h.toXOk.Sh M,bk:=h.bk,Sg:=h.Sg,AB:=h.AB,MU:=un}
theorem AE{S:SE}{X:Cx}(hX:XOk S Φ Ψ G X){f:Nat}{as:List CE}{v:Expr}(k:aG S false (.call f as) v=true)(R:Addr->Prop):VE X S.M R (Ψ f) v (wE Φ G R (.call f as))/\∃g es p,v=.Call g es [] p:=by
 obtain⟨x,q,es,p,rfl,kk⟩:=aV k
 simp only[Bool.and_eq_true]at kk
 obtain⟨⟨⟨⟨⟨k1,k2⟩,k3⟩,k5⟩,k6⟩,k4⟩:=kk
 obtain⟨g1,g2,g3⟩:=cJ hX k2
 obtain⟨fv,n,kl,hm,F,hr,hn⟩:=hX.fns f x (beq_iff_eq.mp k1) (by simpa using k6)
 have F:gi X.prog X.w X.K X.mg X.base kl fv n (MI X.K n (Ψ f) (Φ f)):=by
  rw[←hX.Jk]at k5
  cases hp:Ψ f<;>rw[hp]at k5 F<;>first|exact F|exact ff k5
 have st:=oh k4
 cases es with
 |nil=>exact ff k3
 |cons e es=>
  rw[List.all_cons,Bool.and_eq_true]at st
  refine⟨?_,_,_,_,rfl⟩
  exact BK (M:=S.M) (R:=R) (p:=q) (pos:=p) F hr g1 hm hn ((pG Φ Ψ G as).1.a hX _ k4 R) g2 (aI st.1 _ _) (cK st.2 _ _)
theorem GX{S:SE}{X:Cx}(hX:XOk S Φ Ψ G X):∀(as:List CE) (es:List Expr),gR S as es=true->∀R,PA X es (GV X S.M R (as.map (mo Ψ)) (wA Φ G R as))
 |[],es,k,R=>by
  rw[List.isEmpty_iff.mp k]
  exact K7
 |a::as,[],k,R=>by cases k
 |a::as,e::es,k,R=>by
  have k:=a2 k
  exact GW (aI (bw (.inl k.1)) _ _) ((snd Φ Ψ G a).e hX e k.1 R) (GX hX as es k.2 R)
theorem QA{S:SE}{X:Cx}(hX:XOk S Φ Ψ G X){e:CE}{v:Expr}(k:aG S false e v=true)(R:Addr->Prop):VE X S.M R (UR Ψ e) v (wE Φ G R e):=by
 cases e with
 |tup as=>
  obtain⟨es,kd,p,rfl,k⟩:=fL k
  exact K8 (GX hX as es k R)
 |call f as=>exact(AE hX k R).1
 |_=>exact(snd Φ Ψ G _).e hX v k R
theorem qK{e:CE}(h:isCall e=true):∃f as,e=.call f as:=by cases e<;>first|exact⟨_,_,rfl⟩|exact ff h
theorem t8{e:CE}(h:ku e=true):e=.aU:=by cases e<;>first|rfl|exact ff h
theorem Ep{e:CE}{i:Nat}(h:isVar e=some i):e=.var i:=by cases e<;>first|(cases h;rfl)|exact nn h
theorem K9{S:SE}{x:Str}{p:Pos}{v:Expr}(h:XH S x p v=true):∃a b c d,v=.ListComp a b c d:=by cases v<;>first|exact⟨_,_,_,_,rfl⟩|exact ff h
theorem QB{S:SE}{e:CE}{a:Expr}{b:List Comprehension}{c:Scope}{d:Pos}(k:aG S false e (.ListComp a b c d)=true):∃ts one n i c x,e=.comp ts one n i c x:=by
 cases e with
 |comp ts one n i c x=>exact⟨_,_,_,_,_,_,rfl⟩
 |own i π=>rcases(fy k).2 with⟨_,_,_,e⟩|⟨_,_,_,_,_,e⟩<;>cases e
 |_=>exact ff k
theorem B0{S:SE}{X:Cx}(hX:zE S Φ Ψ G X){i:Nat}{x:Str}{p q:Pos}{e:CE}{v:Expr}(hn:Sd S i x=true)(k:aG S false e v=true)(R:Addr->Prop):
 PS X (.Assign [.Name x p] v q) (o9 (tV X S.M R (Ge X.K (mo Ψ e)) (wE Φ G R e)) (jc i)):=by
 have n:=u9 hX hn
 have hsw:=UU hX (Qz k) x p q.line
 cases hb:XH S x p v with
 |false=>
  rw[hb]at hsw
  exact zI hX.nd n.1 n.2.1 ((snd Φ Ψ G e).e hX.toXOk v k R) hsw n.2.2
 |true=>
  rw[hb]at hsw
  obtain⟨elt,gs,scope,pp,rfl⟩:=K9 hb
  obtain⟨ts,one,n',it,c,y,rfl⟩:=QB k
  obtain⟨elt',tg,iter,ifs,scope',p',xs,e1,rfl,hlt,ho,hfs,TX,hr⟩:=qH (snd Φ Ψ G it) (snd Φ Ψ G c) (snd Φ Ψ G y) hX.toXOk k R
  cases e1
  rw[lC rfl,BV]
  intro pins s σ H D I hw
  obtain⟨q1,q2,q3⟩:=hr pins s σ H I
  exact JV xs (mask xs S.N) hX.nd n.1 n.2.1 hX.calm ho TX q1 q2 q3 hsw hfs n.2.2 pins s σ H D I (xx hlt σ H _ hw)
theorem QC(i:Nat)(e:CE):gB Φ Ψ G (.set i e):=by
 intro S X m hX st k
 obtain⟨x,p,v,q,rfl,kk⟩:=t6 k
 rw[Bool.and_eq_true]at kk
 by_cases hM:xy S.M i=true
 ·rw[if_pos hM]at kk
  simp only[Bool.and_eq_true]at kk
  obtain⟨k0,⟨k1,k2⟩,k3⟩:=kk
  have hio:kg m=true->i≠0:=fun z e=>by
   rw[z,e]at k1
   cases k1
  have go:∀{m0:Md},(i,m0)∈S.M->(∀R,PS X (.Assign [.Name x p] v q) (o9 (tV X (S.less i).M R (Ge X.K m0) (wE Φ G R e)) (jc i)))->VS X S.M m (.Assign [.Name x p] v q) (fun D ε=>wE Φ G D.ex e ε fun w=>D.nx (ε.set i (some w))):=fun{m0} hm hp=>
   GS (M':=(S.less i).M) (te:=fun R=>wE Φ G R e) hp (fun j=>GH hm (fun m' h'=>hX.MU i _ _ h' hm)) GJ hio
  have hL:zE (S.less i) Φ Ψ G X:=hX.Sh (S.less i).M fun a b c h1 h2=>hX.MU a b c (List.mem_filter.mp h1).1 (List.mem_filter.mp h2).1
  rcases jf k2 with k2|k2
  ·rw[Bool.and_eq_true]at k2
   refine go (pQ k2.1) fun R=>?_
   have:=B0 hL (p:=p) (q:=q) k0 k3 R
   rw[lC k2.2]at this
   exact this
  ·rw[Bool.and_eq_true]at k2
   refine go (fF k2.2) fun R=>?_
   obtain⟨f,as,rfl⟩:=qK k2.1
   obtain⟨h1,g,es,pp,rfl⟩:=AE hL.toXOk k3 R
   have n:=u9 hX k0
   exact zI hX.nd n.1 n.2.1 h1 rfl n.2.2
 ·rw[if_neg hM]at kk
  refine K5 (te:=fun R=>wE Φ G R e) (fun R=>?_) (mh (by simpa using hM))
  refine PS.imp (B0 hX (p:=p) (q:=q) kk.1 kk.2 R)<|by rintro D σ H ⟨A,H0,ε,P,S,er,p,k⟩;exact⟨A,H0,ε,P,S,er,p,fun w v H' pw s r=>k w v H' pw s (r.s S.dom)⟩
theorem QD(ts:List Nat)(e:CE):gB Φ Ψ G (.DV ts e):=by
 intro S X m hX st k
 obtain⟨es,kd,p,v,q,rfl,kk⟩:=oi k
 simp only[Bool.and_eq_true]at kk
 obtain⟨⟨⟨k1,k2⟩,k3⟩,k4⟩:=kk
 split at k1
 rotate_left
 ·cases k1
 rename_i xs hxs
 have hg:PG X (.Tuple es kd p) (gT X.K false ts):=KU hX.calm hX.nd (by rw[Sa,hxs];rfl) (iT hX k1)
 have hst:swappedStores [.Tuple es kd p] v X.env=pure none:=by
  rcases jf k4 with k4|k4
  ·exact ve k4 _ _ _ _
  ·obtain⟨vs,k2,p2,rfl,k5⟩:=fL k4
   exact GN hX (of_decide_eq_true k5)
 exact Pa (te:=fun R=>wE Φ G R e) (fun{tv} hv=>uD hv hg (vd _ _) hst rfl) (pU k2) fun R=>(snd Φ Ψ G e).s hX.toXOk k3 R
theorem qL{X:Cx}{ts:List Nat}{x:Str}{xs:List Str}(h:dw X ts (x::xs)):∃i r,ts=i::r/\g6 X i x/\dw X r xs:=by
 cases ts with
 |nil=>cases h
 |cons i r=>
  obtain⟨_,_,e,h1,h2⟩:=h
  cases e
  exact⟨i,r,rfl,h1,h2⟩
theorem La{X:Cx}{ts:List Nat}(h:dw X ts []):ts=[]:=by
 cases ts with
 |nil=>rfl
 |cons i r=>
  obtain⟨_,_,e,_⟩:=h
  cases e
theorem B3{X:Cx}{ts:List Nat}{x y:Str}(h:dw X ts [x,y]):∃i j,ts=[i,j]/\g6 X i x/\g6 X j y:=by
 obtain⟨i,r,rfl,h1,h2⟩:=qL h
 obtain⟨j,r,rfl,h3,h4⟩:=qL h2
 cases La h4
 exact⟨i,j,rfl,h1,h3⟩
theorem Er{X:Cx}{ts:List Nat}{x y z:Str}(h:dw X ts [x,y,z]):∃i j k,ts=[i,j,k]/\g6 X i x/\g6 X j y/\g6 X k z:=by
 obtain⟨i,r,rfl,h1,h2⟩:=qL h
 obtain⟨j,k,rfl,h3,h4⟩:=B3 h2
 exact⟨i,j,k,rfl,h1,h3,h4⟩
theorem Lb{α:Type}{l:List α}(h:l.length=2):∃a b,l=[a,b]:=by
 rcases l with _|⟨a,_|⟨b,_|_⟩⟩<;>first|exact⟨_,_,rfl⟩|(simp at h;done)
theorem QE{α:Type}{l:List α}(h:l.length=3):∃a b c,l=[a,b,c]:=by
 cases l with
 |nil=>cases h
 |cons a l=>
  obtain⟨b,c,rfl⟩:=Lb (Nat.succ.inj h)
  exact⟨_,_,_,rfl⟩
theorem mz{es:List Expr}{x:Str}{xs:List Str}(h:BS es=some (x::xs)):∃p r,es=.Name x p::r/\BS r=some xs:=by
 cases es with
 |nil=>cases h
 |cons e es=>
  cases e with
  |Name a p=>
   obtain⟨l,hl,e⟩:=Option.map_eq_some_iff.mp h
   cases e
   exact⟨_,_,rfl,hl⟩
  |_=>exact nn h
theorem B4{es:List Expr}(h:BS es=some []):es=[]:=by
 cases es with
 |nil=>rfl
 |cons e es=>
  cases e with
  |Name a p=>
   obtain⟨l,hl,e⟩:=Option.map_eq_some_iff.mp h
   cases e
  |_=>exact nn h
theorem B5{es:List Expr}{x y:Str}(h:BS es=some [x,y]):∃p q,es=[.Name x p,.Name y q]:=by
 obtain⟨p,r,rfl,h1⟩:=mz h
 obtain⟨q,r,rfl,h2⟩:=mz h1
 rw[B4 h2]
 exact⟨_,_,rfl⟩
theorem Es{es:List Expr}{x y z:Str}(h:BS es=some [x,y,z]):∃p q r,es=[.Name x p,.Name y q,.Name z r]:=by
 obtain⟨p,r,rfl,h1⟩:=mz h
 obtain⟨q,s,rfl⟩:=B5 h1
 exact⟨_,_,_,rfl⟩
theorem Lc{S:SE}{ts vs:List Expr}{xs:List Str}(h:Se S ts vs=some (some xs)):(ts.length=2\/ts.length=3)/\vs.length=ts.length:=by
 unfold Se at h
 split at h
 ·cases h
 ·rename_i c
  simp only[Bool.or_eq_true,Bool.not_eq_true',bne_iff_ne,not_or,Bool.not_eq_false,beq_iff_eq,ne_eq,Decidable.not_not]at c
  exact c
theorem B6{es:List Expr}{xs:List Str}(h:BS es=some xs):es.length=xs.length:=by
 induction xs generalizing es with
 |nil=>rw[B4 h];rfl
 |cons x xs ih=>
  obtain⟨p,r,rfl,h1⟩:=mz h
  rw[List.length_cons,List.length_cons,ih h1]
theorem QF(ts:List Nat)(es:List CE):gB Φ Ψ G (.par ts es):=by
 intro S X m hX st k
 obtain⟨tg,kd,p,vs,kd',p',q,rfl,kk⟩:=El k
 simp only[Bool.and_eq_true]at kk
 obtain⟨⟨k1,k2⟩,k3⟩:=kk
 split at k1
 rotate_left
 ·cases k1
 rename_i xs hxs
 simp only[Bool.and_eq_true]at k1
 obtain⟨⟨⟨k1,k4⟩,k5⟩,k6⟩:=k1
 have k4:=of_decide_eq_true k4
 have k5:=of_decide_eq_true k5
 obtain⟨hl,hv⟩:=Lc k4
 have hw:=GN hX (k:=kd) (k2:=kd') (p:=p) (p2:=p') k4
 have hloc:∀x∈xs,X.env.scope.names.lookup x=some .local:=fun x hx=>by
  rw[hX.nk]
  exact beq_iff_eq.mp (List.all_eq_true.mp k6 x hx)
 have hk:=iT hX k1
 refine Pb (ta:=fun R=>wA Φ G R es) (fun{tv} ha=>?_) (pU k2) fun R=>(pG Φ Ψ G es).1.a hX.toXOk vs k3 R
 have hd:∀{a b:Nat} {x y:Str},x≠y->X.N[a]?=some x->X.N[b]?=some y->a≠b:=fun n h1 h2 e=>by
  rw[e,h2]at h1
  exact n (Option.some.inj h1).symm
 rcases hl with hl|hl
 ·obtain⟨x,y,rfl⟩:=Lb ((B6 hxs).symm.trans hl)
  obtain⟨p1,p2,rfl⟩:=B5 hxs
  obtain⟨i,j,rfl,n1,n2⟩:=B3 hk
  obtain⟨a,b,rfl⟩:=Lb (hv.trans hl)
  refine PS.imp (NQ hX.calm hX.nd n1.1 n2.1 (hd (by simpa using k5) n1.1 n2.1) (hloc x (by simp)) (hloc y (by simp)) ha hw) fun D σ H h=>?_
  have e:(fun(vs:List V) H1=>vs.length=[i,j].length/\D.nx (cQ σ [i,j] vs) H1)=fun vs H1=>∃v w,vs=[v,w]/\D.nx ((σ.set i (some v)).set j (some w)) H1:=by
   funext vs H1
   refine propext ⟨?_,?_⟩
   ·rintro⟨h1,h2⟩
    obtain⟨v,w,rfl⟩:=Lb h1
    exact⟨v,w,rfl,h2⟩
   ·rintro⟨v,w,rfl,h2⟩
    exact⟨rfl,h2⟩
  rw[e]at h
  exact h
 ·obtain⟨x,y,z,rfl⟩:=QE ((B6 hxs).symm.trans hl)
  obtain⟨p1,p2,p3,rfl⟩:=Es hxs
  obtain⟨i,j,kk,rfl,n1,n2,n3⟩:=Er hk
  obtain⟨a,b,c,rfl⟩:=QE (hv.trans hl)
  have k7:(x≠y/\x≠z)/\y≠z:=by
   simp only[List.nodup_cons,List.mem_cons,List.not_mem_nil,or_false,not_or]at k5
   exact⟨k5.1,k5.2.1⟩
  refine PS.imp (K4 hX.calm hX.nd n1.1 n2.1 n3.1 (hd k7.1.1 n1.1 n2.1) (hd k7.1.2 n1.1 n3.1) (hd k7.2 n2.1 n3.1) (hloc x (by simp)) (hloc y (by simp)) (hloc z (by simp)) ha hw) fun D σ H h=>?_
  have e:(fun(vs:List V) H1=>vs.length=[i,j,kk].length/\D.nx (cQ σ [i,j,kk] vs) H1)=fun vs H1=>∃v w u,vs=[v,w,u]/\D.nx (((σ.set i (some v)).set j (some w)).set kk (some u)) H1:=by
   funext vs H1
   refine propext ⟨?_,?_⟩
   ·rintro⟨h1,h2⟩
    obtain⟨v,w,u,rfl⟩:=QE h1
    exact⟨v,w,u,rfl,h2⟩
   ·rintro⟨v,w,u,rfl,h2⟩
    exact⟨rfl,h2⟩
  rw[e]at h
  exact h
theorem xQ{S:SE}{i:Nat}{o:Expr}(h:jk S i o=true)(nm:Str)(env:Env):attributeBase o nm env (eval o env)=eval o env:=by
 cases o with
 |Name x p=>rfl
 |_=>exact ff h
theorem QG(i:Nat)(e:CE):gB Φ Ψ G (.app i e):=by
 intro S X m hX st k
 obtain⟨o,mt,ap,v,cp,q,rfl,kk⟩:=xP k
 simp only[Bool.and_eq_true]at kk
 obtain⟨⟨⟨⟨k1,k2⟩,k3⟩,k4⟩,k5⟩:=kk
 have k1:=of_decide_eq_true k1
 subst k1
 have hs:=aI (bw (.inl k5)) [] X.env
 refine Pg (te:=fun R=>wE Φ G R e) (fun{tv} hv=>?_) (pQ k3) fun R=>(snd Φ Ψ G e).s hX.toXOk k5 R
 exact pN (MC PySem.F.plainAttrs_list PySem.F.slot_list_append PySem.F.type_list_append jW (dO hX.toXOk k4) (bC hv dD hs) (xQ k4 _ _) (by rw[hs];rfl) k2 hs rfl) rfl
theorem QH(i:Nat)(kx e:CE):gB Φ Ψ G (.put i kx e):=by
 intro S X m hX st k
 obtain⟨o,j,p,v,q,rfl,kk⟩:=Em k
 simp only[Bool.and_eq_true]at kk
 obtain⟨⟨⟨⟨k1,k2⟩,k3⟩,k4⟩,k5⟩:=kk
 have ha:∀u,assign (.Subscript o j p) X.env u=(do
  let ov←holding [u] (eval o X.env)
  let iv←holding [u,ov] (eval j X.env)
  standAt p
  holding [u,ov,iv] (setItem ov iv u)
  release [u,ov,iv] []):=by
  intro u
  cases j with
  |Slice _ _ _ _=>exact ff k3
  |_=>rfl
 refine Ph (te:=fun R=>wE Φ G R e) (t1:=fun R=>wE Φ G R kx) (fun{tv tk} hv hk=>?_) (pQ k1) (fun R=>(snd Φ Ψ G e).s hX.toXOk k5 R) fun R=>(snd Φ Ψ G kx).s hX.toXOk k4 R
 exact uD (pos:=q) hv (NP (dO hX.toXOk k2) hk set_list ha) (GK _ _) (GL _) rfl
theorem QI{mt:List (Nat×Nat)}{f g:Nat}(h:mt.any (fun y=>y.1==f&&y.2==g)=true):(f,g)∈mt:=by
 obtain⟨⟨a,b⟩,hy,e⟩:=List.any_eq_true.mp h
 rw[Bool.and_eq_true]at e
 cases beq_iff_eq.mp e.1
 cases beq_iff_eq.mp e.2
 exact hy
theorem GY:∀{S:SE} {c:CE} {e:Expr},mw S c e=true->noStar e=true:=fun{S c e} h=>by
 cases e with
 |Starred v p=>
  have f:aG S false c (.Starred v p)=true->False:=fun z=>by have:=bw (.inl z);exact ff this
  cases c<;>first|exact ff h;done|exact(f h).elim
 |_=>rfl
theorem oj{S:SE}:∀{as:List CE} {es:List Expr},tZ S as es=true->es.all noStar=true
 |[],es,h=>by
  rw[List.isEmpty_iff.mp h]
  rfl
 |a::as,[],h=>by cases h
 |a::as,e::es,h=>by
  have h:=a2 h
  rw[List.all_cons,GY h.1,oj h.2]
  rfl
theorem cU{S:SE}{X:Cx}(hX:XOk S Φ Ψ G X)(R:Addr->Prop){c:CE}{v:Expr}(e1:mw S c v=aG S false c v)(e2:wP Φ G R c=fun ε Q=>wE Φ G R c ε fun w=>Q w ε)(k:mw S c v=true):VP X S.M R v (wP Φ G R c):=by
 rw[e1]at k
 rw[e2]
 exact Uy ((snd Φ Ψ G c).s hX k R)
mutual
theorem fG{S:SE}{X:Cx}(hX:XOk S Φ Ψ G X)(R:Addr->Prop):∀(e:CE) (v:Expr),mw S e v=true->VP X S.M R v (wP Φ G R e)
 |.pop i,v,k=>by
  obtain⟨o,mt,ap,cp,rfl,kk⟩:=lA k
  simp only[Bool.and_eq_true]at kk
  obtain⟨⟨⟨k1,k2⟩,k3⟩,k4⟩:=kk
  have k1:=of_decide_eq_true k1
  subst k1
  exact Pp (pQ k3) (dO hX k4) (xQ k4 _ _) k2
 |.JZ i g f as,v,k=>by
  obtain⟨o,x,ap,es,p,rfl,kk,Zu,Zv⟩:=En k
  simp only[Bool.and_eq_true]at kk
  obtain⟨⟨⟨⟨k1,k2⟩,k3⟩,k4⟩,k5⟩:=kk
  obtain⟨fa,fd,ps,n,kl,hG,hb,F,hr,hn⟩:=hX.KJ f g x (beq_iff_eq.mp k1) (QI k2)
  rw[←hX.Jk]at k3
  cases o with
  |Name y py=>
   cases hp:Ψ f with
   |io m0=>
    rw[hp]at k3 F
    cases m0 with
    |o fs ms=>
     have k3:(hasB S.M i (.o fs ms)&&!fs.contains x)=true:=k3
     rw[Bool.and_eq_true]at k3
     cases as with
     |nil=>
      have:es=[]:=by
       exact List.isEmpty_iff.mp k5
      subst this
      exact KA (G:=G g) hG F hr hb (fF k3.1) (by simpa using k3.2) hn (dO hX k4) (t7 (cK (oj k5) _ _) Zv Zu)
     |cons a as=>
      cases es with
      |nil=>exact ff k5
      |cons e es=>
       have We:=k5
       have We:=a2 We
       exact Py (G:=G g) hG F hr hb (fF k3.1) (by simpa using k3.2) hn (dO hX k4) (mD hX R (a::as) (e::es) k5) (aI (GY We.1) _ _) (cK (oj We.2) _ _) (t7 (cK (oj k5) _ _) Zv Zu)
    |_=>exact ff k3
   |_=>rw[hp]at k3;exact ff k3
  |_=>exact ff k4
 |.bin op a b,v,k=>by
  obtain⟨l,o,r,p,rfl,kk⟩:=n9 k
  simp only[Bool.and_eq_true]at kk
  obtain⟨⟨k1,k2⟩,k3⟩:=kk
  have k1:=of_decide_eq_true k1
  subst k1
  exact Pq (fG hX R a l k2) (fG hX R b r k3)
 |.cmp op a b,v,k=>by
  obtain⟨l,o,r,p,rfl,kk⟩:=tW k
  simp only[Bool.and_eq_true]at kk
  obtain⟨⟨⟨⟨k1,k4⟩,k5⟩,k2⟩,k3⟩:=kk
  have k1:=of_decide_eq_true k1
  subst k1
  exact Pr hX.un (zO r (op:=op) (by simpa using k4) (by simpa using k5)) (fG hX R a l k2) (fG hX R b r k3)
 |.call f as,v,k=>by
  obtain⟨x,q,es,p,rfl,kk⟩:=aV k
  simp only[Bool.and_eq_true]at kk
  obtain⟨⟨⟨⟨⟨k1,k2⟩,k3⟩,k5⟩,k6⟩,k4⟩:=kk
  obtain⟨g1,g2,g3⟩:=cJ hX k2
  obtain⟨fv,n,kl,hm,F,hr,hn⟩:=hX.fns f x (beq_iff_eq.mp k1) (by simpa using k6)
  have F:gi X.prog X.w X.K X.mg X.base kl fv n (MI X.K n (Ψ f) (Φ f)):=by
   rw[←hX.Jk]at k5
   cases hp:Ψ f<;>rw[hp]at k5 F<;>first|exact F|exact ff k5
  have st:=oj k4
  cases es with
  |nil=>exact ff k3
  |cons e es=>
   rw[List.all_cons,Bool.and_eq_true]at st
   exact Ky (p:=q) (pos:=p) F hr g1 hm hn (mD hX R as _ k4) g2 (aI st.1 _ _) (cK st.2 _ _)
 |.blt b as,v,k=>by
  obtain⟨x,q,es,p,rfl,kk⟩:=aV k
  simp only[Bool.and_eq_true]at kk
  obtain⟨⟨⟨⟨⟨⟨⟨⟨k1,k2⟩,k3⟩,k4⟩,k5⟩,k7⟩,k8⟩,k9⟩,k6⟩:=kk
  have k1:=of_decide_eq_true k1
  obtain⟨g1,g2,g3⟩:=cJ hX k2
  have hz:=hX.uV x (List.contains_iff_mem.mp k3)
  have st:=oj k6
  cases es with
  |nil=>exact ff k9
  |cons e es=>
   rw[List.all_cons,Bool.and_eq_true]at st
   rcases xJ hX.calm b (by rintro rfl;exact ff k4) (by simpa using k5)with⟨id,hv,hc⟩|⟨id,hv,hc⟩
   ·exact Pu hc g1 hz (by rw[k1];exact hv) (mD hX R as _ k6) g3 g2 (aI st.1 _ _) (cK st.2 _ _)
   ·exfalso
    cases b<;>first|(cases k7;done)|(cases k8;done)|(simp[UE]at hv;done)|cases hv
 |.ix a b,v,k=>by
  obtain⟨l,r,p,rfl,kk⟩:=gA k
  simp only[Bool.and_eq_true]at kk
  obtain⟨⟨k1,k2⟩,k3⟩:=kk
  exact Uz (uW k1) (fG hX R a l k2) (fG hX R b r k3)
 |.and _,v,k=>by cases k
 |.var i,v,k=>cU hX R rfl rfl k
 |.int i,v,k=>cU hX R rfl rfl k
 |.bl i,v,k=>cU hX R rfl rfl k
 |.str i,v,k=>cU hX R rfl rfl k
 |.aU,v,k=>cU hX R rfl rfl k
 |.BD n,v,k=>cU hX R rfl rfl k
 |.glob g,v,k=>cU hX R rfl rfl k
 |.neg a,v,k=>cU hX R rfl rfl k
 |.not a,v,k=>cU hX R rfl rfl k
 |.sA p q a b c,v,k=>cU hX R rfl rfl k
 |.or as,v,k=>cU hX R rfl rfl k
 |.ite c a b,v,k=>cU hX R rfl rfl k
 |.tup as,v,k=>cU hX R rfl rfl k
 |.lst as,v,k=>cU hX R rfl rfl k
 |.sl a b c,v,k=>cU hX R rfl rfl k
 |.bits a,v,k=>cU hX R rfl rfl k
 |.comp ts one n i c x,v,k=>cU hX R rfl rfl k
 |.nO as,v,k=>cU hX R rfl rfl k
 |.uL a,v,k=>cU hX R rfl rfl k
 |.rev a,v,k=>cU hX R rfl rfl k
 |.own i π,v,k=>cU hX R rfl rfl k
 |.Ai is a,v,k=>cU hX R rfl rfl k
theorem mD{S:SE}{X:Cx}(hX:XOk S Φ Ψ G X)(R:Addr->Prop):∀(as:List CE) (es:List Expr),tZ S as es=true->Po X S.M R es (Np Φ G R as)
 |[],es,k=>by
  rw[List.isEmpty_iff.mp k]
  exact Kv
 |a::as,[],k=>by cases k
 |a::as,e::es,k=>by
  have k:=a2 k
  exact Gu (aI (GY k.1) _ _) (fG hX R a e k.1) (mD hX R as es k.2)
end
theorem vf{v:Expr}(h1:BZ v=true)(h2:BX v=true)(t:Option Expr)(l:Nat)(env:Env):swapsWith v t l env=pure false:=by
 cases v with
 |ListComp _ _ _ _=>exact ff h2
 |SetComp _ _ _ _=>exact ff h1
 |DictComp _ _ _ _ _=>exact ff h1
 |_=>rfl
theorem XJ{v:Expr}(h:u7 v=true):BZ v=true:=by cases v<;>first|rfl|exact ff h
theorem Ld(i:Nat):gB Φ Ψ G (.drop i):=by
 intro S X m hX st k
 obtain⟨v,q,rfl,kk⟩:=qI k
 simp only[Bool.and_eq_true]at kk
 obtain⟨⟨k1,k2⟩,k3⟩:=kk
 exact BL (tt:=fun R=>wP Φ G R (.pop i)) fun R=>pN (fG hX.toXOk R _ v k3) (vf (XJ k2) k1 _ _ _)
theorem QJ(e:CE):gB Φ Ψ G (.T8 e):=by
 intro S X m hX st k
 obtain⟨v,q,rfl,kk⟩:=qI k
 simp only[Bool.and_eq_true]at kk
 obtain⟨⟨k1,k2⟩,k3⟩:=kk
 exact BL (tt:=fun R=>wP Φ G R e) fun R=>pN (fG hX.toXOk R _ v k3) (vf (XJ k2) k1 _ _ _)
theorem Le(j:Nat)(e:CE):gB Φ Ψ G (.Aj j e):=by
 intro S X m hX st k
 obtain⟨x,p,v,q,rfl,kk⟩:=t6 k
 simp only[Bool.and_eq_true]at kk
 obtain⟨⟨⟨⟨k1,k2⟩,k4⟩,k5⟩,k3⟩:=kk
 have n:=u9 hX k1
 exact Kw (tt:=fun R=>wP Φ G R e) (fun{tv} hv=>zI hX.nd n.1 n.2.1 hv (vf (XJ k5) k4 _ _ _) n.2.2) (mh (by simpa using k2)) fun R=>fG hX.toXOk R _ v k3
theorem QK(e:CE):gB Φ Ψ G (.ret e):=by
 intro S X m hX st k
 rcases qJ k with⟨v,q,rfl,kk⟩|⟨q,rfl,kk⟩
 ·unfold UT at kk
  rw[Bool.and_eq_true]at kk
  obtain⟨ho,kk⟩:=kk
  have ho:kg m=false:=by simpa using ho
  rcases jf kk with kk|k9
  ·rcases jf kk with kk|kk
   ·rw[Bool.and_eq_true]at kk
    have hm:m=.s:=by cases m<;>first|rfl|exact ff kk.1
    exact Gr (te:=fun R=>wE Φ G R e) (fun R=>(snd Φ Ψ G e).e (hX.toXOk.Sh []) v kk.2 R) (.inr hm) ho
   ·rw[Bool.and_eq_true]at kk
    exact Gr (te:=fun R=>wE Φ G R e) (fun R=>QA (hX.toXOk.Sh []) kk.2 R) (.inl (u5 kk.1)) ho
  ·unfold US at k9
   split at k9
   ·rename_i i hv
    obtain rfl:=Ep hv
    have k8:=a2 k9
    exact Ku (dO hX.toXOk k8.2) (fF k8.1) ho
   ·exact ff k9
 ·rw[Bool.and_eq_true]at kk
  obtain rfl:=t8 kk.1
  cases m<;>try exact ff kk.2
  exact K6
theorem B7{S:SE}{m:Md}(h:Qw S m=true):∃k,m=.io k/\(0,k)∈S.M:=by
 cases m with
 |io k=>exact⟨k,rfl,fF h⟩
 |_=>exact ff h
theorem QL(e:CE):gB Φ Ψ G (.R4 e):=by
 intro S X m hX st k
 rcases qJ k with⟨v,q,rfl,kk⟩|⟨q,rfl,kk⟩
 ·rw[Bool.and_eq_true]at kk
  obtain⟨m0,rfl,h0⟩:=B7 kk.1
  exact Pw (te:=fun R=>wE Φ G R e) (fun R=>(snd Φ Ψ G e).s hX.toXOk kk.2 R) h0
 ·rw[Bool.and_eq_true]at kk
  obtain⟨m0,rfl,h0⟩:=B7 kk.2
  obtain rfl:=t8 kk.1
  exact Px h0
theorem Lf{S:SE}{i n:Nat}{x:Str}(h:Qx S i n x=true):∃fs ms,(i,.o fs ms)∈S.M/\fs[n]?=some x/\ms[n]?=some .s:=by
 unfold Qx at h
 split at h
 ·rename_i fs ms hl
  rw[Bool.and_eq_true]at h
  obtain⟨h1,h2⟩:=h
  split at h2
  ·rename_i k hk
   have:k=.s:=by cases k<;>first|rfl|exact ff h2
   subst this
   exact⟨fs,ms,ju hl,beq_iff_eq.mp h1,hk⟩
  ·cases h2
 ·cases h
theorem QM(i n:Nat)(e:CE):gB Φ Ψ G (.DX i n e):=by
 intro S X m hX st k
 obtain⟨o,x,p,v,q,rfl,kk⟩:=Eo k
 simp only[Bool.and_eq_true]at kk
 obtain⟨⟨k1,k2⟩,k4⟩:=kk
 obtain⟨fs,ms,h1,h2,h3⟩:=Lf k1
 exact PJ (te:=fun R=>wE Φ G R e) (fun{tv} hv=>gY (dO hX.toXOk k2) hv (by cases v<;>rfl)) h1 h2 h3 fun R=>(snd Φ Ψ G e).s hX.toXOk k4 R
theorem QN(i:Nat)(π:List nR)(e:CE):gB Φ Ψ G (.R3 i π e):=by
 intro S X m hX st k
 obtain⟨o,mt,ap,v,cp,q,rfl,kk⟩:=xP k
 simp only[Bool.and_eq_true]at kk
 obtain⟨⟨⟨k1,k2⟩,k3⟩,k5⟩:=kk
 have k1:=of_decide_eq_true k1
 subst k1
 have hs:=aI (bw (.inl k5)) [] X.env
 obtain⟨m0,k,hm,hp,hk,pe⟩:=Aw hX.toXOk k3
 have:k=.f:=by cases k<;>first|rfl|exact ff hk
 subst this
 refine Pf (te:=fun R=>wE Φ G R e) (fun{tv} hv=>?_) hm hp fun R=>(snd Φ Ψ G e).s hX.toXOk k5 R
 exact pN (MC PySem.F.plainAttrs_list PySem.F.slot_list_append PySem.F.type_list_append jW pe (bC hv dD hs) (by rcases(fy k3).2 with⟨_,_,_,rfl⟩|⟨_,_,_,_,_,rfl⟩<;>rfl) (by rw[hs];rfl) k2 hs rfl) rfl
theorem QO:gB Φ Ψ G .brk:=by
 intro S X m hX st k
 cases st with
 |Break _=>exact O9
 |_=>exact ff k
theorem GZ(g:Nat)(e:CE):gB Φ Ψ G (.raise g e):=by
 intro S X m hX st k
 obtain⟨x,np,v,cp,q,rfl,kk⟩:=AD k
 simp only[Bool.and_eq_true]at kk
 obtain⟨⟨k1,k2⟩,k3⟩:=kk
 have k1:=beq_iff_eq.mp k1
 show VS X S.M m _ (fun D ε=>match G g with|.cls C=>wE Φ G D.ex e ε fun _=>D.ex C|_=>False)
 obtain⟨u,z,hm,hr,hrep⟩:=hX.Jl g x k1
 obtain⟨g1,g2,g3⟩:=cJ hX.toXOk k2
 by_cases hC:∃C,G g=.cls C
 ·obtain⟨C,hG⟩:=hC
  rw[hG]at hrep⊢
  have hz:=hrep (fun _=>False) (fun _=>none)
  rw[Rep]at hz
  subst hz
  cases hr
  exact GU (te:=fun R=>wE Φ G R e) hX.calm g1 hm (hX.AB g x C k1 hG) (fun R=>(snd Φ Ψ G e).s hX.toXOk k3 R) (aI (bw (.inl k3)) [] X.env) g2
 ·rintro pins s σ H D I ⟨A,H0,ε,d,S,er,hz,h,_⟩
  cases hG:G g<;>rw[hG]at h<;>first|exact h.elim|exact(hC ⟨_,hG⟩).elim
theorem UX(c:CE){a b:List CS}(ha:oO Φ Ψ G a)(hb:oO Φ Ψ G b):gB Φ Ψ G (.iff c a b):=by
 intro S X m hX st k
 obtain⟨t,x,y,q,rfl,kk⟩:=GO k
 simp only[Bool.and_eq_true]at kk
 obtain⟨⟨⟨k1,k2⟩,k3⟩,k4⟩:=kk
 exact Uv (tc:=fun R=>wE Φ G R c) (fun R=>(snd Φ Ψ G c).t hX.toXOk t k1 k2 R) (ha hX x k3) (hb hX y k4)
theorem QS(c:CE){b:List CS}(hb:oO Φ Ψ G b):gB Φ Ψ G (.DW c b):=by
 intro S X m hX st k
 obtain⟨t,x,q,rfl,kk⟩:=GQ k
 simp only[Bool.and_eq_true]at kk
 obtain⟨⟨k1,k2⟩,k3⟩:=kk
 exact Pj ((snd Φ Ψ G c).t hX.r9.toXOk t k1 k2 _) (hb hX.r9 x k3)
theorem QT(ts:List Nat)(one:Bool)(it:CE){b:List CS}(hb:oO Φ Ψ G b):gB Φ Ψ G (.fr ts one it b):=by
 intro S X m hX st k
 obtain⟨tg,i,x,q,rfl,kk⟩:=GR k
 unfold Zt at kk
 split at kk
 rotate_left
 ·cases kk
 rename_i o xs Qq
 simp only[Bool.and_eq_true]at kk
 obtain⟨⟨⟨⟨⟨⟨k1,k2⟩,k3⟩,k4⟩,k5⟩,k6⟩,k7⟩:=kk
 have k1:=beq_iff_eq.mp k1
 subst k1
 refine Pk (ti:=fun R=>wE Φ G R it) hX.calm (pU k3) ((snd Φ Ψ G it).i hX.r9.toXOk tg false i (by rw[k6];rfl) (fun z=>?_) _) (KU (X:=X.r9) hX.calm hX.r9.nd Qq (iT hX.r9 k2)) (hb hX.r9 x k7) (xN k4 _)
 have:one=false:=by
  rw[z]at k5
  simpa using k5
 subst this
 cases tg with
 |Tuple es kk p=>exact⟨_,_,_,rfl⟩
 |Name y p=>cases Qq
 |_=>exact nn Qq
theorem Lg:oO Φ Ψ G []:=by
 intro S X m hX st k
 rw[List.isEmpty_iff.mp k]
 exact Kr
theorem G0{s:CS}{ss:List CS}(h:gB Φ Ψ G s)(hs:oO Φ Ψ G ss):oO Φ Ψ G (s::ss):=by
 intro S X m hX st k
 cases st with
 |nil=>exact ff k
 |cons e r=>
  have k:Qy S Ψ m s e=true/\aN S Ψ m ss r=true:=a2 k
  cases ss with
  |nil=>
   have:r=[]:=by
    have:=k.2
    exact List.isEmpty_iff.mp this
   subst this
   exact Ks (h hX e k.1)
  |cons t ts=>exact(show wSs Φ G (s::t::ts)=_ from by funext D ε;rw[wSs])▸Gq (h hX e k.1) (hs hX r k.2)
theorem G3{X:Cx}:∀{ts:List Nat} {xs:List Str},dw X ts xs->∀i∈ts,i<X.N.length
 |[],_,_,i,hi=>by cases hi
 |j::is,xs,h,i,hi=>by
  obtain⟨x,r,rfl,h1,h2⟩:=h
  rcases List.mem_cons.mp hi with z|z
  ·rw[z]
   exact(List.getElem?_eq_some_iff.mp h1.1).1
  ·exact G3 h2 i z
theorem Lh{ms:List Md}:∀{ts:List Nat},ts.length=ms.length->∀i∈ts,∃m,(i,m)∈ts.zip ms:=by
 induction ms with
 |nil=>
  intro ts h i hi
  rw[List.length_eq_zero_iff.mp h]at hi
  cases hi
 |cons m ms ih=>
  intro ts h i hi
  cases ts with
  |nil=>cases h
  |cons t ts=>
   rw[List.zip_cons_cons]
   rcases List.mem_cons.mp hi with z|z
   ·exact⟨m,by rw[z];exact List.mem_cons_self⟩
   ·obtain⟨m',h'⟩:=ih (by simpa using h) i z
    exact⟨m',List.mem_cons_of_mem _ h'⟩
theorem QU(ts:List Nat)(e:CE):gB Φ Ψ G (.T9 ts e):=by
 intro S X m hX st k
 obtain⟨es,kd,p,v,q,rfl,kk⟩:=oi k
 simp only[Bool.and_eq_true]at kk
 obtain⟨⟨⟨⟨⟨⟨k1,k2⟩,k3⟩,k4⟩,k5⟩,k6⟩,k7⟩:=kk
 split at k1
 rotate_left
 ·cases k1
 rename_i xs hxs
 have hg:PG X (.Tuple es kd p) (gT X.K false ts):=KU hX.calm hX.nd (by rw[Sa,hxs];rfl) (iT hX k1)
 have hst:swappedStores [.Tuple es kd p] v X.env=pure none:=ve k7 _ _ _ _
 obtain⟨f,as,rfl⟩:=qK k4
 have hr:UR Ψ (.call f as)=Ψ f:=rfl
 rw[hr]at k5
 cases hm:Ψ f with
 |t ms=>
  rw[hm]at k5
  simp only[Bool.and_eq_true,List.all_eq_true,beq_iff_eq]at k5
  obtain⟨kl,kh⟩:=k5
  have has:∀x∈ts.zip ms,x∈S.M:=fun x hx=>fF (kh x hx)
  have hL:zE (S.BW ts) Φ Ψ G X:=hX.Sh (S.BW ts).M fun a b c h1 h2=>hX.MU a b c (List.mem_filter.mp h1).1 (List.mem_filter.mp h2).1
  refine PM (M':=(S.BW ts).M) (ms:=ms) (te:=fun R=>wE Φ G R (.call f as)) (fun R=>?_) kl (fun x=>?_) (fun i hi=>?_) (of_decide_eq_true k2) (G3 (iT hX k1)) (fun z hz=>?_)
  ·obtain⟨h1,_⟩:=AE hL.toXOk k6 R
   rw[hm]at h1
   exact uD h1 hg (vd _ _) hst rfl
  ·constructor
   ·intro hx
    by_cases hc:x.1∈ts
    ·obtain⟨m',h'⟩:=Lh kl x.1 hc
     have:=hX.MU x.1 _ _ hx (has _ h')
     obtain⟨a,b⟩:=x
     simp only at this
     subst this
     exact .inl h'
    ·refine .inr (List.mem_filter.mpr ⟨hx,?_⟩)
     simpa using hc
   ·rintro(hx|hx)
    ·exact has x hx
    ·exact(List.mem_filter.mp hx).1
  ·rintro⟨m',h'⟩
   have:=(List.mem_filter.mp h').2
   simp at this
   exact this hi
  ·rw[z]at k3
   simp at k3
   exact k3 hz
 |_=>rw[hm]at k5;exact ff k5
theorem QV(ts:List Nat)(e:CE):gB Φ Ψ G (.Ua ts e):=by
 intro S X m hX st k
 obtain⟨es,kd,p,v,q,rfl,kk⟩:=oi k
 simp only[Bool.and_eq_true]at kk
 obtain⟨⟨⟨k1,k2⟩,k3⟩,k4⟩:=kk
 split at k1
 rotate_left
 ·cases k1
 rename_i xs hxs
 obtain⟨q1,q2,q3⟩:=Az hX.nd es xs ts hxs (iT hX k1)
 have hg:PG X (.Tuple es kd p) (PK X.K ts.length (O8 ts)):=PL hX.calm q1 q2 q3
 exact PN (te:=fun R=>wE Φ G R e) (fun{tv} hv=>uD hv hg (vd _ _) (ve k4 _ _ _ _) rfl) (pU k2) fun R=>(snd Φ Ψ G e).s hX.toXOk k3 R
theorem om{S:SE}{i:Nat}{e:Expr}(h:jk S i e=true):∃x p,e=.Name x p:=by
 cases e<;>first|exact⟨_,_,rfl⟩|exact ff h
theorem QW(i j k:Nat):gB Φ Ψ G (.Ub i j k):=by
 intro S X m hX st kk
 rcases qJ kk with⟨v,q,rfl,k1⟩|⟨q,rfl,k1⟩
 ·obtain⟨es,kd,p,rfl,k2⟩:=fL k1
  obtain⟨a,b,c,rfl,k3⟩:=Gx k2
  cases m<;>try exact ff k3
  obtain⟨m1,m2,m3,rfl,k4⟩:=Gx k3
  simp only[Bool.and_eq_true,decide_eq_true_eq]at k4
  obtain⟨⟨⟨⟨⟨⟨⟨⟨a1,a2⟩,a3⟩,b1⟩,b2⟩,b3⟩,c1⟩,c2⟩,c3⟩:=k4
  have p1:=dO hX.toXOk a1
  have p2:=dO hX.toXOk a2
  have p3:=dO hX.toXOk a3
  obtain⟨_,_,rfl⟩:=om a1
  obtain⟨_,_,rfl⟩:=om a2
  obtain⟨_,_,rfl⟩:=om a3
  exact PR p1 p2 p3 rfl rfl rfl (fF b1) (fF b2) (fF b3) c1 c2 c3
 ·cases k1
theorem QX:gB Φ Ψ G .xj:=by
 rintro S X m hX st k pins s σ H D I ⟨A,H0,ε,d,S,er,hz,h,kk⟩
 exact False.elim h
variable(Φ Ψ G)
mutual
theorem XM:∀s:CS,gB Φ Ψ G s
 |.set i e=>QC i e
 |.DV ts e=>QD ts e
 |.par ts es=>QF ts es
 |.app i e=>QG i e
 |.put i k e=>QH i k e
 |.drop i=>Ld i
 |.Aj j e=>Le j e
 |.ret e=>QK e
 |.iff c a b=>UX c (qM a) (qM b)
 |.DW c b=>QS c (qM b)
 |.fr ts one it b=>QT ts one it (qM b)
 |.brk=>QO
 |.raise g e=>GZ g e
 |.R3 i π e=>QN i π e
 |.DX i n e=>QM i n e
 |.R4 e=>QL e
 |.T8 e=>QJ e
 |.T9 ts e=>QU ts e
 |.xj=>QX
 |.Ub i j k=>QW i j k
 |.Ua ts e=>QV ts e
theorem qM:∀ss:List CS,oO Φ Ψ G ss
 |[]=>Lg
 |s::ss=>G0 (XM s) (qM ss)
end
end
structure Tab(P:Program)(w:World)(K:PySem.W.Frag)(mg:Str->Option Value)(base:Heap)(fn gn zn:List Str)(md:List Md)(mt:List (Nat×Nat))(Φ:Nat->b6)(G:Nat->W)(k:Nat):Prop where
 fns:∀(j:Nat) (x:Str),fn[j]?=some x->mt.any (·.1==j)=false->∃fv n k',mg x=some fv/\gi P w K mg base k' fv n (eY K n (bH md j) (Φ j))/\k'<=k/\∀ws P R,Φ j ws P R->ws.length=n
 KJ:∀(j g:Nat) (x:Str),fn[j]?=some x->(j,g)∈mt->∃f fd ps n k',(∀C,G g=.cls C->Meth K C x f)/\Binds K fd ps []/\aL P w K mg base (cV P w) k' f fd ps (eY K n (bH md j) (Φ j))/\k'<=k/\∀ws P R,Φ j ws P R->ws.length=n
 Jl:∀(j:Nat) (x:Str),gn[j]?=some x->∃u v,mg x=some u/\RelV v u/\∀B H,Rep K B H (G j) v
 uV:∀x∈zn,mg x=none
 kit:xq K
 AB:∀j x C,gn[j]?=some x->G j=.cls C->TM K C
noncomputable def aq(n:Nat)(ws:List W):Ev:=ws.map some++List.replicate (n -ws.length) none
noncomputable def fall:Md->(W->Prop)->Ev->Prop
 |.s,P,_=>P .aU
 |.io _,P,ε=>match look ε 0 with
  |some w0=>P (.tup [.aU,w0])
  |none=>False
 |_,_,_=>False
section
variable{K:PySem.W.Frag}{A:Addr->Prop}{H:Hp}{N:List Str}{ws:List W}{vs:List V}{M:Ms}
theorem lD{i:Nat}{w:W}(hi:ws.length<=i)(e:look (aq N.length ws) i=some w):False:=by
 rw[bN]at e
 unfold aq at e
 rw[List.getElem?_append_right (by simp;omega),List.getElem?_replicate]at e
 split at e
 ·cases e
 ·cases e
theorem t9{i:Nat}{w:W}(h:ai K A H ws vs)(e:look (aq N.length ws) i=some w):∃v,(start N vs)[i]?=some (some v)/\Rep K A H w v:=by
 have hl:=h.len
 by_cases hlt:i<ws.length
 ·rw[bN]at e
  unfold aq at e
  rw[List.getElem?_append_left (by simpa using hlt),List.getElem?_map]at e
  obtain⟨w',e1,e2⟩:=Option.map_eq_some_iff.mp e
  cases e2
  obtain⟨v,e2,r⟩:=h.get e1
  refine⟨v,?_,r⟩
  unfold L2.start
  rw[List.getElem?_append_left (by simp;lia),List.getElem?_map,e2]
  rfl
 ·exact(lD (by lia) e).elim
theorem G4(h:ai K A H ws vs)(d:Dom A H)(hM:∀i m,(i,m)∈M->ws.length<=i)(un:∀i m m',(i,m)∈M->(i,m')∈M->m=m'):SR K M ⟨A,A,none⟩ H (start N vs) H (aq N.length ws):=by
 have hl:=h.len
 refine⟨by simp[L2.start,aq,hl],fun i w hi e=>t9 h e,ay.refl _,d,(fun v e=>by cases e),fun _=>[],⟨un,fun i m w hm e=>(lD (hM i m hm) e).elim,fun _ _ _=>rfl,fun _ _=>List.nodup_nil,(fun i j p _ _ z=>by cases z),(fun i p _ z=>by cases z),(fun i p _ z=>by cases z),fun p=>⟨.inl,fun z=>z.elim id<|by rintro⟨_,_,z⟩;cases z⟩⟩⟩
open Classical in
noncomputable def era(F:List Addr)(H:Hp):Hp:=fun p=>if p∈F then none else H p
theorem G5{F:List Addr}{p:Addr}{o:HO}(h:era F H p=some o):p∉F/\H p=some o:=by
 unfold era at h
 split at h
 ·cases h
 ·exact⟨by assumption,h⟩
theorem G6{F:List Addr}{p:Addr}(h:era F H p=none):p∈F\/H p=none:=by
 unfold era at h
 split at h
 ·exact .inl (by assumption)
 ·exact .inr h
theorem QY{F:List Addr}{p:Addr}(h:p∈F):era F H p=none:=by
 unfold era
 rw[if_pos h]
theorem Li{F:List Addr}{p:Addr}(h:p∉F):era F H p=H p:=by
 unfold era
 rw[if_neg h]
theorem G7{F:List Addr}{w0:W}{v0:V}{m0:Md}(nd:F.Nodup)(na:∀p∈F,¬A p)(d:Dom A H)(fp:Fp K (fun p=>A p\/p∈F) H m0 w0 v0 F)(h:ai K (fun p=>A p\/p∈F) H ws vs)
 (h0:(0,m0)∈M) (hM:∀i m,(i,m)∈M->i=0\/ws.length+1<=i) (un:∀i m m',(i,m)∈M->(i,m')∈M->m=m') (hN:0<N.length):
 SR K M ⟨A,fun p=>A p\/p∈F,some v0⟩ (era F H) (start N (v0::vs)) H (aq N.length (w0::ws)):=by
 have hl:=h.len
 have MV:look (aq N.length (w0::ws)) 0=some w0:=rfl
 have Zw:(start N (v0::vs))[0]?=some (some v0):=rfl
 have hs0:∀i,aQ M i->i≠0->∀w,look (aq N.length (w0::ws)) i=some w->False:=fun i ⟨m,hm⟩ n w e=>lD (by rcases hM i m hm with z|z;exact(n z).elim;simpa using z) e
 refine⟨by simp[L2.start,aq,hl],fun i w hi e=>?_,fun p o e=>(G5 e).2,d,fun v e=>?_,fun i=>if i=0 then F else[],⟨un,fun i m w hm e=>?_,fun i hi e=>?_,fun i hi=>?_,fun i j p hi hj a b=>?_,fun i p hi hp=>?_,fun i p hi hp=>?_,fun p=>?_⟩⟩
 ·cases i with
  |zero=>exact(hi ⟨m0,h0⟩).elim
  |succ i=>
   have e':look (ws.map some++List.replicate (N.length -(w0::ws).length) none) i=some w:=e
   have:look (aq (N.length -1) ws) i=some w:=by
    unfold aq
    rw[show N.length -1 -ws.length=N.length -(w0::ws).length by simp;lia]
    exact e'
   cases N with
   |nil=>cases hN
   |cons x N=>
    obtain⟨v,e1,e2⟩:=t9 (N:=N) h this
    refine⟨v,?_,e2⟩
    unfold L2.start at e1⊢
    rw[List.map_cons,List.cons_append,List.getElem?_cons_succ,show(x::N).length -(v0::vs).length=N.length -vs.length by simp]
    exact e1
 ·cases e
  exact⟨Zw,m0,h0⟩
 ·rcases Nat.eq_zero_or_pos i with rfl|hi
  ·have:=un 0 m m0 hm h0
   subst this
   rw[MV]at e
   cases e
   exact⟨v0,Zw,by rw[if_pos rfl];exact fp⟩
  ·exact(hs0 i ⟨m,hm⟩ (by lia) w e).elim
 ·rcases Nat.eq_zero_or_pos i with rfl|hi'
  ·rw[MV]at e
   cases e
  ·rw[if_neg (by lia)]
 ·split
  ·exact nd
  ·exact List.nodup_nil
 ·by_cases e1:i=0
  ·by_cases e2:j=0
   ·rw[e1,e2]
   ·rw[if_neg e2]at b
    cases b
  ·rw[if_neg e1]at a
   cases a
 ·by_cases e1:i=0
  ·rw[if_pos e1]at hp
   exact QY hp
  ·rw[if_neg e1]at hp
   cases hp
 ·by_cases e1:i=0
  ·rw[if_pos e1]at hp
   exact na p hp
  ·rw[if_neg e1]at hp
   cases hp
 ·constructor
  ·rintro(z|z)
   ·exact .inl z
   ·exact .inr ⟨0,⟨m0,h0⟩,by rw[if_pos rfl];exact z⟩
  ·rintro(z|⟨i,hi,hp⟩)
   ·exact .inl z
   ·by_cases e1:i=0
    ·rw[if_pos e1]at hp
     exact .inr hp
    ·rw[if_neg e1]at hp
     cases hp
end
theorem MW{M:Ms}(h:(M.map (·.1)).Nodup):∀i m m',(i,m)∈M->(i,m')∈M->m=m':=by
 induction M with
 |nil=>intro i m m' a;cases a
 |cons x M ih=>
  obtain⟨j,k⟩:=x
  rw[List.map_cons,List.nodup_cons]at h
  intro i m m' a b
  rcases List.mem_cons.mp a with a|a
  ·rcases List.mem_cons.mp b with b|b
   ·cases a
    cases b
    rfl
   ·cases a
    exact(h.1 (List.mem_map.mpr ⟨_,b,rfl⟩)).elim
  ·rcases List.mem_cons.mp b with b|b
   ·cases b
    exact(h.1 (List.mem_map.mpr ⟨_,a,rfl⟩)).elim
   ·exact ih h.2 i m m' a b
section
variable{P:Program}{w:World}{K:PySem.W.Frag}{mg:Str->Option Value}{base:Heap}{x qual:Str}{st:Stmt}{f:Addr}{fd:FuncData}{N ps:List Str}{k:Nat}{fn gn zn:List Str}{md:List Md}{mt:List (Nat×Nat)}{Φ:Nat->b6}{G:Nat->W}
theorem G8{M:Ms}{cdv:Value}{A:Around}{outer:List Env}{s:Shared}{H:Hp}{E:XK}(Sc:au N ps (aa st))(T:Tab P w K mg base fn gn zn md mt Φ G k)(hr:dN k (lP P w K mg base N qual (aa st) f cdv A outer s H E).A)(un:∀i m m',(i,m)∈M->(i,m')∈M->m=m'):
 zE ⟨N,(aa st).names,M,fn,gn,zn,md,mt⟩ Φ (bH md) G (lP P w K mg base N qual (aa st) f cdv A outer s H E):=
 {hN:=rfl,nd:=Sc.nd,calm:=rfl,un:=hr.units,nk:=fun _=>rfl,
  fns:=fun j x e h=>by
   obtain⟨fv,n,k',q1,q2,q3,q4⟩:=T.fns j x e h
   exact⟨fv,n,k',q1,q2,hr.mono q3,q4⟩
  KJ:=fun j g x e h=>by
   obtain⟨f,fd,ps,n,k',q1,q2,q3,q4,q5⟩:=T.KJ j g x e h
   exact⟨f,fd,ps,n,k',q1,q2,q3,hr.mono q4,q5⟩
  Jk:=rfl,Jl:=T.Jl,uV:=T.uV,kit:=T.kit,
  bk:=by
   show(if(aa st).kind.isAnnotationScope then ScopeKind.function else(aa st).kind)=_
   rw[Sc.kind]
   rfl
  Sg:=fun _=>rfl,AB:=T.AB,MU:=un}
theorem aK(F:FT K x qual st f fd)(Sc:au N ps (aa st))(T:Tab P w K mg base fn gn zn md mt Φ G k)(code:List CS)(M:Ms)(m:Md)(Sf:b6)(hM:M.all (fun i=>decide (ps.length<=i.1))=true)(hu:(M.map (·.1)).Nodup)(hio:kg m=false)
 (hchk:aN ⟨N,(aa st).names,M,fn,gn,zn,md,mt⟩ (bH md) m code (ah st)=true) (hlen:∀ws P R,Sf ws P R->ws.length=ps.length)
 (hp:∀ws P R,Sf ws P R->wSs Φ G code ⟨fall m P,P,fun _=>False,fun _=>False,R⟩ (aq N.length ws)):aL P w K mg base (cV P w) (k+1) f fd ps (MI K ps.length m Sf):=by
 refine FT.WW F Sc (by rintro vs H Q E ⟨A,ws,P,R,h1,h2,_⟩;rw[h2.len,h1]) fun cdv A outer s H vs Q E hr ⟨A0,ws,P0,R,h1,h2,h3,h4,h5,h6⟩=>?_
 have un:=MW hu
 refine⟨_,qM Φ (bH md) G code (G8 Sc T hr un) (ah st) hchk,⟨A0,A0,none⟩,H,aq N.length ws,⟨fall m P0,P0,fun _=>False,fun _=>False,R⟩,G4 h2 h3 (fun i m hi=>?_) un,⟨E,MD,fun C H' rc s'=>h6 C H' rc s',fun pins σ H1 s1 h' a C args I hx q=>BC pins σ H1 s1 h' a C args I hx (h6 C H1 q.1 q.2)⟩,(by rw[hio];rfl),hp ws P0 R h4,⟨fun A' ε' σ' H' ea eb hf S'=>?_,fun w v H' hw s' r=>?_,fun _ _ _ _ _ _ z=>z.elim,fun _ _ _ _ _ _ z=>z.elim⟩⟩
 ·rw[h1]
  exact of_decide_eq_true (List.all_eq_true.mp hM (i,m) hi)
 ·cases m with
  |s=>exact h5 .aU .aU H' hf S'.sm (.of (by rw[Rep]))
  |io _=>cases hio
  |_=>exact hf.elim
 ·cases m with
  |io _=>cases hio
  |_=>exact h5 w v H' hw s' r
theorem B8(F:FT K x qual st f fd)(Sc:au N ps (aa st))(T:Tab P w K mg base fn gn zn md mt Φ G k)(code:List CS)(M:Ms)(m0:Md)(Sf:b6)(hM:M.all (fun i=>i.1==0||decide (ps.length<=i.1))=true)(hu:(M.map (·.1)).Nodup)(h0:hasB M 0 m0=true)(hN:0<N.length)
 (hchk:aN ⟨N,(aa st).names,M,fn,gn,zn,md,mt⟩ (bH md) (.io m0) code (ah st)=true) (hlen:∀ws P R,Sf ws P R->ws.length=ps.length)
 (hp:∀ws P R,Sf ws P R->wSs Φ G code ⟨fall (.io m0) P,P,fun _=>False,fun _=>False,R⟩ (aq N.length ws)):aL P w K mg base (cV P w) (k+1) f fd ps (Ut K ps.length m0 Sf):=by
 refine FT.WW F Sc (by rintro vs H Q E ⟨ab,F,w0,v0,ws,vs',P,R,e,h1,_,_,_,_,h2,_⟩;rw[e,List.length_cons,h2.len,h1]) fun cdv A outer s H vs Q E hr ⟨ab,F,w0,v0,ws,vs',P0,R,e,h1,nd,na,d,fp,h2,h4,h5,h6⟩=>?_
 subst e
 have un:=MW hu
 have h0:=fF h0
 have ch:∀{H'},ay (era F H) H'->wH (·∈F) H H':=fun{H'} s' p o e=>by
  by_cases R8:p∈F
  ·obtain⟨o',e',hm⟩:=Fp.mu m0 fp p R8
   rw[e]at e'
   cases e'
   exact .inl ⟨hm,R8⟩
  ·exact .inr (s' p o (by rw[Li R8];exact e))
 refine⟨_,qM Φ (bH md) G code (G8 Sc T hr un) (ah st) hchk,⟨ab,fun p=>ab p\/p∈F,some v0⟩,era F H,aq N.length (w0::ws),⟨fall (.io m0) P0,P0,fun _=>False,fun _=>False,R⟩,G7 nd na d fp h2 h0 (fun i m hi=>?_) un hN,⟨E,MD,fun C H' rc s'=>h6 C H' rc (ch s'),fun pins σ H1 s1 h' a C args I hx q=>BC pins σ H1 s1 h' a C args I hx (h6 C H1 q.1 (ch q.2))⟩,rfl,hp _ P0 R h4,⟨fun A' ε' σ' H' ea eb hf S'=>?_,fun w v H' hw s' r=>?_,fun _ _ _ _ _ _ z=>z.elim,fun _ _ _ _ _ _ z=>z.elim⟩⟩
 ·have:=List.all_eq_true.mp hM (i,m) hi
  rw[Bool.or_eq_true]at this
  rcases this with z|z
  ·exact .inl (beq_iff_eq.mp z)
  ·exact .inr (by rw[h1];exact of_decide_eq_true z)
 ·have hf:(match look ε' 0 with|some w0=>P0 (.tup [.aU,w0])|none=>False):=hf
  cases hl:look ε' 0 with
  |none=>rw[hl]at hf;exact hf.elim
  |some y=>
   rw[hl]at hf
   obtain⟨wr,y',v0',F',e1,e2,XN,Wf,fp',rr⟩:=uT (v:=.aU) S' h0 hl ⟨v0,eb⟩ (by rw[Rep]:Rep K A'.B H' .aU .aU)
   cases e1
   rw[eb]at e2
   cases e2
   rw[ea]at fp' rr Wf
   exact h5 .aU y .aU F' H' hf (ch S'.sm) XN (fun p hp=>G6 (Wf p hp).1) fp' rr
 ·obtain⟨wr,y,v0',F',rfl,e2,XN,Wf,fp',rr⟩:=r
  cases e2
  exact h5 wr y v F' H' hw (ch s') XN (fun p hp=>G6 (Wf p hp).1) fp' rr
end
end VL
namespace L2
open PySem PySem.Spec PyProof.Rows
abbrev rv(as:List (Addr×Rat)):List V:=as.map fun x=>V.ref x.1
section
variable{X:Cx}{H:Hp}
end
theorem ua{α:Type}{xs:List α}{x:α}(h:xs.getLast?=some x):lO xs (-1)=some x:=by
 have hl:xs≠[]:=by intro z;rw[z]at h;cases h
 have hl2:0<xs.length:=List.length_pos_iff.mpr hl
 unfold lO
 have e:wG xs.length (-1)=some (xs.length -1):=by
  unfold wG
  rw[if_neg (by decide),if_pos (by lia)]
  congr 1
  lia
 rw[e]
 show xs[xs.length -1]?=_
 rw[←h,List.getLast?_eq_getElem?]
end L2
namespace Num
theorem xR(a b q:Int):Int.gcd b (a -q*b)=Int.gcd a b:=by
 apply Nat.dvd_antisymm
 ·apply Int.dvd_gcd
  ·have h1:((Int.gcd b (a -q*b):Nat):Int)∣b:=Int.gcd_dvd_left ..
   have h2:((Int.gcd b (a -q*b):Nat):Int)∣(a -q*b):=Int.gcd_dvd_right ..
   have h3:=Int.dvd_add h2 (Int.dvd_mul_of_dvd_right h1:_∣q*b)
   have e:a -q*b+q*b=a:=by lia
   rw[e]at h3
   exact h3
  ·exact Int.gcd_dvd_left ..
 ·apply Int.dvd_gcd
  ·exact Int.gcd_dvd_right ..
  ·exact Int.dvd_sub (Int.gcd_dvd_left ..) (Int.dvd_mul_of_dvd_right (Int.gcd_dvd_right ..))
theorem fl(a b:Int)(hb:b≠0):(0<b->0<=a -a.fdiv b*b/\a -a.fdiv b*b<b)/\(b<0->b<a -a.fdiv b*b/\a -a.fdiv b*b<=0):=by
 have e:=Int.mul_ediv_add_emod a b
 have h0:=Int.emod_nonneg a hb
 have h1:a%b<(b.natAbs:Int):=by
  rcases Int.lt_or_le 0 b with z|z
  ·have:=Int.emod_lt_of_pos a z
   lia
  ·have:=Int.emod_lt_of_pos a (show 0< -b by lia)
   rw[Int.emod_neg]at this
   lia
 rw[Int.fdiv_eq_ediv]
 have eb:b*(a/b)=(a/b)*b:=Int.mul_comm _ _
 constructor
 ·intro h
  rw[if_pos (Or.inl (by lia)),Int.sub_zero]
  lia
 ·intro h
  split
  ·rename_i hd
   have hz:a%b=0:=Int.emod_eq_zero_of_dvd (by lia)
   rw[Int.sub_zero]
   lia
  ·rename_i hd
   have hz:a%b≠0:=fun z=>hd (.inr (Int.dvd_of_emod_eq_zero z))
   have:(a/b -1)*b=a/b*b -b:=by rw[Int.sub_mul];lia
   lia
theorem G9(a b:Int)(hb:b≠0):(a -a.fdiv b*b).natAbs<b.natAbs:=by
 have:=fl a b hb
 omega
theorem fmod_eq(a b:Int):a.fmod b=a -a.fdiv b*b:=by
 have:=Int.mul_fdiv_add_fmod a b
 have:b*a.fdiv b=a.fdiv b*b:=Int.mul_comm _ _
 omega
theorem dz(r:Rat):(r.den:Int)≠0:=by have:=r.den_nz;lia
theorem dpos(r:Rat):(0:Int)<r.den:=by have:=r.den_pos;omega
theorem QZ{n:Int}{d:Nat}{r:Rat}(hd:d≠0)(hc:Nat.gcd n.natAbs d=1)(h:n*r.den=r.num*d):r.num=n/\(r.den:Int)=d:=by
 have e:r=⟨n,d,hd,hc⟩:=by
  rw[←Rat.num_divInt_den r,Rat.mk_eq_divInt,Rat.divInt_eq_divInt_iff (dz r) (by lia)]
  exact h.symm
 rw[e]
 exact⟨rfl,rfl⟩
theorem sE(a b:Rat):(a*b).num*(a.den*b.den:Int)=(a.num*b.num)*(a*b).den:=by
 have h2:a*b=Rat.divInt (a.num*b.num) (a.den*b.den):=by
  conv=>lhs;rw[←Rat.num_divInt_den a,←Rat.num_divInt_den b]
  exact Rat.divInt_mul_divInt _ _
 exact(Rat.divInt_eq_divInt_iff (dz _) (Int.mul_ne_zero (dz a) (dz b))).mp ((Rat.num_divInt_den (a*b)).trans h2)
theorem vg{x y m:Int}(h1:Int.gcd x m=1)(h2:Int.gcd y m=1):Int.gcd (x*y) m=1:=by
 unfold Int.gcd at*
 rw[Int.natAbs_mul]
 exact Nat.Coprime.mul_left h1 h2
theorem Hf{x y m:Int}(h1:Int.gcd m x=1)(h2:Int.gcd m y=1):Int.gcd m (x*y)=1:=by
 rw[Int.gcd_comm]at*
 exact vg h1 h2
theorem vh{x y m:Int}(h:Int.gcd x m=1)(hd:y∣m):Int.gcd x y=1:=by
 unfold Int.gcd at*
 exact Nat.Coprime.coprime_dvd_right (Int.natAbs_dvd_natAbs.mpr hd) h
theorem xS{x y m:Int}(h:Int.gcd m x=1)(hd:y∣m):Int.gcd y x=1:=by
 rw[Int.gcd_comm]at*
 exact vh h hd
theorem red(r:Rat):Int.gcd r.num r.den=1:=r.reduced
theorem pV(x y:Int)(h:y≠0):∃x' y':Int,x=(Int.gcd x y:Nat)*x'/\y=(Int.gcd x y:Nat)*y'/\Int.gcd x' y'=1/\0<((Int.gcd x y:Nat):Int):=by
 have hg:0<Int.gcd x y:=Int.gcd_pos_of_ne_zero_right _ h
 obtain⟨x',hx⟩:((Int.gcd x y:Nat):Int)∣x:=Int.gcd_dvd_left ..
 obtain⟨y',hy⟩:((Int.gcd x y:Nat):Int)∣y:=Int.gcd_dvd_right ..
 refine⟨x',y',hx,hy,?_,by lia⟩
 have e:Int.gcd ((Int.gcd x y:Nat)*x') ((Int.gcd x y:Nat)*y')=Int.gcd x y*Int.gcd x' y':=by
  rw[Int.gcd_mul_left]
  rfl
 rw[←hx,←hy]at e
 have:Int.gcd x y*1=Int.gcd x y*Int.gcd x' y':=by lia
 exact(Nat.eq_of_mul_eq_mul_left hg this).symm
theorem mE{g x x':Int}(h:x=g*x')(hg:0<g):x/g=x':=by
 rw[h]
 exact Int.mul_ediv_cancel_left _ (by lia)
theorem AF{g y y':Int}(h:y=g*y')(hg:0<g)(hy:0<y):0<y':=by
 rcases Int.lt_or_le 0 y' with z|z
 ·exact z
 ·have:=Int.mul_nonpos_of_nonneg_of_nonpos (Int.le_of_lt hg) z
  omega
theorem mF{n d:Int}{r:Rat}(hd:0<d)(hc:Int.gcd n d=1)(h:n*r.den=r.num*d):r.num=n/\(r.den:Int)=d:=by
 have e:((d.toNat:Nat):Int)=d:=by lia
 have:=QZ (n:=n) (d:=d.toNat) (r:=r) (by lia) (by unfold Int.gcd at hc;rw[show d.toNat=d.natAbs by lia];exact hc) (by rw[e];exact h)
 rw[e]at this
 exact this
theorem Hg(a b:Rat):0<((Int.gcd a.num b.den:Nat):Int)/\0<((Int.gcd b.num a.den:Nat):Int)/\
 (a*b).num=a.num/(Int.gcd a.num b.den:Nat)*(b.num/(Int.gcd b.num a.den:Nat))/\((a*b).den:Int)=(a.den:Int)/(Int.gcd b.num a.den:Nat)*((b.den:Int)/(Int.gcd a.num b.den:Nat)):=by
 obtain⟨x,y,hx,hy,hxy,hf⟩:=pV a.num b.den (dz b)
 obtain⟨z,w,hz,hw,hzw,hs⟩:=pV b.num a.den (dz a)
 generalize((Int.gcd a.num b.den:Nat):Int)=f at*
 generalize((Int.gcd b.num a.den:Nat):Int)=s at*
 have py:=AF hy hf (dpos b)
 have pw:=AF hw hs (dpos a)
 have cop:Int.gcd (x*z) (w*y)=1:=by
  have c1:Int.gcd x w=1:=vh (xS (red a) ⟨f,by rw[hx];grind⟩) ⟨s,by rw[hw];grind⟩
  have c2:Int.gcd z y=1:=vh (xS (red b) ⟨s,by rw[hz];grind⟩) ⟨f,by rw[hy];grind⟩
  exact Hf (vg c1 hzw) (vg hxy c2)
 have Hh:x*z*(a*b).den=(a*b).num*(w*y):=by
  have hc:=sE a b
  have e1:(a.den*b.den:Int)=(f*s)*(w*y):=by rw[hw,hy];grind
  have e2:a.num*b.num=(f*s)*(x*z):=by rw[hx,hz];grind
  rw[e1,e2]at hc
  have nz:f*s≠0:=Int.mul_ne_zero (by lia) (by lia)
  have:(f*s)*((a*b).num*(w*y))=(f*s)*(x*z*(a*b).den):=by grind
  exact(Int.eq_of_mul_eq_mul_left nz this).symm
 have fin:=mF (r:=a*b) (Int.mul_pos pw py) cop Hh
 refine⟨hf,hs,?_,?_⟩
 ·rw[fin.1,mE hx hf,mE hz hs]
 ·rw[fin.2,mE hw hs,mE hy hf]
theorem inv_pos(b:Rat)(h:0<b.num):b⁻¹.num=b.den/\(b⁻¹.den:Int)=b.num:=by
 refine mF h (by rw[Int.gcd_comm];exact red b) ?_
 have:=(Rat.divInt_eq_divInt_iff (dz b⁻¹) (show b.num≠0 by omega)).mp ((Rat.num_divInt_den b⁻¹).trans (Rat.inv_def b))
 grind
theorem inv_neg(b:Rat)(h:b.num<0):b⁻¹.num= -b.den/\(b⁻¹.den:Int)= -b.num:=by
 refine mF (by lia) ?_ ?_
 ·rw[Int.gcd_neg,Int.neg_gcd,Int.gcd_comm]
  exact red b
 ·have:=(Rat.divInt_eq_divInt_iff (dz b⁻¹) (show b.num≠0 by lia)).mp ((Rat.num_divInt_den b⁻¹).trans (Rat.inv_def b))
  grind
noncomputable def Bd(n:Nat)(r:Rat):Prop:=r.num.natAbs<2^n/\r.den<2^n
theorem Q0{n:Int}{d:Nat}(hd:d≠0):(mkRat n d).num.natAbs<=n.natAbs/\(mkRat n d).den<=d:=by
 obtain⟨m,hm,h1,h2⟩:=Rat.mkRat_num_den hd (show mkRat n d=⟨(mkRat n d).num,(mkRat n d).den,(mkRat n d).den_nz,(mkRat n d).reduced⟩from rfl)
 constructor
 ·have:n.natAbs=(mkRat n d).num.natAbs*m:=by
   conv=>lhs;rw[h1]
   rw[Int.natAbs_mul,Int.natAbs_natCast]
  rw[this]
  exact Nat.le_mul_of_pos_right _ (by lia)
 ·conv=>rhs;rw[h2]
  exact Nat.le_mul_of_pos_right _ (by lia)
theorem lt_mul{x y n m:Nat}(h1:x<2^n)(h2:y<2^m):x*y<2^(n+m):=by
 rw[Nat.pow_add]
 rcases Nat.eq_zero_or_pos y with z|z
 ·subst z
  have:=Nat.mul_pos (Nat.pow_pos (n:=n) (show 0<2 by decide)) (Nat.pow_pos (n:=m) (show 0<2 by decide))
  omega
 ·exact Nat.lt_of_lt_of_le (Nat.mul_lt_mul_of_pos_right h1 z) (Nat.mul_le_mul_left _ (Nat.le_of_lt h2))
theorem Hi{n m:Nat}{a b:Rat}(h1:Bd n a)(h2:Bd m b):Bd (n+m) (a*b):=by
 have q:=Q0 (n:=a.num*b.num) (d:=a.den*b.den) (Nat.mul_ne_zero a.den_nz b.den_nz)
 rw[←Rat.mul_def']at q
 have l1:=lt_mul h1.1 h2.1
 have l3:=lt_mul h1.2 h2.2
 rw[Int.natAbs_mul]at q
 exact⟨by omega,by omega⟩
theorem Q2{n:Nat}{a:Rat}(h:Bd n a):Bd n (-a):=⟨by rw[Rat.neg_num,Int.natAbs_neg];exact h.1,by rw[Rat.neg_den];exact h.2⟩
theorem B9{n m:Nat}{a:Rat}(h:Bd n a)(hm:n<=m):Bd m a:=⟨Nat.lt_of_lt_of_le h.1 (Nat.pow_le_pow_right (by decide) hm),Nat.lt_of_lt_of_le h.2 (Nat.pow_le_pow_right (by decide) hm)⟩
theorem Q3{n:Nat}{a:Rat}(h:Bd n a)(hz:a.num≠0):Bd n a⁻¹:=by
 obtain⟨h1,h2⟩:=h
 rcases Int.lt_or_le 0 a.num with z|z
 ·obtain⟨e1,e2⟩:=inv_pos a z
  exact⟨by rw[e1];omega,by omega⟩
 ·obtain⟨e1,e2⟩:=inv_neg a (by omega)
  exact⟨by rw[e1];omega,by omega⟩
end Num
namespace VL
open PySem PySem.Spec
open PyProof.Rows hiding St
open L2
noncomputable def wq(r:Rat):W:=.tup [.int r.num,.int r.den]
noncomputable def aA(rs:List Rat):W:=.lst (rs.map wq)
section
variable{K:PySem.W.Frag}{A:Addr->Prop}{H H':Hp}{v:V}{p:Addr}{r:Rat}{rs:List Rat}
end
noncomputable def aO:List b6->Nat->b6
 |[],_=>fun _ _ _=>False
 |x::_,0=>x
 |_::l,n+1=>aO l n
noncomputable def bI:List W->Nat->W
 |[],_=>.aU
 |x::_,0=>x
 |_::l,n+1=>bI l n
section
variable{Q:W->Prop}{l a b:List W}{i j:Int}{x y:Str}{p q:Bool}
theorem x_len:sd .len [.lst l] Q=Q (.int l.length):=rfl
theorem E7{ns:List Int}:sd .len [.jj ns] Q=Q (.int ns.length):=rfl
theorem E6:sd .len [.tup l] Q=Q (.int l.length):=rfl
theorem L1:sd .abs [.int i] Q=Q (.int (if i<0 then-i else i)):=rfl
theorem L3:sd .max2 [.int i,.int j] Q=Q (.int (if j>i then j else i)):=rfl
theorem L5:sd .min2 [.int i,.int j] Q=Q (.int (if j<i then j else i)):=rfl
theorem UY:sd .sum [.lst l] Q=∃ns:List Int,l=ns.map W.int/\Q (.int ns.sum):=rfl
theorem MX:sd .all [.lst l] Q=∃bs:List Bool,l=bs.map W.bl/\Q (.bl (bs.all id)):=rfl
theorem E8:sd .list [.lst l] Q=Q (.lst l):=rfl
theorem Bl:sd .list [.tup l] Q=Q (.lst l):=rfl
theorem Bm:sd .tuple [.lst l] Q=Q (.tup l):=rfl
theorem wM:sd .tuple [.tup l] Q=Q (.tup l):=rfl
theorem Ca{w:W}{n:String}:sd .zC [w,.ty n] Q=∃a,Zb w=some a/\Q (.bl (DY a n)):=rfl
theorem L6:gZ .Add (.int i) (.int j) Q=Q (.int (i+j)):=rfl
theorem L7:gZ .Add (.lst a) (.lst b) Q=(a.length+b.length<=sizeLine/\Q (.lst (a++b))):=rfl
theorem XO:gZ .Add (.tup a) (.tup b) Q=(a≠[]/\a.length+b.length<=sizeLine/\Q (.tup (a++b))):=rfl
theorem L8:gZ .Sub (.int i) (.int j) Q=Q (.int (i -j)):=rfl
theorem Ma:gZ .Mult (.int i) (.int j) Q=(IntMulOk i j/\Q (.int (i*j))):=rfl
theorem Mb:gZ .Mult (.lst a) (.int j) Q=(-(2^63)<=j/\j<2^63/\a.length*j.toNat<=sizeLine/\Q (.lst (List.replicate j.toNat a).flatten)):=rfl
theorem E9:gZ .FloorDiv (.int i) (.int j) Q=(tO i j/\Q (.int (i.fdiv j))):=rfl
theorem Mc:gZ .Mod (.int i) (.int j) Q=(j≠0/\Q (.int (i.fmod j))):=rfl
theorem Me:gZ .Pow (.int i) (.int j) Q=(sj i j/\Q (.int (i^j.toNat))):=rfl
theorem Mf:gZ .RShift (.int i) (.int j) Q=(0<=j/\Q (.int (i/2^j.toNat))):=rfl
theorem Sq:cH .Eq (.int i) (.int j) Q=Q (.bl (decide (i=j))):=rfl
theorem Su:cH .NotEq (.int i) (.int j) Q=Q (.bl (!decide (i=j))):=rfl
theorem x_lt:cH .Lt (.int i) (.int j) Q=Q (.bl (decide (i<j))):=rfl
theorem Sv:cH .LtE (.int i) (.int j) Q=Q (.bl (decide (i<=j))):=rfl
theorem Sw:cH .Gt (.int i) (.int j) Q=Q (.bl (decide (j<i))):=rfl
theorem Sx:cH .GtE (.int i) (.int j) Q=Q (.bl (decide (j<=i))):=rfl
theorem UZ:cH .Eq (.lst a) (.lst b) Q=(((fE 9 (.lst a)=true/\fE 9 (.lst b)=true)\/(gU 9 (.lst a)=true/\gU 9 (.lst b)=true))/\∀k:Bool,(k=true↔W.lst a=.lst b)->Q (.bl k)):=rfl
theorem Zx:cH .NotEq (.lst a) (.lst b) Q=(((fE 9 (.lst a)=true/\fE 9 (.lst b)=true)\/(gU 9 (.lst a)=true/\gU 9 (.lst b)=true))/\∀k:Bool,(k=true↔W.lst a=.lst b)->Q (.bl (!k))):=rfl
theorem Zy:cH .Eq (.tup a) (.tup b) Q=(((fE 9 (.tup a)=true/\fE 9 (.tup b)=true)\/(gU 9 (.tup a)=true/\gU 9 (.tup b)=true))/\∀k:Bool,(k=true↔W.tup a=.tup b)->Q (.bl k)):=rfl
theorem Zz:cH .NotEq (.tup a) (.tup b) Q=(((fE 9 (.tup a)=true/\fE 9 (.tup b)=true)\/(gU 9 (.tup a)=true/\gU 9 (.tup b)=true))/\∀k:Bool,(k=true↔W.tup a=.tup b)->Q (.bl (!k))):=rfl
theorem Bo{Q:Bool->Prop}:truth (.bl p) Q=Q p:=rfl
theorem Sy:OA (.lst l) (.int i) Q=∃w,lO l i=some w/\Q w:=rfl
theorem Mh{ns:List Int}:OA (.jj ns) (.int i) Q=∃n,lO ns i=some n/\Q (.int n):=rfl
theorem Mi{ns:List Int}{lo hi:Option Int}:Wa (.jj ns) lo hi Q=Q (.lst (ly (ns.map W.int) lo hi)):=rfl
theorem Mg:OA (.tup l) (.int i) Q=∃w,lO l i=some w/\Q w:=rfl
theorem Sz{lo hi:Option Int}:Wa (.lst l) lo hi Q=Q (.lst (ly l lo hi)):=rfl
theorem Mj{w:W}{Q:Option Int->Prop}:J0 .aU w Q=Q none:=rfl
theorem Ml{n:Int}{Q:Option Int->Prop}:J0 (.int n) (.int i) Q=Q (some i):=rfl
theorem Mm{n:Nat}{Q:Option Int->Prop}:J0 (.var n) (.int i) Q=Q (some i):=rfl
theorem Mn{o:Operator}{c d:CE}{Q:Option Int->Prop}:J0 (.bin o c d) (.int i) Q=Q (some i):=rfl
theorem Bp{Q:List W->Prop}:items (.lst l) Q=Q l:=rfl
theorem wN{Q:List W->Prop}:items (.tup l) Q=Q l:=rfl
theorem SA{n:Nat}{w:W}{ε:Ev}{Q:Ev->Prop}:wT true [n] w ε Q=Q (ε.set n (some w)):=rfl
theorem SD{ts:List Nat}{ε:Ev}{Q:Ev->Prop}:wT false ts (.tup l) ε Q=(l.length=ts.length/\Q (bf ε ts l)):=by
 cases ts<;>rfl
theorem Mp{i j:Nat}{ε:Ev}{Q:Ev->Prop}:wT false [i,j] (.tup l) ε Q=(l.length=2/\Q (bf ε [i,j] l)):=rfl
theorem Mq{i j k:Nat}{ε:Ev}{Q:Ev->Prop}:wT false [i,j,k] (.tup l) ε Q=(l.length=3/\Q (bf ε [i,j,k] l)):=rfl
theorem Fb{A B:Prop}:(if true=true then A else B)=A:=rfl
theorem Bq{A B:Prop}:(if false=true then A else B)=B:=rfl
end
noncomputable def WN{α:Type}(S:α->Ev)(J:α->Prop)(μ:α->Nat)(s:α):Ev->Prop:=fun ε'=>∃s',ε'=S s'/\J s'/\μ s'<μ s
noncomputable def XQ{α:Type}(S:α->Ev)(J:α->Prop)(μ:α->Nat)(b:Dn->Ev->Prop)(D:Dn)(s:α)(k:Bool):Prop:=
 if k=true then∃N:Ev->Prop,(∀ε',N ε'->∃m',m'<μ s/\∃s',ε'=S s'/\m'=μ s'/\J s')/\b {nx:=N,rt:=D.rt,bk:=D.nx,ct:=N,ex:=fun _=>False} (S s)else D.nx (S s)
theorem dP{α:Type}{S:α->Ev}{J:α->Prop}{μ:α->Nat}{b:Dn->Ev->Prop}{D:Dn}{s:α}{k:Bool}(h1:k=true->b {nx:=WN S J μ s,rt:=D.rt,bk:=D.nx,ct:=WN S J μ s,ex:=fun _=>False} (S s))(h2:k=false->D.nx (S s)):XQ S J μ b D s k:=by
 unfold XQ
 cases k with
 |true=>exact⟨_,by rintro ε' ⟨s',e,j,l⟩;exact⟨_,l,s',e,rfl,j⟩,h1 rfl⟩
 |false=>exact h2 rfl
theorem iU{c:Ev->(Bool->Prop)->Prop}{b:Dn->Ev->Prop}{D:Dn}{ε:Ev}{α:Type}(S:α->Ev)(J:α->Prop)(μ:α->Nat)(s0:α)(e0:ε=S s0)(h0:J s0)(hs:∀s,J s->c (S s) (XQ S J μ b D s)):OC c b D ε:=by
 refine⟨fun m ε=>∃s,ε=S s/\m=μ s/\J s,⟨_,s0,e0,rfl,h0⟩,?_⟩
 rintro m _ ⟨s,rfl,rfl,j⟩
 exact hs s j
theorem cY{α:Type}{f:W->(Option W->Prop)->Prop}{h g:α->W}:∀(ws:List α) (acc:List W) (Q:List W->Prop),(∀x∈ws,∀K:Option W->Prop,K (some (g x))->f (h x) K)->acc.length+ws.length<=sizeLine->Q (acc++ws.map g)->j9 f (ws.map h) acc Q
 |[],acc,Q,_,_,q=>by
  rw[List.map_nil,j9]
  simpa using q
 |w::ws,acc,Q,hh,l,q=>by
  rw[List.map_cons,j9]
  refine hh w (List.mem_cons_self ..) _ ⟨?_,cY ws _ Q (fun x hx=>hh x (List.mem_cons_of_mem _ hx)) ?_ ?_⟩
  ·rw[List.length_cons]at l
   lia
  ·rw[List.length_append,List.length_singleton]
   rw[List.length_cons]at l
   lia
  ·rw[List.append_assoc]
   exact q
theorem gC{α:Type}(x:α):∀n,(List.replicate n [x]).flatten=List.replicate n x
 |0=>rfl
 |n+1=>by rw[List.replicate_succ,List.flatten_cons,gC x n];rfl
theorem pW{rs:List Rat}{y:Rat}(h0:0<rs.length)(h:rs.getD (rs.length -1) 0=y):rs.getLast?=some y:=by
 rw[List.getLast?_eq_getElem?,List.getElem?_eq_getElem (by omega)]
 rw[List.getD_eq_getElem?_getD,List.getElem?_eq_getElem (by omega)]at h
 exact congrArg some h
theorem fM{rs:List Rat}{y:Rat}(h:rs.getLast?=some y):lO (rs.map wq) (-1)=some (wq y):=ua (by rw[List.getLast?_map,h];rfl)
theorem af{n:Nat}(h:n<=1000):n<=sizeLine:=Nat.le_trans h (by decide)
theorem aF(K:PySem.W.Frag):xq K:=by
 intro a ha b hb
 simp only[List.mem_cons,List.not_mem_nil,or_false]at ha hb
 rcases ha with rfl|rfl|rfl|rfl|rfl|rfl<;>rcases hb with rfl|rfl|rfl|rfl|rfl|rfl<;>rfl
theorem dQ{n:Nat}(h:n<=1000):n<sizeLine:=Nat.lt_of_le_of_lt h (by decide)
theorem all_true{α:Type}(l:List α):(l.map fun _=>true).all id=true:=by
 induction l with
 |nil=>rfl
 |cons x l ih=>rw[List.map_cons,List.all_cons,ih];rfl
theorem vj(i:Int)(n:Nat):fE n (.int i)=true:=by
 cases n<;>rw[fE]
theorem AG(r:Rat)(n:Nat):fE (n+1) (wq r)=true:=by
 unfold wq
 rw[fE,List.all_cons,List.all_cons,vj,vj]
 rfl
theorem iV(rs:List Rat)(n:Nat):fE (n+2) (.lst (rs.map wq))=true:=by
 rw[fE,List.all_eq_true]
 intro x hx
 obtain⟨r,_,rfl⟩:=List.mem_map.mp hx
 exact AG r n
theorem Hj{r s:Rat}(h:wq r=wq s):r=s:=by
 unfold wq at h
 simp only[W.tup.injEq,List.cons.injEq,W.int.injEq,and_true]at h
 exact Rat.ext h.1 (by have:=h.2;lia)
theorem pX{rs ss:List Rat}(h:W.lst (rs.map wq)=.lst (ss.map wq)):rs=ss:=by
 rw[W.lst.injEq]at h
 exact(List.map_inj_right (fun a b e=>Hj e)).mp h
theorem lE{x y:List Rat}{Q:W->Prop}(h:∀k:Bool,(k=true↔x=y)->Q (.bl k)):cH .Eq (aA x) (aA y) Q:=
 ⟨.inl ⟨iV x 7,iV y 7⟩,fun k hk=>h k (hk.trans ⟨fun e=>pX e,fun e=>by rw[e]⟩)⟩
theorem AH{x y:List Rat}{Q:W->Prop}(h:∀k:Bool,(k=true↔x=y)->Q (.bl (!k))):cH .NotEq (aA x) (aA y) Q:=
 ⟨.inl ⟨iV x 7,iV y 7⟩,fun k hk=>h k (hk.trans ⟨fun e=>pX e,fun e=>by rw[e]⟩)⟩
theorem U0{x y:Rat}{Q:W->Prop}(h:∀k:Bool,(k=true↔x=y)->Q (.bl k)):cH .Eq (wq x) (wq y) Q:=
 ⟨.inl ⟨AG x 8,AG y 8⟩,fun k hk=>h k (hk.trans ⟨fun e=>Hj e,fun e=>by rw[e]⟩)⟩
theorem bX{k:Bool}{p:Prop}(h:k=true↔p)(q:p):k=true:=h.mpr q
theorem dS{k:Bool}{p:Prop}(h:k=true↔p)(q:¬p):k=false:=by
 cases k with
 |false=>rfl
 |true=>exact absurd (h.mp rfl) q
noncomputable def Hd(K:PySem.W.Frag)(x:Str)(st:Stmt):Prop:=∃(f:Addr) (od an:Option Addr) (sl:Array (Option Value)) (oc kV dc pm cd ct:Value),
 PySem.W.nsIn K mainGlobals x=some (some (.ref f))/\K.lookup f=some ⟨oc,od,.func (PySem.W.fnOf x x (cP st) (ah st) (aa st) .none kV dc pm an cd ct),sl⟩/\PySem.W.codeIn K cd x=true/\PySem.W.keepIn K (.ref f)=true
noncomputable def Hm(K:PySem.W.Frag)(C:Addr)(x q:Str)(st:Stmt):Prop:=∃(f:Addr) (od an:Option Addr) (sl:Array (Option Value)) (oc kV dc pm cd ct:Value),
 PySem.W.findIn K (.ref C) x=some (some (.ref f))/\PySem.W.isFn K (.ref f)=true/\K.lookup f=some ⟨oc,od,.func (PySem.W.fnOf x q (cP st) (ah st) (aa st) .none kV dc pm an cd ct),sl⟩/\PySem.W.codeIn K cd q=true/\PySem.W.keepIn K (.ref f)=true
structure Df(K:PySem.W.Frag)(mg:Str->Option Value)(x:Str)(st:Stmt)(ps:List Str)(f:Addr)(fd:FuncData):Prop where
 F:FT K x x st f fd
 m:mg x=some (.ref f)
 b:Binds K fd ps []
 bt:∀(s:Shared) (us:List Value),us.length=ps.length->BindsTo s fd ⟨us,[]⟩ (ps.zip us)
structure Dm(K:PySem.W.Frag)(C:Addr)(x q:Str)(st:Stmt)(ps:List Str)(f:Addr)(fd:FuncData):Prop where
 F:FT K x q st f fd
 M:Meth K C x f
 b:Binds K fd ps []
abbrev jY(x q:Str)(st:Stmt)(ps:List Str):Prop:=∀(kV doc pm:Value) (an:Option Addr) (cdv ct:Value) (us:List Value),us.length=ps.length->bindArgs (PySem.W.fnOf x q (cP st) (ah st) (aa st) .none kV doc pm an cdv ct) ⟨us,[]⟩=pure (ps.zip us)
theorem aX{K:PySem.W.Frag}{h:Heap}{mg:Str->Option Value}{x:Str}{st:Stmt}{ps:List Str}(X:K.In h)(G:h.Ns mainGlobals mg)(hd:Hd K x st)(b:jY x x st ps):∃f fd,Df K mg x st ps f fd:=by
 obtain⟨f,od,an,sl,oc,kV,dc,pm,cd,ct,a,l,c,k⟩:=hd
 have F:=FU (st:=st) l c k
 exact⟨f,_,F,PySem.W.mg_of X G a,F.binds b,fun s us hl=>.of_eq (b kV dc pm an cd ct us hl)⟩
theorem Hl{K:PySem.W.Frag}{C:Addr}{x q:Str}{st:Stmt}{ps:List Str}(hd:Hm K C x q st)(b:jY x q st ps):∃f fd,Dm K C x q st ps f fd:=by
 obtain⟨f,od,an,sl,oc,kV,dc,pm,cd,ct,a,i,l,c,k⟩:=hd
 have F:=FU (st:=st) l c k
 exact⟨f,_,F,⟨a,i,k⟩,F.binds b⟩
structure Hc(K:PySem.W.Frag)(mg:Str->Option Value)(x:Str)(C:Addr)(fs:List Str):Prop where
 c:mg x=some (.ref C)
 ok:Ah K C fs
 mks:PySem.W.makesIn K C=true
 kp:PySem.W.keepIn K (.ref C)=true
theorem AI{K:PySem.W.Frag}{H:Hp}{a:Addr}{ns:List Int}(hO:FP H)(hS:jV K H a (ns.map V.int)):Rep K (fun _=>False) H (.jj ns) (.ref a):=by
 rw[Rep]
 refine⟨a,rfl,?_⟩
 rcases hS with(h|⟨o,h⟩)|h
 ·rcases hO a with z|⟨o,xs,z⟩
  ·rw[z]at h
   cases h
  ·rw[z]at h
   cases h
 ·exact .inl ⟨o,h⟩
 ·exact .inr (.inr h)
noncomputable def Lj:b6:=fun ws Q _=>∃ns:List Int,ws=[.jj ns]/\ns.length<=63/\Q (.bl true)
noncomputable def Cb(K:PySem.W.Frag):Sp:=fun vs H Q _=>∃(a:Addr) (ns:List Int),vs=[.ref a]/\FP H/\jV K H a (ns.map V.int)/\ns.length<=63/\∀H',Q (.bl true) H'
theorem Q4{P:Program}{w:World}{K:PySem.W.Frag}{mg:Str->Option Value}{base:Heap}{k:Nat}{f:Addr}{fd:FuncData}{x:Str}(F:aL P w K mg base (cV P w) k f fd [x] (MI K 1 .s Lj)):aL P w K mg base TJ k f fd [x] (Cb K):=by
 refine(aL.TN F).imp fun vs H Q E ⟨a,ns,e,hO,hS,hl,q⟩=>?_
 subst e
 refine⟨fun _=>False,[.jj ns],fun w=>w=.bl true,fun _=>False,rfl,.cons (AI hO hS) .nil,fun _ z=>z.elim,⟨ns,rfl,hl,rfl⟩,fun w v H' hw _ r=>?_,fun _ _ z=>z.elim⟩
 subst hw
 have r:=r.bE
 rw[Rep]at r
 subst r
 exact q H'
theorem walk{l:PySem.W.OpenLaw}{q:Program}{loose:List Str}{XP:(Str->Option Value)->Heap->Prop}{YP:World->Heap->Prop}{d:DefRec}{K:Params->PySem.W.Frag}{k:Nat}(hn:l.most=some 63)(hdf:d.params.defaults=[])(hr:dN k callerA)
 (hY:∀(w:World) (h:Heap),YP w h->(K w.params).In h)
 (F:∀(w:World) (mg:Str->Option Value) (fa:Addr) (h:Heap),(K w.params).In h->h.Ns mainGlobals mg->mg d.name=some (.ref fa)->
   ∃fd:FuncData,(∀(s:Shared) (u:Value),BindsTo s fd ⟨[u],[]⟩ [("_law_script",u)])/\∀base:Heap,(K w.params).In base->base.Ns mainGlobals mg->aL l.prog w (K w.params) mg base TJ k fa fd ["_law_script"] (Cb (K w.params))):
 PySem.W.WalkO q loose XP YP l.row.toRowW d [] (fun f us=>PySem.call f us):=
 L2.JP (n:=63) (k:=k) (x:="_law_script") (CX:=fun _=>TJ) (sp:=fun w=>Cb (K w.params)) hn (by decide) hdf hr hY F (fun _ _ a ns hl hO hS=>⟨a,ns,rfl,hO,hS,hl,fun _=>rfl⟩) fun _ _ _ _ _ z=>z
def Wg:b6:=fun _ _ _=>False
theorem Ho{P:Program}{w:World}{K:PySem.W.Frag}{mg:Str->Option Value}{base:Heap}{k n:Nat}{f:Addr}{fd:FuncData}{ps:List Str}:aL P w K mg base (cV P w) k f fd ps (eY K n .s Wg):=
 ⟨by rintro vs H Q E ⟨_,_,_,_,_,_,_,z,_⟩;exact z.elim,by rintro A outer s H args us vs Q E hr e0 hb r ⟨_,_,_,_,_,_,_,z,_⟩;exact z.elim⟩
theorem Df.dH{P:Program}{w:World}{K:PySem.W.Frag}{mg:Str->Option Value}{base:Heap}{x:Str}{st:Stmt}{ps:List Str}{f:Addr}{fd:FuncData}{k n:Nat}{m:Md}{sp:b6}(D:Df K mg x st ps f fd)(F:aL P w K mg base (cV P w) k f fd ps (eY K n m sp))(hn:n=ps.length)(hs:∀ws P R,sp ws P R->ws.length=n){k':Nat}(hk:k<=k'):
 ∃fv n k'',mg x=some fv/\gi P w K mg base k'' fv n (eY K n m sp)/\k''<=k'/\∀ws P R,sp ws P R->ws.length=n:=by
 subst hn
 exact⟨_,_,k,D.m,.fn D.F.kp D.b F,hk,hs⟩
theorem Dm.dH{P:Program}{w:World}{K:PySem.W.Frag}{mg:Str->Option Value}{base:Heap}{x q:Str}{st:Stmt}{ps:List Str}{C f:Addr}{fd:FuncData}{k n:Nat}{m:Md}{sp:b6}(D:Dm K C x q st ps f fd)(F:aL P w K mg base (cV P w) k f fd ps (eY K n m sp))(hs:∀ws P R,sp ws P R->ws.length=n){k':Nat}(hk:k<=k'){G:W}(hG:G=.cls C):
 ∃f fd ps n k'',(∀C,G=.cls C->Meth K C x f)/\Binds K fd ps []/\aL P w K mg base (cV P w) k'' f fd ps (eY K n m sp)/\k''<=k'/\∀ws P R,sp ws P R->ws.length=n:=
 ⟨f,fd,ps,n,k,fun C' e=>by rw[hG]at e;cases e;exact D.M,D.b,F,hk,hs⟩
end VL
namespace Num
noncomputable def cf(as bs:List Int):Nat->Nat->Int
 |0,_=>0
 |i+1,k=>cf as bs i k+as.getD i 0*(if i<=k then bs.getD (k -i) 0 else 0)
noncomputable def E3(as bs:List Int)(i j k:Nat):Int:=cf as bs i k+(if i<=k/\k<i+j then as.getD i 0*bs.getD (k -i) 0 else 0)
theorem Hq(as bs:List Int)(i k:Nat):E3 as bs i 0 k=cf as bs i k:=by
 unfold E3
 rw[if_neg (by lia)]
 lia
theorem Hr(as bs:List Int)(i k:Nat):E3 as bs i bs.length k=cf as bs (i+1) k:=by
 unfold E3
 rw[cf]
 by_cases h:i<=k
 ·by_cases h2:k<i+bs.length
  ·rw[if_pos ⟨h,h2⟩,if_pos h]
  ·have e:bs.getD (k -i) 0=0:=by
    rw[List.getD_eq_getElem?_getD,List.getElem?_eq_none (by lia)]
    rfl
   rw[if_neg (by lia),if_pos h,e,Int.mul_zero]
 ·rw[if_neg (by lia),if_neg h,Int.mul_zero]
theorem xT(as bs:List Int)(i j k:Nat):E3 as bs i (j+1) k=E3 as bs i j k+(if k=i+j then as.getD i 0*bs.getD j 0 else 0):=by
 unfold E3
 by_cases h:k=i+j
 ·subst h
  rw[if_pos (by lia),if_neg (by lia),if_pos rfl,Nat.add_sub_cancel_left]
  lia
 ·rw[if_neg h]
  by_cases h2:i<=k/\k<i+j
  ·rw[if_pos (by lia),if_pos h2]
   lia
  ·rw[if_neg (by lia),if_neg h2]
   lia
theorem Lk{as bs:List Int}{i:Nat}(h:as.getD i 0=0)(k:Nat):cf as bs (i+1) k=cf as bs i k:=by
 rw[cf,h,Int.zero_mul,Int.add_zero]
theorem iC(as bs:List Int)(k:Nat):∀i,i+bs.length<=k+1->cf as bs i k=0
 |0,_=>rfl
 |i+1,h=>by
  rw[cf,iC as bs k i (by lia)]
  have e:bs.getD (k -i) 0=0:=by
   rw[List.getD_eq_getElem?_getD,List.getElem?_eq_none (by lia)]
   rfl
  rw[if_pos (by lia),e,Int.mul_zero]
  rfl
theorem vm(as bs:List Int)(ha:0<as.length)(hb:0<bs.length):cf as bs as.length (as.length+bs.length -2)=as.getD (as.length -1) 0*bs.getD (bs.length -1) 0:=by
 obtain⟨m,hm⟩:∃m,as.length=m+1:=⟨as.length -1,by lia⟩
 rw[hm,cf,iC as bs _ m (by clear hm hb ha;lia),if_pos (by lia),Int.zero_add]
 congr 2<;>lia
noncomputable def g7(ns ms:List Int):Prop:=∃k,k<=ns.length/\ms=ns.take k/\(∀j,k<=j->j<ns.length->ns.getD j 0=0)/\(k=0\/ns.getD (k -1) 0≠0)
theorem g7.last{ns ms:List Int}(h:g7 ns ms):ms=[]\/ms.getD (ms.length -1) 0≠0:=by
 obtain⟨k,k1,rfl,k2,k3⟩:=h
 rcases k3 with q|q
 ·left;rw[q];rfl
 ·by_cases hk:k=0
  ·left;rw[hk];rfl
  ·right
   rw[List.length_take,Nat.min_eq_left k1,List.getD_eq_getElem?_getD,List.getElem?_take_of_lt (by lia),←List.getD_eq_getElem?_getD]
   exact q
theorem g7.mem{ns ms:List Int}(h:g7 ns ms):∀m∈ms,m∈ns:=by
 obtain⟨k,_,rfl,_⟩:=h
 exact fun m hm=>List.mem_of_mem_take hm
theorem xU(t b:Int)(hb:b≠0):((if b<0 then-((Int.gcd t b:Nat):Int)else((Int.gcd t b:Nat):Int))≠0)/\(Rat.divInt t b).num=t.fdiv (if b<0 then-((Int.gcd t b:Nat):Int)else((Int.gcd t b:Nat):Int))/\
 ((Rat.divInt t b).den:Int)=b.fdiv (if b<0 then-((Int.gcd t b:Nat):Int)else((Int.gcd t b:Nat):Int)):=by
 obtain⟨x,y,hx,hy,hxy,hg⟩:=pV t b hb
 have Hh:=(Rat.divInt_eq_divInt_iff (dz (Rat.divInt t b)) hb).mp (Rat.num_divInt_den (Rat.divInt t b))
 generalize((Int.gcd t b:Nat):Int)=g at*
 generalize Rat.divInt t b=r at*
 have gz:g≠0:=by lia
 have c2:x*r.den=r.num*y:=by
  rw[hx,hy]at Hh
  have:g*(x*r.den)=g*(r.num*y):=by grind
  exact Int.eq_of_mul_eq_mul_left gz this
 rcases Int.lt_or_le b 0 with z|z
 ·rw[if_pos z]
  have py:0< -y:=by
   rcases Int.lt_or_le 0 (-y)with q|q
   ·exact q
   ·have:=Int.mul_nonneg (Int.le_of_lt hg) (show 0<=y by lia)
    lia
  have fin:=mF (n:= -x) (d:= -y) (r:=r) py (by rw[Int.gcd_neg,Int.neg_gcd];exact hxy) (by grind)
  have ng: -g≠0:=by lia
  refine⟨ng,?_,?_⟩
  ·rw[fin.1,hx,show g*x= -g* -x by grind,Int.mul_fdiv_cancel_left _ ng]
  ·rw[fin.2,hy,show g*y= -g* -y by grind,Int.mul_fdiv_cancel_left _ ng]
 ·rw[if_neg (by lia)]
  have py:=AF hy hg (by lia)
  have fin:=mF (r:=r) py hxy c2
  refine⟨gz,?_,?_⟩
  ·rw[fin.1,hx,Int.mul_fdiv_cancel_left _ gz]
  ·rw[fin.2,hy,Int.mul_fdiv_cancel_left _ gz]
theorem AJ(t b:Int)(hb:b≠0):(Rat.divInt t b).num*b=t*(Rat.divInt t b).den:=(Rat.divInt_eq_divInt_iff (dz _) hb).mp (Rat.num_divInt_den _)
theorem Cc(t b:Int)(hb:b≠0):(Rat.divInt t b).num.natAbs<=t.natAbs/\(Rat.divInt t b).den<=b.natAbs:=by
 have c:=AJ t b hb
 generalize Rat.divInt t b=r at*
 have hN:r.num.natAbs*b.natAbs=t.natAbs*r.den:=by
  have:=congrArg Int.natAbs c
  rw[Int.natAbs_mul,Int.natAbs_mul,Int.natAbs_natCast]at this
  exact this
 have cop:Nat.Coprime r.num.natAbs r.den:=r.reduced
 have hb':0<b.natAbs:=by lia
 have d1:r.den∣b.natAbs:=cop.symm.dvd_of_dvd_mul_left ⟨t.natAbs,by rw[hN,Nat.mul_comm]⟩
 have d2:r.num.natAbs∣t.natAbs:=cop.dvd_of_dvd_mul_right ⟨b.natAbs,hN.symm⟩
 refine⟨?_,Nat.le_of_dvd hb' d1⟩
 rcases Nat.eq_zero_or_pos t.natAbs with z|z
 ·rw[z,Nat.zero_mul]at hN
  rcases Nat.mul_eq_zero.mp hN with q|q
  ·lia
  ·lia
 ·exact Nat.le_of_dvd z d2
noncomputable def ev(x:Rat):List Rat->Rat
 |[]=>0
 |r::rs=>r+x*ev x rs
theorem Ce(x:Rat):x*((x.den:Int):Rat)=((x.num:Int):Rat):=by
 have h:=Rat.num_divInt_den x
 rw[Rat.divInt_eq_div]at h
 have:((x.den:Int):Rat)≠0:=fun z=>by
  have:=Rat.intCast_inj.mp (z.trans (show(0:Rat)=((0:Int):Rat)from rfl))
  have:=x.den_nz
  lia
 grind
theorem Q5{b:Int}(h:b≠0):(b:Rat)≠0:=fun z=>h (Rat.intCast_inj.mp (z.trans (show(0:Rat)=((0:Int):Rat)from rfl)))
theorem oq{x:Rat}{B:Int}(h:(x.den:Int)∣B):((x.num*(B/x.den):Int):Rat)=x*B:=by
 obtain⟨k,hk⟩:=h
 have e:B/(x.den:Int)=k:=by rw[hk];exact Int.mul_ediv_cancel_left _ (dz x)
 rw[e,hk,Rat.intCast_mul,Rat.intCast_mul,←Ce x]
 grind
noncomputable def sm(f:Nat->Int):Nat->Int
 |0=>0
 |n+1=>sm f n+f n
theorem gf{f g:Nat->Int}:∀n,(∀i,i<n->f i=g i)->sm f n=sm g n
 |0,_=>rfl
 |n+1,h=>by rw[sm,sm,gf n fun i hi=>h i (by lia),h n (by lia)]
theorem vn(f:Nat->Int):∀n,sm f (n+1)=f 0+sm (fun i=>f (i+1)) n
 |0=>by rw[sm,sm,sm];lia
 |n+1=>by rw[sm,vn f n,sm];lia
theorem AK(f:Nat->Int):∀n,sm (fun i=>f (n -i)) (n+1)=sm f (n+1)
 |0=>rfl
 |n+1=>by
  rw[vn,gf (g:=fun i=>f (n -i)) (n+1) fun i hi=>by congr 1;lia,AK f n]
  rw[sm,sm,sm]
  show f (n+1 -0)+(sm f n+f n)=_
  rw[Nat.sub_zero]
  lia
theorem vo{f:Nat->Int}{m:Nat}:∀n,m<=n->(∀i,m<=i->i<n->f i=0)->sm f n=sm f m
 |0,h,_=>by
  have:m=0:=by lia
  rw[this]
 |n+1,h,z=>by
  by_cases e:m=n+1
  ·rw[e]
  ·rw[sm,vo n (by lia) (fun i h1 h2=>z i h1 (by lia)),z n (by lia) (by lia),Int.add_zero]
theorem xV(as bs:List Int)(k:Nat):∀n,cf as bs n k=sm (fun i=>as.getD i 0*(if i<=k then bs.getD (k -i) 0 else 0)) n
 |0=>rfl
 |n+1=>by rw[cf,xV as bs k n,sm]
theorem pY(as bs:List Int)(k:Nat):cf as bs as.length k=sm (fun i=>as.getD i 0*bs.getD (k -i) 0) (k+1):=by
 rw[xV]
 have out:∀i,as.length<=i->as.getD i 0=0:=fun i h=>by
  rw[List.getD_eq_getElem?_getD,List.getElem?_eq_none h]
  rfl
 rcases Nat.le_total as.length (k+1)with h|h
 ·rw[←vo (k+1) h fun i h1 _=>by rw[out i h1,Int.zero_mul]]
  exact gf _ fun i hi=>by rw[if_pos (by lia)]
 ·rw[vo as.length h fun i h1 _=>by rw[if_neg (by lia),Int.mul_zero]]
  exact gf _ fun i hi=>by rw[if_pos (by lia)]
theorem Cf(as bs:List Int)(k:Nat):cf as bs as.length k=cf bs as bs.length k:=by
 rw[pY,pY,←AK]
 refine gf _ fun i hi=>?_
 show as.getD (k -i) 0*bs.getD (k -(k -i)) 0=_
 rw[show k -(k -i)=i by omega,Int.mul_comm]
noncomputable def eZ(n:Nat)(f:Nat->Rat):List Rat:=(List.range n).map f
theorem fN(n:Nat)(f:Nat->Rat):(eZ n f).length=n:=by unfold eZ;simp
theorem Cg{n:Nat}{f:Nat->Rat}{k:Nat}(h:k<n):(eZ n f)[k]?=some (f k):=by
 unfold eZ
 rw[List.getElem?_map,List.getElem?_range h]
 rfl
theorem Ht{n:Nat}{f g:Nat->Rat}{k:Nat}(h:k<n)(hg:∀j,j<n->j≠k->g j=f j):(eZ n f).set k (g k)=eZ n g:=by
 apply List.ext_getElem?
 intro j
 rw[List.getElem?_set]
 unfold eZ
 by_cases hj:k=j
 ·subst hj
  rw[if_pos rfl,if_pos (by simpa using h)]
  simp[h]
 ·rw[if_neg hj]
  by_cases hj2:j<n
  ·simp[hj2,hg j hj2 (fun z=>hj z.symm)]
  ·simp[hj2]
theorem xW{n:Nat}{f:Nat->Rat}{x:Rat}(h:x∈eZ n f):∃k,k<n/\x=f k:=by
 unfold eZ at h
 obtain⟨k,hk,rfl⟩:=List.mem_map.mp h
 exact⟨k,List.mem_range.mp hk,rfl⟩
theorem kj{rs:List Rat}{k:Nat}(h:rs.length<=k):rs.getD k 0=0:=by
 rw[List.getD_eq_getElem?_getD,List.getElem?_eq_none h]
 rfl
noncomputable def aj(l:List Rat):List Rat:=(l.reverse.dropWhile fun x=>decide (x=0)).reverse
theorem iW(l:List Rat):aj (l++[0])=aj l:=by
 unfold aj
 rw[List.reverse_append,List.reverse_singleton,List.singleton_append,List.dropWhile_cons,if_pos (by simp)]
theorem iX(l:List Rat){x:Rat}(h:x≠0):aj (l++[x])=l++[x]:=by
 unfold aj
 rw[List.reverse_append,List.reverse_singleton,List.singleton_append,List.dropWhile_cons,if_neg (by simpa using h)]
 simp
theorem lH:∀(n:Nat) (l:List Rat) (k:Nat),l.length=n->k<=l.length->(∀j,k<=j->j<l.length->l.getD j 0=0)->(k=0\/l.getD (k -1) 0≠0)->aj l=l.take k
 |0,l,k,hn,hk,_,_=>by
  have:l=[]:=List.length_eq_zero_iff.mp hn
  subst this
  simp[aj]
 |n+1,l,k,hn,hk,hz,hl=>by
  have hne:l≠[]:=fun z=>by rw[z]at hn;cases hn
  obtain⟨l',x,rfl⟩:∃l' x,l=l'++[x]:=⟨l.dropLast,l.getLast hne,(List.dropLast_concat_getLast hne).symm⟩
  have hn':l'.length=n:=by simpa using hn
  have hx:(l'++[x]).getD n 0=x:=by
   rw[List.getD_eq_getElem?_getD,List.getElem?_append_right (by lia),hn',Nat.sub_self]
   rfl
  have gl:∀j,j<n->(l'++[x]).getD j 0=l'.getD j 0:=fun j hj=>by
   rw[List.getD_eq_getElem?_getD,List.getElem?_append_left (by lia),←List.getD_eq_getElem?_getD]
  rw[List.length_append,hn']at hk hz
  simp only[List.length_cons,List.length_nil]at hk hz
  by_cases hkn:k=n+1
  ·subst hkn
   rcases hl with z|z
   ·lia
   ·rw[Nat.add_sub_cancel,hx]at z
    rw[iX _ z,List.take_of_length_le (by simp[hn'])]
  ·have x0:x=0:=by rw[←hx];exact hz n (by lia) (by lia)
   subst x0
   rw[iW,List.take_append_of_le_length (by lia)]
   refine lH n l' k hn' (by lia) (fun j h1 h2=>?_) ?_
   ·rw[←gl j (by lia)]
    exact hz j h1 (by lia)
   ·rcases hl with z|z
    ·exact .inl z
    ·by_cases k0:k=0
     ·exact .inl k0
     ·rw[gl (k -1) (by lia)]at z
      exact .inr z
theorem iD(l:List Rat):∃k,k<=l.length/\aj l=l.take k/\(k=0\/l.getD (k -1) 0≠0):=by
 generalize hn:l.length=n
 induction n generalizing l with
 |zero=>
  have:l=[]:=List.length_eq_zero_iff.mp hn
  subst this
  exact⟨0,Nat.le_refl _,rfl,.inl rfl⟩
 |succ n ih=>
  have hne:l≠[]:=fun z=>by rw[z]at hn;cases hn
  obtain⟨l',x,rfl⟩:∃l' x,l=l'++[x]:=⟨l.dropLast,l.getLast hne,(List.dropLast_concat_getLast hne).symm⟩
  have hn':l'.length=n:=by simpa using hn
  by_cases x0:x=0
  ·subst x0
   obtain⟨k,k1,k2,k3⟩:=ih l' hn'
   refine⟨k,by lia,by rw[iW,k2,List.take_append_of_le_length (by lia)],?_⟩
   rcases k3 with z|z
   ·exact .inl z
   ·by_cases k0:k=0
    ·exact .inl k0
    ·right
     rw[List.getD_eq_getElem?_getD,List.getElem?_append_left (by lia),←List.getD_eq_getElem?_getD]
     exact z
  ·refine⟨n+1,Nat.le_refl _,by rw[iX _ x0,List.take_of_length_le (by simp[hn'])],.inr ?_⟩
   rw[Nat.add_sub_cancel,List.getD_eq_getElem?_getD,List.getElem?_append_right (by lia),hn',Nat.sub_self]
   exact x0
theorem iE{l:List Rat}{x:Rat}(h:x∈aj l):x∈l:=by
 obtain⟨k,_,e,_⟩:=iD l
 rw[e]at h
 exact List.mem_of_mem_take h
theorem iF(l:List Rat):(aj l).length<=l.length:=by
 obtain⟨k,hk,e,_⟩:=iD l
 rw[e,List.length_take]
 lia
noncomputable def bJ(l:List Rat):Prop:=∀x,l.getLast?=some x->x≠0
theorem aS(l:List Rat):bJ (aj l):=fun x hx=>by
 obtain⟨k,hk,e,h⟩:=iD l
 rw[e]at hx
 rcases h with z|z
 ·rw[z]at hx
  simp at hx
 ·by_cases k0:k=0
  ·rw[k0]at hx
   simp at hx
  ·have e2:(l.take k).getLast?=some (l.getD (k -1) 0):=by
    rw[List.getLast?_eq_getElem?,List.length_take,Nat.min_eq_left hk,List.getElem?_take_of_lt (by lia),List.getD_eq_getElem?_getD,List.getElem?_eq_getElem (by lia)]
    rfl
   rw[e2]at hx
   rw[←Option.some.inj hx]
   exact z
theorem xX{l:List Rat}(h:∀x∈l,x=0):aj l=[]:=by
 rw[lH _ l 0 rfl (Nat.zero_le _) (fun j _ hj=>?_) (.inl rfl),List.take_zero]
 rw[List.getD_eq_getElem?_getD,List.getElem?_eq_getElem hj]
 exact h _ (List.getElem_mem hj)
noncomputable def nS(as bs:List Rat):Nat->Nat->Rat
 |0,_=>0
 |i+1,k=>nS as bs i k+as.getD i 0*(if i<=k then bs.getD (k -i) 0 else 0)
noncomputable def gD(as bs:List Rat)(i j k:Nat):Rat:=nS as bs i k+(if i<=k/\k<i+j then as.getD i 0*bs.getD (k -i) 0 else 0)
theorem Et(as bs:List Rat)(i k:Nat):gD as bs i 0 k=nS as bs i k:=by
 unfold gD
 rw[if_neg (by lia)]
 grind
theorem Eu(as bs:List Rat)(i k:Nat):gD as bs i bs.length k=nS as bs (i+1) k:=by
 unfold gD
 rw[nS]
 by_cases h:i<=k
 ·by_cases h2:k<i+bs.length
  ·rw[if_pos ⟨h,h2⟩,if_pos h]
  ·have e:bs.getD (k -i) 0=0:=kj (by omega)
   rw[if_neg (by omega),if_pos h,e,Rat.mul_zero]
 ·rw[if_neg (by omega),if_neg h,Rat.mul_zero]
theorem uc(as bs:List Rat)(i j k:Nat):gD as bs i (j+1) k=gD as bs i j k+(if k=i+j then as.getD i 0*bs.getD j 0 else 0):=by
 unfold gD
 by_cases h:k=i+j
 ·subst h
  rw[if_pos (by lia),if_neg (by lia),if_pos rfl,Nat.add_sub_cancel_left]
  grind
 ·rw[if_neg h]
  by_cases h2:i<=k/\k<i+j
  ·rw[if_pos (by lia),if_pos h2]
   grind
  ·rw[if_neg (by lia),if_neg h2]
   grind
noncomputable def mulQ(rs ss:List Rat):List Rat:=eZ (rs.length+ss.length -1) (nS rs ss rs.length)
theorem xY(rs:List Rat)(k:Nat):∀i,nS rs [] i k=0
 |0=>rfl
 |i+1=>by
  rw[nS,xY rs k i]
  have e:([]:List Rat).getD (k -i) 0=0:=rfl
  rw[e]
  grind
theorem Hu{rs ss:List Rat}(h:rs=[]\/ss=[]):aj (mulQ rs ss)=[]:=by
 refine xX fun x hx=>?_
 obtain⟨k,_,rfl⟩:=xW hx
 rcases h with rfl|rfl
 ·rfl
 ·exact xY _ _ _
theorem MY{n m:Nat}{as bs:List Int}(h1:∀x∈as,x.natAbs<2^n)(h2:∀x∈bs,x.natAbs<2^m)(k:Nat):∀i,(cf as bs i k).natAbs<=i*2^(n+m)
 |0=>by
  show 0<=_
  lia
 |i+1=>by
  have g:∀{n:Nat} {as:List Int} (h:∀x∈as,x.natAbs<2^n) (j:Nat),(as.getD j 0).natAbs<2^n:=fun{n as} h j=>by
   by_cases hj:j<as.length
   ·rw[List.getD_eq_getElem?_getD,List.getElem?_eq_getElem hj]
    exact h _ (List.getElem_mem hj)
   ·rw[List.getD_eq_getElem?_getD,List.getElem?_eq_none (by omega)]
    exact Nat.pow_pos (by decide)
  have ih:=MY h1 h2 k i
  have e:(as.getD i 0*(if i<=k then bs.getD (k -i) 0 else 0)).natAbs<2^(n+m):=by
   rw[Int.natAbs_mul]
   refine lt_mul (g h1 i) ?_
   split
   ·exact g h2 _
   ·exact Nat.pow_pos (by decide)
  rw[cf,Nat.add_mul]
  omega
theorem Hv{ns ms:List Int}{B:Int}(hB:B≠0)(h:g7 ns ms):ms.map (fun x=>Rat.divInt x B)=aj (ns.map fun x=>Rat.divInt x B):=by
 obtain⟨k,k1,rfl,k2,k3⟩:=h
 have g:∀j,j<ns.length->(ns.map fun x=>Rat.divInt x B).getD j 0=Rat.divInt (ns.getD j 0) B:=fun j hj=>by
  rw[List.getD_eq_getElem?_getD,List.getElem?_map,List.getD_eq_getElem?_getD,List.getElem?_eq_getElem hj]
  rfl
 have nz:∀x:Int,x≠0->Rat.divInt x B≠0:=fun x hx z=>by
  have z2:Rat.divInt x B=Rat.divInt 0 B:=by rw[z,Rat.zero_divInt]
  have:=(Rat.divInt_eq_divInt_iff hB hB).mp z2
  rw[Int.zero_mul]at this
  rcases Int.mul_eq_zero.mp this with q|q
  ·exact hx q
  ·exact hB q
 have fin:=lH _ (ns.map fun x=>Rat.divInt x B) k rfl (by rw[List.length_map];exact k1) (fun j h1 h2=>by
  rw[List.length_map]at h2
  rw[g j h2,k2 j h1 h2,Rat.zero_divInt]) (by
  rcases k3 with z|z
  ·exact .inl z
  ·by_cases k0:k=0
   ·exact .inl k0
   ·rw[g (k -1) (by omega)]
    exact .inr (nz _ z))
 rw[fin,List.map_take]
end Num
namespace VL
open PySem PySem.Spec
open PyProof.Rows hiding St
open L2 Num
abbrev b8(m:Md)(P:W->Prop)(R:Addr->Prop):Dn:=⟨fall m P,P,fun _=>False,fun _=>False,R⟩
noncomputable def wI(ns:List Int):W:=.lst (ns.map W.int)
theorem bY{b:W->Dn->Ev->Prop}{D:Dn}{ws:List W}{ε:Ev}(J:Nat->Ev->Prop)(h0:J 0 ε)(hs:∀i w ε N,ws[i]?=some w->J i ε->(∀ε',J (i+1) ε'->N ε')->b w ⟨N,D.rt,D.nx,N,fun _=>False⟩ ε)(he:∀ε,J ws.length ε->D.nx ε):pB b D ws ε:=by
 have:∀k i ε,i+k=ws.length->J i ε->pB b D (ws.drop i) ε:=by
  intro k
  induction k with
  |zero=>
   intro i ε e j
   rw[List.drop_of_length_le (by lia),pB]
   exact he ε (by rw[←e];exact j)
  |succ k ih=>
   intro i ε e j
   have hlt:i<ws.length:=by lia
   rw[List.drop_eq_getElem_cons hlt,pB]
   exact hs i _ ε _ (List.getElem?_eq_getElem hlt) j fun ε' j'=>ih (i+1) ε' (by lia) j'
 exact this ws.length 0 ε (by lia) h0
theorem aJ{x y:Int}{n m:Nat}(h:x.natAbs<2^n)(h2:y.natAbs<2^m)(hs:n+m<=134217728):IntMulOk x y:=Ab (Nat.le_trans (Nat.add_le_add (bits_le h) (bits_le h2)) hs)
theorem gg{y:Int}{n:Nat}(h:y.natAbs<2^n)(hn:n<=8000):y.natAbs.log2<9000:=by
 rcases Nat.eq_zero_or_pos y.natAbs with e|e
 ·rw[e];decide
 ·have:=(Nat.log2_lt (Nat.ne_of_gt e)).mpr h
  lia
theorem Ci(r:Rat):(r.den:Int).natAbs=r.den:=Int.natAbs_natCast _
theorem mG(r:Rat):(r.den:Int)≠0:=by have:=r.den_pos;lia
theorem U1(a b:Rat):Rat.divInt (a.num*b.den+b.num*a.den) (a.den*b.den)=a+b:=by
 conv=>rhs;rw[←Rat.num_divInt_den a,←Rat.num_divInt_den b]
 exact(Rat.divInt_add_divInt _ _ (mG a) (mG b)).symm
theorem Q6(a b:Rat):Rat.divInt (a.num*b.num) (a.den*b.den)=a*b:=by
 conv=>rhs;rw[←Rat.num_divInt_den a,←Rat.num_divInt_den b]
 exact(Rat.divInt_mul_divInt _ _).symm
noncomputable def jw:List CS:=[.ret (.comp [0] true 1 (.var 0) (.bl true) (.bin .Mult (.var 2) (.var 0)))]
noncomputable def dU:b6:=fun ws Q _=>∃(ns:List Int) (b:Int),ws=[wI ns,.int b]/\ns.length<=1000/\(∀x∈ns,IntMulOk b x)/\Q (wI (ns.map (b*·)))
theorem Hw{Φ:Nat->b6}{G:Nat->W}{m:Md}(ws:List W)(Q:W->Prop)(R:Addr->Prop)(h:dU ws Q R):wSs Φ G jw (b8 m Q R) (aq 2 ws):=by
 obtain⟨ns,b,rfl,hl,hb,hq⟩:=h
 show wSs _ _ jw _ [some (wI ns),some (.int b)]
 unfold jw wI
 walk_at "vs"
 refine cY (g:=fun x=>.int (b*x)) ns [] _ (fun x hx K hK=>⟨hb x hx,hK⟩) (af (by simpa using hl)) ?_
 rw[List.nil_append]
 unfold wI at hq
 rw[List.map_map]at hq
 exact hq
noncomputable def mH:List CS:=[.DW (.cmp .NotEq (.var 1) (.int 0)) [.par [0,1] [(.var 1),(.bin .Mod (.var 0) (.var 1))]],.ret (.blt .abs [(.var 0)])]
noncomputable def qN:b6:=fun ws Q _=>∃a b:Int,ws=[.int a,.int b]/\Q (.int (Int.gcd a b:Nat))
theorem Ll{Φ:Nat->b6}{G:Nat->W}{m:Md}(ws:List W)(Q:W->Prop)(R:Addr->Prop)(h:qN ws Q R):wSs Φ G mH (b8 m Q R) (aq 2 ws):=by
 obtain⟨a,b,rfl,hq⟩:=h
 show wSs _ _ mH _ [some (.int a),some (.int b)]
 unfold mH
 walk_at "vs"
 refine iU (α:=Int×Int) (fun x=>[some (.int x.1),some (.int x.2)]) (fun x=>Int.gcd x.1 x.2=Int.gcd a b) (fun x=>x.2.natAbs) (a,b) rfl rfl ?_
 rintro⟨x,y⟩ hx
 walk_at "vs"
 refine dP (fun hk=>?_) (fun hk=>?_)
 ·have y0:y≠0:=by simpa using hk
  have e2:=xR x y (x.fdiv y)
  have e3:=G9 x y y0
  rw[←Num.fmod_eq]at e2 e3
  walk_at "vs"
  exact⟨y0,rfl,(y,x.fmod y),rfl,e2.trans hx,e3⟩
 ·have y0:y=0:=by simpa using hk
  subst y0
  walk_at "vs"
  have e:(if x<0 then-x else x)=((Int.gcd a b:Nat):Int):=by
   rw[←hx,Int.gcd_zero_right]
   split<;>lia
  rw[e]
  exact hq
noncomputable def jx:List CS:=[.set 2 (.call 0 [(.var 0),(.var 1)]),.iff (.cmp .Lt (.var 1) (.int 0)) [.set 2 (.bin .Sub (.int 0) (.var 2))] [],.ret (.tup [(.bin .FloorDiv (.var 0) (.var 2)),(.bin .FloorDiv (.var 1) (.var 2))])]
noncomputable def dW:b6:=fun ws Q _=>∃(t b:Int) (n:Nat),ws=[.int t,.int b]/\n<=8000/\b≠0/\b.natAbs<2^n/\Q (wq (Rat.divInt t b))
theorem Hx{G:Nat->W}{m:Md}(ws:List W)(Q:W->Prop)(R:Addr->Prop)(h:dW ws Q R):wSs (aO [qN]) G jx (b8 m Q R) (aq 3 ws):=by
 obtain⟨t,b,n,rfl,hn,hb,hbn,hq⟩:=h
 show wSs _ _ jx _ [some (.int t),some (.int b),none]
 unfold jx
 walk_at "vs"
 refine⟨t,b,rfl,?_⟩
 obtain⟨f1,f2,f3⟩:=xU t b hb
 have lg:((Int.gcd t b:Nat):Int).natAbs<2^n:=by
  have:((Int.gcd t b:Nat):Int)<=b.natAbs:=Int.le_of_dvd (by clear f3 f2 f1 hbn;lia) (by rw[Int.dvd_natAbs];exact Int.gcd_dvd_right ..)
  omega
 unfold wq at hq
 generalize((Int.gcd t b:Nat):Int)=g at*
 rw[f2,f3]at hq
 by_cases h0:b<0
 ·rw[if_pos h0]at f1 hq
  rw[if_pos (decide_eq_true h0)]
  walk_at "vs"
  rw[Int.zero_sub]
  have ld:=gg (y:= -g) (by omega) hn
  exact⟨⟨f1,ld⟩,⟨f1,ld⟩,af (by simp),hq⟩
 ·rw[if_neg h0]at f1 hq
  rw[if_neg (by rw[decide_eq_true_eq];exact h0)]
  have ld:=gg (y:=g) lg hn
  exact⟨⟨f1,ld⟩,⟨f1,ld⟩,af (by simp),hq⟩
noncomputable def xZ:List CS:=[.ret (.call 0 [(.bin .Add (.bin .Mult (.ix (.var 0) (.int 0)) (.ix (.var 1) (.int 1))) (.bin .Mult (.ix (.var 1) (.int 0)) (.ix (.var 0) (.int 1)))),(.bin .Mult (.ix (.var 0) (.int 1)) (.ix (.var 1) (.int 1)))])]
noncomputable def mJ(f:Rat->Rat->Rat):b6:=fun ws Q _=>∃(a b:Rat) (n m:Nat),ws=[wq a,wq b]/\Bd n a/\Bd m b/\n+m<=8000/\Q (wq (f a b))
theorem U3{G:Nat->W}{m:Md}(ws:List W)(Q:W->Prop)(R:Addr->Prop)(h:mJ HAdd.hAdd ws Q R):wSs (aO [dW]) G xZ (b8 m Q R) (aq 2 ws):=by
 obtain⟨a,b,n,k,rfl,ba,bb,hnm,hq⟩:=h
 show wSs _ _ xZ _ [some (wq a),some (wq b)]
 have bad:(a.den:Int).natAbs<2^n:=by rw[Ci];exact ba.2
 have Si:(b.den:Int).natAbs<2^k:=by rw[Ci];exact bb.2
 unfold xZ
 walk_at "vs"
 refine⟨_,rfl,_,rfl,aJ ba.1 Si (by lia),_,rfl,_,rfl,aJ bb.1 bad (by lia),_,rfl,_,rfl,aJ bad Si (by lia),?_⟩
 refine⟨_,_,n+k,rfl,hnm,Int.mul_ne_zero (mG a) (mG b),by rw[Int.natAbs_mul];exact lt_mul bad Si,?_⟩
 rw[U1]
 exact hq
noncomputable def iG:List CS:=[.ret (.call 0 [(.bin .Mult (.ix (.var 0) (.int 0)) (.ix (.var 1) (.int 0))),(.bin .Mult (.ix (.var 0) (.int 1)) (.ix (.var 1) (.int 1)))])]
theorem Ew{G:Nat->W}{m:Md}(ws:List W)(Q:W->Prop)(R:Addr->Prop)(h:mJ HMul.hMul ws Q R):wSs (aO [dW]) G iG (b8 m Q R) (aq 2 ws):=by
 obtain⟨a,b,n,k,rfl,ba,bb,hnm,hq⟩:=h
 show wSs _ _ iG _ [some (wq a),some (wq b)]
 have bad:(a.den:Int).natAbs<2^n:=by rw[Ci];exact ba.2
 have Si:(b.den:Int).natAbs<2^k:=by rw[Ci];exact bb.2
 unfold iG
 walk_at "vs"
 refine⟨_,rfl,_,rfl,aJ ba.1 bb.1 (by lia),_,rfl,_,rfl,aJ bad Si (by lia),?_⟩
 refine⟨_,_,n+k,rfl,hnm,Int.mul_ne_zero (mG a) (mG b),by rw[Int.natAbs_mul];exact lt_mul bad Si,?_⟩
 rw[Q6]
 exact hq
noncomputable def x6:List CS:=[.set 1 (.blt .list [(.var 0)]),.DW (.and [(.cmp .NotEq (.var 1) (.lst [])),(.cmp .Eq (.ix (.ix (.var 1) (.neg (.int 1))) (.int 0)) (.int 0))]) [.drop 1],.ret (.var 1)]
noncomputable def AL:b6:=fun ws Q _=>∃rs:List Rat,ws=[aA rs]/\Q (aA (aj rs))
theorem U4{Φ:Nat->b6}{G:Nat->W}{m:Md}(ws:List W)(Q:W->Prop)(R:Addr->Prop)(h:AL ws Q R):wSs Φ G x6 (b8 m Q R) (aq 2 ws):=by
 obtain⟨rs,rfl,hq⟩:=h
 show wSs _ _ x6 _ [some (aA rs),none]
 unfold x6
 simp only[wSs,wS,wE,wA,look,List.set]
 unfold aA
 walk_at "vs"
 refine iU (α:=List Rat) (fun x=>[some (aA rs),some (aA x)]) (fun x=>aj x=aj rs) (fun x=>x.length) rs rfl rfl ?_
 rintro us hu
 walk_at "vs"
 refine⟨af (by simp),AH (y:=[]) fun k hk=>?_⟩
 walk_at "vs"
 rcases List.eq_nil_or_concat us with rfl|⟨t,y,rfl⟩
 ·cases bX hk rfl
  walk_at "vs"
  refine dP (fun z=>by cases z) (fun _=>?_)
  walk_at "vs"
  rw[←hu]at hq
  exact hq
 ·rw[List.concat_eq_append]at*
  cases dS hk (by simp)
  walk_at "vs"
  refine⟨_,fM List.getLast?_concat,_,rfl,?_⟩
  walk_at "vs"
  refine dP (fun z=>?_) (fun z=>?_)
  ·have yn:y=0:=Rat.num_eq_zero.mp (of_decide_eq_true z)
   subst yn
   unfold aA
   walk_at "vs"
   refine⟨wq 0,?_,t,?_,?_,?_⟩
   ·simp
   ·rw[List.map_append]
    simp
   ·rw[←hu,iW]
   ·simp
  ·have y0:y≠0:=fun e=>by
    rw[e]at z
    cases z
   walk_at "vs"
   rw[iX t y0]at hu
   rw[←hu]at hq
   exact hq
end VL
namespace Num
theorem x8(l:List Rat)(k:Nat):(l++[0]).getD k 0=l.getD k 0:=by
 rw[List.getD_eq_getElem?_getD,List.getD_eq_getElem?_getD]
 by_cases h:k<l.length
 ·rw[List.getElem?_append_left h]
 ·rw[List.getElem?_append_right (by lia),List.getElem?_eq_none (l:=l) (by lia)]
  cases hk:k -l.length with
  |zero=>rfl
  |succ n=>rfl
theorem dX(l:List Rat)(k:Nat):(aj l).getD k 0=l.getD k 0:=by
 generalize hn:l.length=n
 induction n generalizing l with
 |zero=>
  have:l=[]:=List.length_eq_zero_iff.mp hn
  subst this
  rfl
 |succ n ih=>
  have hne:l≠[]:=fun z=>by rw[z]at hn;cases hn
  obtain⟨l',x,rfl⟩:∃l' x,l=l'++[x]:=⟨l.dropLast,l.getLast hne,(List.dropLast_concat_getLast hne).symm⟩
  by_cases x0:x=0
  ·subst x0
   rw[iW,ih l' (by simpa using hn),x8]
  ·rw[iX _ x0]
theorem Hy{l:List Rat}(h:bJ l)(hl:0<l.length):l.getD (l.length -1) 0≠0:=by
 refine h _ ?_
 rw[List.getLast?_eq_getElem?,List.getElem?_eq_getElem (by omega),List.getD_eq_getElem?_getD,List.getElem?_eq_getElem (by omega)]
 rfl
theorem AM{a b:List Rat}(ha:bJ a)(hb:bJ b)(h:∀k,a.getD k 0=b.getD k 0):a=b:=by
 have le:∀{a b:List Rat},bJ b->(∀k,a.getD k 0=b.getD k 0)->b.length<=a.length:=fun{a b} hb h=>by
  rcases Nat.lt_or_ge a.length b.length with z|z
  ·exact absurd ((h _).symm.trans (kj (by lia))) (Hy hb (by lia))
  ·exact z
 have e:a.length=b.length:=Nat.le_antisymm (le ha fun k=>(h k).symm) (le hb h)
 apply List.ext_getElem?
 intro k
 by_cases hk:k<a.length
 ·have:=h k
  rw[List.getD_eq_getElem?_getD,List.getD_eq_getElem?_getD,List.getElem?_eq_getElem hk,List.getElem?_eq_getElem (show k<b.length by lia)]at this
  rw[List.getElem?_eq_getElem hk,List.getElem?_eq_getElem (show k<b.length by lia)]
  exact congrArg some this
 ·rw[List.getElem?_eq_none (by lia),List.getElem?_eq_none (by lia)]
theorem Lm{n:Nat}{f:Nat->Rat}(k:Nat):(eZ n f).getD k 0=if k<n then f k else 0:=by
 by_cases h:k<n
 ·rw[if_pos h,List.getD_eq_getElem?_getD,Cg h]
  rfl
 ·rw[if_neg h]
  exact kj (by rw[fN];lia)
noncomputable def Ex(f:Nat->Rat):Nat->Rat
 |0=>0
 |n+1=>Ex f n+f n
theorem vp{f g:Nat->Rat}:∀n,(∀i,i<n->f i=g i)->Ex f n=Ex g n
 |0,_=>rfl
 |n+1,h=>by rw[Ex,Ex,vp n fun i hi=>h i (by lia),h n (by lia)]
theorem jy{f:Nat->Rat}{m:Nat}:∀n,m<=n->(∀i,m<=i->i<n->f i=0)->Ex f n=Ex f m
 |0,h,_=>by
  have:m=0:=by lia
  rw[this]
 |n+1,h,z=>by
  by_cases e:m=n+1
  ·rw[e]
  ·rw[Ex,jy n (by lia) (fun i h1 h2=>z i h1 (by lia)),z n (by lia) (by lia),Rat.add_zero]
noncomputable def lS(f g:Nat->Rat)(k:Nat):Rat:=Ex (fun i=>f i*g (k -i)) (k+1)
theorem Hz(as bs:List Rat)(k:Nat):∀n,nS as bs n k=Ex (fun i=>as.getD i 0*(if i<=k then bs.getD (k -i) 0 else 0)) n
 |0=>rfl
 |n+1=>by rw[nS,Hz as bs k n,Ex]
theorem vt(as bs:List Rat)(k:Nat):nS as bs as.length k=lS (fun i=>as.getD i 0) (fun i=>bs.getD i 0) k:=by
 rw[Hz]
 unfold lS
 rcases Nat.le_total as.length (k+1)with h|h
 ·rw[←jy (k+1) h fun i h1 _=>by rw[kj h1,Rat.zero_mul]]
  exact vp _ fun i hi=>by rw[if_pos (by lia)]
 ·rw[jy as.length h fun i h1 _=>by rw[if_neg (by lia),Rat.mul_zero]]
  exact vp _ fun i hi=>by rw[if_pos (by lia)]
theorem ou(a b:List Rat)(k:Nat):(mulQ a b).getD k 0=lS (fun i=>a.getD i 0) (fun i=>b.getD i 0) k:=by
 unfold mulQ
 rw[Lm]
 by_cases h:k<a.length+b.length -1
 ·rw[if_pos h,vt]
 ·rw[if_neg h]
  unfold lS
  rw[jy (m:=0) (k+1) (Nat.zero_le _) fun i _ hi=>?_]
  ·rfl
  ·show a.getD i 0*b.getD (k -i) 0=0
   by_cases hi2:i<a.length
   ·rw[kj (rs:=b) (by omega),Rat.mul_zero]
   ·rw[kj (rs:=a) (by omega),Rat.zero_mul]
theorem vv(c:Int)(f:Nat->Int):∀n,sm (fun i=>c*f i) n=c*sm f n
 |0=>by rw[sm,sm,Int.mul_zero]
 |n+1=>by rw[sm,sm,vv c f n,Int.mul_add]
theorem AN(f g:Nat->Int):∀n,sm (fun i=>f i+g i) n=sm f n+sm g n
 |0=>rfl
 |n+1=>by rw[sm,sm,sm,AN f g n];lia
theorem HA(p:Nat)(v:Nat->Int):∀n,sm (fun i=>if i=p then v i else 0) n=if p<n then v p else 0
 |0=>by rw[sm,if_neg (by lia)]
 |n+1=>by
  rw[sm,HA p v n]
  by_cases h:p<n
  ·rw[if_pos h,if_neg (by lia),if_pos (by lia)];lia
  ·rw[if_neg h]
   by_cases e:n=p
   ·subst e
    rw[if_pos rfl,if_pos (by lia)];lia
   ·rw[if_neg e,if_neg (by lia)];lia
noncomputable def az(f g:Nat->Int)(k:Nat):Int:=sm (fun i=>f i*g (k -i)) (k+1)
theorem Ln(c h:Int)(Q O:Nat->Int)(p k:Nat):az (fun i=>c*Q i+if i=p then h else 0) O k=c*az Q O k+if p<=k then h*O (k -p)else 0:=by
 unfold az
 rw[gf (g:=fun i=>c*(Q i*O (k -i))+if i=p then h*O (k -i)else 0) (k+1) fun i _=>?_,AN,vv,HA p fun i=>h*O (k -i)]
 ·by_cases hp:p<=k
  ·rw[if_pos hp,if_pos (show p<k+1 by lia)]
  ·rw[if_neg hp,if_neg (show¬p<k+1 by lia)]
 ·split
  ·grind
  ·grind
theorem gk(O:Nat->Int)(k:Nat):az (fun _=>0) O k=0:=by
 unfold az
 rw[gf (g:=fun i=>0*0) (k+1) fun i _=>by rw[Int.zero_mul,Int.zero_mul],vv,Int.zero_mul]
theorem Cj{f g:Nat->Rat}{F G:Nat->Int}{A C:Rat}(hf:∀i,f i*A=F i)(hg:∀i,g i*C=G i)(k:Nat):lS f g k*(A*C)=((az F G k:Int):Rat):=by
 unfold lS az
 have:∀n,Ex (fun i=>f i*g (k -i)) n*(A*C)=((sm (fun i=>F i*G (k -i)) n:Int):Rat):=fun n=>by
  induction n with
  |zero=>
   show 0*(A*C)=((0:Int):Rat)
   grind
  |succ n ih=>
   rw[Ex,sm,Rat.intCast_add,Rat.intCast_mul,←ih,←hf n,←hg (k -n)]
   grind
 exact this _
noncomputable def AO(ns ms:List Int)(l:Int)(s:Nat)(Q:Nat->Int)(R:List Int):Prop:=∀k,l^s*ns.getD k 0=az Q (fun i=>ms.getD i 0) k+R.getD k 0
theorem AO.start(ns ms:List Int)(l:Int):AO ns ms l 0 (fun _=>0) ns:=fun k=>by
 rw[gk,Int.pow_zero]
 lia
theorem outI{ns:List Int}{k:Nat}(h:ns.length<=k):ns.getD k 0=0:=by
 rw[List.getD_eq_getElem?_getD,List.getElem?_eq_none h]
 rfl
theorem AO.step{ns ms:List Int}{l:Int}{s p:Nat}{Q:Nat->Int}{R R':List Int}(h:AO ns ms l s Q R)(hm:0<ms.length)(hl:l=ms.getD (ms.length -1) 0)(hR:R.length=p+ms.length)(hR':R'.length=p+ms.length -1)
 (hs:∀k,k<p+ms.length -1->R'.getD k 0=l*R.getD k 0 -if p<=k then R.getD (p+ms.length -1) 0*ms.getD (k -p) 0 else 0):
 AO ns ms l (s+1) (fun i=>l*Q i+if i=p then R.getD (p+ms.length -1) 0 else 0) R':=fun k=>by
 rw[Ln,Int.pow_succ]
 have e:=h k
 have e2:l^s*l*ns.getD k 0=l*az Q (fun i=>ms.getD i 0) k+l*R.getD k 0:=by
  rw[←Int.mul_add,←e]
  grind
 rw[e2]
 by_cases h1:k<p+ms.length -1
 ·rw[hs k h1]
  lia
 ·by_cases h2:k=p+ms.length -1
  ·subst h2
   rw[outI (ns:=R') (by lia),if_pos (by lia),show p+ms.length -1 -p=ms.length -1 by lia,←hl]
   grind
  ·rw[outI (ns:=R) (k:=k) (by lia),outI (ns:=R') (by lia)]
   split
   ·rw[outI (ns:=ms) (by lia)]
    grind
   ·grind
noncomputable def Cd(D:Int)(n:Nat)(x:Rat):Prop:=∃z:Int,x*D=z/\z.natAbs<2^n
theorem Cd.zero(D:Int)(n:Nat):Cd D n 0:=⟨0,by show(0:Rat)*D=((0:Int):Rat);grind,Nat.pow_pos (by decide)⟩
theorem Cd.up{D:Int}{n m:Nat}{x:Rat}(h:Cd D n x)(hm:n<=m):Cd D m x:=by
 obtain⟨z,h1,h2⟩:=h
 exact⟨z,h1,Nat.lt_of_lt_of_le h2 (Nat.pow_le_pow_right (by decide) hm)⟩
theorem Cd.dvd{D:Int}{n:Nat}{x:Rat}(h:Cd D n x):(x.den:Int)∣D/\(x.num*(D/x.den)).natAbs<2^n:=by
 obtain⟨z,h1,h2⟩:=h
 have e:x.num*D=z*x.den:=by
  have e:=Ce x
  have:((x.num*D:Int):Rat)=((z*x.den:Int):Rat):=by
   rw[Rat.intCast_mul,Rat.intCast_mul,←e,←h1]
   grind
  exact Rat.intCast_inj.mp this
 have d:(x.den:Int)∣D:=by
  have c:Nat.Coprime x.den x.num.natAbs:=Nat.Coprime.symm x.reduced
  have hn:x.den∣x.num.natAbs*D.natAbs:=⟨z.natAbs,by
   have:=congrArg Int.natAbs e
   rw[Int.natAbs_mul,Int.natAbs_mul,Int.natAbs_natCast]at this
   rw[this,Nat.mul_comm]⟩
  have:=c.dvd_of_dvd_mul_left hn
  rw[←Int.natAbs_natCast x.den]at this
  exact Int.natAbs_dvd_natAbs.mp this
 refine⟨d,?_⟩
 have:((x.num*(D/x.den):Int):Rat)=(z:Rat):=by rw[oq d,h1]
 rw[Rat.intCast_inj.mp this]
 exact h2
theorem Cd.eq{D:Int}{n:Nat}{x:Rat}(hD:D≠0)(h:Cd D n x):∃z:Int,x=Rat.divInt z D/\z.natAbs<2^n:=by
 obtain⟨z,h1,h2⟩:=h
 refine⟨z,?_,h2⟩
 rw[Rat.divInt_eq_div,←h1]
 have:=Q5 hD
 grind
theorem Cd.bd{D:Int}{n:Nat}{x:Rat}(hD:D≠0)(h:Cd D n x)(hn:D.natAbs<2^n):Bd n x:=by
 obtain⟨z,rfl,h2⟩:=h.eq hD
 have:=Cc z D hD
 exact⟨by lia,by lia⟩
theorem Cd.mul{D1 D2:Int}{n m:Nat}{x y:Rat}(h1:Cd D1 n x)(h2:Cd D2 m y):Cd (D1*D2) (n+m) (x*y):=by
 obtain⟨z,a1,a2⟩:=h1
 obtain⟨w,b1,b2⟩:=h2
 refine⟨z*w,by rw[Rat.intCast_mul,Rat.intCast_mul,←a1,←b1];grind,?_⟩
 rw[Int.natAbs_mul]
 exact lt_mul a2 b2
theorem Cd.get{D:Int}{n:Nat}{rs:List Rat}(h:∀x∈rs,Cd D n x)(k:Nat):Cd D n (rs.getD k 0):=by
 by_cases hk:k<rs.length
 ·rw[List.getD_eq_getElem?_getD,List.getElem?_eq_getElem hk]
  exact h _ (List.getElem_mem hk)
 ·rw[kj (by lia)]
  exact Cd.zero _ _
theorem AQ{D1 D2:Int}{n m:Nat}{rs ss:List Rat}(h1:∀x∈rs,Cd D1 n x)(h2:∀x∈ss,Cd D2 m x)(k:Nat):∀i,∃z:Int,nS rs ss i k*((D1*D2:Int):Rat)=z/\z.natAbs<=i*2^(n+m)
 |0=>⟨0,by show(0:Rat)*_=((0:Int):Rat);grind,by simp⟩
 |i+1=>by
  obtain⟨z,a1,a2⟩:=AQ h1 h2 k i
  have hc:Cd D2 m (if i<=k then ss.getD (k -i) 0 else 0):=by
   split
   ·exact Cd.get h2 _
   ·exact Cd.zero _ _
  obtain⟨w,b1,b2⟩:=(Cd.get h1 i).mul hc
  refine⟨z+w,?_,?_⟩
  ·rw[nS,Rat.intCast_add,←a1,←b1]
   grind
  ·rw[Nat.add_mul]
   omega
theorem Ck{D1 D2:Int}{n m:Nat}{rs ss:List Rat}(h1:∀x∈rs,Cd D1 n x)(h2:∀x∈ss,Cd D2 m x)(i j k:Nat)(hi:i<31):Cd (D1*D2) (n+m+5) (gD rs ss i j k):=by
 obtain⟨z,a1,a2⟩:=AQ h1 h2 k i
 have hc:Cd (D1*D2) (n+m) (if i<=k/\k<i+j then rs.getD i 0*ss.getD (k -i) 0 else 0):=by
  split
  ·exact(Cd.get h1 i).mul (Cd.get h2 _)
  ·exact Cd.zero _ _
 obtain⟨w,b1,b2⟩:=hc
 unfold gD
 refine⟨z+w,?_,?_⟩
 ·rw[Rat.intCast_add,←a1,←b1]
  grind
 ·have e:2^(n+m+5)=32*2^(n+m):=by rw[Nat.pow_add];omega
  have:i*2^(n+m)<=30*2^(n+m):=Nat.mul_le_mul_right _ (by omega)
  omega
theorem vC{D1 D2:Int}{n m:Nat}{rs ss:List Rat}(h1:∀x∈rs,Cd D1 n x)(h2:∀x∈ss,Cd D2 m x)(hl:rs.length<31):∀x∈mulQ rs ss,Cd (D1*D2) (n+m+5) x:=fun x hx=>by
 obtain⟨k,_,rfl⟩:=xW hx
 obtain⟨z,a1,a2⟩:=AQ h1 h2 k rs.length
 refine⟨z,a1,?_⟩
 have e:2^(n+m+5)=32*2^(n+m):=by rw[Nat.pow_add];lia
 have:rs.length*2^(n+m)<=30*2^(n+m):=Nat.mul_le_mul_right _ (by lia)
 have:0<2^(n+m):=Nat.pow_pos (by decide)
 lia
noncomputable def iY:List Rat->Int
 |[]=>1
 |r::rs=>r.den*iY rs
theorem mK:∀rs:List Rat,0<iY rs
 |[]=>by decide
 |r::rs=>Int.mul_pos (dpos r) (mK rs)
theorem pZ{n:Nat}:∀rs:List Rat,(∀x∈rs,Bd n x)->(iY rs).natAbs<2^(n*rs.length+1)
 |[],_=>by show 1<2^(n*0+1);rw[Nat.mul_zero];decide
 |r::rs,h=>by
  have ih:=pZ rs fun y hy=>h y (List.mem_cons_of_mem _ hy)
  have hr:=(h r (List.mem_cons_self ..)).2
  show((r.den:Int)*iY rs).natAbs<_
  rw[Int.natAbs_mul,Int.natAbs_natCast,List.length_cons,Nat.mul_add,Nat.mul_one,show n*rs.length+n+1=n+(n*rs.length+1) by lia]
  exact lt_mul hr ih
end Num
namespace VL
open PySem PySem.Spec
open PyProof.Rows hiding St
open L2 Num
theorem HB(rs:List Rat)(k:Nat):lO (ly (rs.map wq) (some (k:Int)) (some ((k:Int)+1))++[wq 0]) 0=some (wq (rs.getD k 0)):=by
 have e1:((k:Int)+1)=((k+1:Nat):Int):=by lia
 unfold ly
 rw[e1,HT.uE,HT.uE,List.length_map,List.getD_eq_getElem?_getD]
 by_cases h:k<rs.length
 ·rw[show min k rs.length=k by lia,show min (k+1) rs.length -k=1 by lia,List.drop_eq_getElem_cons (by simpa using h),List.getElem?_eq_getElem h]
  simp[lO,wG]
 ·rw[List.getElem?_eq_none (by lia),show min k rs.length=rs.length by lia,List.drop_of_length_le (by simp)]
  simp[lO,wG]
theorem Cm(rs:List Rat)(k:Nat):(ly (rs.map wq) (some (k:Int)) (some ((k:Int)+1))).length<=rs.length:=by
 unfold ly
 rw[List.length_take,List.length_drop,List.length_map]
 lia
theorem U5{s:Int}(h:s=1\/s= -1)(r:Rat):W.tup [.int (s*r.num),.int r.den]=wq ((s:Rat)*r):=by
 unfold wq
 rcases h with rfl|rfl
 ·have e:((1:Int):Rat)*r=r:=by
   show(1:Rat)*r=r
   grind
  rw[e,Int.one_mul]
 ·have e:((-1:Int):Rat)*r= -r:=by
   show(-1:Rat)*r= -r
   grind
  rw[e,Rat.neg_num,Rat.neg_den]
  rw[show-1*r.num= -r.num by lia]
theorem HC{n:Nat}{rs:List Rat}(h:∀x∈rs,Bd n x)(k:Nat):Bd (n+1) (rs.getD k 0):=by
 rw[List.getD_eq_getElem?_getD]
 cases e:rs[k]? with
 |none=>exact⟨Nat.pow_pos (by decide),Nat.one_lt_two_pow (by lia)⟩
 |some x=>exact B9 (h x (List.mem_of_getElem? e)) (by lia)
theorem U6{s:Int}(h:s=1\/s= -1){n:Nat}{r:Rat}(b:Bd n r):Bd n ((s:Rat)*r):=by
 rcases h with rfl|rfl
 ·have e:((1:Int):Rat)*r=r:=by
   show(1:Rat)*r=r
   grind
  rw[e]
  exact b
 ·have e:((-1:Int):Rat)*r= -r:=by
   show(-1:Rat)*r= -r
   grind
  rw[e]
  exact Q2 b
theorem HD(n:Nat)(f:Nat->Rat):eZ (n+1) f=eZ n f++[f n]:=by
 unfold eZ
 rw[List.range_succ,List.map_append]
 rfl
theorem iZ{n i:Nat}{w:W}(h:(iz 0 1 n)[i]?=some w):i<n/\w=.int i:=by
 unfold iz at h
 rw[List.getElem?_map]at h
 obtain⟨j,e,rfl⟩:=Option.map_eq_some_iff.mp h
 obtain⟨h1,h2⟩:=List.getElem?_eq_some_iff.mp e
 rw[List.getElem_range]at h2
 rw[List.length_range]at h1
 refine⟨h1,?_⟩
 rw[←h2]
 simp
theorem Cn:W.tup [.int 0,.int 1]=wq 0:=rfl
noncomputable def mL:List CS:=[.set 3 (.lst []),.fr [4] true (.nO [(.blt .max2 [(.blt .len [(.var 0)]),(.blt .len [(.var 1)])])]) [.set 5 (.ix (.bin .Add (.sl (.var 0) (.var 4) (.bin .Add (.var 4) (.int 1))) (.lst [(.tup [(.int 0),(.int 1)])])) (.int 0)),.set 6 (.ix (.bin .Add (.sl (.var 1) (.var 4) (.bin .Add (.var 4) (.int 1))) (.lst [(.tup [(.int 0),(.int 1)])])) (.int 0)),.app 3 (.call 0 [(.var 5),(.tup [(.bin .Mult (.var 2) (.ix (.var 6) (.int 0))),(.ix (.var 6) (.int 1))])])],.ret (.call 1 [(.var 3)])]
noncomputable def lI:b6:=fun ws Q _=>∃(as bs:List Rat) (s:Int) (n m:Nat),ws=[aA as,aA bs,.int s]/\(∀x∈as,Bd n x)/\(∀x∈bs,Bd m x)/\n+m<=7900/\as.length<=200/\bs.length<=200/\(s=1\/s= -1)/\Q (aA (aj (eZ (max as.length bs.length) fun k=>as.getD k 0+(s:Rat)*bs.getD k 0)))
theorem Lo{G:Nat->W}{m:Md}(ws:List W)(Q:W->Prop)(R:Addr->Prop)(h:lI ws Q R):wSs (aO [mJ HAdd.hAdd,AL]) G mL (b8 m Q R) (aq 7 ws):=by
 obtain⟨as,bs,s,n,k,rfl,ha,hb,hnm,la,lb,hs,hq⟩:=h
 show wSs _ _ mL _ [some (aA as),some (aA bs),some (.int s),none,none,none,none]
 unfold mL aA
 walk_at "vs"
 refine⟨af (by simp),?_⟩
 have em:(if((bs.map wq).length:Int)>((as.map wq).length:Int)then((bs.map wq).length:Int)else((as.map wq).length:Int))=((max as.length bs.length:Nat):Int):=by
  rw[List.length_map,List.length_map]
  split<;>lia
 rw[em]
 generalize hN:max as.length bs.length=N at*
 have Ey:N<=200:=by clear em;lia
 refine⟨by lia,by lia,?_⟩
 rw[Int.toNat_natCast]
 refine bY (fun i ε=>∃o4 o5 o6,ε=[some (.lst (as.map wq)),some (.lst (bs.map wq)),some (.int s),some (.lst ((eZ i fun k=>as.getD k 0+(s:Rat)*bs.getD k 0).map wq)),o4,o5,o6]) ⟨none,none,none,rfl⟩ ?_ ?_
 ·rintro i w _ N' hw ⟨o4,o5,o6,rfl⟩ hN'
  obtain⟨hi,rfl⟩:=iZ hw
  walk_at "vs"
  simp only[Cn]
  refine⟨af (by simp),af (by simp),?_,_,HB as i,af (by simp),af (by simp),?_,_,HB bs i,?_⟩
  ·have:=Cm as i
   exact af (by simp;lia)
  ·have:=Cm bs i
   exact af (by simp;lia)
  have bb:=HC hb i
  refine⟨_,rfl,aJ (n:=1) (m:=k+1) (by rcases hs with rfl|rfl<;>decide) bb.1 (by lia),_,rfl,af (by simp),?_⟩
  rw[U5 hs]
  refine⟨as.getD i 0,(s:Rat)*bs.getD i 0,n+1,k+1,rfl,HC ha i,U6 hs bb,by lia,dQ (by rw[List.length_map,fN];lia),hN' _ ⟨some (.int i),some (wq (as.getD i 0)),some (wq (bs.getD i 0)),by rw[HD,List.map_append];rfl⟩⟩
 ·rintro _ ⟨o4,o5,o6,rfl⟩
  walk_at "vs"
  have e:(iz 0 1 N).length=N:=by
   unfold iz
   simp
  rw[e]
  exact⟨_,rfl,hq⟩
noncomputable def dY:List CS:=[.set 2 (.bin .Mult (.lst [(.tup [(.int 0),(.int 1)])]) (.blt .max2 [(.int 0),(.bin .Sub (.bin .Add (.blt .len [(.var 0)]) (.blt .len [(.var 1)])) (.int 1))])),.fr [3] true (.nO [(.blt .len [(.var 0)])]) [.fr [4] true (.nO [(.blt .len [(.var 1)])]) [.put 2 (.bin .Add (.var 3) (.var 4)) (.call 0 [(.ix (.var 2) (.bin .Add (.var 3) (.var 4))),(.call 1 [(.ix (.var 0) (.var 3)),(.ix (.var 1) (.var 4))])])]],.ret (.call 2 [(.var 2)])]
noncomputable def cL:b6:=fun ws Q _=>∃(as bs:List Rat) (n m:Nat),ws=[aA as,aA bs]/\(∀x∈as,Bd n x)/\(∀x∈bs,Bd m x)/\(∃N':Nat,(∀i j k,i<as.length->Bd N' (gD as bs i j k))/\N'+(n+m)<=8000)/\as.length<=100/\bs.length<=100/\Q (aA (aj (mulQ as bs)))
theorem p5(n:Nat):(iz 0 1 n).length=n:=by
 unfold iz
 simp
theorem bV{l:List W}{k:Nat}{w:W}(h:l[k]?=some w):lO l (k:Int)=some w:=by
 unfold lO wG
 have:=(List.getElem?_eq_some_iff.mp h).1
 rw[if_pos (by lia),if_pos (by lia)]
 simpa using h
theorem jz{n k:Nat}(h:k<n):wG n (k:Int)=some k:=by
 unfold wG
 rw[if_pos (by lia),if_pos (by lia)]
 simp
theorem AR{rs:List Rat}{k:Nat}(h:k<rs.length):(rs.map wq)[k]?=some (wq (rs.getD k 0)):=by
 rw[List.getElem?_map,List.getD_eq_getElem?_getD,List.getElem?_eq_getElem h]
 rfl
theorem vD{G:Nat->W}{m:Md}(ws:List W)(Q:W->Prop)(R:Addr->Prop)(h:cL ws Q R):wSs (aO [mJ HAdd.hAdd,mJ HMul.hMul,AL]) G dY (b8 m Q R) (aq 5 ws):=by
 obtain⟨as,bs,n,k,rfl,ha,hb,⟨N',hf,hN⟩,la,lb,hq⟩:=h
 show wSs _ _ dY _ [some (aA as),some (aA bs),none,none,none]
 unfold dY aA
 walk_at "vs"
 simp only[Cn]
 refine⟨af (by simp),af (by simp),?_⟩
 have em:(if((as.map wq).length:Int)+((bs.map wq).length:Int) -1>0 then((as.map wq).length:Int)+((bs.map wq).length:Int) -1 else 0)=((as.length+bs.length -1:Nat):Int):=by
  rw[List.length_map,List.length_map]
  split<;>lia
 rw[em,Int.toNat_natCast,gC]
 refine⟨by lia,by lia,af (by simp;lia),by rw[List.length_map];lia,by rw[List.length_map];lia,?_⟩
 rw[Int.toNat_natCast,List.length_map]
 refine bY (fun i ε=>∃o3 o4,ε=[some (.lst (as.map wq)),some (.lst (bs.map wq)),some (.lst ((eZ (as.length+bs.length -1) (nS as bs i)).map wq)),o3,o4]) ⟨none,none,?_⟩ ?_ ?_
 ·have:eZ (as.length+bs.length -1) (nS as bs 0)=List.replicate (as.length+bs.length -1) 0:=by
   unfold eZ
   have:nS as bs 0=fun _=>0:=rfl
   rw[this,List.map_const',List.length_range]
  rw[this,List.map_replicate]
 ·rintro i w _ N1 hw ⟨o3,o4,rfl⟩ ud
  obtain⟨hi,rfl⟩:=iZ hw
  walk_at "vs"
  refine⟨by rw[List.length_map];lia,by rw[List.length_map];lia,?_⟩
  rw[Int.toNat_natCast,List.length_map]
  refine bY (fun j ε=>∃o4,ε=[some (.lst (as.map wq)),some (.lst (bs.map wq)),some (.lst ((eZ (as.length+bs.length -1) (gD as bs i j)).map wq)),some (.int i),o4]) ⟨o4,?_⟩ ?_ ?_
  ·rw[show gD as bs i 0=nS as bs i from funext fun k=>Et as bs i k]
  ·rintro j w _ N2 wK ⟨o4,rfl⟩ Ey
   obtain⟨hj,rfl⟩:=iZ wK
   have e:(i:Int)+(j:Int)=((i+j:Nat):Int):=by lia
   have hl:i+j<(eZ (as.length+bs.length -1) (gD as bs i j)).length:=by rw[fN];lia
   walk_at "vs"
   rw[e]
   refine⟨_,bV (AR hl),_,bV (AR hi),_,bV (AR hj),?_⟩
   have ba:Bd n (as.getD i 0):=ha _ (by rw[List.getD_eq_getElem?_getD,List.getElem?_eq_getElem hi];exact List.getElem_mem _)
   have bb:Bd k (bs.getD j 0):=hb _ (by rw[List.getD_eq_getElem?_getD,List.getElem?_eq_getElem hj];exact List.getElem_mem _)
   refine⟨_,_,n,k,rfl,ba,bb,by lia,?_⟩
   have ec:(eZ (as.length+bs.length -1) (gD as bs i j)).getD (i+j) 0=gD as bs i j (i+j):=by
    rw[List.getD_eq_getElem?_getD,Cg (by rw[fN]at hl;exact hl)]
    rfl
   rw[ec]
   refine⟨_,_,N',n+k,rfl,hf i j _ hi,Hi ba bb,hN,i+j,jz (by rw[List.length_map];exact hl),Ey _ ⟨some (.int j),?_⟩⟩
   have es:(eZ (as.length+bs.length -1) (gD as bs i j)).set (i+j) (gD as bs i j (i+j)+as.getD i 0*bs.getD j 0)=eZ (as.length+bs.length -1) (gD as bs i (j+1)):=by
    have z:=Ht (n:=as.length+bs.length -1) (f:=gD as bs i j) (g:=gD as bs i (j+1)) (k:=i+j) (by rw[fN]at hl;exact hl) (fun q _ hq=>by rw[uc,if_neg hq,Rat.add_zero])
    rw[uc,if_pos rfl]at z
    exact z
   rw[←List.map_set,es]
  ·rintro _ ⟨o4,rfl⟩
   refine ud _ ⟨some (.int i),o4,?_⟩
   rw[p5,show gD as bs i bs.length=nS as bs (i+1)from funext fun k=>Eu as bs i k]
 ·rintro _ ⟨o3,o4,rfl⟩
  walk_at "vs"
  rw[p5]
  exact⟨_,rfl,hq⟩
noncomputable def sF(k:Int)(r:Rat):Prop:=(k=0->r.num.natAbs<=4/\r.den<=3)/\(k=1->r.num.natAbs<=1000/\r.den=1)/\(k=2->r.num.natAbs<=1000000/\r.den<=1000)/\Bd 100 r
theorem vE{k t b:Int}(hb:0<b)(h0:k=0->t.natAbs<=4/\b<=3)(h1:k≠1)(h2:k=2->t.natAbs<=1000000/\b<=1000)(h3:t.natAbs<2^100/\b.natAbs<2^100):sF k (Rat.divInt t b):=by
 obtain⟨f1,f2⟩:=Cc t b (by omega)
 exact⟨fun e=>⟨by have:=h0 e;lia,by have:=h0 e;omega⟩,fun e=>absurd e h1,fun e=>⟨by have:=h2 e;lia,by have:=h2 e;omega⟩,Nat.lt_of_le_of_lt f1 h3.1,Nat.lt_of_le_of_lt f2 h3.2⟩
noncomputable def jA:List CS:=[.iff (.cmp .Eq (.var 3) (.int 0)) [.ret (.call 0 [(.bin .Sub (.bin .Mod (.var 0) (.int 9)) (.int 4)),(.bin .Add (.int 1) (.bin .Mod (.var 1) (.int 3)))])] [],.iff (.cmp .Eq (.var 3) (.int 1)) [.ret (.tup [(.bin .Sub (.bin .Mod (.var 0) (.int 2001)) (.int 1000)),(.int 1)])] [],.iff (.cmp .Eq (.var 3) (.int 2)) [.ret (.call 0 [(.bin .Sub (.bin .Mod (.var 0) (.int 2000001)) (.int 1000000)),(.bin .Add (.int 1) (.bin .Mod (.var 1) (.int 1000)))])] [],.set 4 (.bin .Add (.bin .Add (.bin .Add (.bin .Mult (.var 0) (.bin .Pow (.int 10) (.int 21))) (.bin .Mult (.var 1) (.bin .Pow (.int 10) (.int 12)))) (.bin .Mult (.var 2) (.bin .Pow (.int 10) (.int 3)))) (.bin .Mod (.var 0) (.int 1000))),.set 5 (.bin .Add (.bin .Add (.bin .Add (.bin .Mult (.var 1) (.bin .Pow (.int 10) (.int 21))) (.bin .Mult (.var 2) (.bin .Pow (.int 10) (.int 12)))) (.bin .Mult (.var 0) (.bin .Pow (.int 10) (.int 3)))) (.bin .Mod (.var 1) (.int 1000))),.ret (.call 0 [(.bin .Sub (.bin .Mod (.var 4) (.bin .Add (.bin .Mult (.int 2) (.bin .Pow (.int 10) (.int 30))) (.int 1))) (.bin .Pow (.int 10) (.int 30))),(.bin .Add (.int 1) (.bin .Mod (.var 5) (.bin .Pow (.int 10) (.int 30))))])]
noncomputable def mO:b6:=fun ws Q _=>∃x y z k:Int,ws=[.int x,.int y,.int z,.int k]/\(0<=x/\x<1000000007)/\(0<=y/\y<1000000007)/\(0<=z/\z<1000000007)/\∀r,sF k r->Q (wq r)
theorem fm{x:Int}{n:Int}(hn:0<n):0<=x.fmod n/\x.fmod n<n:=⟨Int.fmod_nonneg_of_pos x hn,Int.fmod_lt_of_pos x hn⟩
theorem HE{G:Nat->W}{m:Md}(ws:List W)(Q:W->Prop)(R:Addr->Prop)(h:mO ws Q R):wSs (aO [dW]) G jA (b8 m Q R) (aq 6 ws):=by
 obtain⟨x,y,z,k,rfl,hx,hy,hz,hq⟩:=h
 show wSs _ _ jA _ [some (.int x),some (.int y),some (.int z),some (.int k),none,none]
 unfold jA
 walk_at "vs"
 by_cases k0:k=0
 ·rw[if_pos (decide_eq_true k0)]
  have f1:=fm (x:=x) (n:=9) (by decide)
  have f2:=fm (x:=y) (n:=3) (by decide)
  refine⟨by decide,by decide,_,_,2,rfl,by decide,by clear f2 f1 k0 hz hy hx;lia,by omega,hq _ (vE (by clear f2 f1 k0 hz hy hx;lia) (fun _=>by clear f2 f1 k0 hz hy hx;lia) (by omega) (fun _=>by lia) ⟨Nat.lt_of_le_of_lt (show _<=4 by clear f2 f1 k0 hz hy hx;lia) (by decide),Nat.lt_of_le_of_lt (show _<=3 by omega) (by decide)⟩)⟩
 rw[if_neg (by rw[decide_eq_true_eq];exact k0)]
 by_cases k1:k=1
 ·rw[if_pos (decide_eq_true k1)]
  have f1:=fm (x:=x) (n:=2001) (by decide)
  refine⟨by decide,af (by simp),?_⟩
  have:=hq ((x.fmod 2001 -1000:Int):Rat) ⟨fun e=>absurd e k0,fun _=>⟨?_,rfl⟩,fun e=>absurd e (by lia),?_,?_⟩
  ·exact this
  ·show(x.fmod 2001 -1000).natAbs<=1000
   clear f1 k1 k0 hz hy hx;lia
  ·show(x.fmod 2001 -1000).natAbs<_
   exact Nat.lt_of_le_of_lt (show _<=1000 by omega) (by decide)
  ·exact Nat.one_lt_two_pow (by decide)
 rw[if_neg (by rw[decide_eq_true_eq];exact k1)]
 by_cases k2:k=2
 ·rw[if_pos (decide_eq_true k2)]
  have f1:=fm (x:=x) (n:=2000001) (by decide)
  have f2:=fm (x:=y) (n:=1000) (by decide)
  refine⟨by decide,by decide,_,_,11,rfl,by decide,by clear f2 f1 k2 k1 k0 hz hy hx;lia,by omega,hq _ (vE (by clear f2 f1 k2 k1 k0 hz hy hx;lia) (fun _=>by lia) k1 (fun _=>by clear f2 f1 k2 k1 k0 hz hy hx;lia) ⟨Nat.lt_of_le_of_lt (show _<=1000000 by clear f2 f1 k2 k1 k0 hz hy hx;lia) (by decide),Nat.lt_of_le_of_lt (show _<=1000 by omega) (by decide)⟩)⟩
 rw[if_neg (by rw[decide_eq_true_eq];exact k2)]
 have ZA:sj 10 21:=gw (by decide) (by decide) (by decide)
 have c12:sj 10 12:=gw (by decide) (by decide) (by decide)
 have c3:sj 10 3:=gw (by decide) (by decide) (by decide)
 have XR:sj 10 30:=gw (by decide) (by decide) (by decide)
 have e21:(10:Int)^Int.toNat 21=1000000000000000000000:=rfl
 have e12:(10:Int)^Int.toNat 12=1000000000000:=rfl
 have e3:(10:Int)^Int.toNat 3=1000:=rfl
 have e30:(10:Int)^Int.toNat 30=1000000000000000000000000000000:=rfl
 rw[e21,e12,e3,e30]
 have mo:∀(u v:Int),0<=u->u<1000000007->v.natAbs<2^101->IntMulOk u v:=fun u v h1 h2 h3=>aJ (n:=30) (m:=101) (by lia) h3 (by decide)
 refine⟨ZA,mo _ _ hx.1 hx.2 (by decide),c12,mo _ _ hy.1 hy.2 (by decide),c3,mo _ _ hz.1 hz.2 (by decide),by decide,ZA,mo _ _ hy.1 hy.2 (by decide),c12,mo _ _ hz.1 hz.2 (by decide),c3,mo _ _ hx.1 hx.2 (by decide),by decide,XR,mo _ _ (by decide) (by decide) (by decide),by decide,XR,XR,by decide,?_⟩
 generalize x*1000000000000000000000+y*1000000000000+z*1000+x.fmod 1000=t
 generalize y*1000000000000000000000+z*1000000000000+x*1000+y.fmod 1000=b
 have f1:=fm (x:=t) (n:=2*1000000000000000000000000000000+1) (by decide)
 have f2:=fm (x:=b) (n:=1000000000000000000000000000000) (by decide)
 have p1:(1000000000000000000000000000000:Nat)<2^100:=by decide
 refine⟨_,_,100,rfl,by decide,by omega,by omega,hq _ (vE (by omega) (fun e=>absurd e k0) k1 (fun e=>absurd e k2) ⟨by omega,by omega⟩)⟩
theorem e9{Φ:Nat->b6}{G:Nat->W}{s t:CS}{ts:List CS}{D:Dn}{ε:Ev}(J:Ev->Prop)(h1:∀N:Ev->Prop,(∀ε',J ε'->N ε')->wS Φ G s {D with nx:=N} ε)(h2:∀ε',J ε'->wSs Φ G (t::ts) D ε'):wSs Φ G (s::t::ts) D ε:=by
 rw[wSs]
 exact h1 _ h2
noncomputable def mP:List CS:=[.set 2 (.int 0),.iff (.or [(.cmp .Lt (.var 0) (.int 0)),(.cmp .GtE (.var 0) (.bin .Pow (.int 10) (.int 18)))]) [.set 2 (.blt .abs [(.var 0)])] [],.set 3 (.bin .Add (.bin .Mod (.var 0) (.int 1999999943)) (.int 3)),.set 4 (.bin .Add (.bin .Mod (.bin .Mult (.var 3) (.var 3)) (.int 1999999973)) (.int 1)),.set 5 (.lst []),.fr [6] true (.nO [(.var 1)]) [.set 3 (.bin .Mod (.bin .Add (.bin .Add (.bin .Add (.bin .Mult (.var 3) (.var 3)) (.var 4)) (.bin .Mult (.int 2) (.var 6))) (.int 1)) (.int 1999999973)),.set 4 (.bin .Mod (.bin .Add (.bin .Add (.bin .Mult (.var 4) (.int 69069)) (.bin .Mult (.var 3) (.int 40692))) (.var 6)) (.int 1999999943)),.set 7 (.bin .Mod (.bin .Add (.var 3) (.bin .Mult (.var 4) (.var 4))) (.int 1000000007)),.iff (.cmp .Gt (.var 2) (.int 0)) [.set 7 (.bin .Mod (.var 2) (.int 1000000007)),.set 2 (.bin .FloorDiv (.var 2) (.int 1000000007))] [],.app 5 (.var 7)],.ret (.var 5)]
noncomputable def lJ:b6:=fun ws Q _=>∃(c m:Int),ws=[.int c,.int m]/\0<=m/\m<=900/\∀ns:List Int,(ns.length:Int)=m->(∀n∈ns,0<=n/\n<1000000007)->Q (wI ns)
theorem Lp{Φ:Nat->b6}{G:Nat->W}{m:Md}(ws:List W)(Q:W->Prop)(R:Addr->Prop)(h:lJ ws Q R):wSs Φ G mP (b8 m Q R) (aq 8 ws):=by
 obtain⟨c,k,rfl,k0,k1,hq⟩:=h
 show wSs _ _ mP _ [some (.int c),some (.int k),none,none,none,none,none,none]
 unfold mP
 refine e9 (fun ε'=>ε'=[some (.int c),some (.int k),some (.int 0),none,none,none,none,none]) (fun N hN=>?_) ?_
 ·walk_at "vs"
  exact hN _ rfl
 rintro _ rfl
 refine e9 (fun ε'=>∃r:Int,0<=r/\ε'=[some (.int c),some (.int k),some (.int r),none,none,none,none,none]) (fun N hN=>?_) ?_
 ·walk_at "vs"
  by_cases h:c<0
  ·rw[if_pos (decide_eq_true h)]
   exact hN _ ⟨_,by split<;>lia,rfl⟩
  ·rw[if_neg (by rw[decide_eq_true_eq];exact h)]
   refine⟨gw (by decide) (by decide) (by decide),?_⟩
   split
   ·exact hN _ ⟨_,by lia,rfl⟩
   ·exact hN _ ⟨0,by decide,rfl⟩
 rintro _ ⟨r,hr,rfl⟩
 have f1:=fm (x:=c) (n:=1999999943) (by decide)
 have p31:(2000000000:Nat)<2^31:=by decide
 walk_at "vs"
 refine⟨by decide,aJ (n:=31) (m:=31) (by clear p31 f1 hr k1 k0;lia) (by lia) (by decide),by decide,af (by simp),by lia,by lia,?_⟩
 obtain⟨x,hx⟩:∃x,x=c.fmod 1999999943+3:=⟨_,rfl⟩
 rw[←hx]
 have f2:=fm (x:=x*x) (n:=1999999973) (by decide)
 generalize(x*x).fmod 1999999973=y at*
 refine bY (fun i ε=>∃(r x y:Int) (ns:List Int) (o6 o7:Option W),((0<=r/\0<=x/\x<2000000000/\0<=y/\y<2000000000)/\ns.length=i/\∀n∈ns,0<=n/\n<1000000007)/\ε=[some (.int c),some (.int k),some (.int r),some (.int x),some (.int y),some (wI ns),o6,o7]) ⟨r,x,y+1,[],none,none,⟨⟨hr,by lia,by lia,by lia,by lia⟩,rfl,by simp⟩,rfl⟩ ?_ ?_
 ·rintro i w _ N hw ⟨r,x,y,ns,o6,o7,⟨⟨hr,x0,x1,y0,y1⟩,hl,hb⟩,rfl⟩ hN
  obtain⟨hi,rfl⟩:=iZ hw
  unfold wI
  walk_at "vs"
  have g1:=fm (x:=x*x+y+2*(i:Int)+1) (n:=1999999973) (by decide)
  generalize(x*x+y+2*(i:Int)+1).fmod 1999999973=u at*
  have g2:=fm (x:=y*69069+u*40692+(i:Int)) (n:=1999999943) (by decide)
  generalize(y*69069+u*40692+(i:Int)).fmod 1999999943=v at*
  have g3:=fm (x:=u+v*v) (n:=1000000007) (by decide)
  generalize(u+v*v).fmod 1000000007=q at*
  have g4:=fm (x:=r) (n:=1000000007) (by decide)
  have li:(ns.map W.int).length<sizeLine:=dQ (by rw[List.length_map];lia)
  have app:∀z:Int,0<=z/\z<1000000007->(ns++[z]).length=i+1/\∀n∈ns++[z],0<=n/\n<1000000007:=fun z hz=>by
   refine⟨by rw[List.length_append,hl];rfl,fun n hn=>?_⟩
   rcases List.mem_append.mp hn with h|h
   ·exact hb n h
   ·rw[List.mem_singleton.mp h]
    exact hz
  have mo:∀a b:Int,0<=a->a<2000000000->0<=b->b<2000000000->IntMulOk a b:=fun a b h1 h2 h3 h4=>aJ (n:=31) (m:=31) (by lia) (by lia) (by decide)
  refine⟨mo _ _ x0 x1 x0 x1,mo _ _ (by decide) (by decide) (by lia) (by lia),by decide,mo _ _ y0 y1 (by decide) (by decide),mo _ _ g1.1 (by lia) (by decide) (by decide),by decide,mo _ _ g2.1 (by lia) g2.1 (by lia),by decide,?_⟩
  by_cases h:0<r
  ·rw[if_pos (decide_eq_true h)]
   refine⟨by decide,⟨by decide,by decide⟩,li,hN _ ⟨r.fdiv 1000000007,u,v,ns++[r.fmod 1000000007],some (.int i),some (.int (r.fmod 1000000007)),⟨⟨Int.fdiv_nonneg hr (by decide),by lia,by lia,by lia,by lia⟩,app _ g4⟩,?_⟩⟩
   unfold wI
   rw[List.map_append]
   rfl
  ·rw[if_neg (by rw[decide_eq_true_eq];exact h)]
   refine⟨li,hN _ ⟨r,u,v,ns++[q],some (.int i),some (.int q),⟨⟨hr,by lia,by lia,by lia,by lia⟩,app _ g3⟩,?_⟩⟩
   unfold wI
   rw[List.map_append]
   rfl
 ·rintro _ ⟨r,x,y,ns,o6,o7,⟨_,hl,hb⟩,rfl⟩
  walk_at "vs"
  rw[p5]at hl
  exact hq ns (by lia) hb
theorem Ez(k:Int):sF k 0:=⟨fun _=>by decide,fun _=>by decide,fun _=>by decide,Nat.pow_pos (by decide),Nat.one_lt_two_pow (by decide)⟩
theorem int_at{ns:List Int}{k:Nat}(h:k<ns.length):(ns.map W.int)[k]?=some (.int (ns.getD k 0)):=by
 rw[List.getElem?_map,List.getD_eq_getElem?_getD,List.getElem?_eq_getElem h]
 rfl
theorem AS{ns:List Int}{P:Int->Prop}(h:∀n∈ns,P n){k:Nat}(hk:k<ns.length):P (ns.getD k 0):=by
 rw[List.getD_eq_getElem?_getD,List.getElem?_eq_getElem hk]
 exact h _ (List.getElem_mem _)
noncomputable def x9:List CS:=[.set 3 (.call 0 [(.var 0),(.bin .Add (.bin .Mult (.int 3) (.var 1)) (.int 2))]),.set 4 (.lst []),.fr [5] true (.nO [(.bin .Mod (.ix (.var 3) (.int 0)) (.bin .Add (.var 1) (.int 1)))]) [.set 6 (.call 1 [(.ix (.var 3) (.bin .Add (.int 2) (.bin .Mult (.int 3) (.var 5)))),(.ix (.var 3) (.bin .Add (.int 3) (.bin .Mult (.int 3) (.var 5)))),(.ix (.var 3) (.bin .Add (.int 4) (.bin .Mult (.int 3) (.var 5)))),(.var 2)]),.iff (.cmp .Eq (.bin .Mod (.bin .RShift (.ix (.var 3) (.int 1)) (.var 5)) (.int 4)) (.int 1)) [.set 6 (.tup [(.int 0),(.int 1)])] [],.app 4 (.var 6)],.DW (.and [(.cmp .NotEq (.var 4) (.lst [])),(.cmp .Eq (.ix (.ix (.var 4) (.neg (.int 1))) (.int 0)) (.int 0))]) [.drop 4],.ret (.var 4)]
noncomputable def HF:b6:=fun ws Q _=>∃(c m k:Int),ws=[.int c,.int m,.int k]/\0<=m/\m<=21/\∀rs:List Rat,rs.length<=m.toNat->(∀x∈rs,sF k x)->bJ rs->Q (aA rs)
theorem U7{G:Nat->W}{md:Md}(ws:List W)(Q:W->Prop)(R:Addr->Prop)(h:HF ws Q R):wSs (aO [lJ,mO]) G x9 (b8 md Q R) (aq 7 ws):=by
 obtain⟨c,m,k,rfl,m0,m1,hq⟩:=h
 show wSs _ _ x9 _ [some (.int c),some (.int m),some (.int k),none,none,none,none]
 unfold x9
 walk_at "vs"
 refine⟨aJ (n:=2) (m:=5) (by decide) (by lia) (by decide),c,3*m+2,rfl,by lia,by lia,fun xs hl hb=>?_⟩
 have l2:2<=xs.length:=by lia
 unfold wI
 walk_at "vs"
 refine⟨af (by simp),_,bV (k:=0) (int_at (by lia)),?_⟩
 walk_at "vs"
 have f1:=fm (x:=xs.getD 0 0) (n:=m+1) (by lia)
 generalize(xs.getD 0 0).fmod (m+1)=n at*
 refine⟨by lia,by lia,by lia,?_⟩
 refine bY (fun i ε=>∃(rs:List Rat) (o5 o6:Option W),(rs.length=i/\∀x∈rs,sF k x)/\ε=[some (.int c),some (.int m),some (.int k),some (.lst (xs.map W.int)),some (.lst (rs.map wq)),o5,o6]) ⟨[],none,none,⟨rfl,by simp⟩,rfl⟩ ?_ ?_
 ·rintro i w _ N hw ⟨rs,o5,o6,⟨hr,hk⟩,rfl⟩ hN
  obtain⟨hi,rfl⟩:=iZ hw
  walk_at "vs"
  have mo:IntMulOk 3 (i:Int):=aJ (n:=2) (m:=10) (by decide) (by lia) (by decide)
  have XS:∀j:Nat,j<=4->lO (xs.map W.int) ((j:Int)+3*(i:Int))=some (.int (xs.getD (j+3*i) 0)):=fun j hj=>by
   rw[show(j:Int)+3*(i:Int)=((j+3*i:Nat):Int) by lia]
   exact bV (int_at (by lia))
  have XT:∀j:Nat,j<=4->0<=xs.getD (j+3*i) 0/\xs.getD (j+3*i) 0<1000000007:=fun j hj=>AS hb (by lia)
  have li:(rs.map wq).length<sizeLine:=dQ (by rw[List.length_map];lia)
  have app:∀z:Rat,sF k z->(rs++[z]).length=i+1/\∀x∈rs++[z],sF k x:=fun z hz=>by
   refine⟨by rw[List.length_append,hr];rfl,fun x hx=>?_⟩
   rcases List.mem_append.mp hx with h|h
   ·exact hk x h
   ·rw[List.mem_singleton.mp h]
    exact hz
  refine⟨mo,_,XS 2 (by decide),mo,_,XS 3 (by decide),mo,_,XS 4 (by decide),_,_,_,k,rfl,XT 2 (by decide),XT 3 (by decide),XT 4 (by decide),fun q hqk=>⟨_,bV (k:=1) (int_at (by lia)),?_⟩⟩
  walk_at "vs"
  refine⟨by lia,by decide,?_⟩
  split
  ·exact⟨af (by simp),li,hN _ ⟨rs++[0],_,_,app 0 (Ez k),by rw[List.map_append];rfl⟩⟩
  ·exact⟨li,hN _ ⟨rs++[q],_,_,app q hqk,by rw[List.map_append];rfl⟩⟩
 ·rintro _ ⟨rs,o5,o6,⟨hr,hk⟩,rfl⟩
  rw[p5]at hr
  walk_at "vs"
  refine iU (α:=List Rat) (fun x=>[some (.int c),some (.int m),some (.int k),some (.lst (xs.map W.int)),some (aA x),o5,o6]) (fun x=>x.length<=m.toNat/\∀y∈x,sF k y) (fun x=>x.length) rs rfl ⟨by lia,hk⟩ ?_
  rintro us ⟨hu,hn⟩
  walk_at "vs"
  refine⟨af (by simp),AH (y:=[]) fun b ZC=>?_⟩
  walk_at "vs"
  rcases List.eq_nil_or_concat us with rfl|⟨t,y,rfl⟩
  ·cases bX ZC rfl
   walk_at "vs"
   refine dP (fun z=>by cases z) (fun _=>?_)
   walk_at "vs"
   exact hq [] hu hn fun x hx=>by cases hx
  ·rw[List.concat_eq_append]at*
   cases dS ZC (by simp)
   walk_at "vs"
   refine⟨_,fM List.getLast?_concat,_,rfl,?_⟩
   walk_at "vs"
   refine dP (fun z=>?_) (fun z=>?_)
   ·unfold aA
    walk_at "vs"
    refine⟨wq y,by simp,t,by rw[List.map_append];simp,⟨?_,fun x hx=>hn x (List.mem_append_left _ hx)⟩,by simp⟩
    rw[List.length_append]at hu
    lia
   ·have y0:y≠0:=fun e=>by
     rw[e]at z
     cases z
    walk_at "vs"
    exact hq _ hu hn fun x hx=>by
     rw[List.getLast?_concat]at hx
     cases hx
     exact y0
theorem HG(ns:List Int)(k:Nat)(h:k<=ns.length):ly (ns.map W.int) none (some (k:Int))=(ns.take k).map W.int:=by
 unfold ly
 rw[HT.uE,HT.FH,List.length_map,List.drop_zero,show min k ns.length -0=k by lia,List.map_take]
noncomputable def iH:List CS:=[.set 1 (.blt .len [(.var 0)]),.DW (.and [(.cmp .Gt (.var 1) (.int 0)),(.cmp .Eq (.ix (.var 0) (.bin .Sub (.var 1) (.int 1))) (.int 0))]) [.set 1 (.bin .Sub (.var 1) (.int 1))],.ret (.sl (.var 0) .aU (.var 1))]
noncomputable def dZ:b6:=fun ws Q _=>∃ns:List Int,ws=[wI ns]/\∀ms,g7 ns ms->Q (wI ms)
theorem EA{Φ:Nat->b6}{G:Nat->W}{m:Md}(ws:List W)(Q:W->Prop)(R:Addr->Prop)(h:dZ ws Q R):wSs Φ G iH (b8 m Q R) (aq 2 ws):=by
 obtain⟨ns,rfl,hq⟩:=h
 show wSs _ _ iH _ [some (wI ns),none]
 unfold iH wI
 walk_at "vs"
 refine iU (α:=Nat) (fun k=>[some (.lst (ns.map W.int)),some (.int k)]) (fun k=>k<=ns.length/\∀j,k<=j->j<ns.length->ns.getD j 0=0) (fun k=>k) ns.length (by rw[List.length_map]) ⟨Nat.le_refl _,fun j h1 h2=>by lia⟩ ?_
 rintro k ⟨h1,h2⟩
 walk_at "vs"
 have fin:(k=0\/ns.getD (k -1) 0≠0)->Q (.lst (ly (ns.map W.int) none (some (k:Int)))):=fun h=>by
  rw[HG ns k h1]
  exact hq _ ⟨k,h1,rfl,h2,h⟩
 by_cases hk:0<k
 ·rw[if_pos (decide_eq_true (by lia))]
  rw[show(k:Int) -1=((k -1:Nat):Int) by lia]
  refine⟨_,bV (int_at (by lia)),?_⟩
  walk_at "vs"
  refine dP (fun z=>?_) (fun z=>?_)
  ·have z:=of_decide_eq_true z
   walk_at "vs"
   refine⟨k -1,by rw[show(k:Int) -1=((k -1:Nat):Int) by lia],⟨by lia,fun j a b=>?_⟩,by show k -1<k;lia⟩
   by_cases e:j=k -1
   ·rw[e]
    exact z
   ·exact h2 j (by lia) b
  ·have z:=of_decide_eq_false z
   walk_at "vs"
   exact fin (.inr z)
 ·rw[if_neg (by rw[decide_eq_true_eq];lia)]
  refine dP (fun z=>by cases z) (fun _=>?_)
  walk_at "vs"
  exact fin (.inl (by lia))
noncomputable def ee:List CS:=[.set 2 (.blt .max2 [(.blt .len [(.var 0)]),(.blt .len [(.var 1)])]),.set 3 (.bin .Add (.blt .list [(.var 0)]) (.bin .Mult (.lst [(.int 0)]) (.bin .Sub (.var 2) (.blt .len [(.var 0)])))),.fr [4,5] false (.uL (.var 1)) [.put 3 (.var 4) (.bin .Add (.ix (.var 3) (.var 4)) (.var 5))],.ret (.call 0 [(.var 3)])]
noncomputable def fO:b6:=fun ws Q _=>∃ns ms:List Int,ws=[wI ns,wI ms]/\ns.length<=200/\ms.length<=200/\∀ts,g7 ((List.range (max ns.length ms.length)).map fun k=>ns.getD k 0+ms.getD k 0) ts->Q (wI ts)
theorem vF{G:Nat->W}{m:Md}(ws:List W)(Q:W->Prop)(R:Addr->Prop)(h:fO ws Q R):wSs (aO [dZ]) G ee (b8 m Q R) (aq 6 ws):=by
 obtain⟨ns,ms,rfl,ln,lm,hq⟩:=h
 show wSs _ _ ee _ [some (wI ns),some (wI ms),none,none,none,none]
 unfold ee wI
 walk_at "vs"
 have em:(if((ms.map W.int).length:Int)>((ns.map W.int).length:Int)then((ms.map W.int).length:Int)else((ns.map W.int).length:Int))=((max ns.length ms.length:Nat):Int):=by
  rw[List.length_map,List.length_map]
  split<;>lia
 rw[em]
 have ed:((max ns.length ms.length:Nat):Int) -((ns.map W.int).length:Int)=((max ns.length ms.length -ns.length:Nat):Int):=by
  rw[List.length_map]
  clear em lm ln;lia
 rw[ed,Int.toNat_natCast,gC]
 generalize hL:max ns.length ms.length=L at*
 refine⟨af (by simp),by clear ed em hL lm ln;lia,by clear ed em;lia,af (by simp;clear ed em;lia),af (by simp;clear ed em;lia),?_⟩
 have U8:∀(f:Nat->Int) (k:Nat),k<L->((List.range L).map f)[k]?=some (f k):=fun f k hk=>by
  rw[List.getElem?_map,List.getElem?_range hk]
  rfl
 refine bY (fun i ε=>∃o4 o5,ε=[some (.lst (ns.map W.int)),some (.lst (ms.map W.int)),some (.int L),some (.lst (((List.range L).map fun k=>ns.getD k 0+if k<i then ms.getD k 0 else 0).map W.int)),o4,o5]) ⟨none,none,?_⟩ ?_ ?_
 ·have:ns.map W.int++List.replicate (L -ns.length) (W.int 0)=((List.range L).map fun k=>ns.getD k 0+if k<0 then ms.getD k 0 else 0).map W.int:=by
   refine List.ext_getElem? fun q=>?_
   by_cases h1:q<ns.length
   ·rw[List.getElem?_append_left (by simpa using h1),int_at h1,List.getElem?_map,U8 _ q (by lia),if_neg (by lia),Int.add_zero]
    rfl
   ·by_cases h2:q<L
    ·rw[List.getElem?_append_right (by simpa using h1),List.getElem?_replicate,if_pos (by rw[List.length_map];omega),List.getElem?_map,U8 _ q h2,if_neg (by omega),List.getD_eq_getElem?_getD,List.getElem?_eq_none (by lia)]
     rfl
    ·rw[List.getElem?_eq_none (by simp;omega),List.getElem?_eq_none (by simp;lia)]
  rw[this]
 ·rintro i w _ N hw ⟨o4,o5,rfl⟩ hN
  obtain⟨x,hx,rfl⟩:=n6 hw
  have hi:i<ms.length:=by
   have:=(List.getElem?_eq_some_iff.mp hx).1
   simpa using this
  rw[int_at hi]at hx
  cases hx
  walk_at "vs"
  have hl:i<L:=by omega
  refine⟨rfl,_,bV (by rw[List.getElem?_map,U8 _ i hl];rfl),?_⟩
  walk_at "vs"
  refine⟨i,jz (by simpa using hl),hN _ ⟨some (.int i),some (.int (ms.getD i 0)),?_⟩⟩
  have:((List.range L).map fun k=>ns.getD k 0+if k<i then ms.getD k 0 else 0).set i (ns.getD i 0+(if i<i then ms.getD i 0 else 0)+ms.getD i 0)=(List.range L).map fun k=>ns.getD k 0+if k<i+1 then ms.getD k 0 else 0:=by
   refine List.ext_getElem? fun q=>?_
   rw[List.getElem?_set]
   by_cases h2:q<L
   ·rw[U8 _ q h2,U8 _ q h2]
    by_cases e:i=q
    ·subst e
     rw[if_pos rfl,if_pos (by simpa using hl),if_neg (by lia),if_pos (by lia)]
     congr 1
     lia
    ·rw[if_neg e]
     by_cases h3:q<i
     ·rw[if_pos h3,if_pos (by lia)]
     ·rw[if_neg h3,if_neg (by lia)]
   ·rw[if_neg (by lia),List.getElem?_eq_none (by simp;lia),List.getElem?_eq_none (by simp;omega)]
  rw[←this,List.map_set]
 ·rintro _ ⟨o4,o5,rfl⟩
  have le:(jd (ms.map W.int)).length=ms.length:=by
   unfold jd
   simp
  rw[le]
  walk_at "vs"
  refine⟨_,rfl,fun ts ht=>hq ts ?_⟩
  have:((List.range L).map fun k=>ns.getD k 0+if k<ms.length then ms.getD k 0 else 0)=(List.range L).map fun k=>ns.getD k 0+ms.getD k 0:=by
   refine List.map_congr_left fun k _=>?_
   by_cases h:k<ms.length
   ·rw[if_pos h]
   ·rw[if_neg h,List.getD_eq_getElem?_getD (l:=ms),List.getElem?_eq_none (by lia)]
    rfl
  rw[←this]
  exact ht
noncomputable def cZ:List CS:=[.ret (.call 0 [(.var 0),(.call 1 [(.var 1),(.neg (.int 1))])])]
noncomputable def b9:b6:=fun ws Q _=>∃(ns ms:List Int) (b:Nat),ws=[wI ns,wI ms]/\ns.length<=200/\ms.length<=200/\b<=100000000/\(∀x∈ms,x.natAbs<2^b)/\∀ts,g7 ((List.range (max ns.length ms.length)).map fun k=>ns.getD k 0 -ms.getD k 0) ts->Q (wI ts)
theorem sG{G:Nat->W}{m:Md}(ws:List W)(Q:W->Prop)(R:Addr->Prop)(h:b9 ws Q R):wSs (aO [fO,dU]) G cZ (b8 m Q R) (aq 2 ws):=by
 obtain⟨ns,ms,b,rfl,ln,lm,hb,hms,hq⟩:=h
 show wSs _ _ cZ _ [some (wI ns),some (wI ms)]
 unfold cZ
 walk_at "vs"
 refine⟨ms,-1,rfl,by lia,fun x hx=>aJ (n:=1) (m:=b) (by decide) (hms x hx) (by lia),?_⟩
 refine⟨ns,ms.map (-1*·),rfl,ln,by rw[List.length_map];exact lm,fun ts ht=>hq ts ?_⟩
 rw[List.length_map]at ht
 have:((List.range (max ns.length ms.length)).map fun k=>ns.getD k 0+(ms.map (-1*·)).getD k 0)=(List.range (max ns.length ms.length)).map fun k=>ns.getD k 0 -ms.getD k 0:=by
  refine List.map_congr_left fun k _=>?_
  rw[List.getD_eq_getElem?_getD (l:=ms.map _),List.getElem?_map,List.getD_eq_getElem?_getD (l:=ms)]
  cases ms[k]? with
  |none=>show _+(0:Int)=_ -(0:Int);lia
  |some z=>show _+ -1*z=_ -z;lia
 rw[←this]
 exact ht
noncomputable def jB:List CS:=[.set 2 (.int 1),.DW (.cmp .Gt (.var 1) (.int 0)) [.iff (.cmp .Eq (.bin .Mod (.var 1) (.int 2)) (.int 1)) [.set 2 (.bin .Mult (.var 2) (.var 0))] [],.set 1 (.bin .FloorDiv (.var 1) (.int 2)),.iff (.cmp .Gt (.var 1) (.int 0)) [.set 0 (.bin .Mult (.var 0) (.var 0))] []],.ret (.var 2)]
noncomputable def i0:b6:=fun ws Q _=>∃(x:Int) (e n:Nat),ws=[.int x,.int e]/\x.natAbs<2^n/\n*(e+1)<=60000000/\Q (.int (x^e))
theorem XU{x:Int}{n:Nat}(h:x.natAbs<2^n)(e:Nat):(x^e).natAbs<2^(n*e+1):=by
 rw[Int.natAbs_pow]
 have:x.natAbs^e<=(2^n)^e:=Nat.pow_le_pow_left (Nat.le_of_lt h) e
 rw[←Nat.pow_mul]at this
 rw[Nat.pow_succ]
 have:=Nat.pow_pos (n:=n*e) (show 0<2 by decide)
 lia
theorem HH{Φ:Nat->b6}{G:Nat->W}{m:Md}(ws:List W)(Q:W->Prop)(R:Addr->Prop)(h:i0 ws Q R):wSs Φ G jB (b8 m Q R) (aq 3 ws):=by
 obtain⟨x,e,n,rfl,hx,hn,hq⟩:=h
 show wSs _ _ jB _ [some (.int x),some (.int e),none]
 unfold jB
 walk_at "vs"
 refine iU (α:=Nat×Nat×Nat) (fun s=>[some (.int (x^s.1)),some (.int s.2.1),some (.int (x^s.2.2))]) (fun s=>s.1*s.2.1+s.2.2=e/\(0<s.2.1->0<s.1)) (fun s=>s.2.1) (1,e,0) (by show _=[some (W.int (x^1)),some (W.int (e:Int)),some (W.int (x^0))];rw[Int.pow_succ,Int.pow_zero,Int.one_mul]) ⟨by show 1*e+0=e;lia,fun _=>by show 0<1;decide⟩ ?_
 rintro⟨a,d,p⟩ ⟨hs,ha⟩
 dsimp only at hs ha
 walk_at "vs"
 refine dP (fun z=>?_) (fun z=>?_)
 ·have d0:0<d:=by have:=of_decide_eq_true z;lia
  have a0:=ha d0
  have ae:a<=e:=by
   have:a*1<=a*d:=Nat.mul_le_mul_left a d0
   lia
  have pe:p<=e:=by lia
  have bd:∀q,q<=e->(x^q).natAbs<2^(n*e+1):=fun q hq'=>Nat.lt_of_lt_of_le (XU hx q) (Nat.pow_le_pow_right (by decide) (Nat.add_le_add_right (Nat.mul_le_mul_left n hq') 1))
  have ne:n*e<=60000000:=Nat.le_trans (Nat.mul_le_mul_left n (Nat.le_succ e)) hn
  have mo:∀q r,q<=e->r<=e->IntMulOk (x^q) (x^r):=fun q r h1 h2=>aJ (bd q h1) (bd r h2) (by lia)
  have e1:(d:Int).fmod 2=((d%2:Nat):Int):=by rw[Int.fmod_eq_emod_of_nonneg _ (by decide)];lia
  have e2:(d:Int).fdiv 2=((d/2:Nat):Int):=by rw[Int.fdiv_eq_ediv_of_nonneg _ (by decide)];lia
  have cd:tO (d:Int) 2:=⟨by decide,by decide⟩
  walk_at "vs"
  rw[e1,e2]
  refine⟨by decide,?_⟩
  have hd:a*d=a*(2*(d/2))+a*(d%2):=by rw[←Nat.mul_add,Nat.div_add_mod]
  have e3:a*(2*(d/2))=2*a*(d/2):=by rw[Nat.mul_comm 2 a,Nat.mul_assoc]
  split
  ·rename_i h
   have h:=of_decide_eq_true h
   have o:d%2=1:=by lia
   rw[o,Nat.mul_one]at hd
   refine⟨mo p a pe ae,cd,?_⟩
   split
   ·refine⟨mo a a ae ae,(2*a,d/2,p+a),?_,⟨?_,fun _=>?_⟩,?_⟩
    ·show[some (W.int (x^a*x^a)),some (W.int ((d/2:Nat):Int)),some (W.int (x^p*x^a))]=[some (W.int (x^(2*a))),some (W.int ((d/2:Nat):Int)),some (W.int (x^(p+a)))]
     rw[Int.pow_add,Nat.two_mul,Int.pow_add]
    ·show 2*a*(d/2)+(p+a)=e
     lia
    ·show 0<2*a
     lia
    ·show d/2<d
     lia
   ·rename_i h2
    rw[decide_eq_true_eq]at h2
    refine⟨(a,d/2,p+a),?_,⟨?_,fun z=>?_⟩,?_⟩
    ·show[some (W.int (x^a)),some (W.int ((d/2:Nat):Int)),some (W.int (x^p*x^a))]=[some (W.int (x^a)),some (W.int ((d/2:Nat):Int)),some (W.int (x^(p+a)))]
     rw[Int.pow_add]
    ·show a*(d/2)+(p+a)=e
     have z2:d/2=0:=by lia
     rw[z2]at hd e3⊢
     lia
    ·exact a0
    ·show d/2<d
     lia
  ·rename_i h
   rw[decide_eq_true_eq]at h
   have o:d%2=0:=by lia
   rw[o,Nat.mul_zero]at hd
   refine⟨cd,?_⟩
   split
   ·refine⟨mo a a ae ae,(2*a,d/2,p),?_,⟨?_,fun _=>?_⟩,?_⟩
    ·show[some (W.int (x^a*x^a)),some (W.int ((d/2:Nat):Int)),some (W.int (x^p))]=[some (W.int (x^(2*a))),some (W.int ((d/2:Nat):Int)),some (W.int (x^p))]
     rw[Nat.two_mul,Int.pow_add]
    ·show 2*a*(d/2)+p=e
     lia
    ·show 0<2*a
     lia
    ·show d/2<d
     lia
   ·rename_i h2
    rw[decide_eq_true_eq]at h2
    lia
 ·have d0:d=0:=by have:=of_decide_eq_false z;lia
  subst d0
  walk_at "vs"
  have:p=e:=by lia
  rw[this]
  exact hq
noncomputable def tabI(n:Nat)(f:Nat->Int):List Int:=(List.range n).map f
theorem gW{n k:Nat}{f:Nat->Int}(h:k<n):(tabI n f)[k]?=some (f k):=by
 unfold tabI
 rw[List.getElem?_map,List.getElem?_range h]
 rfl
theorem aT(n:Nat)(f:Nat->Int):(tabI n f).length=n:=by unfold tabI;simp
theorem iI{n k:Nat}{f g:Nat->Int}(h:k<n)(hg:∀j,j<n->j≠k->g j=f j):(tabI n f).set k (g k)=tabI n g:=by
 refine List.ext_getElem? fun q=>?_
 rw[List.getElem?_set]
 by_cases h2:q<n
 ·rw[gW h2,gW h2]
  by_cases e:k=q
  ·subst e
   rw[if_pos rfl,if_pos (by rw[aT];exact h)]
  ·rw[if_neg e,hg q h2 (Ne.symm e)]
 ·rw[if_neg (by lia),List.getElem?_eq_none (by rw[aT];lia),List.getElem?_eq_none (by rw[aT];lia)]
theorem Q7{x y:List Int}{Q:W->Prop}(h:∀k:Bool,(k=true↔x=y)->Q (.bl k)):cH .Eq (wI x) (wI y) Q:=by
 have pl:∀z:List Int,fE 9 (.lst (z.map W.int))=true:=fun z=>by
  rw[fE,List.all_eq_true]
  intro w hw
  obtain⟨i,_,rfl⟩:=List.mem_map.mp hw
  exact vj i 8
 refine⟨.inl ⟨pl x,pl y⟩,fun k hk=>h k (hk.trans ⟨fun e=>?_,fun e=>by rw[e]⟩)⟩
 unfold wI at e
 rw[W.lst.injEq]at e
 exact(List.map_inj_right (fun a b e=>W.int.inj e)).mp e
theorem Co{ms:List Int}{i:Nat}{w:W}(h:(jd (ms.map W.int))[i]?=some w):i<ms.length/\w=.tup [.int i,.int (ms.getD i 0)]:=by
 obtain⟨x,hx,rfl⟩:=n6 h
 have hi:i<ms.length:=by
  have:=(List.getElem?_eq_some_iff.mp hx).1
  simpa using this
 rw[int_at hi]at hx
 cases hx
 exact⟨hi,rfl⟩
theorem ya(ms:List Int):(jd (ms.map W.int)).length=ms.length:=by
 unfold jd
 simp
noncomputable def c6:List CS:=[.iff (.or [(.cmp .Eq (.var 0) (.lst [])),(.cmp .Eq (.var 1) (.lst []))]) [.ret (.lst [])] [],.set 2 (.bin .Mult (.lst [(.int 0)]) (.bin .Sub (.bin .Add (.blt .len [(.var 0)]) (.blt .len [(.var 1)])) (.int 1))),.fr [3,4] false (.uL (.var 0)) [.iff (.cmp .NotEq (.var 4) (.int 0)) [.fr [5,6] false (.uL (.var 1)) [.put 2 (.bin .Add (.var 3) (.var 5)) (.bin .Add (.ix (.var 2) (.bin .Add (.var 3) (.var 5))) (.bin .Mult (.var 4) (.var 6)))]] []],.ret (.var 2)]
noncomputable def cj:b6:=fun ws Q _=>∃as bs:List Int,ws=[wI as,wI bs]/\as.length<=200/\bs.length<=200/\(∀x∈as,∀y∈bs,IntMulOk x y)/\Q (wI (if as=[]\/bs=[]then[]else tabI (as.length+bs.length -1) (cf as bs as.length)))
theorem sH{Φ:Nat->b6}{G:Nat->W}{m:Md}(ws:List W)(Q:W->Prop)(R:Addr->Prop)(h:cj ws Q R):wSs Φ G c6 (b8 m Q R) (aq 7 ws):=by
 obtain⟨as,bs,rfl,la,lb,hm,hq⟩:=h
 show wSs _ _ c6 _ [some (wI as),some (wI bs),none,none,none,none,none]
 unfold c6
 refine e9 (fun ε'=>(as≠[]/\bs≠[])/\ε'=[some (wI as),some (wI bs),none,none,none,none,none]) (fun N hN=>?_) ?_
 ·walk_at "vs"
  refine⟨af (by simp),Q7 (y:=[]) fun k1 h1=>?_⟩
  walk_at "vs"
  by_cases ea:as=[]
  ·cases bX h1 ea
   rw[if_pos rfl]
   rw[if_pos (.inl ea)]at hq
   exact⟨af (by simp),hq⟩
  ·cases dS h1 ea
   rw[if_neg (by decide)]
   refine⟨af (by simp),Q7 (y:=[]) fun k2 h2=>?_⟩
   walk_at "vs"
   by_cases eb:bs=[]
   ·cases bX h2 eb
    rw[if_pos rfl]
    rw[if_pos (.inr eb)]at hq
    exact⟨af (by simp),hq⟩
   ·cases dS h2 eb
    rw[if_neg (by decide)]
    exact hN _ ⟨⟨ea,eb⟩,rfl⟩
 rintro _ ⟨⟨ea,eb⟩,rfl⟩
 rw[if_neg (fun z=>z.elim ea eb)]at hq
 have a0:=List.length_pos_iff.mpr ea
 unfold wI at*
 walk_at "vs"
 have em:((as.map W.int).length:Int)+((bs.map W.int).length:Int) -1=((as.length+bs.length -1:Nat):Int):=by
  rw[List.length_map,List.length_map]
  lia
 rw[em,Int.toNat_natCast,gC]
 refine⟨af (by simp),by lia,by lia,af (by simp;lia),?_⟩
 refine bY (fun i ε=>∃o3 o4 o5 o6,ε=[some (.lst (as.map W.int)),some (.lst (bs.map W.int)),some (.lst ((tabI (as.length+bs.length -1) (cf as bs i)).map W.int)),o3,o4,o5,o6]) ⟨none,none,none,none,?_⟩ ?_ ?_
 ·have:tabI (as.length+bs.length -1) (cf as bs 0)=List.replicate (as.length+bs.length -1) 0:=by
   unfold tabI
   have:cf as bs 0=fun _=>0:=rfl
   rw[this,List.map_const',List.length_range]
  rw[this,List.map_replicate]
 ·rintro i w _ N hw ⟨o3,o4,o5,o6,rfl⟩ hN
  obtain⟨hi,rfl⟩:=Co hw
  walk_at "vs"
  refine⟨rfl,?_⟩
  by_cases z:as.getD i 0=0
  ·rw[decide_eq_true z]
   walk_at "vs"
   refine hN _ ⟨some (.int i),some (.int (as.getD i 0)),o5,o6,?_⟩
   rw[show cf as bs (i+1)=cf as bs i from funext fun k=>Lk z k]
  ·rw[decide_eq_false z]
   walk_at "vs"
   refine bY (fun j ε=>∃o5 o6,ε=[some (.lst (as.map W.int)),some (.lst (bs.map W.int)),some (.lst ((tabI (as.length+bs.length -1) (E3 as bs i j)).map W.int)),some (.int i),some (.int (as.getD i 0)),o5,o6]) ⟨o5,o6,?_⟩ ?_ ?_
   ·rw[show E3 as bs i 0=cf as bs i from funext fun k=>Hq as bs i k]
   ·rintro j w _ N2 wK ⟨o5,o6,rfl⟩ Ey
    obtain⟨hj,rfl⟩:=Co wK
    have hl:i+j<as.length+bs.length -1:=by lia
    walk_at "vs"
    rw[show(i:Int)+(j:Int)=((i+j:Nat):Int) by lia]
    refine⟨rfl,_,bV (by rw[List.getElem?_map,gW hl];rfl),?_⟩
    walk_at "vs"
    refine⟨AS (P:=fun x=>IntMulOk x (bs.getD j 0)) (fun x hx=>AS (P:=fun y=>IntMulOk x y) (hm x hx) hj) hi,i+j,jz (by rw[List.length_map,aT];exact hl),Ey _ ⟨some (.int j),some (.int (bs.getD j 0)),?_⟩⟩
    have e:=iI (n:=as.length+bs.length -1) (f:=E3 as bs i j) (g:=E3 as bs i (j+1)) (k:=i+j) hl (fun q _ hq=>by rw[xT,if_neg hq,Int.add_zero])
    rw[xT,if_pos rfl]at e
    rw[←e,List.map_set]
   ·rintro _ ⟨o5,o6,rfl⟩
    refine hN _ ⟨some (.int i),some (.int (as.getD i 0)),o5,o6,?_⟩
    rw[ya,show E3 as bs i bs.length=cf as bs (i+1)from funext fun k=>Hr as bs i k]
 ·rintro _ ⟨o3,o4,o5,o6,rfl⟩
  rw[ya]
  walk_at "vs"
  exact hq
noncomputable def yb:List CS:=[.par [0,1] [(.blt .abs [(.var 0)]),(.blt .abs [(.var 1)])],.DW (.cmp .Gt (.bits (.var 1)) (.glob 0)) [.par [0,1] [(.var 1),(.bin .Mod (.var 0) (.var 1))],.DV [0,1] (.call 0 [(.call 1 [(.var 0),(.var 1)]),(.var 0),(.var 1)]),.par [0,1] [(.blt .abs [(.var 0)]),(.blt .abs [(.var 1)])]],.DW (.cmp .NotEq (.var 1) (.int 0)) [.par [0,1] [(.var 1),(.bin .Mod (.var 0) (.var 1))]],.ret (.var 0)]
noncomputable def qO:b6:=fun ws Q _=>∃(a b:Int) (n:Nat),ws=[.int a,.int b]/\b.natAbs<2^n/\n<=6000/\Q (.int (Int.gcd a b:Nat))
theorem U9{Φ:Nat->b6}{m:Md}(ws:List W)(Q:W->Prop)(R:Addr->Prop)(h:qO ws Q R):wSs Φ (bI [.int 6000]) yb (b8 m Q R) (aq 2 ws):=by
 obtain⟨a,b,n,rfl,hb,hn,hq⟩:=h
 show wSs _ _ yb _ [some (.int a),some (.int b)]
 unfold yb
 have ea:(if a<0 then-a else a)=(a.natAbs:Int):=by split<;>lia
 have eb:(if b<0 then-b else b)=(b.natAbs:Int):=by split<;>lia
 have hg:Int.gcd (a.natAbs:Int) (b.natAbs:Int)=Int.gcd a b:=rfl
 refine e9 (fun ε'=>ε'=[some (.int (a.natAbs:Int)),some (.int (b.natAbs:Int))]) (fun N hN=>?_) ?_
 ·walk_at "vs"
  rw[ea,eb]
  exact⟨rfl,hN _ rfl⟩
 rintro _ rfl
 have bits:Builtin.Int.intBits (b.natAbs:Int)<=n:=bits_le (by rw[Int.natAbs_natCast];exact hb)
 refine e9 (fun ε'=>ε'=[some (.int (a.natAbs:Int)),some (.int (b.natAbs:Int))]) (fun N hN=>?_) ?_
 ·rw[wS]
  refine iU (α:=Unit) (fun _=>[some (.int (a.natAbs:Int)),some (.int (b.natAbs:Int))]) (fun _=>True) (fun _=>0) () rfl trivial ?_
  rintro _ _
  walk_at "vs"
  refine dP (fun z=>?_) (fun _=>hN _ rfl)
  have:=of_decide_eq_true z
  lia
 rintro _ rfl
 walk_at "vs"
 refine iU (α:=Int×Int) (fun x=>[some (.int x.1),some (.int x.2)]) (fun x=>Int.gcd x.1 x.2=Int.gcd a b/\0<=x.1/\0<=x.2) (fun x=>x.2.natAbs) (a.natAbs,b.natAbs) rfl ⟨hg,Int.natCast_nonneg _,Int.natCast_nonneg _⟩ ?_
 rintro⟨x,y⟩ ⟨hx,x0,ZD⟩
 dsimp only at hx x0 ZD
 walk_at "vs"
 refine dP (fun hk=>?_) (fun hk=>?_)
 ·have y0:y≠0:=by simpa using hk
  have e2:=xR x y (x.fdiv y)
  have e3:=G9 x y y0
  have f:=fm (x:=x) (n:=y) (by clear e3 e2 y0;lia)
  rw[←Num.fmod_eq]at e2 e3
  walk_at "vs"
  exact⟨y0,rfl,(y,x.fmod y),rfl,⟨e2.trans hx,ZD,f.1⟩,e3⟩
 ·have y0:y=0:=by simpa using hk
  subst y0
  walk_at "vs"
  have e:x=((Int.gcd a b:Nat):Int):=by
   rw[←hx,Int.gcd_zero_right]
   lia
  rw[e]
  exact hq
noncomputable def gE:List CS:=[.iff (.cmp .Eq (.var 1) (.int 0)) [.raise 0 (.str "a fraction's bottom is 0")] [],.set 2 (.call 0 [(.var 0),(.var 1)]),.iff (.cmp .Lt (.var 1) (.int 0)) [.set 2 (.neg (.var 2))] [],.ret (.tup [(.bin .FloorDiv (.var 0) (.var 2)),(.bin .FloorDiv (.var 1) (.var 2))])]
noncomputable def iJ(C:Addr):b6:=fun ws Q R=>∃(t b:Int) (n:Nat),ws=[.int t,.int b]/\b.natAbs<2^n/\n<=6000/\(b=0->R C)/\(b≠0->Q (wq (Rat.divInt t b)))
theorem AU{C:Addr}{m:Md}(ws:List W)(Q:W->Prop)(R:Addr->Prop)(h:iJ C ws Q R):wSs (aO [qO]) (bI [.cls C]) gE (b8 m Q R) (aq 3 ws):=by
 obtain⟨t,b,n,rfl,hbn,hn,h0,hq⟩:=h
 show wSs _ _ gE _ [some (.int t),some (.int b),none]
 unfold gE
 walk_at "vs"
 by_cases b0:b=0
 ·rw[if_pos (decide_eq_true b0)]
  exact h0 b0
 rw[if_neg (by rw[decide_eq_true_eq];exact b0)]
 have hq:=hq b0
 refine⟨t,b,n,rfl,hbn,hn,?_⟩
 obtain⟨f1,f2,f3⟩:=xU t b b0
 have lg:((Int.gcd t b:Nat):Int).natAbs<2^n:=by
  have:((Int.gcd t b:Nat):Int)<=b.natAbs:=Int.le_of_dvd (by clear f3 f2 f1;lia) (by rw[Int.dvd_natAbs];exact Int.gcd_dvd_right ..)
  lia
 unfold wq at hq
 generalize((Int.gcd t b:Nat):Int)=g at*
 rw[f2,f3]at hq
 by_cases h1:b<0
 ·rw[if_pos h1]at f1 hq
  rw[if_pos (decide_eq_true h1)]
  walk_at "vs"
  have ld:=gg (y:= -g) (by lia) (Nat.le_trans hn (by decide))
  exact⟨⟨f1,ld⟩,⟨f1,ld⟩,af (by simp),hq⟩
 ·rw[if_neg h1]at f1 hq
  rw[if_neg (by rw[decide_eq_true_eq];exact h1)]
  have ld:=gg (y:=g) lg (Nat.le_trans hn (by decide))
  exact⟨⟨f1,ld⟩,⟨f1,ld⟩,af (by simp),hq⟩
end VL
namespace Num
theorem HJ{a b c:Int}(h:Int.gcd a b=1)(hd:a∣b*c):a∣c:=by
 have hn:a.natAbs∣b.natAbs*c.natAbs:=by rw[←Int.natAbs_mul];exact Int.natAbs_dvd_natAbs.mpr hd
 exact Int.natAbs_dvd_natAbs.mp (Nat.Coprime.dvd_of_dvd_mul_left (show Nat.Coprime a.natAbs b.natAbs from h) hn)
theorem HK{B d D:Int}(hd:d≠0)(h1:B∣D)(h2:d∣D):B/(Int.gcd B d:Nat)*d∣D:=by
 obtain⟨x,y,hx,hy,hxy,hg⟩:=pV B d hd
 rw[show B/((Int.gcd B d:Nat):Int)=x from Num.mE hx hg]
 obtain⟨u,hu⟩:=h1
 obtain⟨v,hv⟩:=h2
 generalize((Int.gcd B d:Nat):Int)=g at*
 have e:x*u=y*v:=by
  have:g*(x*u)=g*(y*v):=by
   rw[←Int.mul_assoc,←Int.mul_assoc,←hx,←hy,←hu,←hv]
  exact Int.eq_of_mul_eq_mul_left (by lia) this
 obtain⟨w,hw⟩:y∣u:=HJ (by rw[Int.gcd_comm];exact hxy) ⟨v,e⟩
 refine⟨w,?_⟩
 rw[hu,hx,hw,hy]
 grind
theorem vG{ns ms:List Int}(h:g7 ns ms)(k:Nat):ms.getD k 0=ns.getD k 0:=by
 obtain⟨j,j1,rfl,j2,_⟩:=h
 by_cases hk:k<j
 ·rw[List.getD_eq_getElem?_getD,List.getElem?_take_of_lt hk,←List.getD_eq_getElem?_getD]
 ·rw[outI (by rw[List.length_take];lia)]
  by_cases hk2:k<ns.length
  ·exact(j2 k (by lia) hk2).symm
  ·exact(outI (by lia)).symm
theorem qP{ns ms:List Int}(h:g7 ns ms):ms.length<=ns.length:=by
 obtain⟨j,j1,rfl,_⟩:=h
 rw[List.length_take]
 lia
theorem HL{l:Int}{M i:Nat}(h:l.natAbs<2^M):(l^i).natAbs<=2^(M*i):=by
 rw[Int.natAbs_pow,Nat.pow_mul]
 exact Nat.pow_le_pow_left (Nat.le_of_lt h) _
theorem Cp{x y n m:Nat}(h1:x<2^n)(h2:y<=2^m):x*y<2^(n+m):=by
 rw[Nat.pow_add]
 exact Nat.lt_of_le_of_lt (Nat.mul_le_mul_left _ h2) (Nat.mul_lt_mul_of_pos_right h1 (Nat.pow_pos (by decide)))
end Num
namespace L2
open PySem
theorem ue{r:Nat}:Builtin.Range.rangeSize ((r:Int) -1) (-1) (-1)=(r:Int):=by
 unfold Builtin.Range.rangeSize
 rw[if_neg (by decide)]
 split
 ·show((r:Int) -1 - -1 -1)/1+1=_
  lia
 ·lia
theorem AV{r:Nat}(h:r<=1000):Builtin.Range.small ((r:Int) -1) (-1) (-1)=true:=by
 unfold Builtin.Range.small
 rw[ue]
 have f:∀x:Int,-2000<=x->x<=2000->Builtin.Range.rangeFitsLong x=true:=fun x h1 h2=>by
  unfold Builtin.Range.rangeFitsLong
  simp
  lia
 rw[f _ (by lia) (by lia),f _ (by lia) (by lia),f _ (by lia) (by lia),if_neg (by decide),f (-1+(-1+1)) (by decide) (by decide)]
 simp
end L2
namespace Sub
abbrev Ix:=Bool×Nat
abbrev Vc:=Ix->Int
noncomputable def ex(D:List Vc->Int)(r:Ix):List Vc->List Vc->Int
 |_,[]=>0
 |pre,c::post=>c r*D (pre++post) -ex D r (pre++[c]) post
noncomputable def det:List Ix->List Vc->Int
 |[],[]=>1
 |[],_::_=>0
 |r::rs,cs=>ex (det rs) r [] cs
noncomputable def Alt(D:List Vc->Int):Prop:=∀(p q:List Vc) (a b:Vc),D (p++a::b::q)= -D (p++b::a::q)
noncomputable def Sj(D:List Vc->Int):Prop:=∀(p q:List Vc) (x y:Int) (a b:Vc),D (p++(fun i=>x*a i+y*b i)::q)=x*D (p++a::q)+y*D (p++b::q)
theorem Cq{D:List Vc->Int}(h:Alt D)(r:Ix):∀(post p q:List Vc) (a b:Vc),ex D r (p++a::b::q) post= -ex D r (p++b::a::q) post
 |[],_,_,_,_=>rfl
 |c::post,p,q,a,b=>by
  have ih:=Cq h r post p (q++[c]) a b
  have e:=h p (q++post) a b
  simp only[ex,List.append_assoc,List.cons_append]at ih e⊢
  rw[e,ih]
  grind
theorem Cr{D:List Vc->Int}(h:Alt D)(r:Ix):∀(p pre q:List Vc) (a b:Vc),ex D r pre (p++a::b::q)= -ex D r pre (p++b::a::q)
 |[],pre,q,a,b=>by
  have e:=Cq h r q pre [] a b
  simp only[ex,List.nil_append,List.append_assoc,List.cons_append]at e⊢
  rw[e]
  grind
 |c::p,pre,q,a,b=>by
  have ih:=Cr h r p (pre++[c]) q a b
  have e:=h (pre++p) q a b
  simp only[ex,List.cons_append,List.append_assoc]at ih e⊢
  rw[e,ih]
  grind
theorem p6:∀rs:List Ix,Alt (det rs)
 |[]=>fun p q a b=>by
  cases p<;>rfl
 |r::rs=>fun p q a b=>Cr (p6 rs) r p [] q a b
theorem Cs{D:List Vc->Int}(h:Sj D)(r:Ix):∀(post p q:List Vc) (x y:Int) (a b:Vc),ex D r (p++(fun i=>x*a i+y*b i)::q) post=x*ex D r (p++a::q) post+y*ex D r (p++b::q) post
 |[],_,_,_,_,_,_=>by simp[ex]
 |c::post,p,q,x,y,a,b=>by
  have ih:=Cs h r post p (q++[c]) x y a b
  have e:=h p (q++post) x y a b
  simp only[ex,List.append_assoc,List.cons_append]at ih e⊢
  rw[e,ih]
  grind
theorem Ct{D:List Vc->Int}(h:Sj D)(r:Ix):∀(p pre q:List Vc) (x y:Int) (a b:Vc),ex D r pre (p++(fun i=>x*a i+y*b i)::q)=x*ex D r pre (p++a::q)+y*ex D r pre (p++b::q)
 |[],pre,q,x,y,a,b=>by
  have e:=Cs h r q pre [] x y a b
  simp only[ex,List.nil_append]at e⊢
  rw[e]
  grind
 |c::p,pre,q,x,y,a,b=>by
  have ih:=Ct h r p (pre++[c]) q x y a b
  have e:=h (pre++p) q x y a b
  simp only[ex,List.cons_append,List.append_assoc]at ih e⊢
  rw[e,ih]
  grind
theorem vH:∀rs:List Ix,Sj (det rs)
 |[]=>fun p q x y a b=>by
  cases p<;>simp[det]
 |r::rs=>fun p q x y a b=>Ct (vH rs) r p [] q x y a b
theorem Cu{D:List Vc->Int}{r:Ix}:∀(post pre:List Vc),(∀c∈post,c r=0)->ex D r pre post=0
 |[],_,_=>rfl
 |c::post,pre,h=>by
  rw[ex,h c List.mem_cons_self,Cu post _ fun d hd=>h d (List.mem_cons_of_mem _ hd)]
  simp
theorem uf{r:Ix}{rs:List Ix}{c:Vc}{cs:List Vc}(h:∀d∈cs,d r=0):det (r::rs) (c::cs)=c r*det rs cs:=by
 rw[det,ex,Cu cs _ h,List.nil_append,Int.sub_zero]
theorem yc{D:List Vc->Int}(h:Alt D):∀(u p v:List Vc) (a:Vc),D (p++a::(u++a::v))=0
 |[],p,v,a=>by
  have:=h p v a a
  simp only[List.nil_append]at this⊢
  lia
 |c::u,p,v,a=>by
  have e:=h p (u++a::v) a c
  have ih:=yc h u (p++[c]) v a
  simp only[List.append_assoc,List.cons_append,List.nil_append]at ih e⊢
  rw[e,ih]
  rfl
theorem Lq{D:List Vc->Int}(h:Alt D)(hl:Sj D){p q:List Vc}{a b:Vc}(x y:Int)(hb:b∈q):D (p++(fun i=>x*a i+y*b i)::q)=x*D (p++a::q):=by
 obtain⟨u,v,rfl⟩:=List.append_of_mem hb
 rw[hl,yc h u p v b,Int.mul_zero,Int.add_zero]
def sg(n:Nat):Int:=(-1)^n
theorem yd{D:List Vc->Int}(h:Alt D):∀(u p q:List Vc) (a:Vc),D (p++a::(u++q))=sg u.length*D (p++(u++a::q))
 |[],p,q,a=>by simp[sg]
 |c::u,p,q,a=>by
  have e:=h p (u++q) a c
  have ih:=yd h u (p++[c]) q a
  simp only[List.append_assoc,List.cons_append,List.nil_append,List.length_cons]at ih e⊢
  rw[e,ih]
  unfold sg
  rw[Int.pow_succ]
  grind
theorem ye{D:List Vc->Int}(h:Alt D):∀(w p u q:List Vc),D (p++(w++(u++q)))=sg (u.length*w.length)*D (p++(u++(w++q)))
 |[],p,u,q=>by simp[sg]
 |a::w,p,u,q=>by
  have ih:=ye h w (p++[a]) u q
  have e:=yd h u p (w++q) a
  simp only[List.append_assoc,List.cons_append,List.nil_append,List.length_cons]at ih e⊢
  rw[ih,e]
  unfold sg
  rw[Nat.mul_succ,Int.pow_add]
  grind
noncomputable def sh(j:Nat)(P:Vc):Vc:=fun i=>if j<=i.2 then P (i.1,i.2 -j)else 0
noncomputable def p7(P:Vc):Nat->List Vc
 |0=>[]
 |n+1=>sh n P::p7 P n
noncomputable def rws:Nat->Nat->List Ix
 |_,0=>[]
 |0,_+1=>[]
 |E+1,c+1=>(false,E)::rws E c
theorem yf(E:Nat):rws E 0=[]:=by cases E<;>rfl
theorem Lr(P:Vc):sh 0 P=P:=by
 funext i
 unfold sh
 rw[if_pos (Nat.zero_le _)]
 rfl
theorem Va(j s:Nat)(P:Vc):sh j (sh s P)=sh (s+j) P:=by
 funext i
 unfold sh
 by_cases h:j<=i.2
 ·rw[if_pos h]
  by_cases h2:s+j<=i.2
  ·rw[if_pos h2,if_pos (by show s<=i.2 -j;lia)]
   show P (i.1,i.2 -j -s)=P (i.1,i.2 -(s+j))
   congr 2
   lia
  ·rw[if_neg h2,if_neg (by show¬s<=i.2 -j;lia)]
 ·rw[if_neg h,if_neg (by lia)]
theorem p8(P:Vc):∀n,(p7 P n).length=n
 |0=>rfl
 |n+1=>by rw[p7,List.length_cons,p8 P n]
theorem Cv{P:Vc}:∀{n i:Nat},i<n->sh i P∈p7 P n
 |n+1,i,h=>by
  rw[p7]
  by_cases e:i=n
  ·rw[e]
   exact List.mem_cons_self
  ·exact List.mem_cons_of_mem _ (Cv (by lia))
theorem qQ{P:Vc}:∀{n:Nat} {d:Vc},d∈p7 P n->∃i,i<n/\d=sh i P
 |n+1,d,h=>by
  rw[p7]at h
  rcases List.mem_cons.mp h with h|h
  ·exact⟨n,by lia,h⟩
  ·obtain⟨i,hi,e⟩:=qQ h
   exact⟨i,by lia,e⟩
theorem Q8{B:Vc}{n:Nat}{l:Int}(hl:B (false,n)=l)(hz:∀t,n<t->B (false,t)=0){cs:List Vc}{b c:Nat}{tl:List Ix}(hc:∀d∈cs,∀t,n+b<=t->d (false,t)=0):
 ∀s,det (rws (n+b+s) (c+s)++tl) (p7 B (b+s)++cs)=l^s*det (rws (n+b) c++tl) (p7 B b++cs)
 |0=>by simp
 |s+1=>by
  show det ((false,n+b+s)::(rws (n+b+s) (c+s)++tl)) (sh (b+s) B::(p7 B (b+s)++cs))=_
  rw[uf,Q8 hl hz hc s]
  ·have e:sh (b+s) B (false,n+b+s)=l:=by
    unfold sh
    rw[if_pos (by show b+s<=n+b+s;lia),←hl]
    show B (false,n+b+s -(b+s))=_
    congr 2
    lia
   rw[e,Int.pow_succ]
   grind
  ·intro d hd
   rcases List.mem_append.mp hd with h|h
   ·obtain⟨i,hi,rfl⟩:=qQ h
    unfold sh
    split
    ·exact hz _ (by show n<n+b+s -i;lia)
    ·rfl
   ·exact hc d h _ (by lia)
noncomputable def comb(c:Int)(a:Vc):List (Int×Vc)->Vc
 |[]=>fun i=>c*a i+0*a i
 |z::L=>fun i=>1*comb c a L i+z.1*z.2 i
theorem yg{D:List Vc->Int}(h:Alt D)(hl:Sj D){p q:List Vc}{c:Int}{a:Vc}:∀{L:List (Int×Vc)},(∀z∈L,z.2∈q)->D (p++comb c a L::q)=c*D (p++a::q)
 |[],_=>by
  rw[comb,hl]
  grind
 |z::L,hm=>by
  rw[comb,Lq h hl _ _ (hm z List.mem_cons_self),yg h hl fun y hy=>hm y (List.mem_cons_of_mem _ hy),Int.one_mul]
theorem Cw(j:Nat)(c:Int)(a:Vc):∀L:List (Int×Vc),sh j (comb c a L)=comb c (sh j a) (L.map fun z=>(z.1,sh j z.2))
 |[]=>by
  funext i
  show sh j (comb c a []) i=c*sh j a i+0*sh j a i
  unfold sh comb
  split<;>simp
 |z::L=>by
  funext i
  have ih:=congrFun (Cw j c a L) i
  show sh j (comb c a (z::L)) i=1*comb c (sh j a) (L.map fun z=>(z.1,sh j z.2)) i+z.1*sh j z.2 i
  rw[←ih]
  unfold sh
  split
  ·rfl
  ·simp
theorem qR{D:List Vc->Int}(h:Alt D)(hl:Sj D){q:List Vc}{c:Int}{A:Vc}{L:List (Int×Vc)}:∀(a:Nat) (p:List Vc),(∀z∈L,∀j,j<a->sh j z.2∈q)->D (p++(p7 (comb c A L) a++q))=c^a*D (p++(p7 A a++q))
 |0,p,_=>by simp[p7]
 |a+1,p,hm=>by
  have ih:=qR h hl (c:=c) (A:=A) a (p++[sh a A]) fun z hz j hj=>hm z hz j (by lia)
  rw[p7,p7,List.cons_append,Cw,yg h hl (fun z hz=>?_)]
  ·simp only[List.append_assoc,List.cons_append,List.nil_append]at ih⊢
   rw[ih,Int.pow_succ]
   grind
  ·obtain⟨y,hy,rfl⟩:=List.mem_map.mp hz
   exact List.mem_append_right _ (hm y hy a (by lia))
noncomputable def SS(E:Nat)(A B:Vc)(a b:Nat)(ρ:Ix):Int:=det (rws E (a+b -1)++[ρ]) (p7 A a++p7 B b)
noncomputable def less(c:Int)(A B:Vc)(L:List (Int×Nat)):Vc:=comb c A (L.map fun z=>(z.1,sh z.2 B))
theorem Cy{E:Nat}{A B:Vc}{c:Int}{L:List (Int×Nat)}{a b:Nat}(h:∀z∈L,z.2+a<=b)(ρ:Ix):SS E (less c A B L) B a b ρ=c^a*SS E A B a b ρ:=by
 unfold SS less
 have e:=qR (p6 (rws E (a+b -1)++[ρ])) (vH _) (q:=p7 B b) (c:=c) (A:=A) (L:=L.map fun z=>(z.1,sh z.2 B)) a [] fun z hz j hj=>by
  obtain⟨y,hy,rfl⟩:=List.mem_map.mp hz
  rw[Va]
  have:=h y hy
  exact Cv (by lia)
 simp only[List.nil_append]at e
 exact e
theorem HM{E:Nat}{B R P:Vc}{c:Int}(h:∀i,R i=c*P i)(b a:Nat)(ρ:Ix):SS E B R b a ρ=c^a*SS E B P b a ρ:=by
 have eR:R=comb c P []:=funext fun i=>by rw[h i];show _=c*P i+0*P i;simp
 unfold SS
 have e:=qR (p6 (rws E (b+a -1)++[ρ])) (vH _) (q:=[]) (c:=c) (A:=P) (L:=[]) a (p7 B b) fun z hz=>nomatch hz
 simp only[List.append_nil]at e
 rw[eR,e]
theorem Cz{B R:Vc}{n:Nat}{l:Int}(hl:B (false,n)=l)(hz:∀t,n<t->B (false,t)=0){z a b s:Nat}(hR:∀t,z<=t->R (false,t)=0)(ha:1<=a)(hb:z+a<=n+b+1)(ρ:Ix):
 SS (n+b+s) R B a (b+s) ρ=sg ((b+s)*a)*(l^s*SS (n+b) B R b a ρ):=by
 unfold SS
 have e:=ye (p6 (rws (n+b+s) (a+(b+s) -1)++[ρ])) (p7 R a) [] (p7 B (b+s)) []
 simp only[List.nil_append,List.append_nil,p8]at e
 rw[e]
 congr 1
 rw[show a+(b+s) -1=b+a -1+s by lia]
 refine Q8 hl hz (fun d hd t ht=>?_) s
 obtain⟨i,hi,rfl⟩:=qQ hd
 unfold sh
 split
 ·exact hR _ (by show z<=t -i;lia)
 ·rfl
theorem HN(E:Nat)(B R:Vc)(ρ:Ix):SS E B R 0 1 ρ=R ρ:=by
 unfold SS
 show det (rws E 0++[ρ]) (sh 0 R::[])=_
 rw[yf,List.nil_append,Lr,uf (cs:=[]) (by intro d hd;cases hd)]
 show R ρ*1=R ρ
 rw[Int.mul_one]
theorem Ls{A B:Vc}{n:Nat}{l:Int}(hl:B (false,n)=l)(hz:∀t,n<t->B (false,t)=0)(s:Nat)(ρ:Ix):SS (n+1+s) A B 0 (1+s) ρ=l^s*B ρ:=by
 unfold SS
 rw[show 0+(1+s) -1=0+s by lia]
 have e:=Q8 hl hz (cs:=[]) (b:=1) (c:=0) (tl:=[ρ]) (fun d hd=>nomatch hd) s
 simp only[List.append_nil]at e
 show det (rws (n+1+s) (0+s)++[ρ]) ([]++p7 B (1+s))=_
 rw[List.nil_append,e]
 congr 1
 exact HN (n+1) A B ρ
def HP(ε:Int):Prop:=ε=1\/ε= -1
theorem HP.sq{ε:Int}(h:HP ε):ε*ε=1:=by
 rcases h with rfl|rfl<;>rfl
theorem HP.mul{a b:Int}(h:HP a)(h2:HP b):HP (a*b):=by
 rcases h with rfl|rfl<;>rcases h2 with rfl|rfl<;>first|exact .inl rfl|exact .inr rfl
theorem qS:∀n,HP (sg n)
 |0=>.inl rfl
 |n+1=>by
  have:=qS n
  unfold sg at this⊢
  rw[Int.pow_succ]
  exact this.mul (.inr rfl)
theorem ef{x:Int}(h:x≠0):∀n:Nat,x^n≠0
 |0=>by rw[Int.pow_zero];decide
 |n+1=>by rw[Int.pow_succ];exact Int.mul_ne_zero (ef h n) h
theorem HQ(x y:Int):∀n:Nat,(x*y)^n=x^n*y^n
 |0=>by rw[Int.pow_zero,Int.pow_zero,Int.pow_zero];rfl
 |n+1=>by
  rw[Int.pow_succ,Int.pow_succ,Int.pow_succ,HQ x y n]
  generalize x^n=a
  generalize y^n=b
  grind
theorem HR(x:Int)(m:Nat):∀n:Nat,(x^m)^n=x^(m*n)
 |0=>by rw[Nat.mul_zero,Int.pow_zero,Int.pow_zero]
 |n+1=>by rw[Int.pow_succ,HR x m n,Nat.mul_succ,Int.pow_add]
theorem HS{l h h':Int}{δ:Nat}(e:h'*h^δ=l^δ*h):∀a:Nat,(l^(δ+1))^(a+1)*h^(δ+a)=l^(δ+(a+1))*h^(δ*(a+1))*h'^a
 |0=>by
  rw[Nat.zero_add,Int.pow_one,Int.pow_zero,Int.mul_one,Nat.mul_one]
  simp
 |a+1=>by
  have ih:=HS e a
  have e1:(l^(δ+1))^(a+1+1)*h^(δ+(a+1))=((l^(δ+1))^(a+1)*h^(δ+a))*(l*(l^δ*h)):=by
   rw[Int.pow_succ (l^(δ+1)) (a+1),←Nat.add_assoc δ a 1,Int.pow_succ h (δ+a),Int.pow_succ l δ]
   generalize(l^δ*l)^(a+1)=x
   generalize h^(δ+a)=y
   generalize l^δ=z
   grind
  have e2:l^(δ+(a+1+1))*h^(δ*(a+1+1))*h'^(a+1)=(l^(δ+(a+1))*h^(δ*(a+1))*h'^a)*(l*(h'*h^δ)):=by
   rw[←Nat.add_assoc δ (a+1) 1,Int.pow_succ l (δ+(a+1)),Nat.mul_succ δ (a+1),Int.pow_add h (δ*(a+1)) δ,Int.pow_succ h' a]
   generalize l^(δ+(a+1))=x
   generalize h^(δ*(a+1))=y
   generalize h^δ=z
   generalize h'^a=u
   grind
  rw[e1,e2,ih,e]
structure Ch(A B:Vc)(m n:Nat)(P Q:Vc)(p q:Nat)(lp lq h:Int):Prop where
 hpq:q<=p
 XW:lp≠0
 h0:h≠0
 wL:lq≠0
 lead:Q (false,q)=lq
 zero:∀t,q<t->Q (false,t)=0
 inv:∀k,k<=q->k<p->∃ε:Int,HP ε/\∀ρ,SS (p+q -k) P Q (q -k) (p -k) ρ=ε*(lp^(q -k)*h^(p -k -1))*SS (m+n -k) A B (n -k) (m -k) ρ
theorem Ch.start{A B:Vc}{m n:Nat}{l:Int}(h:n<=m)(hl:B (false,n)=l)(l0:l≠0)(hz:∀t,n<t->B (false,t)=0):Ch A B m n A B m n 1 l 1:=
 ⟨h,by decide,by decide,l0,hl,hz,fun k _ _=>⟨1,.inl rfl,fun ρ=>by rw[Int.one_pow,Int.one_pow];simp⟩⟩
theorem Ch.rest{A B P Q:Vc}{m n p q:Nat}{lp lq h:Int}(H:Ch A B m n P Q p q lp lq h)(hq:1<=q){L:List (Int×Nat)}(hL:∀z∈L,z.2<=p -q)(hR:∀t,q<=t->less (lq^(p -q+1)) P Q L (false,t)=0):
 ∃ε:Int,HP ε/\∀ρ,less (lq^(p -q+1)) P Q L ρ=ε*(lp*h^(p -q))*SS (m+n -(q -1)) A B (n -(q -1)) (m -(q -1)) ρ:=by
 have hpq:=H.hpq
 obtain⟨ε,Q9,inv⟩:=H.inv (q -1) (by lia) (by lia)
 refine⟨sg (p -q+1)*ε,(qS _).mul Q9,fun ρ=>?_⟩
 have e0:=inv ρ
 rw[show p+q -(q -1)=q+0+(p -q+1) by lia,show q -(q -1)=1 by lia,show p -(q -1)=0+(p -q+1) by lia,show 0+(p -q+1) -1=p -q by lia,Int.pow_one]at e0
 have e1:=Cy (E:=q+0+(p -q+1)) (A:=P) (B:=Q) (c:=lq^(p -q+1)) (L:=L) (a:=1) (b:=0+(p -q+1)) (fun z hz=>by have:=hL z hz;lia) ρ
 have e2:=Cz H.lead H.zero (z:=q) (a:=1) (b:=0) (s:=p -q+1) hR (Nat.le_refl _) (by lia) ρ
 rw[e1,HN,Int.pow_one,show(0+(p -q+1))*1=p -q+1 by lia,e0]at e2
 have c0:=ef H.wL (p -q+1)
 have s2:=(qS (p -q+1)).sq
 generalize lq^(p -q+1)=c at*
 generalize less c P Q L ρ=R at*
 generalize sg (p -q+1)=s at*
 generalize h^(p -q)=hh at*
 generalize SS (m+n -(q -1)) A B (n -(q -1)) (m -(q -1)) ρ=S at*
 have e3:c*R=c*(s*ε*(lp*hh)*S):=by
  have:c*(s*ε*(lp*hh)*S)=s*(c*(ε*(lp*hh)*S)):=by grind
  rw[this,e2]
  have:s*(s*(c*R))=s*s*(c*R):=by grind
  rw[this,s2,Int.one_mul]
 exact Int.eq_of_mul_eq_mul_left c0 e3
theorem Ch.step{A B P Q Q':Vc}{m n p q r:Nat}{lp lq lr h h':Int}(H:Ch A B m n P Q p q lp lq h){L:List (Int×Nat)}(hL:∀z∈L,z.2<=p -q)(hQ:∀ρ,less (lq^(p -q+1)) P Q L ρ=(lp*h^(p -q))*Q' ρ)(hr:r<q)(hl:Q' (false,r)=lr)(l0:lr≠0)(hz:∀t,r<t->Q' (false,t)=0)
 (hh:h'*h^(p -q)=lq^(p -q)*h):Ch A B m n Q Q' q r lq lr h':=by
 have hpq:=H.hpq
 have h'0:h'≠0:=fun z=>by
  rw[z,Int.zero_mul]at hh
  exact Int.mul_ne_zero (ef H.wL _) H.h0 hh.symm
 refine⟨by lia,H.wL,h'0,l0,hl,hz,fun k hk1 hk2=>?_⟩
 obtain⟨ε,Q9,inv⟩:=H.inv k (by lia) (by lia)
 refine⟨sg ((p -k)*(q -k))*ε,(qS _).mul Q9,fun ρ=>?_⟩
 have e0:=inv ρ
 have e1:=Cy (E:=p+q -k) (A:=P) (B:=Q) (c:=lq^(p -q+1)) (L:=L) (a:=q -k) (b:=p -k) (fun z hz=>by have:=hL z hz;lia) ρ
 have e2:=Cz (R:=less (lq^(p -q+1)) P Q L) H.lead H.zero (z:=r+1) (a:=q -k) (b:=r -k) (s:=p -r) (fun t ht=>by rw[hQ,hz t (by lia),Int.mul_zero]) (by lia) (by lia) ρ
 rw[HM hQ,show q+(r -k)+(p -r)=p+q -k by lia,show r -k+(p -r)=p -k by lia,e1,e0,show q+(r -k)=q+r -k by lia]at e2
 have pid:=HS hh (q -k -1)
 have s2:=(qS ((p -k)*(q -k))).sq
 have ck:(lp*h^(p -q))^(q -k)=lp^(q -k)*h^((p -q)*(q -k)):=by rw[HQ,HR]
 have u0:lq^(p -r)*(lp*h^(p -q))^(q -k)≠0:=Int.mul_ne_zero (ef H.wL _) (ef (Int.mul_ne_zero H.XW (ef H.h0 _)) _)
 refine Int.eq_of_mul_eq_mul_left u0 ?_
 rw[show q -k -1+1=q -k by lia,show p -q+(q -k -1)=p -k -1 by lia,show p -q+(q -k)=(p -r)+(r -k) by lia,Int.pow_add lq (p -r) (r -k)]at pid
 rw[ck]at e2⊢
 generalize SS (q+r -k) Q Q' (r -k) (q -k) ρ=X at*
 generalize SS (m+n -k) A B (n -k) (m -k) ρ=S at*
 generalize sg ((p -k)*(q -k))=s at*
 generalize(lq^(p -q+1))^(q -k)=c at*
 generalize lp^(q -k)=u at*
 generalize h^(p -k -1)=v at*
 generalize lq^(p -r)=x at*
 generalize h^((p -q)*(q -k))=y at*
 generalize lq^(r -k)=z at*
 generalize h'^(q -k -1)=w at*
 have e3:x*(u*y)*X=s*s*(x*(u*y)*X):=by rw[s2,Int.one_mul]
 have e4:s*s*(x*(u*y)*X)=s*(s*(x*(u*y*X))):=by grind
 rw[e3,e4,←e2]
 have e5:s*(c*(ε*(u*v)*S))=s*ε*u*S*(c*v):=by grind
 rw[e5,pid]
 grind
end Sub
namespace Sub
open Num
theorem MZ{D:List Vc->Int}{r:Ix}{M b:Nat}:∀(post pre:List Vc),(∀c∈post,(c r).natAbs<=M)->(∀u,(∀c∈u,c∈pre\/c∈post)->u.length+1=pre.length+post.length->(D u).natAbs<=b)->(ex D r pre post).natAbs<=post.length*(M*b)
 |[],_,_,_=>by simp[ex]
 |c::post,pre,h,hD=>by
  rw[ex]
  have h1:=h c List.mem_cons_self
  have h2:=hD (pre++post) (fun d hd=>by
   rcases List.mem_append.mp hd with z|z
   ·exact .inl z
   ·exact .inr (List.mem_cons_of_mem _ z)) (by simp only[List.length_append,List.length_cons];lia)
  have ih:=MZ (D:=D) (r:=r) (M:=M) (b:=b) post (pre++[c]) (fun d hd=>h d (List.mem_cons_of_mem _ hd)) (fun u hu hl=>hD u (fun d hd=>by
   rcases hu d hd with z|z
   ·rcases List.mem_append.mp z with y|y
    ·exact .inl y
    ·rw[List.mem_singleton]at y
     rw[y]
     exact .inr List.mem_cons_self
   ·exact .inr (List.mem_cons_of_mem _ z)) (by simp only[List.length_append,List.length_cons,List.length_nil]at hl⊢;lia))
  have h3:(c r*D (pre++post)).natAbs<=M*b:=by
   rw[Int.natAbs_mul]
   exact Nat.mul_le_mul h1 h2
  have h4:(c r*D (pre++post) -ex D r (pre++[c]) post).natAbs<=(c r*D (pre++post)).natAbs+(ex D r (pre++[c]) post).natAbs:=by omega
  have h5:(c::post).length*(M*b)=post.length*(M*b)+M*b:=by rw[List.length_cons,Nat.succ_mul]
  omega
theorem HU{N M:Nat}:∀(rs:List Ix) (cs:List Vc),cs.length<=N->(∀c∈cs,∀i,(c i).natAbs<=M)->(det rs cs).natAbs<=(N*M)^rs.length
 |[],[],_,_=>by simp[det]
 |[],_::_,_,_=>by simp[det]
 |r::rs,cs,hl,hM=>by
  rw[det]
  have:=MZ (D:=det rs) (r:=r) (M:=M) (b:=(N*M)^rs.length) cs [] (fun c hc=>hM c hc r) (fun u hu hul=>HU rs u (by simp only[List.length_nil]at hul;lia) fun c hc=>by
   rcases hu c hc with z|z
   ·cases z
   ·exact hM c z)
  refine Nat.le_trans this ?_
  rw[List.length_cons,Nat.pow_succ]
  have h2:cs.length*(M*(N*M)^rs.length)<=N*(M*(N*M)^rs.length):=Nat.mul_le_mul_right _ hl
  have h3:N*(M*(N*M)^rs.length)=(N*M)^rs.length*(N*M):=by
   generalize(N*M)^rs.length=x
   grind
  lia
theorem CA:∀(c E:Nat),(rws E c).length<=c
 |0,E=>by rw[yf];exact Nat.le_refl _
 |c+1,0=>Nat.zero_le _
 |c+1,E+1=>by
  show(rws E c).length+1<=c+1
  have:=CA c E
  lia
theorem M0{P:Vc}{M:Nat}(h:∀i,(P i).natAbs<=M)(j:Nat)(i:Ix):(sh j P i).natAbs<=M:=by
 unfold sh
 split
 ·exact h _
 ·exact Nat.zero_le _
theorem Vb{A B:Vc}{N M a b:Nat}(hA:∀i,(A i).natAbs<=M)(hB:∀i,(B i).natAbs<=M)(hN:a+b<=N)(h1:1<=a+b)(hW:1<=N*M)(E:Nat)(ρ:Ix):(SS E A B a b ρ).natAbs<=(N*M)^(a+b):=by
 unfold SS
 have:=HU (N:=N) (M:=M) (rws E (a+b -1)++[ρ]) (p7 A a++p7 B b) (by rw[List.length_append,p8,p8];exact hN) (fun c hc i=>by
  rcases List.mem_append.mp hc with h|h
  ·obtain⟨j,_,rfl⟩:=qQ h
   exact M0 hA j i
  ·obtain⟨j,_,rfl⟩:=qQ h
   exact M0 hB j i)
 refine Nat.le_trans this (Nat.pow_le_pow_right hW ?_)
 have:=CA (a+b -1) E
 rw[List.length_append]
 show _+1<=_
 omega
theorem HP.abs{ε x:Int}(h:HP ε):(ε*x).natAbs=x.natAbs:=by
 rcases h with rfl|rfl<;>lia
theorem Ch.Lu{A B P Q:Vc}{m n p q:Nat}{lp lq h:Int}(H:Ch A B m n P Q p q lp lq h)(hq:q<p):∃S:Int,lq^(p -q)=h^(p -q -1)*S/\S.natAbs=(SS (m+n -q) A B (n -q) (m -q) (false,q)).natAbs:=by
 obtain⟨ε,Q9,inv⟩:=H.inv q (Nat.le_refl _) hq
 obtain⟨d,hd⟩:∃d,p=q+1+d:=⟨p -q -1,by lia⟩
 have e0:=inv (false,q)
 have e1:=Ls (A:=P) H.lead H.zero d (false,q)
 rw[show p+q -q=q+1+d by lia,show q -q=0 by lia,show p -q=1+d by lia,e1,H.lead,show 1+d -1=d by lia,Int.pow_zero,Int.one_mul]at e0
 have e2:lq^(p -q)=lq^d*lq:=by
  rw[←Int.pow_succ]
  congr 1
  lia
 refine⟨ε*SS (m+n -q) A B (n -q) (m -q) (false,q),?_,Q9.abs⟩
 rw[e2,e0,show p -q -1=d by lia]
 generalize SS (m+n -q) A B (n -q) (m -q) (false,q)=S
 generalize h^d=x
 grind
noncomputable def vc(r f:List Int):Vc:=fun i=>if i.1 then f.getD i.2 0 else r.getD i.2 0
noncomputable def sI(Qs:List Int):Nat->List (Int×Nat)
 |0=>[]
 |n+1=>(-(Qs.getD n 0),n)::sI Qs n
theorem CB{Qs:List Int}:∀{n:Nat} {z:Int×Nat},z∈sI Qs n->z.2<n
 |n+1,z,h=>by
  rcases List.mem_cons.mp h with rfl|h
  ·exact Nat.lt_succ_self n
  ·exact Nat.lt_succ_of_lt (CB h)
theorem CC(c:Int)(A B:Vc)(Qs:List Int)(i:Ix):∀n,less c A B (sI Qs n) i=c*A i -sm (fun j=>Qs.getD j 0*(if j<=i.2 then B (i.1,i.2 -j)else 0)) n
 |0=>by
  show c*A i+0*A i=c*A i -0
  simp
 |n+1=>by
  have ih:=CC c A B Qs i n
  show 1*less c A B (sI Qs n) i+ -(Qs.getD n 0)*sh n B i=_
  rw[ih,sm]
  have e:sh n B i=if n<=i.2 then B (i.1,i.2 -n)else 0:=rfl
  rw[e]
  generalize(if n<=i.2 then B (i.1,i.2 -n)else 0)=x
  generalize sm _ n=y
  generalize Qs.getD n 0=z
  grind
theorem Lv(c:Int)(P fP Q fQ Qs:List Int)(b:Bool)(t:Nat):less c (vc P fP) (vc Q fQ) (sI Qs Qs.length) (b,t)=c*(if b then fP else P).getD t 0 -cf Qs (if b then fQ else Q) Qs.length t:=by
 rw[CC,xV]
 cases b
 ·rfl
 ·rfl
end Sub
namespace Num
theorem vI{f g:Nat->Rat}(h:∀i,1<=i->f i=0)(k:Nat):lS f g k=f 0*g k:=by
 unfold lS
 rw[jy (m:=1) (k+1) (by lia) fun i h1 _=>by rw[h i h1,Rat.zero_mul]]
 show 0+f 0*g (k -0)=_
 rw[Nat.sub_zero,Rat.zero_add]
end Num
namespace Sub
open Num
structure CS(ns ms f0 g0:List Int)(w E b1:Nat)(P Q fP fQ:List Int)(ld h:Int):Prop where
 ch:Ch (vc ns f0) (vc ms g0) (ns.length -1) (ms.length -1) (vc P fP) (vc Q fQ) (P.length -1) (Q.length -1) ld (Q.getD (Q.length -1) 0) h
 lq:0<Q.length
 M1:Q.length<=P.length
 lp:P.length<=ns.length
 Vd:Q.length<=ms.length
 lf:fP.length+Q.length<=b1
 Ra:fQ=[]\/fQ.length+P.length<=b1
 bP:∀i,(vc P fP i).natAbs<=2^(w*(ns.length -1+(ms.length -1)+1))
 bQ:∀i,(vc Q fQ i).natAbs<=2^(w*(ns.length -1+(ms.length -1)+1))
 bl:ld.natAbs<=2^(w*(ns.length -1+(ms.length -1)+1))
 bh:h.natAbs<=2^(w*(ns.length -1+(ms.length -1) -2*(P.length -1)))
structure FX(ns ms f0 g0:List Int)(w E:Nat):Prop where
 l1:ms.length<=ns.length
 l2:ns.length<=50
 M:∃M:Nat,(∀i,(vc ns f0 i).natAbs<=M)/\(∀i,(vc ms g0 i).natAbs<=M)/\1<=M/\(ns.length -1+(ms.length -1)+1)*M<=2^w
 E1:∀p,(ns.length -1+(ms.length -1) -2*p)*p+(ns.length -1+(ms.length -1)+1)<=E
theorem mQ(x:Int):∀n:Nat,(x^n).natAbs=x.natAbs^n
 |0=>by simp
 |n+1=>by rw[Int.pow_succ,Int.natAbs_mul,mQ x n,Nat.pow_succ]
theorem Ve{ns ms f0 g0:List Int}{w E:Nat}(F:FX ns ms f0 g0 w E){k:Nat}(h1:k<=ms.length -1)(h2:1<=(ms.length -1 -k)+(ns.length -1 -k))(e:Nat)(ρ:Ix):
 (SS e (vc ns f0) (vc ms g0) (ms.length -1 -k) (ns.length -1 -k) ρ).natAbs<=2^(w*(ns.length -1+(ms.length -1) -2*k)):=by
 obtain⟨M,m1,m2,m3,m4⟩:=F.M
 have l1:=F.l1
 have hW:1<=(ns.length -1+(ms.length -1)+1)*M:=Nat.mul_le_mul (show 1<=ns.length -1+(ms.length -1)+1 by lia) m3
 have b:=Vb (N:=ns.length -1+(ms.length -1)+1) m1 m2 (by omega) h2 hW e ρ
 refine Nat.le_trans b ?_
 rw[Nat.pow_mul,show ms.length -1 -k+(ns.length -1 -k)=ns.length -1+(ms.length -1) -2*k by omega]
 exact Nat.pow_le_pow_left m4 _
theorem getD_mem'{ns:List Int}{k:Nat}(h:k<ns.length):ns.getD k 0∈ns:=by
 rw[List.getD_eq_getElem?_getD,List.getElem?_eq_getElem h]
 exact List.getElem_mem h
theorem mem_getD{ns:List Int}{x:Int}(h:x∈ns):∃k,k<ns.length/\ns.getD k 0=x:=by
 obtain⟨i,hi,e⟩:=List.getElem_of_mem h
 exact⟨i,hi,by rw[List.getD_eq_getElem?_getD,List.getElem?_eq_getElem hi,←e];rfl⟩
theorem map_getD{ns:List Int}{f:Int->Int}(h0:f 0=0)(k:Nat):(ns.map f).getD k 0=f (ns.getD k 0):=by
 rw[List.getD_eq_getElem?_getD,List.getElem?_map,List.getD_eq_getElem?_getD]
 cases ns[k]? with
 |none=>exact h0.symm
 |some z=>rfl
noncomputable def hnext(h l:Int)(δ:Nat):Int:=if δ=0 then h else(l^δ).fdiv (h^(δ -1))
theorem CS.step{ns ms f0 g0 P Q fP fQ Qs R F:List Int}{w E b1:Nat}{ld h c:Int}(X:FX ns ms f0 g0 w E)(C:CS ns ms f0 g0 w E b1 P Q fP fQ ld h)(hq:2<=Q.length)(hc:c=Q.getD (Q.length -1) 0^(P.length -Q.length+1))(Rb:Qs.length=P.length -Q.length+1)
 (hR:∀k,R.getD k 0=c*P.getD k 0 -cf Qs Q Qs.length k) (lR:R.length<Q.length) (zR:R=[]\/R.getD (R.length -1) 0≠0) (hF:∀k,F.getD k 0=c*fP.getD k 0 -cf Qs fQ Qs.length k) (lF:F.length<=max fP.length (Qs.length+fQ.length -1)) (Rc:fQ=[]->F.length<=fP.length):
 ld*h^(P.length -Q.length)≠0/\(ld*h^(P.length -Q.length)).natAbs<=2^(w*E)/\(∀x∈R,ld*h^(P.length -Q.length)∣x)/\(∀x∈F,ld*h^(P.length -Q.length)∣x)/\(0<P.length -Q.length->h^(P.length -Q.length -1)≠0/\(h^(P.length -Q.length -1)).natAbs<=2^(w*E))/\
 (∀ρ,(vc (R.map fun x=>x.fdiv (ld*h^(P.length -Q.length))) (F.map fun x=>x.fdiv (ld*h^(P.length -Q.length))) ρ).natAbs<=2^(w*(ns.length -1+(ms.length -1)+1)))/\
 (R≠[]->CS ns ms f0 g0 w E b1 Q (R.map fun x=>x.fdiv (ld*h^(P.length -Q.length))) fQ (F.map fun x=>x.fdiv (ld*h^(P.length -Q.length))) (Q.getD (Q.length -1) 0) (hnext h (Q.getD (Q.length -1) 0) (P.length -Q.length))):=by
 have ch:=C.ch
 have M1:=C.M1
 have lp:=C.lp
 have l1:=X.l1
 have lf:=C.lf
 have Vd:=C.Vd
 obtain⟨δ,Vf⟩:∃δ,P.length -Q.length=δ:=⟨_,rfl⟩
 have hpq:P.length -1 -(Q.length -1)=δ:=by lia
 have hL:∀z∈sI Qs Qs.length,z.2<=P.length -1 -(Q.length -1):=fun z hz=>by
  have:=CB hz
  lia
 have eL:∀(b:Bool) (t:Nat),less c (vc P fP) (vc Q fQ) (sI Qs Qs.length) (b,t)=(if b then F else R).getD t 0:=fun b t=>by
  rw[Lv]
  cases b
  ·exact(hR t).symm
  ·exact(hF t).symm
 have wL:=ch.wL
 generalize ZE:Q.getD (Q.length -1) 0=lq at*
 have hc2:lq^(P.length -1 -(Q.length -1)+1)=c:=by rw[hc,hpq,Vf]
 have XX:ld*h^δ≠0:=Int.mul_ne_zero ch.XW (ef ch.h0 _)
 obtain⟨ε,Q9,rest⟩:=ch.rest (L:=sI Qs Qs.length) (by lia) hL (fun t ht=>by
  rw[hc2,eL]
  exact outI (by show R.length<=t;lia))
 rw[hc2,hpq]at rest
 have bk:(ld*h^δ).natAbs<=2^(w*E):=by
  rw[Int.natAbs_mul,mQ]
  have e1:=X.E1 (P.length -1)
  have h1:h.natAbs^δ<=2^(w*(ns.length -1+(ms.length -1) -2*(P.length -1))*δ):=by
   rw[Nat.pow_mul]
   exact Nat.pow_le_pow_left C.bh δ
  refine Nat.le_trans (Nat.mul_le_mul C.bl h1) ?_
  rw[←Nat.pow_add]
  refine Nat.pow_le_pow_right (by decide) ?_
  rw[Nat.mul_assoc,←Nat.mul_add]
  refine Nat.mul_le_mul_left _ ?_
  have:(ns.length -1+(ms.length -1) -2*(P.length -1))*δ<=(ns.length -1+(ms.length -1) -2*(P.length -1))*(P.length -1):=Nat.mul_le_mul_left _ (by lia)
  lia
 have dv:∀(b:Bool) (t:Nat),(ld*h^δ)∣(if b then F else R).getD t 0:=fun b t=>by
  rw[←eL,rest]
  exact⟨ε*SS (ns.length -1+(ms.length -1) -(Q.length -1 -1)) (vc ns f0) (vc ms g0) (ms.length -1 -(Q.length -1 -1)) (ns.length -1 -(Q.length -1 -1)) (b,t),by grind⟩
 have dR:∀x∈R,ld*h^δ∣x:=fun x hx=>by
  obtain⟨k,_,rfl⟩:=mem_getD hx
  exact dv false k
 have dF:∀x∈F,ld*h^δ∣x:=fun x hx=>by
  obtain⟨k,_,rfl⟩:=mem_getD hx
  exact dv true k
 have fd:∀(b:Bool) (t:Nat),((if b then F else R).map fun x=>x.fdiv (ld*h^δ)).getD t 0*(ld*h^δ)=(if b then F else R).getD t 0:=fun b t=>by
  rw[map_getD (f:=fun x=>x.fdiv (ld*h^δ)) (Int.zero_fdiv _),Int.fdiv_eq_ediv_of_dvd (dv b t),Int.ediv_mul_cancel (dv b t)]
 have vq:∀ρ,vc (R.map fun x=>x.fdiv (ld*h^δ)) (F.map fun x=>x.fdiv (ld*h^δ)) ρ*(ld*h^δ)=less c (vc P fP) (vc Q fQ) (sI Qs Qs.length) ρ:=fun ρ=>by
  obtain⟨b,t⟩:=ρ
  rw[eL,←fd b t]
  cases b<;>rfl
 have vS:∀ρ,(vc (R.map fun x=>x.fdiv (ld*h^δ)) (F.map fun x=>x.fdiv (ld*h^δ)) ρ).natAbs<=2^(w*(ns.length -1+(ms.length -1)+1)):=fun ρ=>by
  have e1:=vq ρ
  rw[rest]at e1
  have e2:vc (R.map fun x=>x.fdiv (ld*h^δ)) (F.map fun x=>x.fdiv (ld*h^δ)) ρ=ε*SS (ns.length -1+(ms.length -1) -(Q.length -1 -1)) (vc ns f0) (vc ms g0) (ms.length -1 -(Q.length -1 -1)) (ns.length -1 -(Q.length -1 -1)) ρ:=by
   refine Int.eq_of_mul_eq_mul_right XX ?_
   rw[e1]
   grind
  rw[e2,Q9.abs]
  refine Nat.le_trans (Ve X (by lia) (by lia) _ _) (Nat.pow_le_pow_right (by decide) (Nat.mul_le_mul_left _ (by lia)))
 rw[Vf]
 refine⟨XX,bk,dR,dF,fun hd=>⟨ef ch.h0 _,?_⟩,vS,fun Vg=>?_⟩
 ·rw[mQ]
  have e1:=X.E1 (P.length -1)
  have h1:h.natAbs^(δ -1)<=2^(w*(ns.length -1+(ms.length -1) -2*(P.length -1))*(δ -1)):=by
   rw[Nat.pow_mul]
   exact Nat.pow_le_pow_left C.bh _
  refine Nat.le_trans h1 (Nat.pow_le_pow_right (by decide) ?_)
  rw[Nat.mul_assoc]
  refine Nat.mul_le_mul_left _ ?_
  have:(ns.length -1+(ms.length -1) -2*(P.length -1))*(δ -1)<=(ns.length -1+(ms.length -1) -2*(P.length -1))*(P.length -1):=Nat.mul_le_mul_left _ (by clear h1 e1 hd bk XX hc2 wL hc ZE hpq;lia)
  lia
 have EB:0<R.length:=List.length_pos_iff.mpr Vg
 have zl:=zR.resolve_left Vg
 have h2:∃S:Int,hnext h lq δ=S/\S*h^δ=lq^δ*h/\S.natAbs<=2^(w*(ns.length -1+(ms.length -1) -2*(Q.length -1))):=by
  by_cases hd:δ=0
  ·refine⟨h,by unfold hnext;rw[if_pos hd],by rw[hd,Int.pow_zero,Int.pow_zero,Int.mul_one,Int.one_mul],?_⟩
   have:=C.bh
   rw[show P.length -1=Q.length -1 by clear this;lia]at this
   exact this
  ·obtain⟨S,e1,e2⟩:=ch.Lu (by lia)
   rw[hpq]at e1
   have hne:h^(δ -1)≠0:=ef ch.h0 _
   refine⟨S,?_,?_,?_⟩
   ·unfold hnext
    rw[if_neg hd,e1,Int.fdiv_eq_ediv_of_dvd ⟨S,rfl⟩,Int.mul_ediv_cancel_left S hne]
   ·have e3:h^δ=h^(δ -1)*h:=by
     rw[←Int.pow_succ]
     congr 1
     lia
    rw[e1,e3]
    generalize h^(δ -1)=x
    grind
   ·rw[e2]
    exact Ve X (by lia) (by clear hne e2 e1;lia) _ _
 obtain⟨S,hS,hh,bS⟩:=h2
 rw[hS]
 have Sk:(R.map fun x=>x.fdiv (ld*h^δ)).length=R.length:=List.length_map _
 have lFm:(F.map fun x=>x.fdiv (ld*h^δ)).length=F.length:=List.length_map _
 have ql:(R.map fun x=>x.fdiv (ld*h^δ)).getD (R.length -1) 0≠0:=fun z=>by
  have e:=fd false (R.length -1)
  simp only[Bool.false_eq_true,if_false]at e
  rw[z,Int.zero_mul]at e
  exact zl e.symm
 refine⟨?_,by rw[Sk];exact EB,by rw[Sk];lia,by lia,by rw[Sk];lia,?_,?_,C.bQ,vS,?_,bS⟩
 ·rw[Sk]
  refine ch.step (L:=sI Qs Qs.length) hL (fun ρ=>?_) (by lia) rfl ql (fun t ht=>?_) (by rw[hpq];exact hh)
  ·rw[hc2,hpq,←vq ρ,Int.mul_comm]
  ·exact outI (by show(R.map fun x=>x.fdiv (ld*h^δ)).length<=t;rw[Sk];lia)
 ·rw[Sk]
  rcases C.Ra with z|z
  ·rw[z]
   show 0+_<=_
   lia
  ·lia
 ·rw[lFm]
  rcases C.Ra with z|z
  ·have:=Rc z
   right
   lia
  ·right
   lia
 ·have:=C.bQ (false,Q.length -1)
  rw[←ZE]
  exact this
end Sub
namespace Num
theorem bT(f g:Nat->Int)(k:Nat):az f g k=az g f k:=by
 unfold az
 rw[←AK]
 refine gf _ fun i hi=>?_
 show f (k -i)*g (k -(k -i))=g i*f (k -i)
 rw[show k -(k -i)=i by lia,Int.mul_comm]
theorem aY{f f' g g':Nat->Int}(h1:∀i,f i=f' i)(h2:∀i,g i=g' i)(k:Nat):az f g k=az f' g' k:=by
 rw[show f=f' from funext h1,show g=g' from funext h2]
theorem iK(f g h:Nat->Int)(k:Nat):az (fun i=>f i+g i) h k=az f h k+az g h k:=by
 unfold az
 rw[←AN]
 exact gf _ fun i _=>Int.add_mul ..
theorem cT(c:Int)(f h:Nat->Int)(k:Nat):az (fun i=>c*f i) h k=c*az f h k:=by
 unfold az
 rw[←vv]
 exact gf _ fun i _=>Int.mul_assoc ..
theorem jC(f g h:Nat->Int)(k:Nat):az f (fun i=>g i+h i) k=az f g k+az f h k:=by
 rw[bT,iK,bT g,bT h]
theorem p9(c:Int)(f h:Nat->Int)(k:Nat):az f (fun i=>c*h i) k=c*az f h k:=by
 rw[bT,cT,bT h]
theorem b5(f g:Nat->Int):az f g 0=f 0*g 0:=by
 unfold az
 rw[sm,sm]
 show 0+f 0*g (0 -0)=_
 rw[Int.zero_add]
theorem fR(f g:Nat->Int)(k:Nat):az f g (k+1)=f 0*g (k+1)+az (fun i=>f (i+1)) g k:=by
 unfold az
 rw[vn]
 congr 1
 exact gf _ fun i hi=>by
  show f (i+1)*g (k+1 -(i+1))=f (i+1)*g (k -i)
  rw[show k+1 -(i+1)=k -i by lia]
theorem cE(g h:Nat->Int):∀(k:Nat) (f:Nat->Int),az (az f g) h k=az f (az g h) k
 |0,f=>by rw[b5,b5,b5,b5,Int.mul_assoc]
 |k+1,f=>by
  rw[fR,fR f,b5,fR g]
  have e:(fun i=>az f g (i+1))=fun i=>f 0*g (i+1)+az (fun i=>f (i+1)) g i:=funext fun i=>fR f g i
  rw[e,iK,cT,cE g h k]
  generalize az (fun i=>g (i+1)) h k=x
  generalize az (fun i=>f (i+1)) (az g h) k=y
  generalize h (k+1)=z
  grind
theorem CD{f g:Nat->Int}{n m:Nat}(hf:∀i,n<=i->f i=0)(hg:∀i,m<=i->g i=0){k:Nat}(h:n+m<=k+1):az f g k=0:=by
 unfold az
 rw[gf (g:=fun _=>0) _ fun i hi=>?_]
 ·have:∀n,sm (fun _=>0) n=0:=fun n=>by
   induction n with
   |zero=>rfl
   |succ n ih=>rw[sm,ih];rfl
  exact this _
 ·show f i*g (k -i)=0
  by_cases hi2:n<=i
  ·rw[hf i hi2,Int.zero_mul]
  ·rw[hg _ (by lia),Int.mul_zero]
abbrev co(a:List Int):Nat->Int:=fun i=>a.getD i 0
theorem jD(a b:List Int)(k:Nat):cf a b a.length k=az (co a) (co b) k:=pY a b k
noncomputable def Dv(G X:Nat->Int):Prop:=∃c:Int,c≠0/\∃S:Nat->Int,(∃n,∀i,n<=i->S i=0)/\∀k,c*X k=az S G k
theorem Dv.step{G A B C Qs:Nat->Int}{c d:Int}(hc:c≠0)(hQ:∃n,∀i,n<=i->Qs i=0)(hB:Dv G B)(hC:Dv G C)(h:∀k,c*A k=az Qs B k+d*C k):Dv G A:=by
 obtain⟨c1,n1,S1,⟨m1,z1⟩,e1⟩:=hB
 obtain⟨c2,n2,S2,⟨m2,z2⟩,e2⟩:=hC
 obtain⟨m0,z0⟩:=hQ
 refine⟨c*c1*c2,Int.mul_ne_zero (Int.mul_ne_zero hc n1) n2,fun i=>c2*az Qs S1 i+(c1*d)*S2 i,⟨m0+m1+m2,fun i hi=>?_⟩,fun k=>?_⟩
 ·show c2*az Qs S1 i+(c1*d)*S2 i=0
  rw[CD z0 z1 (by lia),z2 i (by lia)]
  simp
 ·rw[iK,cT,cT,←e2 k]
  have:az (az Qs S1) G k=c1*az Qs B k:=by
   rw[cE,←p9]
   exact aY (fun _=>rfl) (fun i=>(e1 i).symm) k
  rw[this]
  have:=h k
  generalize az Qs B k=x at*
  generalize A k=a at*
  generalize C k=y at*
  have e:c*c1*c2*a=c1*c2*(c*a):=by grind
  rw[e,this]
  grind
theorem Dv.self(G:Nat->Int):Dv G G:=by
 refine⟨1,by decide,fun i=>if i=0 then 1 else 0,⟨1,fun i hi=>if_neg (by lia)⟩,fun k=>?_⟩
 cases k with
 |zero=>rw[b5];simp
 |succ k=>
  rw[fR]
  have:az (fun i=>if i+1=0 then(1:Int)else 0) G k=0:=by
   rw[show(fun i=>if i+1=0 then(1:Int)else 0)=fun _=>0 from funext fun i=>if_neg (by lia)]
   exact gk G k
  rw[this]
  simp
theorem Dv.const{b:Int}(hb:b≠0)(X:List Int):Dv (co [b]) (co X):=by
 refine⟨b,hb,co X,⟨X.length,fun i hi=>outI hi⟩,fun k=>?_⟩
 rw[bT]
 cases k with
 |zero=>rw[b5];rfl
 |succ k=>
  rw[fR]
  have:az (fun i=>co [b] (i+1)) (co X) k=0:=by
   rw[show(fun i=>co [b] (i+1))=fun _=>0 from funext fun i=>outI (by simp)]
   exact gk _ k
  rw[this]
  show b*_=b*_+0
  lia
theorem yh{A B R F G fA fB vA vB Qs N M:Nat->Int}{c:Int}(hA:∀k,A k=az fA N k+az vA M k)(hB:∀k,B k=az fB N k+az vB M k)(hR:∀k,R k=c*A k -az Qs B k)(hF:∀k,F k=c*fA k -az Qs fB k)(hG:∀k,G k=c*vA k -az Qs vB k)(k:Nat):R k=az F N k+az G M k:=by
 have e:∀(U V:Nat->Int) (X:Nat->Int),az (fun i=>c*U i -az Qs V i) X k=c*az U X k -az Qs (az V X) k:=fun U V X=>by
  have e1:(fun i=>c*U i -az Qs V i)=fun i=>c*U i+(-1)*az Qs V i:=funext fun i=>by lia
  rw[e1,iK,cT,cT,cE]
  lia
 rw[aY (f':=fun i=>c*fA i -az Qs fB i) hF (fun _=>rfl),aY (f':=fun i=>c*vA i -az Qs vB i) hG (fun _=>rfl),e,e,hR k,hA k]
 have e2:az Qs B k=az Qs (az fB N) k+az Qs (az vB M) k:=by
  rw[←jC]
  exact aY (fun _=>rfl) hB k
 rw[e2]
 generalize az Qs (az fB N) k=x
 generalize az Qs (az vB M) k=y
 generalize az fA N k=z
 generalize az vA M k=u
 grind
theorem HV{fA fB vA vB Qs F G:Nat->Int}{c:Int}(hF:∀k,F k=c*fA k -az Qs fB k)(hG:∀k,G k=c*vA k -az Qs vB k)(k:Nat):az fB G k -az F vB k= -(c*(az fA vB k -az fB vA k)):=by
 have e1:az F vB k=c*az fA vB k -az (az Qs fB) vB k:=by
  rw[aY (f':=fun i=>c*fA i+(-1)*az Qs fB i) (g':=vB) (fun i=>by rw[hF i];lia) (fun _=>rfl),iK,cT,cT]
  lia
 have e2:az fB G k=c*az fB vA k -az fB (az Qs vB) k:=by
  rw[aY (f:=fB) (f':=fB) (g':=fun i=>c*vA i+(-1)*az Qs vB i) (fun _=>rfl) (fun i=>by rw[hG i];lia),jC,p9,p9]
  lia
 have e3:az fB (az Qs vB) k=az (az Qs fB) vB k:=by
  rw[←cE]
  exact aY (fun i=>bT fB Qs i) (fun _=>rfl) k
 rw[e1,e2,e3,Int.mul_sub]
 lia
noncomputable def One(f:Nat->Int):Prop:=∃κ:Int,κ≠0/\∀k,f k=if k=0 then κ else 0
theorem yj{fA fB vA vB Qs F G F' G':Nat->Int}{c d:Int}(hd:d≠0)(hc:c≠0)(hF:∀k,F k=c*fA k -az Qs fB k)(hG:∀k,G k=c*vA k -az Qs vB k)(h2:∀k,F k=d*F' k)(h3:∀k,G k=d*G' k)(h:One fun k=>az fA vB k -az fB vA k):One fun k=>az fB G' k -az F' vB k:=by
 obtain⟨κ,k0,hk⟩:=h
 have hk:∀k,az fA vB k -az fB vA k=if k=0 then κ else 0:=hk
 have e:∀k,d*(az fB G' k -az F' vB k)= -(c*if k=0 then κ else 0):=fun k=>by
  have:=HV hF hG k
  rw[hk k,aY (f:=fB) (f':=fB) (fun _=>rfl) h3,aY (g:=vB) (g':=vB) h2 (fun _=>rfl),cT,p9]at this
  rw[Int.mul_sub]
  exact this
 refine⟨az fB G' 0 -az F' vB 0,fun z=>?_,fun k=>?_⟩
 rotate_left
 ·show az fB G' k -az F' vB k=_
  by_cases hk0:k=0
  ·rw[if_pos hk0,hk0]
  ·rw[if_neg hk0]
   have:=e k
   rw[if_neg hk0,Int.mul_zero]at this
   rcases Int.mul_eq_zero.mp (show d*(az fB G' k -az F' vB k)=0 by lia)with z|z
   ·exact absurd z hd
   ·exact z
 ·have:=e 0
  rw[z,Int.mul_zero,if_pos rfl]at this
  exact Int.mul_ne_zero hc k0 (by lia)
theorem vJ{f X:Nat->Int}{κ:Int}(h:∀k,f k=if k=0 then κ else 0)(k:Nat):az f X k=κ*X k:=by
 cases k with
 |zero=>rw[b5,h 0,if_pos rfl]
 |succ k=>
  rw[fR,h 0,if_pos rfl]
  have:az (fun i=>f (i+1)) X k=0:=by
   rw[show(fun i=>f (i+1))=fun _=>0 from funext fun i=>by rw[h (i+1),if_neg (by omega)]]
   exact gk X k
  rw[this,Int.add_zero]
theorem HW{N M B fB vB F' G':Nat->Int}{κ:Int}(hB:∀k,B k=az fB N k+az vB M k)(h0:∀k,0=az F' N k+az G' M k)(Vh:∀k,az fB G' k -az F' vB k=if k=0 then κ else 0)(k:Nat):κ*N k=az G' B k/\κ*M k=az (fun i=> -1*F' i) B k:=by
 have ex:∀S:Nat->Int,az S B k=az (az S fB) N k+az (az S vB) M k:=fun S=>by
  rw[aY (f:=S) (f':=S) (fun _=>rfl) hB,jC,cE,cE]
 have sub:∀(U V X:Nat->Int),az (fun i=>U i -V i) X k=az U X k -az V X k:=fun U V X=>by
  rw[show(fun i=>U i -V i)=fun i=>U i+(-1)*V i from funext fun i=>by lia,iK,cT]
  lia
 have kn:=vJ (X:=N) Vh k
 have km:=vJ (X:=M) Vh k
 rw[sub]at kn km
 have z:∀S:Nat->Int,az S (fun _=>0) k=0:=fun S=>by rw[bT];exact gk S k
 have m1:az (az vB F') N k+az (az vB G') M k=0:=by
  rw[cE,cE,←jC,←z vB]
  exact aY (fun _=>rfl) (fun i=>(h0 i).symm) k
 have m2:az (az fB F') N k+az (az fB G') M k=0:=by
  rw[cE,cE,←jC,←z fB]
  exact aY (fun _=>rfl) (fun i=>(h0 i).symm) k
 have c1:az (az vB F') N k=az (az F' vB) N k:=aY (fun i=>bT vB F' i) (fun _=>rfl) k
 have c2:az (az vB G') M k=az (az G' vB) M k:=aY (fun i=>bT vB G' i) (fun _=>rfl) k
 have c3:az (az fB F') N k=az (az F' fB) N k:=aY (fun i=>bT fB F' i) (fun _=>rfl) k
 have c4:az (az G' fB) N k=az (az fB G') N k:=aY (fun i=>bT G' fB i) (fun _=>rfl) k
 constructor
 ·rw[ex G',←kn,c4,←c2]
  rw[c1]at m1
  lia
 ·rw[cT,ex F',←km,←c3]
  lia
theorem CF{B F G N M R:Nat->Int}{F' G' B':Nat->Int}{d:Int}(hd:d≠0)(h:∀k,R k=az F N k+az G M k)(h1:∀k,R k=d*B' k)(h2:∀k,F k=d*F' k)(h3:∀k,G k=d*G' k)(k:Nat):B' k=az F' N k+az G' M k:=by
 refine Int.eq_of_mul_eq_mul_left hd ?_
 rw[←h1 k,h k,aY h2 (fun _=>rfl),aY h3 (fun _=>rfl),cT,cT,Int.mul_add]
end Num
namespace Sub
open Num
theorem CS.size{ns ms f0 g0 P Q fP fQ:List Int}{w E b1:Nat}{ld h:Int}(X:FX ns ms f0 g0 w E)(C:CS ns ms f0 g0 w E b1 P Q fP fQ ld h)(hq:2<=Q.length):
 ld*h^(P.length -Q.length)≠0/\(ld*h^(P.length -Q.length)).natAbs<=2^(w*E)/\(0<P.length -Q.length->h^(P.length -Q.length -1)≠0/\(h^(P.length -Q.length -1)).natAbs<=2^(w*E)):=by
 have ch:=C.ch
 have e1:=X.E1 (P.length -1)
 have M1:=C.M1
 generalize Vf:P.length -Q.length=δ at*
 have hb:∀j,j<=δ->(h^j).natAbs<=2^(w*((ns.length -1+(ms.length -1) -2*(P.length -1))*(P.length -1))):=fun j hj=>by
  rw[mQ]
  have h1:h.natAbs^j<=2^(w*(ns.length -1+(ms.length -1) -2*(P.length -1))*j):=by
   rw[Nat.pow_mul]
   exact Nat.pow_le_pow_left C.bh j
  refine Nat.le_trans h1 (Nat.pow_le_pow_right (by decide) ?_)
  rw[Nat.mul_assoc]
  exact Nat.mul_le_mul_left _ (Nat.mul_le_mul_left _ (by lia))
 refine⟨Int.mul_ne_zero ch.XW (ef ch.h0 _),?_,fun _=>⟨ef ch.h0 _,?_⟩⟩
 ·rw[Int.natAbs_mul]
  refine Nat.le_trans (Nat.mul_le_mul C.bl (hb δ (Nat.le_refl _))) ?_
  rw[←Nat.pow_add,←Nat.mul_add]
  exact Nat.pow_le_pow_right (by decide) (Nat.mul_le_mul_left _ (by lia))
 ·exact Nat.le_trans (hb (δ -1) (by clear Vf M1 e1 hq;lia)) (Nat.pow_le_pow_right (by decide) (Nat.mul_le_mul_left _ (by lia)))
theorem CS.start{ns ms f0 g0:List Int}{w E b1:Nat}(X:FX ns ms f0 g0 w E)(l0:0<ms.length)(nz:ms.getD (ms.length -1) 0≠0)(h1:f0.length+ms.length<=b1)(h2:g0=[]\/g0.length+ns.length<=b1):CS ns ms f0 g0 w E b1 ns ms f0 g0 1 1:=by
 obtain⟨M,m1,m2,m3,m4⟩:=X.M
 have l1:=X.l1
 have hM:M<=2^(w*(ns.length -1+(ms.length -1)+1)):=by
  refine Nat.le_trans (Nat.le_trans (Nat.le_mul_of_pos_left M (show 0<ns.length -1+(ms.length -1)+1 by omega)) m4) (Nat.pow_le_pow_right (by decide) ?_)
  exact Nat.le_mul_of_pos_right w (by omega)
 refine⟨Ch.start (by omega) rfl nz (fun t ht=>outI (by omega)),l0,l1,Nat.le_refl _,Nat.le_refl _,h1,h2,fun i=>Nat.le_trans (m1 i) hM,fun i=>Nat.le_trans (m2 i) hM,Nat.pow_pos (by decide),Nat.pow_pos (by decide)⟩
theorem CS.bd{ns ms f0 g0 P Q fP fQ:List Int}{w E b1:Nat}{ld h:Int}(C:CS ns ms f0 g0 w E b1 P Q fP fQ ld h):(∀x∈P,x.natAbs<=2^(w*(ns.length -1+(ms.length -1)+1)))/\(∀x∈Q,x.natAbs<=2^(w*(ns.length -1+(ms.length -1)+1)))/\(∀x∈fP,x.natAbs<=2^(w*(ns.length -1+(ms.length -1)+1)))/\∀x∈fQ,x.natAbs<=2^(w*(ns.length -1+(ms.length -1)+1)):=by
 refine⟨fun x hx=>?_,fun x hx=>?_,fun x hx=>?_,fun x hx=>?_⟩
 ·obtain⟨k,_,rfl⟩:=mem_getD hx
  exact C.bP (false,k)
 ·obtain⟨k,_,rfl⟩:=mem_getD hx
  exact C.bQ (false,k)
 ·obtain⟨k,_,rfl⟩:=mem_getD hx
  exact C.bP (true,k)
 ·obtain⟨k,_,rfl⟩:=mem_getD hx
  exact C.bQ (true,k)
end Sub
namespace VL
open PySem PySem.Spec
open PyProof.Rows hiding St
open L2 Num
theorem Rf{rs:List Rat}{i:Nat}{w:W}(h:(rs.map wq)[i]?=some w):∃x,rs[i]?=some x/\w=wq x:=by
 rw[List.getElem?_map]at h
 cases e:rs[i]? with
 |none=>rw[e]at h;cases h
 |some x=>rw[e]at h;cases h;exact⟨x,rfl,rfl⟩
structure ZF(rs:List Rat)(ns:List Int)(B:Int):Prop where
 pos:0<B
 eq:ns=rs.map fun x=>x.num*(B/x.den)
 dv:∀x∈rs,(x.den:Int)∣B
noncomputable def iL:List CS:=[.set 1 (.int 1),.fr [2] true (.var 0) [.set 3 (.ix (.var 2) (.int 1)),.iff (.cmp .NotEq (.bin .Mod (.var 1) (.var 3)) (.int 0)) [.set 1 (.bin .Mult (.bin .FloorDiv (.var 1) (.call 0 [(.var 1),(.var 3)])) (.var 3))] []],.ret (.tup [(.comp [0] true 1 (.var 0) (.bl true) (.bin .Mult (.ix (.var 0) (.int 0)) (.bin .FloorDiv (.var 2) (.ix (.var 0) (.int 1))))),(.var 1)])]
noncomputable def jE:b6:=fun ws Q _=>∃(rs:List Rat) (D:Int) (n k:Nat),ws=[aA rs]/\((∀x∈rs,Cd D n x)/\0<D/\D.natAbs<2^k/\k<=6000/\n<=100000/\rs.length<=100)/\∀(ns:List Int) (B:Int),ZF rs ns B->B∣D->B.natAbs<2^k->(∀x∈ns,x.natAbs<2^n)->Q (.tup [wI ns,.int B])
theorem EC{G:Nat->W}{m:Md}(ws:List W)(Q:W->Prop)(R:Addr->Prop)(h:jE ws Q R):wSs (aO [qO]) G iL (b8 m Q R) (aq 4 ws):=by
 obtain⟨rs,D,n,k,rfl,⟨hc,hD,ZG,hk,hn,hl⟩,hq⟩:=h
 have small:∀y:Int,0<y->y∣D->y.natAbs<2^k:=fun y h1 h2=>by
  have:=Int.le_of_dvd hD h2
  lia
 show wSs _ _ iL _ [some (aA rs),none,none,none]
 unfold iL
 simp only[wSs,wS,wE,look,List.set]
 unfold aA
 walk_at "vs"
 refine bY (fun i ε=>∃B o2 o3,(0<B/\B∣D/\∀j x,j<i->rs[j]?=some x->(x.den:Int)∣B)/\ε=[some (.lst (rs.map wq)),some (.int B),o2,o3]) ⟨1,none,none,⟨by decide,Int.one_dvd _,fun j x h=>by lia⟩,rfl⟩ ?_ ?_
 ·rintro i w _ N hw ⟨B,o2,o3,⟨hB,hB2,hd⟩,rfl⟩ hN
  obtain⟨x,hx,rfl⟩:=Rf hw
  have hm:=List.mem_of_getElem? hx
  have dx:=(hc x hm).dvd.1
  have dp:0<(x.den:Int):=by have:=x.den_pos;lia
  have bd:=small _ dp dx
  have bB:=small _ hB hB2
  have step:∀B':Int,0<B'->B'∣D->B∣B'->(x.den:Int)∣B'->N [some (.lst (rs.map wq)),some (.int B'),some (wq x),some (.int x.den)]:=fun B' h1 h2 h3 h4=>
   hN _ ⟨B',_,_,⟨h1,h2,fun j z hj hz=>by
    by_cases hji:j=i
    ·subst hji
     rw[hx]at hz
     cases hz
     exact h4
    ·exact Int.dvd_trans (hd j z (by lia) hz) h3⟩,rfl⟩
  walk_at "vs"
  refine⟨_,rfl,?_⟩
  walk_at "vs"
  refine⟨mG x,?_⟩
  by_cases hz:B.fmod x.den=0
  ·rw[decide_eq_true hz]
   walk_at "vs"
   refine step B hB hB2 (Int.dvd_refl _) (Int.dvd_of_fmod_eq_zero hz)
  ·rw[decide_eq_false hz]
   walk_at "vs"
   have hg:((Int.gcd B x.den:Nat):Int)<=x.den:=Int.le_of_dvd dp (Int.gcd_dvd_right ..)
   have ZH:0<((Int.gcd B x.den:Nat):Int):=by
    have:0<Int.gcd B x.den:=Int.gcd_pos_of_ne_zero_left _ (by lia)
    lia
   have ZI:((Int.gcd B x.den:Nat):Int)∣B:=Int.gcd_dvd_left ..
   have XY:((Int.gcd B x.den:Nat):Int)∣(x.den:Int):=Int.gcd_dvd_right ..
   have XZ:=HK (mG x) hB2 dx
   refine⟨B,x.den,k,rfl,bd,hk,?_⟩
   generalize((Int.gcd B x.den:Nat):Int)=g at*
   have lg:g.natAbs<2^k:=by lia
   have hq0:0<B/g:=Int.ediv_pos_of_pos_of_dvd hB (Int.le_of_lt ZH) ZI
   have hqB:B/g<=B:=Int.ediv_le_self _ (Int.le_of_lt hB)
   have X0:(B/g).natAbs<2^k:=by lia
   walk_at "vs"
   rw[Int.fdiv_eq_ediv_of_nonneg _ (Int.le_of_lt ZH)]
   refine⟨⟨by lia,gg lg (by lia)⟩,aJ X0 bd (by lia),step _ (Int.mul_pos hq0 dp) XZ ?_ ⟨B/g,Int.mul_comm _ _⟩⟩
   obtain⟨j,hj⟩:=XY
   refine⟨j,?_⟩
   rw[hj,←Int.mul_assoc,Int.ediv_mul_cancel ZI]
 ·rintro _ ⟨B,o2,o3,⟨hB,hB2,hd⟩,rfl⟩
  rw[List.length_map]at hd
  have dB:∀x∈rs,(x.den:Int)∣B:=fun x hx=>by
   obtain⟨j,hj,e⟩:=List.getElem_of_mem hx
   exact hd j x hj (by rw[←e];exact List.getElem?_eq_getElem hj)
  have bB:=small _ hB hB2
  have nb:∀x∈rs,(x.num*(B/x.den)).natAbs<2^n:=fun x hm=>by
   have hdx:=dB x hm
   have e:=(hc x hm).dvd
   obtain⟨j,hj⟩:=hB2
   have e2:D/x.den=B/x.den*j:=by
    rw[hj]
    exact Int.mul_ediv_assoc' _ hdx|>fun h=>by rw[←h]
   have j0:j≠0:=fun z=>by rw[z,Int.mul_zero]at hj;lia
   refine Nat.lt_of_le_of_lt ?_ e.2
   rw[e2,←Int.mul_assoc,Int.natAbs_mul (x.num*(B/x.den)) j]
   exact Nat.le_mul_of_pos_right _ (by lia)
  walk_at "vs"
  refine cY (h:=wq) (g:=fun x=>.int (x.num*(B/x.den))) rs [] _ (fun x hx K hK=>?_) (af (by simpa using Nat.le_trans hl (by decide))) ?_
  ·have dp:0<(x.den:Int):=by have:=x.den_pos;lia
   have bd:=small _ dp (hc x hx).dvd.1
   have big:=nb x hx
   have q0:0<B/x.den:=Int.ediv_pos_of_pos_of_dvd hB (Int.le_of_lt dp) (dB x hx)
   have X0:(B/x.den).natAbs<2^k:=by
    have h1:=Int.ediv_le_self (x.den:Int) (Int.le_of_lt hB)
    lia
   have X3:x.num.natAbs<2^n:=by
    refine Nat.lt_of_le_of_lt ?_ big
    rw[Int.natAbs_mul]
    exact Nat.le_mul_of_pos_right _ (by lia)
   refine⟨_,rfl,_,rfl,⟨mG x,gg bd (by lia)⟩,?_⟩
   walk_at "vs"
   rw[Int.fdiv_eq_ediv_of_nonneg _ (Int.le_of_lt dp)]
   exact⟨aJ X3 X0 (by lia),hK⟩
  ·refine⟨af (by simp),?_⟩
   have:=hq _ B ⟨hB,rfl,dB⟩ hB2 bB (fun z hz=>by
    obtain⟨x,hx,rfl⟩:=List.mem_map.mp hz
    exact nb x hx)
   unfold wI at this
   rw[List.map_map]at this
   exact this
noncomputable def gF:List CS:=[.ret (.comp [0] true 1 (.call 0 [(.var 0)]) (.bl true) (.call 1 [(.var 0),(.var 2)]))]
noncomputable def iM:b6:=fun ws Q _=>∃(ns:List Int) (B:Int) (n:Nat),ws=[wI ns,.int B]/\(B≠0/\B.natAbs<2^n/\n<=6000/\ns.length<=500)/\Q (aA (aj (ns.map fun x=>Rat.divInt x B)))
theorem AW{G:Nat->W}{C:Addr}{m:Md}(ws:List W)(Q:W->Prop)(R:Addr->Prop)(h:iM ws Q R):wSs (aO [dZ,iJ C]) G gF (b8 m Q R) (aq 2 ws):=by
 obtain⟨ns,B,n,rfl,⟨hB,bB,hn,hl⟩,hq⟩:=h
 show wSs _ _ gF _ [some (wI ns),some (.int B)]
 unfold gF
 walk_at "vs"
 refine⟨ns,rfl,fun ms tr=>?_⟩
 have e:=Hv hB tr
 rw[←e]at hq
 have lm:ms.length<=500:=by
  obtain⟨k,k1,rfl,_⟩:=tr
  rw[List.length_take]
  lia
 unfold wI
 walk_at "vs"
 refine cY (h:=W.int) (g:=fun x=>wq (Rat.divInt x B)) ms [] _ (fun x hx K hK=>?_) (af (by simpa using Nat.le_trans lm (by decide))) ?_
 ·walk_at "vs"
  exact⟨x,B,n,rfl,bB,hn,fun z=>absurd z hB,fun _=>hK⟩
 ·unfold aA at hq
  rw[List.map_map]at hq
  exact hq
noncomputable def fS:List CS:=[.set 1 (.int 0),.fr [2] true (.var 0) [.set 1 (.call 0 [(.var 2),(.var 1)]),.iff (.cmp .Eq (.var 1) (.int 1)) [.ret (.tup [(.int 1),(.blt .list [(.var 0)])])] []],.ret (.tup [(.var 1),(.comp [0] true 1 (.var 0) (.bl true) (.bin .FloorDiv (.var 0) (.var 2)))])]
structure ZJ(ns:List Int)(c:Int)(ms:List Int):Prop where
 pos:0<c
 dv:∀x∈ns,c∣x
 all:∀d:Int,(∀x∈ns,d∣x)->d∣c
 eq:ms=ns.map (·/c)
noncomputable def gG:b6:=fun ws Q _=>∃(ns:List Int) (n:Nat),ws=[wI ns]/\((∃x∈ns,x≠0)/\ns.length<=500/\n<=6000/\∀x∈ns,x.natAbs<2^n)/\∀c ms,ZJ ns c ms->c.natAbs<2^n->Q (.tup [.int c,wI ms])
theorem yk{G:Nat->W}{m:Md}(ws:List W)(Q:W->Prop)(R:Addr->Prop)(h:gG ws Q R):wSs (aO [qO]) G fS (b8 m Q R) (aq 3 ws):=by
 obtain⟨ns,n,rfl,⟨⟨x0,Wh,nz⟩,hl,hn,hb⟩,hq⟩:=h
 show wSs _ _ fS _ [some (wI ns),none,none]
 unfold fS
 simp only[wSs,wS,wE,look,List.set]
 unfold wI at*
 walk_at "vs"
 refine bY (fun i ε=>∃(c:Int) (o2:Option W),(0<=c/\(∀j,j<i->j<ns.length->c∣ns.getD j 0)/\(∀d:Int,(∀x∈ns,d∣x)->d∣c)/\c.natAbs<2^n)/\ε=[some (.lst (ns.map W.int)),some (.int c),o2]) ⟨0,none,⟨by decide,fun j h=>by lia,fun d _=>Int.dvd_zero d,Nat.pow_pos (by decide)⟩,rfl⟩ ?_ ?_
 ·rintro i w _ N hw ⟨c,o2,⟨c0,hd,ha,bc⟩,rfl⟩ hN
  have hi:i<ns.length:=by
   have:=(List.getElem?_eq_some_iff.mp hw).1
   simpa using this
  rw[int_at hi]at hw
  cases hw
  have hm:ns.getD i 0∈ns:=Sub.getD_mem' hi
  walk_at "vs"
  refine⟨ns.getD i 0,c,n,rfl,bc,hn,?_⟩
  have g1:((Int.gcd (ns.getD i 0) c:Nat):Int)∣ns.getD i 0:=Int.gcd_dvd_left ..
  have g2:((Int.gcd (ns.getD i 0) c:Nat):Int)∣c:=Int.gcd_dvd_right ..
  have g3:∀d:Int,(∀x∈ns,d∣x)->d∣((Int.gcd (ns.getD i 0) c:Nat):Int):=fun d h=>Int.dvd_coe_gcd (h _ hm) (ha d h)
  have g4:((Int.gcd (ns.getD i 0) c:Nat):Int).natAbs<2^n:=by
   rcases Int.lt_or_eq_of_le c0 with c1|c1
   ·have:=Int.le_of_dvd c1 g2
    lia
   ·rw[←c1,Int.gcd_zero_right]
    have:=hb _ hm
    lia
  have g0:0<=((Int.gcd (ns.getD i 0) c:Nat):Int):=by lia
  generalize((Int.gcd (ns.getD i 0) c:Nat):Int)=g at*
  have dv:∀j,j<i+1->j<ns.length->g∣ns.getD j 0:=fun j hj hl=>by
   by_cases e:j=i
   ·subst e
    exact g1
   ·exact Int.dvd_trans g2 (hd j (by lia) hl)
  walk_at "vs"
  by_cases e:g=1
  ·rw[decide_eq_true e]
   walk_at "vs"
   subst e
   have:=hq 1 ns ⟨by decide,fun x _=>Int.one_dvd x,g3,by simp⟩ g4
   exact⟨af (by simp),this⟩
  ·rw[decide_eq_false e]
   walk_at "vs"
   exact hN _ ⟨g,_,⟨g0,dv,g3,g4⟩,rfl⟩
 ·rintro _ ⟨c,o2,⟨c0,hd,ha,bc⟩,rfl⟩
  rw[List.length_map]at hd
  have dv:∀x∈ns,c∣x:=fun x hx=>by
   obtain⟨j,hj,e⟩:=List.getElem_of_mem hx
   have:=hd j hj hj
   rw[List.getD_eq_getElem?_getD,List.getElem?_eq_getElem hj]at this
   rw[←e]
   exact this
  have cp:0<c:=by
   rcases Int.lt_or_eq_of_le c0 with z|z
   ·exact z
   ·have:=dv x0 Wh
    rw[←z,Int.zero_dvd]at this
    exact absurd this nz
  walk_at "vs"
  refine cY (h:=W.int) (g:=fun x=>.int (x/c)) ns [] _ (fun x hx K hK=>?_) (af (by simpa using Nat.le_trans hl (by decide))) ?_
  ·walk_at "vs"
   rw[Int.fdiv_eq_ediv_of_nonneg _ (Int.le_of_lt cp)]
   exact⟨⟨by lia,gg bc (by lia)⟩,hK⟩
  ·refine⟨af (by simp),?_⟩
   have:=hq c _ ⟨cp,dv,ha,rfl⟩ bc
   rw[List.map_map]at this
   exact this
noncomputable def fT:List CS:=[.DV [1,2] (.call 0 [(.var 0)]),.DV [3,1] (.call 1 [(.var 1)]),.ret (.tup [(.var 1),(.var 2),(.var 3)])]
structure Prim(rs:List Rat)(ms:List Int)(B c:Int):Prop where
 bpos:0<B
 cpos:0<c
 len:ms.length=rs.length
 at_:∀i,(ms.getD i 0:Rat)*c=rs.getD i 0*B
 one:∀d:Int,(∀x∈ms,d∣x)->d∣1
noncomputable def gH:b6:=fun ws Q _=>∃(rs:List Rat) (D:Int) (n k:Nat),ws=[aA rs]/\((∃x∈rs,x≠0)/\(∀x∈rs,Cd D n x)/\0<D/\D.natAbs<2^k/\k<=6000/\n<=6000/\rs.length<=100)/\∀(ms:List Int) (B c:Int),Prim rs ms B c->B.natAbs<2^k->c.natAbs<2^n->(∀x∈ms,x.natAbs<2^n)->Q (.tup [wI ms,.int B,.int c])
theorem ug{α:Type}{l:List α}{f:α->Int}{i:Nat}{x:α}(h:l[i]?=some x):(l.map f).getD i 0=f x:=by
 rw[List.getD_eq_getElem?_getD,List.getElem?_map,h]
 rfl
theorem Lw{rs:List Rat}{ns ms:List Int}{B c:Int}(h1:ZF rs ns B)(h2:ZJ ns c ms):Prim rs ms B c:=by
 have l1:ns.length=rs.length:=by rw[h1.eq,List.length_map]
 have l2:ms.length=rs.length:=by rw[h2.eq,List.length_map,l1]
 refine⟨h1.pos,h2.pos,l2,fun i=>?_,fun d hd=>?_⟩
 ·by_cases hi:i<rs.length
  ·have er:=List.getElem?_eq_getElem hi
   have e1:ns.getD i 0=rs[i].num*(B/rs[i].den):=by rw[h1.eq];exact ug er
   have en:ns[i]?=some (ns.getD i 0):=by
    rw[List.getD_eq_getElem?_getD,List.getElem?_eq_getElem (by lia)]
    rfl
   have e2:ms.getD i 0=ns.getD i 0/c:=by rw[h2.eq];exact ug en
   have dc:=h2.dv _ (List.mem_of_getElem? en)
   have:ms.getD i 0*c=ns.getD i 0:=by rw[e2];exact Int.ediv_mul_cancel dc
   have e3:((ms.getD i 0:Int):Rat)*(c:Rat)=((ns.getD i 0:Int):Rat):=by rw[←this,Rat.intCast_mul]
   rw[e3,e1]
   have e4:rs.getD i 0=rs[i]:=by rw[List.getD_eq_getElem?_getD,er];rfl
   rw[e4]
   exact oq (h1.dv _ (List.getElem_mem _))
  ·have z1:ms.getD i 0=0:=by rw[List.getD_eq_getElem?_getD,List.getElem?_eq_none (by lia)];rfl
   have z2:rs.getD i 0=0:=by rw[List.getD_eq_getElem?_getD,List.getElem?_eq_none (by lia)];rfl
   rw[z1,z2]
   show((0:Int):Rat)*_=0*_
   grind
 ·have:=h2.all (d*c) fun x hx=>by
   have e:=hd (x/c) (by rw[h2.eq];exact List.mem_map.mpr ⟨x,hx,rfl⟩)
   obtain⟨y,hy⟩:=e
   refine⟨y,?_⟩
   rw[←Int.ediv_mul_cancel (h2.dv x hx),hy]
   grind
  obtain⟨y,hy⟩:=this
  refine⟨y,?_⟩
  have cp:=h2.pos
  have:c*1=c*(d*y):=by rw[Int.mul_one];rw[Int.mul_comm c,Int.mul_assoc,Int.mul_comm y c,←Int.mul_assoc];exact hy
  exact Int.eq_of_mul_eq_mul_left (by lia) this
theorem ym{G:Nat->W}{m:Md}(ws:List W)(Q:W->Prop)(R:Addr->Prop)(h:gH ws Q R):wSs (aO [jE,gG]) G fT (b8 m Q R) (aq 4 ws):=by
 obtain⟨rs,D,n,k,rfl,⟨⟨x0,Wh,nz⟩,hc,hD,ZG,hk,hn,hl⟩,hq⟩:=h
 show wSs _ _ fT _ [some (aA rs),none,none,none]
 unfold fT
 walk_at "vs"
 refine⟨rs,D,n,k,rfl,⟨hc,hD,ZG,hk,by lia,hl⟩,fun ns B h1 dB bB bn=>?_⟩
 refine⟨rfl,?_⟩
 walk_at "vs"
 have ln:ns.length=rs.length:=by rw[h1.eq,List.length_map]
 refine⟨ns,n,rfl,⟨⟨x0.num*(B/x0.den),by rw[h1.eq];exact List.mem_map.mpr ⟨x0,Wh,rfl⟩,?_⟩,by lia,hn,bn⟩,fun c ms h2 bc=>?_⟩
 ·have d:=h1.dv x0 Wh
  have dp:0<(x0.den:Int):=by have:=x0.den_pos;lia
  have:0<B/x0.den:=Int.ediv_pos_of_pos_of_dvd h1.pos (Int.le_of_lt dp) d
  exact Int.mul_ne_zero (fun z=>nz (Rat.num_eq_zero.mp z)) (by lia)
 ·refine⟨rfl,?_⟩
  walk_at "vs"
  refine⟨af (by simp),hq ms B c (Lw h1 h2) bB bc fun x hx=>?_⟩
  rw[h2.eq]at hx
  obtain⟨y,hy,rfl⟩:=List.mem_map.mp hx
  have:=Int.natAbs_ediv_le_natAbs y c
  have:=bn y hy
  lia
noncomputable def c7:List CS:=[.iff (.cmp .Eq (.var 2) (.int 0)) [.ret (.var 0)] [],.ret (.bin .FloorDiv (.call 0 [(.var 1),(.var 2)]) (.call 0 [(.var 0),(.bin .Sub (.var 2) (.int 1))]))]
noncomputable def ek:b6:=fun ws Q _=>∃(h l:Int) (δ n:Nat),ws=[.int h,.int l,.int δ]/\(h.natAbs<2^n/\l.natAbs<2^n/\n*(δ+1)<=60000000/\(0<δ->h^(δ -1)≠0/\(h^(δ -1)).natAbs.log2<9000))/\Q (.int (Sub.hnext h l δ))
theorem sJ{G:Nat->W}{m:Md}(ws:List W)(Q:W->Prop)(R:Addr->Prop)(h:ek ws Q R):wSs (aO [i0]) G c7 (b8 m Q R) (aq 3 ws):=by
 obtain⟨h,l,δ,n,rfl,⟨bh,bl,hn,hd⟩,hq⟩:=h
 show wSs _ _ c7 _ [some (.int h),some (.int l),some (.int δ)]
 unfold c7
 walk_at "vs"
 by_cases z:(δ:Int)=0
 ·rw[decide_eq_true z]
  walk_at "vs"
  have e:Sub.hnext h l δ=h:=by
   unfold Sub.hnext
   rw[if_pos (by lia)]
  rw[e]at hq
  exact hq
 ·rw[decide_eq_false z]
  walk_at "vs"
  obtain⟨d1,d2⟩:=hd (by lia)
  have e:Sub.hnext h l δ=(l^δ).fdiv (h^(δ -1)):=by
   unfold Sub.hnext
   rw[if_neg (by lia)]
  rw[e]at hq
  refine⟨l,δ,n,rfl,bl,hn,?_⟩
  rw[show(δ:Int) -1=((δ -1:Nat):Int) by lia]
  refine⟨h,δ -1,n,rfl,bh,Nat.le_trans (Nat.mul_le_mul_left _ (by lia)) hn,?_⟩
  walk_at "vs"
  exact⟨⟨d1,d2⟩,hq⟩
theorem cM{x:Nat}{n m:Nat}(h:x<2^n)(hm:n<=m):x<2^m:=Nat.lt_of_lt_of_le h (Nat.pow_le_pow_right (by decide) hm)
theorem eu{ns:List Int}{n:Nat}(h:∀x∈ns,x.natAbs<2^n)(k:Nat):(ns.getD k 0).natAbs<2^n:=by
 by_cases hk:k<ns.length
 ·rw[List.getD_eq_getElem?_getD,List.getElem?_eq_getElem hk]
  exact h _ (List.getElem_mem hk)
 ·rw[outI (by lia)]
  exact Nat.pow_pos (by decide)
theorem CG{ns:List Int}(h:0<ns.length):lO (ns.map W.int) (-1)=some (.int (ns.getD (ns.length -1) 0)):=by
 refine ua ?_
 rw[List.getLast?_eq_getElem?,List.length_map,int_at (by omega)]
theorem qT{n k:Nat}{f:Nat->Int}(h:k<n):(tabI n f).getD k 0=f k:=by
 rw[List.getD_eq_getElem?_getD,gW h]
 rfl
theorem qd(n:Nat)(f:Nat->Int)(k:Nat):(tabI n f).getD k 0=if k<n then f k else 0:=by
 by_cases h:k<n
 ·rw[if_pos h,qT h]
 ·rw[if_neg h]
  exact outI (by rw[aT];lia)
theorem qU{n:Nat}{f:Nat->Int}{x:Int}(h:x∈tabI n f):∃k,k<n/\x=f k:=by
 unfold tabI at h
 obtain⟨k,hk,rfl⟩:=List.mem_map.mp h
 exact⟨k,List.mem_range.mp hk,rfl⟩
theorem jF{n:Nat}{f g:Nat->Int}(h:∀k,k<n->f k=g k):tabI n f=tabI n g:=by
 unfold tabI
 exact List.map_congr_left fun k hk=>h k (List.mem_range.mp hk)
theorem yo(n:Nat)(x:Int):List.replicate n (W.int x)=(tabI n fun _=>x).map W.int:=by
 unfold tabI
 rw[List.map_const',List.length_range,List.map_replicate]
theorem oz{n:Nat}(ns:List Int)(h:ns.length=n):ns=tabI n fun k=>ns.getD k 0:=by
 refine List.ext_getElem? fun j=>?_
 by_cases hj:j<n
 ·rw[gW hj,List.getD_eq_getElem?_getD,List.getElem?_eq_getElem (by lia)]
  rfl
 ·rw[List.getElem?_eq_none (by lia),List.getElem?_eq_none (by rw[aT];lia)]
theorem CH{r n s:Nat}{w:W}(h:(iz ((r:Int) -1) (-1) n)[s]?=some w):s<n/\w=.int ((r:Int) -1 -s):=by
 unfold iz at h
 rw[List.getElem?_map]at h
 obtain⟨j,e,rfl⟩:=Option.map_eq_some_iff.mp h
 obtain⟨h1,h2⟩:=List.getElem?_eq_some_iff.mp e
 rw[List.getElem_range]at h2
 rw[List.length_range]at h1
 refine⟨h1,?_⟩
 rw[←h2]
 congr 1
 lia
theorem HX(lo st:Int)(n:Nat):(iz lo st n).length=n:=by unfold iz;simp
theorem uh{r:Nat}{Q:List W->Prop}(h:r<=1000)(q:Q (iz ((r:Int) -1) (-1) r)):Gd [.int ((r:Int) -1),.int (-1),.int (-1)] Q:=
 ⟨r,⟨by decide,by decide,AV h,ue⟩,q⟩
theorem CJ{R:List Int}(h:0<R.length):∃R0 x,R=R0++[x]:=
 ⟨R.dropLast,R.getLast (fun z=>by rw[z]at h;cases h),(List.dropLast_concat_getLast _).symm⟩
theorem pop_at{R0:List Int}{x:Int}:((R0++[x]).map W.int)[((R0++[x]).map W.int).length -1]?=some (.int x):=by
 simp
theorem HY{R0:List Int}{x:Int}:((R0++[x]).map W.int).dropLast=R0.map W.int:=by
 simp
noncomputable def cA:List CS:=[.set 2 (.blt .max2 [(.bin .Add (.bin .Sub (.blt .len [(.var 0)]) (.blt .len [(.var 1)])) (.int 1)),(.int 0)]),.set 3 (.ix (.var 1) (.neg (.int 1))),.set 4 (.blt .list [(.var 0)]),.set 5 (.bin .Mult (.lst [(.int 0)]) (.var 2)),.fr [6] true (.nO [(.bin .Sub (.var 2) (.int 1)),(.neg (.int 1)),(.neg (.int 1))]) [.Aj 7 (.pop 4),.put 5 (.var 6) (.var 7),.set 4 (.call 0 [(.var 4),(.var 3)]),.fr [8] true (.nO [(.bin .Sub (.blt .len [(.var 1)]) (.int 1))]) [.put 4 (.bin .Add (.var 6) (.var 8)) (.bin .Sub (.ix (.var 4) (.bin .Add (.var 6) (.var 8))) (.bin .Mult (.var 7) (.ix (.var 1) (.var 8))))]],.set 9 (.int 1),.fr [6] true (.nO [(.var 2)]) [.put 5 (.var 6) (.bin .Mult (.ix (.var 5) (.var 6)) (.var 9)),.set 9 (.bin .Mult (.var 9) (.var 3))],.ret (.tup [(.var 5),(.call 1 [(.var 4)]),(.var 9)])]
structure Rg(ns ms:List Int)(N M:Nat)(Qs R:List Int):Prop where
 Vi:Qs.length=ns.length+1 -ms.length
 Vj:R.length<ms.length
 eq:∀k,(ms.getD (ms.length -1) 0)^(ns.length+1 -ms.length)*ns.getD k 0=az (fun i=>Qs.getD i 0) (fun i=>ms.getD i 0) k+R.getD k 0
 bQ:∀x∈Qs,x.natAbs<2^(N+(ns.length+1 -ms.length)*(M+1))
 bR:∀x∈R,x.natAbs<2^(N+(ns.length+1 -ms.length)*(M+1))
 last:R=[]\/R.getD (R.length -1) 0≠0
noncomputable def cN:b6:=fun ws Q _=>∃(ns ms:List Int) (N M:Nat),ws=[wI ns,wI ms]/\(0<ms.length/\ns.length<=100/\ms.length<=100/\(∀x∈ns,x.natAbs<2^N)/\(∀x∈ms,x.natAbs<2^M)/\N+101*(M+1)<=1000000)/\
 ∀Qs R:List Int,Rg ns ms N M Qs R->Q (.tup [wI Qs,wI R,.int ((ms.getD (ms.length -1) 0)^(ns.length+1 -ms.length))])
theorem pH{G:Nat->W}{m:Md}(ws:List W)(Q:W->Prop)(R:Addr->Prop)(h:cN ws Q R):wSs (aO [dU,dZ]) G cA (b8 m Q R) (aq 10 ws):=by
 obtain⟨ns,ms,N,M,rfl,⟨lm,la,lb,bn,bm,hNM⟩,q⟩:=h
 show wSs _ _ cA _ [some (wI ns),some (wI ms),none,none,none,none,none,none,none,none]
 unfold cA wI
 walk_at "vs"
 have eR:(if(0:Int)>((ns.map W.int).length:Int) -((ms.map W.int).length:Int)+1 then(0:Int)else((ns.map W.int).length:Int) -((ms.map W.int).length:Int)+1)=((ns.length+1 -ms.length:Nat):Int):=by
  rw[List.length_map,List.length_map]
  split<;>lia
 have bL:=eu bm (ms.length -1)
 have eL:=CG lm
 have hroom:∀s,s<=ns.length+1 -ms.length->s*(M+1)<=101*(M+1):=fun s hs=>Nat.mul_le_mul_right _ (by lia)
 rw[eR]
 have E4:(ms.map W.int).length=ms.length:=List.length_map _
 generalize hl:ms.getD (ms.length -1) 0=l at*
 generalize g8:ns.length+1 -ms.length=room at*
 refine⟨_,eL,?_⟩
 walk_at "vs"
 rw[Int.toNat_natCast,gC,yo]
 refine⟨af (by simp),by lia,by lia,af (by simp;lia),?_⟩
 refine uh (by lia) ?_
 walk_at "vs"
 refine bY (fun s ε=>∃(R:List Int) (hs Qf:Nat->Int) (v6 v7 v8:Option W),(AO ns ms l s Qf R/\R.length=ns.length -s/\(∀x∈R,x.natAbs<2^(N+s*(M+1)))/\(∀i,i<room->room -s<=i->Qf i=hs i*l^(i -(room -s))/\(hs i).natAbs<2^(N+(room -1 -i)*(M+1)))/\(∀i,(i<room -s\/room<=i)->Qf i=0))/\ε=[some (.lst (ns.map W.int)),some (.lst (ms.map W.int)),some (.int room),some (.int l),some (.lst (R.map W.int)),some (.lst ((tabI room hs).map W.int)),v6,v7,v8,none]) ⟨ns,fun _=>0,fun _=>0,none,none,none,⟨AO.start ns ms l,by lia,fun x hx=>by rw[Nat.zero_mul];exact bn x hx,fun i h1 h2=>by lia,fun _ _=>rfl⟩,rfl⟩ ?_ ?_
 ·rintro s w _ N1 hw ⟨R,hd,Qf,v6,v7,v8,⟨dv,lR,bR,hq,hz⟩,rfl⟩ ud
  obtain⟨hs,rfl⟩:=CH hw
  have hp:((room:Nat):Int) -1 -(s:Int)=((room -1 -s:Nat):Int):=by lia
  rw[hp]
  generalize hpp:room -1 -s=p at*
  have CK:R.length=p+ms.length:=by lia
  have bs:=hroom s (by clear CK hp hpp hw;lia)
  have ZK:=hroom (s+1) (by clear bs CK hp hpp hw;lia)
  obtain⟨R0,x,rfl⟩:=CJ (R:=R) (by lia)
  have EB:R0.length=p+ms.length -1:=by
   rw[List.length_append]at CK
   simp only[List.length_cons,List.length_nil]at CK
   lia
  have ex:(R0++[x]).getD (p+ms.length -1) 0=x:=by
   rw[List.getD_eq_getElem?_getD,List.getElem?_append_right (by lia),EB,Nat.sub_self]
   rfl
  have eg:∀k,k<p+ms.length -1->(R0++[x]).getD k 0=R0.getD k 0:=fun k hk=>by
   rw[List.getD_eq_getElem?_getD,List.getElem?_append_left (by lia),←List.getD_eq_getElem?_getD]
  have bx:x.natAbs<2^(N+s*(M+1)):=bR x (List.mem_append_right _ (List.mem_singleton.mpr rfl))
  have ZL:∀y∈R0,y.natAbs<2^(N+s*(M+1)):=fun y hy=>bR y (List.mem_append_left _ hy)
  walk_at "vs"
  refine⟨_,pop_at,?_⟩
  rw[HY]
  walk_at "vs"
  refine⟨p,jz (by rw[List.length_map,aT];lia),?_⟩
  have et:=iI (n:=room) (f:=hd) (g:=fun k=>if k=p then x else hd k) (k:=p) (by lia) (fun j _ hj=>if_neg hj)
  rw[if_pos rfl]at et
  rw[←List.map_set,et]
  refine⟨R0,l,rfl,by lia,fun y hy=>aJ bL (ZL y hy) (by lia),?_⟩
  have em:(R0.map fun y=>l*y)=tabI (p+ms.length -1) fun k=>l*R0.getD k 0:=by
   conv=>lhs;rw[oz R0 EB]
   unfold tabI
   rw[List.map_map]
   rfl
  rw[em]
  unfold wI
  walk_at "vs"
  rw[E4]
  refine⟨by lia,by lia,?_⟩
  rw[show((ms.length:Int) -1).toNat=ms.length -1 by lia]
  refine bY (fun j ε=>∃(v8:Option W),ε=[some (.lst (ns.map W.int)),some (.lst (ms.map W.int)),some (.int room),some (.int l),some (.lst ((tabI (p+ms.length -1) fun k=>if p<=k/\k<p+j then l*R0.getD k 0 -x*ms.getD (k -p) 0 else l*R0.getD k 0).map W.int)),some (.lst ((tabI room fun k=>if k=p then x else hd k).map W.int)),some (.int p),some (.int x),v8,none]) ⟨v8,?_⟩ ?_ ?_
  ·rw[jF (n:=p+ms.length -1) (f:=fun k=>if p<=k/\k<p+0 then l*R0.getD k 0 -x*ms.getD (k -p) 0 else l*R0.getD k 0) fun k _=>if_neg (show¬(p<=k/\k<p+0) by clear em et bx ex EB CK lR ZK bs hp hpp hw hs eR g8 eL bL hl E4 hNM lb la lm;lia)]
  ·rintro j w _ N2 wK ⟨v8,rfl⟩ Ey
   obtain⟨hj,rfl⟩:=iZ wK
   have ix:p+j<p+ms.length -1:=by lia
   walk_at "vs"
   rw[show(p:Int)+(j:Int)=((p+j:Nat):Int) by lia]
   refine⟨_,bV (by rw[List.getElem?_map,gW ix];rfl),?_⟩
   rw[if_neg (show¬(p<=p+j/\p+j<p+j) by lia)]
   refine⟨_,bV (int_at (by clear ix wK;lia)),?_⟩
   walk_at "vs"
   refine⟨aJ bx (eu bm j) (by lia),p+j,jz (by rw[List.length_map,aT];exact ix),Ey _ ⟨some (.int j),?_⟩⟩
   have e:=iI (n:=p+ms.length -1) (f:=fun k=>if p<=k/\k<p+j then l*R0.getD k 0 -x*ms.getD (k -p) 0 else l*R0.getD k 0) (g:=fun k=>if p<=k/\k<p+(j+1)then l*R0.getD k 0 -x*ms.getD (k -p) 0 else l*R0.getD k 0) ix (fun k _ hk=>by
    by_cases hkj:p<=k/\k<p+j
    ·rw[if_pos hkj,if_pos (by lia)]
    ·rw[if_neg hkj,if_neg (by lia)])
   rw[if_pos (by lia),Nat.add_sub_cancel_left]at e
   rw[←e,List.map_set]
  ·rintro _ ⟨v8,rfl⟩
   rw[HX]
   refine ud _ ⟨_,fun k=>if k=p then x else hd k,fun i=>l*Qf i+if i=p then(R0++[x]).getD (p+ms.length -1) 0 else 0,_,_,_,⟨dv.step lm hl.symm CK (R':=tabI (p+ms.length -1) fun k=>if p<=k/\k<p+(ms.length -1)then l*R0.getD k 0 -x*ms.getD (k -p) 0 else l*R0.getD k 0) (aT _ _) (fun k hk=>?_),by rw[aT];clear em et bx ex EB CK lR ZK bs hp;lia,fun y hy=>?_,fun i h1 h2=>?_,fun i h=>?_⟩,rfl⟩
   ·rw[qT hk,ex,eg k hk]
    by_cases hpk:p<=k
    ·rw[if_pos ⟨hpk,by clear hpk;lia⟩,if_pos hpk]
    ·rw[if_neg (by lia),if_neg hpk,Int.sub_zero]
   ·obtain⟨k,hk,rfl⟩:=qU hy
    have c1:(l*R0.getD k 0).natAbs<2^(M+(N+s*(M+1))):=by
     rw[Int.natAbs_mul]
     exact lt_mul bL (eu ZL k)
    have c2:(x*ms.getD (k -p) 0).natAbs<2^(M+(N+s*(M+1))):=by
     rw[Int.natAbs_mul,Nat.mul_comm]
     exact lt_mul (eu bm _) bx
    have c3:2^(N+(s+1)*(M+1))=2*2^(M+(N+s*(M+1))):=by
     rw[Nat.add_mul,Nat.one_mul,show N+(s*(M+1)+(M+1))=(M+(N+s*(M+1)))+1 by lia,Nat.pow_succ]
     lia
    rw[c3]
    split<;>lia
   ·show l*Qf i+(if i=p then _ else 0)=(if i=p then x else hd i)*l^(i -(room -(s+1)))/\(if i=p then x else hd i).natAbs<_
    by_cases Wi:i=p
    ·rw[if_pos Wi,if_pos Wi,hz i (by lia),ex,show i -(room -(s+1))=0 by lia,Int.pow_zero]
     refine⟨by lia,?_⟩
     rw[show room -1 -i=s by lia]
     exact bx
    ·have hh:=hq i h1 (by lia)
     rw[if_neg Wi,if_neg Wi,hh.1,show i -(room -(s+1))=(i -(room -s))+1 by lia,Int.pow_succ]
     exact⟨by grind,hh.2⟩
   ·show l*Qf i+(if i=p then _ else 0)=0
    rw[if_neg (by lia),hz i (by lia),Int.mul_zero]
    rfl
 ·rintro _ ⟨R,hs,Qf,v6,v7,v8,⟨dv,lR,bR,hq,hz⟩,rfl⟩
  rw[HX]at dv lR bR hq hz
  have brr:=hroom room (by lia)
  walk_at "vs"
  refine⟨by lia,by lia,?_⟩
  rw[Int.toNat_natCast]
  refine bY (fun j ε=>∃(v6:Option W),ε=[some (.lst (ns.map W.int)),some (.lst (ms.map W.int)),some (.int room),some (.int l),some (.lst (R.map W.int)),some (.lst ((tabI room fun k=>if k<j then hs k*l^k else hs k).map W.int)),v6,v7,v8,some (.int (l^j))]) ⟨v6,?_⟩ ?_ ?_
  ·rw[Int.pow_zero,jF (n:=room) (f:=fun k=>if k<0 then hs k*l^k else hs k) fun k _=>if_neg (Nat.not_lt_zero k)]
  ·rintro j w _ N2 wK ⟨v6,rfl⟩ Ey
   obtain⟨hj',rfl⟩:=iZ wK
   have bh:=(hq j hj' (by lia)).2
   have bp:=HL (i:=j) bL
   have ZM:(l^j).natAbs<2^(M*j+1):=by
    have:2^(M*j+1)=2*2^(M*j):=by rw[Nat.pow_succ];lia
    have:0<2^(M*j):=Nat.pow_pos (by decide)
    lia
   have k1:=hroom (room -1 -j) (by lia)
   have k2:M*j<=M*101:=Nat.mul_le_mul_left _ (by lia)
   walk_at "vs"
   refine⟨_,bV (by rw[List.getElem?_map,gW hj'];rfl),?_⟩
   rw[if_neg (Nat.lt_irrefl j)]
   walk_at "vs"
   refine⟨aJ bh ZM (by lia),j,jz (by rw[List.length_map,aT];exact hj'),aJ ZM bL (by lia),?_⟩
   have e:=iI (n:=room) (f:=fun k=>if k<j then hs k*l^k else hs k) (g:=fun k=>if k<j+1 then hs k*l^k else hs k) hj' (fun k _ hk=>by
    by_cases hkj:k<j
    ·rw[if_pos hkj,if_pos (by lia)]
    ·rw[if_neg hkj,if_neg (by lia)])
   rw[if_pos (Nat.lt_succ_self j)]at e
   rw[←List.map_set,e]
   refine Ey _ ⟨some (.int j),?_⟩
   rw[Int.pow_succ]
  ·rintro _ ⟨v6,rfl⟩
   rw[HX]
   walk_at "vs"
   refine⟨R,rfl,fun ts tr=>?_⟩
   refine⟨af (by simp),?_⟩
   have tl:=qP tr
   have eqf:∀i,Qf i=(tabI room fun k=>if k<room then hs k*l^k else hs k).getD i 0:=fun i=>by
    rw[qd]
    by_cases hi:i<room
    ·rw[if_pos hi,if_pos hi,(hq i hi (by lia)).1,show i -(room -room)=i by lia]
    ·rw[if_neg hi,hz i (by lia)]
   refine q _ ts ⟨?_,by lia,fun k=>?_,fun y hy=>?_,fun y hy=>?_,tr.last⟩
   ·rw[aT,g8]
   ·rw[g8,hl,dv k,vG tr]
    congr 2
    exact funext eqf
   ·obtain⟨k,hk,rfl⟩:=qU hy
    rw[if_pos hk,Int.natAbs_mul,g8]
    refine cM (Cp (hq k hk (by lia)).2 (HL (i:=k) bL)) ?_
    have e:room*(M+1)=(room -1 -k)*(M+1)+(k+1)*(M+1):=by
     rw[←Nat.add_mul,show room -1 -k+(k+1)=room by lia]
    have e2:M*k<=(k+1)*(M+1):=by
     rw[Nat.mul_comm]
     exact Nat.mul_le_mul (by lia) (by lia)
    lia
   ·rw[g8]
    exact bR y (tr.mem y hy)
end VL
namespace Num
noncomputable def hz(t:Int):List Int->List Int
 |[]=>[]
 |r::rs=>(r+t*(hz t rs).headD 0)::hz t rs
noncomputable def cs(l:List Int):List Rat:=l.map fun x:Int=>((x:Int):Rat)
noncomputable def sc(u b:Rat):List Rat->List Rat
 |[]=>[]
 |r::rs=>r*u*b^rs.length::sc u b rs
noncomputable def Jo(N n:Nat)(r:Rat):Prop:=r.num.natAbs<2^N/\r.den<2^n
theorem Jo.up{N M n m:Nat}{a:Rat}(h:Jo N n a)(h1:N<=M)(h2:n<=m):Jo M m a:=⟨Nat.lt_of_lt_of_le h.1 (Nat.pow_le_pow_right (by decide) h1),Nat.lt_of_lt_of_le h.2 (Nat.pow_le_pow_right (by decide) h2)⟩
noncomputable def gz(t:Int)(M:List Int)(k:Nat):Int:=(hz t (M.drop k)).headD 0
end Num
namespace L2
open PySem
end L2
namespace VL
open PySem PySem.Spec
open PyProof.Rows hiding St
open L2 Num
theorem HZ(as bs:List Int)(i k:Nat):cf as bs (i+1) k=cf as bs i k+as.getD i 0*(if i<=k then bs.getD (k -i) 0 else 0):=by
 rw[xV,xV,sm]
noncomputable def eE:List CS:=[.set 2 (.bin .Add (.bin .Sub (.blt .len [(.var 0)]) (.blt .len [(.var 1)])) (.int 1)),.set 3 (.blt .list [(.var 0)]),.set 4 (.bin .Mult (.lst [(.int 0)]) (.var 2)),.fr [5] true (.nO [(.bin .Sub (.var 2) (.int 1)),(.neg (.int 1)),(.neg (.int 1))]) [.Aj 6 (.bin .FloorDiv (.pop 3) (.ix (.var 1) (.neg (.int 1)))),.put 4 (.var 5) (.var 6),.fr [7] true (.nO [(.bin .Sub (.blt .len [(.var 1)]) (.int 1))]) [.put 3 (.bin .Add (.var 5) (.var 7)) (.bin .Sub (.ix (.var 3) (.bin .Add (.var 5) (.var 7))) (.bin .Mult (.var 6) (.ix (.var 1) (.var 7))))]],.ret (.var 4)]
noncomputable def fU:b6:=fun ws Q _=>∃(ns ms Z:List Int) (N:Nat),ws=[wI ns,wI ms]/\(0<ms.length/\0<Z.length/\ns.length<=100/\ns.length+1=Z.length+ms.length/\(∀k,ns.getD k 0=cf Z ms Z.length k)/\ms.getD (ms.length -1) 0≠0/\N<=8000/\(∀x∈ms,x.natAbs<2^N)/\∀x∈Z,x.natAbs<2^N)/\Q (wI Z)
theorem vK{Φ:Nat->b6}{G:Nat->W}{m:Md}(ws:List W)(Q:W->Prop)(R:Addr->Prop)(h:fU ws Q R):wSs Φ G eE (b8 m Q R) (aq 8 ws):=by
 obtain⟨ns,ms,Z,N,rfl,⟨lm,lw,ln,X4,hW,Vk,hN,bm,bW⟩,q⟩:=h
 show wSs _ _ eE _ [some (wI ns),some (wI ms),none,none,none,none,none,none]
 unfold eE wI
 unfold wI at q
 have eL:=CG lm
 have bL:=eu bm (ms.length -1)
 have E4:(ms.map W.int).length=ms.length:=List.length_map _
 walk_at "vs"
 rw[List.length_map,E4,show(ns.length:Int) -(ms.length:Int)+1=((Z.length:Nat):Int) by lia]
 generalize g8:Z.length=room at*
 rw[Int.toNat_natCast,gC,yo]
 refine⟨af (by simp),by lia,by lia,af (by simp;lia),?_⟩
 refine uh (by lia) ?_
 walk_at "vs"
 refine bY (fun s ε=>∃(R:List Int) (v5 v6 v7:Option W),(R.length=ns.length -s/\(∀k,k<ns.length -s->R.getD k 0=cf Z ms (room -s) k))/\ε=[some (.lst (ns.map W.int)),some (.lst (ms.map W.int)),some (.int room),some (.lst (R.map W.int)),some (.lst ((tabI room fun k=>if room -s<=k then Z.getD k 0 else 0).map W.int)),v5,v6,v7]) ⟨ns,none,none,none,⟨rfl,fun k _=>by rw[hW k];rfl⟩,?_⟩ ?_ ?_
 ·rw[jF (n:=room) (f:=fun k=>if room -0<=k then Z.getD k 0 else 0) (g:=fun _=>0) fun k hk=>(if_neg (show¬room -0<=k by lia))]
 ·rintro s w _ N1 hw ⟨R,v5,v6,v7,⟨lR,cR⟩,rfl⟩ ud
  obtain⟨hs,rfl⟩:=CH hw
  have hpl:((room:Nat):Int) -1 -(s:Int)=((room -1 -s:Nat):Int):=by lia
  rw[hpl]
  generalize hpp:room -1 -s=p at*
  have AB:room -s=p+1:=by lia
  have CK:R.length=p+ms.length:=by lia
  obtain⟨R0,x,rfl⟩:=CJ (R:=R) (by lia)
  have EB:R0.length=p+ms.length -1:=by
   rw[List.length_append]at CK
   simp only[List.length_cons,List.length_nil]at CK
   lia
  have ex:(R0++[x]).getD (p+ms.length -1) 0=x:=by
   rw[List.getD_eq_getElem?_getD,List.getElem?_append_right (by lia),EB,Nat.sub_self]
   rfl
  have eg:∀k,k<p+ms.length -1->(R0++[x]).getD k 0=R0.getD k 0:=fun k hk=>by
   rw[List.getD_eq_getElem?_getD,List.getElem?_append_left (by lia),←List.getD_eq_getElem?_getD]
  have xv:x=Z.getD p 0*ms.getD (ms.length -1) 0:=by
   have:=cR (p+ms.length -1) (by lia)
   rw[ex,AB,HZ,iC Z ms _ p (by clear this ex EB CK lR AB hpl hpp hw hs X4 lw g8 E4 bL eL hN Vk ln lm;lia),if_pos (by clear this ex EB CK lR AB hpl hpp hw hs X4 lw g8 E4 bL eL hN Vk ln;lia),show p+ms.length -1 -p=ms.length -1 by lia,Int.zero_add]at this
   exact this
  have X5:=eu bW p
  have hv:x.fdiv (ms.getD (ms.length -1) 0)=Z.getD p 0:=by
   rw[xv,Int.fdiv_eq_ediv_of_dvd ⟨Z.getD p 0,Int.mul_comm _ _⟩,Int.mul_ediv_cancel _ Vk]
  walk_at "vs"
  refine⟨_,pop_at,?_⟩
  rw[HY]
  walk_at "vs"
  refine⟨_,eL,?_⟩
  walk_at "vs"
  refine⟨⟨Vk,gg bL hN⟩,?_⟩
  rw[hv]
  refine⟨p,jz (by rw[List.length_map,aT];lia),?_⟩
  have et:=iI (n:=room) (f:=fun k=>if room -s<=k then Z.getD k 0 else 0) (g:=fun k=>if room -(s+1)<=k then Z.getD k 0 else 0) (k:=p) (by lia) (fun j _ hj=>by
   by_cases hj2:room -s<=j
   ·rw[if_pos hj2,if_pos (by lia)]
   ·rw[if_neg hj2,if_neg (by lia)])
  rw[if_pos (by clear et hv X5 xv ex EB CK lR AB hpl;lia)]at et
  rw[←List.map_set,et,E4]
  refine⟨by lia,by lia,?_⟩
  rw[show((ms.length:Int) -1).toNat=ms.length -1 by lia]
  refine bY (fun j ε=>∃(v7:Option W),ε=[some (.lst (ns.map W.int)),some (.lst (ms.map W.int)),some (.int room),some (.lst ((tabI (p+ms.length -1) fun k=>if p<=k/\k<p+j then R0.getD k 0 -Z.getD p 0*ms.getD (k -p) 0 else R0.getD k 0).map W.int)),some (.lst ((tabI room fun k=>if room -(s+1)<=k then Z.getD k 0 else 0).map W.int)),some (.int p),some (.int (Z.getD p 0)),v7]) ⟨v7,?_⟩ ?_ ?_
  ·rw[jF (n:=p+ms.length -1) (f:=fun k=>if p<=k/\k<p+0 then R0.getD k 0 -Z.getD p 0*ms.getD (k -p) 0 else R0.getD k 0) fun k _=>if_neg (show¬(p<=k/\k<p+0) by clear et hv X5 xv ex EB CK lR AB hpl hpp hw hs X4 lw g8 E4 bL eL hN Vk ln lm;lia),←oz R0 EB]
  ·rintro j w _ N2 wK ⟨v7,rfl⟩ Ey
   obtain⟨hj,rfl⟩:=iZ wK
   have ix:p+j<p+ms.length -1:=by lia
   walk_at "vs"
   rw[show(p:Int)+(j:Int)=((p+j:Nat):Int) by lia]
   refine⟨_,bV (by rw[List.getElem?_map,gW ix];rfl),?_⟩
   rw[if_neg (show¬(p<=p+j/\p+j<p+j) by lia)]
   refine⟨_,bV (int_at (by clear ix wK;lia)),?_⟩
   walk_at "vs"
   refine⟨aJ X5 (eu bm j) (by lia),p+j,jz (by rw[List.length_map,aT];exact ix),Ey _ ⟨some (.int j),?_⟩⟩
   have e:=iI (n:=p+ms.length -1) (f:=fun k=>if p<=k/\k<p+j then R0.getD k 0 -Z.getD p 0*ms.getD (k -p) 0 else R0.getD k 0) (g:=fun k=>if p<=k/\k<p+(j+1)then R0.getD k 0 -Z.getD p 0*ms.getD (k -p) 0 else R0.getD k 0) ix (fun k _ hk=>by
    by_cases hkj:p<=k/\k<p+j
    ·rw[if_pos hkj,if_pos (by lia)]
    ·rw[if_neg hkj,if_neg (by lia)])
   rw[if_pos (by lia),Nat.add_sub_cancel_left]at e
   rw[←e,List.map_set]
  ·rintro _ ⟨v7,rfl⟩
   rw[HX]
   refine ud _ ⟨_,_,_,_,⟨by rw[aT];lia,fun k hk=>?_⟩,rfl⟩
   have hk2:k<p+ms.length -1:=by lia
   rw[qT hk2,show room -(s+1)=p by lia]
   have c:=cR k (by lia)
   rw[eg k hk2,AB,HZ]at c
   by_cases hpk:p<=k
   ·rw[if_pos ⟨hpk,by lia⟩]
    rw[if_pos hpk]at c
    lia
   ·rw[if_neg (by lia)]
    rw[if_neg hpk,Int.mul_zero,Int.add_zero]at c
    exact c
 ·rintro _ ⟨R,v5,v6,v7,⟨lR,cR⟩,rfl⟩
  rw[HX]
  walk_at "vs"
  have e:(tabI room fun k=>if room -room<=k then Z.getD k 0 else 0)=Z:=by
   rw[jF (g:=fun k=>Z.getD k 0) fun k _=>if_pos (by lia),←oz Z g8]
  rw[e]
  exact q
noncomputable def mR:List CS:=[.DV [2,3] (.var 0),.DV [4,5] (.var 1),.set 6 (.call 0 [(.var 2),(.var 5)]),.set 7 (.call 0 [(.var 4),(.var 3)]),.ret (.tup [(.bin .Mult (.bin .FloorDiv (.var 2) (.var 6)) (.bin .FloorDiv (.var 4) (.var 7))),(.bin .Mult (.bin .FloorDiv (.var 3) (.var 7)) (.bin .FloorDiv (.var 5) (.var 6)))])]
noncomputable def oA:b6:=fun ws Q _=>∃(a b:Rat) (N1 N2 n m:Nat),ws=[wq a,wq b]/\(Jo N1 n a/\Jo N2 m b/\N1<=1000000/\N2<=1000000/\n<=6000/\m<=6000)/\Q (wq (a*b))
theorem Lx{G:Nat->W}{m:Md}(ws:List W)(Q:W->Prop)(R:Addr->Prop)(h:oA ws Q R):wSs (aO [qO]) G mR (b8 m Q R) (aq 8 ws):=by
 obtain⟨a,b,N1,N2,n,m,rfl,⟨ba,bb,ud,Ey,hn,hm⟩,q⟩:=h
 show wSs _ _ mR _ [some (wq a),some (wq b),none,none,none,none,none,none]
 unfold mR wq
 unfold wq at q
 have ba1:=ba.1
 have ZN:(a.den:Int).natAbs<2^n:=by rw[Int.natAbs_natCast];exact ba.2
 have bb1:=bb.1
 have ZO:(b.den:Int).natAbs<2^m:=by rw[Int.natAbs_natCast];exact bb.2
 obtain⟨hf,hs,e1,e2⟩:=Hg a b
 have lf:((Int.gcd a.num b.den:Nat):Int).natAbs<2^m:=by
  have:((Int.gcd a.num b.den:Nat):Int)<=b.den:=Int.le_of_dvd (dpos b) (Int.gcd_dvd_right ..)
  lia
 have ls:((Int.gcd b.num a.den:Nat):Int).natAbs<2^n:=by
  have:((Int.gcd b.num a.den:Nat):Int)<=a.den:=Int.le_of_dvd (dpos a) (Int.gcd_dvd_right ..)
  lia
 walk_at "vs"
 refine⟨rfl,?_⟩
 walk_at "vs"
 refine⟨rfl,?_⟩
 walk_at "vs"
 refine⟨a.num,b.den,m,rfl,ZO,by lia,?_⟩
 refine⟨b.num,a.den,n,rfl,ZN,by lia,?_⟩
 generalize((Int.gcd a.num b.den:Nat):Int)=f at*
 generalize((Int.gcd b.num a.den:Nat):Int)=g at*
 have cf:∀i:Int,tO i f:=fun i=>⟨by lia,gg lf (by lia)⟩
 have cg:∀i:Int,tO i g:=fun i=>⟨by lia,gg ls (by lia)⟩
 have b1:(a.num/f).natAbs<2^N1:=Nat.lt_of_le_of_lt (Int.natAbs_ediv_le_natAbs ..) ba1
 have b2:(b.num/g).natAbs<2^N2:=Nat.lt_of_le_of_lt (Int.natAbs_ediv_le_natAbs ..) bb1
 have b3:((a.den:Int)/g).natAbs<2^n:=Nat.lt_of_le_of_lt (Int.natAbs_ediv_le_natAbs ..) ZN
 have b4:((b.den:Int)/f).natAbs<2^m:=Nat.lt_of_le_of_lt (Int.natAbs_ediv_le_natAbs ..) ZO
 walk_at "vs"
 simp only[Int.fdiv_eq_ediv_of_nonneg _ (Int.le_of_lt hf),Int.fdiv_eq_ediv_of_nonneg _ (Int.le_of_lt hs)]
 refine⟨cf _,cg _,aJ b1 b2 (by lia),cg _,cf _,aJ b3 b4 (by lia),af (by simp),?_⟩
 rw[e1,e2]at q
 exact q
noncomputable def qV:List CS:=[.DV [2,3] (.var 1),.iff (.cmp .Eq (.var 2) (.int 0)) [.raise 0 (.str "division by 0")] [],.iff (.cmp .Lt (.var 2) (.int 0)) [.ret (.call 0 [(.var 0),(.tup [(.neg (.var 3)),(.neg (.var 2))])])] [],.ret (.call 0 [(.var 0),(.tup [(.var 3),(.var 2)])])]
noncomputable def yp(C:Addr):b6:=fun ws Q R=>∃(a b:Rat) (N1 N2 n:Nat),ws=[wq a,wq b]/\(Jo N1 n a/\Jo N2 N2 b/\N1<=1000000/\N2<=6000/\n<=6000)/\(b=0->R C)/\(b≠0->Q (wq (a*b⁻¹)))
theorem Rh{C:Addr}{m:Md}(ws:List W)(Q:W->Prop)(R:Addr->Prop)(h:yp C ws Q R):wSs (aO [oA]) (bI [.cls C]) qV (b8 m Q R) (aq 4 ws):=by
 obtain⟨a,b,N1,N2,n,rfl,⟨ba,bb,ud,Ey,hn⟩,h0,q⟩:=h
 show wSs _ _ qV _ [some (wq a),some (wq b),none,none]
 unfold qV
 conv=>arg 5;arg 2;arg 1;unfold wq
 walk_at "vs"
 refine⟨rfl,?_⟩
 walk_at "vs"
 by_cases hz:b.num=0
 ·rw[if_pos (decide_eq_true hz)]
  exact h0 (Rat.num_eq_zero.mp hz)
 have q:=q fun z=>hz (by rw[z];rfl)
 rw[if_neg (by rw[decide_eq_true_eq];exact hz)]
 have bi:Jo N2 N2 b⁻¹:=Q3 (n:=N2) bb hz
 have fin:∀t u:Int,b⁻¹.num=t->(b⁻¹.den:Int)=u->aO [oA] 0 [wq a,.tup [.int t,.int u]] Q R:=fun t u e1 e2=>by
  refine⟨a,b⁻¹,N1,N2,n,N2,?_,⟨ba,bi,ud,by lia,hn,Ey⟩,q⟩
  rw[←e1,←e2]
  rfl
 by_cases hn:b.num<0
 ·rw[if_pos (decide_eq_true hn)]
  obtain⟨e1,e2⟩:=inv_neg b hn
  exact⟨af (by simp),fin _ _ e1 e2⟩
 ·rw[if_neg (by rw[decide_eq_true_eq];exact hn)]
  obtain⟨e1,e2⟩:=inv_pos b (by lia)
  exact⟨af (by simp),fin _ _ e1 e2⟩
abbrev Vl:List Str:=["ahead","last","factor_ahead","factor_last","lead","height","sign","scale","known"]
noncomputable def qW(C:Addr)(A B fA fB:List Int)(ld h sg sc kn:Int):W:=.obj C Vl [wI A,wI B,wI fA,wI fB,.int ld,.int h,.int sg,.int sc,.int kn]
structure M3(A B fA fB:List Int)(ld h:Int)(N E:Nat):Prop where
 l2:2<=B.length
 X6:B.length<=A.length
 ZP:A.length<=15
 lf:fA.length<=40
 Ra:fB.length<=40
 bA:∀x∈A,x.natAbs<2^N
 bB:∀x∈B,x.natAbs<2^N
 ZQ:∀x∈fA,x.natAbs<2^N
 M4:∀x∈fB,x.natAbs<2^N
 bl:ld.natAbs<2^N
 bh:h.natAbs<2^N
 hN:N<=5000
 hE:E<=7900
 k0:ld*h^(A.length -B.length)≠0
 kE:(ld*h^(A.length -B.length)).natAbs<=2^E
 h0:0<A.length -B.length->h^(A.length -B.length -1)≠0/\(h^(A.length -B.length -1)).natAbs<=2^E
noncomputable def vL(A B Qs R:List Int)(c:Int):Prop:=c=B.getD (B.length -1) 0^(A.length -B.length+1)/\Qs.length=A.length -B.length+1/\(∀k,R.getD k 0=c*A.getD k 0 -cf Qs B Qs.length k)/\R.length<B.length/\(R=[]\/R.getD (R.length -1) 0≠0)
noncomputable def Ri(fA fB Qs F:List Int)(c:Int):Prop:=(∀k,F.getD k 0=c*fA.getD k 0 -cf Qs fB Qs.length k)/\F.length<=max fA.length (Qs.length+fB.length -1)/\(fB=[]->F.length<=fA.length)
noncomputable def yq(C:Addr):b6:=fun ws Q _=>∃(A B fA fB:List Int) (ld h sg sc kn:Int) (N E:Nat),ws=[qW C A B fA fB ld h sg sc kn]/\M3 A B fA fB ld h N E/\
 (∀(Qs:List Int) (c:Int),vL A B Qs [] c->Q (.tup [.bl false,qW C A B fA fB ld h sg sc kn]))/\
 (∀(Qs R F:List Int) (c Rj:Int),R≠[]->vL A B Qs R c->Ri fA fB Qs F c->Q (.tup [.bl true,qW C B (R.map fun y=>y.fdiv (ld*h^(A.length -B.length))) fB (F.map fun y=>y.fdiv (ld*h^(A.length -B.length))) (B.getD (B.length -1) 0) (Sub.hnext h (B.getD (B.length -1) 0) (A.length -B.length)) Rj c (ld*h^(A.length -B.length))]))
theorem yt{n m:Nat}(h:Nat.blt n m=true):n<m:=Nat.le_of_ble_eq_true h
theorem Vm{y:Int}{n:Nat}(h:y.natAbs<2^n)(e:Nat):(y^e).natAbs<2^(n*e+1):=by
 rw[Sub.mQ]
 refine Nat.lt_of_le_of_lt (Nat.pow_le_pow_left (Nat.le_of_lt h) e) ?_
 rw[←Nat.pow_mul]
 exact Nat.pow_lt_pow_right (by decide) (Nat.lt_succ_self _)
theorem Ia(as bs:List Int)(k:Nat):(if as=[]\/bs=[]then[]else tabI (as.length+bs.length -1) (cf as bs as.length)).getD k 0=cf as bs as.length k:=by
 by_cases hne:as=[]\/bs=[]
 ·rw[if_pos hne]
  rcases hne with z|z
  ·rw[z]
   rfl
  ·rw[Cf,z]
   rfl
 ·rw[if_neg hne,qd]
  have la:0<as.length:=List.length_pos_iff.mpr fun z=>hne (.inl z)
  split
  ·rfl
  ·rw[iC as bs k as.length (by omega)]
theorem CL(as bs:List Int):(if as=[]\/bs=[]then[]else tabI (as.length+bs.length -1) (cf as bs as.length)).length<=as.length+bs.length -1/\(bs=[]->(if as=[]\/bs=[]then[]else tabI (as.length+bs.length -1) (cf as bs as.length)).length=0):=by
 by_cases hne:as=[]\/bs=[]
 ·rw[if_pos hne]
  exact⟨Nat.zero_le _,fun _=>rfl⟩
 ·rw[if_neg hne,aT]
  exact⟨Nat.le_refl _,fun z=>absurd (.inr z) hne⟩
theorem Ib{as bs:List Int}{n m:Nat}(h1:∀y∈as,y.natAbs<2^n)(h2:∀y∈bs,y.natAbs<2^m)(hl:as.length<=100):∀y∈(if as=[]\/bs=[]then[]else tabI (as.length+bs.length -1) (cf as bs as.length)),y.natAbs<2^(n+m+7):=fun y hy=>by
 by_cases hne:as=[]\/bs=[]
 ·rw[if_pos hne]at hy
  cases hy
 ·rw[if_neg hne]at hy
  obtain⟨k,_,rfl⟩:=qU hy
  refine Nat.lt_of_le_of_lt (MY h1 h2 k as.length) ?_
  have e:(2:Nat)^(n+m+7)=2^(n+m)*128:=Nat.pow_add 2 (n+m) 7
  have p0:0<2^(n+m):=Nat.pow_pos (by decide)
  rw[e]
  generalize 2^(n+m)=z at*
  have:=Nat.mul_le_mul_right z hl
  omega
theorem Rk{A B Qs R:List Int}{N M:Nat}(h:Rg A B N M Qs R)(X6:B.length<=A.length):vL A B Qs R (B.getD (B.length -1) 0^(A.length+1 -B.length)):=by
 have e:A.length+1 -B.length=A.length -B.length+1:=by lia
 refine⟨by rw[e],by rw[h.Vi,e],fun k=>?_,h.Vj,h.last⟩
 rw[h.eq k,pY]
 show _=az (fun i=>Qs.getD i 0) (fun i=>B.getD i 0) k+_ -az (fun i=>Qs.getD i 0) (fun i=>B.getD i 0) k
 lia
noncomputable def eG:List CS:=[.DV [1,2,3] (.call 0 [(.own 0 [.fl 0 "ahead"]),(.own 0 [.fl 1 "last"])]),.iff (.cmp .Eq (.var 2) (.lst [])) [.R4 (.bl false)] [],.set 4 (.call 1 [(.call 2 [(.own 0 [.fl 2 "factor_ahead"]),(.var 3)]),(.call 3 [(.var 1),(.own 0 [.fl 3 "factor_last"])])]),.iff (.and [(.cmp .Eq (.bin .Mod (.blt .len [(.own 0 [.fl 0 "ahead"])]) (.int 2)) (.int 0)),(.cmp .Eq (.bin .Mod (.blt .len [(.own 0 [.fl 1 "last"])]) (.int 2)) (.int 0))]) [.DX 0 6 (.neg (.own 0 [.fl 6 "sign"]))] [],.set 5 (.bin .Sub (.blt .len [(.own 0 [.fl 0 "ahead"])]) (.blt .len [(.own 0 [.fl 1 "last"])])),.set 6 (.bin .Mult (.own 0 [.fl 4 "lead"]) (.call 4 [(.own 0 [.fl 5 "height"]),(.var 5)])),.DX 0 7 (.var 3),.DX 0 8 (.var 6),.DX 0 0 (.own 0 [.fl 1 "last"]),.DX 0 2 (.own 0 [.fl 3 "factor_last"]),.DX 0 1 (.comp [0] true 1 (.var 2) (.bl true) (.bin .FloorDiv (.var 0) (.var 7))),.DX 0 3 (.comp [0] true 1 (.var 4) (.bl true) (.bin .FloorDiv (.var 0) (.var 7))),.DX 0 4 (.ix (.own 0 [.fl 0 "ahead"]) (.neg (.int 1))),.DX 0 5 (.call 5 [(.own 0 [.fl 5 "height"]),(.own 0 [.fl 4 "lead"]),(.var 5)]),.R4 (.bl true)]
theorem vM{G:Nat->W}{m:Md}{C:Addr}(ws:List W)(Q:W->Prop)(R:Addr->Prop)(h:yq C ws Q R):wSs (aO [cN,b9,dU,cj,i0,ek]) G eG (b8 m Q R) (aq 7 ws):=by
 obtain⟨A,B,fA,fB,ld,h,sg,sc,kn,N,E,rfl,⟨l2,X6,ZP,lf,Ra,bA,bB,ZQ,M4,bl,bh,hN,hE,k0,kE,h0⟩,q1,q2⟩:=h
 show wSs _ _ eG _ [some (qW C A B fA fB ld h sg sc kn),none,none,none,none,none,none]
 have lB:=eu bB (B.length -1)
 have eLB:=CG (ns:=B) (by lia)
 unfold eG
 have m1:N*(A.length+1 -B.length)<=5000*14:=Nat.mul_le_mul hN (by lia)
 have m2:(A.length+1 -B.length)*(N+1)<=14*5001:=Nat.mul_le_mul (by lia) (by lia)
 refine e9 (fun ε'=>∃Qs R1,Rg A B N N Qs R1/\ε'=[some (qW C A B fA fB ld h sg sc kn),some (wI Qs),some (wI R1),some (.int (B.getD (B.length -1) 0^(A.length+1 -B.length))),none,none,none]) (fun N1 ud=>?_) ?_
 ·unfold qW at ud⊢
  walk_at "vs"
  exact⟨A,B,N,N,rfl,⟨by lia,by lia,by lia,bA,bB,by lia⟩,fun Qs R dv=>⟨rfl,ud _ ⟨Qs,R,dv,rfl⟩⟩⟩
 rintro _ ⟨Qs,R1,dv,rfl⟩
 have dR:=Rk dv X6
 have ZR:=dv.bQ
 have lQ:=dv.Vi
 have lR:=dv.Vj
 generalize hc:B.getD (B.length -1) 0^(A.length+1 -B.length)=c at*
 obtain⟨n0,hn0⟩:∃n0:Nat,n0=80000:=⟨_,rfl⟩
 have bc:c.natAbs<2^n0:=by
  rw[←hc]
  exact cM (Vm lB _) (by lia)
 refine e9 (fun ε'=>R1≠[]/\ε'=[some (qW C A B fA fB ld h sg sc kn),some (wI Qs),some (wI R1),some (.int c),none,none,none]) (fun N1 ud=>?_) ?_
 ·walk_at "vs"
  refine⟨af (by simp),Q7 (y:=[]) fun k hk=>?_⟩
  walk_at "vs"
  by_cases hR:R1=[]
  ·cases bX hk hR
   walk_at "vs"
   subst hR
   exact q1 Qs c dR
  ·cases dS hk hR
   walk_at "vs"
   exact ud _ ⟨hR,rfl⟩
 rintro _ ⟨hR,rfl⟩
 refine e9 (fun ε'=>∃F,Ri fA fB Qs F c/\F.length<=100/\ε'=[some (qW C A B fA fB ld h sg sc kn),some (wI Qs),some (wI R1),some (.int c),some (wI F),none,none]) (fun N1 ud=>?_) ?_
 ·unfold qW at ud⊢
  walk_at "vs"
  refine⟨fA,c,rfl,by lia,fun y hy=>aJ bc (ZQ y hy) (by lia),?_⟩
  refine⟨Qs,fB,rfl,by lia,by lia,fun y hy z hz=>aJ (ZR y hy) (M4 z hz) (by lia),?_⟩
  have tl:=CL Qs fB
  have tb:=Ib ZR M4 (by lia)
  have tc:=Ia Qs fB
  generalize(if Qs=[]\/fB=[]then[]else tabI (Qs.length+fB.length -1) (cf Qs fB Qs.length))=L4 at*
  refine⟨_,L4,_,rfl,by rw[List.length_map];lia,by lia,?_,tb,fun F tr=>?_⟩
  ·lia
  have lF:=qP tr
  rw[List.length_map,List.length_range,List.length_map]at lF
  refine ud _ ⟨F,⟨fun k=>?_,by lia,fun z=>?_⟩,by lia,rfl⟩
  ·rw[vG tr,←tc k]
   by_cases hk:k<max (fA.map (c*·)).length L4.length
   ·rw[List.getD_eq_getElem?_getD,List.getElem?_map,List.getElem?_range hk]
    show(fA.map fun y=>c*y).getD k 0 -_=_
    rw[Sub.map_getD (f:=fun y=>c*y) (Int.mul_zero c)]
   ·rw[List.length_map]at hk
    rw[outI (by rw[List.length_map,List.length_range,List.length_map];lia),outI (ns:=L4) (by lia),outI (ns:=fA) (by lia)]
    simp
  ·have:=tl.2 z
   lia
 rintro _ ⟨F,dF,lF,rfl⟩
 refine e9 (fun ε'=>∃Rj,ε'=[some (qW C A B fA fB ld h Rj sc kn),some (wI Qs),some (wI R1),some (.int c),some (wI F),none,none]) (fun N1 ud=>?_) ?_
 ·have y:=ud _ ⟨sg,rfl⟩
  have z:=ud _ ⟨-sg,rfl⟩
  clear ud
  unfold qW wI at y z⊢
  walk_at "vs"
  refine⟨by decide,?_⟩
  by_cases e1:((A.map W.int).length:Int).fmod 2=0
  ·rw[if_pos (decide_eq_true e1)]
   refine⟨by decide,?_⟩
   by_cases e2:((B.map W.int).length:Int).fmod 2=0
   ·rw[if_pos (decide_eq_true e2)]
    exact⟨by simp,z⟩
   ·rw[if_neg (by rw[decide_eq_true_eq];exact e2)]
    exact y
  ·rw[if_neg (by rw[decide_eq_true_eq];exact e1)]
   exact y
 rintro _ ⟨Rj,rfl⟩
 have qq:=q2 Qs R1 F c Rj hR dR dF
 have Vn:(ld*h^(A.length -B.length)).natAbs.log2<9000:=gg (n:=E+1) (Nat.lt_of_le_of_lt kE (Nat.pow_lt_pow_right (by decide) (Nat.lt_succ_self _))) (by lia)
 have m3:N*(A.length -B.length+1)<=N*(A.length+1 -B.length):=Nat.mul_le_mul_left _ (by lia)
 have m4:N*(A.length -B.length)<=N*(A.length -B.length+1):=Nat.mul_le_mul_left _ (by lia)
 clear q1 q2
 unfold qW wI at qq⊢
 walk_at "vs"
 rw[List.length_map,List.length_map,show(A.length:Int) -(B.length:Int)=((A.length -B.length:Nat):Int) by lia]
 generalize Vf:A.length -B.length=δ at*
 refine⟨h,δ,N,rfl,bh,by lia,?_⟩
 walk_at "vs"
 refine⟨aJ bl (Vm bh δ) (by lia),yt rfl,yt rfl,yt rfl,yt rfl,?_⟩
 refine cY (h:=W.int) (g:=fun y=>.int (y.fdiv (ld*h^δ))) R1 [] _ (fun y hy K hK=>⟨⟨k0,Vn⟩,hK⟩) (af (by simp;lia)) ⟨yt rfl,?_⟩
 refine cY (h:=W.int) (g:=fun y=>.int (y.fdiv (ld*h^δ))) F [] _ (fun y hy K hK=>⟨⟨k0,Vn⟩,hK⟩) (af (by simp;lia)) ⟨yt rfl,_,eLB,yt rfl,?_⟩
 refine⟨h,B.getD (B.length -1) 0,δ,N,rfl,⟨bh,lB,by lia,fun hd=>⟨(h0 hd).1,gg (n:=E+1) (Nat.lt_of_le_of_lt (h0 hd).2 (Nat.pow_lt_pow_right (by decide) (Nat.lt_succ_self _))) (by lia)⟩⟩,yt rfl,?_⟩
 rw[List.map_map,List.map_map]at qq
 exact qq
abbrev CI:=List Int->List Int->List Int->List Int->Int->Int->Prop
noncomputable def Kept(I:CI):Prop:=∀(A B fA fB:List Int) (ld h:Int),I A B fA fB ld h->2<=B.length->(∃N E,M3 A B fA fB ld h N E)/\∀(Qs R F:List Int) (c:Int),R≠[]->vL A B Qs R c->Ri fA fB Qs F c->
 I B (R.map fun y=>y.fdiv (ld*h^(A.length -B.length))) fB (F.map fun y=>y.fdiv (ld*h^(A.length -B.length))) (B.getD (B.length -1) 0) (Sub.hnext h (B.getD (B.length -1) 0) (A.length -B.length))
noncomputable def yu(C:Addr):b6:=fun ws Q _=>∃(A B fA fB:List Int) (ld h sg sc kn:Int) (I:CI),ws=[qW C A B fA fB ld h sg sc kn]/\(I A B fA fB ld h/\Kept I)/\
 ∀(A B fA fB:List Int) (ld h sg sc kn:Int),I A B fA fB ld h->(B.length<2\/∃Qs c,vL A B Qs [] c)->Q (.tup [.aU,qW C A B fA fB ld h sg sc kn])
noncomputable def eH:List CS:=[.set 1 (.bl true),.DW (.and [(.var 1),(.cmp .Gt (.blt .len [(.own 0 [.fl 1 "last"])]) (.int 1))]) [.Aj 1 (.JZ 0 0 0 [])]]
structure ChS where
 A:List Int
 B:List Int
 fA:List Int
 fB:List Int
 ld:Int
 h:Int
 sg:Int
 sc:Int
 kn:Int
 g:Bool
theorem vN{m:Md}{C:Addr}(ws:List W)(Q:W->Prop)(R:Addr->Prop)(h:yu C ws Q R):wSs (aO [yq C]) (bI [.cls C]) eH (b8 (.io m) Q R) (aq 2 ws):=by
 obtain⟨A,B,fA,fB,ld,h,sg,sc,kn,I,rfl,⟨hI,kept⟩,q⟩:=h
 show wSs _ _ eH _ [some (qW C A B fA fB ld h sg sc kn),none]
 unfold eH
 walk_at "vs"
 refine iU (α:=ChS) (fun s=>[some (qW C s.A s.B s.fA s.fB s.ld s.h s.sg s.sc s.kn),some (.bl s.g)]) (fun s=>I s.A s.B s.fA s.fB s.ld s.h/\(s.g=false->∃Qs c,vL s.A s.B Qs [] c)) (fun s=>if s.g then s.B.length+1 else 0) ⟨A,B,fA,fB,ld,h,sg,sc,kn,true⟩ rfl ⟨hI,fun z=>by cases z⟩ ?_
 clear hI
 rintro⟨A,B,fA,fB,ld,h,sg,sc,kn,g⟩ ⟨hI,hg⟩
 dsimp only at hI hg⊢
 have q0:=q A B fA fB ld h sg sc kn hI
 cases g with
 |false=>
  walk_at "vs"
  refine dP (fun z=>by cases z) (fun _=>?_)
  exact q0 (.inr (hg rfl))
 |true=>
  unfold qW at q0⊢
  unfold wI at q0⊢
  walk_at "vs"
  refine dP (fun z=>?_) (fun z=>?_)
  ·have z:=of_decide_eq_true z
   rw[List.length_map]at z
   obtain⟨⟨N,E,room⟩,nxt⟩:=kept A B fA fB ld h hI (by lia)
   walk_at "vs"
   refine⟨rfl,A,B,fA,fB,ld,h,sg,sc,kn,N,E,rfl,room,fun Qs c dv=>?_,fun Qs R F c Rj hR dv df=>?_⟩
   ·refine⟨_,_,rfl,⟨A,B,fA,fB,ld,h,sg,sc,kn,false⟩,rfl,⟨hI,fun _=>⟨Qs,c,dv⟩⟩,?_⟩
    show 0<_+1
    lia
   ·refine⟨_,_,rfl,⟨B,_,fB,_,_,_,Rj,c,_,true⟩,rfl,⟨nxt Qs R F c hR dv df,fun z=>by cases z⟩,?_⟩
    have:=dv.2.2.2.1
    show(R.map _).length+1<B.length+1
    rw[List.length_map]
    lia
  ·have z:=of_decide_eq_false z
   rw[List.length_map]at z
   exact q0 (.inl (by lia))
theorem fz{x n:Nat}(h:x<=2^n):x<2^(n+1):=Nat.lt_of_le_of_lt h (Nat.pow_lt_pow_right (by decide) (Nat.lt_succ_self _))
noncomputable def GI(ns ms:List Int)(w E:Nat):CI:=fun A B fA fB ld h=>Sub.CS ns ms [1] [] w E (ms.length+1) A B fA fB ld h/\∃vA vB:List Int,Sub.CS ns ms [] [1] w E (ns.length+1) A B vA vB ld h/\(∀k,co A k=az (co fA) (co ns) k+az (co vA) (co ms) k)/\(∀k,co B k=az (co fB) (co ns) k+az (co vB) (co ms) k)/\
 (∀G,Dv G (co A)->Dv G (co B)->Dv G (co ns)/\Dv G (co ms))/\((A=ns/\B=ms/\fB=[]/\vB=[1])\/B.length<ms.length)/\(One fun k=>az (co fA) (co vB) k -az (co fB) (co vA) k)
theorem CM{R:List Int}{d:Int}(h:∀x∈R,d∣x)(k:Nat):d∣R.getD k 0:=by
 by_cases hk:k<R.length
 ·exact h _ (Sub.getD_mem' hk)
 ·rw[outI (by lia)]
  exact Int.dvd_zero _
theorem c8{R:List Int}{d:Int}(h:∀x∈R,d∣x)(k:Nat):co R k=d*co (R.map fun y=>y.fdiv d) k:=by
 show R.getD k 0=d*(R.map fun y=>y.fdiv d).getD k 0
 rw[Sub.map_getD (f:=fun y=>y.fdiv d) (Int.zero_fdiv _),Int.fdiv_eq_ediv_of_dvd (CM h k),Int.mul_ediv_cancel' (CM h k)]
theorem ghost(vA vB Qs:List Int)(c:Int):∃G:List Int,(∀k,G.getD k 0=c*vA.getD k 0 -cf Qs vB Qs.length k)/\G.length<=max vA.length (Qs.length+vB.length -1)/\(vB=[]->G.length<=vA.length):=by
 by_cases hv:vB=[]
 ·refine⟨tabI vA.length fun k=>c*vA.getD k 0 -cf Qs vB Qs.length k,fun k=>?_,by rw[aT];omega,fun _=>by rw[aT];exact Nat.le_refl _⟩
  rw[qd]
  split
  ·rfl
  ·have e:cf Qs vB Qs.length k=0:=by
    rw[Cf,hv]
    rfl
   rw[e,outI (ns:=vA) (by lia)]
   simp
 ·refine⟨tabI (max vA.length (Qs.length+vB.length -1)) fun k=>c*vA.getD k 0 -cf Qs vB Qs.length k,fun k=>?_,by rw[aT];exact Nat.le_refl _,fun z=>absurd z hv⟩
  rw[qd]
  split
  ·rfl
  ·have lv:0<vB.length:=List.length_pos_iff.mpr hv
   rw[iC Qs vB k Qs.length (by omega),outI (ns:=vA) (by omega)]
   simp
theorem Ly{ns ms:List Int}{w E:Nat}(X1:Sub.FX ns ms [1] [] w E)(X2:Sub.FX ns ms [] [1] w E)(ZP:ns.length<=15)(hN:w*(ns.length -1+(ms.length -1)+1)+1<=5000)(hE:w*E<=7900):Kept (GI ns ms w E):=by
 rintro A B fA fB ld h ⟨C1,vA,vB,C2,bA,bB,dd,st,Wj⟩ l2
 have l1:=X1.l1
 have M1:=C1.M1
 have lp:=C1.lp
 have lf:=C1.lf
 have Vd:=C1.Vd
 obtain⟨k0,kE,h0⟩:=C1.size X1 l2
 obtain⟨b1,b2,b3,b4⟩:=C1.bd
 refine⟨⟨w*(ns.length -1+(ms.length -1)+1)+1,w*E,⟨l2,M1,by lia,by lia,?_,fun x hx=>fz (b1 x hx),fun x hx=>fz (b2 x hx),fun x hx=>fz (b3 x hx),fun x hx=>fz (b4 x hx),fz C1.bl,?_,hN,hE,k0,kE,h0⟩⟩,?_⟩
 ·rcases C1.Ra with z|z
  ·rw[z]
   exact Nat.zero_le _
  ·lia
 ·exact fz (Nat.le_trans C1.bh (Nat.pow_le_pow_right (by decide) (Nat.mul_le_mul_left _ (by lia))))
 rintro Qs R F c hR ⟨hc,Rb,cR,lR,zR⟩ ⟨cF,lF,Rc⟩
 obtain⟨G,cG,lG,X7⟩:=ghost vA vB Qs c
 obtain⟨_,_,dR,dF,_,_,S1⟩:=C1.step X1 l2 hc Rb cR lR zR cF lF Rc
 obtain⟨_,_,_,dG,_,_,S2⟩:=C2.step X2 l2 hc Rb cR lR zR cG lG X7
 have Wk:∀k,co R k=c*co A k -az (co Qs) (co B) k:=fun k=>by rw[←jD];exact cR k
 have Vo:∀k,co F k=c*co fA k -az (co Qs) (co fB) k:=fun k=>by rw[←jD];exact cF k
 have Vp:∀k,co G k=c*co vA k -az (co Qs) (co vB) k:=fun k=>by rw[←jD];exact cG k
 have c0:c≠0:=by
  rw[hc]
  exact Sub.ef C1.ch.wL _
 refine⟨S1 hR,vB,_,S2 hR,bB,CF (B:=co B) k0 (yh bA bB Wk Vo Vp) (c8 dR) (c8 dF) (c8 dG),fun G' h1 h2=>dd G' (Dv.step (d:=ld*h^(A.length -B.length)) (Qs:=co Qs) c0 ⟨Qs.length,fun i hi=>outI hi⟩ h1 h2 fun k=>?_) h1,.inr (by rw[List.length_map];lia),yj k0 c0 Vo Vp (c8 dF) (c8 dG) Wj⟩
 have:=Wk k
 rw[c8 dR k]at this
 rw[this]
 lia
theorem qf:∀(n:Nat) (V:List Int),V.length=n->∃W:List Int,(∀k,W.getD k 0=V.getD k 0)/\(W=[]\/W.getD (W.length -1) 0≠0)/\W.length<=V.length
 |0,V,h=>⟨V,fun _=>rfl,.inl (List.length_eq_zero_iff.mp h),Nat.le_refl _⟩
 |n+1,V,h=>by
  have hne:V≠[]:=fun z=>by rw[z]at h;cases h
  obtain⟨V0,x,rfl⟩:∃V0 x,V=V0++[x]:=⟨V.dropLast,V.getLast hne,(List.dropLast_concat_getLast hne).symm⟩
  have l0:V0.length=n:=by
   rw[List.length_append]at h
   simp only[List.length_cons,List.length_nil]at h
   lia
  have ex:(V0++[x]).getD n 0=x:=by
   rw[List.getD_eq_getElem?_getD,List.getElem?_append_right (by lia),l0,Nat.sub_self]
   rfl
  by_cases hx:x=0
  ·obtain⟨W,e,z,l⟩:=qf n V0 l0
   refine⟨W,fun k=>?_,z,by rw[List.length_append];lia⟩
   rw[e k]
   by_cases hk:k<V0.length
   ·rw[List.getD_eq_getElem?_getD,List.getD_eq_getElem?_getD,List.getElem?_append_left hk]
   ·rw[outI (by lia)]
    by_cases hk2:k=n
    ·rw[hk2,ex,hx]
    ·rw[outI (by rw[List.length_append];show V0.length+1<=k;lia)]
  ·refine⟨V0++[x],fun _=>rfl,.inr ?_,Nat.le_refl _⟩
   rw[h,Nat.add_sub_cancel,ex]
   exact hx
theorem ED{ns ms A B fA fB:List Int}{w E:Nat}{ld h:Int}(hI:GI ns ms w E A B fA fB ld h)(hns:ns.getD (ns.length -1) 0≠0)(l1:ms.length<=ns.length)(l0:0<ms.length)(hend:B.length<2\/∃Qs c,vL A B Qs [] c):
 Dv (co B) (co ns)/\Dv (co B) (co ms)/\B.getD (B.length -1) 0≠0/\0<B.length/\B.length<=ms.length/\fB.length<=ms.length+1/\(∀x∈B,x.natAbs<=2^(w*(ns.length -1+(ms.length -1)+1)))/\(∀x∈fB,x.natAbs<=2^(w*(ns.length -1+(ms.length -1)+1)))/\
 ∃W:List Int,0<W.length/\W.length<=ns.length+1/\W.getD (W.length -1) 0≠0/\(∀x∈W,x.natAbs<=2^(w*(ns.length -1+(ms.length -1)+1)))/\∀k,co B k=az (co fB) (co ns) k+az (co W) (co ms) k:=by
 obtain⟨C1,vA,vB,C2,bA,bB,dd,st,Wj⟩:=hI
 have lq:=C1.lq
 have wL:B.getD (B.length -1) 0≠0:=C1.ch.wL
 have hA:Dv (co B) (co A):=by
  rcases hend with hl|⟨Qs,c,hc,Rb,cR,_,_⟩
  ·have l1:B.length=1:=by lia
   obtain⟨b,rfl⟩:=List.length_eq_one_iff.mp l1
   exact Dv.const wL A
  ·refine⟨c,by rw[hc];exact Sub.ef wL _,co Qs,⟨Qs.length,fun i hi=>outI hi⟩,fun k=>?_⟩
   have:=cR k
   rw[jD]at this
   have e:([]:List Int).getD k 0=0:=rfl
   rw[e]at this
   show c*A.getD k 0=_
   lia
 obtain⟨d1,d2⟩:=dd (co B) hA (Dv.self _)
 obtain⟨_,b2,_,b4⟩:=C1.bd
 obtain⟨_,_,_,b4'⟩:=C2.bd
 obtain⟨W,eW,zW,lW⟩:=qf _ vB rfl
 have ZS:fB.length<=ms.length+1:=by
  rcases C1.Ra with z|z
  ·rw[z]
   exact Nat.zero_le _
  ·lia
 have lvB:vB.length<=ns.length+1:=by
  rcases C2.Ra with z|z
  ·rw[z]
   exact Nat.zero_le _
  ·lia
 have bW:∀k,co B k=az (co fB) (co ns) k+az (co W) (co ms) k:=fun k=>by
  rw[bB k,aY (f:=co W) (f':=co vB) eW (fun _=>rfl)]
 have hW:W≠[]:=fun z=>by
  rcases st with⟨_,_,_,e⟩|hlt
  ·have:=eW 0
   rw[z,e]at this
   cases this
  ·obtain⟨F,eF,zF,lF⟩:=qf _ fB rfl
   have bF:∀k,co B k=cf F ns F.length k:=fun k=>by
    rw[bW k,z,jD,aY (f:=co F) (f':=co fB) eF (fun _=>rfl)]
    have:az (co []) (co ms) k=0:=by
     rw[show co []=fun _=>0 from funext fun i=>rfl]
     exact gk _ k
    rw[this,Int.add_zero]
   rcases zF with z2|z2
   ·have:=bF (B.length -1)
    rw[z2]at this
    exact wL this
   ·have Rc:0<F.length:=by
     rcases Nat.eq_zero_or_pos F.length with e|e
     ·rw[List.length_eq_zero_iff.mp e]at z2
      exact absurd rfl z2
     ·exact e
    have e:=vm F ns Rc (by lia)
    have e2:=bF (F.length+ns.length -2)
    rw[e]at e2
    have e3:co B (F.length+ns.length -2)=0:=outI (by lia)
    rw[e3]at e2
    exact Int.mul_ne_zero z2 hns e2.symm
 refine⟨d1,d2,wL,lq,C1.Vd,ZS,b2,b4,W,List.length_pos_iff.mpr hW,by lia,zW.resolve_left hW,fun x hx=>?_,bW⟩
 obtain⟨k,_,rfl⟩:=Sub.mem_getD hx
 rw[eW]
 by_cases hk:k<vB.length
 ·exact b4' _ (Sub.getD_mem' hk)
 ·rw[outI (by lia)]
  exact Nat.zero_le _
theorem AX{ns ms A B fA fB:List Int}{w E:Nat}{ld h:Int}(X1:Sub.FX ns ms [1] [] w E)(X2:Sub.FX ns ms [] [1] w E)(hI:GI ns ms w E A B fA fB ld h)(hend:B.length<2\/∃Qs c,vL A B Qs [] c):
 ∃(κ:Int) (S1 S2:List Int),κ≠0/\κ.natAbs<=2^(2*(w*(ns.length -1+(ms.length -1)+1))+1)/\(∀x∈S1,x.natAbs<=2^(w*(ns.length -1+(ms.length -1)+1)))/\(∀x∈S2,x.natAbs<=2^(w*(ns.length -1+(ms.length -1)+1)))/\(∀k,κ*co ns k=az (co S1) (co B) k)/\∀k,κ*co ms k=az (co S2) (co B) k:=by
 obtain⟨C1,vA,vB,C2,bA,bB,dd,st,Wj⟩:=hI
 have lq:=C1.lq
 have wL:B.getD (B.length -1) 0≠0:=C1.ch.wL
 obtain⟨M,m1,m2,m3,m4⟩:=X1.M
 have hM:M<=2^(w*(ns.length -1+(ms.length -1)+1)):=by
  refine Nat.le_trans (Nat.le_trans (Nat.le_mul_of_pos_left M (show 0<ns.length -1+(ms.length -1)+1 by lia)) m4) (Nat.pow_le_pow_right (by decide) ?_)
  exact Nat.le_mul_of_pos_right w (by omega)
 by_cases hl:B.length<2
 ·have l1:B.length=1:=by lia
  obtain⟨b,rfl⟩:=List.length_eq_one_iff.mp l1
  have hb:∀k,co [b] k=if k=0 then b else 0:=fun k=>by
   cases k with
   |zero=>rfl
   |succ k=>exact outI (by simp)
  refine⟨b,ns,ms,wL,?_,fun x hx=>?_,fun x hx=>?_,fun k=>?_,fun k=>?_⟩
  ·refine Nat.le_trans (C1.bd.2.1 b (List.mem_singleton.mpr rfl)) (Nat.pow_le_pow_right (by decide) (by lia))
  ·obtain⟨k,_,rfl⟩:=Sub.mem_getD hx
   exact Nat.le_trans (m1 (false,k)) hM
  ·obtain⟨k,_,rfl⟩:=Sub.mem_getD hx
   exact Nat.le_trans (m2 (false,k)) hM
  ·rw[bT,vJ hb]
  ·rw[bT,vJ hb]
 ·obtain⟨Qs,c,hc,Rb,cR,lR,zR⟩:=hend.resolve_left hl
  obtain⟨F,cF,lF,Rc⟩:=ghost fA fB Qs c
  obtain⟨G,cG,lG,X7⟩:=ghost vA vB Qs c
  obtain⟨k0,_,_,dF,_,bF,_⟩:=C1.step X1 (by lia) hc Rb cR lR zR cF lF Rc
  obtain⟨_,_,_,dG,_,bG,_⟩:=C2.step X2 (by lia) hc Rb cR lR zR cG lG X7
  have Vo:∀k,co F k=c*co fA k -az (co Qs) (co fB) k:=fun k=>by rw[←jD];exact cF k
  have Vp:∀k,co G k=c*co vA k -az (co Qs) (co vB) k:=fun k=>by rw[←jD];exact cG k
  have Wk:∀k,(0:Int)=c*co A k -az (co Qs) (co B) k:=fun k=>by rw[←jD];exact cR k
  have c0:c≠0:=by
   rw[hc]
   exact Sub.ef wL _
  have kn:=yj k0 c0 Vo Vp (c8 dF) (c8 dG) Wj
  have z:=CF (B:=co B) (B':=fun _=>0) (R:=fun _=>0) k0 (yh (R:=fun _=>0) bA bB Wk Vo Vp) (fun k=>(Int.mul_zero _).symm) (c8 dF) (c8 dG)
  obtain⟨κ,Sl,Vh⟩:=kn
  have qe:=HW bB z Vh
  have b1:∀x∈G.map (fun y:Int=>y.fdiv (ld*h^(A.length -B.length))),x.natAbs<=2^(w*(ns.length -1+(ms.length -1)+1)):=fun x hx=>by
   obtain⟨k,_,rfl⟩:=Sub.mem_getD hx
   exact bG (true,k)
  have b2:∀k,((F.map (fun y:Int=>y.fdiv (ld*h^(A.length -B.length)))).getD k 0).natAbs<=2^(w*(ns.length -1+(ms.length -1)+1)):=fun k=>bF (true,k)
  refine⟨κ,G.map (fun y:Int=>y.fdiv (ld*h^(A.length -B.length))),(F.map (fun y:Int=>y.fdiv (ld*h^(A.length -B.length)))).map (fun y=> -1*y),Sl,?_,b1,fun x hx=>?_,fun k=>(qe k).1,fun k=>?_⟩
  ·have e:=Vh 0
   rw[if_pos rfl]at e
   have e:az (co fB) (co (G.map fun y:Int=>y.fdiv (ld*h^(A.length -B.length)))) 0 -az (co (F.map fun y:Int=>y.fdiv (ld*h^(A.length -B.length)))) (co vB) 0=κ:=e
   rw[b5,b5]at e
   have f1:=C1.bQ (true,0)
   have f2:=C2.bQ (true,0)
   have f3:=bG (true,0)
   have f4:=bF (true,0)
   rw[←e]
   have g1:(co fB 0*co (G.map fun y:Int=>y.fdiv (ld*h^(A.length -B.length))) 0).natAbs<=2^(w*(ns.length -1+(ms.length -1)+1))*2^(w*(ns.length -1+(ms.length -1)+1)):=by
    rw[Int.natAbs_mul]
    exact Nat.mul_le_mul f1 f3
   have g2:(co (F.map fun y:Int=>y.fdiv (ld*h^(A.length -B.length))) 0*co vB 0).natAbs<=2^(w*(ns.length -1+(ms.length -1)+1))*2^(w*(ns.length -1+(ms.length -1)+1)):=by
    rw[Int.natAbs_mul]
    exact Nat.mul_le_mul f4 f2
   rw[Nat.pow_succ,Nat.two_mul,Nat.pow_add]
   omega
  ·obtain⟨y,hy,rfl⟩:=List.mem_map.mp hx
   obtain⟨k,_,rfl⟩:=Sub.mem_getD hy
   have:=b2 k
   omega
  ·rw[(qe k).2]
   exact aY (fun i=>by
    show _=((F.map (fun y:Int=>y.fdiv (ld*h^(A.length -B.length)))).map (fun y=> -1*y)).getD i 0
    rw[Sub.map_getD (f:=fun y=> -1*y) (by decide)]) (fun _=>rfl) k
theorem vO(X:Nat->Int)(k:Nat):az (co [1]) X k=X k:=by
 cases k with
 |zero=>rw[b5];show 1*_=_;rw[Int.one_mul]
 |succ k=>
  rw[fR]
  have:az (fun i=>co [1] (i+1)) X k=0:=by
   rw[show(fun i=>co [1] (i+1))=fun _=>0 from funext fun i=>outI (by simp)]
   exact gk X k
  rw[this]
  show 1*_+0=_
  rw[Int.one_mul,Int.add_zero]
theorem AY(X:Nat->Int)(k:Nat):az (co []) X k=0:=by
 rw[show co []=fun _=>0 from funext fun i=>rfl]
 exact gk X k
theorem Ic{ns ms:List Int}{w E:Nat}(l0:0<ms.length)(nz:ms.getD (ms.length -1) 0≠0)(X1:Sub.FX ns ms [1] [] w E)(X2:Sub.FX ns ms [] [1] w E):GI ns ms w E ns ms [1] [] 1 1:=by
 refine⟨Sub.CS.start X1 l0 nz (by show 1+ms.length<=_;lia) (.inl rfl),[],[1],Sub.CS.start X2 l0 nz (by show 0+ms.length<=_;have:=X2.l1;lia) (.inr (by show 1+ns.length<=_;lia)),fun k=>?_,fun k=>?_,fun G h1 h2=>⟨h1,h2⟩,.inl ⟨rfl,rfl,rfl,rfl⟩,1,by decide,fun k=>?_⟩
 ·rw[vO,AY,Int.add_zero]
 ·rw[vO,AY,Int.zero_add]
 ·show az (co [1]) (co [1]) k -az (co []) (co []) k=_
  rw[vO,AY,Int.sub_zero]
  cases k with
  |zero=>rfl
  |succ k=>exact outI (by simp)
theorem Ie{L W ms:List Int}(hL:∀k,L.getD k 0=cf W ms W.length k)(zL:L=[]\/L.getD (L.length -1) 0≠0)(w0:0<W.length)(m0:0<ms.length)(zW:W.getD (W.length -1) 0≠0)(zm:ms.getD (ms.length -1) 0≠0):L.length+1=W.length+ms.length:=by
 have e:=hL (W.length+ms.length -2)
 rw[vm W ms w0 m0]at e
 have e0:=Int.mul_ne_zero zW zm
 rw[←e]at e0
 have h1:W.length+ms.length -2<L.length:=by
  rcases Nat.lt_or_ge (W.length+ms.length -2) L.length with z|z
  ·exact z
  ·exact absurd (outI z) e0
 have h2:L.length<=W.length+ms.length -1:=by
  rcases zL with z|z
  ·rw[z]
   exact Nat.zero_le _
  ·rcases Nat.lt_or_ge (W.length+ms.length -1) L.length with y|y
   ·rw[hL,iC W ms _ W.length (by lia)]at z
    exact absurd rfl z
   ·exact y
 lia
theorem M5{ns ms f g:List Int}{n E:Nat}(l1:ms.length<=ns.length)(l8:ns.length<=8)(bn:∀x∈ns,x.natAbs<2^n)(bm:∀x∈ms,x.natAbs<2^n)(hf:f=[]\/f=[1])(hg:g=[]\/g=[1])(hE:∀p,(ns.length -1+(ms.length -1) -2*p)*p+(ns.length -1+(ms.length -1)+1)<=E):Sub.FX ns ms f g (n+4) E:=by
 have one:∀{f:List Int},(f=[]\/f=[1])->∀k,(f.getD k 0).natAbs<=2^n:=fun{f} hf k=>by
  rcases hf with rfl|rfl
  ·exact Nat.zero_le _
  ·cases k with
   |zero=>exact Nat.pow_pos (by decide)
   |succ k=>exact Nat.zero_le _
 refine⟨l1,by lia,⟨2^n,fun i=>?_,fun i=>?_,Nat.pow_pos (by decide),?_⟩,hE⟩
 ·obtain⟨b,t⟩:=i
  cases b
  ·exact Nat.le_of_lt (eu bn t)
  ·exact one hf t
 ·obtain⟨b,t⟩:=i
  cases b
  ·exact Nat.le_of_lt (eu bm t)
  ·exact one hg t
 ·have:ns.length -1+(ms.length -1)+1<=2^4:=by omega
  exact Nat.le_trans (Nat.mul_le_mul_right _ this) (by rw[←Nat.pow_add,Nat.add_comm];exact Nat.le_refl _)
noncomputable def gP(a:List Rat):Nat->Rat:=fun i=>a.getD i 0
noncomputable def Vq(D ns:List Int)(n:Nat):Prop:=∃(κ:Int) (S:List Int),κ≠0/\(∀x∈S,x.natAbs<2^n)/\∀k,κ*co ns k=az (co S) (co D) k
noncomputable def X8(p1 p2:Nat)(g a:List Rat):Prop:=∃(s:List Rat) (D:Int),(∀k,a.getD k 0=lS (gP s) (gP g) k)/\D≠0/\D.natAbs<2^p1/\∀x∈s,Cd D p2 x
structure EF(p1 p2:Nat)(a b g u v:List Rat):Prop where
 ng:bJ g
 nu:bJ u
 nv:bJ v
 ZT:∀k,g.getD k 0=lS (gP u) (gP a) k+lS (gP v) (gP b) k
 da:X8 p1 p2 g a
 db:X8 p1 p2 g b
 ne:g≠[]
 one:g.getD (g.length -1) 0=1
theorem cz{B:Int}(h:B≠0):(B:Rat)≠0:=fun z=>h (by exact_mod_cast z)
theorem AZ{B:Int}(hB:B≠0)(X:List Int)(k:Nat):(aj (X.map fun x=>Rat.divInt x B)).getD k 0*(B:Rat)=((X.getD k 0:Int):Rat):=by
 rw[dX]
 have e:(X.map fun x=>Rat.divInt x B).getD k 0=Rat.divInt (X.getD k 0) B:=by
  rw[List.getD_eq_getElem?_getD,List.getElem?_map,List.getD_eq_getElem?_getD]
  cases X[k]? with
  |none=>exact(Rat.zero_divInt B).symm
  |some z=>rfl
 rw[e,Rat.divInt_eq_div]
 exact Rat.div_mul_cancel (cz hB)
theorem lK{x y z:Rat}(hz:z≠0)(h:x*z=y*z):x=y:=by
 have:(x -y)*z=0:=by grind
 rcases Rat.mul_eq_zero.mp this with e|e
 ·grind
 ·exact absurd e hz
theorem Vr(S:Nat->Int)(q:Rat)(n:Nat)(hS:∀i,n<=i->S i=0)(i:Nat):gP ((List.range n).map fun i=>(S i:Rat)*q) i=(S i:Rat)*q:=by
 show((List.range n).map fun i=>(S i:Rat)*q).getD i 0=_
 rw[List.getD_eq_getElem?_getD,List.getElem?_map]
 by_cases h:i<n
 ·rw[List.getElem?_range h]
  rfl
 ·rw[List.getElem?_eq_none (by simp;lia),hS i (by lia)]
  show(0:Rat)=((0:Int):Rat)*q
  grind
theorem Ig{n kb q:Nat}{a:List Rat}{ns D:List Int}{c:Nat}{B l:Int}(hc:0<c)(hB:B≠0)(hl:l≠0)(Yb:D.getD (D.length -1) 0=l)(hns:ns.getD (ns.length -1) 0≠0)(bc:c<2^n)(bB:B.natAbs<2^kb)(Lz:∀x∈ns,x.natAbs<2^n)
 (ha:∀i,((c:Int):Rat)*(ns.getD i 0:Rat)=a.getD i 0*B) (h:Vq D ns q) {g:List Rat} (hg:∀k,g.getD k 0*(l:Rat)=((D.getD k 0:Int):Rat)):X8 (kb+q) (q+(n+n)) g a:=by
 obtain⟨κ,S,Sl,bS,e⟩:=h
 obtain⟨T,hT,zT,lT⟩:=qf _ S rfl
 have eT:∀k,κ*co ns k=az (co T) (co D) k:=fun k=>by
  rw[e k]
  exact aY (fun i=>(hT i).symm) (fun _=>rfl) k
 have ZU:T≠[]:=fun z=>by
  have:=eT (ns.length -1)
  rw[z,CD (n:=0) (m:=D.length) (fun i _=>rfl) (fun i hi=>outI hi) (k:=ns.length -1+D.length) (by lia)|>fun q=>(rfl:az (co ([]:List Int)) (co D) (ns.length -1)=_)]at this
  have z0:az (co ([]:List Int)) (co D) (ns.length -1)=0:=by
   rw[show co ([]:List Int)=fun _=>0 from funext fun i=>rfl]
   exact gk _ _
  rw[z0]at this
  rcases Int.mul_eq_zero.mp this with q|q
  ·exact Sl q
  ·exact hns q
 have Yc:=zT.resolve_left ZU
 have pT:0<T.length:=List.length_pos_iff.mpr ZU
 have pD:0<D.length:=by
  rcases Nat.eq_zero_or_pos D.length with z|z
  ·rw[List.length_eq_zero_iff.mp z]at Yb
   exact absurd Yb.symm hl
  ·exact z
 have e1:=eT (T.length+D.length -2)
 rw[←jD,vm T D pT pD,Yb]at e1
 generalize hn':co ns (T.length+D.length -2)=n' at e1
 generalize hlT:T.getD (T.length -1) 0=t at*
 have n0:n'≠0:=fun z=>by
  rw[z,Int.mul_zero]at e1
  rcases Int.mul_eq_zero.mp e1.symm with q|q
  ·exact Yc q
  ·exact hl q
 have bn':n'.natAbs<2^n:=by rw[←hn'];exact eu Lz _
 have bt:t.natAbs<2^q:=by rw[←hlT,hT];exact eu bS _
 have q0:((c:Int):Rat)≠0:=cz (by lia)
 have qB:=cz hB
 have ql:=cz hl
 have qt:=cz Yc
 have qn:=cz n0
 have e1q:(κ:Rat)*(n':Rat)=(t:Rat)*(l:Rat):=by
  rw[←Rat.intCast_mul,←Rat.intCast_mul,e1]
 refine⟨(List.range T.length).map fun i=>((co T i:Int):Rat)*((c:Int)*n'/(B*t)),B*t,fun k=>?_,Int.mul_ne_zero hB Yc,?_,fun x hx=>?_⟩
 ·have q2:((c:Int):Rat)*n'≠0:=fun z=>by
   rcases Rat.mul_eq_zero.mp z with h|h
   ·exact q0 h
   ·exact qn h
  have q3:(B:Rat)*t≠0:=fun z=>by
   rcases Rat.mul_eq_zero.mp z with h|h
   ·exact qB h
   ·exact qt h
  have A0:(B*t:Rat)/((c:Int)*n')*l≠0:=by
   intro z
   rcases Rat.mul_eq_zero.mp z with h|h
   ·have:=congrArg (·*(((c:Int):Rat)*n')) h
    simp only[Rat.div_mul_cancel q2]at this
    exact q3 (by rw[this];grind)
   ·exact ql h
  have e2:=Cj (f:=gP ((List.range T.length).map fun i=>((co T i:Int):Rat)*((c:Int)*n'/(B*t)))) (g:=gP g) (F:=co T) (G:=co D) (A:=(B*t:Rat)/((c:Int)*n')) (C:=(l:Rat)) (fun i=>by
   rw[Vr (co T) _ T.length (fun j hj=>outI hj)]
   grind) hg k
  refine lK A0 ?_
  rw[e2,←eT k,Rat.intCast_mul]
  have h3:=ha k
  show a.getD k 0*_=(κ:Rat)*((ns.getD k 0:Int):Rat)
  generalize a.getD k 0=y at*
  generalize((ns.getD k 0:Int):Rat)=u at*
  have h4:(κ:Rat)=t*l/n':=by
   rw[←e1q]
   grind
  have h5:y*((B*t:Rat)/((c:Int)*n')*l)=(y*B)*t*l/(((c:Int):Rat)*n'):=by grind
  rw[h5,←h3,h4]
  grind
 ·rw[Int.natAbs_mul]
  exact lt_mul bB bt
 ·obtain⟨i,hi,rfl⟩:=List.mem_map.mp hx
  refine⟨co T i*((c:Int)*n'),?_,?_⟩
  ·rw[Rat.intCast_mul,Rat.intCast_mul,Rat.intCast_mul]
   have q3:(B:Rat)*t≠0:=fun z=>by
    rcases Rat.mul_eq_zero.mp z with h|h
    ·exact qB h
    ·exact qt h
   rw[Rat.mul_assoc,Rat.div_mul_cancel q3]
  ·rw[Int.natAbs_mul,Int.natAbs_mul,Int.natAbs_natCast]
   have b1:(co T i).natAbs<2^q:=by
    show(T.getD i 0).natAbs<_
    rw[hT]
    exact eu bS _
   exact lt_mul b1 (lt_mul bc bn')
theorem EG{n kb q:Nat}{a b:List Rat}{ns ms D F W:List Int}{ca cb:Nat}{Ba Bb:Int}(hca:0<ca)(hcb:0<cb)(Yd:Ba≠0)(Ye:Bb≠0)(ha:∀i,((ca:Int):Rat)*(ns.getD i 0:Rat)=a.getD i 0*Ba)(hb:∀i,((cb:Int):Rat)*(ms.getD i 0:Rat)=b.getD i 0*Bb)
 (uV:ns.getD (ns.length -1) 0≠0) (Sm:ms.getD (ms.length -1) 0≠0) (Rl:ca<2^n) (Rm:cb<2^n) (bBa:Ba.natAbs<2^kb) (P8:Bb.natAbs<2^kb) (Lz:∀x∈ns,x.natAbs<2^n) (Sn:∀x∈ms,x.natAbs<2^n) (d1:Vq D ns q) (d2:Vq D ms q) (hl:D.getD (D.length -1) 0≠0) (hD:∀k,co D k=az (co F) (co ns) k+az (co W) (co ms) k):
 EF (kb+q) (q+(n+n)) a b (aj (D.map fun x=>Rat.divInt x (D.getD (D.length -1) 0))) (aj ((F.map fun x=>Ba*x).map fun x=>Rat.divInt x (D.getD (D.length -1) 0*(ca:Int)))) (aj ((W.map fun x=>Bb*x).map fun x=>Rat.divInt x (D.getD (D.length -1) 0*(cb:Int)))):=by
 generalize Rn:D.getD (D.length -1) 0=l at*
 have hg:=AZ hl D
 have ql:=cz hl
 have qa:((ca:Int):Rat)≠0:=cz (by lia)
 have qb:((cb:Int):Rat)≠0:=cz (by lia)
 have qBa:=cz Yd
 have qBb:=cz Ye
 have half:∀{r:List Rat} {ks X:List Int} {c:Nat} {B:Int},0<c->B≠0->(∀i,((c:Int):Rat)*(ks.getD i 0:Rat)=r.getD i 0*B)->∀k,lS (gP (aj ((X.map fun x=>B*x).map fun x=>Rat.divInt x (l*(c:Int))))) (gP r) k*(l:Rat)=((az (co X) (co ks) k:Int):Rat):=fun{r ks X c B} hc hB hr k=>by
  have qc:((c:Int):Rat)≠0:=cz (by lia)
  have qB:=cz hB
  have e:=Cj (f:=gP (aj ((X.map fun x=>B*x).map fun x=>Rat.divInt x (l*(c:Int))))) (g:=gP r) (F:=co X) (G:=co ks) (A:=(l:Rat)*(c:Int)/B) (C:=(B:Rat)/(c:Int)) (fun i=>by
   have h1:=AZ (B:=l*(c:Int)) (Int.mul_ne_zero hl (by omega)) (X.map fun x=>B*x) i
   rw[Sub.map_getD (f:=fun x=>B*x) (Int.mul_zero B)]at h1
   show(aj ((X.map fun x=>B*x).map fun x=>Rat.divInt x (l*(c:Int)))).getD i 0*_=((X.getD i 0:Int):Rat)
   generalize(aj ((X.map fun x=>B*x).map fun x=>Rat.divInt x (l*(c:Int)))).getD i 0=y at*
   rw[Rat.intCast_mul,Rat.intCast_mul]at h1
   have e1:y*((l:Rat)*(c:Int)/B)=y*((l:Rat)*(c:Int))/B:=by grind
   rw[e1,h1]
   grind) (fun i=>by
   have:=hr i
   show r.getD i 0*_=((ks.getD i 0:Int):Rat)
   have e1:r.getD i 0*((B:Rat)/(c:Int))=r.getD i 0*B/(c:Int):=by grind
   rw[e1,←this]
   grind) k
  have e2:(l:Rat)*(c:Int)/B*((B:Rat)/(c:Int))=l:=by grind
  rw[e2]at e
  exact e
 have Ih:aj (D.map fun x=>Rat.divInt x l)≠[]:=fun z=>by
  have:=hg (D.length -1)
  rw[z,Rn]at this
  have e:([]:List Rat).getD (D.length -1) 0=0:=rfl
  rw[e]at this
  exact ql (by rw[←this];grind)
 refine⟨aS _,aS _,aS _,fun k=>?_,Ig hca Yd hl Rn uV Rl bBa Lz ha d1 hg,Ig hcb Ye hl Rn Sm Rm P8 Sn hb d2 hg,Ih,?_⟩
 ·refine lK ql ?_
  rw[hg k]
  have h1:=half (X:=F) hca Yd ha k
  have h2:=half (X:=W) hcb Ye hb k
  have h3:=hD k
  have e:((D.getD k 0:Int):Rat)=((az (co F) (co ns) k:Int):Rat)+((az (co W) (co ms) k:Int):Rat):=by
   rw[←Rat.intCast_add]
   exact congrArg _ h3
  rw[e,←h1,←h2]
  grind
 ·obtain⟨j,hj,e,_⟩:=iD (D.map fun x=>Rat.divInt x l)
  have lg:(aj (D.map fun x=>Rat.divInt x l)).length<=D.length:=by
   rw[e,List.length_take,List.length_map]
   omega
  have h1:=hg (D.length -1)
  rw[Rn]at h1
  have l0:0<D.length:=by
   rcases Nat.eq_zero_or_pos D.length with z|z
   ·rw[List.length_eq_zero_iff.mp z]at Rn
    exact absurd Rn.symm hl
   ·exact z
  have eq:(aj (D.map fun x=>Rat.divInt x l)).length=D.length:=by
   rcases Nat.lt_or_ge (aj (D.map fun x=>Rat.divInt x l)).length D.length with z|z
   ·rw[kj (by lia)]at h1
    exact absurd (by rw[←h1];grind) ql
   ·lia
  rw[eq]
  refine lK ql ?_
  rw[h1]
  grind
theorem Ii{X:List Int}{B:Int}{n:Nat}(hB:B≠0)(h:∀y∈X,y.natAbs<2^n):(∀x∈aj (X.map fun y=>Rat.divInt y B),Cd B n x)/\(aj (X.map fun y=>Rat.divInt y B)).length<=X.length:=by
 refine⟨fun x hx=>?_,?_⟩
 ·obtain⟨k,hk,rfl⟩:=List.getElem_of_mem hx
  refine⟨X.getD k 0,?_,eu h k⟩
  have:=AZ hB X k
  rw[List.getD_eq_getElem?_getD,List.getElem?_eq_getElem hk]at this
  exact this
 ·obtain⟨j,hj,e,_⟩:=iD (X.map fun y=>Rat.divInt y B)
  rw[e,List.length_take,List.length_map]
  lia
theorem M6{X:List Int}{B:Int}{n k:Nat}(hB:B.natAbs<2^k)(h:∀y∈X,y.natAbs<2^n):∀y∈X.map (fun x=>B*x),y.natAbs<2^(n+k):=fun y hy=>by
 obtain⟨z,hz,rfl⟩:=List.mem_map.mp hy
 rw[Int.natAbs_mul,Nat.mul_comm]
 exact lt_mul (h z hz) hB
noncomputable def GB(q n k:Nat)(g u v:List Rat):Prop:=∃l ca cb:Int,l≠0/\ca≠0/\cb≠0/\l.natAbs<2^q/\ca.natAbs<2^n/\cb.natAbs<2^n/\(∀x∈g,Cd l q x)/\(∀x∈u,Cd (l*ca) (q+k) x)/\(∀x∈v,Cd (l*cb) (q+k) x)/\g.length<=10/\u.length<=10/\v.length<=10
theorem vP(X:Nat->Rat)(k:Nat):lS (gP []) X k=0:=by
 rw[vI (f:=gP []) (fun i _=>rfl)]
 show(0:Rat)*_=0
 grind
theorem Vs{D:Int}{n m:Nat}{x:Rat}(h:Cd D n x)(hn:n<=m):Cd D m x:=by
 obtain⟨z,e,b⟩:=h
 exact⟨z,e,cM b hn⟩
theorem Ij{p1 p2:Nat}{as':List Rat}{y:Rat}{D:Int}{kk n:Nat}(hk1:kk<=p1)(hn2:n<=p2)(hp:0<p1)(hD:0<D)(hk:D.natAbs<2^kk)(hcd:Cd D n y)(hy:y≠0):EF p1 p2 (as'++[y]) [] ((as'++[y]).map fun x=>x*y⁻¹) [1*y⁻¹] []:=by
 have yy:y*y⁻¹=1:=Rat.mul_inv_cancel y hy
 have ZV:∀k,((as'++[y]).map fun x=>x*y⁻¹).getD k 0=(as'++[y]).getD k 0*y⁻¹:=fun k=>by
  rw[List.getD_eq_getElem?_getD,List.getElem?_map,List.getD_eq_getElem?_getD]
  cases(as'++[y])[k]? with
  |none=>show(0:Rat)=0*y⁻¹;grind
  |some z=>rfl
 have yi:y⁻¹≠0:=fun z=>by rw[z]at yy;grind
 have last:((as'++[y]).map fun x=>x*y⁻¹)=(as'.map fun x=>x*y⁻¹)++[1]:=by
  rw[List.map_append]
  show _++[y*y⁻¹]=_
  rw[yy]
 refine⟨fun x hx=>?_,fun x hx=>?_,(fun x hx=>by cases hx),fun k=>?_,⟨[y],D,fun k=>?_,by lia,cM hk hk1,fun x hx=>by rw[List.mem_singleton]at hx;rw[hx];exact Vs hcd hn2⟩,⟨[],1,fun k=>?_,by decide,Nat.one_lt_two_pow (by lia),by simp⟩,by rw[last];simp,?_⟩
 ·rw[last,List.getLast?_concat]at hx
  cases hx
  decide
 ·cases hx
  intro z
  exact yi (by rw[←z];grind)
 ·rw[ZV,vP,vI (f:=gP [1*y⁻¹]) (fun i hi=>kj (by simpa using hi))]
  show _=1*y⁻¹*(as'++[y]).getD k 0+0
  grind
 ·rw[vI (f:=gP [y]) (fun i hi=>kj (by simpa using hi))]
  show _=y*((as'++[y]).map fun x=>x*y⁻¹).getD k 0
  rw[ZV]
  grind
 ·rw[vP]
  rfl
 ·rw[last,List.length_append]
  show(List.map (fun x=>x*y⁻¹) as'++[1]).getD ((List.map (fun x=>x*y⁻¹) as').length+1 -1) 0=1
  rw[Nat.add_sub_cancel,List.getD_eq_getElem?_getD,List.getElem?_append_right (Nat.le_refl _),Nat.sub_self]
  rfl
theorem LA{q n:Nat}(hq:n<=q)(hn:0<n){as':List Rat}{y:Rat}{D:Int}{k:Nat}(hy:y≠0)(hD:0<D)(hk:D.natAbs<2^k)(h:∀x∈as'++[y],Cd D n x)(l8:(as'++[y]).length<=8):GB q n k ((as'++[y]).map fun x=>x*y⁻¹) [1*y⁻¹] []:=by
 obtain⟨z,hz,bz⟩:=h y (List.mem_append_right _ (List.mem_singleton.mpr rfl))
 have qD:=cz (B:=D) (by lia)
 have yy:y*y⁻¹=1:=Rat.mul_inv_cancel y hy
 have z0:z≠0:=fun e=>by
  rw[e]at hz
  have h0:y*(D:Rat)=0:=hz
  rcases Rat.mul_eq_zero.mp h0 with e|e
  ·exact hy e
  ·exact qD e
 refine⟨z,1,1,z0,by decide,by decide,cM bz hq,Nat.one_lt_two_pow (by lia),Nat.one_lt_two_pow (by lia),fun x hx=>?_,fun x hx=>?_,by simp,by rw[List.length_map];lia,by simp,by simp⟩
 ·obtain⟨v,hv,rfl⟩:=List.mem_map.mp hx
  obtain⟨t,ht,bt⟩:=h v hv
  refine⟨t,?_,cM bt hq⟩
  rw[←hz,←ht]
  grind
 ·rw[List.mem_singleton]at hx
  subst hx
  refine⟨D,?_,cM hk (by lia)⟩
  rw[Int.mul_one,←hz]
  grind
noncomputable def Vt(x:Addr)(H H':Hp):Prop:=∀b o,b≠x->H b=some o->H' b=some o
noncomputable def Ik(C:Addr):Sp:=fun vs H Q _=>∃(x dx:Addr) (v1 v2 v3:V),vs=[.ref x,v1,v2,v3]/\H x=some (.ins C dx [])/\∀(p4:Addr) (H':Hp),Vt x H H'->H p4=none->H' p4=some (.lst [])->H' x=some (.ins C dx (Vl.zip [v1,v2,v3,.ref p4,.int 1,.int 1,.int 1,.int 1,.int 1]))->Q .aU H'
noncomputable def vQ(C:Addr):b6:=fun ws Q _=>∃A B f:List Int,ws=[wI A,wI B,wI f]/\Q (qW C A B f [] 1 1 1 1 1)
theorem mT{K:PySem.W.Frag}{A:Addr->Prop}{H:Hp}(i:Int):Rep K A H (.int i) (.int i):=by rw[Rep]
theorem M7{K:PySem.W.Frag}{B:Addr->Prop}{H:Hp}:∀{n:Nat} {ws:List W} {vs:List V},ai K B H ws vs->ws.length=n->cX K B H (List.replicate n .s) ws vs []
 |0,[],vs,r,_=>by
  cases r
  show cX K B H [] _ _ _
  rw[cX]
  exact⟨rfl,rfl,rfl⟩
 |n+1,w::ws,vs,r,e=>by
  obtain⟨v,vs',rfl,h1,h2⟩:=r.cons_inv
  show cX K B H (.s::List.replicate n .s) _ _ _
  rw[cX]
  refine⟨w,ws,v,vs',[],[],rfl,rfl,rfl,?_,M7 h2 (by simpa using e)⟩
  rw[Fp]
  exact⟨rfl,h1⟩
 |0,_::_,_,_,e=>by cases e
 |n+1,[],_,_,e=>by cases e
theorem A3{P:Program}{w:World}{K:PySem.W.Frag}{mg:Str->Option Value}{base:Heap}{k:Nat}{C f:Addr}{fd:FuncData}{ps:List Str}(hc:Ah K C Vl)(M:Mk K C f)(b:Binds K fd ps [])(F:aL P w K mg base (cV P w) k f fd ps (Ik C)):
 gi P w K mg base (k+1) (.ref C) 3 (eY K 3 (.o Vl [.s,.s,.s,.s,.s,.s,.s,.s,.s]) (vQ C)):=by
 refine .mk M b F fun vs H Q E ⟨A,ws,P,R,l,r,d,⟨a,b',f',e,hP⟩,c,er⟩ x dx nx ndx ne=>?_
 subst e
 obtain⟨v1,_,rfl,r1,r⟩:=r.cons_inv
 obtain⟨v2,_,rfl,r2,r⟩:=r.cons_inv
 obtain⟨v3,_,rfl,r3,r⟩:=r.cons_inv
 cases r
 refine⟨x,dx,v1,v2,v3,rfl,aD,fun p4 H' kp f4 e4 ex=>⟨rfl,?_⟩⟩
 have ZW:p4≠x:=fun e=>by rw[e,aD]at f4;cases f4
 have nd4:p4≠dx:=fun e=>by rw[e,ao ne,aD]at f4;cases f4
 have h4:H p4=none:=by rw[ao ZW,ao nd4]at f4;exact f4
 have sm:ay H H':=fun b o hb=>by
  have n1:b≠x:=fun e=>by rw[e,nx]at hb;cases hb
  have n2:b≠dx:=fun e=>by rw[e,ndx]at hb;cases hb
  exact kp b o n1 (by rw[ao n1,ao n2];exact hb)
 have ba:∀p o,H p=some o->(A p\/p∈[x])->A p:=fun p o e z=>by
  rcases z with z|z
  ·exact z
  ·rw[List.mem_singleton.mp z,nx]at e
   cases e
 refine c _ (.ref x) H' hP sm ⟨[x],by simp,fun p hp=>by rw[List.mem_singleton.mp hp];exact nx,?_⟩
 unfold qW
 rw[Fp]
 refine⟨C,dx,_,x,[v1,v2,v3,.ref p4,.int 1,.int 1,.int 1,.int 1,.int 1],[],rfl,rfl,rfl,ex,rfl,hc,?_⟩
 refine M7 (n:=9) ?_ rfl
 refine .cons (Rep.mv sm ba _ r1) (.cons (Rep.mv sm ba _ r2) (.cons (Rep.mv sm ba _ r3) (.cons ?_ (.cons (mT 1) (.cons (mT 1) (.cons (mT 1) (.cons (mT 1) (.cons (mT 1) .nil))))))))
 show Rep _ _ _ (.lst []) _
 rw[Rep]
 refine⟨p4,[],rfl,fun z=>?_,.inl e4,.nil⟩
 rcases z with z|z
 ·obtain⟨o,e⟩:=d p4 z
  rw[h4]at e
  cases e
 ·exact ZW (List.mem_singleton.mp z)
structure GP(as bs:List Rat)(n k E q:Nat):Prop where
 la:as.length<=8
 lb:bs.length<=8
 za:bJ as
 zb:bJ bs
 da:∃D:Int,0<D/\D.natAbs<2^k/\∀x∈as,Cd D n x
 db:∃D:Int,0<D/\D.natAbs<2^k/\∀x∈bs,Cd D n x
 hE:∀p,(as.length -1+(bs.length -1) -2*p)*p+(as.length -1+(bs.length -1)+1)<=E
 hq:(n+4)*(as.length -1+(bs.length -1)+1)+1<=q
 q5:q<=5000
 e7:(n+4)*E<=7900
 qn:q+n<=6000
 k3:k<=3000
 n0:0<n
theorem GP.swap{as bs:List Rat}{n k E q:Nat}(h:GP as bs n k E q):GP bs as n k E q:=
 ⟨h.lb,h.la,h.zb,h.za,h.db,h.da,by rw[Nat.add_comm (bs.length -1)];exact h.hE,by rw[Nat.add_comm (bs.length -1)];exact h.hq,h.q5,h.e7,h.qn,h.k3,h.n0⟩
noncomputable def um(p1 p2:Nat)(a b g u v:List Rat):Prop:=(a=[]/\b=[]/\g=[]/\u=[]/\v=[])\/EF p1 p2 a b g u v
theorem EF.swap{p1 p2:Nat}{a b g u v:List Rat}(h:EF p1 p2 a b g u v):EF p1 p2 b a g v u:=
 ⟨h.ng,h.nv,h.nu,fun k=>by rw[h.ZT k];grind,h.db,h.da,h.ne,h.one⟩
theorem um.swap{p1 p2:Nat}{a b g u v:List Rat}(h:um p1 p2 a b g u v):um p1 p2 b a g v u:=by
 rcases h with⟨h1,h2,h3,h4,h5⟩|h
 ·exact .inl ⟨h2,h1,h3,h5,h4⟩
 ·exact .inr h.swap
theorem GB.swap{q n k:Nat}{g u v:List Rat}(h:GB q n k g u v):GB q n k g v u:=by
 obtain⟨l,ca,cb,h1,h2,h3,h4,h5,h6,h7,h8,h9,OE,h11,h12⟩:=h
 exact⟨l,cb,ca,h1,h3,h2,h4,h6,h5,h7,h9,h8,OE,h12,h11⟩
theorem Ro{q n k:Nat}(hq:0<q)(hn:0<n):GB q n k [] [] []:=⟨1,1,1,by decide,by decide,by decide,Nat.one_lt_two_pow (by lia),Nat.one_lt_two_pow (by lia),Nat.one_lt_two_pow (by lia),by simp,by simp,by simp,by simp,by simp,by simp⟩
noncomputable def fD:b6:=fun ws Q _=>∃(as bs:List Rat) (n k E q:Nat),ws=[aA as,aA bs]/\GP as bs n k E q/\∀g u v,um (k+q) (q+(n+n)) as bs g u v->GB q n k g u v->Q (.tup [aA g,aA u,aA v])
noncomputable def gX:b6:=fun ws Q R=>fD ws Q R/\∀as bs,ws=[aA as,aA bs]->bs.length<=as.length
theorem Il{D:Int}{n k:Nat}{x:Rat}(h:Cd D n x)(hD:0<D)(hk:D.natAbs<2^k):Jo n k x:=by
 have⟨d1,d2⟩:=h.dvd
 have dp:0<(x.den:Int):=by have:=x.den_pos;lia
 have le:=Int.le_of_dvd hD d1
 refine⟨Nat.lt_of_le_of_lt ?_ d2,by lia⟩
 rw[Int.natAbs_mul]
 have:0<D/x.den:=Int.ediv_pos_of_pos_of_dvd hD (Int.le_of_lt dp) d1
 exact Nat.le_mul_of_pos_right _ (by lia)
theorem uo{rs:List Rat}{ms:List Int}{B c:Int}(h:Prim rs ms B c)(hne:rs≠[])(hz:bJ rs):ms.getD (ms.length -1) 0≠0:=fun z=>by
 have e:=h.at_ (ms.length -1)
 have l0:=List.length_pos_iff.mpr hne
 rw[z,h.len]at e
 have y0:=hz _ (pW l0 rfl)
 have b0:=cz (B:=B) (by have:=h.bpos;lia)
 have:rs.getD (rs.length -1) 0*(B:Rat)=0:=by
  rw[←e]
  show((0:Int):Rat)*_=0
  grind
 rcases Rat.mul_eq_zero.mp this with x|x
 ·exact y0 x
 ·exact b0 x
noncomputable def gI:List CS:=[.iff (.cmp .Lt (.blt .len [(.var 0)]) (.blt .len [(.var 1)])) [.xj,.xj] [],.iff (.cmp .Eq (.var 0) (.lst [])) [.ret (.tup [(.lst []),(.lst []),(.lst [])])] [],.iff (.cmp .Eq (.var 1) (.lst [])) [.ret (.tup [(.comp [0] true 1 (.var 0) (.bl true) (.call 1 [(.var 0),(.ix (.var 1) (.neg (.int 1)))])),(.lst [(.call 1 [(.tup [(.int 1),(.int 1)]),(.ix (.var 0) (.neg (.int 1)))])]),(.lst [])])] [],.DV [5,6,7] (.call 2 [(.var 0)]),.DV [8,9,10] (.call 2 [(.var 1)]),.set 11 (.call 3 [(.var 5),(.var 8),(.lst [(.int 1)])]),.T8 (.JZ 11 0 4 []),.par [2,4] [(.own 11 [.fl 1 "last"]),(.own 11 [.fl 3 "factor_last"])],.set 12 (.call 5 [(.var 2),(.call 6 [(.var 4),(.var 5)])]),.set 3 (.call 7 [(.var 12),(.var 8)]),.set 13 (.ix (.var 2) (.neg (.int 1))),.ret (.tup [(.call 8 [(.var 2),(.var 13)]),(.call 8 [(.call 9 [(.var 4),(.var 6)]),(.bin .Mult (.var 13) (.var 7))]),(.call 8 [(.call 9 [(.var 3),(.var 9)]),(.bin .Mult (.var 13) (.var 10))])])]
theorem Im{S0:b6}{C C0:Addr}{m:Md}(ws:List W)(Q:W->Prop)(R:Addr->Prop)(h:gX ws Q R):wSs (aO [S0,yp C0,gH,vQ C,yu C,b9,cj,fU,iM,dU]) (bI [.cls C]) gI (b8 m Q R) (aq 14 ws):=by
 obtain⟨⟨as,bs,n,k,E,q,rfl,gp,hQ⟩,hl⟩:=h
 have hl:=hl as bs rfl
 obtain⟨la,lb,za,zb,⟨DA,Vu,Vv,ca⟩,⟨DB,db0,dbk,cb⟩,hE,hq,q5,e7,qn,k3,n0⟩:=gp
 show wSs _ _ gI _ [some (aA as),some (aA bs),none,none,none,none,none,none,none,none,none,none,none,none]
 unfold gI
 have qn1:n+4<=q:=by
  have:(n+4)*1<=(n+4)*(as.length -1+(bs.length -1)+1):=Nat.mul_le_mul_left _ (by lia)
  lia
 refine e9 (fun ε'=>ε'=[some (aA as),some (aA bs),none,none,none,none,none,none,none,none,none,none,none,none]) (fun N hN=>?_) ?_
 ·unfold aA at hN⊢
  walk_at "vs"
  rw[List.length_map,List.length_map,if_neg (by rw[decide_eq_true_eq];lia)]
  exact hN _ rfl
 rintro _ rfl
 refine e9 (fun ε'=>as≠[]/\ε'=[some (aA as),some (aA bs),none,none,none,none,none,none,none,none,none,none,none,none]) (fun N hN=>?_) ?_
 ·walk_at "vs"
  refine⟨af (by simp),lE (y:=[]) fun b hb=>?_⟩
  walk_at "vs"
  by_cases Jp:as=[]
  ·cases bX hb Jp
   walk_at "vs"
   have bne:bs=[]:=List.length_eq_zero_iff.mp (by rw[Jp]at hl;simpa using hl)
   exact⟨af (by simp),af (by simp),af (by simp),af (by simp),hQ [] [] [] (.inl ⟨Jp,bne,rfl,rfl,rfl⟩) (Ro (by lia) n0)⟩
  ·cases dS hb Jp
   walk_at "vs"
   exact hN _ ⟨Jp,rfl⟩
 rintro _ ⟨Jp,rfl⟩
 obtain⟨as',y,rfl⟩:∃as' y,as=as'++[y]:=⟨as.dropLast,as.getLast Jp,(List.dropLast_concat_getLast Jp).symm⟩
 have hm:y∈as'++[y]:=List.mem_append_right _ (List.mem_singleton.mpr rfl)
 have yz:y≠0:=za y List.getLast?_concat
 refine e9 (fun ε'=>bs≠[]/\ε'=[some (aA (as'++[y])),some (aA bs),none,none,none,none,none,none,none,none,none,none,none,none]) (fun N hN=>?_) ?_
 ·walk_at "vs"
  refine⟨af (by simp),lE (y:=[]) fun b hb=>?_⟩
  walk_at "vs"
  by_cases bne:bs=[]
  ·cases bX hb bne
   have Vw:=Il (ca y hm) Vu Vv
   have ZX:Jo (n+k) (n+k) y:=Vw.up (by lia) (by lia)
   have eL:lO ((as'++[y]).map wq) (-1)=some (wq y):=fM List.getLast?_concat
   have fin:=hQ ((as'++[y]).map fun x=>x*y⁻¹) [1*y⁻¹] [] (.inr (by rw[bne];exact Ij (kk:=k) (n:=n) (by lia) (by lia) (by lia) Vu Vv (ca y hm) yz)) (LA (by lia) n0 yz Vu Vv ca la)
   unfold aA at fin⊢
   walk_at "vs"
   refine cY (h:=wq) (g:=fun x=>wq (x*y⁻¹)) (as'++[y]) [] _ (fun x hx K hK=>?_) (af (by rw[List.length_nil];lia)) ?_
   ·exact⟨_,eL,x,y,n,n+k,k,rfl,⟨Il (ca x hx) Vu Vv,ZX,by lia,by lia,by lia⟩,fun z=>absurd z yz,fun _=>hK⟩
   ·refine⟨af (by simp),_,eL,1,y,1,n+k,1,rfl,⟨⟨by decide,by decide⟩,ZX,by lia,by lia,by lia⟩,fun z=>absurd z yz,fun _=>?_⟩
    refine⟨af (by simp),af (by simp),af (by simp),?_⟩
    rw[List.map_map]at fin
    exact fin
  ·cases dS hb bne
   walk_at "vs"
   exact hN _ ⟨bne,rfl⟩
 rintro _ ⟨bne,rfl⟩
 have b0:=List.length_pos_iff.mpr bne
 generalize as'++[y]=as at*
 have a0:=List.length_pos_iff.mpr Jp
 refine e9 (fun ε'=>∃ns Ba,∃c:Nat,(Prim as ns Ba c/\Ba.natAbs<2^k/\c<2^n/\∀x∈ns,x.natAbs<2^n)/\ε'=[some (aA as),some (aA bs),none,none,none,some (wI ns),some (.int Ba),some (.int c),none,none,none,none,none,none]) (fun N hN=>?_) ?_
 ·walk_at "vs"
  refine⟨as,DA,n,k,rfl,⟨⟨y,hm,yz⟩,ca,Vu,Vv,by lia,by lia,by lia⟩,fun ns Ba c pr bB bc bn=>?_⟩
  obtain⟨c',rfl⟩:∃c':Nat,c=c':=⟨c.toNat,by have:=pr.cpos;lia⟩
  exact⟨rfl,hN _ ⟨ns,Ba,c',⟨pr,bB,by lia,bn⟩,rfl⟩⟩
 rintro _ ⟨ns,Ba,M8,⟨pa,Yg,ZY,Lz⟩,rfl⟩
 refine e9 (fun ε'=>∃ms Bb,∃c:Nat,(Prim bs ms Bb c/\Bb.natAbs<2^k/\c<2^n/\∀x∈ms,x.natAbs<2^n)/\ε'=[some (aA as),some (aA bs),none,none,none,some (wI ns),some (.int Ba),some (.int M8),some (wI ms),some (.int Bb),some (.int c),none,none,none]) (fun N hN=>?_) ?_
 ·walk_at "vs"
  refine⟨bs,DB,n,k,rfl,⟨⟨_,List.getLast_mem bne,zb _ (List.getLast?_eq_some_getLast bne)⟩,cb,db0,dbk,by lia,by lia,by lia⟩,fun ns Ba c pr bB bc bn=>?_⟩
  obtain⟨c',rfl⟩:∃c':Nat,c=c':=⟨c.toNat,by have:=pr.cpos;lia⟩
  exact⟨rfl,hN _ ⟨ns,Ba,c',⟨pr,bB,by lia,bn⟩,rfl⟩⟩
 rintro _ ⟨ms,Bb,Rp,⟨pb,Yh,ZZ,Sn⟩,rfl⟩
 have uV:=uo pa Jp za
 have Sm:=uo pb bne zb
 have Yi:=pa.len
 have E4:=pb.len
 have Ba0:Ba≠0:=by have:=pa.bpos;lia
 have Bb0:Bb≠0:=by have:=pb.bpos;lia
 have Yj:0<M8:=by have:=pa.cpos;lia
 have Yk:0<Rp:=by have:=pb.cpos;lia
 have ra:∀i,((M8:Int):Rat)*(ns.getD i 0:Rat)=as.getD i 0*Ba:=fun i=>by rw[←pa.at_ i];grind
 have rb:∀i,((Rp:Int):Rat)*(ms.getD i 0:Rat)=bs.getD i 0*Bb:=fun i=>by rw[←pb.at_ i];grind
 have X1:Sub.FX ns ms [1] [] (n+4) E:=M5 (by lia) (by lia) Lz Sn (.inr rfl) (.inl rfl) (by rw[Yi,E4];exact hE)
 have X2:Sub.FX ns ms [] [1] (n+4) E:=M5 (by lia) (by lia) Lz Sn (.inl rfl) (.inr rfl) (by rw[Yi,E4];exact hE)
 rw[←Yi,←E4]at hq
 have up:∀y:Int,y.natAbs<=2^((n+4)*(ns.length -1+(ms.length -1)+1))->y.natAbs<2^q:=fun y hy=>cM (fz hy) (by lia)
 refine e9 (fun ε'=>ε'=[some (aA as),some (aA bs),none,none,none,some (wI ns),some (.int Ba),some (.int M8),some (wI ms),some (.int Bb),some (.int Rp),some (qW C ns ms [1] [] 1 1 1 1 1),none,none]) (fun N hN=>?_) ?_
 ·walk_at "vs"
  exact⟨af (by simp),ns,ms,[1],rfl,hN _ rfl⟩
 rintro _ rfl
 refine e9 (fun ε'=>∃(A B fA fB:List Int) (ld h sg sc kn:Int),(GI ns ms (n+4) E A B fA fB ld h/\(B.length<2\/∃Qs c,vL A B Qs [] c))/\ε'=[some (aA as),some (aA bs),none,none,none,some (wI ns),some (.int Ba),some (.int M8),some (wI ms),some (.int Bb),some (.int Rp),some (qW C A B fA fB ld h sg sc kn),none,none]) (fun N hN=>?_) ?_
 ·unfold qW
  walk_at "vs"
  refine⟨rfl,ns,ms,[1],[],1,1,1,1,1,GI ns ms (n+4) E,rfl,⟨Ic (by lia) Sm X1 X2,Ly X1 X2 (by lia) (by lia) e7⟩,fun A B fA fB ld h sg sc kn hI fin=>?_⟩
  exact⟨_,_,rfl,hN _ ⟨A,B,fA,fB,ld,h,sg,sc,kn,⟨hI,fin⟩,rfl⟩⟩
 rintro _ ⟨A,B,fA,fB,ld,h,sg,sc,kn,⟨hI,fin⟩,rfl⟩
 obtain⟨d1,d2,zB,lB,lBm,ZS,bB,M4,Z,lZ,lZ2,zZ,bZ,hD⟩:=ED hI uV (by lia) (by lia) fin
 obtain⟨Z0,S1,S2,Sl,_,Z1,Z2,Z3,Z4⟩:=AX X1 X2 hI fin
 have u1:Vq B ns q:=⟨Z0,S1,Sl,fun y hy=>up y (Z1 y hy),Z3⟩
 have u2:Vq B ms q:=⟨Z0,S2,Sl,fun y hy=>up y (Z2 y hy),Z4⟩
 clear Z1 Z2 Z3 Z4 hI fin X1 X2
 unfold qW
 walk_at "vs"
 refine⟨rfl,?_⟩
 walk_at "vs"
 refine⟨fB,ns,rfl,by lia,by lia,fun y hy z hz=>aJ (up y (M4 y hy)) (Lz z hz) (by lia),?_⟩
 have tl:=CL fB ns
 have tb:=Ib (fun y hy=>up y (M4 y hy)) Lz (by lia)
 have tc:=Ia fB ns
 generalize(if fB=[]\/ns=[]then[]else tabI (fB.length+ns.length -1) (cf fB ns fB.length))=L9 at*
 refine⟨B,L9,_,rfl,by lia,by lia,?_,tb,fun L tr=>?_⟩
 ·lia
 have lL:=qP tr
 rw[List.length_map,List.length_range]at lL
 have Z5:∀k,L.getD k 0=cf Z ms Z.length k:=fun k=>by
  rw[vG tr]
  have e:((List.range (max B.length L9.length)).map fun k=>B.getD k 0 -L9.getD k 0).getD k 0=B.getD k 0 -L9.getD k 0:=by
   by_cases hk:k<max B.length L9.length
   ·rw[List.getD_eq_getElem?_getD,List.getElem?_map,List.getElem?_range hk]
    rfl
   ·rw[outI (by rw[List.length_map,List.length_range];lia),outI (ns:=L9) (by lia),outI (ns:=B) (by lia)]
    rfl
  rw[e,tc k,jD,jD]
  have:=hD k
  show co B k -_=_
  lia
 have hll:=Ie Z5 tr.last lZ (by lia) zZ Sm
 refine⟨L,ms,Z,q,rfl,⟨by lia,lZ,by lia,by lia,Z5,Sm,by lia,fun y hy=>cM (Sn y hy) (by lia),fun y hy=>up y (bZ y hy)⟩,?_⟩
 have bl:=up _ (bB _ (Sub.getD_mem' (ns:=B) (k:=B.length -1) (by lia)))
 have eL:=CG lB
 have gr:=EG (kb:=k) Yj Yk Ba0 Bb0 ra rb uV Sm ZY ZZ Yg Yh Lz Sn u1 u2 zB hD
 generalize Rn:B.getD (B.length -1) 0=l at*
 have Rl:(M8:Int).natAbs<2^n:=by rw[Int.natAbs_natCast];exact ZY
 have Rm:(Rp:Int).natAbs<2^n:=by rw[Int.natAbs_natCast];exact ZZ
 have Z6:l*(M8:Int)≠0:=Int.mul_ne_zero zB (by lia)
 have Z7:l*(Rp:Int)≠0:=Int.mul_ne_zero zB (by lia)
 have c1:=Ii zB (fun y hy=>up y (bB y hy))
 have c2:=Ii Z6 (M6 Yg (fun y hy=>up y (M4 y hy)))
 have c3:=Ii Z7 (M6 Yh (fun y hy=>up y (bZ y hy)))
 rw[List.length_map]at c2 c3
 refine⟨_,eL,?_⟩
 walk_at "vs"
 refine⟨B,l,q,rfl,⟨zB,bl,by lia,by lia⟩,?_⟩
 refine⟨fB,Ba,rfl,by lia,fun x hx=>aJ Yg (up x (M4 x hx)) (by lia),aJ bl Rl (by lia),?_⟩
 refine⟨_,_,q+n,rfl,⟨Z6,by rw[Int.natAbs_mul];exact lt_mul bl Rl,by lia,by rw[List.length_map];lia⟩,?_⟩
 refine⟨Z,Bb,rfl,by lia,fun x hx=>aJ Yh (up x (bZ x hx)) (by lia),aJ bl Rm (by lia),?_⟩
 refine⟨_,_,q+n,rfl,⟨Z7,by rw[Int.natAbs_mul];exact lt_mul bl Rm,by lia,by rw[List.length_map];lia⟩,?_⟩
 exact⟨af (by simp),hQ _ _ _ (.inr gr) ⟨l,M8,Rp,zB,by lia,by lia,bl,Rl,Rm,c1.1,c2.1,c3.1,by lia,by lia,by lia⟩⟩
noncomputable def jG:List CS:=[.iff (.cmp .Lt (.blt .len [(.var 0)]) (.blt .len [(.var 1)])) [.T9 [2,3,4] (.call 0 [(.var 1),(.var 0)]),.Ub 2 4 3] [],.xj,.xj,.xj,.xj,.xj,.xj,.xj,.xj,.xj,.xj,.xj]
noncomputable def jZ:b6:=fun ws Q R=>fD ws Q R/\∀as bs,ws=[aA as,aA bs]->as.length<bs.length
theorem qX{as bs as' bs':List Rat}(e:[aA as,aA bs]=[aA as',aA bs']):as=as'/\bs=bs':=by
 rw[List.cons.injEq,List.cons.injEq]at e
 exact⟨pX e.1,pX e.2.1⟩
theorem Io{G:Nat->W}{m:Md}(ws:List W)(Q:W->Prop)(R:Addr->Prop)(h:jZ ws Q R):wSs (aO [gX]) G jG (b8 m Q R) (aq 14 ws):=by
 obtain⟨⟨as,bs,n,k,E,q,rfl,gp,hQ⟩,hl⟩:=h
 have hl:=hl as bs rfl
 show wSs _ _ jG _ [some (aA as),some (aA bs),none,none,none,none,none,none,none,none,none,none,none,none]
 unfold jG
 refine e9 (fun ε'=>False) (fun N hN=>?_) (fun _ z=>z.elim)
 unfold aA
 walk_at "vs"
 rw[List.length_map,List.length_map,if_pos (decide_eq_true (by lia))]
 refine⟨⟨bs,as,n,k,E,q,rfl,gp.swap,fun g u v go gb=>⟨rfl,hQ g v u go.swap gb.swap⟩⟩,fun as' bs' e=>?_⟩
 obtain⟨e1,e2⟩:=qX e
 rw[←e1,←e2]
 lia
theorem qY:∀ws P R,gX ws P R->ws.length=2:=by
 rintro _ _ _ ⟨⟨_,_,_,_,_,_,rfl,_⟩,_⟩
 rfl
theorem A4:∀ws P R,jZ ws P R->ws.length=2:=by
 rintro _ _ _ ⟨⟨_,_,_,_,_,_,rfl,_⟩,_⟩
 rfl
theorem Ip{P:Program}{w:World}{K:PySem.W.Frag}{mg:Str->Option Value}{base:Heap}{k1 k2 k:Nat}{f:Addr}{fd:FuncData}{ps:List Str}(F1:aL P w K mg base (cV P w) k1 f fd ps (eY K 2 (.t [.f,.f,.f]) gX))(F2:aL P w K mg base (cV P w) k2 f fd ps (eY K 2 (.t [.f,.f,.f]) jZ))(h1:k1<=k)(h2:k2<=k):aL P w K mg base (cV P w) k f fd ps (eY K 2 (.t [.f,.f,.f]) fD):=by
 have way:∀vs H Q E,eY K 2 (.t [.f,.f,.f]) fD vs H Q E->eY K 2 (.t [.f,.f,.f]) gX vs H Q E\/eY K 2 (.t [.f,.f,.f]) jZ vs H Q E:=by
  rintro vs H Q E ⟨A,ws,P,R,l,r,d,h,c,e⟩
  obtain⟨as,bs,n,k,E,q,rfl,gp,hQ⟩:=id h
  by_cases hl:bs.length<=as.length
  ·refine .inl ⟨A,_,P,R,l,r,d,⟨h,fun as' bs' e=>?_⟩,c,e⟩
   obtain⟨e1,e2⟩:=qX e
   rw[←e1,←e2]
   exact hl
  ·refine .inr ⟨A,_,P,R,l,r,d,⟨h,fun as' bs' e=>?_⟩,c,e⟩
   obtain⟨e1,e2⟩:=qX e
   rw[←e1,←e2]
   lia
 exact⟨fun vs H Q E h=>(way vs H Q E h).elim (F1.len vs H Q E) (F2.len vs H Q E),fun A outer s H args us vs Q E hr e0 hb r h=>(way vs H Q E h).elim (F1.run A outer s H args us vs Q E (hr.mono h1) e0 hb r) (F2.run A outer s H args us vs Q E (hr.mono h2) e0 hb r)⟩
theorem CN(t g:List Rat)(y:Rat)(k:Nat):∀i,i<=t.length->nS (t++[y]) g i k=nS t g i k
 |0,_=>rfl
 |i+1,h=>by
  rw[nS,nS,CN t g y k i (by lia)]
  have:(t++[y]).getD i 0=t.getD i 0:=by
   rw[List.getD_eq_getElem?_getD,List.getElem?_append_left (by lia),←List.getD_eq_getElem?_getD]
  rw[this]
theorem CO(t g:List Rat)(y:Rat)(k:Nat):lS (gP (t++[y])) (gP g) k=lS (gP t) (gP g) k+y*(if t.length<=k then g.getD (k -t.length) 0 else 0):=by
 have e1:=vt (t++[y]) g k
 have e2:=vt t g k
 have e3:nS (t++[y]) g (t++[y]).length k=nS (t++[y]) g (t.length+1) k:=by rw[List.length_append];rfl
 rw[e3,nS,CN t g y k _ (Nat.le_refl _),e2]at e1
 have:(t++[y]).getD t.length 0=y:=by
  rw[List.getD_eq_getElem?_getD,List.getElem?_append_right (Nat.le_refl _),Nat.sub_self]
  rfl
 rw[this]at e1
 exact e1.symm
theorem Rq(t g:List Rat)(k:Nat)(h:t.length+g.length<=k+1):lS (gP t) (gP g) k=0:=by
 rw[show lS (gP t) (gP g) k=nS t g t.length k from(vt t g k).symm]
 have:∀i,i<=t.length->nS t g i k=0:=fun i=>by
  induction i with
  |zero=>intro _;rfl
  |succ i ih=>
   intro hi
   rw[nS,ih (by lia)]
   have:(if i<=k then g.getD (k -i) 0 else 0)=0:=by
    split
    ·exact kj (by lia)
    ·rfl
   rw[this]
   grind
 exact this _ (Nat.le_refl _)
theorem yv{t g:List Rat}{y:Rat}(hy:y≠0)(hg:g≠[])(h1:g.getD (g.length -1) 0=1):(aj (mulQ (t++[y]) g)).length=t.length+g.length/\(aj (mulQ (t++[y]) g)).getD (t.length+g.length -1) 0=y:=by
 have g0:0<g.length:=List.length_pos_iff.mpr hg
 have e:(aj (mulQ (t++[y]) g)).getD (t.length+g.length -1) 0=y:=by
  rw[dX,ou]
  show lS (gP (t++[y])) (gP g) _=y
  rw[CO,Rq t g _ (by lia),if_pos (by lia),show t.length+g.length -1 -t.length=g.length -1 by lia,h1]
  grind
 refine⟨?_,e⟩
 have l1:=iF (mulQ (t++[y]) g)
 have l2:(mulQ (t++[y]) g).length=t.length+g.length:=by
  unfold mulQ
  rw[fN,List.length_append,List.length_singleton]
  lia
 rcases Nat.lt_or_ge (t.length+g.length -1) (aj (mulQ (t++[y]) g)).length with z|z
 ·lia
 ·rw[kj z]at e
  exact absurd e.symm hy
theorem Vx(g:List Rat)(y:Rat)(n k:Nat):(List.replicate n (0:Rat)++g.map (y*·)).getD k 0=y*(if n<=k then g.getD (k -n) 0 else 0):=by
 rw[List.getD_eq_getElem?_getD]
 by_cases h:n<=k
 ·rw[List.getElem?_append_right (by simpa using h),if_pos h,List.length_replicate,List.getElem?_map,List.getD_eq_getElem?_getD]
  cases g[k -n]? with
  |none=>show(0:Rat)=y*0;grind
  |some z=>rfl
 ·rw[List.getElem?_append_left (by simpa using h),List.getElem?_replicate,if_pos (by lia),if_neg h]
  show(0:Rat)=y*0
  grind
theorem EH{t g:List Rat}{y:Rat}(hg:bJ g):aj (eZ (max (aj (mulQ (t++[y]) g)).length (List.replicate t.length (0:Rat)++g.map (y*·)).length) fun k=>(aj (mulQ (t++[y]) g)).getD k 0+((-1:Int):Rat)*(List.replicate t.length (0:Rat)++g.map (y*·)).getD k 0)=aj (mulQ (aj t) g):=by
 refine AM (aS _) (aS _) fun k=>?_
 rw[dX,dX (mulQ (aj t) g),ou]
 have e0:lS (fun i=>(aj t).getD i 0) (fun i=>g.getD i 0) k=lS (gP t) (gP g) k:=by
  show lS _ _ k=lS _ _ k
  rw[show(fun i=>(aj t).getD i 0)=gP t from funext fun i=>dX t i]
  rfl
 rw[e0]
 have key:(aj (mulQ (t++[y]) g)).getD k 0+((-1:Int):Rat)*(List.replicate t.length (0:Rat)++g.map (y*·)).getD k 0=lS (gP t) (gP g) k:=by
  rw[dX,ou]
  show lS (gP (t++[y])) (gP g) k+_=_
  rw[CO,Vx]
  show _+(-1:Rat)*_=_
  grind
 unfold eZ
 rw[List.getD_eq_getElem?_getD,List.getElem?_map]
 by_cases h:k<max (aj (mulQ (t++[y]) g)).length (List.replicate t.length (0:Rat)++g.map (y*·)).length
 ·rw[List.getElem?_range h]
  exact key
 ·rw[List.getElem?_eq_none (by simpa using h),←key,kj (by omega),kj (by omega)]
  show(0:Rat)=0+(-1:Rat)*0
  grind
noncomputable def qZ:List CS:=[.ret (.blt .sum [(.sl (.var 0) (.var 1) (.bin .Add (.var 1) (.int 1)))])]
noncomputable def yw:b6:=fun ws Q _=>∃(ns:List Int) (k:Int),ws=[.jj ns,.int k]/\∀z:Int,Q (.int z)
theorem LB(ns:List Int)(a b:Option Int):∃ms:List Int,ly (ns.map W.int) a b=ms.map W.int:=by
 unfold ly
 exact⟨_,by rw[←List.map_drop,←List.map_take]⟩
theorem Rr{Φ:Nat->b6}{G:Nat->W}{m:Md}(ws:List W)(Q:W->Prop)(R:Addr->Prop)(h:yw ws Q R):wSs Φ G qZ (b8 m Q R) (aq 2 ws):=by
 obtain⟨ns,k,rfl,hq⟩:=h
 show wSs _ _ qZ _ [some (.jj ns),some (.int k)]
 unfold qZ
 walk_at "vs"
 obtain⟨ms,e⟩:=LB ns (some k) (some (k+1))
 rw[e,UY]
 exact⟨ms,rfl,hq _⟩
noncomputable def mU:List CS:=[.ret (.and [(.blt .zC [(.var 0),(.BD "int")]),(.not (.blt .zC [(.var 0),(.BD "bool")]))])]
noncomputable def rj:b6:=fun ws Q _=>∃i:Int,ws=[.int i]/\Q (.bl true)
theorem LC{Φ:Nat->b6}{G:Nat->W}{m:Md}(ws:List W)(Q:W->Prop)(R:Addr->Prop)(h:rj ws Q R):wSs Φ G mU (b8 m Q R) (aq 1 ws):=by
 obtain⟨i,rfl,hq⟩:=h
 show wSs _ _ mU _ [some (.int i)]
 unfold mU
 walk_at "vs"
 simp only[Ca]
 refine⟨_,rfl,?_⟩
 walk_at "vs"
 exact⟨_,rfl,hq⟩
noncomputable def c9:List CS:=[.iff (.or [(.not (.blt .zC [(.var 0),(.BD "tuple")])),(.cmp .NotEq (.blt .len [(.var 0)]) (.int 2)),(.not (.call 0 [(.ix (.var 0) (.int 0))])),(.not (.call 0 [(.ix (.var 0) (.int 1))]))]) [.ret (.bl false)] [],.ret (.and [(.cmp .Gt (.ix (.var 0) (.int 1)) (.int 0)),(.cmp .Eq (.call 1 [(.ix (.var 0) (.int 0)),(.ix (.var 0) (.int 1))]) (.int 1))])]
noncomputable def eK:b6:=fun ws Q _=>∃r:Rat,ws=[wq r]/\Q (.bl true)
theorem sL{G:Nat->W}{m:Md}(ws:List W)(Q:W->Prop)(R:Addr->Prop)(h:eK ws Q R):wSs (aO [rj,qN]) G c9 (b8 m Q R) (aq 1 ws):=by
 obtain⟨r,rfl,hq⟩:=h
 show wSs _ _ c9 _ [some (wq r)]
 unfold c9 wq
 walk_at "vs"
 simp only[Ca]
 refine⟨_,rfl,?_⟩
 walk_at "vs"
 rw[if_neg (by decide),if_neg (by simp)]
 refine⟨_,rfl,_,rfl,?_⟩
 walk_at "vs"
 refine⟨_,rfl,_,rfl,?_⟩
 walk_at "vs"
 refine⟨_,rfl,?_⟩
 have hd:0<(r.den:Int):=by have:=r.den_pos;omega
 walk_at "vs"
 rw[if_pos (decide_eq_true hd)]
 refine⟨_,rfl,_,rfl,_,_,rfl,?_⟩
 walk_at "vs"
 have hg:Int.gcd r.num (r.den:Int)=1:=r.reduced
 rw[hg]
 exact hq
noncomputable def jH:List CS:=[.iff (.or [(.not (.blt .zC [(.var 0),(.BD "list")])),(.not (.blt .all [(.comp [0] true 1 (.var 0) (.bl true) (.call 0 [(.var 0)]))]))]) [.ret (.bl false)] [],.ret (.or [(.cmp .Eq (.var 0) (.lst [])),(.cmp .NotEq (.ix (.ix (.var 0) (.neg (.int 1))) (.int 0)) (.int 0))])]
noncomputable def mV:b6:=fun ws Q _=>∃rs:List Rat,ws=[aA rs]/\rs.length<=200/\bJ rs/\Q (.bl true)
theorem Iq{G:Nat->W}{m:Md}(ws:List W)(Q:W->Prop)(R:Addr->Prop)(h:mV ws Q R):wSs (aO [eK]) G jH (b8 m Q R) (aq 1 ws):=by
 obtain⟨rs,rfl,hl,hz,hq⟩:=h
 show wSs _ _ jH _ [some (aA rs)]
 unfold jH aA
 walk_at "vs"
 simp only[Ca,MX]
 refine⟨_,rfl,?_⟩
 walk_at "vs"
 rw[if_neg (by decide)]
 refine cY (g:=fun _=>.bl true) rs [] _ (fun r _ K hK=>⟨r,rfl,hK⟩) (af (by simp;lia)) ?_
 refine⟨rs.map fun _=>true,by rw[List.map_map];rfl,?_⟩
 rw[all_true]
 walk_at "vs"
 refine⟨af (by simp),?_⟩
 simp only[UZ]
 refine⟨.inl ⟨iV rs 7,rfl⟩,fun k hkk=>?_⟩
 walk_at "vs"
 rcases List.eq_nil_or_concat rs with rfl|⟨t,y,rfl⟩
 ·have:k=true:=bX hkk rfl
  subst this
  rw[if_pos rfl]
  exact hq
 ·rw[List.concat_eq_append]at*
  have:k=false:=dS hkk (by simp)
  subst this
  rw[if_neg (by decide)]
  refine⟨_,fM List.getLast?_concat,_,rfl,?_⟩
  have y0:y≠0:=hz y List.getLast?_concat
  have yn:y.num≠0:=fun e=>y0 (Rat.num_eq_zero.mp e)
  walk_at "vs"
  rw[decide_eq_false yn]
  exact hq
noncomputable def rm:List CS:=[.set 2 (.blt .list [(.var 0)]),.DW (.cmp .GtE (.blt .len [(.var 2)]) (.blt .len [(.var 1)])) [.set 3 (.call 0 [(.ix (.var 2) (.neg (.int 1))),(.call 1 [(.ix (.ix (.var 1) (.neg (.int 1))) (.int 1)),(.ix (.ix (.var 1) (.neg (.int 1))) (.int 0))])]),.set 4 (.bin .Sub (.blt .len [(.var 2)]) (.blt .len [(.var 1)])),.set 2 (.call 2 [(.var 2),(.bin .Add (.bin .Mult (.lst [(.tup [(.int 0),(.int 1)])]) (.var 4)) (.comp [0] true 1 (.var 1) (.bl true) (.call 0 [(.var 4),(.var 0)]))),(.neg (.int 1))])],.ret (.var 2)]
noncomputable def yx:b6:=fun ws Q _=>∃(a g s:List Rat) (D l:Int) (p1 p2 q:Nat),ws=[aA a,aA g]/\(∀k,a.getD k 0=lS (gP s) (gP g) k)/\bJ a/\bJ g/\g≠[]/\g.getD (g.length -1) 0=1/\(D≠0/\D.natAbs<2^p1/\(∀x∈s,Cd D p2 x)/\p1<=p2)/\(l≠0/\l.natAbs<2^q/\∀x∈g,Cd l q x)/\(0<q/\2*(p2+q)+5<=7900)/\a.length<=10/\g.length<=10/\Q (aA [])
theorem Rt{G:Nat->W}{m:Md}(ws:List W)(Q:W->Prop)(R:Addr->Prop)(h:yx ws Q R):wSs (aO [mJ HMul.hMul,dW,lI]) G rm (b8 m Q R) (aq 5 ws):=by
 obtain⟨a,g,s,D,l,p1,p2,q,rfl,ha,za,zg,Ih,g1,⟨D0,bD,cs,hp⟩,⟨l0,bl,cg⟩,⟨q0,hpq⟩,la,lg,hq⟩:=h
 show wSs _ _ rm _ [some (aA a),some (aA g),none,none,none]
 unfold rm aA
 walk_at "vs"
 have ea:a=aj (mulQ (aj s) g):=by
  refine AM za (aS _) fun k=>?_
  rw[ha k,dX,ou]
  show _=lS (fun i=>(aj s).getD i 0) (gP g) k
  rw[show(fun i=>(aj s).getD i 0)=gP s from funext fun i=>dX s i]
 have ls:(aj s).length<=10:=by
  have z:=aS s
  generalize aj s=t at*
  rcases List.eq_nil_or_concat t with rfl|⟨t',y,rfl⟩
  ·exact Nat.zero_le _
  ·rw[List.concat_eq_append]at*
   have h:=(yv (t:=t') (z y List.getLast?_concat) Ih g1).1
   rw[←ea]at h
   have g0:0<g.length:=List.length_pos_iff.mpr Ih
   rw[List.length_append,List.length_singleton]
   lia
 refine iU (α:=List Rat×Option W×Option W) (fun x=>[some (.lst (a.map wq)),some (.lst (g.map wq)),some (.lst ((aj (mulQ x.1 g)).map wq)),x.2.1,x.2.2]) (fun x=>bJ x.1/\(∀z∈x.1,Cd D p2 z)/\x.1.length<=10) (fun x=>x.1.length) (aj s,none,none) ?_ ⟨aS s,fun z hz=>cs z (iE hz),ls⟩ ?_
 ·show _=[_,_,some (W.lst ((aj (mulQ (aj s) g)).map wq)),none,none]
  rw[←ea]
 ·rintro⟨t,o1,o2⟩ ⟨zt,ct,lt⟩
  walk_at "vs"
  rw[List.length_map,List.length_map]
  have g0:0<g.length:=List.length_pos_iff.mpr Ih
  dsimp only at zt ct lt
  rcases List.eq_nil_or_concat t with rfl|⟨t',y,rfl⟩
  ·have e0:aj (mulQ [] g)=[]:=Hu (.inl rfl)
   rw[e0]
   refine dP (fun hk=>absurd hk ?_) (fun hk=>?_)
   ·rw[decide_eq_true_eq,List.length_nil]
    lia
   ·walk_at "vs"
    rw[e0]
    exact hq
  rw[List.concat_eq_append]at*
  have y0:y≠0:=zt y List.getLast?_concat
  obtain⟨lr,yr⟩:=yv (t:=t') y0 Ih g1
  have cr:∀x∈aj (mulQ (t'++[y]) g),Cd (D*l) (p2+q+5) x:=fun x hx=>vC ct cg (by lia) x (iE hx)
  have bDl:(D*l).natAbs<2^(p2+q+5):=by
   rw[Int.natAbs_mul]
   exact cM (lt_mul bD bl) (by lia)
  have br:∀x∈aj (mulQ (t'++[y]) g),Bd (p2+q+5) x:=fun x hx=>Cd.bd (Int.mul_ne_zero D0 l0) (cr x hx) bDl
  have cy:=ct y (List.mem_append_right _ (List.mem_singleton.mpr rfl))
  have Vw:Bd p2 y:=Cd.bd D0 cy (cM bD hp)
  have bg:∀x∈g,Bd q x:=fun x hx=>Cd.bd l0 (cg x hx) bl
  have tr:=EH (t:=t') (y:=y) zg
  rw[List.length_append,List.length_singleton]at lt
  generalize hr:aj (mulQ (t'++[y]) g)=r at*
  have Vy:r.getLast?=some y:=pW (by lia) (by rw[lr];exact yr)
  have Z8:g.getLast?=some 1:=pW g0 g1
  refine dP (fun _=>?_) (fun hk=>?_)
  ·walk_at "vs"
   simp only[hr]
   refine⟨_,fM Vy,_,fM Z8,⟨.int 1,rfl,_,fM Z8,.int 1,rfl,?_⟩⟩
   refine⟨1,1,1,rfl,by decide,by decide,by decide,?_⟩
   rw[show Rat.divInt 1 1=(1:Rat)from by decide+kernel]
   refine⟨y,1,p2,1,rfl,Vw,⟨by decide,by decide⟩,by lia,?_⟩
   rw[Rat.mul_one]
   have Yl:((r.map wq).length:Int) -((g.map wq).length:Int)=(t'.length:Int):=by
    rw[List.length_map,List.length_map]
    lia
   rw[Yl,Int.toNat_natCast,gC]
   refine⟨af (by simp),af (by simp),by lia,by lia,af (by simp;lia),?_⟩
   refine cY (g:=fun x=>wq (y*x)) g [] _ (fun x hx K hK=>?_) (af (by simp;lia)) ?_
   ·exact⟨y,x,p2,q,rfl,Vw,bg x hx,by lia,hK⟩
   ·refine⟨af (by simp;lia),r,List.replicate t'.length 0++g.map (y*·),-1,p2+q+5,p2+q,?_,br,fun x hx=>?_,by lia,by lia,by simp;lia,.inr rfl,?_⟩
    ·unfold aA
     rw[List.nil_append,List.map_append,List.map_replicate,List.map_map]
     rfl
    ·rcases List.mem_append.mp hx with hx|hx
     ·rw[(List.mem_replicate.mp hx).2]
      exact⟨Nat.pow_pos (by decide),Nat.one_lt_two_pow (by lia)⟩
     ·obtain⟨z,hz,rfl⟩:=List.mem_map.mp hx
      exact Hi Vw (bg z hz)
    ·rw[tr]
     refine⟨(aj t',some (wq y),some (.int t'.length)),rfl,⟨aS _,fun z hz=>ct z (List.mem_append_left _ (iE hz)),?_⟩,?_⟩
     ·have:=iF t'
      show(aj t').length<=10
      lia
     ·have:=iF t'
      show(aj t').length<(t'++[y]).length
      rw[List.length_append,List.length_singleton]
      lia
  ·rw[decide_eq_false_iff_not]at hk
   lia
theorem CP{n:Nat}:∀rs:List Rat,(∀x∈rs,Bd n x)->(iY rs).natAbs<=2^(n*rs.length)
 |[],_=>by show 1<=2^(n*0);rw[Nat.mul_zero];decide
 |r::rs,h=>by
  have ih:=CP rs fun y hy=>h y (List.mem_cons_of_mem _ hy)
  have hr:=(h r (List.mem_cons_self ..)).2
  show((r.den:Int)*iY rs).natAbs<=_
  rw[Int.natAbs_mul,Int.natAbs_natCast,List.length_cons,Nat.mul_add,Nat.mul_one,Nat.add_comm,Nat.pow_add]
  exact Nat.mul_le_mul (Nat.le_of_lt hr) ih
theorem mW{n:Nat}:∀{rs:List Rat},(∀x∈rs,Bd n x)->∀x∈rs,Cd (iY rs) (n*rs.length) x
 |r::rs,h,x,hx=>by
  have hs:∀y∈rs,Bd n y:=fun y hy=>h y (List.mem_cons_of_mem _ hy)
  have hr:=h r (List.mem_cons_self ..)
  rw[List.length_cons,Nat.mul_add,Nat.mul_one]
  rcases List.mem_cons.mp hx with rfl|hx
  ·refine⟨x.num*iY rs,?_,?_⟩
   ·show x*(((x.den:Int)*iY rs:Int):Rat)=_
    rw[Rat.intCast_mul,Rat.intCast_mul,←Rat.mul_assoc]
    have:x*((x.den:Int):Rat)=(x.num:Rat):=by
     rw[←oq (Int.dvd_refl _),Int.ediv_self (by have:=x.den_pos;lia),Int.mul_one]
    rw[this]
   ·rw[Int.natAbs_mul,Nat.add_comm]
    exact Cp hr.1 (CP rs hs)
  ·obtain⟨z,e,b⟩:=mW hs x hx
   refine⟨r.den*z,?_,?_⟩
   ·show x*(((r.den:Int)*iY rs:Int):Rat)=_
    rw[Rat.intCast_mul,Rat.intCast_mul,←e]
    grind
   ·rw[Int.natAbs_mul,Int.natAbs_natCast,Nat.mul_comm]
    exact lt_mul b hr.2
structure E5(a:List Rat):Prop where
 l8:a.length<=8
 z:bJ a
 cd:∃D:Int,0<D/\D.natAbs<2^101/\∀x∈a,Cd D 117 x
 bd:∀x∈a,Bd 200 x
theorem Ym{s p:Nat}(hs:s<=14):(s -2*p)*p<=24:=by
 by_cases hp:p<8
 ·have:∀s,s<15->∀p,p<8->(s -2*p)*p<=24:=by decide
  exact this s (by lia) p hp
 ·rw[show s -2*p=0 by omega,Nat.zero_mul]
  exact Nat.zero_le _
theorem CQ{a b:List Rat}(ha:E5 a)(hb:E5 b):GP a b 117 101 39 1816:=by
 have l1:=ha.l8
 have l2:=hb.l8
 refine⟨l1,l2,ha.z,hb.z,ha.cd,hb.cd,fun p=>?_,?_,by decide,by decide,by decide,by decide,by decide⟩
 ·have:=Ym (s:=a.length -1+(b.length -1)) (p:=p) (by omega)
  omega
 ·omega
theorem j3:E5 []:=⟨by decide,(fun x hx=>by cases hx),⟨1,by decide,Nat.one_lt_two_pow (by decide),by simp⟩,by simp⟩
theorem vR{k:Int}{r:Rat}(h:sF k r)(hk:k=0\/k=1):Bd 10 r:=by
 rcases hk with e|e
 ·have:=h.1 e
  exact⟨by lia,by lia⟩
 ·have:=h.2.1 e
  exact⟨by lia,by lia⟩
theorem yC{r:Rat}(h:sF 2 r):Bd 20 r:=by
 have:=h.2.2.1 rfl
 exact⟨by lia,by lia⟩
theorem mX{n m:Nat}{rs:List Rat}(hm:n*m<=100)(m8:m<=8)(n2:n<=200)(hl:rs.length<=m)(h:∀x∈rs,Bd n x)(hz:bJ rs):E5 rs:=by
 have e:n*rs.length<=100:=Nat.le_trans (Nat.mul_le_mul_left n hl) hm
 exact⟨by lia,hz,⟨iY rs,mK rs,cM (pZ rs h) (by lia),fun x hx=>(mW h x hx).up (by lia)⟩,fun x hx=>B9 (h x hx) n2⟩
theorem CT{as bs:List Rat}(la:as.length<=6)(lb:bs.length<=3)(ha:∀x∈as,Bd 10 x)(hb:∀x∈bs,Bd 10 x):E5 (aj (mulQ as bs))/\(∀i j k,i<as.length->Bd 100 (gD as bs i j k)):=by
 have ca:=mW ha
 have cb:=mW hb
 have pa:=mK as
 have pb:=mK bs
 have ba:=pZ as ha
 have bb:=pZ bs hb
 have bD:(iY as*iY bs).natAbs<2^92:=by
  rw[Int.natAbs_mul]
  exact cM (lt_mul ba bb) (by lia)
 have nz:iY as*iY bs≠0:=Int.mul_ne_zero (by lia) (by lia)
 have cm:∀x∈aj (mulQ as bs),Cd (iY as*iY bs) 95 x:=fun x hx=>(vC ca cb (by lia) x (iE hx)).up (by lia)
 refine⟨⟨?_,aS _,⟨iY as*iY bs,Int.mul_pos pa pb,cM bD (by decide),fun x hx=>(cm x hx).up (by decide)⟩,fun x hx=>B9 (Cd.bd nz (cm x hx) (cM bD (by decide))) (by decide)⟩,fun i j k hi=>?_⟩
 ·have:=iF (mulQ as bs)
  unfold mulQ at this⊢
  rw[fN]at this
  lia
 ·exact B9 (Cd.bd nz ((Ck ca cb i j k (by lia)).up (m:=95) (by lia)) (cM bD (by decide))) (by decide)
noncomputable def yD:List CS:=[.set 1 (.call 0 [(.call 1 [(.var 0),(.int 0)]),(.int 3)]),.iff (.cmp .Eq (.bin .Mod (.ix (.var 1) (.int 0)) (.int 4)) (.int 1)) [.ret (.comp [0] true 1 (.lst [(.int 1),(.int 2)]) (.bl true) (.call 2 [(.call 1 [(.var 1),(.var 0)]),(.int 5),(.int 2)]))] [],.set 2 (.comp [0] true 1 (.lst [(.int 1),(.int 2)]) (.bl true) (.call 2 [(.call 1 [(.var 1),(.var 0)]),(.int 6),(.bin .Mod (.ix (.var 2) (.int 1)) (.int 2))])),.iff (.cmp .Gt (.bin .Mod (.ix (.var 1) (.int 2)) (.int 3)) (.int 0)) [.set 3 (.call 2 [(.call 1 [(.var 0),(.int 3)]),(.int 3),(.bin .Mod (.ix (.var 1) (.int 1)) (.int 2))]),.set 2 (.comp [0] true 1 (.var 2) (.bl true) (.call 3 [(.var 0),(.var 4)]))] [],.ret (.var 2)]
noncomputable def Ir:b6:=fun ws Q _=>∃ns:List Int,ws=[.jj ns]/\∀a b,E5 a->E5 b->Q (.lst [aA a,aA b])
theorem Vz{G:Nat->W}{m:Md}(ws:List W)(Q:W->Prop)(R:Addr->Prop)(h:Ir ws Q R):wSs (aO [lJ,yw,HF,cL]) G yD (b8 m Q R) (aq 4 ws):=by
 obtain⟨ns,rfl,hq⟩:=h
 show wSs _ _ yD _ [some (.jj ns),none,none,none]
 unfold yD
 walk_at "vs"
 refine⟨ns,0,rfl,fun z=>⟨z,3,rfl,by decide,by decide,fun xs hx hb=>?_⟩⟩
 match xs,hx with
 |[x0,x1,x2],_=>
  unfold wI
  walk_at "vs"
  refine⟨_,rfl,?_⟩
  walk_at "vs"
  refine⟨by decide,?_⟩
  by_cases h0:x0.fmod 4=1
  ·rw[if_pos (decide_eq_true h0)]
   simp only[j9]
   refine⟨af (by simp),ns,1,rfl,fun z1=>⟨z1,5,2,rfl,by decide,by decide,fun a la ba za=>⟨dQ (by simp),ns,2,rfl,fun z2=>⟨z2,5,2,rfl,by decide,by decide,fun b lb bb zb=>⟨dQ (by simp),?_⟩⟩⟩⟩⟩
   exact hq a b (mX (n:=20) (m:=5) (by decide) (by decide) (by decide) la (fun x hx=>yC (ba x hx)) za) (mX (n:=20) (m:=5) (by decide) (by decide) (by decide) lb (fun x hx=>yC (bb x hx)) zb)
  ·rw[if_neg (by rw[decide_eq_true_eq];exact h0)]
   have hkb:x1.fmod 2=0\/x1.fmod 2=1:=by
    have h1:=Int.fmod_nonneg_of_pos x1 (show(0:Int)<2 by decide)
    have h2:=Int.fmod_lt_of_pos x1 (show(0:Int)<2 by decide)
    lia
   generalize hkk:x1.fmod 2=kk at*
   simp only[j9]
   refine⟨af (by simp),ns,1,rfl,fun z1=>⟨_,rfl,?_⟩⟩
   walk_at "vs"
   rw[hkk]
   refine⟨by decide,z1,6,kk,rfl,by decide,by decide,fun a la ba za=>⟨dQ (by simp),ns,2,rfl,fun z2=>⟨_,rfl,?_⟩⟩⟩
   walk_at "vs"
   rw[hkk]
   refine⟨by decide,z2,6,kk,rfl,by decide,by decide,fun b lb bb zb=>⟨dQ (by simp),_,rfl,?_⟩⟩
   have ba:∀x∈a,Bd 10 x:=fun x hx=>vR (ba x hx) hkb
   have bb:∀x∈b,Bd 10 x:=fun x hx=>vR (bb x hx) hkb
   walk_at "vs"
   refine⟨by decide,?_⟩
   by_cases h2:0<x2.fmod 3
   ·rw[if_pos (decide_eq_true h2)]
    refine⟨ns,3,rfl,fun z3=>⟨_,rfl,?_⟩⟩
    walk_at "vs"
    rw[hkk]
    refine⟨by decide,z3,3,kk,rfl,by decide,by decide,fun c lc bc zc=>?_⟩
    have bc:∀x∈c,Bd 10 x:=fun x hx=>vR (bc x hx) hkb
    obtain⟨ga,fa⟩:=CT (as:=a) (bs:=c) la lc ba bc
    obtain⟨gb,fb⟩:=CT (as:=b) (bs:=c) lb lc bb bc
    have la:a.length<=6:=la
    have lb:b.length<=6:=lb
    have lc:c.length<=3:=lc
    simp only[j9]
    refine⟨a,c,10,10,rfl,ba,bc,⟨100,fa,by decide⟩,by lia,by lia,dQ (by simp),b,c,10,10,rfl,bb,bc,⟨100,fb,by decide⟩,by lia,by lia,dQ (by simp),hq _ _ ga gb⟩
   ·rw[if_neg (by rw[decide_eq_true_eq];exact h2)]
    exact hq a b (mX (n:=10) (m:=6) (by decide) (by decide) (by decide) la ba za) (mX (n:=10) (m:=6) (by decide) (by decide) (by decide) lb bb zb)
structure Yn(a b g u v:List Rat):Prop where
 ga:E5 a
 gb:E5 b
 go:um (101+1816) (1816+(117+117)) a b g u v
 sz:GB 1816 117 101 g u v
theorem yE{u a:List Rat}{l c:Int}{k:Nat}(hl:l≠0)(hc:c≠0)(bl:l.natAbs<2^1816)(bc:c.natAbs<2^117)(hk:k<=101)(cu:∀x∈u,Cd (l*c) (1816+k) x)(lu:u.length<=10)(ga:E5 a):
 (∀x∈u,Bd 1933 x)/\(∀i j k,i<u.length->Bd 2040 (gD u a i j k))/\(∀x∈aj (mulQ u a),Bd 2040 x)/\(aj (mulQ u a)).length<=20:=by
 obtain⟨la,za,⟨D,d0,bD,ca⟩,_⟩:=ga
 have n0:l*c≠0:=Int.mul_ne_zero hl hc
 have n1:l*c*D≠0:=Int.mul_ne_zero n0 (by lia)
 have b0:(l*c).natAbs<2^1933:=by
  rw[Int.natAbs_mul]
  exact lt_mul bl bc
 have b1:(l*c*D).natAbs<2^2040:=by
  rw[Int.natAbs_mul]
  exact cM (lt_mul b0 bD) (by lia)
 refine⟨fun x hx=>Cd.bd n0 ((cu x hx).up (by lia)) b0,fun i j k hi=>Cd.bd n1 ((Ck cu ca i j k (by lia)).up (by lia)) b1,fun x hx=>Cd.bd n1 ((vC cu ca (by lia) x (iE hx)).up (by lia)) b1,?_⟩
 have:=iF (mulQ u a)
 unfold mulQ at this⊢
 rw[fN]at this
 lia
theorem LD{p1 p2:Nat}{a b g u v:List Rat}(h:um p1 p2 a b g u v):aj (eZ (max (aj (mulQ u a)).length (aj (mulQ v b)).length) fun k=>(aj (mulQ u a)).getD k 0+((1:Int):Rat)*(aj (mulQ v b)).getD k 0)=g:=by
 have zg:bJ g:=by
  rcases h with⟨_,_,rfl,_⟩|h
  ·intro x hx
   cases hx
  ·exact h.ng
 have hk:∀k,g.getD k 0=lS (gP u) (gP a) k+lS (gP v) (gP b) k:=by
  rcases h with⟨rfl,rfl,rfl,rfl,rfl⟩|h
  ·intro k
   rw[vP]
   show(0:Rat)=0+0
   grind
  ·exact h.ZT
 refine AM (aS _) zg fun k=>?_
 rw[dX]
 have key:(aj (mulQ u a)).getD k 0+((1:Int):Rat)*(aj (mulQ v b)).getD k 0=g.getD k 0:=by
  rw[dX,dX,ou,ou,hk k]
  show lS (gP u) (gP a) k+(1:Rat)*lS (gP v) (gP b) k=_
  grind
 unfold eZ
 rw[List.getD_eq_getElem?_getD,List.getElem?_map]
 by_cases hl:k<max (aj (mulQ u a)).length (aj (mulQ v b)).length
 ·rw[List.getElem?_range hl]
  exact key
 ·rw[List.getElem?_eq_none (by simpa using hl),←key,kj (by lia),kj (by lia)]
  show(0:Rat)=0+(1:Rat)*0
  grind
noncomputable def mY:List CS:=[.iff (.or [(.not (.blt .zC [(.var 0),(.BD "tuple")])),(.cmp .NotEq (.blt .len [(.var 0)]) (.int 3)),(.not (.blt .all [(.comp [0] true 1 (.var 0) (.bl true) (.call 0 [(.var 0)]))]))]) [.ret (.bl false)] [],.iff (.cmp .NotEq (.call 1 [(.call 2 [(.ix (.var 0) (.int 1)),(.var 1)]),(.call 2 [(.ix (.var 0) (.int 2)),(.var 2)]),(.int 1)]) (.ix (.var 0) (.int 0))) [.ret (.bl false)] [],.iff (.cmp .Eq (.ix (.var 0) (.int 0)) (.lst [])) [.ret (.and [(.cmp .Eq (.var 1) (.lst [])),(.cmp .Eq (.var 2) (.lst []))])] [],.ret (.and [(.cmp .Eq (.ix (.ix (.var 0) (.int 0)) (.neg (.int 1))) (.tup [(.int 1),(.int 1)])),(.cmp .Eq (.call 3 [(.var 1),(.ix (.var 0) (.int 0))]) (.lst [])),(.cmp .Eq (.call 3 [(.var 2),(.ix (.var 0) (.int 0))]) (.lst []))])]
noncomputable def rq:b6:=fun ws Q _=>∃(a b g u v:List Rat),ws=[.tup [aA g,aA u,aA v],aA a,aA b]/\Yn a b g u v/\Q (.bl true)
theorem LF{G:Nat->W}{m:Md}(ws:List W)(Q:W->Prop)(R:Addr->Prop)(h:rq ws Q R):wSs (aO [mV,lI,cL,yx]) G mY (b8 m Q R) (aq 3 ws):=by
 obtain⟨a,b,g,u,v,rfl,⟨ga,gb,go,l,ca,cb,l0,Yj,Yk,bl,Rl,Rm,cg,cu,cv,lg,lu,lv⟩,hq⟩:=h
 show wSs _ _ mY _ [some (.tup [aA g,aA u,aA v]),some (aA a),some (aA b)]
 unfold mY
 walk_at "vs"
 simp only[Ca]
 refine⟨_,rfl,?_⟩
 walk_at "vs"
 rw[if_neg (by decide),if_neg (by simp)]
 obtain⟨bu,fu,bm,lm⟩:=yE l0 Yj bl Rl (Nat.le_refl _) cu lu ga
 obtain⟨bv,fv,bn,ln⟩:=yE l0 Yk bl Rm (Nat.le_refl _) cv lv gb
 have hb:=LD go
 have lz:bJ g/\bJ u/\bJ v:=by
  have zn:bJ []:=fun x hx=>by cases hx
  rcases go with⟨_,_,rfl,rfl,rfl⟩|h
  ·exact⟨zn,zn,zn⟩
  ·exact⟨h.ng,h.nu,h.nv⟩
 have la:=ga.l8
 have lb:=gb.l8
 simp only[j9]
 refine⟨g,rfl,by lia,lz.1,dQ (by simp),u,rfl,by lia,lz.2.1,dQ (by simp),v,rfl,by lia,lz.2.2,dQ (by simp),?_⟩
 simp only[MX]
 refine⟨[true,true,true],rfl,?_⟩
 walk_at "vs"
 rw[if_neg (by decide)]
 have b2a:=ga.bd
 have b2b:=gb.bd
 refine⟨_,rfl,u,a,1933,200,rfl,bu,b2a,⟨2040,fu,by decide⟩,by lia,by lia,_,rfl,v,b,1933,200,rfl,bv,b2b,⟨2040,fv,by decide⟩,by lia,by lia,?_⟩
 refine⟨_,_,1,2040,2040,rfl,bm,bn,by decide,by lia,by lia,.inl rfl,_,rfl,AH fun k hk'=>?_⟩
 cases bX hk' hb
 walk_at "vs"
 refine⟨_,rfl,af (by simp),lE (y:=[]) fun k hk2=>?_⟩
 walk_at "vs"
 rcases go with⟨rfl,rfl,rfl,rfl,rfl⟩|⟨zg,_,_,_,da,db,Ih,g1⟩
 ·cases bX hk2 rfl
  rw[if_pos rfl]
  refine⟨af (by simp),lE (y:=[]) fun k3 h3=>?_⟩
  cases bX h3 rfl
  walk_at "vs"
  refine⟨af (by simp),lE (y:=[]) fun k4 h4=>?_⟩
  cases bX h4 rfl
  exact hq
 ·cases dS hk2 Ih
  rw[if_neg (by decide)]
  have g0:0<g.length:=List.length_pos_iff.mpr Ih
  obtain⟨s,D,e,D0,bD,cs⟩:=da
  obtain⟨s',D',e',D0',bD',cs'⟩:=db
  refine⟨_,rfl,_,fM (pW g0 g1),af (by simp),U0 (y:=1) fun k4 h4=>?_⟩
  cases bX h4 rfl
  walk_at "vs"
  refine⟨_,rfl,a,g,s,D,l,_,_,1816,rfl,e,ga.z,zg,Ih,g1,⟨D0,bD,cs,by decide⟩,⟨l0,bl,cg⟩,⟨by decide,by decide⟩,by lia,by lia,af (by simp),lE (x:=[]) (y:=[]) fun k5 h5=>?_⟩
  cases bX h5 rfl
  walk_at "vs"
  refine⟨_,rfl,b,g,s',D',l,_,_,1816,rfl,e',gb.z,zg,Ih,g1,⟨D0',bD',cs',by decide⟩,⟨l0,bl,cg⟩,⟨by decide,by decide⟩,by lia,by lia,af (by simp),lE (x:=[]) (y:=[]) fun k6 h6=>?_⟩
  cases bX h6 rfl
  exact hq
theorem CU(a b:List Rat):fE 9 (.lst [.lst (a.map wq),.lst (b.map wq)])=true:=by
 rw[fE,List.all_eq_true]
 intro x hx
 simp only[List.mem_cons,List.not_mem_nil,or_false]at hx
 rcases hx with rfl|rfl
 ·exact iV a 6
 ·exact iV b 6
theorem Iu{a b:List Rat}{Q:W->Prop}(h:Q (.bl false)):cH .NotEq (.lst [.lst (a.map wq),.lst (b.map wq)]) (.lst [.lst (a.map wq),.lst (b.map wq)]) Q:=
 ⟨.inl ⟨CU a b,CU a b⟩,fun k hk=>by cases bX hk rfl;exact h⟩
noncomputable def mZ:List CS:=[.Ua [1,2] (.call 0 [(.var 0)]),.set 3 (.lst [(.blt .list [(.var 1)]),(.blt .list [(.var 2)])]),.fr [4] true (.nO [(.int 2)]) [.set 5 (.call 1 [(.ix (.var 3) (.int 0)),(.ix (.var 3) (.int 1))]),.iff (.or [(.not (.Ai [5] (.call 2 [(.var 5),(.var 1),(.var 2)]))),(.cmp .NotEq (.var 3) (.lst [(.var 1),(.var 2)]))]) [.ret (.bl false)] [],.set 6 (.lst [(.blt .list [(.own 5 [.ix 0])]),(.blt .list [(.own 5 [.ix 2])])]),.R3 5 [.ix 1] (.tup [(.int 7),(.int 1)]),.iff (.or [(.Ai [5] (.cmp .NotEq (.lst [(.ix (.var 5) (.int 0)),(.ix (.var 5) (.int 2))]) (.var 6))),(.not (.call 2 [(.call 1 [(.ix (.var 3) (.int 1)),(.ix (.var 3) (.int 0))]),(.var 2),(.var 1)]))]) [.ret (.bl false)] [],.R3 5 [.ix 0] (.tup [(.int 7),(.int 1)])],.ret (.and [(.call 2 [(.call 1 [(.lst []),(.ix (.var 3) (.int 0))]),(.lst []),(.var 1)]),(.call 2 [(.call 1 [(.lst []),(.lst [])]),(.lst []),(.lst [])])])]
theorem LG{G:Nat->W}{m:Md}(ws:List W)(Q:W->Prop)(R:Addr->Prop)(h:Lj ws Q R):wSs (aO [Ir,fD,rq]) G mZ (b8 m Q R) (aq 7 ws):=by
 obtain⟨ns,rfl,_,hq⟩:=h
 show wSs _ _ mZ _ [some (.jj ns),none,none,none,none,none,none]
 unfold mZ
 refine e9 (fun ε'=>∃a b,(E5 a/\E5 b)/\ε'=[some (.jj ns),some (.lst (a.map wq)),some (.lst (b.map wq)),none,none,none,none]) (fun N hN=>?_) ?_
 ·walk_at "vs"
  exact⟨ns,rfl,fun a b ga gb=>⟨rfl,hN _ ⟨a,b,⟨ga,gb⟩,rfl⟩⟩⟩
 rintro _ ⟨a,b,⟨ga,gb⟩,rfl⟩
 walk_at "vs"
 refine⟨af (by simp),by decide,by decide,?_⟩
 refine bY (fun i ε=>∃o4 o5 o6,ε=[some (.jj ns),some (.lst (a.map wq)),some (.lst (b.map wq)),some (.lst [.lst (a.map wq),.lst (b.map wq)]),o4,o5,o6]) ⟨none,none,none,rfl⟩ ?_ ?_
 ·rintro i w _ N hw ⟨o4,o5,o6,rfl⟩ hN
  obtain⟨hi,rfl⟩:=iZ hw
  walk_at "vs"
  refine⟨_,rfl,_,rfl,a,b,117,101,39,1816,rfl,CQ ga gb,fun g u v go sz=>?_⟩
  have lens:g.length<=10/\u.length<=10/\v.length<=10:=by
   obtain⟨_,_,_,_,_,_,_,_,_,_,_,_,h⟩:=sz
   exact h
  refine⟨a,b,g,u,v,rfl,⟨ga,gb,go,sz⟩,rfl,?_⟩
  walk_at "vs"
  refine⟨af (by simp),Iu ?_⟩
  unfold aA
  walk_at "vs"
  refine⟨af (by simp),af (by simp),?_⟩
  refine⟨dQ (by simp;lia),_,rfl,_,rfl,af (by simp),Iu ⟨rfl,?_⟩⟩
  walk_at "vs"
  refine⟨_,rfl,_,rfl,b,a,117,101,39,1816,rfl,CQ gb ga,fun g2 u2 v2 go2 sz2=>?_⟩
  refine⟨b,a,g2,u2,v2,rfl,⟨gb,ga,go2,sz2⟩,?_⟩
  walk_at "vs"
  exact⟨af (by simp),dQ (by simp;lia),hN _ ⟨_,_,_,rfl⟩⟩
 ·rintro _ ⟨o4,o5,o6,rfl⟩
  walk_at "vs"
  refine⟨af (by simp),_,rfl,[],a,117,101,39,1816,rfl,CQ j3 ga,fun g u v go sz=>?_⟩
  refine⟨af (by simp),[],a,g,u,v,rfl,⟨j3,ga,go,sz⟩,?_⟩
  walk_at "vs"
  refine⟨af (by simp),af (by simp),[],[],117,101,39,1816,rfl,CQ j3 j3,fun g u v go sz=>?_⟩
  exact⟨af (by simp),af (by simp),[],[],g,u,v,rfl,⟨j3,j3,go,sz⟩,hq⟩
end VL
namespace VZ
open PySem PySem.Spec
open PyProof.Rows hiding St
open L2 VL Num
set_option genInjectivity false
set_option genSizeOf false
noncomputable def top(i:Nat):Stmt:=PySem.Challenge.pw_paperwright_k10_greatest_divisors.main.body.getD i (.Pass ⟨0,0,0,0⟩)
abbrev yF:Stmt:=top 4
abbrev Iv:Stmt:=top 5
abbrev yG:Stmt:=top 7
abbrev jI:Stmt:=top 10
abbrev gJ:Stmt:=top 15
abbrev m5:Stmt:=top 16
abbrev rA:Stmt:=top 17
abbrev iN:Stmt:=top 19
abbrev gK:Stmt:=top 20
abbrev iO:Stmt:=top 21
abbrev jJ:Stmt:=top 22
abbrev eN:Stmt:=top 23
abbrev dg:Stmt:=top 24
abbrev dh:Stmt:=top 25
abbrev cC:Stmt:=top 26
abbrev eO:Stmt:=top 27
abbrev fV:Stmt:=top 28
abbrev g9:Stmt:=inClass (top 30) 0
abbrev eS:Stmt:=inClass (top 30) 1
abbrev eU:Stmt:=inClass (top 30) 2
abbrev di:Stmt:=top 31
abbrev dI:Stmt:=top 33
abbrev fW:Stmt:=top 34
abbrev rB:Stmt:=top 36
abbrev m6:Stmt:=top 37
abbrev m7:Stmt:=top 38
abbrev jK:Stmt:=top 39
abbrev jL:Stmt:=top 40
abbrev m9:Stmt:=top 41
abbrev dj:Stmt:=top 42
abbrev s_row:Stmt:=top 43
abbrev jM:Stmt:=top 44
abbrev yH:Stmt:=top 45
abbrev iP:Stmt:=top 46
abbrev yI:Stmt:=top 47
abbrev nc:Stmt:=top 48
abbrev eV:Stmt:=top 49
abbrev rC:Stmt:=top 50
abbrev yJ:Stmt:=top 51
abbrev nh:Stmt:=top 52
abbrev yK:Stmt:=top 53
theorem Ru:au ["one","other"] ["one","other"] (aa yF):=⟨rfl,rfl,rfl,by decide+kernel,rfl,by decide+kernel,by decide+kernel⟩
theorem EI:au ["number","exponent","power"] ["number","exponent"] (aa jI):=⟨rfl,rfl,rfl,by decide+kernel,rfl,by decide+kernel,by decide+kernel⟩
theorem yL:au ["top","bottom","divisor"] ["top","bottom"] (aa gJ):=⟨rfl,rfl,rfl,by decide+kernel,rfl,by decide+kernel,by decide+kernel⟩
theorem Iw:au ["one","other","top","bottom","other_top","other_bottom","first","second"] ["one","other"] (aa m5):=⟨rfl,rfl,rfl,by decide+kernel,rfl,by decide+kernel,by decide+kernel⟩
theorem LH:au ["one","other","top","bottom"] ["one","other"] (aa rA):=⟨rfl,rfl,rfl,by decide+kernel,rfl,by decide+kernel,by decide+kernel⟩
theorem A5:au ["row","bottom","number","part"] ["row"] (aa iN):=⟨rfl,rfl,rfl,by decide+kernel,rfl,by decide+kernel,by decide+kernel⟩
theorem yM:au ["numbers","bottom"] ["numbers","bottom"] (aa gK):=⟨rfl,rfl,rfl,by decide+kernel,rfl,by decide+kernel,by decide+kernel⟩
theorem A6:au ["numbers","length"] ["numbers"] (aa iO):=⟨rfl,rfl,rfl,by decide+kernel,rfl,by decide+kernel,by decide+kernel⟩
theorem EJ:au ["numbers","by"] ["numbers","by"] (aa jJ):=⟨rfl,rfl,rfl,by decide+kernel,rfl,by decide+kernel,by decide+kernel⟩
theorem sM:au ["one","other","length","told","place","number"] ["one","other"] (aa eN):=⟨rfl,rfl,rfl,by decide+kernel,rfl,by decide+kernel,by decide+kernel⟩
theorem rD:au ["one","other"] ["one","other"] (aa dg):=⟨rfl,rfl,rfl,by decide+kernel,rfl,by decide+kernel,by decide+kernel⟩
theorem rE:au ["one","other","told","place","number","further","factor"] ["one","other"] (aa dh):=⟨rfl,rfl,rfl,by decide+kernel,rfl,by decide+kernel,by decide+kernel⟩
theorem oB:au ["one","other","room","lead","rest","quotient","place","head","further","scale"] ["one","other"] (aa cC):=⟨rfl,rfl,rfl,by decide+kernel,rfl,by decide+kernel,by decide+kernel⟩
theorem sN:au ["one","other","room","rest","quotient","place","head","further"] ["one","other"] (aa eO):=⟨rfl,rfl,rfl,by decide+kernel,rfl,by decide+kernel,by decide+kernel⟩
theorem vU:au ["numbers","content","number"] ["numbers"] (aa fV):=⟨rfl,rfl,rfl,by decide+kernel,rfl,by decide+kernel,by decide+kernel⟩
theorem rF:au ["self","one","other","factor"] ["self","one","other","factor"] (aa g9):=⟨rfl,rfl,rfl,by decide+kernel,rfl,by decide+kernel,by decide+kernel⟩
theorem sO:au ["self","going"] ["self"] (aa eS):=⟨rfl,rfl,rfl,by decide+kernel,rfl,by decide+kernel,by decide+kernel⟩
theorem sP:au ["self","quotient","rest","scale","factor","drop","known"] ["self"] (aa eU):=⟨rfl,rfl,rfl,by decide+kernel,rfl,by decide+kernel,by decide+kernel⟩
theorem rG:au ["height","lead","drop"] ["height","lead","drop"] (aa di):=⟨rfl,rfl,rfl,by decide+kernel,rfl,by decide+kernel,by decide+kernel⟩
theorem oQ:au ["one","other","divisor","other_factor","factor","numbers","bottom","content","other_numbers","other_bottom","other_content","chain","left","lead"] ["one","other"] (aa dI):=⟨rfl,rfl,rfl,by decide+kernel,rfl,by decide+kernel,by decide+kernel⟩
theorem vV:au ["row","numbers","bottom","content"] ["row"] (aa fW):=⟨rfl,rfl,rfl,by decide+kernel,rfl,by decide+kernel,by decide+kernel⟩
theorem LI:au ["_law_script","_law_place"] ["_law_script","_law_place"] (aa rB):=⟨rfl,rfl,rfl,by decide+kernel,rfl,by decide+kernel,by decide+kernel⟩
theorem Iz:au ["_law_cell_here","_law_many","_law_rest_here","_law_one","_law_two_here","_law_found","_law_k","_law_number_here"] ["_law_cell_here","_law_many"] (aa m6):=⟨rfl,rfl,rfl,by decide+kernel,rfl,by decide+kernel,by decide+kernel⟩
theorem IA:au ["_law_one","_law_other"] ["_law_one","_law_other"] (aa m7):=⟨rfl,rfl,rfl,by decide+kernel,rfl,by decide+kernel,by decide+kernel⟩
theorem EK:au ["_law_top","_law_bottom","_law_share"] ["_law_top","_law_bottom"] (aa jK):=⟨rfl,rfl,rfl,by decide+kernel,rfl,by decide+kernel,by decide+kernel⟩
theorem EL:au ["_law_x","_law_y","_law_z","_law_kind","_law_top","_law_bottom"] ["_law_x","_law_y","_law_z","_law_kind"] (aa jL):=⟨rfl,rfl,rfl,by decide+kernel,rfl,by decide+kernel,by decide+kernel⟩
theorem IB:au ["_law_found"] ["_law_found"] (aa m9):=⟨rfl,rfl,rfl,by decide+kernel,rfl,by decide+kernel,by decide+kernel⟩
theorem rH:au ["_law_found"] ["_law_found"] (aa dj):=⟨rfl,rfl,rfl,by decide+kernel,rfl,by decide+kernel,by decide+kernel⟩
theorem Rv:au ["_law_cell_here","_law_most","_law_kind","_law_xs","_law_found","_law_k","_law_number_here"] ["_law_cell_here","_law_most","_law_kind"] (aa s_row):=⟨rfl,rfl,rfl,by decide+kernel,rfl,by decide+kernel,by decide+kernel⟩
theorem EM:au ["_law_found"] ["_law_found"] (aa jM):=⟨rfl,rfl,rfl,by decide+kernel,rfl,by decide+kernel,by decide+kernel⟩
theorem Rw:au ["_law_one","_law_other"] ["_law_one","_law_other"] (aa yH):=⟨rfl,rfl,rfl,by decide+kernel,rfl,by decide+kernel,by decide+kernel⟩
theorem A7:au ["_law_one","_law_other"] ["_law_one","_law_other"] (aa iP):=⟨rfl,rfl,rfl,by decide+kernel,rfl,by decide+kernel,by decide+kernel⟩
theorem Rx:au ["_law_row_here","_law_found"] ["_law_row_here"] (aa yI):=⟨rfl,rfl,rfl,by decide+kernel,rfl,by decide+kernel,by decide+kernel⟩
theorem IC:au ["_law_one","_law_other","_law_sign","_law_found","_law_k","_law_left","_law_right_here"] ["_law_one","_law_other","_law_sign"] (aa nc):=⟨rfl,rfl,rfl,by decide+kernel,rfl,by decide+kernel,by decide+kernel⟩
theorem sQ:au ["_law_one","_law_other","_law_found","_law_j","_law_k"] ["_law_one","_law_other"] (aa eV):=⟨rfl,rfl,rfl,by decide+kernel,rfl,by decide+kernel,by decide+kernel⟩
theorem LJ:au ["_law_one","_law_other","_law_rest_here","_law_share","_law_gap"] ["_law_one","_law_other"] (aa rC):=⟨rfl,rfl,rfl,by decide+kernel,rfl,by decide+kernel,by decide+kernel⟩
theorem Ry:au ["_law_script","_law_xs","_law_found","_law_third"] ["_law_script"] (aa yJ):=⟨rfl,rfl,rfl,by decide+kernel,rfl,by decide+kernel,by decide+kernel⟩
theorem ID:au ["_law_found","_law_one","_law_other"] ["_law_found","_law_one","_law_other"] (aa nh):=⟨rfl,rfl,rfl,by decide+kernel,rfl,by decide+kernel,by decide+kernel⟩
theorem Rz:au ["_law_script","_law_one","_law_other","_law_handed","_law_turn","_law_found","_law_held"] ["_law_script"] (aa yK):=⟨rfl,rfl,rfl,by decide+kernel,rfl,by decide+kernel,by decide+kernel⟩
structure Tx(K:PySem.W.Frag)(mg:Str->Option Value)where
 ak:Addr
 j4:Hc K mg "Chain" ak ["ahead","last","factor_ahead","factor_last","lead","height","sign","scale","known"]
 M9:Addr
 Na:FuncData
 yN:Df K mg "gcd" yF ["one","other"] M9 Na
 RA:Addr
 RB:FuncData
 RC:Df K mg "turn" Iv ["one","other"] RA RB
 IE:Addr
 IF:FuncData
 IG:Df K mg "turned" yG ["by","one","other"] IE IF
 yO:Addr
 yP:FuncData
 rJ:Df K mg "raised" jI ["number","exponent"] yO yP
 rK:Addr
 rL:FuncData
 rM:Df K mg "fraction" gJ ["top","bottom"] rK rL
 CV:Addr
 CW:FuncData
 CY:Df K mg "times" m5 ["one","other"] CV CW
 II:Addr
 IJ:FuncData
 IK:Df K mg "over" rA ["one","other"] II IJ
 uq:Addr
 ur:FuncData
 uu:Df K mg "cleared" iN ["row"] uq ur
 rN:Addr
 rO:FuncData
 rP:Df K mg "row_over" gK ["numbers","bottom"] rN rO
 uv:Addr
 uw:FuncData
 j5:Df K mg "trimmed" iO ["numbers"] uv uw
 yQ:Addr
 yR:FuncData
 jN:Df K mg "scaled" jJ ["numbers","by"] yQ yR
 ni:Addr
 nj:FuncData
 nq:Df K mg "whole_plus" eN ["one","other"] ni nj
 kD:Addr
 kF:FuncData
 ia:Df K mg "whole_minus" dg ["one","other"] kD kF
 kG:Addr
 kH:FuncData
 ic:Df K mg "whole_times" dh ["one","other"] kG kH
 jg:Addr
 jh:FuncData
 ji:Df K mg "whole_divided" cC ["one","other"] jg jh
 nt:Addr
 ny:FuncData
 nA:Df K mg "whole_over" eO ["one","other"] nt ny
 oR:Addr
 oS:FuncData
 oU:Df K mg "shortened" fV ["numbers"] oR oS
 kI:Addr
 kJ:FuncData
 fH:Dm K ak "__init__" "Chain.__init__" g9 ["self","one","other","factor"] kI kJ
 nB:Addr
 nD:FuncData
 nE:Dm K ak "walk" "Chain.walk" eS ["self"] nB nD
 nF:Addr
 nG:FuncData
 nH:Dm K ak "step" "Chain.step" eU ["self"] nF nG
 kK:Addr
 kL:FuncData
 kM:Df K mg "next_height" di ["height","lead","drop"] kK kL
 i6:Addr
 i7:FuncData
 gM:Df K mg "greatest" dI ["one","other"] i6 i7
 oV:Addr
 oW:FuncData
 oX:Df K mg "primitive" fW ["row"] oV oW
 IL:Addr
 IM:FuncData
 IP:Df K mg "_law_cell" rB ["_law_script","_law_place"] IL IM
 CZ:Addr
 C3:FuncData
 vW:Df K mg "_law_drawn" m6 ["_law_cell_here","_law_many"] CZ C3
 C4:Addr
 C5:FuncData
 vX:Df K mg "_law_gcd" m7 ["_law_one","_law_other"] C4 C5
 yS:Addr
 yT:FuncData
 jO:Df K mg "_law_lowest" jK ["_law_top","_law_bottom"] yS yT
 yU:Addr
 yV:FuncData
 yW:Df K mg "_law_number" jL ["_law_x","_law_y","_law_z","_law_kind"] yU yV
 C6:Addr
 C7:FuncData
 C8:Df K mg "_law_whole" m9 ["_law_found"] C6 C7
 kN:Addr
 kO:FuncData
 kP:Df K mg "_law_is_fraction" dj ["_law_found"] kN kO
 Nb:Addr
 Nc:FuncData
 Nd:Df K mg "_law_row" s_row ["_law_cell_here","_law_most","_law_kind"] Nb Nc
 yX:Addr
 yY:FuncData
 yZ:Df K mg "_law_is_row" jM ["_law_found"] yX yY
 Nf:Addr
 Ng:FuncData
 IQ:Df K mg "_law_sum" yH ["_law_one","_law_other"] Nf Ng
 ux:Addr
 uy:FuncData
 oE:Df K mg "_law_product" iP ["_law_one","_law_other"] ux uy
 Nh:Addr
 Ni:FuncData
 IS:Df K mg "_law_cut" yI ["_law_row_here"] Nh Ni
 C9:Addr
 Dc:FuncData
 vY:Df K mg "_law_added" nc ["_law_one","_law_other","_law_sign"] C9 Dc
 nI:Addr
 nJ:FuncData
 i8:Df K mg "_law_multiplied" eV ["_law_one","_law_other"] nI nJ
 IT:Addr
 IU:FuncData
 IV:Df K mg "_law_rest" rC ["_law_one","_law_other"] IT IU
 f_two:Addr
 Nj:FuncData
 Nk:Df K mg "_law_two" yJ ["_law_script"] f_two Nj
 Dd:Addr
 De:FuncData
 Dg:Df K mg "_law_right" nh ["_law_found","_law_one","_law_other"] Dd De
 Nl:Addr
 Nm:FuncData
 VC:Df K mg "law" yK ["_law_script"] Nl Nm
 rQ:mg "abs"=none
 uz:mg "all"=none
 rR:mg "bool"=none
 dJ:mg "enumerate"=none
 y9:mg "int"=none
 bU:mg "isinstance"=none
 fh:mg "len"=none
 gh:mg "list"=none
 oY:mg "max"=none
 eX:mg "range"=none
 zd:mg "sum"=none
 j6:mg "tuple"=none
 RD:∃u,mg "LONG"=some u/\RelV (.int 6000) u
 aE:Addr
 rS:mg "NoNumber"=some (.ref aE)
 rT:TM K aE
section
variable{P:Program}{w:World}{K:PySem.W.Frag}{mg:Str->Option Value}{base:Heap}
theorem VD:aN ⟨["one","other"],(aa yF).names,[],["turned","turn"],["LONG"],["abs"],[.s,.s],[]⟩ (bH [.s,.s]) .s yb (ah yF)=true:=by decide+kernel
theorem VF(T:Tx K mg):Tab P w K mg base ["turned","turn"] ["LONG"] ["abs"] [.s,.s] [] (aO [Wg,Wg]) (bI [(.int 6000)]) 1:=by
 refine⟨fun j x e h=>?_,fun j g x e h=>?_,fun j x e=>?_,?_,aF K,fun j x C e h=>?_⟩
 ·match j,e with
  |0,e=>cases e;exact T.IG.dH (m:=.s) (Ho (k:=1)) rfl (by walk_at "len_of") (by decide)
  |1,e=>cases e;exact T.RC.dH (m:=.s) (Ho (k:=1)) rfl (by walk_at "len_of") (by decide)
  |_+2,e=>simp at e
 ·cases h
 ·match j,e with
  |0,e=>cases e;obtain⟨u,h1,h2⟩:=T.RD;exact⟨u,_,h1,h2,fun _ _=>by show Rep _ _ _ (.int 6000) _;rw[Rep]⟩
  |_+1,e=>simp at e
 ·intro x h
  simp only[List.mem_cons,List.not_mem_nil,or_false]at h
  rcases h with rfl
  ·exact T.rQ
 ·match j,e with
  |0,e=>cases h
  |_+1,e=>simp at e
theorem Dh(T:Tx K mg):aL P w K mg base (cV P w) 2 T.M9 T.Na ["one","other"] (eY K 2 .s qO):=
 aK T.yN.F Ru (VF T) yb [] .s qO (by decide) (by decide) rfl VD (by walk_at "len_of") U9
theorem IX:aN ⟨["number","exponent","power"],(aa jI).names,[],[],[],[],[],[]⟩ (bH []) .s jB (ah jI)=true:=by decide+kernel
theorem IY(T:Tx K mg):Tab P w K mg base [] [] [] [] [] (aO []) (bI []) 0:=by
 refine⟨fun j x e h=>?_,fun j g x e h=>?_,fun j x e=>?_,?_,aF K,fun j x C e h=>?_⟩
 ·match j,e with
  |_+0,e=>simp at e
 ·cases h
 ·match j,e with
  |_+0,e=>simp at e
 ·intro x h;cases h
 ·match j,e with
  |_+0,e=>simp at e
theorem ze(T:Tx K mg):aL P w K mg base (cV P w) 1 T.yO T.yP ["number","exponent"] (eY K 2 .s i0):=
 aK T.rJ.F EI (IY T) jB [] .s i0 (by decide) (by decide) rfl IX (by walk_at "len_of") HH
theorem A8:aN ⟨["top","bottom","divisor"],(aa gJ).names,[],["gcd"],["NoNumber"],[],[.s],[]⟩ (bH [.s]) .s gE (ah gJ)=true:=by decide+kernel
theorem A9(T:Tx K mg):Tab P w K mg base ["gcd"] ["NoNumber"] [] [.s] [] (aO [qO]) (bI [(.cls T.aE)]) 2:=by
 refine⟨fun j x e h=>?_,fun j g x e h=>?_,fun j x e=>?_,?_,aF K,fun j x C e h=>?_⟩
 ·match j,e with
  |0,e=>cases e;exact T.yN.dH (m:=.s) (Dh T) rfl (by walk_at "len_of") (by decide)
  |_+1,e=>simp at e
 ·cases h
 ·match j,e with
  |0,e=>cases e;exact⟨_,.ref T.aE,T.rS,rfl,fun _ _=>by rw[bI,Rep]⟩
  |_+1,e=>simp at e
 ·intro x h;cases h
 ·match j,e with
  |0,e=>cases h;exact T.rT
  |_+1,e=>simp at e
theorem Bc(T:Tx K mg):aL P w K mg base (cV P w) 3 T.rK T.rL ["top","bottom"] (eY K 2 .s (iJ T.aE)):=
 aK T.rM.F yL (A9 T) gE [] .s (iJ T.aE) (by decide) (by decide) rfl A8 (by walk_at "len_of") AU
theorem LK:aN ⟨["one","other","top","bottom","other_top","other_bottom","first","second"],(aa m5).names,[],["gcd"],[],[],[.s],[]⟩ (bH [.s]) .s mR (ah m5)=true:=by decide+kernel
theorem LL(T:Tx K mg):Tab P w K mg base ["gcd"] [] [] [.s] [] (aO [qO]) (bI []) 2:=by
 refine⟨fun j x e h=>?_,fun j g x e h=>?_,fun j x e=>?_,?_,aF K,fun j x C e h=>?_⟩
 ·match j,e with
  |0,e=>cases e;exact T.yN.dH (m:=.s) (Dh T) rfl (by walk_at "len_of") (by decide)
  |_+1,e=>simp at e
 ·cases h
 ·match j,e with
  |_+0,e=>simp at e
 ·intro x h;cases h
 ·match j,e with
  |_+0,e=>simp at e
theorem LM(T:Tx K mg):aL P w K mg base (cV P w) 3 T.CV T.CW ["one","other"] (eY K 2 .s oA):=
 aK T.CY.F Iw (LL T) mR [] .s oA (by decide) (by decide) rfl LK (by walk_at "len_of") Lx
theorem RE:aN ⟨["one","other","top","bottom"],(aa rA).names,[],["times"],["NoNumber"],[],[.s],[]⟩ (bH [.s]) .s qV (ah rA)=true:=by decide+kernel
theorem RG(T:Tx K mg):Tab P w K mg base ["times"] ["NoNumber"] [] [.s] [] (aO [oA]) (bI [(.cls T.aE)]) 3:=by
 refine⟨fun j x e h=>?_,fun j g x e h=>?_,fun j x e=>?_,?_,aF K,fun j x C e h=>?_⟩
 ·match j,e with
  |0,e=>cases e;exact T.CY.dH (m:=.s) (LM T) rfl (by walk_at "len_of") (by decide)
  |_+1,e=>simp at e
 ·cases h
 ·match j,e with
  |0,e=>cases e;exact⟨_,.ref T.aE,T.rS,rfl,fun _ _=>by rw[bI,Rep]⟩
  |_+1,e=>simp at e
 ·intro x h;cases h
 ·match j,e with
  |0,e=>cases h;exact T.rT
  |_+1,e=>simp at e
theorem RH(T:Tx K mg):aL P w K mg base (cV P w) 4 T.II T.IJ ["one","other"] (eY K 2 .s (yp T.aE)):=
 aK T.IK.F LH (RG T) qV [] .s (yp T.aE) (by decide) (by decide) rfl RE (by walk_at "len_of") Rh
theorem EN:aN ⟨["row","bottom","number","part"],(aa iN).names,[],["gcd"],[],[],[.s],[]⟩ (bH [.s]) .s iL (ah iN)=true:=by decide+kernel
theorem EO(T:Tx K mg):Tab P w K mg base ["gcd"] [] [] [.s] [] (aO [qO]) (bI []) 2:=by
 refine⟨fun j x e h=>?_,fun j g x e h=>?_,fun j x e=>?_,?_,aF K,fun j x C e h=>?_⟩
 ·match j,e with
  |0,e=>cases e;exact T.yN.dH (m:=.s) (Dh T) rfl (by walk_at "len_of") (by decide)
  |_+1,e=>simp at e
 ·cases h
 ·match j,e with
  |_+0,e=>simp at e
 ·intro x h;cases h
 ·match j,e with
  |_+0,e=>simp at e
theorem ES(T:Tx K mg):aL P w K mg base (cV P w) 3 T.uq T.ur ["row"] (eY K 1 .s jE):=
 aK T.uu.F A5 (EO T) iL [] .s jE (by decide) (by decide) rfl EN (by walk_at "len_of") EC
theorem ET:aN ⟨["numbers","length"],(aa iO).names,[],[],[],["len"],[],[]⟩ (bH []) .f iH (ah iO)=true:=by decide+kernel
theorem EU(T:Tx K mg):Tab P w K mg base [] [] ["len"] [] [] (aO []) (bI []) 0:=by
 refine⟨fun j x e h=>?_,fun j g x e h=>?_,fun j x e=>?_,?_,aF K,fun j x C e h=>?_⟩
 ·match j,e with
  |_+0,e=>simp at e
 ·cases h
 ·match j,e with
  |_+0,e=>simp at e
 ·intro x h
  simp only[List.mem_cons,List.not_mem_nil,or_false]at h
  rcases h with rfl
  ·exact T.fh
 ·match j,e with
  |_+0,e=>simp at e
theorem oF(T:Tx K mg):aL P w K mg base (cV P w) 1 T.uv T.uw ["numbers"] (eY K 1 .f dZ):=
 aK T.j5.F A6 (EU T) iH [] .f dZ (by decide) (by decide) rfl ET (by walk_at "len_of") EA
theorem Be:aN ⟨["numbers","bottom"],(aa gK).names,[],["trimmed","fraction"],[],[],[.f,.s],[]⟩ (bH [.f,.s]) .f gF (ah gK)=true:=by decide+kernel
theorem Bf(T:Tx K mg):Tab P w K mg base ["trimmed","fraction"] [] [] [.f,.s] [] (aO [dZ,(iJ T.aE)]) (bI []) 3:=by
 refine⟨fun j x e h=>?_,fun j g x e h=>?_,fun j x e=>?_,?_,aF K,fun j x C e h=>?_⟩
 ·match j,e with
  |0,e=>cases e;exact T.j5.dH (m:=.f) (oF T) rfl (by walk_at "len_of") (by decide)
  |1,e=>cases e;exact T.rM.dH (m:=.s) (Bc T) rfl (by walk_at "len_of") (by decide)
  |_+2,e=>simp at e
 ·cases h
 ·match j,e with
  |_+0,e=>simp at e
 ·intro x h;cases h
 ·match j,e with
  |_+0,e=>simp at e
theorem Bg(T:Tx K mg):aL P w K mg base (cV P w) 4 T.rN T.rO ["numbers","bottom"] (eY K 2 .f iM):=
 aK T.rP.F yM (Bf T) gF [] .f iM (by decide) (by decide) rfl Be (by walk_at "len_of") AW
theorem IZ:aN ⟨["numbers","by"],(aa jJ).names,[],[],[],[],[],[]⟩ (bH []) .f jw (ah jJ)=true:=by decide+kernel
theorem I0(T:Tx K mg):Tab P w K mg base [] [] [] [] [] (aO []) (bI []) 0:=by
 refine⟨fun j x e h=>?_,fun j g x e h=>?_,fun j x e=>?_,?_,aF K,fun j x C e h=>?_⟩
 ·match j,e with
  |_+0,e=>simp at e
 ·cases h
 ·match j,e with
  |_+0,e=>simp at e
 ·intro x h;cases h
 ·match j,e with
  |_+0,e=>simp at e
theorem nK(T:Tx K mg):aL P w K mg base (cV P w) 1 T.yQ T.yR ["numbers","by"] (eY K 2 .f dU):=
 aK T.jN.F EJ (I0 T) jw [] .f dU (by decide) (by decide) rfl IZ (by walk_at "len_of") Hw
theorem vZ:aN ⟨["one","other","length","told","place","number"],(aa eN).names,[(3,.f)],["trimmed"],[],["max","len","list","enumerate"],[.f],[]⟩ (bH [.f]) .f ee (ah eN)=true:=by decide+kernel
theorem v9(T:Tx K mg):Tab P w K mg base ["trimmed"] [] ["max","len","list","enumerate"] [.f] [] (aO [dZ]) (bI []) 1:=by
 refine⟨fun j x e h=>?_,fun j g x e h=>?_,fun j x e=>?_,?_,aF K,fun j x C e h=>?_⟩
 ·match j,e with
  |0,e=>cases e;exact T.j5.dH (m:=.f) (oF T) rfl (by walk_at "len_of") (by decide)
  |_+1,e=>simp at e
 ·cases h
 ·match j,e with
  |_+0,e=>simp at e
 ·intro x h
  simp only[List.mem_cons,List.not_mem_nil,or_false]at h
  rcases h with rfl|rfl|rfl|rfl
  ·exact T.oY
  ·exact T.fh
  ·exact T.gh
  ·exact T.dJ
 ·match j,e with
  |_+0,e=>simp at e
theorem wc(T:Tx K mg):aL P w K mg base (cV P w) 2 T.ni T.nj ["one","other"] (eY K 2 .f fO):=
 aK T.nq.F sM (v9 T) ee [(3,.f)] .f fO (by decide) (by decide) rfl vZ (by walk_at "len_of") vF
theorem sR:aN ⟨["one","other"],(aa dg).names,[],["whole_plus","scaled"],[],[],[.f,.f],[]⟩ (bH [.f,.f]) .f cZ (ah dg)=true:=by decide+kernel
theorem sS(T:Tx K mg):Tab P w K mg base ["whole_plus","scaled"] [] [] [.f,.f] [] (aO [fO,dU]) (bI []) 2:=by
 refine⟨fun j x e h=>?_,fun j g x e h=>?_,fun j x e=>?_,?_,aF K,fun j x C e h=>?_⟩
 ·match j,e with
  |0,e=>cases e;exact T.nq.dH (m:=.f) (wc T) rfl (by walk_at "len_of") (by decide)
  |1,e=>cases e;exact T.jN.dH (m:=.f) (nK T) rfl (by walk_at "len_of") (by decide)
  |_+2,e=>simp at e
 ·cases h
 ·match j,e with
  |_+0,e=>simp at e
 ·intro x h;cases h
 ·match j,e with
  |_+0,e=>simp at e
theorem kQ(T:Tx K mg):aL P w K mg base (cV P w) 3 T.kD T.kF ["one","other"] (eY K 2 .f b9):=
 aK T.ia.F rD (sS T) cZ [] .f b9 (by decide) (by decide) rfl sR (by walk_at "len_of") sG
theorem sU:aN ⟨["one","other","told","place","number","further","factor"],(aa dh).names,[(2,.f)],[],[],["len","enumerate"],[],[]⟩ (bH []) .f c6 (ah dh)=true:=by decide+kernel
theorem sW(T:Tx K mg):Tab P w K mg base [] [] ["len","enumerate"] [] [] (aO []) (bI []) 0:=by
 refine⟨fun j x e h=>?_,fun j g x e h=>?_,fun j x e=>?_,?_,aF K,fun j x C e h=>?_⟩
 ·match j,e with
  |_+0,e=>simp at e
 ·cases h
 ·match j,e with
  |_+0,e=>simp at e
 ·intro x h
  simp only[List.mem_cons,List.not_mem_nil,or_false]at h
  rcases h with rfl|rfl
  ·exact T.fh
  ·exact T.dJ
 ·match j,e with
  |_+0,e=>simp at e
theorem kR(T:Tx K mg):aL P w K mg base (cV P w) 1 T.kG T.kH ["one","other"] (eY K 2 .f cj):=
 aK T.ic.F rE (sW T) c6 [(2,.f)] .f cj (by decide) (by decide) rfl sU (by walk_at "len_of") sH
theorem pI:aN ⟨["one","other","room","lead","rest","quotient","place","head","further","scale"],(aa cC).names,[(4,.f),(5,.f)],["scaled","trimmed"],[],["max","len","list","range"],[.f,.f],[]⟩ (bH [.f,.f]) .s cA (ah cC)=true:=by decide+kernel
theorem pJ(T:Tx K mg):Tab P w K mg base ["scaled","trimmed"] [] ["max","len","list","range"] [.f,.f] [] (aO [dU,dZ]) (bI []) 1:=by
 refine⟨fun j x e h=>?_,fun j g x e h=>?_,fun j x e=>?_,?_,aF K,fun j x C e h=>?_⟩
 ·match j,e with
  |0,e=>cases e;exact T.jN.dH (m:=.f) (nK T) rfl (by walk_at "len_of") (by decide)
  |1,e=>cases e;exact T.j5.dH (m:=.f) (oF T) rfl (by walk_at "len_of") (by decide)
  |_+2,e=>simp at e
 ·cases h
 ·match j,e with
  |_+0,e=>simp at e
 ·intro x h
  simp only[List.mem_cons,List.not_mem_nil,or_false]at h
  rcases h with rfl|rfl|rfl|rfl
  ·exact T.oY
  ·exact T.fh
  ·exact T.gh
  ·exact T.eX
 ·match j,e with
  |_+0,e=>simp at e
theorem pK(T:Tx K mg):aL P w K mg base (cV P w) 2 T.jg T.jh ["one","other"] (eY K 2 .s cN):=
 aK T.ji.F oB (pJ T) cA [(4,.f),(5,.f)] .s cN (by decide) (by decide) rfl pI (by walk_at "len_of") pH
theorem we:aN ⟨["one","other","room","rest","quotient","place","head","further"],(aa eO).names,[(3,.f),(4,.f)],[],[],["len","list","range"],[],[]⟩ (bH []) .f eE (ah eO)=true:=by decide+kernel
theorem wg(T:Tx K mg):Tab P w K mg base [] [] ["len","list","range"] [] [] (aO []) (bI []) 0:=by
 refine⟨fun j x e h=>?_,fun j g x e h=>?_,fun j x e=>?_,?_,aF K,fun j x C e h=>?_⟩
 ·match j,e with
  |_+0,e=>simp at e
 ·cases h
 ·match j,e with
  |_+0,e=>simp at e
 ·intro x h
  simp only[List.mem_cons,List.not_mem_nil,or_false]at h
  rcases h with rfl|rfl|rfl
  ·exact T.fh
  ·exact T.gh
  ·exact T.eX
 ·match j,e with
  |_+0,e=>simp at e
theorem wj(T:Tx K mg):aL P w K mg base (cV P w) 1 T.nt T.ny ["one","other"] (eY K 2 .f fU):=
 aK T.nA.F sN (wg T) eE [(3,.f),(4,.f)] .f fU (by decide) (by decide) rfl we (by walk_at "len_of") vK
theorem zf:aN ⟨["numbers","content","number"],(aa fV).names,[],["gcd"],[],["list"],[.s],[]⟩ (bH [.s]) .s fS (ah fV)=true:=by decide+kernel
theorem zh(T:Tx K mg):Tab P w K mg base ["gcd"] [] ["list"] [.s] [] (aO [qO]) (bI []) 2:=by
 refine⟨fun j x e h=>?_,fun j g x e h=>?_,fun j x e=>?_,?_,aF K,fun j x C e h=>?_⟩
 ·match j,e with
  |0,e=>cases e;exact T.yN.dH (m:=.s) (Dh T) rfl (by walk_at "len_of") (by decide)
  |_+1,e=>simp at e
 ·cases h
 ·match j,e with
  |_+0,e=>simp at e
 ·intro x h
  simp only[List.mem_cons,List.not_mem_nil,or_false]at h
  rcases h with rfl
  ·exact T.gh
 ·match j,e with
  |_+0,e=>simp at e
theorem zj(T:Tx K mg):aL P w K mg base (cV P w) 3 T.oR T.oS ["numbers"] (eY K 1 .s gG):=
 aK T.oU.F vU (zh T) fS [] .s gG (by decide) (by decide) rfl zf (by walk_at "len_of") yk
theorem sX:aN ⟨["height","lead","drop"],(aa di).names,[],["raised"],[],[],[.s],[]⟩ (bH [.s]) .s c7 (ah di)=true:=by decide+kernel
theorem sY(T:Tx K mg):Tab P w K mg base ["raised"] [] [] [.s] [] (aO [i0]) (bI []) 1:=by
 refine⟨fun j x e h=>?_,fun j g x e h=>?_,fun j x e=>?_,?_,aF K,fun j x C e h=>?_⟩
 ·match j,e with
  |0,e=>cases e;exact T.rJ.dH (m:=.s) (ze T) rfl (by walk_at "len_of") (by decide)
  |_+1,e=>simp at e
 ·cases h
 ·match j,e with
  |_+0,e=>simp at e
 ·intro x h;cases h
 ·match j,e with
  |_+0,e=>simp at e
theorem sZ(T:Tx K mg):aL P w K mg base (cV P w) 2 T.kK T.kL ["height","lead","drop"] (eY K 3 .s ek):=
 aK T.kM.F rG (sY T) c7 [] .s ek (by decide) (by decide) rfl sX (by walk_at "len_of") sJ
theorem zk:aN ⟨["row","numbers","bottom","content"],(aa fW).names,[],["cleared","shortened"],[],[],[.s,.s],[]⟩ (bH [.s,.s]) .s fT (ah fW)=true:=by decide+kernel
theorem zo(T:Tx K mg):Tab P w K mg base ["cleared","shortened"] [] [] [.s,.s] [] (aO [jE,gG]) (bI []) 3:=by
 refine⟨fun j x e h=>?_,fun j g x e h=>?_,fun j x e=>?_,?_,aF K,fun j x C e h=>?_⟩
 ·match j,e with
  |0,e=>cases e;exact T.uu.dH (m:=.s) (ES T) rfl (by walk_at "len_of") (by decide)
  |1,e=>cases e;exact T.oU.dH (m:=.s) (zj T) rfl (by walk_at "len_of") (by decide)
  |_+2,e=>simp at e
 ·cases h
 ·match j,e with
  |_+0,e=>simp at e
 ·intro x h;cases h
 ·match j,e with
  |_+0,e=>simp at e
theorem zp(T:Tx K mg):aL P w K mg base (cV P w) 4 T.oV T.oW ["row"] (eY K 1 .s gH):=
 aK T.oX.F vV (zo T) fT [] .s gH (by decide) (by decide) rfl zk (by walk_at "len_of") ym
theorem tu(T:Tx K mg):aL P w K mg base (cV P w) 1 T.kI T.kJ ["self","one","other","factor"] (Ik T.ak):=by
 have cl:=T.j4.ok.1
 have na:=T.j4.ok.2.2.2
 refine T.fH.F.WW rF (fun vs H Q E h=>?_) (fun cdv A outer s H vs Q E hr h=>?_)
 ·obtain⟨x,dx,p1,p2,p3,rfl,_⟩:=h
  rfl
 obtain⟨x,dx,p1,p2,p3,rfl,hx,q⟩:=h
 refine⟨_,(@dM _ _ _ _ _ (gY (pv 0) (pv 1) rfl)
  (@dM _ _ _ _ _ (gY (pv 0) (pv 2) rfl)
  (@dM _ _ _ _ _ (gY (pv 0) (pv 3) rfl)
  (@dM _ _ _ _ _ (gY (pv 0) (FE dD) rfl)
  (@dM _ _ _ _ _ (gY (pv 0) kT rfl)
  (@dM _ _ _ _ _ (gY (pv 0) kT rfl)
  (@dM _ _ _ _ _ (gY (pv 0) kT rfl)
  (@dM _ _ _ _ _ (gY (pv 0) kT rfl)
  (Bt (gY (pv 0) kT rfl)))))))))),?_⟩
 refine⟨_,rfl,_,rfl,x,T.ak,dx,_,rfl,hx,cl,na "ahead" (by decide),by show 0<1000;decide,?_⟩
 refine⟨_,rfl,_,rfl,x,T.ak,dx,_,rfl,aD,cl,na "last" (by decide),by show 1<1000;decide,?_⟩
 refine⟨_,rfl,_,rfl,x,T.ak,dx,_,rfl,aD,cl,na "factor_ahead" (by decide),by show 2<1000;decide,?_⟩
 refine⟨tQ (by simp),fun p4 So=>?_⟩
 have nx:p4≠x:=fun e=>by
  rw[e,aD]at So
  cases So
 refine⟨_,rfl,x,T.ak,dx,_,rfl,FY aD So,cl,na "factor_last" (by decide),by show 3<1000;decide,?_⟩
 refine⟨_,rfl,x,T.ak,dx,_,rfl,aD,cl,na "lead" (by decide),by show 4<1000;decide,?_⟩
 refine⟨_,rfl,x,T.ak,dx,_,rfl,aD,cl,na "height" (by decide),by show 5<1000;decide,?_⟩
 refine⟨_,rfl,x,T.ak,dx,_,rfl,aD,cl,na "sign" (by decide),by show 6<1000;decide,?_⟩
 refine⟨_,rfl,x,T.ak,dx,_,rfl,aD,cl,na "scale" (by decide),by show 7<1000;decide,?_⟩
 refine⟨_,rfl,x,T.ak,dx,_,rfl,aD,cl,na "known" (by decide),by show 8<1000;decide,?_⟩
 rw[ao nx,ao nx,ao nx]at So
 refine q p4 _ (fun b o hb ho=>?_) So ?_ aD
 ·have hb4:b≠p4:=aR ho So
  rw[ao hb,ao hb,ao hb,ao hb,ao hb,ao hb,ao hb4,ao hb,ao hb,ao hb]
  exact ho
 ·rw[ao nx,ao nx,ao nx,ao nx,ao nx,ao nx,aD]
theorem LN(T:Tx K mg):gi P w K mg base 2 (.ref T.ak) 3 (eY K 3 (.o Vl [.s,.s,.s,.s,.s,.s,.s,.s,.s]) (vQ T.ak)):=
 A3 T.j4.ok ⟨T.j4.mks,T.fH.M.1,T.fH.M.fn,T.j4.kp⟩ T.fH.b (tu T)
theorem wk:aN ⟨["self","quotient","rest","scale","factor","drop","known"],(aa eU).names,[(0,(.o ["ahead","last","factor_ahead","factor_last","lead","height","sign","scale","known"] [.s,.s,.s,.s,.s,.s,.s,.s,.s]))],["whole_divided","whole_minus","scaled","whole_times","raised","next_height"],[],["len"],[.s,.f,.f,.f,.s,.s],[]⟩ (bH [.s,.f,.f,.f,.s,.s]) (.io (.o ["ahead","last","factor_ahead","factor_last","lead","height","sign","scale","known"] [.s,.s,.s,.s,.s,.s,.s,.s,.s])) eG (ah eU)=true:=by decide+kernel
theorem wm(T:Tx K mg):Tab P w K mg base ["whole_divided","whole_minus","scaled","whole_times","raised","next_height"] [] ["len"] [.s,.f,.f,.f,.s,.s] [] (aO [cN,b9,dU,cj,i0,ek]) (bI []) 3:=by
 refine⟨fun j x e h=>?_,fun j g x e h=>?_,fun j x e=>?_,?_,aF K,fun j x C e h=>?_⟩
 ·match j,e with
  |0,e=>cases e;exact T.ji.dH (m:=.s) (pK T) rfl (by walk_at "len_of") (by decide)
  |1,e=>cases e;exact T.ia.dH (m:=.f) (kQ T) rfl (by walk_at "len_of") (by decide)
  |2,e=>cases e;exact T.jN.dH (m:=.f) (nK T) rfl (by walk_at "len_of") (by decide)
  |3,e=>cases e;exact T.ic.dH (m:=.f) (kR T) rfl (by walk_at "len_of") (by decide)
  |4,e=>cases e;exact T.rJ.dH (m:=.s) (ze T) rfl (by walk_at "len_of") (by decide)
  |5,e=>cases e;exact T.kM.dH (m:=.s) (sZ T) rfl (by walk_at "len_of") (by decide)
  |_+6,e=>simp at e
 ·cases h
 ·match j,e with
  |_+0,e=>simp at e
 ·intro x h
  simp only[List.mem_cons,List.not_mem_nil,or_false]at h
  rcases h with rfl
  ·exact T.fh
 ·match j,e with
  |_+0,e=>simp at e
theorem wu(T:Tx K mg):aL P w K mg base (cV P w) 4 T.nF T.nG ["self"] (eY K 1 (.io (.o ["ahead","last","factor_ahead","factor_last","lead","height","sign","scale","known"] [.s,.s,.s,.s,.s,.s,.s,.s,.s])) (yq T.ak)):=
 B8 T.nH.F sP (wm T) eG [(0,(.o ["ahead","last","factor_ahead","factor_last","lead","height","sign","scale","known"] [.s,.s,.s,.s,.s,.s,.s,.s,.s]))] (.o ["ahead","last","factor_ahead","factor_last","lead","height","sign","scale","known"] [.s,.s,.s,.s,.s,.s,.s,.s,.s]) (yq T.ak) (by decide) (by decide) (by decide) (by decide) wk (by walk_at "len_of") vM
theorem wz:aN ⟨["self","going"],(aa eS).names,[(0,(.o ["ahead","last","factor_ahead","factor_last","lead","height","sign","scale","known"] [.s,.s,.s,.s,.s,.s,.s,.s,.s]))],["step"],[],["len"],[(.io (.o ["ahead","last","factor_ahead","factor_last","lead","height","sign","scale","known"] [.s,.s,.s,.s,.s,.s,.s,.s,.s]))],[(0,0)]⟩ (bH [(.io (.o ["ahead","last","factor_ahead","factor_last","lead","height","sign","scale","known"] [.s,.s,.s,.s,.s,.s,.s,.s,.s]))]) (.io (.o ["ahead","last","factor_ahead","factor_last","lead","height","sign","scale","known"] [.s,.s,.s,.s,.s,.s,.s,.s,.s])) eH (ah eS)=true:=by decide+kernel
theorem wB(T:Tx K mg):Tab P w K mg base ["step"] [] ["len"] [(.io (.o ["ahead","last","factor_ahead","factor_last","lead","height","sign","scale","known"] [.s,.s,.s,.s,.s,.s,.s,.s,.s]))] [(0,0)] (aO [(yq T.ak)]) (bI [(.cls T.ak)]) 4:=by
 refine⟨fun j x e h=>?_,fun j g x e h=>?_,fun j x e=>?_,?_,aF K,fun j x C e h=>?_⟩
 ·match j,e with
  |0,e=>cases h
  |_+1,e=>simp at e
 ·simp only[List.mem_cons,List.not_mem_nil,or_false,Prod.mk.injEq]at h
  rcases h with⟨rfl,rfl⟩
  ·cases e;exact T.nH.dH (m:=(.io (.o ["ahead","last","factor_ahead","factor_last","lead","height","sign","scale","known"] [.s,.s,.s,.s,.s,.s,.s,.s,.s]))) (wu T) (by walk_at "len_of") (by decide) rfl
 ·match j,e with
  |_+0,e=>simp at e
 ·intro x h
  simp only[List.mem_cons,List.not_mem_nil,or_false]at h
  rcases h with rfl
  ·exact T.fh
 ·match j,e with
  |_+0,e=>simp at e
theorem wC(T:Tx K mg):aL P w K mg base (cV P w) 5 T.nB T.nD ["self"] (eY K 1 (.io (.o ["ahead","last","factor_ahead","factor_last","lead","height","sign","scale","known"] [.s,.s,.s,.s,.s,.s,.s,.s,.s])) (yu T.ak)):=
 B8 T.nE.F sO (wB T) eH [(0,(.o ["ahead","last","factor_ahead","factor_last","lead","height","sign","scale","known"] [.s,.s,.s,.s,.s,.s,.s,.s,.s]))] (.o ["ahead","last","factor_ahead","factor_last","lead","height","sign","scale","known"] [.s,.s,.s,.s,.s,.s,.s,.s,.s]) (yu T.ak) (by decide) (by decide) (by decide) (by decide) wz (by walk_at "len_of") vN
theorem zq:aN ⟨["one","other","divisor","other_factor","factor","numbers","bottom","content","other_numbers","other_bottom","other_content","chain","left","lead"],(aa dI).names,[(11,(.o ["ahead","last","factor_ahead","factor_last","lead","height","sign","scale","known"] [.s,.s,.s,.s,.s,.s,.s,.s,.s]))],["greatest","over","primitive","Chain","walk","whole_minus","whole_times","whole_over","row_over","scaled"],[],["len"],[.s,.s,.s,(.o ["ahead","last","factor_ahead","factor_last","lead","height","sign","scale","known"] [.s,.s,.s,.s,.s,.s,.s,.s,.s]),(.io (.o ["ahead","last","factor_ahead","factor_last","lead","height","sign","scale","known"] [.s,.s,.s,.s,.s,.s,.s,.s,.s])),.f,.f,.f,.f,.f],[(4,0)]⟩ (bH [.s,.s,.s,(.o ["ahead","last","factor_ahead","factor_last","lead","height","sign","scale","known"] [.s,.s,.s,.s,.s,.s,.s,.s,.s]),(.io (.o ["ahead","last","factor_ahead","factor_last","lead","height","sign","scale","known"] [.s,.s,.s,.s,.s,.s,.s,.s,.s])),.f,.f,.f,.f,.f]) (.t [.f,.f,.f]) gI (ah dI)=true:=by decide+kernel
theorem zu(T:Tx K mg):Tab P w K mg base ["greatest","over","primitive","Chain","walk","whole_minus","whole_times","whole_over","row_over","scaled"] [] ["len"] [.s,.s,.s,(.o ["ahead","last","factor_ahead","factor_last","lead","height","sign","scale","known"] [.s,.s,.s,.s,.s,.s,.s,.s,.s]),(.io (.o ["ahead","last","factor_ahead","factor_last","lead","height","sign","scale","known"] [.s,.s,.s,.s,.s,.s,.s,.s,.s])),.f,.f,.f,.f,.f] [(4,0)] (aO [Wg,(yp T.aE),gH,(vQ T.ak),(yu T.ak),b9,cj,fU,iM,dU]) (bI [(.cls T.ak)]) 5:=by
 refine⟨fun j x e h=>?_,fun j g x e h=>?_,fun j x e=>?_,?_,aF K,fun j x C e h=>?_⟩
 ·match j,e with
  |0,e=>cases e;exact T.gM.dH (m:=.s) (Ho (k:=1)) rfl (by walk_at "len_of") (by decide)
  |1,e=>cases e;exact T.IK.dH (m:=.s) (RH T) rfl (by walk_at "len_of") (by decide)
  |2,e=>cases e;exact T.oX.dH (m:=.s) (zp T) rfl (by walk_at "len_of") (by decide)
  |3,e=>cases e;exact⟨_,_,2,T.j4.c,LN T,by decide,by walk_at "len_of"⟩
  |4,e=>cases h
  |5,e=>cases e;exact T.ia.dH (m:=.f) (kQ T) rfl (by walk_at "len_of") (by decide)
  |6,e=>cases e;exact T.ic.dH (m:=.f) (kR T) rfl (by walk_at "len_of") (by decide)
  |7,e=>cases e;exact T.nA.dH (m:=.f) (wj T) rfl (by walk_at "len_of") (by decide)
  |8,e=>cases e;exact T.rP.dH (m:=.f) (Bg T) rfl (by walk_at "len_of") (by decide)
  |9,e=>cases e;exact T.jN.dH (m:=.f) (nK T) rfl (by walk_at "len_of") (by decide)
  |_+10,e=>simp at e
 ·simp only[List.mem_cons,List.not_mem_nil,or_false,Prod.mk.injEq]at h
  rcases h with⟨rfl,rfl⟩
  ·cases e;exact T.nE.dH (m:=(.io (.o ["ahead","last","factor_ahead","factor_last","lead","height","sign","scale","known"] [.s,.s,.s,.s,.s,.s,.s,.s,.s]))) (wC T) (by walk_at "len_of") (by decide) rfl
 ·match j,e with
  |_+0,e=>simp at e
 ·intro x h
  simp only[List.mem_cons,List.not_mem_nil,or_false]at h
  rcases h with rfl
  ·exact T.fh
 ·match j,e with
  |_+0,e=>simp at e
theorem oZ(T:Tx K mg):aL P w K mg base (cV P w) 6 T.i6 T.i7 ["one","other"] (eY K 2 (.t [.f,.f,.f]) gX):=
 aK T.gM.F oQ (zu T) gI [(11,(.o ["ahead","last","factor_ahead","factor_last","lead","height","sign","scale","known"] [.s,.s,.s,.s,.s,.s,.s,.s,.s]))] (.t [.f,.f,.f]) gX (by decide) (by decide) rfl zq qY Im
theorem zv:aN ⟨["one","other","divisor","other_factor","factor","numbers","bottom","content","other_numbers","other_bottom","other_content","chain","left","lead"],(aa dI).names,[(2,.f),(3,.f),(4,.f)],["greatest"],[],["len"],[(.t [.f,.f,.f])],[]⟩ (bH [(.t [.f,.f,.f])]) (.t [.f,.f,.f]) jG (ah dI)=true:=by decide+kernel
theorem zw(T:Tx K mg):Tab P w K mg base ["greatest"] [] ["len"] [(.t [.f,.f,.f])] [] (aO [gX]) (bI []) 6:=by
 refine⟨fun j x e h=>?_,fun j g x e h=>?_,fun j x e=>?_,?_,aF K,fun j x C e h=>?_⟩
 ·match j,e with
  |0,e=>cases e;exact T.gM.dH (m:=(.t [.f,.f,.f])) (oZ T) rfl qY (by decide)
  |_+1,e=>simp at e
 ·cases h
 ·match j,e with
  |_+0,e=>simp at e
 ·intro x h
  simp only[List.mem_cons,List.not_mem_nil,or_false]at h
  rcases h with rfl
  ·exact T.fh
 ·match j,e with
  |_+0,e=>simp at e
theorem zx(T:Tx K mg):aL P w K mg base (cV P w) 7 T.i6 T.i7 ["one","other"] (eY K 2 (.t [.f,.f,.f]) jZ):=
 aK T.gM.F oQ (zw T) jG [(2,.f),(3,.f),(4,.f)] (.t [.f,.f,.f]) jZ (by decide) (by decide) rfl zv A4 Io
theorem Bh(T:Tx K mg):aL P w K mg base (cV P w) 7 T.i6 T.i7 ["one","other"] (eY K 2 (.t [.f,.f,.f]) fD):=
 Ip (oZ T) (zx T) (by decide) (by decide)
theorem RI:aN ⟨["_law_script","_law_place"],(aa rB).names,[],[],[],["sum"],[],[]⟩ (bH []) .s qZ (ah rB)=true:=by decide+kernel
theorem RJ(T:Tx K mg):Tab P w K mg base [] [] ["sum"] [] [] (aO []) (bI []) 0:=by
 refine⟨fun j x e h=>?_,fun j g x e h=>?_,fun j x e=>?_,?_,aF K,fun j x C e h=>?_⟩
 ·match j,e with
  |_+0,e=>simp at e
 ·cases h
 ·match j,e with
  |_+0,e=>simp at e
 ·intro x h
  simp only[List.mem_cons,List.not_mem_nil,or_false]at h
  rcases h with rfl
  ·exact T.zd
 ·match j,e with
  |_+0,e=>simp at e
theorem RK(T:Tx K mg):aL P w K mg base (cV P w) 1 T.IL T.IM ["_law_script","_law_place"] (eY K 2 .s yw):=
 aK T.IP.F LI (RJ T) qZ [] .s yw (by decide) (by decide) rfl RI (by walk_at "len_of") Rr
theorem LO:aN ⟨["_law_cell_here","_law_many","_law_rest_here","_law_one","_law_two_here","_law_found","_law_k","_law_number_here"],(aa m6).names,[(5,.f)],[],[],["abs","range"],[],[]⟩ (bH []) .f mP (ah m6)=true:=by decide+kernel
theorem LP(T:Tx K mg):Tab P w K mg base [] [] ["abs","range"] [] [] (aO []) (bI []) 0:=by
 refine⟨fun j x e h=>?_,fun j g x e h=>?_,fun j x e=>?_,?_,aF K,fun j x C e h=>?_⟩
 ·match j,e with
  |_+0,e=>simp at e
 ·cases h
 ·match j,e with
  |_+0,e=>simp at e
 ·intro x h
  simp only[List.mem_cons,List.not_mem_nil,or_false]at h
  rcases h with rfl|rfl
  ·exact T.rQ
  ·exact T.eX
 ·match j,e with
  |_+0,e=>simp at e
theorem Di(T:Tx K mg):aL P w K mg base (cV P w) 1 T.CZ T.C3 ["_law_cell_here","_law_many"] (eY K 2 .f lJ):=
 aK T.vW.F Iz (LP T) mP [(5,.f)] .f lJ (by decide) (by decide) rfl LO (by walk_at "len_of") Lp
theorem LQ:aN ⟨["_law_one","_law_other"],(aa m7).names,[],[],[],["abs"],[],[]⟩ (bH []) .s mH (ah m7)=true:=by decide+kernel
theorem LR(T:Tx K mg):Tab P w K mg base [] [] ["abs"] [] [] (aO []) (bI []) 0:=by
 refine⟨fun j x e h=>?_,fun j g x e h=>?_,fun j x e=>?_,?_,aF K,fun j x C e h=>?_⟩
 ·match j,e with
  |_+0,e=>simp at e
 ·cases h
 ·match j,e with
  |_+0,e=>simp at e
 ·intro x h
  simp only[List.mem_cons,List.not_mem_nil,or_false]at h
  rcases h with rfl
  ·exact T.rQ
 ·match j,e with
  |_+0,e=>simp at e
theorem Dj(T:Tx K mg):aL P w K mg base (cV P w) 1 T.C4 T.C5 ["_law_one","_law_other"] (eY K 2 .s qN):=
 aK T.vX.F IA (LR T) mH [] .s qN (by decide) (by decide) rfl LQ (by walk_at "len_of") Ll
theorem Ja:aN ⟨["_law_top","_law_bottom","_law_share"],(aa jK).names,[],["_law_gcd"],[],[],[.s],[]⟩ (bH [.s]) .s jx (ah jK)=true:=by decide+kernel
theorem Jb(T:Tx K mg):Tab P w K mg base ["_law_gcd"] [] [] [.s] [] (aO [qN]) (bI []) 1:=by
 refine⟨fun j x e h=>?_,fun j g x e h=>?_,fun j x e=>?_,?_,aF K,fun j x C e h=>?_⟩
 ·match j,e with
  |0,e=>cases e;exact T.vX.dH (m:=.s) (Dj T) rfl (by walk_at "len_of") (by decide)
  |_+1,e=>simp at e
 ·cases h
 ·match j,e with
  |_+0,e=>simp at e
 ·intro x h;cases h
 ·match j,e with
  |_+0,e=>simp at e
theorem nM(T:Tx K mg):aL P w K mg base (cV P w) 2 T.yS T.yT ["_law_top","_law_bottom"] (eY K 2 .s dW):=
 aK T.jO.F EK (Jb T) jx [] .s dW (by decide) (by decide) rfl Ja (by walk_at "len_of") Hx
theorem Jc:aN ⟨["_law_x","_law_y","_law_z","_law_kind","_law_top","_law_bottom"],(aa jL).names,[],["_law_lowest"],[],[],[.s],[]⟩ (bH [.s]) .s jA (ah jL)=true:=by decide+kernel
theorem Jd(T:Tx K mg):Tab P w K mg base ["_law_lowest"] [] [] [.s] [] (aO [dW]) (bI []) 2:=by
 refine⟨fun j x e h=>?_,fun j g x e h=>?_,fun j x e=>?_,?_,aF K,fun j x C e h=>?_⟩
 ·match j,e with
  |0,e=>cases e;exact T.jO.dH (m:=.s) (nM T) rfl (by walk_at "len_of") (by decide)
  |_+1,e=>simp at e
 ·cases h
 ·match j,e with
  |_+0,e=>simp at e
 ·intro x h;cases h
 ·match j,e with
  |_+0,e=>simp at e
theorem Je(T:Tx K mg):aL P w K mg base (cV P w) 3 T.yU T.yV ["_law_x","_law_y","_law_z","_law_kind"] (eY K 4 .s mO):=
 aK T.yW.F EL (Jd T) jA [] .s mO (by decide) (by decide) rfl Jc (by walk_at "len_of") HE
theorem k_whole:aN ⟨["_law_found"],(aa m9).names,[],[],[],["isinstance","int","bool"],[],[]⟩ (bH []) .s mU (ah m9)=true:=by decide+kernel
theorem LS(T:Tx K mg):Tab P w K mg base [] [] ["isinstance","int","bool"] [] [] (aO []) (bI []) 0:=by
 refine⟨fun j x e h=>?_,fun j g x e h=>?_,fun j x e=>?_,?_,aF K,fun j x C e h=>?_⟩
 ·match j,e with
  |_+0,e=>simp at e
 ·cases h
 ·match j,e with
  |_+0,e=>simp at e
 ·intro x h
  simp only[List.mem_cons,List.not_mem_nil,or_false]at h
  rcases h with rfl|rfl|rfl
  ·exact T.bU
  ·exact T.y9
  ·exact T.rR
 ·match j,e with
  |_+0,e=>simp at e
theorem LU(T:Tx K mg):aL P w K mg base (cV P w) 1 T.C6 T.C7 ["_law_found"] (eY K 1 .s rj):=
 aK T.C8.F IB (LS T) mU [] .s rj (by decide) (by decide) rfl k_whole (by walk_at "len_of") LC
theorem tw:aN ⟨["_law_found"],(aa dj).names,[],["_law_whole","_law_gcd"],[],["isinstance","tuple","len"],[.s,.s],[]⟩ (bH [.s,.s]) .s c9 (ah dj)=true:=by decide+kernel
theorem tD(T:Tx K mg):Tab P w K mg base ["_law_whole","_law_gcd"] [] ["isinstance","tuple","len"] [.s,.s] [] (aO [rj,qN]) (bI []) 1:=by
 refine⟨fun j x e h=>?_,fun j g x e h=>?_,fun j x e=>?_,?_,aF K,fun j x C e h=>?_⟩
 ·match j,e with
  |0,e=>cases e;exact T.C8.dH (m:=.s) (LU T) rfl (by walk_at "len_of") (by decide)
  |1,e=>cases e;exact T.vX.dH (m:=.s) (Dj T) rfl (by walk_at "len_of") (by decide)
  |_+2,e=>simp at e
 ·cases h
 ·match j,e with
  |_+0,e=>simp at e
 ·intro x h
  simp only[List.mem_cons,List.not_mem_nil,or_false]at h
  rcases h with rfl|rfl|rfl
  ·exact T.bU
  ·exact T.j6
  ·exact T.fh
 ·match j,e with
  |_+0,e=>simp at e
theorem tE(T:Tx K mg):aL P w K mg base (cV P w) 2 T.kN T.kO ["_law_found"] (eY K 1 .s eK):=
 aK T.kP.F rH (tD T) c9 [] .s eK (by decide) (by decide) rfl tw (by walk_at "len_of") sL
theorem VG:aN ⟨["_law_cell_here","_law_most","_law_kind","_law_xs","_law_found","_law_k","_law_number_here"],(aa s_row).names,[(4,.f)],["_law_drawn","_law_number"],[],["range"],[.f,.s],[]⟩ (bH [.f,.s]) .f x9 (ah s_row)=true:=by decide+kernel
theorem VH(T:Tx K mg):Tab P w K mg base ["_law_drawn","_law_number"] [] ["range"] [.f,.s] [] (aO [lJ,mO]) (bI []) 3:=by
 refine⟨fun j x e h=>?_,fun j g x e h=>?_,fun j x e=>?_,?_,aF K,fun j x C e h=>?_⟩
 ·match j,e with
  |0,e=>cases e;exact T.vW.dH (m:=.f) (Di T) rfl (by walk_at "len_of") (by decide)
  |1,e=>cases e;exact T.yW.dH (m:=.s) (Je T) rfl (by walk_at "len_of") (by decide)
  |_+2,e=>simp at e
 ·cases h
 ·match j,e with
  |_+0,e=>simp at e
 ·intro x h
  simp only[List.mem_cons,List.not_mem_nil,or_false]at h
  rcases h with rfl
  ·exact T.eX
 ·match j,e with
  |_+0,e=>simp at e
theorem VI(T:Tx K mg):aL P w K mg base (cV P w) 4 T.Nb T.Nc ["_law_cell_here","_law_most","_law_kind"] (eY K 3 .f HF):=
 aK T.Nd.F Rv (VH T) x9 [(4,.f)] .f HF (by decide) (by decide) rfl VG (by walk_at "len_of") U7
theorem Jf:aN ⟨["_law_found"],(aa jM).names,[],["_law_is_fraction"],[],["isinstance","list","all"],[.s],[]⟩ (bH [.s]) .s jH (ah jM)=true:=by decide+kernel
theorem Jg(T:Tx K mg):Tab P w K mg base ["_law_is_fraction"] [] ["isinstance","list","all"] [.s] [] (aO [eK]) (bI []) 2:=by
 refine⟨fun j x e h=>?_,fun j g x e h=>?_,fun j x e=>?_,?_,aF K,fun j x C e h=>?_⟩
 ·match j,e with
  |0,e=>cases e;exact T.kP.dH (m:=.s) (tE T) rfl (by walk_at "len_of") (by decide)
  |_+1,e=>simp at e
 ·cases h
 ·match j,e with
  |_+0,e=>simp at e
 ·intro x h
  simp only[List.mem_cons,List.not_mem_nil,or_false]at h
  rcases h with rfl|rfl|rfl
  ·exact T.bU
  ·exact T.gh
  ·exact T.uz
 ·match j,e with
  |_+0,e=>simp at e
theorem Jh(T:Tx K mg):aL P w K mg base (cV P w) 3 T.yX T.yY ["_law_found"] (eY K 1 .s mV):=
 aK T.yZ.F EM (Jg T) jH [] .s mV (by decide) (by decide) rfl Jf (by walk_at "len_of") Iq
theorem VJ:aN ⟨["_law_one","_law_other"],(aa yH).names,[],["_law_lowest"],[],[],[.s],[]⟩ (bH [.s]) .s xZ (ah yH)=true:=by decide+kernel
theorem VM(T:Tx K mg):Tab P w K mg base ["_law_lowest"] [] [] [.s] [] (aO [dW]) (bI []) 2:=by
 refine⟨fun j x e h=>?_,fun j g x e h=>?_,fun j x e=>?_,?_,aF K,fun j x C e h=>?_⟩
 ·match j,e with
  |0,e=>cases e;exact T.jO.dH (m:=.s) (nM T) rfl (by walk_at "len_of") (by decide)
  |_+1,e=>simp at e
 ·cases h
 ·match j,e with
  |_+0,e=>simp at e
 ·intro x h;cases h
 ·match j,e with
  |_+0,e=>simp at e
theorem v_sum(T:Tx K mg):aL P w K mg base (cV P w) 3 T.Nf T.Ng ["_law_one","_law_other"] (eY K 2 .s (mJ HAdd.hAdd)):=
 aK T.IQ.F Rw (VM T) xZ [] .s (mJ HAdd.hAdd) (by decide) (by decide) rfl VJ (by walk_at "len_of") U3
theorem EV:aN ⟨["_law_one","_law_other"],(aa iP).names,[],["_law_lowest"],[],[],[.s],[]⟩ (bH [.s]) .s iG (ah iP)=true:=by decide+kernel
theorem EW(T:Tx K mg):Tab P w K mg base ["_law_lowest"] [] [] [.s] [] (aO [dW]) (bI []) 2:=by
 refine⟨fun j x e h=>?_,fun j g x e h=>?_,fun j x e=>?_,?_,aF K,fun j x C e h=>?_⟩
 ·match j,e with
  |0,e=>cases e;exact T.jO.dH (m:=.s) (nM T) rfl (by walk_at "len_of") (by decide)
  |_+1,e=>simp at e
 ·cases h
 ·match j,e with
  |_+0,e=>simp at e
 ·intro x h;cases h
 ·match j,e with
  |_+0,e=>simp at e
theorem uA(T:Tx K mg):aL P w K mg base (cV P w) 3 T.ux T.uy ["_law_one","_law_other"] (eY K 2 .s (mJ HMul.hMul)):=
 aK T.oE.F A7 (EW T) iG [] .s (mJ HMul.hMul) (by decide) (by decide) rfl EV (by walk_at "len_of") Ew
theorem VN:aN ⟨["_law_row_here","_law_found"],(aa yI).names,[(1,.f)],[],[],["list"],[],[]⟩ (bH []) .f x6 (ah yI)=true:=by decide+kernel
theorem VO(T:Tx K mg):Tab P w K mg base [] [] ["list"] [] [] (aO []) (bI []) 0:=by
 refine⟨fun j x e h=>?_,fun j g x e h=>?_,fun j x e=>?_,?_,aF K,fun j x C e h=>?_⟩
 ·match j,e with
  |_+0,e=>simp at e
 ·cases h
 ·match j,e with
  |_+0,e=>simp at e
 ·intro x h
  simp only[List.mem_cons,List.not_mem_nil,or_false]at h
  rcases h with rfl
  ·exact T.gh
 ·match j,e with
  |_+0,e=>simp at e
theorem v_cut(T:Tx K mg):aL P w K mg base (cV P w) 1 T.Nh T.Ni ["_law_row_here"] (eY K 1 .f AL):=
 aK T.IS.F Rx (VO T) x6 [(1,.f)] .f AL (by decide) (by decide) rfl VN (by walk_at "len_of") U4
theorem LV:aN ⟨["_law_one","_law_other","_law_sign","_law_found","_law_k","_law_left","_law_right_here"],(aa nc).names,[(3,.f)],["_law_sum","_law_cut"],[],["range","max","len"],[.s,.f],[]⟩ (bH [.s,.f]) .f mL (ah nc)=true:=by decide+kernel
theorem LW(T:Tx K mg):Tab P w K mg base ["_law_sum","_law_cut"] [] ["range","max","len"] [.s,.f] [] (aO [(mJ HAdd.hAdd),AL]) (bI []) 3:=by
 refine⟨fun j x e h=>?_,fun j g x e h=>?_,fun j x e=>?_,?_,aF K,fun j x C e h=>?_⟩
 ·match j,e with
  |0,e=>cases e;exact T.IQ.dH (m:=.s) (v_sum T) rfl (by walk_at "len_of") (by decide)
  |1,e=>cases e;exact T.IS.dH (m:=.f) (v_cut T) rfl (by walk_at "len_of") (by decide)
  |_+2,e=>simp at e
 ·cases h
 ·match j,e with
  |_+0,e=>simp at e
 ·intro x h
  simp only[List.mem_cons,List.not_mem_nil,or_false]at h
  rcases h with rfl|rfl|rfl
  ·exact T.eX
  ·exact T.oY
  ·exact T.fh
 ·match j,e with
  |_+0,e=>simp at e
theorem Dk(T:Tx K mg):aL P w K mg base (cV P w) 4 T.C9 T.Dc ["_law_one","_law_other","_law_sign"] (eY K 3 .f lI):=
 aK T.vY.F IC (LW T) mL [(3,.f)] .f lI (by decide) (by decide) rfl LV (by walk_at "len_of") Lo
theorem wD:aN ⟨["_law_one","_law_other","_law_found","_law_j","_law_k"],(aa eV).names,[(2,.f)],["_law_sum","_law_product","_law_cut"],[],["max","len","range"],[.s,.s,.f],[]⟩ (bH [.s,.s,.f]) .f dY (ah eV)=true:=by decide+kernel
theorem wF(T:Tx K mg):Tab P w K mg base ["_law_sum","_law_product","_law_cut"] [] ["max","len","range"] [.s,.s,.f] [] (aO [(mJ HAdd.hAdd),(mJ HMul.hMul),AL]) (bI []) 3:=by
 refine⟨fun j x e h=>?_,fun j g x e h=>?_,fun j x e=>?_,?_,aF K,fun j x C e h=>?_⟩
 ·match j,e with
  |0,e=>cases e;exact T.IQ.dH (m:=.s) (v_sum T) rfl (by walk_at "len_of") (by decide)
  |1,e=>cases e;exact T.oE.dH (m:=.s) (uA T) rfl (by walk_at "len_of") (by decide)
  |2,e=>cases e;exact T.IS.dH (m:=.f) (v_cut T) rfl (by walk_at "len_of") (by decide)
  |_+3,e=>simp at e
 ·cases h
 ·match j,e with
  |_+0,e=>simp at e
 ·intro x h
  simp only[List.mem_cons,List.not_mem_nil,or_false]at h
  rcases h with rfl|rfl|rfl
  ·exact T.oY
  ·exact T.fh
  ·exact T.eX
 ·match j,e with
  |_+0,e=>simp at e
theorem nN(T:Tx K mg):aL P w K mg base (cV P w) 4 T.nI T.nJ ["_law_one","_law_other"] (eY K 2 .f cL):=
 aK T.i8.F sQ (wF T) dY [(2,.f)] .f cL (by decide) (by decide) rfl wD (by walk_at "len_of") vD
theorem RM:aN ⟨["_law_one","_law_other","_law_rest_here","_law_share","_law_gap"],(aa rC).names,[],["_law_product","_law_lowest","_law_added"],[],["list","len"],[.s,.s,.f],[]⟩ (bH [.s,.s,.f]) .s rm (ah rC)=true:=by decide+kernel
theorem RN(T:Tx K mg):Tab P w K mg base ["_law_product","_law_lowest","_law_added"] [] ["list","len"] [.s,.s,.f] [] (aO [(mJ HMul.hMul),dW,lI]) (bI []) 4:=by
 refine⟨fun j x e h=>?_,fun j g x e h=>?_,fun j x e=>?_,?_,aF K,fun j x C e h=>?_⟩
 ·match j,e with
  |0,e=>cases e;exact T.oE.dH (m:=.s) (uA T) rfl (by walk_at "len_of") (by decide)
  |1,e=>cases e;exact T.jO.dH (m:=.s) (nM T) rfl (by walk_at "len_of") (by decide)
  |2,e=>cases e;exact T.vY.dH (m:=.f) (Dk T) rfl (by walk_at "len_of") (by decide)
  |_+3,e=>simp at e
 ·cases h
 ·match j,e with
  |_+0,e=>simp at e
 ·intro x h
  simp only[List.mem_cons,List.not_mem_nil,or_false]at h
  rcases h with rfl|rfl
  ·exact T.gh
  ·exact T.fh
 ·match j,e with
  |_+0,e=>simp at e
theorem RO(T:Tx K mg):aL P w K mg base (cV P w) 5 T.IT T.IU ["_law_one","_law_other"] (eY K 2 .s yx):=
 aK T.IV.F LJ (RN T) rm [] .s yx (by decide) (by decide) rfl RM (by walk_at "len_of") Rt
theorem VQ:aN ⟨["_law_script","_law_xs","_law_found","_law_third"],(aa yJ).names,[],["_law_drawn","_law_cell","_law_row","_law_multiplied"],[],[],[.f,.s,.f,.f],[]⟩ (bH [.f,.s,.f,.f]) .s yD (ah yJ)=true:=by decide+kernel
theorem VR(T:Tx K mg):Tab P w K mg base ["_law_drawn","_law_cell","_law_row","_law_multiplied"] [] [] [.f,.s,.f,.f] [] (aO [lJ,yw,HF,cL]) (bI []) 4:=by
 refine⟨fun j x e h=>?_,fun j g x e h=>?_,fun j x e=>?_,?_,aF K,fun j x C e h=>?_⟩
 ·match j,e with
  |0,e=>cases e;exact T.vW.dH (m:=.f) (Di T) rfl (by walk_at "len_of") (by decide)
  |1,e=>cases e;exact T.IP.dH (m:=.s) (RK T) rfl (by walk_at "len_of") (by decide)
  |2,e=>cases e;exact T.Nd.dH (m:=.f) (VI T) rfl (by walk_at "len_of") (by decide)
  |3,e=>cases e;exact T.i8.dH (m:=.f) (nN T) rfl (by walk_at "len_of") (by decide)
  |_+4,e=>simp at e
 ·cases h
 ·match j,e with
  |_+0,e=>simp at e
 ·intro x h;cases h
 ·match j,e with
  |_+0,e=>simp at e
theorem VU(T:Tx K mg):aL P w K mg base (cV P w) 5 T.f_two T.Nj ["_law_script"] (eY K 1 .s Ir):=
 aK T.Nk.F Ry (VR T) yD [] .s Ir (by decide) (by decide) rfl VQ (by walk_at "len_of") Vz
theorem LX:aN ⟨["_law_found","_law_one","_law_other"],(aa nh).names,[],["_law_is_row","_law_added","_law_multiplied","_law_rest"],[],["isinstance","tuple","len","all"],[.s,.f,.f,.s],[]⟩ (bH [.s,.f,.f,.s]) .s mY (ah nh)=true:=by decide+kernel
theorem LY(T:Tx K mg):Tab P w K mg base ["_law_is_row","_law_added","_law_multiplied","_law_rest"] [] ["isinstance","tuple","len","all"] [.s,.f,.f,.s] [] (aO [mV,lI,cL,yx]) (bI []) 5:=by
 refine⟨fun j x e h=>?_,fun j g x e h=>?_,fun j x e=>?_,?_,aF K,fun j x C e h=>?_⟩
 ·match j,e with
  |0,e=>cases e;exact T.yZ.dH (m:=.s) (Jh T) rfl (by walk_at "len_of") (by decide)
  |1,e=>cases e;exact T.vY.dH (m:=.f) (Dk T) rfl (by walk_at "len_of") (by decide)
  |2,e=>cases e;exact T.i8.dH (m:=.f) (nN T) rfl (by walk_at "len_of") (by decide)
  |3,e=>cases e;exact T.IV.dH (m:=.s) (RO T) rfl (by walk_at "len_of") (by decide)
  |_+4,e=>simp at e
 ·cases h
 ·match j,e with
  |_+0,e=>simp at e
 ·intro x h
  simp only[List.mem_cons,List.not_mem_nil,or_false]at h
  rcases h with rfl|rfl|rfl|rfl
  ·exact T.bU
  ·exact T.j6
  ·exact T.fh
  ·exact T.uz
 ·match j,e with
  |_+0,e=>simp at e
theorem LZ(T:Tx K mg):aL P w K mg base (cV P w) 6 T.Dd T.De ["_law_found","_law_one","_law_other"] (eY K 3 .s rq):=
 aK T.Dg.F ID (LY T) mY [] .s rq (by decide) (by decide) rfl LX (by walk_at "len_of") LF
theorem VV:aN ⟨["_law_script","_law_one","_law_other","_law_handed","_law_turn","_law_found","_law_held"],(aa yK).names,[(5,(.t [.f,.f,.f]))],["_law_two","greatest","_law_right"],[],["list","range"],[.s,(.t [.f,.f,.f]),.s],[]⟩ (bH [.s,(.t [.f,.f,.f]),.s]) .s mZ (ah yK)=true:=by decide+kernel
theorem VW(T:Tx K mg):Tab P w K mg base ["_law_two","greatest","_law_right"] [] ["list","range"] [.s,(.t [.f,.f,.f]),.s] [] (aO [Ir,fD,rq]) (bI []) 7:=by
 refine⟨fun j x e h=>?_,fun j g x e h=>?_,fun j x e=>?_,?_,aF K,fun j x C e h=>?_⟩
 ·match j,e with
  |0,e=>cases e;exact T.Nk.dH (m:=.s) (VU T) rfl (by walk_at "len_of") (by decide)
  |1,e=>cases e;exact T.gM.dH (m:=(.t [.f,.f,.f])) (Bh T) rfl (by walk_at "len_of") (by decide)
  |2,e=>cases e;exact T.Dg.dH (m:=.s) (LZ T) rfl (by walk_at "len_of") (by decide)
  |_+3,e=>simp at e
 ·cases h
 ·match j,e with
  |_+0,e=>simp at e
 ·intro x h
  simp only[List.mem_cons,List.not_mem_nil,or_false]at h
  rcases h with rfl|rfl
  ·exact T.gh
  ·exact T.eX
 ·match j,e with
  |_+0,e=>simp at e
theorem VX(T:Tx K mg):aL P w K mg base (cV P w) 8 T.Nl T.Nm ["_law_script"] (eY K 1 .s Lj):=
 aK T.VC.F Rz (VW T) mZ [(5,(.t [.f,.f,.f]))] .s Lj (by decide) (by decide) rfl VV (by walk_at "len_of") LG
end
theorem SG{K:PySem.W.Frag}{x:Str}{st:Stmt}{f:Addr}{od an:Option Addr}{sl:Array (Option Value)}{oc kV dc pm cd ct:Value}(a:PySem.W.nsIn K mainGlobals x=some (some (.ref f)))(l:K.lookup f=some ⟨oc,od,.func (PySem.W.fnOf x x (cP st) (ah st) (aa st) .none kV dc pm an cd ct),sl⟩)(c:PySem.W.codeIn K cd x=true)(k:PySem.W.keepIn K (.ref f)=true):Hd K x st:=⟨f,od,an,sl,oc,kV,dc,pm,cd,ct,a,l,c,k⟩
theorem SH{K:PySem.W.Frag}{C:Addr}{x q:Str}{st:Stmt}{f:Addr}{od an:Option Addr}{sl:Array (Option Value)}{oc kV dc pm cd ct:Value}(a:PySem.W.findIn K (.ref C) x=some (some (.ref f)))(i:PySem.W.isFn K (.ref f)=true)(l:K.lookup f=some ⟨oc,od,.func (PySem.W.fnOf x q (cP st) (ah st) (aa st) .none kV dc pm an cd ct),sl⟩)(c:PySem.W.codeIn K cd q=true)(k:PySem.W.keepIn K (.ref f)=true):Hm K C x q st:=⟨f,od,an,sl,oc,kV,dc,pm,cd,ct,a,i,l,c,k⟩
theorem pL{x q:Str}{st:Stmt}{p0:Str}(h:∀(kV doc pm:Value) (an:Option Addr) (cdv ct a0:Value),bindArgs (PySem.W.fnOf x q (cP st) (ah st) (aa st) .none kV doc pm an cdv ct) ⟨[a0],[]⟩=pure ([p0].zip [a0])):jY x q st [p0]:=fun kV doc pm an cdv ct us hl=>match us,hl with|[a0],_=>h kV doc pm an cdv ct a0
theorem gS{x q:Str}{st:Stmt}{p0 p1:Str}(h:∀(kV doc pm:Value) (an:Option Addr) (cdv ct a0 a1:Value),bindArgs (PySem.W.fnOf x q (cP st) (ah st) (aa st) .none kV doc pm an cdv ct) ⟨[a0,a1],[]⟩=pure ([p0,p1].zip [a0,a1])):jY x q st [p0,p1]:=fun kV doc pm an cdv ct us hl=>match us,hl with|[a0,a1],_=>h kV doc pm an cdv ct a0 a1
theorem Ji{x q:Str}{st:Stmt}{p0 p1 p2:Str}(h:∀(kV doc pm:Value) (an:Option Addr) (cdv ct a0 a1 a2:Value),bindArgs (PySem.W.fnOf x q (cP st) (ah st) (aa st) .none kV doc pm an cdv ct) ⟨[a0,a1,a2],[]⟩=pure ([p0,p1,p2].zip [a0,a1,a2])):jY x q st [p0,p1,p2]:=fun kV doc pm an cdv ct us hl=>match us,hl with|[a0,a1,a2],_=>h kV doc pm an cdv ct a0 a1 a2
theorem VY{x q:Str}{st:Stmt}{p0 p1 p2 p3:Str}(h:∀(kV doc pm:Value) (an:Option Addr) (cdv ct a0 a1 a2 a3:Value),bindArgs (PySem.W.fnOf x q (cP st) (ah st) (aa st) .none kV doc pm an cdv ct) ⟨[a0,a1,a2,a3],[]⟩=pure ([p0,p1,p2,p3].zip [a0,a1,a2,a3])):jY x q st [p0,p1,p2,p3]:=fun kV doc pm an cdv ct us hl=>match us,hl with|[a0,a1,a2,a3],_=>h kV doc pm an cdv ct a0 a1 a2 a3
theorem all_mk{l:PySem.W.OpenLaw}{w:World}{K:PySem.W.Frag}{h:Heap}{mg:Str->Option Value}{fa:Addr}(X:K.In h)(G:h.Ns mainGlobals mg)(hfa:mg "law"=some (.ref fa))
 {ak:Addr} (rV:PySem.W.nsIn K mainGlobals "Chain"=some (some (.ref ak))) (rW:PySem.W.plainGet K ak Str.empty=true) (rX:PySem.W.hasDictIn K ak=true) (rY:PySem.W.plainOver K ak=true) (rZ:PySem.W.findIn K (.ref ak) "__setattr__"=some (some (.builtin "object.__setattr__"))) (r6:PySem.W.makesIn K ak=true) (r8:PySem.W.keepIn K (.ref ak)=true)
 (ie:PySem.W.findIn K (.ref ak) "ahead"=some none)
 (i9:PySem.W.findIn K (.ref ak) "last"=some none)
 (cO:PySem.W.findIn K (.ref ak) "factor_ahead"=some none)
 (cW:PySem.W.findIn K (.ref ak) "factor_last"=some none)
 (ja:PySem.W.findIn K (.ref ak) "lead"=some none)
 (gO:PySem.W.findIn K (.ref ak) "height"=some none)
 (jb:PySem.W.findIn K (.ref ak) "sign"=some none)
 (ig:PySem.W.findIn K (.ref ak) "scale"=some none)
 (ir:PySem.W.findIn K (.ref ak) "known"=some none)
 (a0:Hd K "gcd" yF)
 (a1:Hd K "turn" Iv)
 (a2:Hd K "turned" yG)
 (a3:Hd K "raised" jI)
 (a4:Hd K "fraction" gJ)
 (a5:Hd K "times" m5)
 (a6:Hd K "over" rA)
 (a7:Hd K "cleared" iN)
 (a8:Hd K "row_over" gK)
 (a9:Hd K "trimmed" iO)
 (Yo:Hd K "scaled" jJ)
 (Yp:Hd K "whole_plus" eN)
 (Yq:Hd K "whole_minus" dg)
 (Yr:Hd K "whole_times" dh)
 (Ys:Hd K "whole_divided" cC)
 (Yt:Hd K "whole_over" eO)
 (Yu:Hd K "shortened" fV)
 (Yv:Hm K ak "__init__" "Chain.__init__" g9)
 (Yw:Hm K ak "walk" "Chain.walk" eS)
 (Yx:Hm K ak "step" "Chain.step" eU)
 (Yy:Hd K "next_height" di)
 (Yz:Hd K "greatest" dI)
 (YA:Hd K "primitive" fW)
 (YB:Hd K "_law_cell" rB)
 (YC:Hd K "_law_drawn" m6)
 (YD:Hd K "_law_gcd" m7)
 (YE:Hd K "_law_lowest" jK)
 (YF:Hd K "_law_number" jL)
 (YG:Hd K "_law_whole" m9)
 (YH:Hd K "_law_is_fraction" dj)
 (YI:Hd K "_law_row" s_row)
 (YJ:Hd K "_law_is_row" jM)
 (a32:Hd K "_law_sum" yH)
 (YK:Hd K "_law_product" iP)
 (YL:Hd K "_law_cut" yI)
 (YM:Hd K "_law_added" nc)
 (YN:Hd K "_law_multiplied" eV)
 (YO:Hd K "_law_rest" rC)
 (YQ:Hd K "_law_two" yJ)
 (YR:Hd K "_law_right" nh)
 (YS:Hd K "law" yK)
 (rQ:PySem.W.nsIn K mainGlobals "abs"=some none)
 (uz:PySem.W.nsIn K mainGlobals "all"=some none)
 (rR:PySem.W.nsIn K mainGlobals "bool"=some none)
 (dJ:PySem.W.nsIn K mainGlobals "enumerate"=some none)
 (y9:PySem.W.nsIn K mainGlobals "int"=some none)
 (bU:PySem.W.nsIn K mainGlobals "isinstance"=some none)
 (fh:PySem.W.nsIn K mainGlobals "len"=some none)
 (gh:PySem.W.nsIn K mainGlobals "list"=some none)
 (oY:PySem.W.nsIn K mainGlobals "max"=some none)
 (eX:PySem.W.nsIn K mainGlobals "range"=some none)
 (zd:PySem.W.nsIn K mainGlobals "sum"=some none)
 (j6:PySem.W.nsIn K mainGlobals "tuple"=some none)
 {RP:Tok} (Bj:PySem.W.nsIn K mainGlobals "LONG"=some (some (.int 6000 RP)))
 {aE:Addr} (lM:PySem.W.nsIn K mainGlobals "NoNumber"=some (some (.ref aE))) (jP:PySem.W.excIn K aE Y8 "ValueError.__new__"=true) (jQ:PySem.W.findIn K (.ref aE) "__getattribute__"=some (some (.builtin "BaseException.__getattribute__"))) (jR:PySem.W.findIn K (.ref aE) "__getattr__"=some none) (jS:PySem.W.findIn K (.ref aE) "__class__"=some (some (.builtin "object.__class__"))) (jT:PySem.W.mroIn K aE (.type "object")=some true) (jU:PySem.W.mroIn K aE (.type "BaseException")=some true)
 :∃fd:FuncData,(∀(s:Shared) (v:Value),BindsTo s fd ⟨[v],[]⟩ [("_law_script",v)])/\∀base:Heap,K.In base->base.Ns mainGlobals mg->aL l.prog w K mg base TJ 8 fa fd ["_law_script"] (Cb K):=by
 have L0:Ah K ak ["ahead","last","factor_ahead","factor_last","lead","height","sign","scale","known"]:=⟨⟨rW,rX,rY,rZ⟩,by decide,by decide+kernel,fun x hx=>by
  simp only[List.mem_cons,List.not_mem_nil,or_false]at hx
  rcases hx with rfl|rfl|rfl|rfl|rfl|rfl|rfl|rfl|rfl
  ·exact ie
  ·exact i9
  ·exact cO
  ·exact cW
  ·exact ja
  ·exact gO
  ·exact jb
  ·exact ig
  ·exact ir⟩
 obtain⟨f0,d0,D0⟩:=aX (ps:=["one","other"]) X G a0 (gS fun _ _ _ _ _ _ _ _=>rfl)
 obtain⟨f1,d1,D1⟩:=aX (ps:=["one","other"]) X G a1 (gS fun _ _ _ _ _ _ _ _=>rfl)
 obtain⟨f2,d2,D2⟩:=aX (ps:=["by","one","other"]) X G a2 (Ji fun _ _ _ _ _ _ _ _ _=>rfl)
 obtain⟨f3,d3,D3⟩:=aX (ps:=["number","exponent"]) X G a3 (gS fun _ _ _ _ _ _ _ _=>rfl)
 obtain⟨f4,d4,D4⟩:=aX (ps:=["top","bottom"]) X G a4 (gS fun _ _ _ _ _ _ _ _=>rfl)
 obtain⟨f5,d5,D5⟩:=aX (ps:=["one","other"]) X G a5 (gS fun _ _ _ _ _ _ _ _=>rfl)
 obtain⟨f6,d6,D6⟩:=aX (ps:=["one","other"]) X G a6 (gS fun _ _ _ _ _ _ _ _=>rfl)
 obtain⟨f7,d7,D7⟩:=aX (ps:=["row"]) X G a7 (pL fun _ _ _ _ _ _ _=>rfl)
 obtain⟨f8,d8,D8⟩:=aX (ps:=["numbers","bottom"]) X G a8 (gS fun _ _ _ _ _ _ _ _=>rfl)
 obtain⟨f9,d9,D9⟩:=aX (ps:=["numbers"]) X G a9 (pL fun _ _ _ _ _ _ _=>rfl)
 obtain⟨f10,d10,D10⟩:=aX (ps:=["numbers","by"]) X G Yo (gS fun _ _ _ _ _ _ _ _=>rfl)
 obtain⟨f11,d11,D11⟩:=aX (ps:=["one","other"]) X G Yp (gS fun _ _ _ _ _ _ _ _=>rfl)
 obtain⟨f12,d12,D12⟩:=aX (ps:=["one","other"]) X G Yq (gS fun _ _ _ _ _ _ _ _=>rfl)
 obtain⟨f13,d13,D13⟩:=aX (ps:=["one","other"]) X G Yr (gS fun _ _ _ _ _ _ _ _=>rfl)
 obtain⟨f14,d14,D14⟩:=aX (ps:=["one","other"]) X G Ys (gS fun _ _ _ _ _ _ _ _=>rfl)
 obtain⟨f15,d15,D15⟩:=aX (ps:=["one","other"]) X G Yt (gS fun _ _ _ _ _ _ _ _=>rfl)
 obtain⟨f16,d16,D16⟩:=aX (ps:=["numbers"]) X G Yu (pL fun _ _ _ _ _ _ _=>rfl)
 obtain⟨f17,d17,D17⟩:=Hl (ps:=["self","one","other","factor"]) Yv (VY fun _ _ _ _ _ _ _ _ _ _=>rfl)
 obtain⟨f18,d18,D18⟩:=Hl (ps:=["self"]) Yw (pL fun _ _ _ _ _ _ _=>rfl)
 obtain⟨f19,d19,D19⟩:=Hl (ps:=["self"]) Yx (pL fun _ _ _ _ _ _ _=>rfl)
 obtain⟨f20,d20,D20⟩:=aX (ps:=["height","lead","drop"]) X G Yy (Ji fun _ _ _ _ _ _ _ _ _=>rfl)
 obtain⟨f21,d21,D21⟩:=aX (ps:=["one","other"]) X G Yz (gS fun _ _ _ _ _ _ _ _=>rfl)
 obtain⟨f22,d22,D22⟩:=aX (ps:=["row"]) X G YA (pL fun _ _ _ _ _ _ _=>rfl)
 obtain⟨f23,d23,D23⟩:=aX (ps:=["_law_script","_law_place"]) X G YB (gS fun _ _ _ _ _ _ _ _=>rfl)
 obtain⟨f24,d24,D24⟩:=aX (ps:=["_law_cell_here","_law_many"]) X G YC (gS fun _ _ _ _ _ _ _ _=>rfl)
 obtain⟨f25,d25,D25⟩:=aX (ps:=["_law_one","_law_other"]) X G YD (gS fun _ _ _ _ _ _ _ _=>rfl)
 obtain⟨f26,d26,D26⟩:=aX (ps:=["_law_top","_law_bottom"]) X G YE (gS fun _ _ _ _ _ _ _ _=>rfl)
 obtain⟨f27,d27,D27⟩:=aX (ps:=["_law_x","_law_y","_law_z","_law_kind"]) X G YF (VY fun _ _ _ _ _ _ _ _ _ _=>rfl)
 obtain⟨f28,d28,D28⟩:=aX (ps:=["_law_found"]) X G YG (pL fun _ _ _ _ _ _ _=>rfl)
 obtain⟨f29,d29,D29⟩:=aX (ps:=["_law_found"]) X G YH (pL fun _ _ _ _ _ _ _=>rfl)
 obtain⟨f30,d30,D30⟩:=aX (ps:=["_law_cell_here","_law_most","_law_kind"]) X G YI (Ji fun _ _ _ _ _ _ _ _ _=>rfl)
 obtain⟨f31,d31,D31⟩:=aX (ps:=["_law_found"]) X G YJ (pL fun _ _ _ _ _ _ _=>rfl)
 obtain⟨f32,d32,D32⟩:=aX (ps:=["_law_one","_law_other"]) X G a32 (gS fun _ _ _ _ _ _ _ _=>rfl)
 obtain⟨f33,d33,D33⟩:=aX (ps:=["_law_one","_law_other"]) X G YK (gS fun _ _ _ _ _ _ _ _=>rfl)
 obtain⟨f34,d34,D34⟩:=aX (ps:=["_law_row_here"]) X G YL (pL fun _ _ _ _ _ _ _=>rfl)
 obtain⟨f35,d35,D35⟩:=aX (ps:=["_law_one","_law_other","_law_sign"]) X G YM (Ji fun _ _ _ _ _ _ _ _ _=>rfl)
 obtain⟨f36,d36,D36⟩:=aX (ps:=["_law_one","_law_other"]) X G YN (gS fun _ _ _ _ _ _ _ _=>rfl)
 obtain⟨f37,d37,D37⟩:=aX (ps:=["_law_one","_law_other"]) X G YO (gS fun _ _ _ _ _ _ _ _=>rfl)
 obtain⟨f38,d38,D38⟩:=aX (ps:=["_law_script"]) X G YQ (pL fun _ _ _ _ _ _ _=>rfl)
 obtain⟨f39,d39,D39⟩:=aX (ps:=["_law_found","_law_one","_law_other"]) X G YR (Ji fun _ _ _ _ _ _ _ _ _=>rfl)
 obtain⟨f40,Z9,YT⟩:=aX (ps:=["_law_script"]) X G YS (pL fun _ _ _ _ _ _ _=>rfl)
 have e:=hfa.symm.trans YT.m
 cases e
 let T:Tx K mg:=⟨ak,⟨PySem.W.mg_of X G rV,L0,r6,r8⟩,f0,d0,D0,f1,d1,D1,f2,d2,D2,f3,d3,D3,f4,d4,D4,f5,d5,D5,f6,d6,D6,f7,d7,D7,f8,d8,D8,f9,d9,D9,f10,d10,D10,f11,d11,D11,f12,d12,D12,f13,d13,D13,f14,d14,D14,f15,d15,D15,f16,d16,D16,f17,d17,D17,f18,d18,D18,f19,d19,D19,f20,d20,D20,f21,d21,D21,f22,d22,D22,f23,d23,D23,f24,d24,D24,f25,d25,D25,f26,d26,D26,f27,d27,D27,f28,d28,D28,f29,d29,D29,f30,d30,D30,f31,d31,D31,f32,d32,D32,f33,d33,D33,f34,d34,D34,f35,d35,D35,f36,d36,D36,f37,d37,D37,f38,d38,D38,f39,d39,D39,fa,Z9,YT,PySem.W.mg_none_of X G rQ,PySem.W.mg_none_of X G uz,PySem.W.mg_none_of X G rR,PySem.W.mg_none_of X G dJ,PySem.W.mg_none_of X G y9,PySem.W.mg_none_of X G bU,PySem.W.mg_none_of X G fh,PySem.W.mg_none_of X G gh,PySem.W.mg_none_of X G oY,PySem.W.mg_none_of X G eX,PySem.W.mg_none_of X G zd,PySem.W.mg_none_of X G j6,⟨_,PySem.W.mg_of X G Bj,_,rfl⟩,aE,PySem.W.mg_of X G lM,⟨jP,jQ,jR,jS,jT,jU⟩⟩
 exact⟨Z9,fun s v=>YT.bt s [v] rfl,fun base _ _=>Q4 (VX T)⟩
end VZ
namespace PySem.W.Fast
def tw10003240682048764172:=0
def tw10011206581055006227:=0
def tw10092202707064567625:=0
def tw10101486266146366281:=0
def tw10208534551573803231:=0
def tw10213613057382118443:=0
def tw10326194822071450266:=0
def tw10411186801392729959:=0
def tw10510794111521678889:=0
def tw1058256640769071787:=0
def tw10605721602024075355:=0
def tw10726059336259750001:=0
def tw10752771207852262333:=0
def tw10756337036960669778:=0
def tw10780010521500055527:=0
def tw10815740396046982224:=0
def tw10883048056619877931:=0
def tw1089869022962842396:=0
def tw10927233998858670109:=0
def tw11009302142383707401:=0
def tw11147288229189713430:=0
def tw11224093750235261973:=0
def tw11403064685104127876:=0
def tw11470996666400149529:=0
def tw11586063368066543588:=0
def tw11606351670174993574:=0
def tw11738700119657904856:=0
def tw11786355811540344182:=0
def tw11798152430046713385:=0
def tw11943502957678673944:=0
def tw11951145647972444755:=0
def tw11953252971856811111:=0
def tw12077966975283849348:=0
def tw12104424755457122640:=0
def tw12111717319618270108:=0
def tw12146610999743448504:=0
def tw12309449190879229692:=0
def tw12316894281635333071:=0
def tw12355566796553988226:=0
def tw12402059476485337716:=0
def tw12434556074284825598:=0
def tw12441307092923618445:=0
def tw12461456453581792961:=0
def tw12477783791697894805:=0
def tw1254690341344227504:=0
def tw12623014391264419160:=0
def tw12671875465206968266:=0
def tw12687012235924096329:=0
def tw12705687081591539019:=0
def tw12736944069617245507:=0
def tw12769485679195362118:=0
def tw12820102193467406466:=0
def tw12935492272707257482:=0
def tw13023962134783515407:=0
def tw13049068961573598786:=0
def tw13050330049214209371:=0
def tw13079111907136739060:=0
def tw13079889779072403211:=0
def tw13112484093247104290:=0
def tw13363934039902167106:=0
def tw13375783051490497300:=0
def tw1338360569474113690:=0
def tw13469008549111534347:=0
def tw13557542789666703946:=0
def tw13561829245848489984:=0
def tw13639859454937246710:=0
def tw13679593883790661690:=0
def tw13706262694891341148:=0
def tw1384040952775588359:=0
def tw13859960421934701818:=0
def tw13893258889585572631:=0
def tw13936175800271996817:=0
def tw13959360156838095595:=0
def tw13962008261468520171:=0
def tw13994506470010558092:=0
def tw14016470298981693753:=0
def tw14064203152879067705:=0
def tw14167563049310160392:=0
def tw14190024709207707173:=0
def tw14213039300302565549:=0
def tw14220206919276622583:=0
def tw14348624521333101905:=0
def tw14429492715444299630:=0
def tw14516127765742804501:=0
def tw14572623683535624654:=0
def tw14614320328818694914:=0
def tw1471647004577413804:=0
def tw14753716305448854411:=0
def tw14839192429181859546:=0
def tw14848479643068670491:=0
def tw1488785400304219954:=0
def tw14898822658948459433:=0
def tw14958187855657941823:=0
def tw15034171875838707566:=0
def tw15059094141723653506:=0
def tw15256105413226155581:=0
def tw15443655338102931004:=0
def tw1547582572193716022:=0
def tw15514108020924223679:=0
def tw1555910838887480205:=0
def tw15630051371406038263:=0
def tw15780554444593988307:=0
def tw15791936737197720504:=0
def tw15807461151584939900:=0
def tw15827557685038192767:=0
def tw15891494949838634048:=0
def tw15936016846885966037:=0
def tw15989061090975416824:=0
def tw1599418954870075752:=0
def tw16015273347189175439:=0
def tw16024236371352848183:=0
def tw16122800521057538349:=0
def tw16177051777595912514:=0
def tw16183306336063112080:=0
def tw16228945819399699291:=0
def tw16310831127872385259:=0
def tw16360701657231484995:=0
def tw16388202849567927644:=0
def tw16396362988386381554:=0
def tw16416399745085549757:=0
def tw1643178506970751398:=0
def tw16438484956587190224:=0
def tw16444214405611052746:=0
def tw16535078868281109205:=0
def tw16571466931354911685:=0
def tw16633700921468542866:=0
def tw16640807557720917596:=0
def tw16714884542730251191:=0
def tw16756096937926330356:=0
def tw16922572310510675395:=0
def tw16941282686407149943:=0
def tw16978513439577889266:=0
def tw17054956875654871349:=0
def tw17089884633647965365:=0
def tw17108034917591673170:=0
def tw1717445995799630330:=0
def tw17263018004147423977:=0
def tw17279750705878622013:=0
def tw17295222686296935474:=0
def tw17301368126134830489:=0
def tw1736587490425459389:=0
def tw17413189517710333675:=0
def tw17415237836146069491:=0
def tw17470898885972779210:=0
def tw17483638172125109973:=0
def tw1749299045608201041:=0
def tw17506608019443355702:=0
def tw17530318667451576099:=0
def tw17530407531707929842:=0
def tw17538669797721575727:=0
def tw17561250615567971678:=0
def tw17867182728494539261:=0
def tw1789062473978052337:=0
def tw1789268940558782509:=0
def tw179111266864683374:=0
def tw18012793861138514025:=0
def tw1802397057910615352:=0
def tw18065615002455471773:=0
def tw18082500024757933437:=0
def tw18118033496316002713:=0
def tw18168469438474482846:=0
def tw18177571975799116345:=0
def tw18237643818430114413:=0
def tw18251186882883358221:=0
def tw18423001270542087810:=0
def tw1865609766920671464:=0
def tw1902144200416365249:=0
def tw1957359778645339918:=0
def tw2011667232720447350:=0
def tw2058969068263185688:=0
def tw2100927834700349705:=0
def tw2121730572110016535:=0
def tw2277391585774766195:=0
def tw2318993669123490832:=0
def tw2340153941182431046:=0
def tw2363643749813388191:=0
def tw2473803976601562539:=0
def tw2565925615295243275:=0
def tw2663232525256953670:=0
def tw2813988582550556617:=0
def tw2881217768729312363:=0
def tw2890720500767587680:=0
def tw2890916880392203157:=0
def tw2987422586544004378:=0
def tw3079279643396157704:=0
def tw3120579844003244979:=0
def tw3159455581883761720:=0
def tw3262678908309645847:=0
def tw3347953363689486524:=0
def tw3450024025855560476:=0
def tw3571625888915439022:=0
def tw3584460046640152829:=0
def tw3611400145593771502:=0
def tw3636374351352981606:=0
def tw365878043342005585:=0
def tw3701528750494033577:=0
def tw3724355437915262278:=0
def tw3772903889058427007:=0
def tw3813424808542784742:=0
def tw3818498093550284199:=0
def tw3864925131683497022:=0
def tw3888964290520707063:=0
def tw390848303094821638:=0
def tw3925864769687915448:=0
def tw3944510959378269498:=0
def tw4006633389404179726:=0
def tw4124093833860142769:=0
def tw4153755986493474167:=0
def tw4224337504759811671:=0
def tw4252358609590633942:=0
def tw4269429042832569232:=0
def tw4269769520329015412:=0
def tw4288825635491566968:=0
def tw4303676858288315892:=0
def tw4520850699770508215:=0
def tw4544616410599244751:=0
def tw4572737888626184778:=0
def tw4630362261198691003:=0
def tw4639559986085285269:=0
def tw4656951788523739895:=0
def tw471876599657338591:=0
def tw4722083731189114127:=0
def tw4732940231897036980:=0
def tw4736107031550263888:=0
def tw4882358070100882733:=0
def tw4967863000704964983:=0
def tw4986758587172855684:=0
def tw5033871760923186250:=0
def tw5253808519809541617:=0
def tw5271862504797273708:=0
def tw5277398118483304153:=0
def tw532579424100008629:=0
def tw5341875178541654966:=0
def tw5505575013677741350:=0
def tw5720314562845231802:=0
def tw5745371185437301010:=0
def tw5794215168471721946:=0
def tw5925582103731557194:=0
def tw5956639826419950890:=0
def tw5969423557727867284:=0
def tw6011698008462847781:=0
def tw6076560947937551713:=0
def tw6102590784036603361:=0
def tw6212720278503271472:=0
def tw6275268414578515039:=0
def tw629841865142594301:=0
def tw6383382278699476839:=0
def tw6490420521514165922:=0
def tw6609575302181052449:=0
def tw6612288141210710946:=0
def tw664917566296976466:=0
def tw6660739648260581934:=0
def tw6713120908651878924:=0
def tw6738669194662031781:=0
def tw6787026740467607942:=0
def tw6794572186070047402:=0
def tw6820183759212407634:=0
def tw6891981051733337013:=0
def tw7008990667295334185:=0
def tw7131658727746825840:=0
def tw7173721791894836798:=0
def tw7196317239061566330:=0
def tw7216175502363617532:=0
def tw7238989672760018658:=0
def tw7304783863856463038:=0
def tw7369686205292002669:=0
def tw7380158987385680624:=0
def tw7382421257241411613:=0
def tw7518929228512987040:=0
def tw75333533666164620:=0
def tw7549981993533825962:=0
def tw755768130147783011:=0
def tw7580066367356294030:=0
def tw7597139157450889592:=0
def tw7612031928016305154:=0
def tw7711911410692181965:=0
def tw7724139853636977412:=0
def tw7792602511320877814:=0
def tw7799442195283027514:=0
def tw7889198113136048651:=0
def tw7948391973746183595:=0
def tw8012637455560224600:=0
def tw8086848869475706829:=0
def tw8116875311261332468:=0
def tw8130670843473061245:=0
def tw8163953161998030851:=0
def tw8173040949225704535:=0
def tw8236955638681194475:=0
def tw8268082902590711658:=0
def tw8324920546026733853:=0
def tw8416990047383098270:=0
def tw8433356332678877438:=0
def tw8502293684046471040:=0
def tw8511955826712182635:=0
def tw8534413751456028941:=0
def tw8632954114336155843:=0
def tw8681252207986516649:=0
def tw8734616142051420415:=0
def tw8777952835290653570:=0
def tw8791613321163969971:=0
def tw8794680981454852170:=0
def tw8851996662576167602:=0
def tw885708024896039546:=0
def tw8931472890846905920:=0
def tw8936952830998540451:=0
def tw8942414184292368498:=0
def tw9032799038371231627:=0
def tw9052107416515757750:=0
def tw9158849227825282675:=0
def tw9177583664258859882:=0
def tw9218990227154026099:=0
def tw9226699198764801554:=0
def tw9483933531862390670:=0
def tw9544926438930356311:=0
def tw969562543126612763:=0
def tw9699675223449409694:=0
def tw9746084696355429027:=0
def tw9755580156837092477:=0
def tw9836253418749883363:=0
def tw9859483081015478488:=0
def tw9943498347971424666:=0
end PySem.W.Fast
open PySem PySem.W PyProof.Rows
set_option maxRecDepth 100000 in
set_option maxHeartbeats 0 in
theorem PySem.Challenge.cw_paperwright_k10_greatest_divisors_holds : PySem.Challenge.rw_paperwright_k10_greatest_divisors.Holds := by
 w_on;o_law;k_head;(case hw=>w_witness2)
 k_fill
 refine VL.walk (l:=PySem.Challenge.rw_paperwright_k10_greatest_divisors) (k:=8) rfl rfl ⟨rfl,by decide,by decide⟩ (fun w h Y=>PySem.W.kIn_of Y) ?F
 case F=>
  intro w mg fa h KX G hmg
  refine' VZ.all_mk KX G hmg ?rV ?rW ?rX ?rY ?rZ ?r6 ?r8 ?ie ?i9 ?cO ?cW ?ja ?gO ?jb ?ig ?ir ?a0 ?a1 ?a2 ?a3 ?a4 ?a5 ?a6 ?a7 ?a8 ?a9 ?Yo ?Yp ?Yq ?Yr ?Ys ?Yt ?Yu ?Yv ?Yw ?Yx ?Yy ?Yz ?YA ?YB ?YC ?YD ?YE ?YF ?YG ?YH ?YI ?YJ ?a32 ?YK ?YL ?YM ?YN ?YO ?YQ ?YR ?YS ?rQ ?uz ?rR ?dJ ?y9 ?bU ?fh ?gh ?oY ?eX ?zd ?j6 ?Bj ?lM ?jP ?jQ ?jR ?jS ?jT ?jU
  (case rV=>k_is)
  (case rW=>k_is)
  (case rX=>k_is)
  (case rY=>k_is)
  (case rZ=>k_is)
  (case r6=>k_is)
  (case r8=>k_is)
  (case ie=>k_is)
  (case i9=>k_is)
  (case cO=>k_is)
  (case cW=>k_is)
  (case ja=>k_is)
  (case gO=>k_is)
  (case jb=>k_is)
  (case ig=>k_is)
  (case ir=>k_is)
  (case a0=>walk_at "hd")
  (case a1=>walk_at "hd")
  (case a2=>walk_at "hd")
  (case a3=>walk_at "hd")
  (case a4=>walk_at "hd")
  (case a5=>walk_at "hd")
  (case a6=>walk_at "hd")
  (case a7=>walk_at "hd")
  (case a8=>walk_at "hd")
  (case a9=>walk_at "hd")
  (case Yo=>walk_at "hd")
  (case Yp=>walk_at "hd")
  (case Yq=>walk_at "hd")
  (case Yr=>walk_at "hd")
  (case Ys=>walk_at "hd")
  (case Yt=>walk_at "hd")
  (case Yu=>walk_at "hd")
  (case Yv=>walk_at "hm")
  (case Yw=>walk_at "hm")
  (case Yx=>walk_at "hm")
  (case Yy=>walk_at "hd")
  (case Yz=>walk_at "hd")
  (case YA=>walk_at "hd")
  (case YB=>walk_at "hd")
  (case YC=>walk_at "hd")
  (case YD=>walk_at "hd")
  (case YE=>walk_at "hd")
  (case YF=>walk_at "hd")
  (case YG=>walk_at "hd")
  (case YH=>walk_at "hd")
  (case YI=>walk_at "hd")
  (case YJ=>walk_at "hd")
  (case a32=>walk_at "hd")
  (case YK=>walk_at "hd")
  (case YL=>walk_at "hd")
  (case YM=>walk_at "hd")
  (case YN=>walk_at "hd")
  (case YO=>walk_at "hd")
  (case YQ=>walk_at "hd")
  (case YR=>walk_at "hd")
  (case YS=>walk_at "hd")
  (case rQ=>k_is)
  (case uz=>k_is)
  (case rR=>k_is)
  (case dJ=>k_is)
  (case y9=>k_is)
  (case bU=>k_is)
  (case fh=>k_is)
  (case gh=>k_is)
  (case oY=>k_is)
  (case eX=>k_is)
  (case zd=>k_is)
  (case j6=>k_is)
  (case Bj=>k_is)
  (case lM=>k_is)
  (case jP=>k_exc)
  (case jQ=>k_is)
  (case jR=>k_is)
  (case jS=>k_is)
  (case jT=>k_is)
  (case jU=>k_is)
